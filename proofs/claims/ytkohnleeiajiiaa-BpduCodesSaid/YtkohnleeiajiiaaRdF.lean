/- (PDU).readFields, walked. -/
import Derived.Test.YtkohnleeiajiiaaSetF
import Derived.Test.YtkohnleeiajiiaaRdr
namespace Go.Proofs.Ytkohnleeiajiiaa
open Go.RowKit Go.Maps
set_option linter.unusedSimpArgs false

set_option maxHeartbeats 400000 in
theorem readWord_any (g : Nat) (rest : ByteArray) (sh : Bool) (w : World) (h : Rd w g rest sh) :
    Calls Try.prog 47 #[.pointer (some ⟨g, 0, none⟩)] w fun e w' => e = .returned (.int .u16 (nV rest sh 2 : Nat)) ∧ Rd w' g (nR rest sh 2) (nS rest sh 2) ∧ w.grownBy w' (some g) := by
  have hl := nV_lt rest sh 2
  generalize hx : nV rest sh 2 = x at *
  have X := Lib.hid hx
  clear hx
  go_enter Try.func47, Try.ntmps47
  go_wp2_with (first
    | (go_at_call 36; refine (num_any g 2 rest sh _ h (by omega) (by omega)).mono ?_; rintro e w1 ⟨rfl, hr1, hg1⟩; rw [X.out]))
  go_ret
  exact ⟨rfl, hr1, hg1⟩

/-- Two blocks alone may have changed. -/
structure Two (w w' : World) (g h : Nat) : Prop where
  os : w'.os = w.os
  tape : w'.tape = w.tape
  output : w'.output = w.output
  size : w.heap.size ≤ w'.heap.size
  block : ∀ i, i < w.heap.size → i ≠ g → i ≠ h → w'.heap[i]? = w.heap[i]?

theorem Two.refl (w : World) (g h : Nat) : Two w w g h := ⟨rfl, rfl, rfl, Nat.le_refl _, fun _ _ _ _ => rfl⟩
theorem Two.left {w a b : World} {g h : Nat} (t : Two w a g h) (k : a.grownBy b (some g)) : Two w b g h :=
  ⟨k.os.trans t.os, k.tape.trans t.tape, k.output.trans t.output, Nat.le_trans t.size k.size, fun i hi hg hh => (k.block i (Nat.lt_of_lt_of_le hi t.size) (by simpa using hg)).trans (t.block i hi hg hh)⟩
theorem Two.right {w a b : World} {g h : Nat} (t : Two w a g h) (k : a.grownBy b (some h)) : Two w b g h :=
  ⟨k.os.trans t.os, k.tape.trans t.tape, k.output.trans t.output, Nat.le_trans t.size k.size, fun i hi hg hh => (k.block i (Nat.lt_of_lt_of_le hi t.size) (by simpa using hh)).trans (t.block i hi hg hh)⟩
theorem Two.below {w0 w w' : World} {B g h : Nat} (t : Two w w' g h) (b : Below B w0 w) (hB : B ≤ w.heap.size) (hg : B ≤ g) (hh : B ≤ h) : Below B w0 w' :=
  ⟨t.os.trans b.os, t.tape.trans b.tape, t.output.trans b.output, Nat.le_trans b.size t.size, fun i hi => (t.block i (by omega) (by omega) (by omega)).trans (b.block i hi)⟩
theorem Two.blk {w w' : World} {g h k : Nat} {cs : Array Value} {ty : TypeId} (t : Two w w' g h) (b : Blk w k cs ty) (hg : k ≠ g) (hh : k ≠ h) : Blk w' k cs ty := (t.block k b.lt hg hh).trans b

/-- A reader's state behind k bytes; behind several. -/
def st1 (x : ByteArray × Bool) (k : Nat) : ByteArray × Bool := (nR x.1 x.2 k, nS x.1 x.2 k)
def ksX : List Nat := [1, 8, 4, 8, 2, 2, 2, 2, 2]
def stX (x : ByteArray × Bool) : Nat → ByteArray × Bool
  | 0 => x
  | i + 1 => st1 (stX x i) (ksX.getD i 0)

def put_root (q : Pd) (n : Nat) : Pd := { q with root := n }
def put_cost (q : Pd) (n : Nat) : Pd := { q with cost := n }
def put_bridge (q : Pd) (n : Nat) : Pd := { q with bridge := n }
def put_port (q : Pd) (n : Nat) : Pd := { q with port := n }
def put_age (q : Pd) (n : Nat) : Pd := { q with age := n }
def put_maxAge (q : Pd) (n : Nat) : Pd := { q with maxAge := n }
def put_hello (q : Pd) (n : Nat) : Pd := { q with hello := n }
def put_delay (q : Pd) (n : Nat) : Pd := { q with delay := n }

/-- A PDU with the fields that are read. -/
def rdQ (q : Pd) (x : ByteArray × Bool) : Pd := put_delay (put_hello (put_maxAge (put_age (put_port (put_bridge (put_cost (put_root (setQ q (bitN (nV x.1 x.2 1))) (nV (stX x 1).1 (stX x 1).2 8)) (nV (stX x 2).1 (stX x 2).2 4)) (nV (stX x 3).1 (stX x 3).2 8)) (nV (stX x 4).1 (stX x 4).2 2)) (nV (stX x 5).1 (stX x 5).2 2)) (nV (stX x 6).1 (stX x 6).2 2)) (nV (stX x 7).1 (stX x 7).2 2)) (nV (stX x 8).1 (stX x 8).2 2)

set_option maxRecDepth 100000 in
set_option maxHeartbeats 4000000 in
theorem readFields_any (g gr : Nat) (q : Pd) (x : ByteArray × Bool) (w : World) (hk : Blk w g (pdA q) 31) (hR : Rd w gr x.1 x.2) (hne : g ≠ gr) :
    Calls Try.prog 38 #[.pointer (some ⟨g, 0, none⟩), .pointer (some ⟨gr, 0, none⟩)] w fun e w' => e = .returned (.tuple #[]) ∧ Blk w' g (pdA (rdQ q x)) 31 ∧ Rd w' gr (stX x 9).1 (stX x 9).2 ∧ Two w w' g gr := by
  obtain ⟨r0, hr0⟩ : ∃ r, r = x.1 := ⟨_, rfl⟩
  obtain ⟨s0, hs0⟩ : ∃ r, r = x.2 := ⟨_, rfl⟩
  rw [← hr0, ← hs0] at hR
  have X0 := Lib.hid hr0.symm
  have Y0 := Lib.hid hs0.symm
  clear hr0 hs0
  obtain ⟨n0, hn0⟩ : ∃ n, n = nV r0 s0 1 := ⟨_, rfl⟩
  obtain ⟨r1, hr1⟩ : ∃ r, r = nR r0 s0 1 := ⟨_, rfl⟩
  obtain ⟨s1, hs1⟩ : ∃ r, r = nS r0 s0 1 := ⟨_, rfl⟩
  have l0 : n0 < 256 ^ 1 := by rw [hn0]; exact nV_lt _ _ _
  have N0 := Lib.hid hn0.symm
  have X1 := Lib.hid hr1.symm
  have Y1 := Lib.hid hs1.symm
  clear hn0 hr1 hs1
  obtain ⟨n1, hn1⟩ : ∃ n, n = nV r1 s1 8 := ⟨_, rfl⟩
  obtain ⟨r2, hr2⟩ : ∃ r, r = nR r1 s1 8 := ⟨_, rfl⟩
  obtain ⟨s2, hs2⟩ : ∃ r, r = nS r1 s1 8 := ⟨_, rfl⟩
  have l1 : n1 < 256 ^ 8 := by rw [hn1]; exact nV_lt _ _ _
  have N1 := Lib.hid hn1.symm
  have X2 := Lib.hid hr2.symm
  have Y2 := Lib.hid hs2.symm
  clear hn1 hr2 hs2
  obtain ⟨n2, hn2⟩ : ∃ n, n = nV r2 s2 4 := ⟨_, rfl⟩
  obtain ⟨r3, hr3⟩ : ∃ r, r = nR r2 s2 4 := ⟨_, rfl⟩
  obtain ⟨s3, hs3⟩ : ∃ r, r = nS r2 s2 4 := ⟨_, rfl⟩
  have l2 : n2 < 256 ^ 4 := by rw [hn2]; exact nV_lt _ _ _
  have N2 := Lib.hid hn2.symm
  have X3 := Lib.hid hr3.symm
  have Y3 := Lib.hid hs3.symm
  clear hn2 hr3 hs3
  obtain ⟨n3, hn3⟩ : ∃ n, n = nV r3 s3 8 := ⟨_, rfl⟩
  obtain ⟨r4, hr4⟩ : ∃ r, r = nR r3 s3 8 := ⟨_, rfl⟩
  obtain ⟨s4, hs4⟩ : ∃ r, r = nS r3 s3 8 := ⟨_, rfl⟩
  have l3 : n3 < 256 ^ 8 := by rw [hn3]; exact nV_lt _ _ _
  have N3 := Lib.hid hn3.symm
  have X4 := Lib.hid hr4.symm
  have Y4 := Lib.hid hs4.symm
  clear hn3 hr4 hs4
  obtain ⟨n4, hn4⟩ : ∃ n, n = nV r4 s4 2 := ⟨_, rfl⟩
  obtain ⟨r5, hr5⟩ : ∃ r, r = nR r4 s4 2 := ⟨_, rfl⟩
  obtain ⟨s5, hs5⟩ : ∃ r, r = nS r4 s4 2 := ⟨_, rfl⟩
  have l4 : n4 < 256 ^ 2 := by rw [hn4]; exact nV_lt _ _ _
  have N4 := Lib.hid hn4.symm
  have X5 := Lib.hid hr5.symm
  have Y5 := Lib.hid hs5.symm
  clear hn4 hr5 hs5
  obtain ⟨n5, hn5⟩ : ∃ n, n = nV r5 s5 2 := ⟨_, rfl⟩
  obtain ⟨r6, hr6⟩ : ∃ r, r = nR r5 s5 2 := ⟨_, rfl⟩
  obtain ⟨s6, hs6⟩ : ∃ r, r = nS r5 s5 2 := ⟨_, rfl⟩
  have l5 : n5 < 256 ^ 2 := by rw [hn5]; exact nV_lt _ _ _
  have N5 := Lib.hid hn5.symm
  have X6 := Lib.hid hr6.symm
  have Y6 := Lib.hid hs6.symm
  clear hn5 hr6 hs6
  obtain ⟨n6, hn6⟩ : ∃ n, n = nV r6 s6 2 := ⟨_, rfl⟩
  obtain ⟨r7, hr7⟩ : ∃ r, r = nR r6 s6 2 := ⟨_, rfl⟩
  obtain ⟨s7, hs7⟩ : ∃ r, r = nS r6 s6 2 := ⟨_, rfl⟩
  have l6 : n6 < 256 ^ 2 := by rw [hn6]; exact nV_lt _ _ _
  have N6 := Lib.hid hn6.symm
  have X7 := Lib.hid hr7.symm
  have Y7 := Lib.hid hs7.symm
  clear hn6 hr7 hs7
  obtain ⟨n7, hn7⟩ : ∃ n, n = nV r7 s7 2 := ⟨_, rfl⟩
  obtain ⟨r8, hr8⟩ : ∃ r, r = nR r7 s7 2 := ⟨_, rfl⟩
  obtain ⟨s8, hs8⟩ : ∃ r, r = nS r7 s7 2 := ⟨_, rfl⟩
  have l7 : n7 < 256 ^ 2 := by rw [hn7]; exact nV_lt _ _ _
  have N7 := Lib.hid hn7.symm
  have X8 := Lib.hid hr8.symm
  have Y8 := Lib.hid hs8.symm
  clear hn7 hr8 hs8
  obtain ⟨n8, hn8⟩ : ∃ n, n = nV r8 s8 2 := ⟨_, rfl⟩
  obtain ⟨r9, hr9⟩ : ∃ r, r = nR r8 s8 2 := ⟨_, rfl⟩
  obtain ⟨s9, hs9⟩ : ∃ r, r = nS r8 s8 2 := ⟨_, rfl⟩
  have l8 : n8 < 256 ^ 2 := by rw [hn8]; exact nV_lt _ _ _
  have N8 := Lib.hid hn8.symm
  have X9 := Lib.hid hr9.symm
  have Y9 := Lib.hid hs9.symm
  clear hn8 hr9 hs9
  have Z0 := Lib.hid (show stX x 0 = (r0, s0) by rw [← X0.out, ← Y0.out]; rfl)
  have Z1 := Lib.hid (show stX x 1 = (r1, s1) by show st1 (stX x 0) 1 = _; rw [Z0.out, ← X1.out, ← Y1.out]; rfl)
  have Z2 := Lib.hid (show stX x 2 = (r2, s2) by show st1 (stX x 1) 8 = _; rw [Z1.out, ← X2.out, ← Y2.out]; rfl)
  have Z3 := Lib.hid (show stX x 3 = (r3, s3) by show st1 (stX x 2) 4 = _; rw [Z2.out, ← X3.out, ← Y3.out]; rfl)
  have Z4 := Lib.hid (show stX x 4 = (r4, s4) by show st1 (stX x 3) 8 = _; rw [Z3.out, ← X4.out, ← Y4.out]; rfl)
  have Z5 := Lib.hid (show stX x 5 = (r5, s5) by show st1 (stX x 4) 2 = _; rw [Z4.out, ← X5.out, ← Y5.out]; rfl)
  have Z6 := Lib.hid (show stX x 6 = (r6, s6) by show st1 (stX x 5) 2 = _; rw [Z5.out, ← X6.out, ← Y6.out]; rfl)
  have Z7 := Lib.hid (show stX x 7 = (r7, s7) by show st1 (stX x 6) 2 = _; rw [Z6.out, ← X7.out, ← Y7.out]; rfl)
  have Z8 := Lib.hid (show stX x 8 = (r8, s8) by show st1 (stX x 7) 2 = _; rw [Z7.out, ← X8.out, ← Y8.out]; rfl)
  have Z9 := Lib.hid (show stX x 9 = (r9, s9) by show st1 (stX x 8) 2 = _; rw [Z8.out, ← X9.out, ← Y9.out]; rfl)
  obtain ⟨q1, hq1⟩ : ∃ q', q' = setQ q (bitN n0) := ⟨_, rfl⟩
  have Q1 := Lib.hid hq1
  clear hq1
  obtain ⟨q2, hq2⟩ : ∃ q', q' = put_root q1 n1 := ⟨_, rfl⟩
  have Q2 := Lib.hid hq2
  clear hq2
  obtain ⟨q3, hq3⟩ : ∃ q', q' = put_cost q2 n2 := ⟨_, rfl⟩
  have Q3 := Lib.hid hq3
  clear hq3
  obtain ⟨q4, hq4⟩ : ∃ q', q' = put_bridge q3 n3 := ⟨_, rfl⟩
  have Q4 := Lib.hid hq4
  clear hq4
  obtain ⟨q5, hq5⟩ : ∃ q', q' = put_port q4 n4 := ⟨_, rfl⟩
  have Q5 := Lib.hid hq5
  clear hq5
  obtain ⟨q6, hq6⟩ : ∃ q', q' = put_age q5 n5 := ⟨_, rfl⟩
  have Q6 := Lib.hid hq6
  clear hq6
  obtain ⟨q7, hq7⟩ : ∃ q', q' = put_maxAge q6 n6 := ⟨_, rfl⟩
  have Q7 := Lib.hid hq7
  clear hq7
  obtain ⟨q8, hq8⟩ : ∃ q', q' = put_hello q7 n7 := ⟨_, rfl⟩
  have Q8 := Lib.hid hq8
  clear hq8
  obtain ⟨q9, hq9⟩ : ∃ q', q' = put_delay q8 n8 := ⟨_, rfl⟩
  have Q9 := Lib.hid hq9
  clear hq9
  have RQ := Lib.hid (show q9 = rdQ q x by
    rw [Q9.out, Q8.out, Q7.out, Q6.out, Q5.out, Q4.out, Q3.out, Q2.out, Q1.out]
    unfold rdQ
    rw [X0.out, Y0.out, Z1.out, Z2.out, Z3.out, Z4.out, Z5.out, Z6.out, Z7.out, Z8.out]
    rw [N0.out, N1.out, N2.out, N3.out, N4.out, N5.out, N6.out, N7.out, N8.out])
  have hc2 := Lib.hid (show (n2 : Int) % 4294967296 = (n2 : Int) by omega)
  have D0 : Hid (Rd w gr r0 s0) := Lib.hid hR
  have R0 := Lib.hid hk
  have hgl := hk.lt
  have hrl := Has.lt hR (by simp)
  clear hk hR l1 l3 l4 l5 l6 l7 l8
  go_enter Try.func38, Try.ntmps38
  go_wp2_with fail
  refine (num_any gr 1 r0 s0 _ D0.out (by omega) (by omega)).mono ?_
  rintro e w1 ⟨rfl, hd, hg⟩
  rw [N0.out]
  rw [X1.out, Y1.out] at hd
  have Ra := R0.out.grown hg (by simp; omega)
  have Ta := (Two.refl w g gr).right hg
  have Hd := Lib.hid hd
  clear hd hg
  go_wp2_with fail
  refine (unpack_any n0 _ (by omega)).mono ?_
  rintro e w2 ⟨b, rfl, hb0, hm, hb⟩
  have hs1 := Ta.size
  have Rb := Ra.below hb Ra.lt
  have Hd2 : Rd w2 gr r1 s1 := Has.below Hd.out hb (by omega)
  have Tb := Ta.left (Below.grownBy hb (some g))
  have HM := Lib.hid hm
  have hbg : b ≠ g := by omega
  have hbr : b ≠ gr := by omega
  have HD2 := Lib.hid Hd2
  clear hb hm Ra Ta Hd Hd2
  go_upto_region 1 with (go_at_call 45; refine (setFlags_any g b q (bitN n0) _ Rb HM.out hbg (bitN_two n0)).mono ?_; rintro e wc ⟨rfl, hR1, hg1⟩)
  have R1 := Lib.hid (show Blk wc g (pdA q1) 31 by rw [Q1.out]; exact hR1)
  have D1 : Hid (Rd wc gr r1 s1) := Lib.hid (Has.grown HD2.out hg1 (by simp; omega))
  have T1 := Lib.hid (Tb.left hg1)
  clear hR1 hg1 Rb HD2 Tb HM hbg hbr hb0 hs1 hgl hrl
  have hc := hc2.out
  go_upto_region 2 with (first
    | (go_at_call 36; refine (num_any gr 8 r1 s1 _ D1.out (by omega) (by omega)).mono ?_; rintro e wa ⟨rfl, hd, hg⟩; rw [N1.out]; rw [X2.out, Y2.out] at hd
       have Ra := Lib.hid (R1.out.grown hg (by simp; omega))
       have c := Ra.out.cell 8
       simp only [pdA8] at c
       have f := Ra.out.free 8))
  have R2 := Lib.hid (show Blk (wa.setCell ⟨g, 8, none⟩ (.int .u64 (n1 : Nat))) g (pdA q2) 31 by rw [Q2.out]; exact Ra.out.set 8 (.int .u64 (n1 : Nat)))
  have D2 : Hid (Rd (wa.setCell ⟨g, 8, none⟩ (.int .u64 (n1 : Nat))) gr r2 s2) := Lib.hid (Has.other hd (by simp; omega) _)
  have T2 := Lib.hid (T1.out.right hg |>.left (setCell_grown wa ⟨g, 8, none⟩ (.int .u64 (n1 : Nat))))
  clear hd hg Ra c f
  generalize wa.setCell ⟨g, 8, none⟩ (.int .u64 (n1 : Nat)) = w2 at *
  clear wa
  go_upto_region 3 with (first
    | (go_at_call 36; refine (num_any gr 4 r2 s2 _ D2.out (by omega) (by omega)).mono ?_; rintro e wa ⟨rfl, hd, hg⟩; rw [N2.out]; rw [X3.out, Y3.out] at hd
       have Ra := Lib.hid (R2.out.grown hg (by simp; omega))
       have c := Ra.out.cell 9
       simp only [pdA9] at c
       have f := Ra.out.free 9))
  have R3 := Lib.hid (show Blk (wa.setCell ⟨g, 9, none⟩ (.int .u32 (n2 : Nat))) g (pdA q3) 31 by rw [Q3.out]; exact Ra.out.set 9 (.int .u32 (n2 : Nat)))
  have D3 : Hid (Rd (wa.setCell ⟨g, 9, none⟩ (.int .u32 (n2 : Nat))) gr r3 s3) := Lib.hid (Has.other hd (by simp; omega) _)
  have T3 := Lib.hid (T2.out.right hg |>.left (setCell_grown wa ⟨g, 9, none⟩ (.int .u32 (n2 : Nat))))
  clear hd hg Ra c f
  generalize wa.setCell ⟨g, 9, none⟩ (.int .u32 (n2 : Nat)) = w3 at *
  clear wa
  go_upto_region 4 with (first
    | (go_at_call 36; refine (num_any gr 8 r3 s3 _ D3.out (by omega) (by omega)).mono ?_; rintro e wa ⟨rfl, hd, hg⟩; rw [N3.out]; rw [X4.out, Y4.out] at hd
       have Ra := Lib.hid (R3.out.grown hg (by simp; omega))
       have c := Ra.out.cell 10
       simp only [pdA10] at c
       have f := Ra.out.free 10))
  have R4 := Lib.hid (show Blk (wa.setCell ⟨g, 10, none⟩ (.int .u64 (n3 : Nat))) g (pdA q4) 31 by rw [Q4.out]; exact Ra.out.set 10 (.int .u64 (n3 : Nat)))
  have D4 : Hid (Rd (wa.setCell ⟨g, 10, none⟩ (.int .u64 (n3 : Nat))) gr r4 s4) := Lib.hid (Has.other hd (by simp; omega) _)
  have T4 := Lib.hid (T3.out.right hg |>.left (setCell_grown wa ⟨g, 10, none⟩ (.int .u64 (n3 : Nat))))
  clear hd hg Ra c f
  generalize wa.setCell ⟨g, 10, none⟩ (.int .u64 (n3 : Nat)) = w4 at *
  clear wa
  go_upto_region 5 with (first
    | (go_at_call 47; refine (readWord_any gr r4 s4 _ D4.out).mono ?_; rintro e wa ⟨rfl, hd, hg⟩; rw [N4.out]; rw [X5.out, Y5.out] at hd
       have Ra := Lib.hid (R4.out.grown hg (by simp; omega))
       have c := Ra.out.cell 11
       simp only [pdA11] at c
       have f := Ra.out.free 11))
  have R5 := Lib.hid (show Blk (wa.setCell ⟨g, 11, none⟩ (.int .u16 (n4 : Nat))) g (pdA q5) 31 by rw [Q5.out]; exact Ra.out.set 11 (.int .u16 (n4 : Nat)))
  have D5 : Hid (Rd (wa.setCell ⟨g, 11, none⟩ (.int .u16 (n4 : Nat))) gr r5 s5) := Lib.hid (Has.other hd (by simp; omega) _)
  have T5 := Lib.hid (T4.out.right hg |>.left (setCell_grown wa ⟨g, 11, none⟩ (.int .u16 (n4 : Nat))))
  clear hd hg Ra c f
  generalize wa.setCell ⟨g, 11, none⟩ (.int .u16 (n4 : Nat)) = w5 at *
  clear wa
  go_upto_region 6 with (first
    | (go_at_call 47; refine (readWord_any gr r5 s5 _ D5.out).mono ?_; rintro e wa ⟨rfl, hd, hg⟩; rw [N5.out]; rw [X6.out, Y6.out] at hd
       have Ra := Lib.hid (R5.out.grown hg (by simp; omega))
       have c := Ra.out.cell 12
       simp only [pdA12] at c
       have f := Ra.out.free 12))
  have R6 := Lib.hid (show Blk (wa.setCell ⟨g, 12, none⟩ (.int .u16 (n5 : Nat))) g (pdA q6) 31 by rw [Q6.out]; exact Ra.out.set 12 (.int .u16 (n5 : Nat)))
  have D6 : Hid (Rd (wa.setCell ⟨g, 12, none⟩ (.int .u16 (n5 : Nat))) gr r6 s6) := Lib.hid (Has.other hd (by simp; omega) _)
  have T6 := Lib.hid (T5.out.right hg |>.left (setCell_grown wa ⟨g, 12, none⟩ (.int .u16 (n5 : Nat))))
  clear hd hg Ra c f
  generalize wa.setCell ⟨g, 12, none⟩ (.int .u16 (n5 : Nat)) = w6 at *
  clear wa
  go_upto_region 7 with (first
    | (go_at_call 47; refine (readWord_any gr r6 s6 _ D6.out).mono ?_; rintro e wa ⟨rfl, hd, hg⟩; rw [N6.out]; rw [X7.out, Y7.out] at hd
       have Ra := Lib.hid (R6.out.grown hg (by simp; omega))
       have c := Ra.out.cell 13
       simp only [pdA13] at c
       have f := Ra.out.free 13))
  have R7 := Lib.hid (show Blk (wa.setCell ⟨g, 13, none⟩ (.int .u16 (n6 : Nat))) g (pdA q7) 31 by rw [Q7.out]; exact Ra.out.set 13 (.int .u16 (n6 : Nat)))
  have D7 : Hid (Rd (wa.setCell ⟨g, 13, none⟩ (.int .u16 (n6 : Nat))) gr r7 s7) := Lib.hid (Has.other hd (by simp; omega) _)
  have T7 := Lib.hid (T6.out.right hg |>.left (setCell_grown wa ⟨g, 13, none⟩ (.int .u16 (n6 : Nat))))
  clear hd hg Ra c f
  generalize wa.setCell ⟨g, 13, none⟩ (.int .u16 (n6 : Nat)) = w7 at *
  clear wa
  go_upto_region 8 with (first
    | (go_at_call 47; refine (readWord_any gr r7 s7 _ D7.out).mono ?_; rintro e wa ⟨rfl, hd, hg⟩; rw [N7.out]; rw [X8.out, Y8.out] at hd
       have Ra := Lib.hid (R7.out.grown hg (by simp; omega))
       have c := Ra.out.cell 14
       simp only [pdA14] at c
       have f := Ra.out.free 14))
  have R8 := Lib.hid (show Blk (wa.setCell ⟨g, 14, none⟩ (.int .u16 (n7 : Nat))) g (pdA q8) 31 by rw [Q8.out]; exact Ra.out.set 14 (.int .u16 (n7 : Nat)))
  have D8 : Hid (Rd (wa.setCell ⟨g, 14, none⟩ (.int .u16 (n7 : Nat))) gr r8 s8) := Lib.hid (Has.other hd (by simp; omega) _)
  have T8 := Lib.hid (T7.out.right hg |>.left (setCell_grown wa ⟨g, 14, none⟩ (.int .u16 (n7 : Nat))))
  clear hd hg Ra c f
  generalize wa.setCell ⟨g, 14, none⟩ (.int .u16 (n7 : Nat)) = w8 at *
  clear wa
  go_wp2_with (first
    | (go_at_call 47; refine (readWord_any gr r8 s8 _ D8.out).mono ?_; rintro e wa ⟨rfl, hd, hg⟩; rw [N8.out]; rw [X9.out, Y9.out] at hd
       have Ra := Lib.hid (R8.out.grown hg (by simp; omega))
       have c := Ra.out.cell 15
       simp only [pdA15] at c
       have f := Ra.out.free 15))
  have R9 := Lib.hid (show Blk (wa.setCell ⟨g, 15, none⟩ (.int .u16 (n8 : Nat))) g (pdA q9) 31 by rw [Q9.out]; exact Ra.out.set 15 (.int .u16 (n8 : Nat)))
  have D9 : Hid (Rd (wa.setCell ⟨g, 15, none⟩ (.int .u16 (n8 : Nat))) gr r9 s9) := Lib.hid (Has.other hd (by simp; omega) _)
  have T9 := Lib.hid (T8.out.right hg |>.left (setCell_grown wa ⟨g, 15, none⟩ (.int .u16 (n8 : Nat))))
  clear hd hg Ra c f
  generalize wa.setCell ⟨g, 15, none⟩ (.int .u16 (n8 : Nat)) = w9 at *
  clear wa
  go_end0
  exact ⟨rfl, by rw [← RQ.out]; exact R9.out, by rw [Z9.out]; exact D9.out, T9.out⟩
end Go.Proofs.Ytkohnleeiajiiaa
