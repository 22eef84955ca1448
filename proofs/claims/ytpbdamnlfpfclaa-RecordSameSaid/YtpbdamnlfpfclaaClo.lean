/- State.Clone: a state whose lists are new memory. What regions that append one element share. -/
import Derived.Test.YtpbdamnlfpfclaaSta
import Derived.Test.YtpbdamnlfpfclaaThree
namespace Go.Proofs.Ytpbdamnlfpfclaa
open Go.RowKit
set_option linter.unusedSimpArgs false
set_option linter.unusedVariables false

/-- The four lists lie apart. -/
structure Apart (v1 v2 v3 v4 : Value) : Prop where
  n12 : ∀ g, v1.ownBlock = some g → v2.ownBlock ≠ some g
  n13 : ∀ g, v1.ownBlock = some g → v3.ownBlock ≠ some g
  n14 : ∀ g, v1.ownBlock = some g → v4.ownBlock ≠ some g
  n23 : ∀ g, v2.ownBlock = some g → v3.ownBlock ≠ some g
  n24 : ∀ g, v2.ownBlock = some g → v4.ownBlock ≠ some g
  n34 : ∀ g, v3.ownBlock = some g → v4.ownBlock ≠ some g
theorem own_apart {α β : Type} {ea : α → List Value} {eb : β → List Value} {sa sb B B' : Nat} {w w' : World} {ta tb : TypeId} {v u : Value} {la : List α} {lb : List β} (h : Own w B ta sa ea v la) (hu : Own w' B' tb sb eb u lb) (hB : w.heap.size ≤ B') : ∀ g, v.ownBlock = some g → u.ownBlock ≠ some g := fun g h1 h2 => by
  have a := (h.lt g h1).2
  have b := (hu.lt g h2).1
  omega
theorem own_not {α : Type} {ea : α → List Value} {sa B g : Nat} {w : World} {ta : TypeId} {v : Value} {la : List α} (h : Own w B ta sa ea v la) (hg : g < B) : v.ownBlock ≠ some g := fun e => by
  have := (h.lt g e).1
  omega
theorem st_set6 (s : St) (v1 v2 v3 v4 u : Value) : (stA s v1 v2 v3 v4).setIfInBounds 6 u = stA s u v2 v3 v4 := rfl
theorem st_set7 (s : St) (v1 v2 v3 v4 u : Value) : (stA s v1 v2 v3 v4).setIfInBounds 7 u = stA s v1 u v3 v4 := rfl
theorem st_set8 (s : St) (v1 v2 v3 v4 u : Value) : (stA s v1 v2 v3 v4).setIfInBounds 8 u = stA s v1 v2 u v4 := rfl
theorem st_set9 (s : St) (v1 v2 v3 v4 u : Value) : (stA s v1 v2 v3 v4).setIfInBounds 9 u = stA s v1 v2 v3 u := rfl
theorem Own.rowOther {α : Type} {enc : α → List Value} {size base k : Nat} {w : World} {e : TypeId} {v : Value} {l : List α} (h : Own w base e size enc v l) (hk : v.ownBlock ≠ some k) (new : Array Value) : Own (w.setRow k new) base e size enc v l := by
  refine ⟨h.1, ?_⟩
  rcases h.2 with hn | ⟨g, cap, cur, rfl, h2, h3, h4⟩
  · exact .inl hn
  · exact .inr ⟨g, cap, cur, rfl, h2, (setRow_other w k g new (fun e => hk (by rw [← e]; rfl))).trans h3, h4⟩
theorem own_row {w : World} {B k : Nat} {s : St} {v1 v2 v3 v4 : Value} (h : OwS w B s v1 v2 v3 v4) (h1 : v1.ownBlock ≠ some k) (h2 : v2.ownBlock ≠ some k) (h3 : v3.ownBlock ≠ some k) (h4 : v4.ownBlock ≠ some k) (new : Array Value) : OwS (w.setRow k new) B s v1 v2 v3 v4 :=
  ⟨h.o1.rowOther h1 new, h.o2.rowOther h2 new, h.o3.rowOther h3 new, h.o4.rowOther h4 new, h.few⟩
abbrev nil25 : Array Value := #[.int .u64 0, .int .i64 0, .int .i64 0, .int .i64 0, .int .i64 0, .int .i64 0, .slice none 0 0, .slice none 0 0, .slice none 0 0, .slice none 0 0, .int .u32 0, .int .u32 0, .int .u32 0, .int .u32 0, .int .u32 0, .int .u32 0, .int .u32 0, .int .u32 0, .int .u32 0, .int .u32 0, .int .u32 0, .int .u32 0, .int .u32 0, .int .u32 0, .int .i64 0]

set_option maxRecDepth 100000 in
set_option maxHeartbeats 16000000 in
theorem clone_any {w : World} {B : Nat} {s : St} {v1 v2 v3 v4 : Value} (hs : OwS w B s v1 v2 v3 v4) :
    Calls Try.prog 11 #[stV s v1 v2 v3 v4] w fun e w' => ∃ u1 u2 u3 u4, e = .returned (stV s u1 u2 u3 u4) ∧ OwS w' w.heap.size s u1 u2 u3 u4 ∧ Apart u1 u2 u3 u4 ∧ Below w.heap.size w w' := by
  obtain ⟨x, hx⟩ : ∃ x, x = stA s v1 v2 v3 v4 := ⟨_, rfl⟩
  obtain ⟨zz, hzz⟩ : ∃ zz : Array Value, zz = nil25 := ⟨_, rfl⟩
  obtain ⟨g, hg⟩ : ∃ g, g = w.heap.size := ⟨_, rfl⟩
  obtain ⟨w1, hw1⟩ : ∃ w1, w1 = (w.alloc (.cells x 41)).alloc (.cells zz 41) := ⟨_, rfl⟩
  have b1 : Below w.heap.size w w1 := by rw [hw1]; exact ((Below.refl _ _).alloc (Nat.le_refl _) _).alloc (by simp) _
  have B1 := Lib.hid b1
  have K1 := Lib.hid (show Blk w1 g (stA s v1 v2 v3 v4) 41 by rw [hw1, hg, ← hx]; exact (Blk.new _ _ _).alloc _)
  have Z1 := Lib.hid (show Blk w1 (g + 1) zz 41 by
    have := Blk.new (w.alloc (.cells x 41)) zz 41
    rw [hw1, hg]
    simpa using this)
  have ZS := Lib.hid (show zz.size = 25 by rw [hzz]; rfl)
  have O1 := Lib.hid (hs.next b1)
  have L1 := Lib.hid (show g + 1 < w1.heap.size from Z1.out.lt)
  obtain ⟨a1, m1, e1, -⟩ := hs.o1.shape
  obtain ⟨a2, m2, e2, -⟩ := hs.o2.shape
  obtain ⟨a3, m3, e3, -⟩ := hs.o3.shape
  obtain ⟨a4, m4, e4, -⟩ := hs.o4.shape
  obtain ⟨n1, hn1⟩ : ∃ n, n = s.po.length := ⟨_, rfl⟩
  obtain ⟨n2, hn2⟩ : ∃ n, n = s.vl.length := ⟨_, rfl⟩
  obtain ⟨n3, hn3⟩ : ∃ n, n = s.st.length := ⟨_, rfl⟩
  obtain ⟨n4, hn4⟩ : ∃ n, n = s.fd.length := ⟨_, rfl⟩
  rw [← hn1] at e1
  rw [← hn2] at e2
  rw [← hn3] at e3
  rw [← hn4] at e4
  have N1 := Lib.hid hn1
  have N2 := Lib.hid hn2
  have N3 := Lib.hid hn3
  have N4 := Lib.hid hn4
  clear hn1 hn2 hn3 hn4
  have HF := Lib.hid hs.few
  subst e1
  subst e2
  subst e3
  subst e4
  have X1 := Lib.hid (show ∀ k, w.heap.size ≤ k → (Value.slice a1 n1 m1).ownBlock ≠ some k from fun k hk e => by have := (hs.o1.lt k e).2; omega)
  have X2 := Lib.hid (show ∀ k, w.heap.size ≤ k → (Value.slice a2 n2 m2).ownBlock ≠ some k from fun k hk e => by have := (hs.o2.lt k e).2; omega)
  have X3 := Lib.hid (show ∀ k, w.heap.size ≤ k → (Value.slice a3 n3 m3).ownBlock ≠ some k from fun k hk e => by have := (hs.o3.lt k e).2; omega)
  have X4 := Lib.hid (show ∀ k, w.heap.size ≤ k → (Value.slice a4 n4 m4).ownBlock ≠ some k from fun k hk e => by have := (hs.o4.lt k e).2; omega)
  have S1 := Lib.hid (Nat.le_refl w1.heap.size)
  have HW := Lib.hid hw1
  have HG := Lib.hid hg
  have HZ := Lib.hid hzz
  show Calls Try.prog 11 #[.agg (stA s (.slice a1 n1 m1) (.slice a2 n2 m2) (.slice a3 n3 m3) (.slice a4 n4 m4))] w _
  rw [← hx]
  clear hx hg hw1 hzz b1 hs
  go_enter Try.func11, Try.ntmps11
  go_upto_region 1 with fail
  change Code.wp Try.prog _ _ _ ((w.alloc (.cells x 41)).alloc (.cells nil25 41))
  rw [← HZ.out, ← HW.out, ← HG.out]
  have c1 : w1.cell? ⟨g, 6, none⟩ = some (.slice a1 n1 m1) := K1.out.cell 6
  have C1 := Lib.hid (clone_po O1.out.o1 (by have := HF.out; omega))
  go_wp2_with fail
  refine C1.out.mono ?_
  rintro e w2 ⟨u1, rfl, ho1, hb1⟩
  obtain ⟨q1, r1, eu1, -⟩ := ho1.shape
  rw [← N1.out] at eu1
  subst eu1
  have P1 := Lib.hid ho1
  have D1 := Lib.hid hb1
  have KK1 := Lib.hid (K1.out.below hb1 K1.out.lt)
  have ZZ1 := Lib.hid (Z1.out.below hb1 Z1.out.lt)
  have f1 : w2.frozen? ⟨g, 6, none⟩ = false := KK1.out.free 6
  have cc1 : w2.cell? ⟨g, 6, none⟩ = some (.slice a1 n1 m1) := KK1.out.cell 6
  clear ho1 hb1 c1
  go_upto_region 2 with fail
  clear f1 cc1
  obtain ⟨w3, hw3⟩ : ∃ w', w' = w2.setCell ⟨g, 6, none⟩ (.slice q1 n1 r1) := ⟨_, rfl⟩
  have B3 := Lib.hid (show Below w.heap.size w w3 by rw [hw3]; exact (B1.out.trans (D1.out.mono B1.out.size)).setCell (by show w.heap.size ≤ g; rw [HG.out]; exact Nat.le_refl _) _)
  have K3 := Lib.hid (show Blk w3 g (stA s (.slice q1 n1 r1) (.slice a2 n2 m2) (.slice a3 n3 m3) (.slice a4 n4 m4)) 41 by
    rw [hw3]
    have := KK1.out.set 6 (.slice q1 n1 r1)
    rw [st_set6] at this
    exact this)
  have Z3 := Lib.hid (show Blk w3 (g + 1) zz 41 by rw [hw3]; exact ZZ1.out.other (a := ⟨g, 6, none⟩) (by show g ≠ g + 1; omega) _)
  have L3 := Lib.hid (show w2.heap.size ≤ w3.heap.size by rw [hw3]; simp)
  have I1 := Lib.hid (show Own w3 w1.heap.size 50 21 poC (.slice q1 n1 r1) s.po by rw [hw3]; exact P1.out.setCell (own_not P1.out (by have := L1.out; have := S1.out; show g < _; omega)) _)
  have O3 := Lib.hid (show OwS w3 B s (.slice a1 n1 m1) (.slice a2 n2 m2) (.slice a3 n3 m3) (.slice a4 n4 m4) by
    have h := O1.out.next D1.out
    rw [hw3]
    exact ⟨h.o1.setCell (X1.out g (by rw [HG.out]; exact Nat.le_refl _)) _, h.o2.setCell (X2.out g (by rw [HG.out]; exact Nat.le_refl _)) _, h.o3.setCell (X3.out g (by rw [HG.out]; exact Nat.le_refl _)) _, h.o4.setCell (X4.out g (by rw [HG.out]; exact Nat.le_refl _)) _, h.few⟩)
  have S3 := Lib.hid (show w1.heap.size ≤ w3.heap.size from Nat.le_trans S1.out (Nat.le_trans D1.out.size L3.out))
  have T3 := Lib.hid (show w1.heap.size ≤ w2.heap.size from D1.out.size)
  rw [← hw3]
  clear hw3
  have c2 : w3.cell? ⟨g, 7, none⟩ = some (.slice a2 n2 m2) := K3.out.cell 7
  have C2 := Lib.hid (clone_vr O3.out.o2 (by have := HF.out; omega))
  go_wp2_with fail
  refine C2.out.mono ?_
  rintro e w4 ⟨u2, rfl, ho2, hb2⟩
  obtain ⟨q2, r2, eu2, -⟩ := ho2.shape
  rw [← N2.out] at eu2
  subst eu2
  have P2 := Lib.hid ho2
  have D2 := Lib.hid hb2
  have KK2 := Lib.hid (K3.out.below hb2 K3.out.lt)
  have ZZ2 := Lib.hid (Z3.out.below hb2 Z3.out.lt)
  have f2 : w4.frozen? ⟨g, 7, none⟩ = false := KK2.out.free 7
  have cc2 : w4.cell? ⟨g, 7, none⟩ = some (.slice a2 n2 m2) := KK2.out.cell 7
  clear ho2 hb2 c2
  go_upto_region 3 with fail
  clear f2 cc2
  obtain ⟨w5, hw5⟩ : ∃ w', w' = w4.setCell ⟨g, 7, none⟩ (.slice q2 n2 r2) := ⟨_, rfl⟩
  have B5 := Lib.hid (show Below w.heap.size w w5 by rw [hw5]; exact (B3.out.trans (D2.out.mono B3.out.size)).setCell (by show w.heap.size ≤ g; rw [HG.out]; exact Nat.le_refl _) _)
  have K5 := Lib.hid (show Blk w5 g (stA s (.slice q1 n1 r1) (.slice q2 n2 r2) (.slice a3 n3 m3) (.slice a4 n4 m4)) 41 by
    rw [hw5]
    have := KK2.out.set 7 (.slice q2 n2 r2)
    rw [st_set7] at this
    exact this)
  have Z5 := Lib.hid (show Blk w5 (g + 1) zz 41 by rw [hw5]; exact ZZ2.out.other (a := ⟨g, 7, none⟩) (by show g ≠ g + 1; omega) _)
  have L5 := Lib.hid (show w4.heap.size ≤ w5.heap.size by rw [hw5]; simp)
  have I2 := Lib.hid (show Own w5 w3.heap.size 54 3 vrC (.slice q2 n2 r2) s.vl by rw [hw5]; exact P2.out.setCell (own_not P2.out (by have := L1.out; have := S3.out; show g < _; omega)) _)
  have I1 := Lib.hid (show Own w5 w1.heap.size 50 21 poC (.slice q1 n1 r1) s.po by rw [hw5]; exact (I1.out.next D2.out).setCell (own_not I1.out (by have := L1.out; have := S1.out; show g < _; omega)) _)
  have O5 := Lib.hid (show OwS w5 B s (.slice a1 n1 m1) (.slice a2 n2 m2) (.slice a3 n3 m3) (.slice a4 n4 m4) by
    have h := O3.out.next D2.out
    rw [hw5]
    exact ⟨h.o1.setCell (X1.out g (by rw [HG.out]; exact Nat.le_refl _)) _, h.o2.setCell (X2.out g (by rw [HG.out]; exact Nat.le_refl _)) _, h.o3.setCell (X3.out g (by rw [HG.out]; exact Nat.le_refl _)) _, h.o4.setCell (X4.out g (by rw [HG.out]; exact Nat.le_refl _)) _, h.few⟩)
  have S5 := Lib.hid (show w1.heap.size ≤ w5.heap.size from Nat.le_trans S3.out (Nat.le_trans D2.out.size L5.out))
  have T5 := Lib.hid (show w3.heap.size ≤ w4.heap.size from D2.out.size)
  rw [← hw5]
  clear hw5
  have c3 : w5.cell? ⟨g, 8, none⟩ = some (.slice a3 n3 m3) := K5.out.cell 8
  have C3 := Lib.hid (clone_sr O5.out.o3 (by have := HF.out; omega))
  go_wp2_with fail
  refine C3.out.mono ?_
  rintro e w6 ⟨u3, rfl, ho3, hb3⟩
  obtain ⟨q3, r3, eu3, -⟩ := ho3.shape
  rw [← N3.out] at eu3
  subst eu3
  have P3 := Lib.hid ho3
  have D3 := Lib.hid hb3
  have KK3 := Lib.hid (K5.out.below hb3 K5.out.lt)
  have ZZ3 := Lib.hid (Z5.out.below hb3 Z5.out.lt)
  have f3 : w6.frozen? ⟨g, 8, none⟩ = false := KK3.out.free 8
  have cc3 : w6.cell? ⟨g, 8, none⟩ = some (.slice a3 n3 m3) := KK3.out.cell 8
  clear ho3 hb3 c3
  go_upto_region 4 with fail
  clear f3 cc3
  obtain ⟨w7, hw7⟩ : ∃ w', w' = w6.setCell ⟨g, 8, none⟩ (.slice q3 n3 r3) := ⟨_, rfl⟩
  have B7 := Lib.hid (show Below w.heap.size w w7 by rw [hw7]; exact (B5.out.trans (D3.out.mono B5.out.size)).setCell (by show w.heap.size ≤ g; rw [HG.out]; exact Nat.le_refl _) _)
  have K7 := Lib.hid (show Blk w7 g (stA s (.slice q1 n1 r1) (.slice q2 n2 r2) (.slice q3 n3 r3) (.slice a4 n4 m4)) 41 by
    rw [hw7]
    have := KK3.out.set 8 (.slice q3 n3 r3)
    rw [st_set8] at this
    exact this)
  have Z7 := Lib.hid (show Blk w7 (g + 1) zz 41 by rw [hw7]; exact ZZ3.out.other (a := ⟨g, 8, none⟩) (by show g ≠ g + 1; omega) _)
  have L7 := Lib.hid (show w6.heap.size ≤ w7.heap.size by rw [hw7]; simp)
  have I3 := Lib.hid (show Own w7 w5.heap.size 60 8 srC (.slice q3 n3 r3) s.st by rw [hw7]; exact P3.out.setCell (own_not P3.out (by have := L1.out; have := S5.out; show g < _; omega)) _)
  have I1 := Lib.hid (show Own w7 w1.heap.size 50 21 poC (.slice q1 n1 r1) s.po by rw [hw7]; exact (I1.out.next D3.out).setCell (own_not I1.out (by have := L1.out; have := S1.out; show g < _; omega)) _)
  have I2 := Lib.hid (show Own w7 w3.heap.size 54 3 vrC (.slice q2 n2 r2) s.vl by rw [hw7]; exact (I2.out.next D3.out).setCell (own_not I2.out (by have := L1.out; have := S3.out; show g < _; omega)) _)
  have O7 := Lib.hid (show OwS w7 B s (.slice a1 n1 m1) (.slice a2 n2 m2) (.slice a3 n3 m3) (.slice a4 n4 m4) by
    have h := O5.out.next D3.out
    rw [hw7]
    exact ⟨h.o1.setCell (X1.out g (by rw [HG.out]; exact Nat.le_refl _)) _, h.o2.setCell (X2.out g (by rw [HG.out]; exact Nat.le_refl _)) _, h.o3.setCell (X3.out g (by rw [HG.out]; exact Nat.le_refl _)) _, h.o4.setCell (X4.out g (by rw [HG.out]; exact Nat.le_refl _)) _, h.few⟩)
  have S7 := Lib.hid (show w1.heap.size ≤ w7.heap.size from Nat.le_trans S5.out (Nat.le_trans D3.out.size L7.out))
  have T7 := Lib.hid (show w5.heap.size ≤ w6.heap.size from D3.out.size)
  rw [← hw7]
  clear hw7
  have c4 : w7.cell? ⟨g, 9, none⟩ = some (.slice a4 n4 m4) := K7.out.cell 9
  have C4 := Lib.hid (clone_fr O7.out.o4 (by have := HF.out; omega))
  go_wp2_with fail
  refine C4.out.mono ?_
  rintro e w8 ⟨u4, rfl, ho4, hb4⟩
  obtain ⟨q4, r4, eu4, -⟩ := ho4.shape
  rw [← N4.out] at eu4
  subst eu4
  have P4 := Lib.hid ho4
  have D4 := Lib.hid hb4
  have KK4 := Lib.hid (K7.out.below hb4 K7.out.lt)
  have ZZ4 := Lib.hid (Z7.out.below hb4 Z7.out.lt)
  have f4 : w8.frozen? ⟨g, 9, none⟩ = false := KK4.out.free 9
  have cc4 : w8.cell? ⟨g, 9, none⟩ = some (.slice a4 n4 m4) := KK4.out.cell 9
  clear ho4 hb4 c4
  go_upto_region 5 with fail
  clear f4 cc4
  obtain ⟨w9, hw9⟩ : ∃ w', w' = w8.setCell ⟨g, 9, none⟩ (.slice q4 n4 r4) := ⟨_, rfl⟩
  have B9 := Lib.hid (show Below w.heap.size w w9 by rw [hw9]; exact (B7.out.trans (D4.out.mono B7.out.size)).setCell (by show w.heap.size ≤ g; rw [HG.out]; exact Nat.le_refl _) _)
  have K9 := Lib.hid (show Blk w9 g (stA s (.slice q1 n1 r1) (.slice q2 n2 r2) (.slice q3 n3 r3) (.slice q4 n4 r4)) 41 by
    rw [hw9]
    have := KK4.out.set 9 (.slice q4 n4 r4)
    rw [st_set9] at this
    exact this)
  have Z9 := Lib.hid (show Blk w9 (g + 1) zz 41 by rw [hw9]; exact ZZ4.out.other (a := ⟨g, 9, none⟩) (by show g ≠ g + 1; omega) _)
  have L9 := Lib.hid (show w8.heap.size ≤ w9.heap.size by rw [hw9]; simp)
  have I4 := Lib.hid (show Own w9 w7.heap.size 64 9 frC (.slice q4 n4 r4) s.fd by rw [hw9]; exact P4.out.setCell (own_not P4.out (by have := L1.out; have := S7.out; show g < _; omega)) _)
  have I1 := Lib.hid (show Own w9 w1.heap.size 50 21 poC (.slice q1 n1 r1) s.po by rw [hw9]; exact (I1.out.next D4.out).setCell (own_not I1.out (by have := L1.out; have := S1.out; show g < _; omega)) _)
  have I2 := Lib.hid (show Own w9 w3.heap.size 54 3 vrC (.slice q2 n2 r2) s.vl by rw [hw9]; exact (I2.out.next D4.out).setCell (own_not I2.out (by have := L1.out; have := S3.out; show g < _; omega)) _)
  have I3 := Lib.hid (show Own w9 w5.heap.size 60 8 srC (.slice q3 n3 r3) s.st by rw [hw9]; exact (I3.out.next D4.out).setCell (own_not I3.out (by have := L1.out; have := S5.out; show g < _; omega)) _)
  have O9 := Lib.hid (show OwS w9 B s (.slice a1 n1 m1) (.slice a2 n2 m2) (.slice a3 n3 m3) (.slice a4 n4 m4) by
    have h := O7.out.next D4.out
    rw [hw9]
    exact ⟨h.o1.setCell (X1.out g (by rw [HG.out]; exact Nat.le_refl _)) _, h.o2.setCell (X2.out g (by rw [HG.out]; exact Nat.le_refl _)) _, h.o3.setCell (X3.out g (by rw [HG.out]; exact Nat.le_refl _)) _, h.o4.setCell (X4.out g (by rw [HG.out]; exact Nat.le_refl _)) _, h.few⟩)
  have S9 := Lib.hid (show w1.heap.size ≤ w9.heap.size from Nat.le_trans S7.out (Nat.le_trans D4.out.size L9.out))
  have T9 := Lib.hid (show w7.heap.size ≤ w8.heap.size from D4.out.size)
  rw [← hw9]
  clear hw9
  have OF := Lib.hid (show OwS w9 w.heap.size s (.slice q1 n1 r1) (.slice q2 n2 r2) (.slice q3 n3 r3) (.slice q4 n4 r4) from ⟨I1.out.mono (B1.out.size), I2.out.mono (Nat.le_trans B1.out.size S3.out), I3.out.mono (Nat.le_trans B1.out.size S5.out), I4.out.mono (Nat.le_trans B1.out.size S7.out), HF.out⟩)
  have AP := Lib.hid (show Apart (.slice q1 n1 r1) (.slice q2 n2 r2) (.slice q3 n3 r3) (.slice q4 n4 r4) from ⟨own_apart P1.out P2.out L3.out, own_apart P1.out P3.out (Nat.le_trans L3.out (Nat.le_trans T5.out L5.out)), own_apart P1.out P4.out (Nat.le_trans L3.out (Nat.le_trans T5.out (Nat.le_trans L5.out (Nat.le_trans T7.out L7.out)))), own_apart P2.out P3.out L5.out, own_apart P2.out P4.out (Nat.le_trans L5.out (Nat.le_trans T7.out L7.out)), own_apart P3.out P4.out L7.out⟩)
  obtain ⟨r, hr⟩ : ∃ r, r = stA s (.slice q1 n1 r1) (.slice q2 n2 r2) (.slice q3 n3 r3) (.slice q4 n4 r4) := ⟨_, rfl⟩
  have IR := Lib.hid (show (Try.prog.info? 41).map (·.size) = some r.size by rw [hr]; exact st_info s _ _ _ _)
  have SR := Lib.hid (show r.size = 25 by rw [hr]; rfl)
  have OR := Lib.hid (show r.all (·.oneCell') = true by rw [hr]; exact st_one OF.out)
  have K9' := Lib.hid (show Blk w9 g r 41 by rw [hr]; exact K9.out)
  have HR := Lib.hid hr
  clear hr
  refine wp_region_lit ?_
  refine wpList_val (.agg r) (by rfl) (run_loadVar_of 41 _ rfl g rfl 41 r _ K9'.out Try.underlying41 rfl IR.out) ?_
  (try simp only [Act.put, List.getElem_toArray, List.getElem_cons_succ, List.getElem_cons_zero, List.setIfInBounds_toArray, List.set_cons_zero, List.set_cons_succ])
  refine wpList_store_row rfl 41 _ _ rfl (g + 1) r rfl rfl 41 zz Z9.out IR.out (by rw [ZS.out, SR.out]) OR.out ?_
  (try simp only [Act.put, List.getElem_toArray, List.getElem_cons_succ, List.getElem_cons_zero, List.setIfInBounds_toArray, List.set_cons_zero, List.set_cons_succ])
  refine wpList_nil ?_
  go_wp2_with fail
  refine bodyPost_ret (v := .agg r) (results_cell_row Try.results11 _ _ (g + 1) 41 _ (0, 0) _ rfl (Z9.out.row _) Try.underlying41 rfl IR.out) rfl ?_
  refine ⟨_, _, _, _, by rw [HR.out], ?_, AP.out, below_setRow B9.out (by rw [HG.out]; omega) _⟩
  exact own_row OF.out (own_not I1.out (by have := L1.out; have := S1.out; omega)) (own_not I2.out (by have := L1.out; have := S3.out; omega)) (own_not I3.out (by have := L1.out; have := S5.out; omega)) (own_not I4.out (by have := L1.out; have := S7.out; omega)) r
end Go.Proofs.Ytpbdamnlfpfclaa
