/- bpdu.Group and bpdu.Open. -/
import Derived.Test.YtkohnleeiajiiaaSpeaks5
import Derived.Test.YtkohnleeiajiiaaFEq
namespace Go.Proofs.Ytkohnleeiajiiaa
open Go.RowKit
set_option linter.unusedSimpArgs false
attribute [local irreducible] wpQuiet

/-- The bridges' group. -/
def gF (i : Nat) : Nat := match i with
  | 0 => 1
  | 1 => 128
  | 2 => 194
  | _ => 0
theorem gF_six : Six gF := by unfold Six; decide
theorem gF_num : mac (byteF 1652522221568) = mac gF := by kernel_rfl

set_option maxHeartbeats 1000000 in
theorem group_any (w : World) : Calls Try.prog 15 #[] w fun e w' => e = .returned (mac gF) ∧ Below w.heap.size w w' := by
  have r0 := Blk.new w nil6 39
  have hb := (Below.refl w.heap.size w).alloc (Nat.le_refl _) (Obj.cells nil6 39)
  have hi := Lib.hid size25
  have ho := Lib.hid (macA_one gF)
  have R := Lib.hid r0
  clear r0
  go_enter Try.func15, Try.ntmps15
  go_wp2_with (first
    | (go_at_call 39; refine (fromInt_any 1652522221568 _).mono ?_; rintro e w1 ⟨rfl, hb1⟩; rw [gF_num]
       have r1 := Lib.hid (R.out.below hb1 (by simp)))
    | (refine wpList_store_row rfl 39 _ _ rfl w.heap.size (macA gF) rfl rfl 39 nil6 r1.out hi.out rfl ho.out ?_))
  exact bodyPost_ret (v := mac gF) (results_cell_row Try.results15 _ _ w.heap.size 39 (macA gF) (0, 0) _ rfl (r1.out.row _) Try.underlying39 rfl hi.out) rfl ⟨rfl, below_setRow (hb.trans (hb1.mono hb.size)) (Nat.le_refl _) _⟩

/-- What is answered for a frame. -/
def opBad (d : Nat → Nat) (tg : Bool) (ty : Nat) : Bool := tg || !eqMac d gF || decide (1500 < ty)
def opE (d : Nat → Nat) (tg : Bool) (ty : Nat) (da : ByteArray) : Int := if opBad d tg ty = true then 4 else if da.size < ty then 2 else decE (da.extract 0 ty)
def opP (d : Nat → Nat) (tg : Bool) (ty : Nat) (da : ByteArray) : Pd := if opBad d tg ty = true then kindP 0 else if da.size < ty then kindP 0 else decP (da.extract 0 ty)

/-- The frame, and the result. -/
structure Ow (w0 : World) (g : Nat) (arr : Array Value) (w : World) : Prop where
  blk : Blk w g arr 41
  res : Blk w (g + 1) nil16 31
  below : Below w0.heap.size w0 w
  at0 : w0.heap.size = g

theorem Ow.next {w0 w w' : World} {g : Nat} {arr : Array Value} (h : Ow w0 g arr w) (hb : Below w.heap.size w w') : Ow w0 g arr w' :=
  ⟨h.blk.below hb h.blk.lt, h.res.below hb h.res.lt, h.below.trans (hb.mono h.below.size), h.at0⟩
theorem Ow.drew {w0 w : World} {g : Nat} {arr : Array Value} (h : Ow w0 g arr w) : Ow w0 g arr w.drew := ⟨h.blk.drew, h.res.drew, h.below.drew, h.at0⟩
theorem Ow.cell {w0 w : World} {g : Nat} {arr : Array Value} (h : Ow w0 g arr w) (j : Nat) (v : Value) (hv : arr[j]? = some v) : w.cell? ⟨g, j, none⟩ = some v := by rw [h.blk.cell, hv]
theorem Ow.stored {w0 w : World} {g : Nat} {arr : Array Value} (h : Ow w0 g arr w) (n : Array Value) : Below w0.heap.size w0 (w.setRow (g + 1) n) := below_setRow h.below (by have := h.at0; omega) n
/-- The address that it goes to. -/
def Dst6 (arr : Array Value) (d : Nat → Nat) : Prop := ∀ i, i < 6 → arr[i]? = some (.int .u8 (d i : Nat))
theorem Ow.dst {w0 w : World} {g : Nat} {arr : Array Value} {d : Nat → Nat} (h : Ow w0 g arr w) (hd : Dst6 arr d) : w.cell? ⟨g, 0, none⟩ = some (.int .u8 (d 0 : Nat)) ∧ w.cell? ⟨g, 1, none⟩ = some (.int .u8 (d 1 : Nat)) ∧ w.cell? ⟨g, 2, none⟩ = some (.int .u8 (d 2 : Nat)) ∧ w.cell? ⟨g, 3, none⟩ = some (.int .u8 (d 3 : Nat)) ∧ w.cell? ⟨g, 4, none⟩ = some (.int .u8 (d 4 : Nat)) ∧ w.cell? ⟨g, 5, none⟩ = some (.int .u8 (d 5 : Nat)) :=
  ⟨h.cell 0 _ (hd 0 (by omega)), h.cell 1 _ (hd 1 (by omega)), h.cell 2 _ (hd 2 (by omega)), h.cell 3 _ (hd 3 (by omega)), h.cell 4 _ (hd 4 (by omega)), h.cell 5 _ (hd 5 (by omega))⟩

set_option maxRecDepth 100000 in
set_option maxHeartbeats 4000000 in
theorem open_any (d s : Nat → Nat) (tg : Bool) (pc : Nat) (de : Bool) (vi ty : Nat) (da : ByteArray) (w : World) (hty : ty < 65536) (hda : da.size ≤ maxLen) :
    Calls Try.prog 16 #[.agg (frA d s tg pc de vi ty da)] w fun e w' => e = .returned (.tuple #[.agg (pdA (opP d tg ty da)), .int .i64 (opE d tg ty da)]) ∧ Below w.heap.size w w' := by
  obtain ⟨arr, harr⟩ : ∃ arr, arr = frA d s tg pc de vi ty da := ⟨_, rfl⟩
  have A12 := Lib.hid (show arr[12]? = some (.bool tg) by rw [harr]; rfl)
  have a16 : arr[16]? = some (.int .u16 (ty : Nat)) := by rw [harr]; rfl
  have A17 := Lib.hid (show arr[17]? = some (.string da) by rw [harr]; rfl)
  have D6 := Lib.hid (show Dst6 arr d from fun i hi => by
    rw [harr]
    match i, hi with
    | 0, _ => rfl
    | 1, _ => rfl
    | 2, _ => rfl
    | 3, _ => rfl
    | 4, _ => rfl
    | 5, _ => rfl)
  have hi := Lib.hid size31
  have ho := Lib.hid nil16_one
  rw [← harr]
  clear harr
  obtain ⟨W, hW⟩ : ∃ W, W = (w.alloc (Obj.cells arr 41)).alloc (Obj.cells nil16 31) := ⟨_, rfl⟩
  have O := Lib.hid (show Ow w w.heap.size arr W from by
    rw [hW]
    refine ⟨(Blk.new _ _ _).alloc _, ?_, ((Below.refl _ _).alloc (Nat.le_refl _) _).alloc (by simp) _, rfl⟩
    have := Blk.new (w.alloc (Obj.cells arr 41)) nil16 31
    rwa [show (w.alloc (Obj.cells arr 41)).heap.size = w.heap.size + 1 by simp] at this)
  have HW := Lib.hid hW
  have hml : (da.size : Int) ≤ 9223372036854775807 := by unfold maxLen at hda; omega
  have hE : ∀ e, eqMac d gF = e → ∀ W, (Op.equalIn 10000 39 (mac d) (mac gF)).run Try.prog W = .ok e W := fun e he W => by rw [← he]; exact equal_mac 9998 39 Try.underlying39 d gF W
  clear hW hda
  go_enter Try.func16, Try.ntmps16
  go_upto_region 1 with fail
  simp only [nil16] at HW
  rw [← HW.out]
  clear HW
  generalize hg : w.heap.size = g at *
  have HG := Lib.hid hg
  clear hg
  have c16 := O.out.cell 16 _ a16
  go_upto_region 2 with fail
  cases htg : tg with
  | true =>
    have EE := Lib.hid (show opE d tg ty da = 4 by rw [htg]; unfold opE opBad; rfl)
    have PP := Lib.hid (show opP d tg ty da = kindP 0 by rw [htg]; unfold opP opBad; rfl)
    rw [htg] at A12
    clear htg hE c16
    refine wp_region_quiet (C := Ow w g arr) (by kernel_rfl) (by kernel_rfl) O.out.drew ?_
    (refine q_val (v := ?_) (by rfl) ?_ ?_; rotate_left; (· (intro w hC; go_simp; try with_reducible rfl)); (try simp only [Act.put, List.getElem_toArray, List.getElem_cons_succ, List.getElem_cons_zero, List.setIfInBounds_toArray, List.set_cons_zero, List.set_cons_succ]))
    (refine q_val (v := ?_) (by rfl) ?_ ?_; rotate_left; (· (intro w hC; have c := hC.cell 12 _ A12.out; go_simp; try with_reducible rfl)); (try simp only [Act.put, List.getElem_toArray, List.getElem_cons_succ, List.getElem_cons_zero, List.setIfInBounds_toArray, List.set_cons_zero, List.set_cons_succ]))
    (refine q_val (v := ?_) (by rfl) ?_ ?_; rotate_left; (· (intro w hC; go_simp; try with_reducible rfl)); (try simp only [Act.put, List.getElem_toArray, List.getElem_cons_succ, List.getElem_cons_zero, List.setIfInBounds_toArray, List.set_cons_zero, List.set_cons_succ]))
    (refine q_skip (by rfl) ?_; (try simp only [Act.put, List.getElem_toArray, List.getElem_cons_succ, List.getElem_cons_zero, List.setIfInBounds_toArray, List.set_cons_zero, List.set_cons_succ]))
    (refine q_skip (by rfl) ?_; (try simp only [Act.put, List.getElem_toArray, List.getElem_cons_succ, List.getElem_cons_zero, List.setIfInBounds_toArray, List.set_cons_zero, List.set_cons_succ]))
    (refine q_skip (by rfl) ?_; (try simp only [Act.put, List.getElem_toArray, List.getElem_cons_succ, List.getElem_cons_zero, List.setIfInBounds_toArray, List.set_cons_zero, List.set_cons_succ]))
    (refine q_skip (by rfl) ?_; (try simp only [Act.put, List.getElem_toArray, List.getElem_cons_succ, List.getElem_cons_zero, List.setIfInBounds_toArray, List.set_cons_zero, List.set_cons_succ]))
    (refine q_val (v := ?_) (by rfl) ?_ ?_; rotate_left; (· (intro w hC; go_simp; try with_reducible rfl)); (try simp only [Act.put, List.getElem_toArray, List.getElem_cons_succ, List.getElem_cons_zero, List.setIfInBounds_toArray, List.set_cons_zero, List.set_cons_succ]))
    (refine q_val (v := ?_) (by rfl) ?_ ?_; rotate_left; (· (intro w hC; go_simp; try with_reducible rfl)); (try simp only [Act.put, List.getElem_toArray, List.getElem_cons_succ, List.getElem_cons_zero, List.setIfInBounds_toArray, List.set_cons_zero, List.set_cons_succ]))
    (refine q_skip (by rfl) ?_; (try simp only [Act.put, List.getElem_toArray, List.getElem_cons_succ, List.getElem_cons_zero, List.setIfInBounds_toArray, List.set_cons_zero, List.set_cons_succ]))
    (refine q_skip (by rfl) ?_; (try simp only [Act.put, List.getElem_toArray, List.getElem_cons_succ, List.getElem_cons_zero, List.setIfInBounds_toArray, List.set_cons_zero, List.set_cons_succ]))
    (refine q_val (v := ?_) (by rfl) ?_ ?_; rotate_left; (· (intro w hC; go_simp; try with_reducible rfl)); (try simp only [Act.put, List.getElem_toArray, List.getElem_cons_succ, List.getElem_cons_zero, List.setIfInBounds_toArray, List.set_cons_zero, List.set_cons_succ]))
    (refine q_val (v := ?_) (by rfl) ?_ ?_; rotate_left; (· (intro w hC; go_simp; try with_reducible rfl)); (try simp only [Act.put, List.getElem_toArray, List.getElem_cons_succ, List.getElem_cons_zero, List.setIfInBounds_toArray, List.set_cons_zero, List.set_cons_succ]))
    refine wpQuiet_nil ?_
    intro w2 hC
    have O2 := Lib.hid hC
    clear hC
    go_wp2_with (refine wpList_store_row rfl 31 _ _ rfl (g + 1) nil16 rfl rfl 31 nil16 O2.out.res hi.out rfl ho.out ?_)
    exact bodyPost_ret (v := .tuple #[.agg (nil16), .int .i64 4]) (results_row_tmp Try.results16 _ _ (g + 1) 31 (nil16) _ _ rfl rfl (O2.out.res.row _) Try.underlying31 rfl hi.out) rfl ⟨ret_dec (by rw [PP.out]; rfl) (EE.out.symm), O2.out.stored _⟩
  | false =>
    rw [htg] at A12
    cases hm : eqMac d gF with
    | false =>
      have EE := Lib.hid (show opE d tg ty da = 4 by rw [htg]; unfold opE opBad; rw [hm]; rfl)
      have PP := Lib.hid (show opP d tg ty da = kindP 0 by rw [htg]; unfold opP opBad; rw [hm]; rfl)
      have HEQ := Lib.hid (hE _ hm)
      clear htg hm hE c16
      refine wp_region_quiet (C := Ow w g arr) (by kernel_rfl) (by kernel_rfl) O.out.drew ?_
      (refine q_val (v := ?_) (by rfl) ?_ ?_; rotate_left; (· (intro w hC; go_simp; try with_reducible rfl)); (try simp only [Act.put, List.getElem_toArray, List.getElem_cons_succ, List.getElem_cons_zero, List.setIfInBounds_toArray, List.set_cons_zero, List.set_cons_succ]))
      (refine q_val (v := ?_) (by rfl) ?_ ?_; rotate_left; (· (intro w hC; have c := hC.cell 12 _ A12.out; go_simp; try with_reducible rfl)); (try simp only [Act.put, List.getElem_toArray, List.getElem_cons_succ, List.getElem_cons_zero, List.setIfInBounds_toArray, List.set_cons_zero, List.set_cons_succ]))
      (refine q_val (v := ?_) (by rfl) ?_ ?_; rotate_left; (· (intro w hC; go_simp; try with_reducible rfl)); (try simp only [Act.put, List.getElem_toArray, List.getElem_cons_succ, List.getElem_cons_zero, List.setIfInBounds_toArray, List.set_cons_zero, List.set_cons_succ]))
      (refine q_val (v := ?_) (by rfl) ?_ ?_; rotate_left; (· (intro w hC; go_simp; try with_reducible rfl)); (try simp only [Act.put, List.getElem_toArray, List.getElem_cons_succ, List.getElem_cons_zero, List.setIfInBounds_toArray, List.set_cons_zero, List.set_cons_succ]))
      (refine q_val (v := ?_) (by rfl) ?_ ?_; rotate_left; (· (intro w hC; obtain ⟨c0, c1, c2, c3, c4, c5⟩ := hC.dst D6.out; go_simp; try with_reducible rfl)); (try simp only [Act.put, List.getElem_toArray, List.getElem_cons_succ, List.getElem_cons_zero, List.setIfInBounds_toArray, List.set_cons_zero, List.set_cons_succ]))
      (refine q_call (v := (mac gF)) 15 #[] (by rfl) (fun w hC => by go_simp) (fun w hC => calls_in (group_any w) (fun w' hb => hC.next hb)) ?_; (try simp only [Act.put, List.getElem_toArray, List.getElem_cons_succ, List.getElem_cons_zero, List.setIfInBounds_toArray, List.set_cons_zero, List.set_cons_succ]))
      (refine q_val (v := ?_) (by rfl) ?_ ?_; rotate_left; (· (intro w hC; have e := HEQ.out w; go_simp; try with_reducible rfl)); (try simp only [Act.put, List.getElem_toArray, List.getElem_cons_succ, List.getElem_cons_zero, List.setIfInBounds_toArray, List.set_cons_zero, List.set_cons_succ]))
      (refine q_val (v := ?_) (by rfl) ?_ ?_; rotate_left; (· (intro w hC; go_simp; try with_reducible rfl)); (try simp only [Act.put, List.getElem_toArray, List.getElem_cons_succ, List.getElem_cons_zero, List.setIfInBounds_toArray, List.set_cons_zero, List.set_cons_succ]))
      (refine q_val (v := ?_) (by rfl) ?_ ?_; rotate_left; (· (intro w hC; go_simp; try with_reducible rfl)); (try simp only [Act.put, List.getElem_toArray, List.getElem_cons_succ, List.getElem_cons_zero, List.setIfInBounds_toArray, List.set_cons_zero, List.set_cons_succ]))
      (refine q_skip (by rfl) ?_; (try simp only [Act.put, List.getElem_toArray, List.getElem_cons_succ, List.getElem_cons_zero, List.setIfInBounds_toArray, List.set_cons_zero, List.set_cons_succ]))
      (refine q_skip (by rfl) ?_; (try simp only [Act.put, List.getElem_toArray, List.getElem_cons_succ, List.getElem_cons_zero, List.setIfInBounds_toArray, List.set_cons_zero, List.set_cons_succ]))
      (refine q_val (v := ?_) (by rfl) ?_ ?_; rotate_left; (· (intro w hC; go_simp; try with_reducible rfl)); (try simp only [Act.put, List.getElem_toArray, List.getElem_cons_succ, List.getElem_cons_zero, List.setIfInBounds_toArray, List.set_cons_zero, List.set_cons_succ]))
      (refine q_val (v := ?_) (by rfl) ?_ ?_; rotate_left; (· (intro w hC; go_simp; try with_reducible rfl)); (try simp only [Act.put, List.getElem_toArray, List.getElem_cons_succ, List.getElem_cons_zero, List.setIfInBounds_toArray, List.set_cons_zero, List.set_cons_succ]))
      refine wpQuiet_nil ?_
      intro w2 hC
      have O2 := Lib.hid hC
      clear hC
      go_wp2_with (refine wpList_store_row rfl 31 _ _ rfl (g + 1) nil16 rfl rfl 31 nil16 O2.out.res hi.out rfl ho.out ?_)
      exact bodyPost_ret (v := .tuple #[.agg (nil16), .int .i64 4]) (results_row_tmp Try.results16 _ _ (g + 1) 31 (nil16) _ _ rfl rfl (O2.out.res.row _) Try.underlying31 rfl hi.out) rfl ⟨ret_dec (by rw [PP.out]; rfl) (EE.out.symm), O2.out.stored _⟩
    | true =>
      have HEQ := Lib.hid (hE _ hm)
      by_cases h15 : 1500 < ty
      · have EE := Lib.hid (show opE d tg ty da = 4 by rw [htg]; unfold opE opBad; rw [hm, decide_eq_true h15]; rfl)
        have PP := Lib.hid (show opP d tg ty da = kindP 0 by rw [htg]; unfold opP opBad; rw [hm, decide_eq_true h15]; rfl)
        have HT := Lib.hid (show (1500 : Int) < (ty : Int) by omega)
        clear htg hm hE c16 h15
        refine wp_region_quiet (C := Ow w g arr) (by kernel_rfl) (by kernel_rfl) O.out.drew ?_
        (refine q_val (v := ?_) (by rfl) ?_ ?_; rotate_left; (· (intro w hC; go_simp; try with_reducible rfl)); (try simp only [Act.put, List.getElem_toArray, List.getElem_cons_succ, List.getElem_cons_zero, List.setIfInBounds_toArray, List.set_cons_zero, List.set_cons_succ]))
        (refine q_val (v := ?_) (by rfl) ?_ ?_; rotate_left; (· (intro w hC; have c := hC.cell 12 _ A12.out; go_simp; try with_reducible rfl)); (try simp only [Act.put, List.getElem_toArray, List.getElem_cons_succ, List.getElem_cons_zero, List.setIfInBounds_toArray, List.set_cons_zero, List.set_cons_succ]))
        (refine q_val (v := ?_) (by rfl) ?_ ?_; rotate_left; (· (intro w hC; go_simp; try with_reducible rfl)); (try simp only [Act.put, List.getElem_toArray, List.getElem_cons_succ, List.getElem_cons_zero, List.setIfInBounds_toArray, List.set_cons_zero, List.set_cons_succ]))
        (refine q_val (v := ?_) (by rfl) ?_ ?_; rotate_left; (· (intro w hC; go_simp; try with_reducible rfl)); (try simp only [Act.put, List.getElem_toArray, List.getElem_cons_succ, List.getElem_cons_zero, List.setIfInBounds_toArray, List.set_cons_zero, List.set_cons_succ]))
        (refine q_val (v := ?_) (by rfl) ?_ ?_; rotate_left; (· (intro w hC; obtain ⟨c0, c1, c2, c3, c4, c5⟩ := hC.dst D6.out; go_simp; try with_reducible rfl)); (try simp only [Act.put, List.getElem_toArray, List.getElem_cons_succ, List.getElem_cons_zero, List.setIfInBounds_toArray, List.set_cons_zero, List.set_cons_succ]))
        (refine q_call (v := (mac gF)) 15 #[] (by rfl) (fun w hC => by go_simp) (fun w hC => calls_in (group_any w) (fun w' hb => hC.next hb)) ?_; (try simp only [Act.put, List.getElem_toArray, List.getElem_cons_succ, List.getElem_cons_zero, List.setIfInBounds_toArray, List.set_cons_zero, List.set_cons_succ]))
        (refine q_val (v := ?_) (by rfl) ?_ ?_; rotate_left; (· (intro w hC; have e := HEQ.out w; go_simp; try with_reducible rfl)); (try simp only [Act.put, List.getElem_toArray, List.getElem_cons_succ, List.getElem_cons_zero, List.setIfInBounds_toArray, List.set_cons_zero, List.set_cons_succ]))
        (refine q_val (v := ?_) (by rfl) ?_ ?_; rotate_left; (· (intro w hC; go_simp; try with_reducible rfl)); (try simp only [Act.put, List.getElem_toArray, List.getElem_cons_succ, List.getElem_cons_zero, List.setIfInBounds_toArray, List.set_cons_zero, List.set_cons_succ]))
        (refine q_val (v := ?_) (by rfl) ?_ ?_; rotate_left; (· (intro w hC; go_simp; try with_reducible rfl)); (try simp only [Act.put, List.getElem_toArray, List.getElem_cons_succ, List.getElem_cons_zero, List.setIfInBounds_toArray, List.set_cons_zero, List.set_cons_succ]))
        (refine q_val (v := ?_) (by rfl) ?_ ?_; rotate_left; (· (intro w hC; go_simp; try with_reducible rfl)); (try simp only [Act.put, List.getElem_toArray, List.getElem_cons_succ, List.getElem_cons_zero, List.setIfInBounds_toArray, List.set_cons_zero, List.set_cons_succ]))
        (refine q_val (v := ?_) (by rfl) ?_ ?_; rotate_left; (· (intro w hC; have e := HT.out; go_simp; try with_reducible rfl)); (try simp only [Act.put, List.getElem_toArray, List.getElem_cons_succ, List.getElem_cons_zero, List.setIfInBounds_toArray, List.set_cons_zero, List.set_cons_succ]))
        (refine q_val (v := ?_) (by rfl) ?_ ?_; rotate_left; (· (intro w hC; go_simp; try with_reducible rfl)); (try simp only [Act.put, List.getElem_toArray, List.getElem_cons_succ, List.getElem_cons_zero, List.setIfInBounds_toArray, List.set_cons_zero, List.set_cons_succ]))
        (refine q_val (v := ?_) (by rfl) ?_ ?_; rotate_left; (· (intro w hC; go_simp; try with_reducible rfl)); (try simp only [Act.put, List.getElem_toArray, List.getElem_cons_succ, List.getElem_cons_zero, List.setIfInBounds_toArray, List.set_cons_zero, List.set_cons_succ]))
        refine wpQuiet_nil ?_
        intro w2 hC
        have O2 := Lib.hid hC
        clear hC
        go_wp2_with (refine wpList_store_row rfl 31 _ _ rfl (g + 1) nil16 rfl rfl 31 nil16 O2.out.res hi.out rfl ho.out ?_)
        exact bodyPost_ret (v := .tuple #[.agg (nil16), .int .i64 4]) (results_row_tmp Try.results16 _ _ (g + 1) 31 (nil16) _ _ rfl rfl (O2.out.res.row _) Try.underlying31 rfl hi.out) rfl ⟨ret_dec (by rw [PP.out]; rfl) (EE.out.symm), O2.out.stored _⟩
      · have E0 := Lib.hid (show opE d tg ty da = if da.size < ty then 2 else decE (da.extract 0 ty) by rw [htg]; unfold opE opBad; rw [hm, decide_eq_false h15]; rfl)
        have P0 := Lib.hid (show opP d tg ty da = if da.size < ty then kindP 0 else decP (da.extract 0 ty) by rw [htg]; unfold opP opBad; rw [hm, decide_eq_false h15]; rfl)
        have HT := Lib.hid (show ¬ (1500 : Int) < (ty : Int) by omega)
        clear htg hm hE c16 h15
        refine wp_region_quiet (C := Ow w g arr) (by kernel_rfl) (by kernel_rfl) O.out.drew ?_
        (refine q_val (v := ?_) (by rfl) ?_ ?_; rotate_left; (· (intro w hC; go_simp; try with_reducible rfl)); (try simp only [Act.put, List.getElem_toArray, List.getElem_cons_succ, List.getElem_cons_zero, List.setIfInBounds_toArray, List.set_cons_zero, List.set_cons_succ]))
        (refine q_val (v := ?_) (by rfl) ?_ ?_; rotate_left; (· (intro w hC; have c := hC.cell 12 _ A12.out; go_simp; try with_reducible rfl)); (try simp only [Act.put, List.getElem_toArray, List.getElem_cons_succ, List.getElem_cons_zero, List.setIfInBounds_toArray, List.set_cons_zero, List.set_cons_succ]))
        (refine q_val (v := ?_) (by rfl) ?_ ?_; rotate_left; (· (intro w hC; go_simp; try with_reducible rfl)); (try simp only [Act.put, List.getElem_toArray, List.getElem_cons_succ, List.getElem_cons_zero, List.setIfInBounds_toArray, List.set_cons_zero, List.set_cons_succ]))
        (refine q_val (v := ?_) (by rfl) ?_ ?_; rotate_left; (· (intro w hC; go_simp; try with_reducible rfl)); (try simp only [Act.put, List.getElem_toArray, List.getElem_cons_succ, List.getElem_cons_zero, List.setIfInBounds_toArray, List.set_cons_zero, List.set_cons_succ]))
        (refine q_val (v := ?_) (by rfl) ?_ ?_; rotate_left; (· (intro w hC; obtain ⟨c0, c1, c2, c3, c4, c5⟩ := hC.dst D6.out; go_simp; try with_reducible rfl)); (try simp only [Act.put, List.getElem_toArray, List.getElem_cons_succ, List.getElem_cons_zero, List.setIfInBounds_toArray, List.set_cons_zero, List.set_cons_succ]))
        (refine q_call (v := (mac gF)) 15 #[] (by rfl) (fun w hC => by go_simp) (fun w hC => calls_in (group_any w) (fun w' hb => hC.next hb)) ?_; (try simp only [Act.put, List.getElem_toArray, List.getElem_cons_succ, List.getElem_cons_zero, List.setIfInBounds_toArray, List.set_cons_zero, List.set_cons_succ]))
        (refine q_val (v := ?_) (by rfl) ?_ ?_; rotate_left; (· (intro w hC; have e := HEQ.out w; go_simp; try with_reducible rfl)); (try simp only [Act.put, List.getElem_toArray, List.getElem_cons_succ, List.getElem_cons_zero, List.setIfInBounds_toArray, List.set_cons_zero, List.set_cons_succ]))
        (refine q_val (v := ?_) (by rfl) ?_ ?_; rotate_left; (· (intro w hC; go_simp; try with_reducible rfl)); (try simp only [Act.put, List.getElem_toArray, List.getElem_cons_succ, List.getElem_cons_zero, List.setIfInBounds_toArray, List.set_cons_zero, List.set_cons_succ]))
        (refine q_val (v := ?_) (by rfl) ?_ ?_; rotate_left; (· (intro w hC; go_simp; try with_reducible rfl)); (try simp only [Act.put, List.getElem_toArray, List.getElem_cons_succ, List.getElem_cons_zero, List.setIfInBounds_toArray, List.set_cons_zero, List.set_cons_succ]))
        (refine q_val (v := ?_) (by rfl) ?_ ?_; rotate_left; (· (intro w hC; go_simp; try with_reducible rfl)); (try simp only [Act.put, List.getElem_toArray, List.getElem_cons_succ, List.getElem_cons_zero, List.setIfInBounds_toArray, List.set_cons_zero, List.set_cons_succ]))
        (refine q_val (v := ?_) (by rfl) ?_ ?_; rotate_left; (· (intro w hC; have e := HT.out; go_simp; try with_reducible rfl)); (try simp only [Act.put, List.getElem_toArray, List.getElem_cons_succ, List.getElem_cons_zero, List.setIfInBounds_toArray, List.set_cons_zero, List.set_cons_succ]))
        (refine q_val (v := ?_) (by rfl) ?_ ?_; rotate_left; (· (intro w hC; go_simp; try with_reducible rfl)); (try simp only [Act.put, List.getElem_toArray, List.getElem_cons_succ, List.getElem_cons_zero, List.setIfInBounds_toArray, List.set_cons_zero, List.set_cons_succ]))
        (refine q_val (v := ?_) (by rfl) ?_ ?_; rotate_left; (· (intro w hC; go_simp; try with_reducible rfl)); (try simp only [Act.put, List.getElem_toArray, List.getElem_cons_succ, List.getElem_cons_zero, List.setIfInBounds_toArray, List.set_cons_zero, List.set_cons_succ]))
        refine wpQuiet_nil ?_
        intro w2 hC
        have O2 := Lib.hid hC
        clear hC
        have c17 := O2.out.cell 17 _ A17.out
        by_cases hs : da.size < ty
        · have EE := Lib.hid (show opE d tg ty da = 2 by rw [E0.out, if_pos hs])
          have PP := Lib.hid (show opP d tg ty da = kindP 0 by rw [P0.out, if_pos hs])
          have hs' : (da.size : Int) < (ty : Int) := by omega
          clear hs
          go_wp2_with (refine wpList_store_row rfl 31 _ _ rfl (g + 1) nil16 rfl rfl 31 nil16 O2.out.res hi.out rfl ho.out ?_)
          exact bodyPost_ret (v := .tuple #[.agg (nil16), .int .i64 2]) (results_row_tmp Try.results16 _ _ (g + 1) 31 (nil16) _ _ rfl rfl (O2.out.res.row _) Try.underlying31 rfl hi.out) rfl ⟨ret_dec (by rw [PP.out]; rfl) (EE.out.symm), O2.out.stored _⟩
        · have EE := Lib.hid (show opE d tg ty da = decE (da.extract 0 ty) by rw [E0.out, if_neg hs])
          have PP := Lib.hid (show opP d tg ty da = decP (da.extract 0 ty) by rw [P0.out, if_neg hs])
          have hs' : ¬ (da.size : Int) < (ty : Int) := by omega
          have hs2 : (ty : Int) ≤ (da.size : Int) := by omega
          clear hs
          go_wp2_with (first
            | (go_at_call 14; refine (pdecode_any (da.extract 0 ty) _).mono ?_; rintro e w3 ⟨rfl, hb⟩
               have O3 := Lib.hid (O2.out.next hb))
            | (refine wpList_store_row rfl 31 _ _ rfl (g + 1) (pdA (decP (da.extract 0 ty))) rfl rfl 31 nil16 O3.out.res hi.out rfl (pdA_one _) ?_))
          exact bodyPost_ret (v := .tuple #[.agg (pdA (decP (da.extract 0 ty))), .int .i64 (decE (da.extract 0 ty))]) (results_row_tmp Try.results16 _ _ (g + 1) 31 (pdA (decP (da.extract 0 ty))) _ _ rfl rfl (O3.out.res.row _) Try.underlying31 rfl hi.out) rfl ⟨ret_dec (by rw [PP.out]) (EE.out.symm), O3.out.stored _⟩
end Go.Proofs.Ytkohnleeiajiiaa
