/- BpduOpens, walked: for every frame it returns true. -/
import Derived.Test.YtkohnleeiajiiaaOpen5
import Derived.Test.YtkohnleeiajiiaaInv
import Derived.Deep.RegionHeld3
namespace Go.Proofs.Ytkohnleeiajiiaa
open Go.RowKit
set_option linter.unusedSimpArgs false
set_option linter.unusedVariables false

/-- What is asked: its cells. -/
abbrev akA (d : Nat → Nat) (tg : Bool) (ty : Nat) (da : ByteArray) : Array Value := #[.int .u8 (d 0 : Nat), .int .u8 (d 1 : Nat), .int .u8 (d 2 : Nat), .int .u8 (d 3 : Nat), .int .u8 (d 4 : Nat), .int .u8 (d 5 : Nat), .bool tg, .int .u16 (ty : Nat), .string da]

theorem OneC.dst {w0 w : World} {g : Nat} {arr : Array Value} {t : TypeId} {d : Nat → Nat} (h : OneC w0 g arr t w) (hd : Dst6 arr d) : w.cell? ⟨g, 0, none⟩ = some (.int .u8 (d 0 : Nat)) ∧ w.cell? ⟨g, 1, none⟩ = some (.int .u8 (d 1 : Nat)) ∧ w.cell? ⟨g, 2, none⟩ = some (.int .u8 (d 2 : Nat)) ∧ w.cell? ⟨g, 3, none⟩ = some (.int .u8 (d 3 : Nat)) ∧ w.cell? ⟨g, 4, none⟩ = some (.int .u8 (d 4 : Nat)) ∧ w.cell? ⟨g, 5, none⟩ = some (.int .u8 (d 5 : Nat)) :=
  ⟨h.cell 0 _ (hd 0 (by omega)), h.cell 1 _ (hd 1 (by omega)), h.cell 2 _ (hd 2 (by omega)), h.cell 3 _ (hd 3 (by omega)), h.cell 4 _ (hd 4 (by omega)), h.cell 5 _ (hd 5 (by omega))⟩

theorem min_i64 (a b : Int) (w : World) : (Builtin.min_ #[3, 3] 3 #[.int .i64 a, .int .i64 b]).run Try.prog w = .ok (.int .i64 (if b < a then b else a)) w := by
  by_cases c : b < a
  · simp [Builtin.min_, Builtin.min2, go_sem, c]
  · simp [Builtin.min_, Builtin.min2, go_sem, c]

theorem nil_v : pdV (kindP 0) = .agg #[.int .u8 0, .bool false, .bool false, .bool false, .bool false, .bool false, .bool false, .int .u8 0, .int .u64 0, .int .u32 0, .int .u64 0, .int .u16 0, .int .u16 0, .int .u16 0, .int .u16 0, .int .u16 0] := rfl
theorem g_v : mac gF = .agg #[.int .u8 1, .int .u8 128, .int .u8 194, .int .u8 0, .int .u8 0, .int .u8 0] := rfl
theorem nil_cells {w : World} {h : Nat} (b : Blk w h (pdA (kindP 0)) 31) : w.cell? ⟨h, 0, none⟩ = some (.int .u8 0) ∧ w.cell? ⟨h, 1, none⟩ = some (.bool false) ∧ w.cell? ⟨h, 2, none⟩ = some (.bool false) ∧ w.cell? ⟨h, 3, none⟩ = some (.bool false) ∧ w.cell? ⟨h, 4, none⟩ = some (.bool false) ∧ w.cell? ⟨h, 5, none⟩ = some (.bool false) ∧ w.cell? ⟨h, 6, none⟩ = some (.bool false) ∧ w.cell? ⟨h, 7, none⟩ = some (.int .u8 0) ∧ w.cell? ⟨h, 8, none⟩ = some (.int .u64 0) ∧ w.cell? ⟨h, 9, none⟩ = some (.int .u32 0) ∧ w.cell? ⟨h, 10, none⟩ = some (.int .u64 0) ∧ w.cell? ⟨h, 11, none⟩ = some (.int .u16 0) ∧ w.cell? ⟨h, 12, none⟩ = some (.int .u16 0) ∧ w.cell? ⟨h, 13, none⟩ = some (.int .u16 0) ∧ w.cell? ⟨h, 14, none⟩ = some (.int .u16 0) ∧ w.cell? ⟨h, 15, none⟩ = some (.int .u16 0) :=
  ⟨b.cell 0, b.cell 1, b.cell 2, b.cell 3, b.cell 4, b.cell 5, b.cell 6, b.cell 7, b.cell 8, b.cell 9, b.cell 10, b.cell 11, b.cell 12, b.cell 13, b.cell 14, b.cell 15⟩
theorem nil_eq (W : World) : (Op.equalIn 10000 31 (.agg #[.int .u8 0, .bool false, .bool false, .bool false, .bool false, .bool false, .bool false, .int .u8 0, .int .u64 0, .int .u32 0, .int .u64 0, .int .u16 0, .int .u16 0, .int .u16 0, .int .u16 0, .int .u16 0]) (.agg #[.int .u8 0, .bool false, .bool false, .bool false, .bool false, .bool false, .bool false, .int .u8 0, .int .u64 0, .int .u32 0, .int .u64 0, .int .u16 0, .int .u16 0, .int .u16 0, .int .u16 0, .int .u16 0])).run Try.prog W = .ok true W := by
  have h := equal_pd31 (kindP 0) (kindP 0) W
  rw [nil_v, eqP_self] at h
  exact h
theorem size27 : (Try.prog.info? 27).map (·.size) = some 6 := by kernel_rfl

set_option maxRecDepth 100000 in
set_option maxHeartbeats 8000000 in
theorem opens_walk (d : Nat → Nat) (tg : Bool) (ty : Nat) (da : ByteArray) (w : World) (hty : ty < 65536) (hda : da.size ≤ maxLen) :
    Calls Try.prog 5 #[.agg (akA d tg ty da)] w fun e w' => e = .returned (.bool true) ∧ Below w.heap.size w w' := by
  obtain ⟨arr, harr⟩ : ∃ arr, arr = akA d tg ty da := ⟨_, rfl⟩
  have A6 := Lib.hid (show arr[6]? = some (.bool tg) by rw [harr]; rfl)
  have A7 := Lib.hid (show arr[7]? = some (.int .u16 (ty : Nat)) by rw [harr]; rfl)
  have A8 := Lib.hid (show arr[8]? = some (.string da) by rw [harr]; rfl)
  have D6 := Lib.hid (show Dst6 arr d from fun i hi => by
    rw [harr]
    match i, hi with
    | 0, _ => rfl
    | 1, _ => rfl
    | 2, _ => rfl
    | 3, _ => rfl
    | 4, _ => rfl
    | 5, _ => rfl)
  rw [← harr]
  clear harr
  obtain ⟨n, hn, hn2⟩ : ∃ n : Nat, n ≤ da.size ∧ (if (60 : Int) < (da.size : Int) then (60 : Int) else (da.size : Int)) = (n : Int) ∧ n ≤ 60 := by
    by_cases c : da.size ≤ 60
    · exact ⟨da.size, Nat.le_refl _, by rw [if_neg (by omega)], c⟩
    · exact ⟨60, by omega, by rw [if_pos (by omega)]; rfl, Nat.le_refl _⟩
  have HMIN := Lib.hid (show ∀ W, (Builtin.min_ #[3, 3] 3 #[.int .i64 (da.size : Int), .int .i64 60]).run Try.prog W = .ok (.int .i64 (n : Nat)) W from fun W => by rw [min_i64, hn2.1])
  have HNI := Lib.hid (show (0 : Int) ≤ (n : Int) ∧ (n : Int) ≤ (da.size : Int) by omega)
  obtain ⟨db, hdb⟩ : ∃ db, db = da.extract 0 n := ⟨_, rfl⟩
  have DB := Lib.hid hdb.symm
  have dbl : db.size ≤ maxLen := by rw [hdb]; unfold maxLen at hda ⊢; simp; omega
  have O := Lib.hid (OneC.new w arr 54)
  have hi := Lib.hid size31
  have ho := Lib.hid size27
  clear hn hn2 hdb hda
  go_enter Try.func5, Try.ntmps5
  go_upto_region 1 with fail
  obtain ⟨w0, hw0⟩ : ∃ w0, w0 = w.alloc (Obj.cells arr 54) := ⟨_, rfl⟩
  rw [← hw0] at O ⊢
  clear hw0
  generalize hg : w.heap.size = g at *
  have HG := Lib.hid hg
  clear hg
  go_wp2_with fail
  refine (speaks5_any _).mono ?_
  rintro e w1 ⟨rfl, hb1⟩
  have O1a := O.out.next hb1
  have O1 := O1a.drew
  clear hb1 O
  go_upto_region 3 with fail
  refine wp_region_held_drew (S := OneC w g arr 54) (by kernel_rfl) O1 (fun hHeld => ?_)
  (refine wpAnyH_take (i := 0) (v := ?_) rfl (by kernel_rfl) (by kernel_rfl) (by kernel_rfl) (fun _ _ _ h => h) (Or.inl ⟨by rfl, ?_⟩) (by assumption) ?_; rotate_left; (· (intro w hSw; go_simp; try with_reducible rfl)); (try simp only [Act.put, List.getElem_toArray, List.getElem_cons_succ, List.getElem_cons_zero, List.setIfInBounds_toArray, List.set_cons_zero, List.set_cons_succ]))
  (refine wpAnyH_take (i := 1) (v := ?_) rfl (by kernel_rfl) (by kernel_rfl) (by kernel_rfl) (fun _ _ _ h => h) (Or.inl ⟨by rfl, ?_⟩) (by assumption) ?_; rotate_left; (· (intro w hSw; obtain ⟨c0, c1, c2, c3, c4, c5⟩ := hSw.dst D6.out; go_simp; try with_reducible rfl)); (try simp only [Act.put, List.getElem_toArray, List.getElem_cons_succ, List.getElem_cons_zero, List.setIfInBounds_toArray, List.set_cons_zero, List.set_cons_succ]))
  (refine wpAnyH_take (i := 2) (v := ?_) rfl (by kernel_rfl) (by kernel_rfl) (by kernel_rfl) (fun _ _ _ h => h) (Or.inl ⟨by rfl, ?_⟩) (by assumption) ?_; rotate_left; (· (intro w hSw; go_simp; try with_reducible rfl)); (try simp only [Act.put, List.getElem_toArray, List.getElem_cons_succ, List.getElem_cons_zero, List.setIfInBounds_toArray, List.set_cons_zero, List.set_cons_succ]))
  (refine wpAnyH_take (i := 3) (v := ?_) rfl (by kernel_rfl) (by kernel_rfl) (by kernel_rfl) (fun _ _ _ h => h) (Or.inl ⟨by rfl, ?_⟩) (by assumption) ?_; rotate_left; (· (intro w hSw; have c := hSw.cell 6 _ A6.out; go_simp; try with_reducible rfl)); (try simp only [Act.put, List.getElem_toArray, List.getElem_cons_succ, List.getElem_cons_zero, List.setIfInBounds_toArray, List.set_cons_zero, List.set_cons_succ]))
  (refine wpAnyH_take (i := 4) (v := ?_) rfl (by kernel_rfl) (by kernel_rfl) (by kernel_rfl) (fun _ _ _ h => h) (Or.inl ⟨by rfl, ?_⟩) (by assumption) ?_; rotate_left; (· (intro w hSw; go_simp; try with_reducible rfl)); (try simp only [Act.put, List.getElem_toArray, List.getElem_cons_succ, List.getElem_cons_zero, List.setIfInBounds_toArray, List.set_cons_zero, List.set_cons_succ]))
  (refine wpAnyH_take (i := 5) (v := ?_) rfl (by kernel_rfl) (by kernel_rfl) (by kernel_rfl) (fun _ _ _ h => h) (Or.inl ⟨by rfl, ?_⟩) (by assumption) ?_; rotate_left; (· (intro w hSw; have c := hSw.cell 7 _ A7.out; go_simp; try with_reducible rfl)); (try simp only [Act.put, List.getElem_toArray, List.getElem_cons_succ, List.getElem_cons_zero, List.setIfInBounds_toArray, List.set_cons_zero, List.set_cons_succ]))
  (refine wpAnyH_take (i := 6) (v := ?_) rfl (by kernel_rfl) (by kernel_rfl) (by kernel_rfl) (fun _ _ _ h => h) (Or.inl ⟨by rfl, ?_⟩) (by assumption) ?_; rotate_left; (· (intro w hSw; go_simp; try with_reducible rfl)); (try simp only [Act.put, List.getElem_toArray, List.getElem_cons_succ, List.getElem_cons_zero, List.setIfInBounds_toArray, List.set_cons_zero, List.set_cons_succ]))
  (refine wpAnyH_take (i := 7) (v := ?_) rfl (by kernel_rfl) (by kernel_rfl) (by kernel_rfl) (fun _ _ _ h => h) (Or.inl ⟨by rfl, ?_⟩) (by assumption) ?_; rotate_left; (· (intro w hSw; have c := hSw.cell 8 _ A8.out; go_simp; try with_reducible rfl)); (try simp only [Act.put, List.getElem_toArray, List.getElem_cons_succ, List.getElem_cons_zero, List.setIfInBounds_toArray, List.set_cons_zero, List.set_cons_succ]))
  (refine wpAnyH_take (i := 8) (v := ?_) rfl (by kernel_rfl) (by kernel_rfl) (by kernel_rfl) (fun _ _ _ h => h) (Or.inl ⟨by rfl, ?_⟩) (by assumption) ?_; rotate_left; (· (intro w hSw; go_simp; try with_reducible rfl)); (try simp only [Act.put, List.getElem_toArray, List.getElem_cons_succ, List.getElem_cons_zero, List.setIfInBounds_toArray, List.set_cons_zero, List.set_cons_succ]))
  (refine wpAnyH_take (i := 9) (v := ?_) rfl (by kernel_rfl) (by kernel_rfl) (by kernel_rfl) (fun _ _ _ h => h) (Or.inl ⟨by rfl, ?_⟩) (by assumption) ?_; rotate_left; (· (intro w hSw; have c := hSw.cell 8 _ A8.out; go_simp; try with_reducible rfl)); (try simp only [Act.put, List.getElem_toArray, List.getElem_cons_succ, List.getElem_cons_zero, List.setIfInBounds_toArray, List.set_cons_zero, List.set_cons_succ]))
  (refine wpAnyH_take (i := 10) (v := ?_) rfl (by kernel_rfl) (by kernel_rfl) (by kernel_rfl) (fun _ _ _ h => h) (Or.inl ⟨by rfl, ?_⟩) (by assumption) ?_; rotate_left; (· (intro w hSw; go_simp; try with_reducible rfl)); (try simp only [Act.put, List.getElem_toArray, List.getElem_cons_succ, List.getElem_cons_zero, List.setIfInBounds_toArray, List.set_cons_zero, List.set_cons_succ]))
  (refine wpAnyH_take (i := 11) (v := ?_) rfl (by kernel_rfl) (by kernel_rfl) (by kernel_rfl) (fun _ _ _ h => h) (Or.inl ⟨by rfl, ?_⟩) (by assumption) ?_; rotate_left; (· (intro w hSw; have e := HMIN.out w; go_simp; try with_reducible rfl)); (try simp only [Act.put, List.getElem_toArray, List.getElem_cons_succ, List.getElem_cons_zero, List.setIfInBounds_toArray, List.set_cons_zero, List.set_cons_succ]))
  (refine wpAnyH_take (i := 12) (v := ?_) rfl (by kernel_rfl) (by kernel_rfl) (by kernel_rfl) (fun _ _ _ h => h) (Or.inl ⟨by rfl, ?_⟩) (by assumption) ?_; rotate_left; (· (intro w hSw; have e := HNI.out; go_simp; try with_reducible rfl)); (try simp only [Act.put, List.getElem_toArray, List.getElem_cons_succ, List.getElem_cons_zero, List.setIfInBounds_toArray, List.set_cons_zero, List.set_cons_succ]))
  refine wpAnyH_ready (rs := [13]) (by kernel_rfl) (by simp) ?_
  refine AllReadyH.cons rfl (fun K hK => ?_) AllReadyH.nil
  go_simp
  refine hK.out _ _ (O1a.next ((Below.refl _ _).alloc (Nat.le_refl _) _)).drew (fun hHeld => ?_)
  clear hK K
  (try simp only [Act.put, List.getElem_toArray, List.getElem_cons_succ, List.getElem_cons_zero, List.setIfInBounds_toArray, List.set_cons_zero, List.set_cons_succ])
  have B0 := (Blk.new w1 nil6 27).drew
  obtain ⟨w2, hw2⟩ : ∃ w2, w2 = (w1.alloc (Obj.cells nil6 27)).drew := ⟨_, rfl⟩
  have O2 : OneC w g arr 54 w2 := by rw [hw2]; exact (O1a.next ((Below.refl _ _).alloc (Nat.le_refl _) _)).drew
  have B0 : Blk w2 w1.heap.size nil6 27 := by rw [hw2]; exact B0
  have hgw : g < w1.heap.size := O1.blk.lt
  simp only [nil6] at hw2
  rw [← hw2]
  have hc1 := O1a.below.size
  clear hw2 O1 O1a hHeld
  generalize hcc : w1.heap.size = c at *
  clear hcc
  refine wpAnyH_ready (rs := [14]) (by kernel_rfl) (by simp) ?_
  refine AllReadyH.cons rfl (fun K hK => ?_) AllReadyH.nil
  rw [if_pos (by rfl)]
  refine wp_store_row 27 _ _ rfl c (macA d) rfl rfl 27 nil6 B0 ho.out rfl (macA_one d) ?_
  have O3 : OneC w g arr 54 (w2.setRow c (macA d)) := ⟨O2.blk.rowOther (by omega) _, below_setRow O2.below hc1 _⟩
  refine hK.out _ _ O3 (fun hHeld => ?_)
  clear hK K
  (try simp only [Act.put, List.getElem_toArray, List.getElem_cons_succ, List.getElem_cons_zero, List.setIfInBounds_toArray, List.set_cons_zero, List.set_cons_succ])
  have B3 : Blk (w2.setRow c (macA d)) c (macA d) 27 := B0.row _
  generalize w2.setRow c (macA d) = w3 at *
  clear B0 O2
  (refine wpAnyH_take (i := 15) (v := ?_) rfl (by kernel_rfl) (by kernel_rfl) (by kernel_rfl) (fun _ _ _ h => h) (Or.inl ⟨by rfl, ?_⟩) (by assumption) ?_; rotate_left; (· (intro w hSw; go_simp; try with_reducible rfl)); (try simp only [Act.put, List.getElem_toArray, List.getElem_cons_succ, List.getElem_cons_zero, List.setIfInBounds_toArray, List.set_cons_zero, List.set_cons_succ]))
  (refine wpAnyH_take (i := 16) (v := ?_) rfl (by kernel_rfl) (by kernel_rfl) (by kernel_rfl) (fun _ _ _ h => h) (Or.inl ⟨by rfl, ?_⟩) (by assumption) ?_; rotate_left; (· (intro w hSw; go_simp; try with_reducible rfl)); (try simp only [Act.put, List.getElem_toArray, List.getElem_cons_succ, List.getElem_cons_zero, List.setIfInBounds_toArray, List.set_cons_zero, List.set_cons_succ]))
  (refine wpAnyH_take (i := 17) (v := ?_) rfl (by kernel_rfl) (by kernel_rfl) (by kernel_rfl) (fun _ _ _ h => h) (Or.inl ⟨by rfl, ?_⟩) (by assumption) ?_; rotate_left; (· (intro w hSw; go_simp; try with_reducible rfl)); (try simp only [Act.put, List.getElem_toArray, List.getElem_cons_succ, List.getElem_cons_zero, List.setIfInBounds_toArray, List.set_cons_zero, List.set_cons_succ]))
  refine wpAnyH_done (by kernel_rfl) ?_ _
  rw [DB.out]
  have O3 := Lib.hid O3
  have B3 := Lib.hid B3
  clear hHeld
  obtain ⟨q, hq⟩ : ∃ q, q = opP d tg ty db := ⟨_, rfl⟩
  obtain ⟨E, hE⟩ : ∃ E, E = opE d tg ty db := ⟨_, rfl⟩
  have Q := Lib.hid hq
  have HE := Lib.hid hE
  obtain ⟨arr2, harr2⟩ : ∃ a, a = pdA q := ⟨_, rfl⟩
  have R2 := Lib.hid harr2
  have hz2 := Lib.hid (show (Try.prog.info? 31).map (·.size) = some arr2.size by rw [harr2]; exact size31)
  have hz3 := Lib.hid (show (16 : Nat) = arr2.size by rw [harr2]; rfl)
  have ho2 := Lib.hid (show arr2.all (·.oneCell') = true by rw [harr2]; exact pdA_one q)
  clear hq hE harr2
  have cc := B3.out.six
  go_upto_region 5 with (first
    | (go_at_call 16; refine (open_any d (fun _ => 0) tg 0 false 0 ty db _ hty dbl).mono ?_; rintro e w4 ⟨rfl, hb4⟩; rw [← Q.out, ← HE.out, ← R2.out]
       have R4 := Lib.hid (Blk.new w4 nil16 31)
       have O4 := Lib.hid (O3.out.next hb4)
       have B4 := Lib.hid (B3.out.below hb4 B3.out.lt))
    | (refine wpList_store_row rfl 31 _ _ rfl w4.heap.size arr2 rfl rfl 31 nil16 R4.out hz2.out hz3.out ho2.out ?_))
  have r5 := R4.out.row arr2
  have hc4 := B4.out.lt
  have b5 := (B4.out.alloc (.cells nil16 31)).rowOther (k := w4.heap.size) (by omega) arr2
  have hB5 := below_setRow (O4.out.below.alloc O4.out.below.size (Obj.cells nil16 31)) O4.out.below.size arr2
  obtain ⟨w5, hw5⟩ : ∃ w5, w5 = (w4.alloc (Obj.cells nil16 31)).setRow w4.heap.size arr2 := ⟨_, rfl⟩
  rw [← hw5] at r5 b5 hB5
  rw [← hw5]
  have hl5 : w4.heap.size < w5.heap.size := r5.lt
  clear hw5 R4 hb4 hc4 O4 B4 O3 B3 cc
  generalize w4.heap.size = h4 at *
  have R5 := Lib.hid r5
  have B5 := Lib.hid b5
  have HB := Lib.hid hB5
  have hqe : ∀ p, q = p → ∀ W, (Op.equalIn 10000 31 (.agg arr2) (pdV p)).run Try.prog W = .ok true W := fun p hp W => by rw [R2.out, equal_pd31, hp, eqP_self]
  have hE : ∀ e, eqMac d gF = e → ∀ W, (Op.equalIn 10000 27 (mac d) (mac gF)).run Try.prog W = .ok e W := fun e he W => by rw [← he]; exact equal_mac 9998 27 Try.underlying27 d gF W
  have QE := Lib.hid hqe
  have EG := Lib.hid hE
  clear r5 b5 hB5 hqe hE
  cases htg : tg with
  | true =>
    have e4 : E = 4 := by rw [HE.out, htg]; unfold opE opBad; rfl
    have HQ := Lib.hid (show q = kindP 0 by rw [Q.out, htg]; unfold opP opBad; rfl)
    have hq := nil_eq
    have hcs := nil_cells (show Blk w5 h4 (pdA (kindP 0)) 31 by rw [← HQ.out, ← R2.out]; exact R5.out)
    clear HE Q A6
    subst e4
    go_wp2_with fail
    go_ret
    exact ⟨rfl, HB.out⟩
  | false =>
    cases hm : eqMac d gF with
    | false =>
      have e4 : E = 4 := by rw [HE.out, htg]; unfold opE opBad; rw [hm]; rfl
      have HQ := Lib.hid (show q = kindP 0 by rw [Q.out, htg]; unfold opP opBad; rw [hm]; rfl)
      have hq := nil_eq
      have hcs := nil_cells (show Blk w5 h4 (pdA (kindP 0)) 31 by rw [← HQ.out, ← R2.out]; exact R5.out)
      have hg : ∀ W, (Op.equalIn 10000 27 (mac d) (.agg #[.int .u8 1, .int .u8 128, .int .u8 194, .int .u8 0, .int .u8 0, .int .u8 0])).run Try.prog W = .ok false W := fun W => by have h := EG.out _ hm W; rw [g_v] at h; exact h
      have cc := B5.out.six
      clear HE Q A6 hm
      subst e4
      go_wp2_with fail
      go_ret
      exact ⟨rfl, HB.out⟩
    | true =>
      have hg : ∀ W, (Op.equalIn 10000 27 (mac d) (.agg #[.int .u8 1, .int .u8 128, .int .u8 194, .int .u8 0, .int .u8 0, .int .u8 0])).run Try.prog W = .ok true W := fun W => by have h := EG.out _ hm W; rw [g_v] at h; exact h
      have cc := B5.out.six
      by_cases h15 : 1500 < ty
      · have e4 : E = 4 := by rw [HE.out, htg]; unfold opE opBad; rw [hm, decide_eq_true h15]; rfl
        have HQ := Lib.hid (show q = kindP 0 by rw [Q.out, htg]; unfold opP opBad; rw [hm, decide_eq_true h15]; rfl)
        have hq := nil_eq
        have hcs := nil_cells (show Blk w5 h4 (pdA (kindP 0)) 31 by rw [← HQ.out, ← R2.out]; exact R5.out)
        have hT : (1500 : Int) < (ty : Int) := by omega
        clear HE Q A6 hm h15
        subst e4
        go_wp2_with fail
        go_ret
        exact ⟨rfl, HB.out⟩
      · have E0 : E = if db.size < ty then 2 else decE (db.extract 0 ty) := by rw [HE.out, htg]; unfold opE opBad; rw [hm, decide_eq_false h15]; rfl
        have Q0 : q = if db.size < ty then kindP 0 else decP (db.extract 0 ty) := by rw [Q.out, htg]; unfold opP opBad; rw [hm, decide_eq_false h15]; rfl
        have hT : ¬ (1500 : Int) < (ty : Int) := by omega
        by_cases hs : db.size < ty
        · have e4 : E = 2 := by rw [E0, if_pos hs]
          have HQ := Lib.hid (show q = kindP 0 by rw [Q0, if_pos hs])
          have hq := nil_eq
          have hcs := nil_cells (show Blk w5 h4 (pdA (kindP 0)) 31 by rw [← HQ.out, ← R2.out]; exact R5.out)
          have hs' : (db.size : Int) < (ty : Int) := by omega
          clear HE Q A6 hm h15 E0 Q0 hs
          subst e4
          go_wp2_with fail
          go_ret
          exact ⟨rfl, HB.out⟩
        · have E1 := Lib.hid (show decE (db.extract 0 ty) = E by rw [E0, if_neg hs])
          have Q1 := Lib.hid (show pdA (decP (db.extract 0 ty)) = arr2 by rw [R2.out, Q0, if_neg hs])
          have hq : ∀ W, (Op.equalIn 10000 31 (.agg arr2) (.agg arr2)).run Try.prog W = .ok true W := fun W => by have := QE.out q rfl W; rw [show pdV q = .agg arr2 by rw [R2.out]] at this; exact this
          have hs' : ¬ (db.size : Int) < (ty : Int) := by omega
          have hs2 : (ty : Int) ≤ (db.size : Int) := by omega
          clear HE Q A6 hm h15 E0 Q0 hs
          go_upto_region 10 with (first
            | (go_at_call 14; refine (pdecode_any (db.extract 0 ty) _).mono ?_; rintro e w6 ⟨rfl, hb⟩; rw [E1.out, Q1.out]
               have R6 := Lib.hid (Blk.new w6 nil16 31)
               have R5b := Lib.hid ((R5.out.below hb R5.out.lt).alloc (.cells nil16 31))
               have hl6 := hb.size
               have HB6 := Lib.hid (HB.out.trans (hb.mono HB.out.size)))
            | (refine wpList_store_row rfl 31 _ _ rfl w6.heap.size arr2 rfl rfl 31 nil16 R6.out hz2.out hz3.out ho2.out ?_))
          have R7 := Lib.hid (R6.out.row arr2)
          have R8 := Lib.hid (R5b.out.rowOther (k := w6.heap.size) (by omega) arr2)
          have hBz := below_setRow (HB6.out.alloc HB6.out.size (Obj.cells nil16 31)) HB6.out.size arr2
          have HB7 := Lib.hid hBz
          clear hBz hb hl6
          go_wp2_with (first
            | (refine wpList_load_row rfl 31 _ rfl h4 rfl 31 _ (0, 0) _ R8.out Try.underlying31 rfl hz2.out ?_)
            | (refine wpList_load_row rfl 31 _ rfl w6.heap.size rfl 31 _ (0, 0) _ R7.out Try.underlying31 rfl hz2.out ?_))
          go_ret
          exact ⟨rfl, HB7.out⟩
end Go.Proofs.Ytkohnleeiajiiaa
