/- The document's own answer: bytes as a frame, first part. -/
import Derived.Test.YtegmhjdddcbanaaDecM
import Derived.Deep.RegionWith
import Derived.Deep.DeepCutAuto
import Derived.Lib.IndexBytes
namespace Go.Proofs.Ytegmhjdddcbanaa
open Go.RowKit

/-- The result's block alone. -/
structure One (w0 : World) (B : Nat) (w : World) : Prop where
  r0 : Blk w B nil18 56
  below : Below B w0 w
/-- The frame's block too. -/
structure Two (w0 : World) (B F : Nat) (arr : Array Value) (w : World) : Prop where
  lt : B < F
  r0 : Blk w B nil18 56
  r1 : Blk w F arr 56
  below : Below B w0 w
theorem One.next {w0 w w' : World} {B : Nat} (h : One w0 B w) (hb : Below w.heap.size w w') : One w0 B w' := ⟨h.r0.below hb h.r0.lt, h.below.trans (hb.mono (Nat.le_of_lt h.r0.lt))⟩
theorem One.drew {w0 w : World} {B : Nat} (h : One w0 B w) : One w0 B w.drew := ⟨h.r0.drew, h.below.drew⟩
theorem One.alloc {w0 w : World} {B : Nat} (h : One w0 B w) : Two w0 B w.heap.size nil18 (w.alloc (Obj.cells nil18 56)) := ⟨h.r0.lt, h.r0.alloc _, Blk.new _ _ _, h.below.alloc (Nat.le_of_lt h.r0.lt) _⟩
theorem Two.next {w0 w w' : World} {B F : Nat} {arr : Array Value} (h : Two w0 B F arr w) (hb : Below w.heap.size w w') : Two w0 B F arr w' := ⟨h.lt, h.r0.below hb h.r0.lt, h.r1.below hb h.r1.lt, h.below.trans (hb.mono (Nat.le_of_lt h.r0.lt))⟩
theorem Two.drew {w0 w : World} {B F : Nat} {arr : Array Value} (h : Two w0 B F arr w) : Two w0 B F arr w.drew := ⟨h.lt, h.r0.drew, h.r1.drew, h.below.drew⟩
theorem Two.row {w0 w : World} {B F : Nat} {arr : Array Value} (h : Two w0 B F arr w) (new : Array Value) : Two w0 B F new (w.setRow F new) := ⟨h.lt, h.r0.rowOther (Nat.ne_of_lt h.lt) _, h.r1.row _, below_setRow h.below (Nat.le_of_lt h.lt) _⟩
theorem Two.put {w0 w : World} {B F : Nat} {arr : Array Value} (h : Two w0 B F arr w) (o : Nat) (v : Value) : Two w0 B F (arr.setIfInBounds o v) (w.setCell ⟨F, o, none⟩ v) := ⟨h.lt, h.r0.other (Nat.ne_of_gt h.lt) _, h.r1.set o _, h.below.setCell (Nat.le_of_lt h.lt) _⟩
theorem Two.there {w0 w : World} {B F : Nat} {arr : Array Value} (h : Two w0 B F arr w) (hz : nil18.size = arr.size) (o : Nat) (ho : o < 18) : (∃ v, w.cell? ⟨F, o, none⟩ = some v) ∧ w.frozen? ⟨F, o, none⟩ = false :=
  ⟨⟨arr[o]'(by rw [← hz]; exact ho), by rw [h.r1.cell o, Array.getElem?_eq_getElem]⟩, h.r1.free o⟩
theorem rest_num (s : ByteArray) (a : Nat) (h : 12 + a + 2 ≤ s.size) : Nums.numL (((s.extract 12 s.size).data.toList.drop a).take 2) = wordAt s (12 + a) := by
  rw [show (s.extract 12 s.size).data.toList = s.data.toList.drop 12 from Lib.extract_to_end s 12, List.drop_drop]
  exact num2 s (12 + a) h
/-- The frame so far. -/
def Es (w0 : World) (B : Nat) (arr : Array Value) (p : Value) (w : World) : Prop := ∃ F, p = .pointer (some ⟨F, 0, none⟩) ∧ Two w0 B F arr w

theorem six_at (s : ByteArray) (a b i : Nat) (hb : b = a + 6) (h : b ≤ s.size) (hi : i < 6) : byteAt' (s.extract a b) i = byteAt' s (a + i) := by
  subst hb
  have hl : s.data.toList.length = s.size := by rw [Array.length_toList]; rfl
  unfold byteAt'
  rw [ext_list, List.getD_eq_getElem?_getD, List.getD_eq_getElem?_getD, List.getElem?_take_of_lt (by omega), List.getElem?_drop]

theorem wrap16 (t : Nat) (h : t < 65536) : IntKind.u16.wrap (t : Int) = (t : Nat) := by rw [IntKind.wrap_u16]; omega
theorem tag_eq (s : ByteArray) (h : 14 ≤ s.size) : (((s.extract 12 s.size).extract 0 2).toList == [129, 0]) = tgB s := by
  have e1 := ext_front s 12 2 (by omega)
  rw [take2 s 12 (by omega)] at e1
  have l0 := byteAt_lt s 12
  have l1 : byteAt' s (12 + 1) < 256 := byteAt_lt s 13
  have hd : tgB s = true ↔ byteAt' s 12 = 129 ∧ byteAt' s (12 + 1) = 0 := by
    unfold tgB wordAt
    rw [decide_eq_true_iff]
    constructor
    · intro h
      constructor <;> omega
    · rintro ⟨h1, h2⟩
      omega
  rw [Bool.eq_iff_iff, beq_iff_eq, hd, Lib.toList_data, e1]
  constructor
  · intro e2
    simp only [List.cons.injEq, and_true] at e2
    have a1 := congrArg UInt8.toNat e2.1
    have a2 := congrArg UInt8.toNat e2.2
    rw [ofNat_nat _ l0] at a1
    rw [ofNat_nat _ l1] at a2
    exact ⟨a1, a2⟩
  · rintro ⟨h1, h2⟩
    rw [h1, h2]
    rfl

set_option maxRecDepth 100000 in
set_option maxHeartbeats 4000000 in
theorem rdecode_head (s : ByteArray) (w : World) (h : ¬ 1518 < s.size) (h14 : 14 ≤ s.size) : Calls Try.prog 28 #[.string s] w fun e w' => e = .returned (.tuple #[.agg (decA s), .int .i64 (decE s)]) ∧ Below w.heap.size w w' := by
  have h1 : ¬ (1518 : Int) < (s.size : Int) := by omega
  have h2 : ¬ (s.size : Int) < 14 := by omega
  have h3 : (6 : Int) ≤ (s.size : Int) := by omega
  have h4 : (12 : Int) ≤ (s.size : Int) := by omega
  obtain ⟨W, hW⟩ : ∃ W, W = w.alloc (Obj.cells nil18 56) := ⟨_, rfl⟩
  have ds : One w w.heap.size W := by rw [hW]; exact ⟨Blk.new _ _ _, (Below.refl _ _).alloc (Nat.le_refl _) _⟩
  obtain ⟨arr, ha⟩ : ∃ a, a = frA (byteAt' s) (srcF s) false 0 false 0 0 ⟨#[]⟩ := ⟨_, rfl⟩
  have HA := Lib.hid ha
  have hone := Lib.hid (show arr.all (·.oneCell') = true by rw [ha]; exact frA_one _ _ _ _ _ _ _ _)
  have hz := Lib.hid (show nil18.size = arr.size by rw [ha]; rfl)
  have hsz := Lib.hid (show (Try.prog.info? 56).map (·.size) = some arr.size by rw [ha]; exact size56)
  have HW := Lib.hid hW
  have hN := Lib.hid h
  have H14 := Lib.hid h14
  have za : (s.extract 0 6).size = 6 := by simp; omega
  have zb : (s.extract 6 12).size = 6 := by simp; omega
  have A := Lib.hid (show mac (byteAt' (s.extract 0 6)) = mac (byteAt' s) from mac_congr fun i hi => by rw [six_at s 0 6 i rfl (by omega) hi, Nat.zero_add])
  have D := Lib.hid (show mac (byteAt' (s.extract 6 12)) = mac (srcF s) from mac_congr fun i hi => by rw [six_at s 6 12 i rfl (by omega) hi]; rfl)
  have ZA := Lib.hid za
  have ZB := Lib.hid zb
  clear h h14 hW za zb ha
  go_enter Try.func28, Try.ntmps28
  go_upto_region 5 with fail
  simp only [nil18] at HW
  rw [← HW.out]
  clear HW
  generalize hBe : w.heap.size = B at *
  have HB := Lib.hid hBe
  clear hBe
  go_cut [4] (fun p wx => Es w B arr p wx)
  case first =>
    refine wp_region_any (by kernel_rfl) ?_
    change wpAny _ _ _ _ _ _ _ (World.drew _)
    (refine wpAny_take (i := 0) (v := ?_) rfl (by kernel_rfl) (by kernel_rfl) (by kernel_rfl) (fun _ _ _ h => h) (Or.inl ⟨by rfl, ?_⟩) ?_; rotate_left; (· (intro w; go_simp; try with_reducible rfl)); (try simp only [Act.put, List.getElem_toArray, List.getElem_cons_zero, List.setIfInBounds_toArray, List.set_cons_zero, List.set_cons_succ]))
    (refine wpAny_take (i := 1) (v := ?_) rfl (by kernel_rfl) (by kernel_rfl) (by kernel_rfl) (fun _ _ _ h => h) (Or.inl ⟨by rfl, ?_⟩) ?_; rotate_left; (· (intro w; go_simp; try with_reducible rfl)); (try simp only [Act.put, List.getElem_toArray, List.getElem_cons_succ, List.getElem_cons_zero, List.setIfInBounds_toArray, List.set_cons_zero, List.set_cons_succ]))
    (refine wpAny_take (i := 3) (v := ?_) rfl (by kernel_rfl) (by kernel_rfl) (by kernel_rfl) (fun _ _ _ h => h) (Or.inl ⟨by rfl, ?_⟩) ?_; rotate_left; (· (intro w; go_simp; try with_reducible rfl)); (try simp only [Act.put, List.getElem_toArray, List.getElem_cons_succ, List.getElem_cons_zero, List.setIfInBounds_toArray, List.set_cons_zero, List.set_cons_succ]))
    (refine wpAny_take (i := 4) (v := ?_) rfl (by kernel_rfl) (by kernel_rfl) (by kernel_rfl) (fun _ _ _ h => h) (Or.inl ⟨by rfl, ?_⟩) ?_; rotate_left; (· (intro w; go_simp; try with_reducible rfl)); (try simp only [Act.put, List.getElem_toArray, List.getElem_cons_succ, List.getElem_cons_zero, List.setIfInBounds_toArray, List.set_cons_zero, List.set_cons_succ]))
    refine wpAny_ready (rs := [2, 7]) (by kernel_rfl) (by simp) ?_
    refine AllReady.cons rfl (fun K hK => ?_) (AllReady.cons rfl (fun K hK => ?_) AllReady.nil)
    · go_simp
      have ds := ds.drew
      refine (six_any _ _ ZA.out).mono ?_
      rintro e W2 ⟨rfl, hb⟩
      dsimp only
      rw [A.out]
      have ds := ds.next hb
      clear hb
      refine hK _ _ ?_
      clear hK K
      (try simp only [Act.put, List.getElem_toArray, List.getElem_cons_succ, List.getElem_cons_zero, List.setIfInBounds_toArray, List.set_cons_zero, List.set_cons_succ])
      refine wpAny_ready (rs := [5, 7]) (by kernel_rfl) (by simp) ?_
      refine AllReady.cons rfl (fun K hK => ?_) (AllReady.cons rfl (fun K hK => ?_) AllReady.nil)
      · go_simp
        refine (six_any _ _ ZB.out).mono ?_
        rintro e W3 ⟨rfl, hb⟩
        dsimp only
        rw [D.out]
        have ds := ds.next hb
        clear hb
        refine hK _ _ ?_
        clear hK K
        (try simp only [Act.put, List.getElem_toArray, List.getElem_cons_succ, List.getElem_cons_zero, List.setIfInBounds_toArray, List.set_cons_zero, List.set_cons_succ])
        (refine wpAny_take (i := 6) (v := .agg arr) rfl (by kernel_rfl) (by kernel_rfl) (by kernel_rfl) (fun _ _ _ h => h) (Or.inl ⟨by rfl, ?_⟩) ?_; (· (intro w; go_simp; rw [HA.out]; rfl)); (try simp only [Act.put, List.getElem_toArray, List.getElem_cons_succ, List.getElem_cons_zero, List.setIfInBounds_toArray, List.set_cons_zero, List.set_cons_succ]))
        refine wpAny_ready (rs := [7]) (by kernel_rfl) (by simp) ?_
        refine AllReady.cons rfl (fun K hK => ?_) AllReady.nil
        go_simp
        have ds := ds.alloc
        obtain ⟨WA, hWA⟩ : ∃ X, X = W3.alloc (Obj.cells nil18 56) := ⟨_, rfl⟩
        obtain ⟨F, hF⟩ : ∃ X, X = W3.heap.size := ⟨_, rfl⟩
        rw [← hWA, ← hF] at ds
        simp only [nil18] at hWA
        rw [← hWA, ← hF]
        clear hWA hF
        refine hK _ _ ?_
        clear hK K
        (try simp only [Act.put, List.getElem_toArray, List.getElem_cons_succ, List.getElem_cons_zero, List.setIfInBounds_toArray, List.set_cons_zero, List.set_cons_succ])
        refine wpAny_ready (rs := [8]) (by kernel_rfl) (by simp) ?_
        refine AllReady.cons rfl (fun K hK => ?_) AllReady.nil
        rw [if_pos (by rfl)]
        refine wp_store_row 56 _ _ rfl F arr rfl rfl 56 nil18 ds.r1 hsz.out hz.out hone.out ?_
        have ds := ds.row arr
        refine hK _ _ ?_
        clear hK K
        (try simp only [Act.put, List.getElem_toArray, List.getElem_cons_succ, List.getElem_cons_zero])
        refine wpAny_done (by kernel_rfl) ?_ _
        go_wp2_with fail
        go_meet
        exact ⟨F, rfl, by assumption⟩
      · go_simp
        have ds := ds.alloc
        obtain ⟨WA, hWA⟩ : ∃ X, X = W2.alloc (Obj.cells nil18 56) := ⟨_, rfl⟩
        obtain ⟨F, hF⟩ : ∃ X, X = W2.heap.size := ⟨_, rfl⟩
        rw [← hWA, ← hF] at ds
        simp only [nil18] at hWA
        rw [← hWA, ← hF]
        clear hWA hF
        refine hK _ _ ?_
        clear hK K
        (try simp only [Act.put, List.getElem_toArray, List.getElem_cons_succ, List.getElem_cons_zero, List.setIfInBounds_toArray, List.set_cons_zero, List.set_cons_succ])
        refine wpAny_ready (rs := [5]) (by kernel_rfl) (by simp) ?_
        refine AllReady.cons rfl (fun K hK => ?_) AllReady.nil
        go_simp
        refine (six_any _ _ ZB.out).mono ?_
        rintro e W3 ⟨rfl, hb⟩
        dsimp only
        rw [D.out]
        have ds := ds.next hb
        clear hb
        refine hK _ _ ?_
        clear hK K
        (try simp only [Act.put, List.getElem_toArray, List.getElem_cons_succ, List.getElem_cons_zero, List.setIfInBounds_toArray, List.set_cons_zero, List.set_cons_succ])
        (refine wpAny_take (i := 6) (v := .agg arr) rfl (by kernel_rfl) (by kernel_rfl) (by kernel_rfl) (fun _ _ _ h => h) (Or.inl ⟨by rfl, ?_⟩) ?_; (· (intro w; go_simp; rw [HA.out]; rfl)); (try simp only [Act.put, List.getElem_toArray, List.getElem_cons_succ, List.getElem_cons_zero, List.setIfInBounds_toArray, List.set_cons_zero, List.set_cons_succ]))
        refine wpAny_ready (rs := [8]) (by kernel_rfl) (by simp) ?_
        refine AllReady.cons rfl (fun K hK => ?_) AllReady.nil
        rw [if_pos (by rfl)]
        refine wp_store_row 56 _ _ rfl F arr rfl rfl 56 nil18 ds.r1 hsz.out hz.out hone.out ?_
        have ds := ds.row arr
        refine hK _ _ ?_
        clear hK K
        (try simp only [Act.put, List.getElem_toArray, List.getElem_cons_succ, List.getElem_cons_zero])
        refine wpAny_done (by kernel_rfl) ?_ _
        go_wp2_with fail
        go_meet
        exact ⟨F, rfl, by assumption⟩
    · go_simp
      have ds := ds.alloc
      obtain ⟨WA, hWA⟩ : ∃ X, X = W.alloc (Obj.cells nil18 56) := ⟨_, rfl⟩
      obtain ⟨F, hF⟩ : ∃ X, X = W.heap.size := ⟨_, rfl⟩
      rw [← hWA, ← hF] at ds
      simp only [nil18] at hWA
      rw [← hWA, ← hF]
      clear hWA hF
      refine hK _ _ ?_
      clear hK K
      (try simp only [Act.put, List.getElem_toArray, List.getElem_cons_succ, List.getElem_cons_zero, List.setIfInBounds_toArray, List.set_cons_zero, List.set_cons_succ])
      refine wpAny_ready (rs := [2]) (by kernel_rfl) (by simp) ?_
      refine AllReady.cons rfl (fun K hK => ?_) AllReady.nil
      go_simp
      have ds := ds.drew
      refine (six_any _ _ ZA.out).mono ?_
      rintro e W2 ⟨rfl, hb⟩
      dsimp only
      rw [A.out]
      have ds := ds.next hb
      clear hb
      refine hK _ _ ?_
      clear hK K
      (try simp only [Act.put, List.getElem_toArray, List.getElem_cons_succ, List.getElem_cons_zero, List.setIfInBounds_toArray, List.set_cons_zero, List.set_cons_succ])
      refine wpAny_ready (rs := [5]) (by kernel_rfl) (by simp) ?_
      refine AllReady.cons rfl (fun K hK => ?_) AllReady.nil
      go_simp
      refine (six_any _ _ ZB.out).mono ?_
      rintro e W3 ⟨rfl, hb⟩
      dsimp only
      rw [D.out]
      have ds := ds.next hb
      clear hb
      refine hK _ _ ?_
      clear hK K
      (try simp only [Act.put, List.getElem_toArray, List.getElem_cons_succ, List.getElem_cons_zero, List.setIfInBounds_toArray, List.set_cons_zero, List.set_cons_succ])
      (refine wpAny_take (i := 6) (v := .agg arr) rfl (by kernel_rfl) (by kernel_rfl) (by kernel_rfl) (fun _ _ _ h => h) (Or.inl ⟨by rfl, ?_⟩) ?_; (· (intro w; go_simp; rw [HA.out]; rfl)); (try simp only [Act.put, List.getElem_toArray, List.getElem_cons_succ, List.getElem_cons_zero, List.setIfInBounds_toArray, List.set_cons_zero, List.set_cons_succ]))
      refine wpAny_ready (rs := [8]) (by kernel_rfl) (by simp) ?_
      refine AllReady.cons rfl (fun K hK => ?_) AllReady.nil
      rw [if_pos (by rfl)]
      refine wp_store_row 56 _ _ rfl F arr rfl rfl 56 nil18 ds.r1 hsz.out hz.out hone.out ?_
      have ds := ds.row arr
      refine hK _ _ ?_
      clear hK K
      (try simp only [Act.put, List.getElem_toArray, List.getElem_cons_succ, List.getElem_cons_zero])
      refine wpAny_done (by kernel_rfl) ?_ _
      go_wp2_with fail
      go_meet
      exact ⟨F, rfl, by assumption⟩
  case rest =>
    obtain ⟨F, rfl, ds⟩ := hcut
    have DS := Lib.hid ds
    clear ds
    go_upto_region 7 with fail
    obtain ⟨R, hR⟩ : ∃ R, R = s.extract 12 s.size := ⟨_, rfl⟩
    have zR : R.size = s.size - 12 := by rw [hR]; simp
    have zR2 : (2 : Int) ≤ (R.size : Int) := by have := H14.out; omega
    have q := tag_eq s H14.out
    rw [← hR] at q
    rw [← hR]
    have HR := Lib.hid hR
    have ZR := Lib.hid zR
    clear hR zR h3 h4
    cases htg : tgB s with
    | false =>
      rw [htg] at q
      have HTG := Lib.hid htg
      clear htg
      go_upto_region 14 with fail
      have E1 := Lib.hid (show decE s = 0 by unfold decE; rw [if_neg hN.out, if_neg (by have := H14.out; omega), if_neg (by rw [HTG.out]; simp)])
      obtain ⟨rest, hrest⟩ : ∃ a, a = s.extract 14 s.size := ⟨_, rfl⟩
      obtain ⟨t, ht⟩ : ∃ t, t = wordAt s 12 := ⟨_, rfl⟩
      have LT := Lib.hid (show t < 65536 by rw [ht]; exact wordAt_lt s 12)
      have E2 := Lib.hid (show frA (byteAt' s) (srcF s) false 0 false 0 t rest = decA s by
        unfold decA
        rw [if_pos E1.out, if_neg (by rw [HTG.out]; simp), ← ht, ← hrest])
      have zT2 := zR2
      have TW := Lib.hid (show Nums.numL (R.data.toList.take 2) = t by
        rw [HR.out, show (s.extract 12 s.size).data.toList = s.data.toList.drop 12 from Lib.extract_to_end s 12, num2 s 12 H14.out, ht])
      have TR := Lib.hid (show R.extract 2 R.size = rest by rw [HR.out, ext_ext s 12 2 H14.out, hrest])
      go_upto_region 15 with fail
      have DS2 := DS
      rw [HA.out] at DS2
      clear HR ht hrest q
      generalize R = T at *
      generalize wc = w5 at *
      have H11 := Lib.hid (show (T.extract 0 2).size ≤ 8 by simp; omega)
      obtain ⟨arr3, ha3⟩ : ∃ a, a = frA (byteAt' s) (srcF s) false 0 false 0 t rest := ⟨_, rfl⟩
      have A3 := Lib.hid ha3
      have hone3 := Lib.hid (show arr3.all (·.oneCell') = true by rw [ha3]; exact frA_one _ _ _ _ _ _ _ _)
      have hz3 := Lib.hid (show nil18.size = arr3.size by rw [ha3]; rfl)
      have hsz3 := Lib.hid (show (Try.prog.info? 56).map (·.size) = some arr3.size by rw [ha3]; exact size56)
      clear ha3
      have TWW := Lib.hid (show IntKind.u16.wrap ((Nums.numL (T.data.toList.take 2) : Nat) : Int) = (t : Nat) by rw [TW.out]; exact wrap16 t LT.out)
      go_cut [] (fun wx => Two w B F arr3 wx)
      case first =>
        obtain ⟨⟨v16, c16⟩, f16⟩ := DS2.out.there rfl 16 (by omega)
        obtain ⟨⟨v17, c17⟩, f17⟩ := DS2.out.there rfl 17 (by omega)
        go_region_with (go_at_call 47; refine (number_any _ _ H11.out).mono ?_; rintro e wx ⟨rfl, rfl⟩)
        all_goals
          go_wp2_with fail
          rw [TWW.out, TR.out]
          go_meet
          rw [A3.out]
          first
            | exact ((DS2.out.put 16 (.int .u16 (t : Nat))).put 17 (.string rest)).drew
            | exact ((DS2.out.put 17 (.string rest)).put 16 (.int .u16 (t : Nat))).drew
      case rest =>
        have DS3 := Lib.hid hcut
        clear hcut
        go_wp2_with (first
          | (refine wpList_load_row rfl 56 _ rfl F rfl 56 arr3 (0, 0) _ DS3.out.r1 Try.underlying56 rfl hsz3.out ?_)
          | (refine wpList_store_row rfl 56 _ _ rfl B arr3 rfl rfl 56 nil18 DS3.out.r0 hsz3.out hz3.out hone3.out ?_))
        exact bodyPost_ret (v := .tuple #[.agg arr3, .int .i64 0]) (results_row_tmp Try.results28 _ _ B 56 arr3 _ _ rfl rfl (DS3.out.r0.row _) Try.underlying56 rfl hsz3.out) rfl ⟨ret_frm (A3.out.trans E2.out) E1.out.symm, by rw [HB.out]; exact below_setRow DS3.out.below (Nat.le_refl _) _⟩
    | true =>
      rw [htg] at q
      have HTG := Lib.hid htg
      clear htg
      by_cases h18 : s.size < 18
      · have E1 := Lib.hid (show decE s = 2 by unfold decE; rw [if_neg hN.out, if_neg (by have := H14.out; omega), if_pos HTG.out, if_pos h18])
        have E2 := Lib.hid (show decA s = nil18 by unfold decA; rw [if_neg (by rw [E1.out]; omega)])
        have h18I : (s.size : Int) < 18 := by omega
        go_wp2_with (refine wpList_store_row rfl 56 _ _ rfl B nil18 rfl rfl 56 nil18 DS.out.r0 size56 rfl nil18_one ?_)
        exact bodyPost_ret (v := .tuple #[.agg nil18, .int .i64 2]) (results_row_tmp Try.results28 _ _ B 56 nil18 _ _ rfl rfl (DS.out.r0.row _) Try.underlying56 rfl size56) rfl ⟨ret_frm E2.out.symm E1.out.symm, by rw [HB.out]; exact below_setRow DS.out.below (Nat.le_refl _) _⟩
      · have h18I : ¬ (s.size : Int) < 18 := by omega
        have zR4 : (4 : Int) ≤ (R.size : Int) := by have := ZR.out; omega
        have h10 : (R.extract 2 4).size ≤ 8 := by simp; omega
        have H10 := Lib.hid h10
        clear h10
        go_upto_region 10 with fail
        go_upto_region 11 with (go_at_call 47; refine (number_any _ _ H10.out).mono ?_; rintro e wx ⟨rfl, rfl⟩)
        have hxw := rest_num s 2 (by omega)
        rw [← HR.out] at hxw
        rw [hxw]
        obtain ⟨x, hx⟩ : ∃ x, x = wordAt s 14 := ⟨_, rfl⟩
        have lx : x < 65536 := by rw [hx]; exact wordAt_lt s 14
        rw [show wordAt s (12 + 2) = wordAt s 14 from rfl, ← hx]
        have X := Lib.hid hx
        clear hx hxw
        obtain ⟨⟨v12, c12⟩, f12⟩ := DS.out.there hz.out 12 (by omega)
        obtain ⟨⟨v13, c13⟩, f13⟩ := DS.out.there hz.out 13 (by omega)
        obtain ⟨⟨v14, c14⟩, f14⟩ := DS.out.there hz.out 14 (by omega)
        obtain ⟨⟨v15, c15⟩, f15⟩ := DS.out.there hz.out 15 (by omega)
        obtain ⟨y, hy⟩ : ∃ y, y = x / 8192 := ⟨_, rfl⟩
        obtain ⟨z, hz'⟩ : ∃ z, z = decide (x / 4096 % 2 = 1) := ⟨_, rfl⟩
        obtain ⟨v, hv⟩ : ∃ v, v = x % 4096 := ⟨_, rfl⟩
        have ey : (x : Int) / 8192 = (y : Nat) := by omega
        have ev : (x : Int) % 4096 = (v : Nat) := by omega
        have ez : ((x : Int) / 4096 % 2 == 1) = z := by
          rw [hz', Bool.eq_iff_iff, beq_iff_eq, decide_eq_true_iff]
          omega
        have lv : v < 65536 := by omega
        have YE := Lib.hid hy
        have ZE := Lib.hid hz'
        have VE := Lib.hid hv
        have EY := Lib.hid ey
        have EZ := Lib.hid ez
        have EV := Lib.hid ev
        clear hy hz' hv ey ez ev
        go_upto_region 12 with fail
        rw [EY.out, EZ.out, EV.out]
        obtain ⟨arr2, ha2⟩ : ∃ a, a = frA (byteAt' s) (srcF s) true y z v 0 ⟨#[]⟩ := ⟨_, rfl⟩
        have D0 := DS.out
        rw [HA.out] at D0
        have D1 : Two w B F (frA (byteAt' s) (srcF s) true y z v 0 ⟨#[]⟩) _ := (((D0.put 12 (.bool true)).put 13 (.int .u8 (y : Nat))).put 14 (.bool z)).put 15 (.int .u16 (v : Nat))
        obtain ⟨w5, hw5⟩ : ∃ w5, w5 = (((wc.setCell ⟨F, 12, none⟩ (.bool true)).setCell ⟨F, 13, none⟩ (.int .u8 (y : Nat))).setCell ⟨F, 14, none⟩ (.bool z)).setCell ⟨F, 15, none⟩ (.int .u16 (v : Nat)) := ⟨_, rfl⟩
        rw [← hw5] at D1
        rw [← hw5]
        have k15 : w5.cell? ⟨F, 15, none⟩ = some (.int .u16 (v : Nat)) := D1.r1.cell 15
        have DS2 := Lib.hid D1
        clear D0 D1 hw5 c12 c13 c14 c15 f12 f13 f14 f15 ha2
        by_cases hvid : 4094 < v
        · have E1 := Lib.hid (show decE s = 16 by unfold decE; rw [if_neg hN.out, if_neg (by have := H14.out; omega), if_pos HTG.out, if_neg h18, ← X.out, ← VE.out, if_pos hvid])
          have E2 := Lib.hid (show decA s = nil18 by unfold decA; rw [if_neg (by rw [E1.out]; omega)])
          have hvI : (4094 : Int) < (v : Int) := by omega
          go_wp2_with (refine wpList_store_row rfl 56 _ _ rfl B nil18 rfl rfl 56 nil18 DS2.out.r0 size56 rfl nil18_one ?_)
          exact bodyPost_ret (v := .tuple #[.agg nil18, .int .i64 16]) (results_row_tmp Try.results28 _ _ B 56 nil18 _ _ rfl rfl (DS2.out.r0.row _) Try.underlying56 rfl size56) rfl ⟨ret_frm E2.out.symm E1.out.symm, by rw [HB.out]; exact below_setRow DS2.out.below (Nat.le_refl _) _⟩
        · have E1 := Lib.hid (show decE s = 0 by unfold decE; rw [if_neg hN.out, if_neg (by have := H14.out; omega), if_pos HTG.out, if_neg h18, ← X.out, ← VE.out, if_neg hvid])
          have hvI : ¬ (4094 : Int) < (v : Int) := by omega
          go_upto_region 15 with fail
          rw [show R.extract 4 R.size = s.extract 16 s.size by rw [HR.out]; exact ext_ext s 12 4 (by omega)]
          obtain ⟨rest, hrest⟩ : ∃ a, a = s.extract 18 s.size := ⟨_, rfl⟩
          obtain ⟨t, ht⟩ : ∃ t, t = wordAt s 16 := ⟨_, rfl⟩
          have LT := Lib.hid (show t < 65536 by rw [ht]; exact wordAt_lt s 16)
          have E2 := Lib.hid (show frA (byteAt' s) (srcF s) true y z v t rest = decA s by
            unfold decA
            rw [if_pos E1.out, if_pos HTG.out, ← X.out, ← ht, ← VE.out, ← YE.out, ← ZE.out, ← hrest])
          obtain ⟨T, hT⟩ : ∃ T, T = s.extract 16 s.size := ⟨_, rfl⟩
          have zT2 : (2 : Int) ≤ (T.size : Int) := by have : T.size = s.size - 16 := by rw [hT]; simp
                                                      omega
          have TW := Lib.hid (show Nums.numL (T.data.toList.take 2) = t by
            rw [hT, show (s.extract 16 s.size).data.toList = s.data.toList.drop 16 from Lib.extract_to_end s 16, num2 s 16 (by omega), ht])
          have TR := Lib.hid (show T.extract 2 T.size = rest by rw [hT, ext_ext s 16 2 (by omega), hrest])
          rw [← hT]
          clear hT ht hrest
          have H11 := Lib.hid (show (T.extract 0 2).size ≤ 8 by simp; omega)
          obtain ⟨arr3, ha3⟩ : ∃ a, a = frA (byteAt' s) (srcF s) true y z v t rest := ⟨_, rfl⟩
          have A3 := Lib.hid ha3
          have hone3 := Lib.hid (show arr3.all (·.oneCell') = true by rw [ha3]; exact frA_one _ _ _ _ _ _ _ _)
          have hz3 := Lib.hid (show nil18.size = arr3.size by rw [ha3]; rfl)
          have hsz3 := Lib.hid (show (Try.prog.info? 56).map (·.size) = some arr3.size by rw [ha3]; exact size56)
          clear ha3
          have TWW := Lib.hid (show IntKind.u16.wrap ((Nums.numL (T.data.toList.take 2) : Nat) : Int) = (t : Nat) by rw [TW.out]; exact wrap16 t LT.out)
          go_cut [] (fun wx => Two w B F arr3 wx)
          case first =>
            obtain ⟨⟨v16, c16⟩, f16⟩ := DS2.out.there rfl 16 (by omega)
            obtain ⟨⟨v17, c17⟩, f17⟩ := DS2.out.there rfl 17 (by omega)
            go_region_with (go_at_call 47; refine (number_any _ _ H11.out).mono ?_; rintro e wx ⟨rfl, rfl⟩)
            all_goals
              go_wp2_with fail
              rw [TWW.out, TR.out]
              go_meet
              rw [A3.out]
              first
                | exact ((DS2.out.put 16 (.int .u16 (t : Nat))).put 17 (.string rest)).drew
                | exact ((DS2.out.put 17 (.string rest)).put 16 (.int .u16 (t : Nat))).drew
          case rest =>
            have DS3 := Lib.hid hcut
            clear hcut
            go_wp2_with (first
              | (refine wpList_load_row rfl 56 _ rfl F rfl 56 arr3 (0, 0) _ DS3.out.r1 Try.underlying56 rfl hsz3.out ?_)
              | (refine wpList_store_row rfl 56 _ _ rfl B arr3 rfl rfl 56 nil18 DS3.out.r0 hsz3.out hz3.out hone3.out ?_))
            exact bodyPost_ret (v := .tuple #[.agg arr3, .int .i64 0]) (results_row_tmp Try.results28 _ _ B 56 arr3 _ _ rfl rfl (DS3.out.r0.row _) Try.underlying56 rfl hsz3.out) rfl ⟨ret_frm (A3.out.trans E2.out) E1.out.symm, by rw [HB.out]; exact below_setRow DS3.out.below (Nat.le_refl _) _⟩

set_option maxHeartbeats 1000000 in
theorem rdecode_err (s : ByteArray) (w : World) (h : ¬ (¬ 1518 < s.size ∧ 14 ≤ s.size)) : Calls Try.prog 28 #[.string s] w fun e w' => e = .returned (.tuple #[.agg (decA s), .int .i64 (decE s)]) ∧ Below w.heap.size w w' := by
  have R := Lib.hid (Blk.new w nil18 56)
  have hi := Lib.hid size56
  have ho := Lib.hid nil18_one
  have hb := below_setRow ((Below.refl w.heap.size w).alloc (Nat.le_refl _) (Obj.cells nil18 56)) (Nat.le_refl _) nil18
  by_cases hl : 1518 < s.size
  · have E1 := Lib.hid (show decE s = 3 by unfold decE; rw [if_pos hl])
    have E2 := Lib.hid (show decA s = nil18 by unfold decA; rw [if_neg (by rw [E1.out]; omega)])
    have hI : (1518 : Int) < (s.size : Int) := by omega
    clear h hl
    go_enter Try.func28, Try.ntmps28
    go_wp2_with (refine wpList_store_row rfl 56 _ _ rfl w.heap.size nil18 rfl rfl 56 nil18 R.out hi.out rfl ho.out ?_)
    exact bodyPost_ret (v := .tuple #[.agg nil18, .int .i64 3]) (results_row_tmp Try.results28 _ _ w.heap.size 56 nil18 _ _ rfl rfl (R.out.row _) Try.underlying56 rfl hi.out) rfl ⟨ret_frm E2.out.symm E1.out.symm, hb⟩
  · have h14 : s.size < 14 := by omega
    have E1 := Lib.hid (show decE s = 2 by unfold decE; rw [if_neg hl, if_pos h14])
    have E2 := Lib.hid (show decA s = nil18 by unfold decA; rw [if_neg (by rw [E1.out]; omega)])
    have hI : ¬ (1518 : Int) < (s.size : Int) := by omega
    have hI2 : (s.size : Int) < 14 := by omega
    clear h hl h14
    go_enter Try.func28, Try.ntmps28
    go_wp2_with (refine wpList_store_row rfl 56 _ _ rfl w.heap.size nil18 rfl rfl 56 nil18 R.out hi.out rfl ho.out ?_)
    exact bodyPost_ret (v := .tuple #[.agg nil18, .int .i64 2]) (results_row_tmp Try.results28 _ _ w.heap.size 56 nil18 _ _ rfl rfl (R.out.row _) Try.underlying56 rfl hi.out) rfl ⟨ret_frm E2.out.symm E1.out.symm, hb⟩

theorem rdecode_any (s : ByteArray) (w : World) : Calls Try.prog 28 #[.string s] w fun e w' => e = .returned (.tuple #[.agg (decA s), .int .i64 (decE s)]) ∧ Below w.heap.size w w' := by
  by_cases h : ¬ 1518 < s.size ∧ 14 ≤ s.size
  · exact rdecode_head s w h.1 h.2
  · exact rdecode_err s w h
end Go.Proofs.Ytegmhjdddcbanaa
