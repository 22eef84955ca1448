/- bpdu.Encode, walked. -/
import Derived.Test.YtkohnleeiajiiaaPEnc
namespace Go.Proofs.Ytkohnleeiajiiaa
open Go.RowKit
set_option linter.unusedSimpArgs false
attribute [local irreducible] wpQuiet

theorem calls_same {P : Program} {f : FuncId} {args : Array Value} {w : World} {v : Value} (h : Calls P f args w fun e w' => e = .returned v ∧ w = w') : Calls P f args w fun e w' => e = .returned v ∧ Below w.heap.size w w' :=
  h.mono fun _ _ ⟨he, hw⟩ => ⟨he, by rw [← hw]; exact Below.refl _ _⟩

/-- A block, and nothing else has changed. -/
structure OneC (w0 : World) (g : Nat) (arr : Array Value) (t : TypeId) (w : World) : Prop where
  blk : Blk w g arr t
  below : Below w0.heap.size w0 w

theorem OneC.next {w0 w w' : World} {g : Nat} {arr : Array Value} {t : TypeId} (h : OneC w0 g arr t w) (hb : Below w.heap.size w w') : OneC w0 g arr t w' := ⟨h.blk.below hb h.blk.lt, h.below.trans (hb.mono h.below.size)⟩
theorem OneC.drew {w0 w : World} {g : Nat} {arr : Array Value} {t : TypeId} (h : OneC w0 g arr t w) : OneC w0 g arr t w.drew := ⟨h.blk.drew, h.below.drew⟩
theorem OneC.cell {w0 w : World} {g : Nat} {arr : Array Value} {t : TypeId} (h : OneC w0 g arr t w) (j : Nat) (v : Value) (hv : arr[j]? = some v) : w.cell? ⟨g, j, none⟩ = some v := by rw [h.blk.cell, hv]
theorem OneC.new (w : World) (arr : Array Value) (t : TypeId) : OneC w w.heap.size arr t (w.alloc (Obj.cells arr t)) := ⟨Blk.new w arr t, (Below.refl _ _).alloc (Nat.le_refl _) _⟩

theorem fields_of {p : Pd} {arr : Array Value} (h : arr = pdA p) (w : World) (hok : p.ok) : Calls Try.prog 29 #[.agg arr] w fun e w' => e = .returned (.string (accS p 5)) ∧ Below w.heap.size w w' := by subst h; exact fields_any p w hok
theorem ret_enc {a a' : ByteArray} {b b' : Int} (h : a = a') (g : b = b') : Ending.returned (.tuple #[.string a, .int .i64 b]) = .returned (.tuple #[.string a', .int .i64 b']) := by rw [h, g]
theorem app_nil (a : ByteArray) : a ++ ⟨#[]⟩ = a := by
  apply ByteArray.ext
  apply Array.ext'
  simp

set_option maxRecDepth 100000 in
set_option maxHeartbeats 4000000 in
theorem pencode_any (p : Pd) (w : World) (hok : p.ok) : Calls Try.prog 11 #[pdV p] w fun e w' => e = .returned (.tuple #[.string (encP p), .int .i64 (encE p)]) ∧ Below w.heap.size w w' := by
  obtain ⟨arr, harr⟩ : ∃ arr, arr = pdA p := ⟨_, rfl⟩
  have H0 := Lib.hid (show arr[0]? = some (.int .u8 (p.kind : Nat)) by rw [harr]; rfl)
  have hsz := Lib.hid (show (Try.prog.info? 31).map (·.size) = some arr.size by rw [harr]; exact size31)
  show Calls Try.prog 11 #[.agg (pdA p)] w _
  rw [← harr]
  have HA := Lib.hid harr
  have R := Lib.hid (OneC.new w arr 31)
  have KW := Lib.hid (show IntKind.u64.wrap (p.kind : Int) = (p.kind : Int) by have := hok.1; rw [IntKind.wrap_u64]; omega)
  have OK := Lib.hid hok
  clear harr hok
  cases hgd : goodP p with
  | false =>
    have E1 := Lib.hid (show encP p = ⟨#[]⟩ by unfold encP; rw [hgd]; rfl)
    have E2 := Lib.hid (show encE p = 8 by unfold encE; rw [hgd]; rfl)
    have GD := Lib.hid hgd
    clear hgd
    go_enter Try.func11, Try.ntmps11
    go_wp2_with (first
      | (refine wpList_load_row rfl 31 _ rfl w.heap.size rfl 31 _ (0, 0) _ R.out.blk Try.underlying31 rfl hsz.out ?_)
      | (go_at_call 26; refine (pd_of HA.out _).mono ?_; rintro e w1 ⟨rfl, hb⟩; rw [GD.out]))
    go_ret2
    exact ⟨ret_enc E1.out.symm E2.out.symm, (R.out.next hb).below⟩
  | true =>
    have E1 := Lib.hid (show encP p = rawS p by unfold encP; rw [hgd]; rfl)
    have E2 := Lib.hid (show encE p = 0 by unfold encE; rw [hgd]; rfl)
    have GD := Lib.hid hgd
    clear hgd
    obtain ⟨bv1, hv⟩ : ∃ b, b = bS (verN p.kind) 1 := ⟨_, rfl⟩
    obtain ⟨bk1, hk⟩ : ∃ b, b = bS p.kind 1 := ⟨_, rfl⟩
    have zv : bv1.size = 1 := by rw [hv, bS_size]
    have zk : bk1.size = 1 := by rw [hk, bS_size]
    have zf : frontS.size = 5 := rfl
    have ZV := Lib.hid zv
    have A2 := Lib.hid (hadd ((⟨#[66, 66, 3, 0, 0]⟩ : ByteArray) ++ bv1) bk1 (by rw [app_size]; show 5 + bv1.size + bk1.size ≤ _; omega))
    have BV := Lib.hid hv.symm
    have BK := Lib.hid hk.symm
    obtain ⟨hd, hhd⟩ : ∃ hd, hd = hdS p := ⟨_, rfl⟩
    have zh : hd.size = 7 := by rw [hhd, hdS_size]
    obtain ⟨ac, hac⟩ : ∃ ac, ac = accS p 5 := ⟨_, rfl⟩
    have za : ac.size = 31 := by rw [hac, accS_size]
    obtain ⟨en, hen⟩ : ∃ en, en = endS p.kind := ⟨_, rfl⟩
    have ze : en.size ≤ 1 := by rw [hen]; unfold endS; split <;> decide
    have A3 := Lib.hid (hadd hd ac (by omega))
    have A4 := Lib.hid (hadd (hd ++ ac) en (by rw [app_size]; omega))
    have A5 := Lib.hid (hadd hd en (by omega))
    have HD := Lib.hid (show ((⟨#[66, 66, 3, 0, 0]⟩ : ByteArray) ++ bv1) ++ bk1 = hd by rw [hv, hk, hhd]; rfl)
    have HAC := Lib.hid hac.symm
    have HEN := Lib.hid hen.symm
    have RW1 := Lib.hid (show p.kind = 128 → rawS p = hd ++ en from fun h => by rw [hen, h, hhd]; unfold rawS; rw [if_pos h]; exact (app_nil _).symm)
    have RW2 := Lib.hid (show ¬ p.kind = 128 → rawS p = (hd ++ ac) ++ en from fun h => by rw [hen, hac, hhd]; unfold rawS; rw [if_neg h])
    clear hv hk zv zk zf hhd zh hac za hen ze
    go_enter Try.func11, Try.ntmps11
    go_upto_region 3 with (first
      | (refine wpList_load_row rfl 31 _ rfl w.heap.size rfl 31 _ (0, 0) _ R.out.blk Try.underlying31 rfl hsz.out ?_)
      | (go_at_call 26; refine (pd_of HA.out _).mono ?_; rintro e w1 ⟨rfl, hb⟩; rw [GD.out]))
    have R1 := Lib.hid (R.out.next hb)
    clear hb R
    generalize hg : w.heap.size = g at *
    have HG := Lib.hid hg
    clear hg
    refine wp_region_quiet (C := OneC w g arr 31) (by kernel_rfl) (by kernel_rfl) R1.out.drew ?_
    (refine q_val (v := ?_) (by rfl) ?_ ?_; rotate_left; (· (intro w hC; go_simp; try with_reducible rfl)); (try simp only [Act.put, List.getElem_toArray, List.getElem_cons_succ, List.getElem_cons_zero, List.setIfInBounds_toArray, List.set_cons_zero, List.set_cons_succ]))
    (refine q_val (v := ?_) (by rfl) ?_ ?_; rotate_left; (· (intro w hC; have c0 := hC.cell 0 _ H0.out; go_simp; try with_reducible rfl)); (try simp only [Act.put, List.getElem_toArray, List.getElem_cons_succ, List.getElem_cons_zero, List.setIfInBounds_toArray, List.set_cons_zero, List.set_cons_succ]))
    (refine q_call (v := .int .u64 (verN p.kind : Nat)) 28 #[.int .u8 (p.kind : Nat)] (by rfl) (fun w hC => by go_simp) (fun w hC => calls_in (calls_same (version_any p.kind w)) (fun w' hb => hC.next hb)) ?_; (try simp only [Act.put, List.getElem_toArray, List.getElem_cons_succ, List.getElem_cons_zero, List.setIfInBounds_toArray, List.set_cons_zero, List.set_cons_succ]))
    (refine q_call (v := .string bv1) 27 #[.int .u64 (verN p.kind : Nat), .int .i64 1] (by rfl) (fun w hC => by go_simp) (fun w hC => calls_in (by have := bytes_is (verN p.kind) 1 w (by omega) (by omega); rw [BV.out] at this; exact this) (fun w' hb => hC.next hb)) ?_; (try simp only [Act.put, List.getElem_toArray, List.getElem_cons_succ, List.getElem_cons_zero, List.setIfInBounds_toArray, List.set_cons_zero, List.set_cons_succ]))
    (refine q_val (v := ?_) (by rfl) ?_ ?_; rotate_left; (· (intro w hC; have add := ZV.out; go_simp; try with_reducible rfl)); (try simp only [Act.put, List.getElem_toArray, List.getElem_cons_succ, List.getElem_cons_zero, List.setIfInBounds_toArray, List.set_cons_zero, List.set_cons_succ]))
    (refine q_val (v := ?_) (by rfl) ?_ ?_; rotate_left; (· (intro w hC; go_simp; try with_reducible rfl)); (try simp only [Act.put, List.getElem_toArray, List.getElem_cons_succ, List.getElem_cons_zero, List.setIfInBounds_toArray, List.set_cons_zero, List.set_cons_succ]))
    (refine q_val (v := ?_) (by rfl) ?_ ?_; rotate_left; (· (intro w hC; have c0 := hC.cell 0 _ H0.out; go_simp; try with_reducible rfl)); (try simp only [Act.put, List.getElem_toArray, List.getElem_cons_succ, List.getElem_cons_zero, List.setIfInBounds_toArray, List.set_cons_zero, List.set_cons_succ]))
    (refine q_val (v := ?_) (by rfl) ?_ ?_; rotate_left; (· (intro w hC; have hk := KW.out; go_simp; try with_reducible rfl)); (try simp only [Act.put, List.getElem_toArray, List.getElem_cons_succ, List.getElem_cons_zero, List.setIfInBounds_toArray, List.set_cons_zero, List.set_cons_succ]))
    (refine q_call (v := .string bk1) 27 #[.int .u64 (p.kind : Nat), .int .i64 1] (by rfl) (fun w hC => by go_simp) (fun w hC => calls_in (by have := bytes_is p.kind 1 w (by omega) (by omega); rw [BK.out] at this; exact this) (fun w' hb => hC.next hb)) ?_; (try simp only [Act.put, List.getElem_toArray, List.getElem_cons_succ, List.getElem_cons_zero, List.setIfInBounds_toArray, List.set_cons_zero, List.set_cons_succ]))
    (refine q_val (v := ?_) (by rfl) ?_ ?_; rotate_left; (· (intro w hC; have add := A2.out; go_simp; try with_reducible rfl)); (try simp only [Act.put, List.getElem_toArray, List.getElem_cons_succ, List.getElem_cons_zero, List.setIfInBounds_toArray, List.set_cons_zero, List.set_cons_succ]))
    (refine q_val (v := ?_) (by rfl) ?_ ?_; rotate_left; (· (intro w hC; go_simp; try with_reducible rfl)); (try simp only [Act.put, List.getElem_toArray, List.getElem_cons_succ, List.getElem_cons_zero, List.setIfInBounds_toArray, List.set_cons_zero, List.set_cons_succ]))
    refine wpQuiet_nil ?_
    intro w2 hC
    rw [HD.out]
    have c0 := hC.cell 0 _ H0.out
    have C2 := Lib.hid hC
    clear hC R1
    by_cases h128 : p.kind = 128
    · have E3 := Lib.hid (RW1.out h128)
      rw [h128] at c0
      have e128 := Lib.hid h128
      have HE2 := Lib.hid (show endS 128 = en by rw [← h128]; exact HEN.out)
      clear h128
      go_wp2_with (first
        | (go_at_call 30; refine (end5_any 128 _).mono ?_; rintro e w4 ⟨rfl, rfl⟩; rw [HE2.out]
           have add := A5.out))
      go_ret2
      exact ⟨ret_enc (by rw [E1.out, E3.out]) E2.out.symm, C2.out.below⟩
    · have E3 := Lib.hid (RW2.out h128)
      have hne : ((p.kind : Int) != 128) = true := by simp; omega
      clear h128
      go_wp2_with (first
        | (refine wpList_load_row rfl 31 _ rfl g rfl 31 _ (0, 0) _ C2.out.blk Try.underlying31 rfl hsz.out ?_)
        | (go_at_call 29; refine (fields_of HA.out _ OK.out).mono ?_; rintro e w3 ⟨rfl, hb⟩; rw [HAC.out]
           have C3 := Lib.hid (C2.out.next hb)
           have add := A3.out
           have add4 := A4.out
           have c1 := C3.out.cell 0 _ H0.out)
        | (go_at_call 30; refine (end5_any p.kind _).mono ?_; rintro e w4 ⟨rfl, rfl⟩; rw [HEN.out]))
      go_ret2
      exact ⟨ret_enc (by rw [E1.out, E3.out]) E2.out.symm, C3.out.below⟩
end Go.Proofs.Ytkohnleeiajiiaa
