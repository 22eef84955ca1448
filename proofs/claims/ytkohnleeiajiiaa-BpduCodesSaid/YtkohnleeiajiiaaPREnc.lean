/- A PDU's bytes, by the document. -/
import Derived.Test.YtkohnleeiajiiaaPEnc2
import Derived.Test.YtkohnleeiajiiaaPduG
import Derived.Test.YtkohnleeiajiiaaRef
namespace Go.Proofs.Ytkohnleeiajiiaa
open Go.RowKit
set_option linter.unusedSimpArgs false
attribute [local irreducible] wpQuiet

theorem rbytes_is (x k : Nat) (w : World) (h1 : 1 ≤ k) (h8 : k ≤ 8) (hx : x < 18446744073709551616) : Calls Try.prog 33 #[.int .u64 x, .int .i64 k] w fun e w' => e = .returned (.string (bS x k)) ∧ Below w.heap.size w w' := rbytes_yes x k w h1 h8 hx
theorem rgood_of {p : Pd} {arr : Array Value} (h : arr = pdA p) (w : World) : Calls Try.prog 31 #[.agg arr] w fun e w' => e = .returned (.bool (goodP p)) ∧ Below w.heap.size w w' := by subst h; exact rgood_any p w

theorem good_kind {p : Pd} (h : goodP p = true) : (p.kind = 0 ∧ p.role = 0) ∨ (p.kind = 2 ∧ p.role ≤ 3) ∨ p = kindP 128 := by
  unfold goodP at h
  by_cases c0 : p.kind = 0
  · rw [if_pos c0] at h
    simp at h
    exact .inl ⟨c0, h.2⟩
  · rw [if_neg c0] at h
    by_cases c2 : p.kind = 2
    · rw [if_pos c2] at h
      exact .inr (.inl ⟨c2, by simpa using h⟩)
    · rw [if_neg c2] at h
      refine .inr (.inr ?_)
      unfold eqP at h
      simp at h
      obtain ⟨k, a, b, c, d, e, f, g, i, j, l, m, n, o, q, r⟩ := p
      simp [kindP] at h ⊢
      simp_all

theorem wrap_nat (x : Int) (y : Nat) (h : x = (y : Int)) (hy : y < 18446744073709551616) : IntKind.u64.wrap x = (y : Int) := by rw [IntKind.wrap_u64, h]; omega

theorem pack_sum (p : Pd) (h : p.role < 4) : packN (flV p) = p.top.toNat + 2 * p.prop.toNat + 4 * p.role + 16 * p.lrn.toNat + 32 * p.fwd.toNat + 64 * p.agr.toNat + 128 * p.ack.toNat := by
  show p.top.toNat + 2 * p.prop.toNat + 4 * (p.role % 2) + 8 * (p.role / 2 % 2) + 16 * p.lrn.toNat + 32 * p.fwd.toNat + 64 * p.agr.toNat + 128 * p.ack.toNat = _
  omega

set_option maxRecDepth 100000 in
set_option maxHeartbeats 8000000 in
theorem rencode_02 (p : Pd) (w : World) (hok : p.ok) (hgd : goodP p = true) (hk : (p.kind = 0 ∨ p.kind = 2) ∧ p.role < 4) : Calls Try.prog 12 #[pdV p] w fun e w' => e = .returned (.tuple #[.string (rawS p), .int .i64 0]) ∧ Below w.heap.size w w' := by
  obtain ⟨arr, harr⟩ : ∃ arr, arr = pdA p := ⟨_, rfl⟩
  have h0 : arr[0]? = some (.int .u8 (p.kind : Nat)) := by rw [harr]; rfl
  have H1 := Lib.hid (show arr[1]? = some (.bool p.top) by rw [harr]; rfl)
  have H2 := Lib.hid (show arr[2]? = some (.bool p.prop) by rw [harr]; rfl)
  have H3 := Lib.hid (show arr[3]? = some (.bool p.lrn) by rw [harr]; rfl)
  have H4 := Lib.hid (show arr[4]? = some (.bool p.fwd) by rw [harr]; rfl)
  have H5 := Lib.hid (show arr[5]? = some (.bool p.agr) by rw [harr]; rfl)
  have H6 := Lib.hid (show arr[6]? = some (.bool p.ack) by rw [harr]; rfl)
  have H7 := Lib.hid (show arr[7]? = some (.int .u8 (p.role : Nat)) by rw [harr]; rfl)
  have H8 := Lib.hid (show arr[8]? = some (.int .u64 (p.root : Nat)) by rw [harr]; rfl)
  have H9 := Lib.hid (show arr[9]? = some (.int .u32 (p.cost : Nat)) by rw [harr]; rfl)
  have H10 := Lib.hid (show arr[10]? = some (.int .u64 (p.bridge : Nat)) by rw [harr]; rfl)
  have H11 := Lib.hid (show arr[11]? = some (.int .u16 (p.port : Nat)) by rw [harr]; rfl)
  have H12 := Lib.hid (show arr[12]? = some (.int .u16 (p.age : Nat)) by rw [harr]; rfl)
  have H13 := Lib.hid (show arr[13]? = some (.int .u16 (p.maxAge : Nat)) by rw [harr]; rfl)
  have H14 := Lib.hid (show arr[14]? = some (.int .u16 (p.hello : Nat)) by rw [harr]; rfl)
  have H15 := Lib.hid (show arr[15]? = some (.int .u16 (p.delay : Nat)) by rw [harr]; rfl)
  have hsz := Lib.hid (show (Try.prog.info? 38).map (·.size) = some arr.size by rw [harr]; exact size38)
  show Calls Try.prog 12 #[.agg (pdA p)] w _
  rw [← harr]
  have HA := Lib.hid harr
  have R := Lib.hid (OneC.new w arr 38)
  have GD := Lib.hid hgd
  have OK := Lib.hid hok
  have hps := pack_sum p hk.2
  have hcl : p.cost < 4294967296 := hok.2.2.2.1
  have hrl : p.root < 18446744073709551616 := hok.2.2.1
  have hbl : p.bridge < 18446744073709551616 := hok.2.2.2.2.1
  obtain ⟨t0, ht0⟩ : ∃ t, t = p.top.toNat := ⟨_, rfl⟩
  have lt0 : t0 < 2 := by rw [ht0]; exact Bool.toNat_lt _
  obtain ⟨t1, ht1⟩ : ∃ t, t = p.prop.toNat := ⟨_, rfl⟩
  have lt1 : t1 < 2 := by rw [ht1]; exact Bool.toNat_lt _
  obtain ⟨t4, ht4⟩ : ∃ t, t = p.lrn.toNat := ⟨_, rfl⟩
  have lt4 : t4 < 2 := by rw [ht4]; exact Bool.toNat_lt _
  obtain ⟨t5, ht5⟩ : ∃ t, t = p.fwd.toNat := ⟨_, rfl⟩
  have lt5 : t5 < 2 := by rw [ht5]; exact Bool.toNat_lt _
  obtain ⟨t6, ht6⟩ : ∃ t, t = p.agr.toNat := ⟨_, rfl⟩
  have lt6 : t6 < 2 := by rw [ht6]; exact Bool.toNat_lt _
  obtain ⟨t7, ht7⟩ : ∃ t, t = p.ack.toNat := ⟨_, rfl⟩
  have lt7 : t7 < 2 := by rw [ht7]; exact Bool.toNat_lt _
  obtain ⟨m1, hm1⟩ : ∃ m, m = 2 * t1 := ⟨_, rfl⟩
  obtain ⟨s1, hs1⟩ : ∃ m, m = t0 + m1 := ⟨_, rfl⟩
  obtain ⟨m2, hm2⟩ : ∃ m, m = 4 * p.role := ⟨_, rfl⟩
  obtain ⟨s2, hs2⟩ : ∃ m, m = s1 + m2 := ⟨_, rfl⟩
  obtain ⟨m4, hm4⟩ : ∃ m, m = 16 * t4 := ⟨_, rfl⟩
  obtain ⟨s4, hs4⟩ : ∃ m, m = s2 + m4 := ⟨_, rfl⟩
  obtain ⟨m5, hm5⟩ : ∃ m, m = 32 * t5 := ⟨_, rfl⟩
  obtain ⟨s5, hs5⟩ : ∃ m, m = s4 + m5 := ⟨_, rfl⟩
  obtain ⟨m6, hm6⟩ : ∃ m, m = 64 * t6 := ⟨_, rfl⟩
  obtain ⟨s6, hs6⟩ : ∃ m, m = s5 + m6 := ⟨_, rfl⟩
  obtain ⟨m7, hm7⟩ : ∃ m, m = 128 * t7 := ⟨_, rfl⟩
  obtain ⟨s7, hs7⟩ : ∃ m, m = s6 + m7 := ⟨_, rfl⟩
  have hr4 := hk.2
  have l7 : s7 < 256 := by omega
  have PK := Lib.hid (show packN (flV p) = s7 by rw [hps, ← ht0, ← ht1, ← ht4, ← ht5, ← ht6, ← ht7]; omega)
  have RW := Lib.hid (wrap_nat (p.role : Int) p.role rfl (by omega))
  have CW := Lib.hid (wrap_nat (p.cost : Int) p.cost rfl (by omega))
  have M1 := Lib.hid (wrap_nat (2 * (t1 : Int)) m1 (by omega) (by omega))
  have S1 := Lib.hid (wrap_nat ((t0 : Int) + (m1 : Int)) s1 (by omega) (by omega))
  have M2 := Lib.hid (wrap_nat (4 * (p.role : Int)) m2 (by omega) (by omega))
  have S2 := Lib.hid (wrap_nat ((s1 : Int) + (m2 : Int)) s2 (by omega) (by omega))
  have M4 := Lib.hid (wrap_nat (16 * (t4 : Int)) m4 (by omega) (by omega))
  have S4 := Lib.hid (wrap_nat ((s2 : Int) + (m4 : Int)) s4 (by omega) (by omega))
  have M5 := Lib.hid (wrap_nat (32 * (t5 : Int)) m5 (by omega) (by omega))
  have S5 := Lib.hid (wrap_nat ((s4 : Int) + (m5 : Int)) s5 (by omega) (by omega))
  have M6 := Lib.hid (wrap_nat (64 * (t6 : Int)) m6 (by omega) (by omega))
  have S6 := Lib.hid (wrap_nat ((s5 : Int) + (m6 : Int)) s6 (by omega) (by omega))
  have M7 := Lib.hid (wrap_nat (128 * (t7 : Int)) m7 (by omega) (by omega))
  have S7 := Lib.hid (wrap_nat ((s6 : Int) + (m7 : Int)) s7 (by omega) (by omega))
  have T0 := Lib.hid ht0.symm
  have T1 := Lib.hid ht1.symm
  have T4 := Lib.hid ht4.symm
  have T5 := Lib.hid ht5.symm
  have T6 := Lib.hid ht6.symm
  have T7 := Lib.hid ht7.symm
  obtain ⟨b1, hb1⟩ : ∃ b, b = bS s7 1 := ⟨_, rfl⟩
  obtain ⟨b2, hb2⟩ : ∃ b, b = bS p.root 8 := ⟨_, rfl⟩
  obtain ⟨b3, hb3⟩ : ∃ b, b = bS p.cost 4 := ⟨_, rfl⟩
  obtain ⟨b4, hb4⟩ : ∃ b, b = bS p.bridge 8 := ⟨_, rfl⟩
  obtain ⟨hd, hhd⟩ : ∃ b, b = hdS p := ⟨_, rfl⟩
  have z1 : b1.size = 1 := by rw [hb1, bS_size]
  have z2 : b2.size = 8 := by rw [hb2, bS_size]
  have z3 : b3.size = 4 := by rw [hb3, bS_size]
  have z4 : b4.size = 8 := by rw [hb4, bS_size]
  have zh : hd.size = 7 := by rw [hhd, hdS_size]
  have A1 := Lib.hid (hadd b1 b2 (by omega))
  have A2 := Lib.hid (hadd (b1 ++ b2) b3 (by rw [app_size]; omega))
  have A3 := Lib.hid (hadd ((b1 ++ b2) ++ b3) b4 (by rw [app_size, app_size]; omega))
  have A4 := Lib.hid (hadd hd (((b1 ++ b2) ++ b3) ++ b4) (by rw [app_size, app_size, app_size]; omega))
  have F4 := Lib.hid (show ((b1 ++ b2) ++ b3) ++ b4 = f4S p by rw [hb1, hb2, hb3, hb4, ← PK.out]; rfl)
  have B1 := Lib.hid hb1.symm
  have B2 := Lib.hid hb2.symm
  have B3 := Lib.hid hb3.symm
  have B4 := Lib.hid hb4.symm
  have HH := Lib.hid hhd
  have ZH := Lib.hid zh
  have KK := Lib.hid hk.1
  clear harr hgd hok hps hk hr4 ht0 ht1 ht4 ht5 ht6 ht7 lt0 lt1 lt4 lt5 lt6 lt7 hm1 hm2 hm4 hm5 hm6 hm7 hs1 hs2 hs4 hs5 hs6 hs7 hb1 hb2 hb3 hb4 z1 z2 z3 z4 zh hhd
  rcases KK.out with hkd | hkd
  · rw [hkd] at h0
    have H0 := Lib.hid (show arr[0]? = some (.int .u8 0) from h0)
    have HD := Lib.hid (show hd = ⟨#[66, 66, 3, 0, 0, 0, 0]⟩ by rw [HH.out]; unfold hdS; rw [hkd]; rfl)
    have EN := Lib.hid (show rawS p = hd ++ accS p 5 by unfold rawS; rw [if_neg (by omega), hkd, HH.out]; exact app_nil _)
    clear h0 hkd
    go_enter Try.func12, Try.ntmps12
    go_upto_region 3 with (first
      | (refine wpList_load_row rfl 38 _ rfl w.heap.size rfl 38 _ (0, 0) _ R.out.blk Try.underlying38 rfl hsz.out ?_)
      | (go_at_call 31; refine (rgood_of HA.out _).mono ?_; rintro e w1 ⟨rfl, hb⟩; rw [GD.out]))
    have R1 := Lib.hid (R.out.next hb)
    clear hb R
    have hr := one_text w1 (0 : Int) 0 (by decide)
    have c0 := R1.out.cell 0 _ H0.out
    have R2 := Lib.hid (R1.out.next ((Below.refl _ _).alloc (Nat.le_refl _) (Obj.cells #[.int .u8 0] 5)))
    have c0' := R2.out.cell 0 _ H0.out
    go_upto_region 8 with fail
    clear hr c0 c0'
    rw [show ((⟨#[66, 66, 3, 0, 0, 0]⟩ : ByteArray) ++ ⟨#[0]⟩) = hd by rw [HD.out]; rfl]
    generalize w1.alloc (Obj.cells #[.int .u8 0] 5) = w2 at *
    refine wp_region_quiet (C := OneC w w.heap.size arr 38) (by kernel_rfl) (by kernel_rfl) R2.out.drew ?_
    (refine q_val (v := ?_) (by rfl) ?_ ?_; rotate_left; (· (intro w hC; go_simp; try with_reducible rfl)); (try simp only [Act.put, List.getElem_toArray, List.getElem_cons_succ, List.getElem_cons_zero, List.setIfInBounds_toArray, List.set_cons_zero, List.set_cons_succ]))
    (refine q_val (v := ?_) (by rfl) ?_ ?_; rotate_left; (· (intro w hC; have c := hC.cell 1 _ H1.out; go_simp; try with_reducible rfl)); (try simp only [Act.put, List.getElem_toArray, List.getElem_cons_succ, List.getElem_cons_zero, List.setIfInBounds_toArray, List.set_cons_zero, List.set_cons_succ]))
    (refine q_call (v := .int .u64 (t0 : Nat)) 32 #[.bool p.top] (by rfl) (fun w hC => by go_simp) (fun w hC => calls_in (by have := calls_same (one_any p.top w); rw [T0.out] at this; exact this) (fun w' hb => hC.next hb)) ?_; (try simp only [Act.put, List.getElem_toArray, List.getElem_cons_succ, List.getElem_cons_zero, List.setIfInBounds_toArray, List.set_cons_zero, List.set_cons_succ]))
    (refine q_val (v := ?_) (by rfl) ?_ ?_; rotate_left; (· (intro w hC; go_simp; try with_reducible rfl)); (try simp only [Act.put, List.getElem_toArray, List.getElem_cons_succ, List.getElem_cons_zero, List.setIfInBounds_toArray, List.set_cons_zero, List.set_cons_succ]))
    (refine q_val (v := ?_) (by rfl) ?_ ?_; rotate_left; (· (intro w hC; have c := hC.cell 2 _ H2.out; go_simp; try with_reducible rfl)); (try simp only [Act.put, List.getElem_toArray, List.getElem_cons_succ, List.getElem_cons_zero, List.setIfInBounds_toArray, List.set_cons_zero, List.set_cons_succ]))
    (refine q_call (v := .int .u64 (t1 : Nat)) 32 #[.bool p.prop] (by rfl) (fun w hC => by go_simp) (fun w hC => calls_in (by have := calls_same (one_any p.prop w); rw [T1.out] at this; exact this) (fun w' hb => hC.next hb)) ?_; (try simp only [Act.put, List.getElem_toArray, List.getElem_cons_succ, List.getElem_cons_zero, List.setIfInBounds_toArray, List.set_cons_zero, List.set_cons_succ]))
    (refine q_val (v := ?_) (by rfl) ?_ ?_; rotate_left; (· (intro w hC; have e := M1.out; go_simp; try with_reducible rfl)); (try simp only [Act.put, List.getElem_toArray, List.getElem_cons_succ, List.getElem_cons_zero, List.setIfInBounds_toArray, List.set_cons_zero, List.set_cons_succ]))
    (refine q_val (v := ?_) (by rfl) ?_ ?_; rotate_left; (· (intro w hC; have e := S1.out; go_simp; try with_reducible rfl)); (try simp only [Act.put, List.getElem_toArray, List.getElem_cons_succ, List.getElem_cons_zero, List.setIfInBounds_toArray, List.set_cons_zero, List.set_cons_succ]))
    (refine q_val (v := ?_) (by rfl) ?_ ?_; rotate_left; (· (intro w hC; go_simp; try with_reducible rfl)); (try simp only [Act.put, List.getElem_toArray, List.getElem_cons_succ, List.getElem_cons_zero, List.setIfInBounds_toArray, List.set_cons_zero, List.set_cons_succ]))
    (refine q_val (v := ?_) (by rfl) ?_ ?_; rotate_left; (· (intro w hC; have c := hC.cell 7 _ H7.out; go_simp; try with_reducible rfl)); (try simp only [Act.put, List.getElem_toArray, List.getElem_cons_succ, List.getElem_cons_zero, List.setIfInBounds_toArray, List.set_cons_zero, List.set_cons_succ]))
    (refine q_val (v := ?_) (by rfl) ?_ ?_; rotate_left; (· (intro w hC; have e := RW.out; go_simp; try with_reducible rfl)); (try simp only [Act.put, List.getElem_toArray, List.getElem_cons_succ, List.getElem_cons_zero, List.setIfInBounds_toArray, List.set_cons_zero, List.set_cons_succ]))
    (refine q_val (v := ?_) (by rfl) ?_ ?_; rotate_left; (· (intro w hC; have e := M2.out; go_simp; try with_reducible rfl)); (try simp only [Act.put, List.getElem_toArray, List.getElem_cons_succ, List.getElem_cons_zero, List.setIfInBounds_toArray, List.set_cons_zero, List.set_cons_succ]))
    (refine q_val (v := ?_) (by rfl) ?_ ?_; rotate_left; (· (intro w hC; have e := S2.out; go_simp; try with_reducible rfl)); (try simp only [Act.put, List.getElem_toArray, List.getElem_cons_succ, List.getElem_cons_zero, List.setIfInBounds_toArray, List.set_cons_zero, List.set_cons_succ]))
    (refine q_val (v := ?_) (by rfl) ?_ ?_; rotate_left; (· (intro w hC; go_simp; try with_reducible rfl)); (try simp only [Act.put, List.getElem_toArray, List.getElem_cons_succ, List.getElem_cons_zero, List.setIfInBounds_toArray, List.set_cons_zero, List.set_cons_succ]))
    (refine q_val (v := ?_) (by rfl) ?_ ?_; rotate_left; (· (intro w hC; have c := hC.cell 3 _ H3.out; go_simp; try with_reducible rfl)); (try simp only [Act.put, List.getElem_toArray, List.getElem_cons_succ, List.getElem_cons_zero, List.setIfInBounds_toArray, List.set_cons_zero, List.set_cons_succ]))
    (refine q_call (v := .int .u64 (t4 : Nat)) 32 #[.bool p.lrn] (by rfl) (fun w hC => by go_simp) (fun w hC => calls_in (by have := calls_same (one_any p.lrn w); rw [T4.out] at this; exact this) (fun w' hb => hC.next hb)) ?_; (try simp only [Act.put, List.getElem_toArray, List.getElem_cons_succ, List.getElem_cons_zero, List.setIfInBounds_toArray, List.set_cons_zero, List.set_cons_succ]))
    (refine q_val (v := ?_) (by rfl) ?_ ?_; rotate_left; (· (intro w hC; have e := M4.out; go_simp; try with_reducible rfl)); (try simp only [Act.put, List.getElem_toArray, List.getElem_cons_succ, List.getElem_cons_zero, List.setIfInBounds_toArray, List.set_cons_zero, List.set_cons_succ]))
    (refine q_val (v := ?_) (by rfl) ?_ ?_; rotate_left; (· (intro w hC; have e := S4.out; go_simp; try with_reducible rfl)); (try simp only [Act.put, List.getElem_toArray, List.getElem_cons_succ, List.getElem_cons_zero, List.setIfInBounds_toArray, List.set_cons_zero, List.set_cons_succ]))
    (refine q_val (v := ?_) (by rfl) ?_ ?_; rotate_left; (· (intro w hC; go_simp; try with_reducible rfl)); (try simp only [Act.put, List.getElem_toArray, List.getElem_cons_succ, List.getElem_cons_zero, List.setIfInBounds_toArray, List.set_cons_zero, List.set_cons_succ]))
    (refine q_val (v := ?_) (by rfl) ?_ ?_; rotate_left; (· (intro w hC; have c := hC.cell 4 _ H4.out; go_simp; try with_reducible rfl)); (try simp only [Act.put, List.getElem_toArray, List.getElem_cons_succ, List.getElem_cons_zero, List.setIfInBounds_toArray, List.set_cons_zero, List.set_cons_succ]))
    (refine q_call (v := .int .u64 (t5 : Nat)) 32 #[.bool p.fwd] (by rfl) (fun w hC => by go_simp) (fun w hC => calls_in (by have := calls_same (one_any p.fwd w); rw [T5.out] at this; exact this) (fun w' hb => hC.next hb)) ?_; (try simp only [Act.put, List.getElem_toArray, List.getElem_cons_succ, List.getElem_cons_zero, List.setIfInBounds_toArray, List.set_cons_zero, List.set_cons_succ]))
    (refine q_val (v := ?_) (by rfl) ?_ ?_; rotate_left; (· (intro w hC; have e := M5.out; go_simp; try with_reducible rfl)); (try simp only [Act.put, List.getElem_toArray, List.getElem_cons_succ, List.getElem_cons_zero, List.setIfInBounds_toArray, List.set_cons_zero, List.set_cons_succ]))
    (refine q_val (v := ?_) (by rfl) ?_ ?_; rotate_left; (· (intro w hC; have e := S5.out; go_simp; try with_reducible rfl)); (try simp only [Act.put, List.getElem_toArray, List.getElem_cons_succ, List.getElem_cons_zero, List.setIfInBounds_toArray, List.set_cons_zero, List.set_cons_succ]))
    (refine q_val (v := ?_) (by rfl) ?_ ?_; rotate_left; (· (intro w hC; go_simp; try with_reducible rfl)); (try simp only [Act.put, List.getElem_toArray, List.getElem_cons_succ, List.getElem_cons_zero, List.setIfInBounds_toArray, List.set_cons_zero, List.set_cons_succ]))
    (refine q_val (v := ?_) (by rfl) ?_ ?_; rotate_left; (· (intro w hC; have c := hC.cell 5 _ H5.out; go_simp; try with_reducible rfl)); (try simp only [Act.put, List.getElem_toArray, List.getElem_cons_succ, List.getElem_cons_zero, List.setIfInBounds_toArray, List.set_cons_zero, List.set_cons_succ]))
    (refine q_call (v := .int .u64 (t6 : Nat)) 32 #[.bool p.agr] (by rfl) (fun w hC => by go_simp) (fun w hC => calls_in (by have := calls_same (one_any p.agr w); rw [T6.out] at this; exact this) (fun w' hb => hC.next hb)) ?_; (try simp only [Act.put, List.getElem_toArray, List.getElem_cons_succ, List.getElem_cons_zero, List.setIfInBounds_toArray, List.set_cons_zero, List.set_cons_succ]))
    (refine q_val (v := ?_) (by rfl) ?_ ?_; rotate_left; (· (intro w hC; have e := M6.out; go_simp; try with_reducible rfl)); (try simp only [Act.put, List.getElem_toArray, List.getElem_cons_succ, List.getElem_cons_zero, List.setIfInBounds_toArray, List.set_cons_zero, List.set_cons_succ]))
    (refine q_val (v := ?_) (by rfl) ?_ ?_; rotate_left; (· (intro w hC; have e := S6.out; go_simp; try with_reducible rfl)); (try simp only [Act.put, List.getElem_toArray, List.getElem_cons_succ, List.getElem_cons_zero, List.setIfInBounds_toArray, List.set_cons_zero, List.set_cons_succ]))
    (refine q_val (v := ?_) (by rfl) ?_ ?_; rotate_left; (· (intro w hC; go_simp; try with_reducible rfl)); (try simp only [Act.put, List.getElem_toArray, List.getElem_cons_succ, List.getElem_cons_zero, List.setIfInBounds_toArray, List.set_cons_zero, List.set_cons_succ]))
    (refine q_val (v := ?_) (by rfl) ?_ ?_; rotate_left; (· (intro w hC; have c := hC.cell 6 _ H6.out; go_simp; try with_reducible rfl)); (try simp only [Act.put, List.getElem_toArray, List.getElem_cons_succ, List.getElem_cons_zero, List.setIfInBounds_toArray, List.set_cons_zero, List.set_cons_succ]))
    (refine q_call (v := .int .u64 (t7 : Nat)) 32 #[.bool p.ack] (by rfl) (fun w hC => by go_simp) (fun w hC => calls_in (by have := calls_same (one_any p.ack w); rw [T7.out] at this; exact this) (fun w' hb => hC.next hb)) ?_; (try simp only [Act.put, List.getElem_toArray, List.getElem_cons_succ, List.getElem_cons_zero, List.setIfInBounds_toArray, List.set_cons_zero, List.set_cons_succ]))
    (refine q_val (v := ?_) (by rfl) ?_ ?_; rotate_left; (· (intro w hC; have e := M7.out; go_simp; try with_reducible rfl)); (try simp only [Act.put, List.getElem_toArray, List.getElem_cons_succ, List.getElem_cons_zero, List.setIfInBounds_toArray, List.set_cons_zero, List.set_cons_succ]))
    (refine q_val (v := ?_) (by rfl) ?_ ?_; rotate_left; (· (intro w hC; have e := S7.out; go_simp; try with_reducible rfl)); (try simp only [Act.put, List.getElem_toArray, List.getElem_cons_succ, List.getElem_cons_zero, List.setIfInBounds_toArray, List.set_cons_zero, List.set_cons_succ]))
    (refine q_val (v := ?_) (by rfl) ?_ ?_; rotate_left; (· (intro w hC; go_simp; try with_reducible rfl)); (try simp only [Act.put, List.getElem_toArray, List.getElem_cons_succ, List.getElem_cons_zero, List.setIfInBounds_toArray, List.set_cons_zero, List.set_cons_succ]))
    refine wpQuiet_nil ?_
    intro w3 hC
    have R3 := Lib.hid hC
    clear hC R1 R2
    go_upto_region 9 with fail
    refine wp_region_quiet (C := OneC w w.heap.size arr 38) (by kernel_rfl) (by kernel_rfl) R3.out.drew ?_
    (refine q_val (v := ?_) (by rfl) ?_ ?_; rotate_left; (· (intro w hC; go_simp; try with_reducible rfl)); (try simp only [Act.put, List.getElem_toArray, List.getElem_cons_succ, List.getElem_cons_zero, List.setIfInBounds_toArray, List.set_cons_zero, List.set_cons_succ]))
    (refine q_val (v := ?_) (by rfl) ?_ ?_; rotate_left; (· (intro w hC; go_simp; try with_reducible rfl)); (try simp only [Act.put, List.getElem_toArray, List.getElem_cons_succ, List.getElem_cons_zero, List.setIfInBounds_toArray, List.set_cons_zero, List.set_cons_succ]))
    (refine q_call (v := .string b1) 33 #[.int .u64 (s7 : Nat), .int .i64 1] (by rfl) (fun w hC => by go_simp) (fun w hC => calls_in (by have := rbytes_is s7 1 w (by omega) (by omega) (by omega); rw [B1.out] at this; exact this) (fun w' hb => hC.next hb)) ?_; (try simp only [Act.put, List.getElem_toArray, List.getElem_cons_succ, List.getElem_cons_zero, List.setIfInBounds_toArray, List.set_cons_zero, List.set_cons_succ]))
    (refine q_val (v := ?_) (by rfl) ?_ ?_; rotate_left; (· (intro w hC; go_simp; try with_reducible rfl)); (try simp only [Act.put, List.getElem_toArray, List.getElem_cons_succ, List.getElem_cons_zero, List.setIfInBounds_toArray, List.set_cons_zero, List.set_cons_succ]))
    (refine q_val (v := ?_) (by rfl) ?_ ?_; rotate_left; (· (intro w hC; have c := hC.cell 8 _ H8.out; go_simp; try with_reducible rfl)); (try simp only [Act.put, List.getElem_toArray, List.getElem_cons_succ, List.getElem_cons_zero, List.setIfInBounds_toArray, List.set_cons_zero, List.set_cons_succ]))
    (refine q_call (v := .string b2) 33 #[.int .u64 (p.root : Nat), .int .i64 8] (by rfl) (fun w hC => by go_simp) (fun w hC => calls_in (by have := rbytes_is p.root 8 w (by omega) (by omega) (by omega); rw [B2.out] at this; exact this) (fun w' hb => hC.next hb)) ?_; (try simp only [Act.put, List.getElem_toArray, List.getElem_cons_succ, List.getElem_cons_zero, List.setIfInBounds_toArray, List.set_cons_zero, List.set_cons_succ]))
    (refine q_val (v := ?_) (by rfl) ?_ ?_; rotate_left; (· (intro w hC; have e := A1.out; go_simp; try with_reducible rfl)); (try simp only [Act.put, List.getElem_toArray, List.getElem_cons_succ, List.getElem_cons_zero, List.setIfInBounds_toArray, List.set_cons_zero, List.set_cons_succ]))
    (refine q_val (v := ?_) (by rfl) ?_ ?_; rotate_left; (· (intro w hC; go_simp; try with_reducible rfl)); (try simp only [Act.put, List.getElem_toArray, List.getElem_cons_succ, List.getElem_cons_zero, List.setIfInBounds_toArray, List.set_cons_zero, List.set_cons_succ]))
    (refine q_val (v := ?_) (by rfl) ?_ ?_; rotate_left; (· (intro w hC; have c := hC.cell 9 _ H9.out; go_simp; try with_reducible rfl)); (try simp only [Act.put, List.getElem_toArray, List.getElem_cons_succ, List.getElem_cons_zero, List.setIfInBounds_toArray, List.set_cons_zero, List.set_cons_succ]))
    (refine q_val (v := ?_) (by rfl) ?_ ?_; rotate_left; (· (intro w hC; have e := CW.out; go_simp; try with_reducible rfl)); (try simp only [Act.put, List.getElem_toArray, List.getElem_cons_succ, List.getElem_cons_zero, List.setIfInBounds_toArray, List.set_cons_zero, List.set_cons_succ]))
    (refine q_call (v := .string b3) 33 #[.int .u64 (p.cost : Nat), .int .i64 4] (by rfl) (fun w hC => by go_simp) (fun w hC => calls_in (by have := rbytes_is p.cost 4 w (by omega) (by omega) (by omega); rw [B3.out] at this; exact this) (fun w' hb => hC.next hb)) ?_; (try simp only [Act.put, List.getElem_toArray, List.getElem_cons_succ, List.getElem_cons_zero, List.setIfInBounds_toArray, List.set_cons_zero, List.set_cons_succ]))
    (refine q_val (v := ?_) (by rfl) ?_ ?_; rotate_left; (· (intro w hC; have e := A2.out; go_simp; try with_reducible rfl)); (try simp only [Act.put, List.getElem_toArray, List.getElem_cons_succ, List.getElem_cons_zero, List.setIfInBounds_toArray, List.set_cons_zero, List.set_cons_succ]))
    (refine q_val (v := ?_) (by rfl) ?_ ?_; rotate_left; (· (intro w hC; go_simp; try with_reducible rfl)); (try simp only [Act.put, List.getElem_toArray, List.getElem_cons_succ, List.getElem_cons_zero, List.setIfInBounds_toArray, List.set_cons_zero, List.set_cons_succ]))
    (refine q_val (v := ?_) (by rfl) ?_ ?_; rotate_left; (· (intro w hC; have c := hC.cell 10 _ H10.out; go_simp; try with_reducible rfl)); (try simp only [Act.put, List.getElem_toArray, List.getElem_cons_succ, List.getElem_cons_zero, List.setIfInBounds_toArray, List.set_cons_zero, List.set_cons_succ]))
    (refine q_call (v := .string b4) 33 #[.int .u64 (p.bridge : Nat), .int .i64 8] (by rfl) (fun w hC => by go_simp) (fun w hC => calls_in (by have := rbytes_is p.bridge 8 w (by omega) (by omega) (by omega); rw [B4.out] at this; exact this) (fun w' hb => hC.next hb)) ?_; (try simp only [Act.put, List.getElem_toArray, List.getElem_cons_succ, List.getElem_cons_zero, List.setIfInBounds_toArray, List.set_cons_zero, List.set_cons_succ]))
    (refine q_val (v := ?_) (by rfl) ?_ ?_; rotate_left; (· (intro w hC; have e := A3.out; go_simp; try with_reducible rfl)); (try simp only [Act.put, List.getElem_toArray, List.getElem_cons_succ, List.getElem_cons_zero, List.setIfInBounds_toArray, List.set_cons_zero, List.set_cons_succ]))
    (refine q_val (v := ?_) (by rfl) ?_ ?_; rotate_left; (· (intro w hC; have e := A4.out; go_simp; try with_reducible rfl)); (try simp only [Act.put, List.getElem_toArray, List.getElem_cons_succ, List.getElem_cons_zero, List.setIfInBounds_toArray, List.set_cons_zero, List.set_cons_succ]))
    (refine q_val (v := ?_) (by rfl) ?_ ?_; rotate_left; (· (intro w hC; go_simp; try with_reducible rfl)); (try simp only [Act.put, List.getElem_toArray, List.getElem_cons_succ, List.getElem_cons_zero, List.setIfInBounds_toArray, List.set_cons_zero, List.set_cons_succ]))
    refine wpQuiet_nil ?_
    intro w4 hC
    have R4 := Lib.hid hC
    clear hC R3
    rw [F4.out]
    have c1 := R4.out.cell 11 _ H11.out
    have c2 := R4.out.cell 12 _ H12.out
    have c3 := R4.out.cell 13 _ H13.out
    have c4 := R4.out.cell 14 _ H14.out
    have c5 := R4.out.cell 15 _ H15.out
    have S := Lib.hid (Blk.new w4 (wA p) 78)
    have R5 := Lib.hid (R4.out.next ((Below.refl _ _).alloc (Nat.le_refl _) (Obj.cells (wA p) 78)))
    go_wp2_with fail
    go_loopw [4, 7] (fun s4 i wr => ∃ k : Nat, k ≤ 5 ∧ i = .int .i64 k ∧ s4 = .string (hd ++ accS p k) ∧ Blk wr w4.heap.size (wA p) 78 ∧ OneC w w.heap.size arr 38 wr) (fun _ i _ => 5 - (intOf i).toNat)
    case atStart => exact ⟨0, by omega, rfl, rfl, S.out, R5.out⟩
    case round =>
      obtain ⟨k, hk, rfl, rfl, hS, hW⟩ := hrel
      clear c1 c2 c3 c4 c5 S R4 R5
      have WL := Lib.hid hW
      have SL := Lib.hid hS
      by_cases hlt : k < 5
      · have hc := hS.cell k
        rw [wA_at p k hlt] at hc
        have hl := wd_lt OK.out k
        obtain ⟨y, hy⟩ : ∃ y, y = wd p k := ⟨_, rfl⟩
        rw [← hy] at hc hl
        obtain ⟨a, ha⟩ : ∃ a, a = hd ++ accS p k := ⟨_, rfl⟩
        obtain ⟨d, hd2⟩ : ∃ d, d = bS y 2 := ⟨_, rfl⟩
        have za : a.size = 28 + 2 * k := by rw [ha, app_size, accS_size, ZH.out]; omega
        have zd : d.size = 2 := by rw [hd2, bS_size]
        have add := hadd a d (by omega)
        have ST := Lib.hid (show a ++ d = hd ++ accS p (k + 1) by rw [ha, hd2, hy, ByteArray.append_assoc]; rfl)
        have D := Lib.hid hd2.symm
        have A := Lib.hid ha.symm
        rw [A.out]
        clear hd2 ha za zd hy hS hW
        go_wp2_with (first
          | (go_at_call 33; refine (rbytes_is y 2 _ (by omega) (by omega) (by omega)).mono ?_; rintro e w8 ⟨rfl, hb⟩; rw [D.out]))
        go_roundw
        case rel => exact ⟨k + 1, by omega, by go_num, by rw [ST.out], SL.out.below hb SL.out.lt, WL.out.next hb⟩
        case measure => simp [intOf]; omega
      · have hk5 : k = 5 := by omega
        subst hk5
        have c0 := hW.cell 0 _ H0.out
        clear hS hW
        obtain ⟨z, hz⟩ : ∃ z, z = hd ++ accS p 5 := ⟨_, rfl⟩
        have ZL := Lib.hid (hadd z ⟨#[0]⟩ (by rw [hz, app_size, accS_size, ZH.out]; decide))
        have Z := Lib.hid hz.symm
        clear hz
        rw [Z.out]
        have add := ZL.out
        go_wp2_with fail
        go_ret2
        exact ⟨ret_enc (by rw [EN.out, Z.out]) rfl, WL.out.below⟩
  · rw [hkd] at h0
    have H0 := Lib.hid (show arr[0]? = some (.int .u8 2) from h0)
    have HD := Lib.hid (show hd = ⟨#[66, 66, 3, 0, 0, 2, 2]⟩ by rw [HH.out]; unfold hdS; rw [hkd]; rfl)
    have EN := Lib.hid (show rawS p = (hd ++ accS p 5) ++ ⟨#[0]⟩ by unfold rawS; rw [if_neg (by omega), hkd, HH.out]; rfl)
    clear h0 hkd
    go_enter Try.func12, Try.ntmps12
    go_upto_region 3 with (first
      | (refine wpList_load_row rfl 38 _ rfl w.heap.size rfl 38 _ (0, 0) _ R.out.blk Try.underlying38 rfl hsz.out ?_)
      | (go_at_call 31; refine (rgood_of HA.out _).mono ?_; rintro e w1 ⟨rfl, hb⟩; rw [GD.out]))
    have R1 := Lib.hid (R.out.next hb)
    clear hb R
    have hr := one_text w1 (2 : Int) 2 (by decide)
    have c0 := R1.out.cell 0 _ H0.out
    have R2 := Lib.hid (R1.out.next ((Below.refl _ _).alloc (Nat.le_refl _) (Obj.cells #[.int .u8 2] 5)))
    have c0' := R2.out.cell 0 _ H0.out
    go_upto_region 8 with fail
    clear hr c0 c0'
    rw [show (⟨#[66, 66, 3, 0, 0, 2, 2]⟩ : ByteArray) = hd by rw [HD.out]]
    generalize w1.alloc (Obj.cells #[.int .u8 2] 5) = w2 at *
    refine wp_region_quiet (C := OneC w w.heap.size arr 38) (by kernel_rfl) (by kernel_rfl) R2.out.drew ?_
    (refine q_val (v := ?_) (by rfl) ?_ ?_; rotate_left; (· (intro w hC; go_simp; try with_reducible rfl)); (try simp only [Act.put, List.getElem_toArray, List.getElem_cons_succ, List.getElem_cons_zero, List.setIfInBounds_toArray, List.set_cons_zero, List.set_cons_succ]))
    (refine q_val (v := ?_) (by rfl) ?_ ?_; rotate_left; (· (intro w hC; have c := hC.cell 1 _ H1.out; go_simp; try with_reducible rfl)); (try simp only [Act.put, List.getElem_toArray, List.getElem_cons_succ, List.getElem_cons_zero, List.setIfInBounds_toArray, List.set_cons_zero, List.set_cons_succ]))
    (refine q_call (v := .int .u64 (t0 : Nat)) 32 #[.bool p.top] (by rfl) (fun w hC => by go_simp) (fun w hC => calls_in (by have := calls_same (one_any p.top w); rw [T0.out] at this; exact this) (fun w' hb => hC.next hb)) ?_; (try simp only [Act.put, List.getElem_toArray, List.getElem_cons_succ, List.getElem_cons_zero, List.setIfInBounds_toArray, List.set_cons_zero, List.set_cons_succ]))
    (refine q_val (v := ?_) (by rfl) ?_ ?_; rotate_left; (· (intro w hC; go_simp; try with_reducible rfl)); (try simp only [Act.put, List.getElem_toArray, List.getElem_cons_succ, List.getElem_cons_zero, List.setIfInBounds_toArray, List.set_cons_zero, List.set_cons_succ]))
    (refine q_val (v := ?_) (by rfl) ?_ ?_; rotate_left; (· (intro w hC; have c := hC.cell 2 _ H2.out; go_simp; try with_reducible rfl)); (try simp only [Act.put, List.getElem_toArray, List.getElem_cons_succ, List.getElem_cons_zero, List.setIfInBounds_toArray, List.set_cons_zero, List.set_cons_succ]))
    (refine q_call (v := .int .u64 (t1 : Nat)) 32 #[.bool p.prop] (by rfl) (fun w hC => by go_simp) (fun w hC => calls_in (by have := calls_same (one_any p.prop w); rw [T1.out] at this; exact this) (fun w' hb => hC.next hb)) ?_; (try simp only [Act.put, List.getElem_toArray, List.getElem_cons_succ, List.getElem_cons_zero, List.setIfInBounds_toArray, List.set_cons_zero, List.set_cons_succ]))
    (refine q_val (v := ?_) (by rfl) ?_ ?_; rotate_left; (· (intro w hC; have e := M1.out; go_simp; try with_reducible rfl)); (try simp only [Act.put, List.getElem_toArray, List.getElem_cons_succ, List.getElem_cons_zero, List.setIfInBounds_toArray, List.set_cons_zero, List.set_cons_succ]))
    (refine q_val (v := ?_) (by rfl) ?_ ?_; rotate_left; (· (intro w hC; have e := S1.out; go_simp; try with_reducible rfl)); (try simp only [Act.put, List.getElem_toArray, List.getElem_cons_succ, List.getElem_cons_zero, List.setIfInBounds_toArray, List.set_cons_zero, List.set_cons_succ]))
    (refine q_val (v := ?_) (by rfl) ?_ ?_; rotate_left; (· (intro w hC; go_simp; try with_reducible rfl)); (try simp only [Act.put, List.getElem_toArray, List.getElem_cons_succ, List.getElem_cons_zero, List.setIfInBounds_toArray, List.set_cons_zero, List.set_cons_succ]))
    (refine q_val (v := ?_) (by rfl) ?_ ?_; rotate_left; (· (intro w hC; have c := hC.cell 7 _ H7.out; go_simp; try with_reducible rfl)); (try simp only [Act.put, List.getElem_toArray, List.getElem_cons_succ, List.getElem_cons_zero, List.setIfInBounds_toArray, List.set_cons_zero, List.set_cons_succ]))
    (refine q_val (v := ?_) (by rfl) ?_ ?_; rotate_left; (· (intro w hC; have e := RW.out; go_simp; try with_reducible rfl)); (try simp only [Act.put, List.getElem_toArray, List.getElem_cons_succ, List.getElem_cons_zero, List.setIfInBounds_toArray, List.set_cons_zero, List.set_cons_succ]))
    (refine q_val (v := ?_) (by rfl) ?_ ?_; rotate_left; (· (intro w hC; have e := M2.out; go_simp; try with_reducible rfl)); (try simp only [Act.put, List.getElem_toArray, List.getElem_cons_succ, List.getElem_cons_zero, List.setIfInBounds_toArray, List.set_cons_zero, List.set_cons_succ]))
    (refine q_val (v := ?_) (by rfl) ?_ ?_; rotate_left; (· (intro w hC; have e := S2.out; go_simp; try with_reducible rfl)); (try simp only [Act.put, List.getElem_toArray, List.getElem_cons_succ, List.getElem_cons_zero, List.setIfInBounds_toArray, List.set_cons_zero, List.set_cons_succ]))
    (refine q_val (v := ?_) (by rfl) ?_ ?_; rotate_left; (· (intro w hC; go_simp; try with_reducible rfl)); (try simp only [Act.put, List.getElem_toArray, List.getElem_cons_succ, List.getElem_cons_zero, List.setIfInBounds_toArray, List.set_cons_zero, List.set_cons_succ]))
    (refine q_val (v := ?_) (by rfl) ?_ ?_; rotate_left; (· (intro w hC; have c := hC.cell 3 _ H3.out; go_simp; try with_reducible rfl)); (try simp only [Act.put, List.getElem_toArray, List.getElem_cons_succ, List.getElem_cons_zero, List.setIfInBounds_toArray, List.set_cons_zero, List.set_cons_succ]))
    (refine q_call (v := .int .u64 (t4 : Nat)) 32 #[.bool p.lrn] (by rfl) (fun w hC => by go_simp) (fun w hC => calls_in (by have := calls_same (one_any p.lrn w); rw [T4.out] at this; exact this) (fun w' hb => hC.next hb)) ?_; (try simp only [Act.put, List.getElem_toArray, List.getElem_cons_succ, List.getElem_cons_zero, List.setIfInBounds_toArray, List.set_cons_zero, List.set_cons_succ]))
    (refine q_val (v := ?_) (by rfl) ?_ ?_; rotate_left; (· (intro w hC; have e := M4.out; go_simp; try with_reducible rfl)); (try simp only [Act.put, List.getElem_toArray, List.getElem_cons_succ, List.getElem_cons_zero, List.setIfInBounds_toArray, List.set_cons_zero, List.set_cons_succ]))
    (refine q_val (v := ?_) (by rfl) ?_ ?_; rotate_left; (· (intro w hC; have e := S4.out; go_simp; try with_reducible rfl)); (try simp only [Act.put, List.getElem_toArray, List.getElem_cons_succ, List.getElem_cons_zero, List.setIfInBounds_toArray, List.set_cons_zero, List.set_cons_succ]))
    (refine q_val (v := ?_) (by rfl) ?_ ?_; rotate_left; (· (intro w hC; go_simp; try with_reducible rfl)); (try simp only [Act.put, List.getElem_toArray, List.getElem_cons_succ, List.getElem_cons_zero, List.setIfInBounds_toArray, List.set_cons_zero, List.set_cons_succ]))
    (refine q_val (v := ?_) (by rfl) ?_ ?_; rotate_left; (· (intro w hC; have c := hC.cell 4 _ H4.out; go_simp; try with_reducible rfl)); (try simp only [Act.put, List.getElem_toArray, List.getElem_cons_succ, List.getElem_cons_zero, List.setIfInBounds_toArray, List.set_cons_zero, List.set_cons_succ]))
    (refine q_call (v := .int .u64 (t5 : Nat)) 32 #[.bool p.fwd] (by rfl) (fun w hC => by go_simp) (fun w hC => calls_in (by have := calls_same (one_any p.fwd w); rw [T5.out] at this; exact this) (fun w' hb => hC.next hb)) ?_; (try simp only [Act.put, List.getElem_toArray, List.getElem_cons_succ, List.getElem_cons_zero, List.setIfInBounds_toArray, List.set_cons_zero, List.set_cons_succ]))
    (refine q_val (v := ?_) (by rfl) ?_ ?_; rotate_left; (· (intro w hC; have e := M5.out; go_simp; try with_reducible rfl)); (try simp only [Act.put, List.getElem_toArray, List.getElem_cons_succ, List.getElem_cons_zero, List.setIfInBounds_toArray, List.set_cons_zero, List.set_cons_succ]))
    (refine q_val (v := ?_) (by rfl) ?_ ?_; rotate_left; (· (intro w hC; have e := S5.out; go_simp; try with_reducible rfl)); (try simp only [Act.put, List.getElem_toArray, List.getElem_cons_succ, List.getElem_cons_zero, List.setIfInBounds_toArray, List.set_cons_zero, List.set_cons_succ]))
    (refine q_val (v := ?_) (by rfl) ?_ ?_; rotate_left; (· (intro w hC; go_simp; try with_reducible rfl)); (try simp only [Act.put, List.getElem_toArray, List.getElem_cons_succ, List.getElem_cons_zero, List.setIfInBounds_toArray, List.set_cons_zero, List.set_cons_succ]))
    (refine q_val (v := ?_) (by rfl) ?_ ?_; rotate_left; (· (intro w hC; have c := hC.cell 5 _ H5.out; go_simp; try with_reducible rfl)); (try simp only [Act.put, List.getElem_toArray, List.getElem_cons_succ, List.getElem_cons_zero, List.setIfInBounds_toArray, List.set_cons_zero, List.set_cons_succ]))
    (refine q_call (v := .int .u64 (t6 : Nat)) 32 #[.bool p.agr] (by rfl) (fun w hC => by go_simp) (fun w hC => calls_in (by have := calls_same (one_any p.agr w); rw [T6.out] at this; exact this) (fun w' hb => hC.next hb)) ?_; (try simp only [Act.put, List.getElem_toArray, List.getElem_cons_succ, List.getElem_cons_zero, List.setIfInBounds_toArray, List.set_cons_zero, List.set_cons_succ]))
    (refine q_val (v := ?_) (by rfl) ?_ ?_; rotate_left; (· (intro w hC; have e := M6.out; go_simp; try with_reducible rfl)); (try simp only [Act.put, List.getElem_toArray, List.getElem_cons_succ, List.getElem_cons_zero, List.setIfInBounds_toArray, List.set_cons_zero, List.set_cons_succ]))
    (refine q_val (v := ?_) (by rfl) ?_ ?_; rotate_left; (· (intro w hC; have e := S6.out; go_simp; try with_reducible rfl)); (try simp only [Act.put, List.getElem_toArray, List.getElem_cons_succ, List.getElem_cons_zero, List.setIfInBounds_toArray, List.set_cons_zero, List.set_cons_succ]))
    (refine q_val (v := ?_) (by rfl) ?_ ?_; rotate_left; (· (intro w hC; go_simp; try with_reducible rfl)); (try simp only [Act.put, List.getElem_toArray, List.getElem_cons_succ, List.getElem_cons_zero, List.setIfInBounds_toArray, List.set_cons_zero, List.set_cons_succ]))
    (refine q_val (v := ?_) (by rfl) ?_ ?_; rotate_left; (· (intro w hC; have c := hC.cell 6 _ H6.out; go_simp; try with_reducible rfl)); (try simp only [Act.put, List.getElem_toArray, List.getElem_cons_succ, List.getElem_cons_zero, List.setIfInBounds_toArray, List.set_cons_zero, List.set_cons_succ]))
    (refine q_call (v := .int .u64 (t7 : Nat)) 32 #[.bool p.ack] (by rfl) (fun w hC => by go_simp) (fun w hC => calls_in (by have := calls_same (one_any p.ack w); rw [T7.out] at this; exact this) (fun w' hb => hC.next hb)) ?_; (try simp only [Act.put, List.getElem_toArray, List.getElem_cons_succ, List.getElem_cons_zero, List.setIfInBounds_toArray, List.set_cons_zero, List.set_cons_succ]))
    (refine q_val (v := ?_) (by rfl) ?_ ?_; rotate_left; (· (intro w hC; have e := M7.out; go_simp; try with_reducible rfl)); (try simp only [Act.put, List.getElem_toArray, List.getElem_cons_succ, List.getElem_cons_zero, List.setIfInBounds_toArray, List.set_cons_zero, List.set_cons_succ]))
    (refine q_val (v := ?_) (by rfl) ?_ ?_; rotate_left; (· (intro w hC; have e := S7.out; go_simp; try with_reducible rfl)); (try simp only [Act.put, List.getElem_toArray, List.getElem_cons_succ, List.getElem_cons_zero, List.setIfInBounds_toArray, List.set_cons_zero, List.set_cons_succ]))
    (refine q_val (v := ?_) (by rfl) ?_ ?_; rotate_left; (· (intro w hC; go_simp; try with_reducible rfl)); (try simp only [Act.put, List.getElem_toArray, List.getElem_cons_succ, List.getElem_cons_zero, List.setIfInBounds_toArray, List.set_cons_zero, List.set_cons_succ]))
    refine wpQuiet_nil ?_
    intro w3 hC
    have R3 := Lib.hid hC
    clear hC R1 R2
    go_upto_region 9 with fail
    refine wp_region_quiet (C := OneC w w.heap.size arr 38) (by kernel_rfl) (by kernel_rfl) R3.out.drew ?_
    (refine q_val (v := ?_) (by rfl) ?_ ?_; rotate_left; (· (intro w hC; go_simp; try with_reducible rfl)); (try simp only [Act.put, List.getElem_toArray, List.getElem_cons_succ, List.getElem_cons_zero, List.setIfInBounds_toArray, List.set_cons_zero, List.set_cons_succ]))
    (refine q_val (v := ?_) (by rfl) ?_ ?_; rotate_left; (· (intro w hC; go_simp; try with_reducible rfl)); (try simp only [Act.put, List.getElem_toArray, List.getElem_cons_succ, List.getElem_cons_zero, List.setIfInBounds_toArray, List.set_cons_zero, List.set_cons_succ]))
    (refine q_call (v := .string b1) 33 #[.int .u64 (s7 : Nat), .int .i64 1] (by rfl) (fun w hC => by go_simp) (fun w hC => calls_in (by have := rbytes_is s7 1 w (by omega) (by omega) (by omega); rw [B1.out] at this; exact this) (fun w' hb => hC.next hb)) ?_; (try simp only [Act.put, List.getElem_toArray, List.getElem_cons_succ, List.getElem_cons_zero, List.setIfInBounds_toArray, List.set_cons_zero, List.set_cons_succ]))
    (refine q_val (v := ?_) (by rfl) ?_ ?_; rotate_left; (· (intro w hC; go_simp; try with_reducible rfl)); (try simp only [Act.put, List.getElem_toArray, List.getElem_cons_succ, List.getElem_cons_zero, List.setIfInBounds_toArray, List.set_cons_zero, List.set_cons_succ]))
    (refine q_val (v := ?_) (by rfl) ?_ ?_; rotate_left; (· (intro w hC; have c := hC.cell 8 _ H8.out; go_simp; try with_reducible rfl)); (try simp only [Act.put, List.getElem_toArray, List.getElem_cons_succ, List.getElem_cons_zero, List.setIfInBounds_toArray, List.set_cons_zero, List.set_cons_succ]))
    (refine q_call (v := .string b2) 33 #[.int .u64 (p.root : Nat), .int .i64 8] (by rfl) (fun w hC => by go_simp) (fun w hC => calls_in (by have := rbytes_is p.root 8 w (by omega) (by omega) (by omega); rw [B2.out] at this; exact this) (fun w' hb => hC.next hb)) ?_; (try simp only [Act.put, List.getElem_toArray, List.getElem_cons_succ, List.getElem_cons_zero, List.setIfInBounds_toArray, List.set_cons_zero, List.set_cons_succ]))
    (refine q_val (v := ?_) (by rfl) ?_ ?_; rotate_left; (· (intro w hC; have e := A1.out; go_simp; try with_reducible rfl)); (try simp only [Act.put, List.getElem_toArray, List.getElem_cons_succ, List.getElem_cons_zero, List.setIfInBounds_toArray, List.set_cons_zero, List.set_cons_succ]))
    (refine q_val (v := ?_) (by rfl) ?_ ?_; rotate_left; (· (intro w hC; go_simp; try with_reducible rfl)); (try simp only [Act.put, List.getElem_toArray, List.getElem_cons_succ, List.getElem_cons_zero, List.setIfInBounds_toArray, List.set_cons_zero, List.set_cons_succ]))
    (refine q_val (v := ?_) (by rfl) ?_ ?_; rotate_left; (· (intro w hC; have c := hC.cell 9 _ H9.out; go_simp; try with_reducible rfl)); (try simp only [Act.put, List.getElem_toArray, List.getElem_cons_succ, List.getElem_cons_zero, List.setIfInBounds_toArray, List.set_cons_zero, List.set_cons_succ]))
    (refine q_val (v := ?_) (by rfl) ?_ ?_; rotate_left; (· (intro w hC; have e := CW.out; go_simp; try with_reducible rfl)); (try simp only [Act.put, List.getElem_toArray, List.getElem_cons_succ, List.getElem_cons_zero, List.setIfInBounds_toArray, List.set_cons_zero, List.set_cons_succ]))
    (refine q_call (v := .string b3) 33 #[.int .u64 (p.cost : Nat), .int .i64 4] (by rfl) (fun w hC => by go_simp) (fun w hC => calls_in (by have := rbytes_is p.cost 4 w (by omega) (by omega) (by omega); rw [B3.out] at this; exact this) (fun w' hb => hC.next hb)) ?_; (try simp only [Act.put, List.getElem_toArray, List.getElem_cons_succ, List.getElem_cons_zero, List.setIfInBounds_toArray, List.set_cons_zero, List.set_cons_succ]))
    (refine q_val (v := ?_) (by rfl) ?_ ?_; rotate_left; (· (intro w hC; have e := A2.out; go_simp; try with_reducible rfl)); (try simp only [Act.put, List.getElem_toArray, List.getElem_cons_succ, List.getElem_cons_zero, List.setIfInBounds_toArray, List.set_cons_zero, List.set_cons_succ]))
    (refine q_val (v := ?_) (by rfl) ?_ ?_; rotate_left; (· (intro w hC; go_simp; try with_reducible rfl)); (try simp only [Act.put, List.getElem_toArray, List.getElem_cons_succ, List.getElem_cons_zero, List.setIfInBounds_toArray, List.set_cons_zero, List.set_cons_succ]))
    (refine q_val (v := ?_) (by rfl) ?_ ?_; rotate_left; (· (intro w hC; have c := hC.cell 10 _ H10.out; go_simp; try with_reducible rfl)); (try simp only [Act.put, List.getElem_toArray, List.getElem_cons_succ, List.getElem_cons_zero, List.setIfInBounds_toArray, List.set_cons_zero, List.set_cons_succ]))
    (refine q_call (v := .string b4) 33 #[.int .u64 (p.bridge : Nat), .int .i64 8] (by rfl) (fun w hC => by go_simp) (fun w hC => calls_in (by have := rbytes_is p.bridge 8 w (by omega) (by omega) (by omega); rw [B4.out] at this; exact this) (fun w' hb => hC.next hb)) ?_; (try simp only [Act.put, List.getElem_toArray, List.getElem_cons_succ, List.getElem_cons_zero, List.setIfInBounds_toArray, List.set_cons_zero, List.set_cons_succ]))
    (refine q_val (v := ?_) (by rfl) ?_ ?_; rotate_left; (· (intro w hC; have e := A3.out; go_simp; try with_reducible rfl)); (try simp only [Act.put, List.getElem_toArray, List.getElem_cons_succ, List.getElem_cons_zero, List.setIfInBounds_toArray, List.set_cons_zero, List.set_cons_succ]))
    (refine q_val (v := ?_) (by rfl) ?_ ?_; rotate_left; (· (intro w hC; have e := A4.out; go_simp; try with_reducible rfl)); (try simp only [Act.put, List.getElem_toArray, List.getElem_cons_succ, List.getElem_cons_zero, List.setIfInBounds_toArray, List.set_cons_zero, List.set_cons_succ]))
    (refine q_val (v := ?_) (by rfl) ?_ ?_; rotate_left; (· (intro w hC; go_simp; try with_reducible rfl)); (try simp only [Act.put, List.getElem_toArray, List.getElem_cons_succ, List.getElem_cons_zero, List.setIfInBounds_toArray, List.set_cons_zero, List.set_cons_succ]))
    refine wpQuiet_nil ?_
    intro w4 hC
    have R4 := Lib.hid hC
    clear hC R3
    rw [F4.out]
    have c1 := R4.out.cell 11 _ H11.out
    have c2 := R4.out.cell 12 _ H12.out
    have c3 := R4.out.cell 13 _ H13.out
    have c4 := R4.out.cell 14 _ H14.out
    have c5 := R4.out.cell 15 _ H15.out
    have S := Lib.hid (Blk.new w4 (wA p) 78)
    have R5 := Lib.hid (R4.out.next ((Below.refl _ _).alloc (Nat.le_refl _) (Obj.cells (wA p) 78)))
    go_wp2_with fail
    go_loopw [4, 7] (fun s4 i wr => ∃ k : Nat, k ≤ 5 ∧ i = .int .i64 k ∧ s4 = .string (hd ++ accS p k) ∧ Blk wr w4.heap.size (wA p) 78 ∧ OneC w w.heap.size arr 38 wr) (fun _ i _ => 5 - (intOf i).toNat)
    case atStart => exact ⟨0, by omega, rfl, rfl, S.out, R5.out⟩
    case round =>
      obtain ⟨k, hk, rfl, rfl, hS, hW⟩ := hrel
      clear c1 c2 c3 c4 c5 S R4 R5
      have WL := Lib.hid hW
      have SL := Lib.hid hS
      by_cases hlt : k < 5
      · have hc := hS.cell k
        rw [wA_at p k hlt] at hc
        have hl := wd_lt OK.out k
        obtain ⟨y, hy⟩ : ∃ y, y = wd p k := ⟨_, rfl⟩
        rw [← hy] at hc hl
        obtain ⟨a, ha⟩ : ∃ a, a = hd ++ accS p k := ⟨_, rfl⟩
        obtain ⟨d, hd2⟩ : ∃ d, d = bS y 2 := ⟨_, rfl⟩
        have za : a.size = 28 + 2 * k := by rw [ha, app_size, accS_size, ZH.out]; omega
        have zd : d.size = 2 := by rw [hd2, bS_size]
        have add := hadd a d (by omega)
        have ST := Lib.hid (show a ++ d = hd ++ accS p (k + 1) by rw [ha, hd2, hy, ByteArray.append_assoc]; rfl)
        have D := Lib.hid hd2.symm
        have A := Lib.hid ha.symm
        rw [A.out]
        clear hd2 ha za zd hy hS hW
        go_wp2_with (first
          | (go_at_call 33; refine (rbytes_is y 2 _ (by omega) (by omega) (by omega)).mono ?_; rintro e w8 ⟨rfl, hb⟩; rw [D.out]))
        go_roundw
        case rel => exact ⟨k + 1, by omega, by go_num, by rw [ST.out], SL.out.below hb SL.out.lt, WL.out.next hb⟩
        case measure => simp [intOf]; omega
      · have hk5 : k = 5 := by omega
        subst hk5
        have c0 := hW.cell 0 _ H0.out
        clear hS hW
        obtain ⟨z, hz⟩ : ∃ z, z = hd ++ accS p 5 := ⟨_, rfl⟩
        have ZL := Lib.hid (hadd z ⟨#[0]⟩ (by rw [hz, app_size, accS_size, ZH.out]; decide))
        have Z := Lib.hid hz.symm
        clear hz
        rw [Z.out]
        have add := ZL.out
        go_wp2_with fail
        go_ret2
        exact ⟨ret_enc (by rw [EN.out, Z.out]) rfl, WL.out.below⟩

set_option maxRecDepth 100000 in
set_option maxHeartbeats 4000000 in
theorem rencode_128 (w : World) : Calls Try.prog 12 #[pdV (kindP 128)] w fun e w' => e = .returned (.tuple #[.string (rawS (kindP 128)), .int .i64 0]) ∧ Below w.heap.size w w' := by
  obtain ⟨arr, harr⟩ : ∃ arr, arr = pdA (kindP 128) := ⟨_, rfl⟩
  have H0 := Lib.hid (show arr[0]? = some (.int .u8 128) by rw [harr]; rfl)
  have hsz := Lib.hid (show (Try.prog.info? 38).map (·.size) = some arr.size by rw [harr]; exact size38)
  show Calls Try.prog 12 #[.agg (pdA (kindP 128))] w _
  rw [← harr]
  have HA := Lib.hid harr
  have R := Lib.hid (OneC.new w arr 38)
  have GD := Lib.hid (show goodP (kindP 128) = true by decide)
  have EN := Lib.hid (show rawS (kindP 128) = ⟨#[66, 66, 3, 0, 0, 0, 128]⟩ by rfl)
  clear harr
  go_enter Try.func12, Try.ntmps12
  go_upto_region 3 with (first
    | (refine wpList_load_row rfl 38 _ rfl w.heap.size rfl 38 _ (0, 0) _ R.out.blk Try.underlying38 rfl hsz.out ?_)
    | (go_at_call 31; refine (rgood_of HA.out _).mono ?_; rintro e w1 ⟨rfl, hb⟩; rw [GD.out]))
  have R1 := Lib.hid (R.out.next hb)
  clear hb R
  have hr := one_text w1 (128 : Int) 128 (by decide)
  have c0 := R1.out.cell 0 _ H0.out
  have R2 := Lib.hid (R1.out.next ((Below.refl _ _).alloc (Nat.le_refl _) (Obj.cells #[.int .u8 128] 5)))
  have c0' := R2.out.cell 0 _ H0.out
  go_wp2_with fail
  go_ret2
  exact ⟨ret_enc (by rw [EN.out]; rfl) rfl, R2.out.below⟩

set_option maxRecDepth 100000 in
set_option maxHeartbeats 4000000 in
theorem rencode_any (p : Pd) (w : World) (hok : p.ok) : Calls Try.prog 12 #[pdV p] w fun e w' => e = .returned (.tuple #[.string (encP p), .int .i64 (encE p)]) ∧ Below w.heap.size w w' := by
  cases hgd : goodP p with
  | true =>
    have E1 : encP p = rawS p := by unfold encP; rw [hgd]; rfl
    have E2 : encE p = 0 := by unfold encE; rw [hgd]; rfl
    rw [E1, E2]
    rcases good_kind hgd with ⟨h1, h2⟩ | ⟨h1, h2⟩ | h
    · exact rencode_02 p w hok hgd ⟨.inl h1, by omega⟩
    · exact rencode_02 p w hok hgd ⟨.inr h1, by omega⟩
    · subst h
      exact rencode_128 w
  | false =>
    obtain ⟨arr, harr⟩ : ∃ arr, arr = pdA p := ⟨_, rfl⟩
    have hsz := Lib.hid (show (Try.prog.info? 38).map (·.size) = some arr.size by rw [harr]; exact size38)
    show Calls Try.prog 12 #[.agg (pdA p)] w _
    rw [← harr]
    have HA := Lib.hid harr
    have R := Lib.hid (OneC.new w arr 38)
    have E1 := Lib.hid (show encP p = ⟨#[]⟩ by unfold encP; rw [hgd]; rfl)
    have E2 := Lib.hid (show encE p = 8 by unfold encE; rw [hgd]; rfl)
    have GD := Lib.hid hgd
    clear hgd harr hok
    go_enter Try.func12, Try.ntmps12
    go_wp2_with (first
      | (refine wpList_load_row rfl 38 _ rfl w.heap.size rfl 38 _ (0, 0) _ R.out.blk Try.underlying38 rfl hsz.out ?_)
      | (go_at_call 31; refine (rgood_of HA.out _).mono ?_; rintro e w1 ⟨rfl, hb⟩; rw [GD.out]))
    go_ret2
    exact ⟨ret_enc E1.out.symm E2.out.symm, (R.out.next hb).below⟩
end Go.Proofs.Ytkohnleeiajiiaa
