/- strconv.FormatUint in decimal digits; the document's digits. -/
import Derived.Test.YtpbdamnlfpfclaaDoorShelf
import Derived.Test.YtpbdamnlfpfclaaDoorAdd
import Derived.Lib.AppendIntMem
import Derived.Lib.SmallJoins
namespace Go.Proofs.YtpbdamnlfpfclaaDoor
open Go.RowKit Go.Sort
set_option linter.unusedSimpArgs false
set_option linter.unusedVariables false

/-- A number's digits. -/
abbrev dgS (u : Nat) : ByteArray := ⟨(Lib.decDigits u).toArray⟩
/-- The library's table of powers. -/
abbrev Tab10 (w : World) : Prop := Lib.TabIs Tryd.prog w "internal/strconv.uint64pow10" .u64 Lib.pow10Tab
theorem z51 : ∀ W : World, (zeroValue 51).run Tryd.prog W = .ok (.agg Lib.zeros24) W := fun W => Tryd.zeroValue51 W

set_option maxHeartbeats 8000000 in
set_option maxRecDepth 100000 in
theorem fmt14_any (u : Nat) (hu64 : u < 18446744073709551616) (w : World) (htab : Tab10 w) :
    Calls Tryd.prog 14 #[.int .u64 (u : Nat), .int .i64 10] w fun e w' => e = .returned (.string (dgS u)) ∧ Below w.heap.size w w' := by
  by_cases hs : u < 100
  · have h1 : decide ((u : Int) < 100) = true := by simp; omega
    have h2 : (u : Int) < 100 := by omega
    have E1 : IntKind.i64.wrap (u : Int) = (u : Int) := by simp [IntKind.wrap, IntKind.bits, IntKind.signed]; omega
    go_enter Tryd.func14, Tryd.ntmps14
    go_wp2_with (go_at_call 18; refine (sh_small u hs _).mono ?_; rintro e w' ⟨rfl, rfl⟩)
    go_ret
    exact ⟨rfl, Below.refl _ _⟩
  · have hu1 : 1 ≤ u := by omega
    have hn : Lib.nDigits u ≤ 20 := by have := Lib.numDigits_eq u hu1 hu64; split at this <;> omega
    obtain ⟨nd, hnd⟩ : ∃ nd, nd = Lib.nDigits u := ⟨_, rfl⟩
    have ND := Lib.hid hnd
    rw [← hnd] at hn
    obtain ⟨zs, hzs⟩ : ∃ zs : Array Value, zs = Lib.zeros24 := ⟨_, rfl⟩
    obtain ⟨g, hg⟩ : ∃ g, g = w.heap.size := ⟨_, rfl⟩
    obtain ⟨w1, hw1⟩ : ∃ w1, w1 = w.alloc (.cells zs 51) := ⟨_, rfl⟩
    have SL := Lib.hid (show ∀ W, (Instr.sliceAt 51 (.pointer (some ⟨g, 0, none⟩)) none (some (.int .i64 (nd : Int))) none).run Tryd.prog W = .ok (.slice (some ⟨g, 0, none⟩) nd 24) W from fun W => by
      have hal : Tryd.prog.arrayLen 51 = 24 := by kernel_rfl
      rw [run_sliceAt_array_h W 51 ⟨g, 0, none⟩ (by simp [Program.elem, Tryd.underlying51, hal]) .i64 (nd : Int) (by omega) (by rw [hal]; omega), hal]
      go_simp)
    have H0 := Lib.hid (show Holds (fun (b : UInt8) => Value.int .u8 (b.toNat : Int)) w1 g 0 (Array.replicate nd (0 : UInt8)) by rw [hw1, hzs, hg]; exact Lib.holds_zero0 w 51 nd (by omega))
    have F := Lib.hid (show Calls Tryd.prog 20 #[.slice (some ⟨g, 0, none⟩) nd 24, .int .u64 (u : Nat)] w1 fun e w' => e = .returned (.tuple #[]) ∧ ∃ (n v' : Nat) (dk : Array UInt8), w' = (putRow (fun (b : UInt8) => Value.int .u8 (b.toNat : Int)) w1 g 0 dk).drewN n ∧ Lib.FmtInv nd u 0 v' dk by
      have := sh_format g 0 24 u (Array.replicate nd 0) w1 H0.out (by rw [Array.size_replicate, hnd]; exact Lib.lt_pow_nDigits u) hu64 (by rw [Array.size_replicate]; omega)
      rw [Array.size_replicate] at this
      exact this)
    have T1 := Lib.hid (show Tab10 w1 by rw [hw1]; exact Lib.tabIs_alloc htab _)
    have DG := Lib.hid (show Calls Tryd.prog 19 #[.int .u64 (u : Nat)] w1 fun e w' => e = .returned (.int .i64 (nd : Nat)) ∧ w1 = w' from (sh_digits u hu1 hu64 w1 T1.out).mono fun e w' ⟨q1, q2⟩ => ⟨by rw [q1, hnd], q2.symm⟩)
    have HW := Lib.hid hw1
    have HG := Lib.hid hg
    have HZ := Lib.hid hzs
    have h1 : decide ((u : Int) < 100) = false := by simp; omega
    have h2 : ¬ (u : Int) < 100 := by omega
    clear hzs hg hw1 hnd htab
    go_enter Tryd.func14, Tryd.ntmps14
    go_upto_region 5 with fail
    change Code.wp Tryd.prog _ _ _ (w.alloc (.cells Lib.zeros24 51))
    rw [← HZ.out, ← HW.out, ← HG.out]
    have sl := SL.out
    go_wp2_with (first | (go_at_call 19; refine DG.out.mono ?_; rintro e w2 ⟨rfl, rfl⟩))
    go_at_call 20
    refine F.out.mono ?_
    rintro e w3 ⟨rfl, k, v', dk, rfl, hF⟩
    have CV := Lib.hid (show (convert 37 9 (.slice (some ⟨g, 0, none⟩) nd 24)).run Tryd.prog ((putRow (fun (b : UInt8) => Value.int .u8 (b.toNat : Int)) w1 g 0 dk).drewN k) = .ok (.string (dgS u)) ((putRow (fun (b : UInt8) => Value.int .u8 (b.toNat : Int)) w1 g 0 dk).drewN k) by
      rw [ND.out] at hF
      have h := run_convert_bytes_back (P := Tryd.prog) ((putRow (fun (b : UInt8) => Value.int .u8 (b.toNat : Int)) w1 g 0 dk).drewN k) 37 9 5 ⟨g, 0, none⟩ 24 (Lib.decDigits u) Tryd.underlying37 Tryd.underlying5 Tryd.underlying9 (fun j hj => by
        rw [Lib.row_is_numeral hF j hj, Lib.add_plain, World.cell?_drewN]
        exact cell?_putRow (fun (b : UInt8) => Value.int .u8 (b.toNat : Int)) _ g 0 _ dk H0.out (by rw [hF.size, Array.size_replicate, ND.out]) j (by rw [hF.size]; rw [Lib.decDigits_length] at hj; exact hj))
      rw [Lib.decDigits_length, ← ND.out] at h
      exact h)
    have BL := Lib.hid (show Below w.heap.size w ((putRow (fun (b : UInt8) => Value.int .u8 (b.toNat : Int)) w1 g 0 dk).drewN k) by
      rw [HW.out, HG.out]
      obtain ⟨os, eo⟩ := Lib.fin_at w (.cells zs 51) dk k 0
      rw [eo]
      exact Lib.below_grow w.heap.size w (Nat.le_refl _) k os)
    generalize (putRow (fun (b : UInt8) => Value.int .u8 (b.toNat : Int)) w1 g 0 dk).drewN k = w4 at CV BL ⊢
    have cv := CV.out
    go_wp2
    go_ret
    exact ⟨rfl, BL.out⟩

set_option maxRecDepth 100000 in
theorem fmt_any (u : Nat) (hu64 : u < 18446744073709551616) (w : World) (htab : Tab10 w) :
    Calls Tryd.prog 12 #[.int .u64 (u : Nat), .int .i64 10] w fun e w' => e = .returned (.string (dgS u)) ∧ Below w.heap.size w w' := by
  have H := Lib.hid (fmt14_any u hu64 w htab)
  clear htab
  go_enter Tryd.func12, Tryd.ntmps12
  go_wp2_with (go_at_call 14; refine H.out.mono ?_; rintro e w2 ⟨rfl, hb⟩)
  go_ret
  exact ⟨rfl, hb⟩

theorem digit_str {u : Nat} (h : u < 10) : (⟨#[UInt8.ofNat (48 + u)]⟩ : ByteArray) = dgS u := by
  unfold dgS
  rw [Lib.decDigits_one h]
theorem dgS_size (u : Nat) : (dgS u).size = (Lib.decDigits u).length := by simp [dgS, ByteArray.size]
theorem digits_len (u : Nat) (h : u < 18446744073709551616) : (Lib.decDigits u).length ≤ 20 := by
  rw [Lib.decDigits_length]
  by_cases h1 : 1 ≤ u
  · have := Lib.numDigits_eq u h1 h
    split at this <;> omega
  · rw [Lib.nDigits_small (by omega)]
    omega

set_option maxHeartbeats 4000000 in
set_option maxRecDepth 100000 in
/-- The document's digits. -/
theorem digits_any : ∀ (u : Nat) (hu : u < 4294967296) (w : World), Calls Tryd.prog 9 #[.int .u32 (u : Nat)] w fun e w' => e = .returned (.string (dgS u)) ∧ Below w.heap.size w w' := by
  intro u
  induction u using Nat.strongRecOn with
  | _ u ih =>
    intro hu w
    by_cases h : u < 10
    · have h1 : (u : Int) < 10 := by omega
      have E1 : IntKind.u32.wrap (48 + (u : Int)) = ((48 + u : Nat) : Int) := by simp [IntKind.wrap, IntKind.bits, IntKind.signed]; omega
      have E2 : IntKind.u8.wrap ((48 + u : Nat) : Int) = ((48 + u : Nat) : Int) := by simp [IntKind.wrap, IntKind.bits, IntKind.signed]; omega
      obtain ⟨b, hb⟩ : ∃ b : Nat, b = 48 + u := ⟨_, rfl⟩
      rw [← hb] at E1 E2
      have CV := Lib.hid (show (convert 37 9 (.slice (some ⟨w.heap.size, 0, none⟩) 1 1)).run Tryd.prog (w.alloc (.cells #[.int .u8 (b : Nat)] 5)) = .ok (.string (dgS u)) (w.alloc (.cells #[.int .u8 (b : Nat)] 5)) by
        have hcv := run_convert_bytes_back (P := Tryd.prog) (w.alloc (.cells #[.int .u8 (b : Nat)] 5)) 37 9 5 ⟨w.heap.size, 0, none⟩ 1 [UInt8.ofNat (48 + u)] Tryd.underlying37 Tryd.underlying5 Tryd.underlying9 (fun j hj => by
          obtain rfl : j = 0 := by simpa using hj
          have : (UInt8.ofNat (48 + u)).toNat = b := by rw [hb]; simp; omega
          have e2 : (b : Int) = (48 + (u : Int)) % 256 := by omega
          simp [Lib.add_plain, e2])
        rw [← digit_str h]
        exact hcv)
      have cv := CV.out
      clear hb
      go_enter Tryd.func9, Tryd.ntmps9
      go_wp2
      go_ret
      exact ⟨rfl, (Below.refl _ _).alloc (Nat.le_refl _) _⟩
    · have h1 : ¬ (u : Int) < 10 := by omega
      obtain ⟨q, hq⟩ : ∃ q, q = u / 10 := ⟨_, rfl⟩
      obtain ⟨r, hr⟩ : ∃ r, r = u % 10 := ⟨_, rfl⟩
      have E1 : (u : Int).tdiv 10 = (q : Int) := by rw [Int.tdiv_eq_ediv_of_nonneg (by omega)]; omega
      have E2 : (u : Int).tmod 10 = (r : Int) := by rw [Int.tmod_eq_emod_of_nonneg (by omega)]; omega
      have E3 := wrap_n32 (a := q) (by omega)
      have E4 := wrap_n32 (a := r) (by omega)
      have C1 := Lib.hid (show ∀ W, Calls Tryd.prog 9 #[.int .u32 (q : Nat)] W fun e w' => e = .returned (.string (dgS q)) ∧ Below W.heap.size W w' from fun W => ih q (by omega) (by omega) W)
      have C2 := Lib.hid (show ∀ W, Calls Tryd.prog 9 #[.int .u32 (r : Nat)] W fun e w' => e = .returned (.string (dgS r)) ∧ Below W.heap.size W w' from fun W => ih r (by omega) (by omega) W)
      have EQ := Lib.hid (show dgS q ++ dgS r = dgS u by
        unfold dgS
        rw [Lib.decDigits.eq_def u, dif_neg h, ← hq, hr, Lib.decDigits_one (i := u % 10) (by omega)]
        apply ByteArray.ext
        simp [ByteArray.data_append])
      have LQ := digits_len q (by omega)
      have LR := digits_len r (by omega)
      have hz : ¬ 9223372036854775807 < (dgS q).size + (dgS r).size := by rw [dgS_size, dgS_size]; omega
      generalize dgS q = sq at C1 EQ hz
      generalize dgS r = sr at C2 EQ hz
      clear hq hr ih
      go_enter Tryd.func9, Tryd.ntmps9
      go_wp2_with (first | (go_at_call 9; with_reducible refine (C1.out _).mono ?_; rintro e w2 ⟨rfl, hb2⟩) | (go_at_call 9; with_reducible refine (C2.out _).mono ?_; rintro e w3 ⟨rfl, hb3⟩))
      go_ret
      exact ⟨by rw [← EQ.out]; rfl, hb2.trans (hb3.mono hb2.size)⟩
end Go.Proofs.YtpbdamnlfpfclaaDoor
