/- Sums of counts: what both sides' 'sum' answer. -/
import Derived.Test.YtpbdamnlfpfclaaDoorChecked
import Derived.Test.YtpbdamnlfpfclaaDoorBks
namespace Go.Proofs.YtpbdamnlfpfclaaDoor
open Go.RowKit
set_option linter.unusedSimpArgs false
set_option linter.unusedVariables false

/-- The sum, as far as it goes. -/
def sumN (a n : Nat) : Nat := if 4294967295 < a + n then 4294967295 else a + n
theorem sumN_lt (a n : Nat) : sumN a n < 4294967296 := by unfold sumN; split <;> omega
theorem sumN_comm (a b : Nat) : sumN a b = sumN b a := by unfold sumN; rw [Nat.add_comm]
theorem sumN_assoc (a b c : Nat) : sumN (sumN a b) c = sumN a (sumN b c) := by unfold sumN; split <;> split <;> split <;> split <;> omega
theorem sumN_zero {a : Nat} (h : a < 4294967296) : sumN a 0 = a := by unfold sumN; split <;> omega
theorem wrap_sub {a : Nat} (h : a < 4294967296) : IntKind.u32.wrap (4294967295 - (a : Int)) = ((4294967295 - a : Nat) : Int) := by
  simp [IntKind.wrap, IntKind.bits, IntKind.signed]
  omega
theorem wrap_sub64 {a : Nat} (h : a < 4294967296) : IntKind.u64.wrap (4294967295 - (a : Int)) = ((4294967295 - a : Nat) : Int) := by
  rw [IntKind.wrap_u64]
  omega
theorem wrap_n64 {a : Nat} (h : a < 18446744073709551616) : IntKind.u64.wrap (a : Int) = (a : Int) := by rw [IntKind.wrap_u64]; omega
theorem wrap_n32 {a : Nat} (h : a < 4294967296) : IntKind.u32.wrap (a : Int) = (a : Int) := by
  simp [IntKind.wrap, IntKind.bits, IntKind.signed]
  omega

theorem sum7_any (a n : Nat) (ha : a < 4294967296) (hn : n < 18446744073709551616) (w : World) :
    Calls Tryd.prog 7 #[.int .u32 (a : Nat), .int .u64 (n : Nat)] w fun e w' => e = .returned (.int .u32 (sumN a n : Nat)) ∧ w = w' := by
  obtain ⟨d, hd⟩ : ∃ d, d = 4294967295 - a := ⟨_, rfl⟩
  have E1 : IntKind.u32.wrap (4294967295 - (a : Int)) = (d : Int) := by rw [wrap_sub ha, hd]
  have E2 : IntKind.u64.wrap (d : Int) = (d : Int) := wrap_n64 (by omega)
  by_cases h : d < n
  · have hh : decide ((n : Int) > (d : Int)) = true := by simp; omega
    have HS := Lib.hid (show sumN a n = 4294967295 by unfold sumN; rw [if_pos (by omega)])
    have h2 : decide (d < n) = true := by simpa using h
    clear hd
    go_enter Tryd.func7, Tryd.ntmps7
    go_wp2
    go_ret
    exact ⟨by rw [HS.out]; rfl, rfl⟩
  · have hh : decide ((n : Int) > (d : Int)) = false := by simp; omega
    have h2 : decide (d < n) = false := by simpa using h
    have E3 : IntKind.u32.wrap (n : Int) = (n : Int) := wrap_n32 (by omega)
    have HS := Lib.hid (show ((a : Int) + (n : Int)) % 4294967296 = ((sumN a n : Nat) : Int) by
      unfold sumN
      rw [if_neg (by omega)]
      omega)
    clear hd
    go_enter Tryd.func7, Tryd.ntmps7
    go_wp2
    go_ret
    exact ⟨by rw [← HS.out]; rfl, rfl⟩

theorem sum11_any (a n : Nat) (ha : a < 4294967296) (hn : n < 18446744073709551616) (w : World) :
    Calls Tryd.prog 11 #[.int .u32 (a : Nat), .int .u64 (n : Nat)] w fun e w' => e = .returned (.int .u32 (sumN a n : Nat)) ∧ w = w' := by
  obtain ⟨d, hd⟩ : ∃ d, d = 4294967295 - a := ⟨_, rfl⟩
  have E0 : IntKind.u64.wrap (a : Int) = (a : Int) := wrap_n64 (by omega)
  have E1 : IntKind.u64.wrap (4294967295 - (a : Int)) = (d : Int) := by rw [wrap_sub64 ha, hd]
  by_cases h : d < n
  · have h2 : decide (d < n) = true := by simpa using h
    have HS := Lib.hid (show sumN a n = 4294967295 by unfold sumN; rw [if_pos (by omega)])
    clear hd
    go_enter Tryd.func11, Tryd.ntmps11
    go_wp2
    go_ret
    exact ⟨by rw [HS.out]; rfl, rfl⟩
  · have h2 : decide (d < n) = false := by simpa using h
    have E3 : IntKind.u32.wrap (n : Int) = (n : Int) := wrap_n32 (by omega)
    have HS := Lib.hid (show ((a : Int) + (n : Int)) % 4294967296 = ((sumN a n : Nat) : Int) by
      unfold sumN
      rw [if_neg (by omega)]
      omega)
    clear hd
    go_enter Tryd.func11, Tryd.ntmps11
    go_wp2
    go_ret
    exact ⟨by rw [← HS.out]; rfl, rfl⟩
end Go.Proofs.YtpbdamnlfpfclaaDoor
