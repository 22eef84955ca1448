/- Keys of entries as keys of a map. -/
import Derived.Test.YtpjfpcebjneblaaEq
import Derived.Test.YtpjfpcebjneblaaRd
import Derived.Test.YtpjfpcebjneblaaKeyL
import Derived.Test.YtpjfpcebjneblaaTbl
import Derived.KernelRfl
import Derived.Laws.StructEq
namespace Go.Proofs.Ytpjfpcebjneblaa
open Go.RowKit
set_option linter.unusedSimpArgs false
set_option linter.unusedVariables false

/-- A key by value. -/
abbrev kyA (vid a : Nat) : Array Value := #[.int .u16 (vid : Nat), .int .u8 (byteF a 0 : Nat), .int .u8 (byteF a 1 : Nat), .int .u8 (byteF a 2 : Nat), .int .u8 (byteF a 3 : Nat), .int .u8 (byteF a 4 : Nat), .int .u8 (byteF a 5 : Nat)]
abbrev kyV (vid a : Nat) : Value := .agg (kyA vid a)
/-- A key by its number. -/
def kvK (n : Nat) : Value := kyV (n / 281474976710656) (n % 281474976710656)
theorem kvK_of (vid a : Nat) (h : a < 281474976710656) : kvK (keyN vid a) = kyV vid a := by
  unfold kvK keyN
  rw [show (vid * 281474976710656 + a) / 281474976710656 = vid by omega, show (vid * 281474976710656 + a) % 281474976710656 = a by omega]
theorem key_back (n : Nat) : keyN (n / 281474976710656) (n % 281474976710656) = n := by unfold keyN; omega

theorem ky_chk (b : Bool) (x0 x1 x2 x3 x4 x5 x6 : Int) (w : World) :
    (Instr.checkKey b 10000 61 (.agg #[.int .u16 x0, .int .u8 x1, .int .u8 x2, .int .u8 x3, .int .u8 x4, .int .u8 x5, .int .u8 x6])).run Try.prog w = .ok () w := by kernel_rfl
theorem ky_eq (v u : Nat) (f g : Nat → Nat) (w : World) :
    (Op.equalIn 10000 61 (.agg #[.int .u16 (v : Nat), .int .u8 (f 0 : Nat), .int .u8 (f 1 : Nat), .int .u8 (f 2 : Nat), .int .u8 (f 3 : Nat), .int .u8 (f 4 : Nat), .int .u8 (f 5 : Nat)]) (.agg #[.int .u16 (u : Nat), .int .u8 (g 0 : Nat), .int .u8 (g 1 : Nat), .int .u8 (g 2 : Nat), .int .u8 (g 3 : Nat), .int .u8 (g 4 : Nat), .int .u8 (g 5 : Nat)])).run Try.prog w = .ok (decide (v = u) && eqMac f g) w := by
  have hS : Try.prog.underlying 61 = some (.struct (Try.prog.fieldsOf 61)) := by kernel_rfl
  have hp : Try.prog.stoodInHeld 61 = false := by kernel_rfl
  rw [show (10000 : Nat) = 9999 + 1 from rfl, run_equalIn_agg w 9999 61 _ _ hS hp]
  simp only [Program.fieldsOf, Try.underlying61]
  have u30 := Try.underlying22
  have e1 : ∀ W, (Op.equalIn 9999 44 (mac f) (mac g)).run Try.prog W = .ok (eqMac f g) W := fun W => equal_mac 9997 44 Try.underlying44 f g W
  by_cases h : v = u
  · have hb : (v == u) = true := by simp [h]
    subst h
    simp [Op.eqFields, go_sem, u30, e1]
    cases eqMac f g <;> rfl
  · have hc : ¬ ((v : Int) = (u : Int)) := by omega
    simp [Op.eqFields, go_sem, u30, e1, hc]
    exact fun e => absurd e h
theorem kvK_inj (x y : Nat) (h : kvK x = kvK y) : x = y := by
  unfold kvK at h
  simp only [Value.agg.injEq, Array.mk.injEq, List.cons.injEq, Value.int.injEq, Int.natCast_inj, true_and, and_true] at h
  obtain ⟨hv, h0, h1, h2, h3, h4, h5⟩ := h
  have e : eqMac (byteF (x % 281474976710656)) (byteF (y % 281474976710656)) = true := by unfold eqMac; simp [h0, h1, h2, h3, h4, h5]
  rw [eqMac_num (by omega) (byteF_six _), numF_byteF, decide_eq_true_eq] at e
  omega
theorem ky_decide (x y : Nat) : (decide (x / 281474976710656 = y / 281474976710656) && eqMac (byteF (x % 281474976710656)) (byteF (y % 281474976710656))) = decide (x = y) := by
  rw [eqMac_num (by omega) (byteF_six _), numF_byteF, Bool.eq_iff_iff, Bool.and_eq_true, decide_eq_true_eq, decide_eq_true_eq, decide_eq_true_eq]
  omega
theorem ky_keys : KeyEq Try.prog 61 kvK (fun _ => True) :=
  asked_keys Try.prog 61 (.struct (Try.prog.fieldsOf 61)) kvK _ (by kernel_rfl) (fun b x w _ => ky_chk b _ _ _ _ _ _ _ w) (fun x y => rfl)
    (fun x y w _ _ => by
      have := ky_eq (x / 281474976710656) (y / 281474976710656) (byteF (x % 281474976710656)) (byteF (y % 281474976710656)) w
      rw [ky_decide] at this
      exact this)
    (fun x _ => by simp [kvK, Instr.sameBits]) (fun x y _ _ h => kvK_inj x y h)
end Go.Proofs.Ytpjfpcebjneblaa
