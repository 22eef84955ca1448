/- The document's own answers for VLANs. -/
import Derived.Test.YtpjfpcebjneblaaLst
import Derived.Test.YtpjfpcebjneblaaProg
import Derived.Deep.QuietTactic
import Derived.BigQuiet
import Derived.Deep.DeepCutAuto
import Derived.Deep.RegionHeld3
namespace Go.Proofs.Ytpjfpcebjneblaa
open Go.RowKit
set_option linter.unusedSimpArgs false

/-- A VLAN: its number, its members, those without a tag. -/
structure Vl where
  vid : Nat
  mem : Nat
  unt : Nat
deriving DecidableEq
def vlC (x : Vl) : List Value := [.int .u16 (x.vid : Nat), .int .u32 (x.mem : Nat), .int .u32 (x.unt : Nat)]
theorem vlC_len (x : Vl) : (vlC x).length = 3 := rfl
theorem vlC_one (x : Vl) : ∀ u ∈ vlC x, u.oneCell' = true := by
  intro u hu
  simp only [vlC, List.mem_cons, List.not_mem_nil, or_false] at hu
  rcases hu with rfl | rfl | rfl <;> rfl
abbrev vlV (x : Vl) : Value := .agg #[.int .u16 (x.vid : Nat), .int .u32 (x.mem : Nat), .int .u32 (x.unt : Nat)]

/-- The place of the first one that has a number, or -1. -/
def atV (vid : Nat) : List Vl → Int
  | [] => -1
  | x :: l => if x.vid = vid then 0 else if atV vid l < 0 then -1 else atV vid l + 1

theorem atV_none (vid : Nat) : ∀ l : List Vl, (∀ (i : Nat) (x : Vl), l[i]? = some x → x.vid ≠ vid) → atV vid l = -1
  | [], _ => rfl
  | y :: l, h => by
    have h0 := h 0 y rfl
    have ih := atV_none vid l (fun i x hx => h (i + 1) x (by simpa using hx))
    simp [atV, h0, ih]
theorem atV_some (vid : Nat) : ∀ (l : List Vl) (k : Nat) (x : Vl), l[k]? = some x → x.vid = vid → (∀ (i : Nat) (y : Vl), i < k → l[i]? = some y → y.vid ≠ vid) → atV vid l = k
  | [], _, _, h, _, _ => by simp at h
  | y :: l, 0, x, h, hx, _ => by
    simp only [List.getElem?_cons_zero, Option.some.injEq] at h
    subst h
    simp [atV, hx]
  | y :: l, k + 1, x, h, hx, hb => by
    have h0 := hb 0 y (by omega) rfl
    have ih := atV_some vid l k x (by simpa using h) hx (fun i z hi hz => hb (i + 1) z (by omega) (by simpa using hz))
    have : ¬ ((k : Int) < 0) := by omega
    simp [atV, h0, ih, this]

theorem ret_int {k : IntKind} {a b : Int} (h : a = b) : Ending.returned (.int k a) = .returned (.int k b) := by rw [h]

/-- Is each of the lowest 16 bits of u one of m, too? -/
def subB (m u : Nat) : Bool := (List.range 16).all fun i => !(decide (u / 2 ^ i % 2 = 1)) || decide (m / 2 ^ i % 2 = 1)
theorem subB_true {m u : Nat} (h : ∀ i, i < 16 → u / 2 ^ i % 2 = 1 → m / 2 ^ i % 2 = 1) : subB m u = true := by
  unfold subB
  rw [List.all_eq_true]
  intro i hi
  have := h i (List.mem_range.1 hi)
  by_cases c : u / 2 ^ i % 2 = 1 <;> simp [c, this]
theorem subB_false {m u i : Nat} (hi : i < 16) (h1 : u / 2 ^ i % 2 = 1) (h2 : ¬ m / 2 ^ i % 2 = 1) : subB m u = false := by
  unfold subB
  rw [List.all_eq_false]
  exact ⟨i, List.mem_range.2 hi, by simp [h1, h2]⟩
/-- May it be? The error's number. -/
def goodV (x : Vl) : Int := if x.vid < 1 ∨ 4094 < x.vid then 15 else if 65535 < x.mem ∨ 65535 < x.unt then 14 else if subB x.mem x.unt = true then 0 else 14

theorem half_next (n k m : Nat) (h : n = m / 2 ^ k) : n / 2 = m / 2 ^ (k + 1) := by rw [h, Nat.div_div_eq_div_mul, Nat.pow_succ]

theorem below_drewN {B : Nat} {w0 w : World} (h : Below B w0 w) (n : Nat) : Below B w0 (w.drewN n) := h.trans ⟨rfl, rfl, rfl, Nat.le_refl _, fun _ _ => rfl⟩
theorem atV_lt (vid : Nat) : ∀ l : List Vl, -1 ≤ atV vid l ∧ atV vid l < l.length
  | [] => by simp [atV]
  | x :: l => by
    have := atV_lt vid l
    unfold atV
    split
    · simp only [List.length_cons]; omega
    · split <;> (simp only [List.length_cons]; omega)

theorem ret_own {v : Value} {a b : Int} (h : a = b) : Ending.returned (.tuple #[v, .int .i64 a]) = .returned (.tuple #[v, .int .i64 b]) := by rw [h]

/-- Without the one of a number. -/
def dropV (l : List Vl) (vid : Nat) : List Vl := if atV vid l < 0 then l else l.eraseIdx (atV vid l).toNat
def dropE (l : List Vl) (vid : Nat) : Int := if atV vid l < 0 then 11 else 0

end Go.Proofs.Ytpjfpcebjneblaa
