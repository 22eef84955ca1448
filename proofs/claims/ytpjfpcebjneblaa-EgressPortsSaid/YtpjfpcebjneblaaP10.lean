/- Lists of static entries: how long they are, what they hold; what Get answers. -/
import Derived.Test.YtpjfpcebjneblaaS10b
namespace Go.Proofs.Ytpjfpcebjneblaa
open Go.RowKit
set_option linter.unusedVariables false
set_option linter.unusedSimpArgs false

/-- With an entry; the error's number. -/
def setS (l : List Se) (x : Se) : List Se := if goodS x ≠ 0 then l else if 0 ≤ atK seK (seK x) l then l.set (atK seK (seK x) l).toNat x else if 16 ≤ l.length then l else layK seK l x
def setSE (l : List Se) (x : Se) : Int := if goodS x ≠ 0 then goodS x else if 0 ≤ atK seK (seK x) l then 0 else if 16 ≤ l.length then 13 else 0
/-- A key, by value. -/
abbrev keyA (vid a : Nat) : Array Value := #[.int .u16 (vid : Nat), .int .u8 (byteF a 0 : Nat), .int .u8 (byteF a 1 : Nat), .int .u8 (byteF a 2 : Nat), .int .u8 (byteF a 3 : Nat), .int .u8 (byteF a 4 : Nat), .int .u8 (byteF a 5 : Nat)]
abbrev keyV (vid a : Nat) : Value := .agg (keyA vid a)
/-- What Get answers. -/
def GetS (l : List Se) (v : Nat) (e : Ending) : Prop :=
  (atK seK v l = -1 ∧ e = .returned (.tuple #[.int .u32 0, .bool false])) ∨ ∃ (k : Nat) (x : Se), atK seK v l = k ∧ l[k]? = some x ∧ e = .returned (.tuple #[.int .u32 (x.prt : Nat), .bool true])
theorem setS_few (l : List Se) (x : Se) (h : l.length ≤ 16) : (setS l x).length ≤ 16 := by
  unfold setS
  split
  · exact h
  split
  · simpa using h
  split
  · exact h
  · rw [layK_len]; omega
theorem layK_mem {l : List Se} {x y : Se} (h : y ∈ layK seK l x) : y = x ∨ y ∈ l := by
  unfold layK at h
  rcases List.mem_append.1 h with h | h
  · rcases List.mem_append.1 h with h | h
    · exact .inr (List.mem_of_mem_take h)
    · exact .inl (by simpa using h)
  · exact .inr (List.mem_of_mem_drop h)
theorem setS_good {l : List Se} {x : Se} (h : ∀ y ∈ l, seOk y) (hx : seOk x) : ∀ y ∈ setS l x, seOk y := by
  intro y hy
  unfold setS at hy
  split at hy
  · exact h y hy
  split at hy
  · rcases List.mem_or_eq_of_mem_set hy with c | c
    · exact h y c
    · rw [c]; exact hx
  split at hy
  · exact h y hy
  · rcases layK_mem hy with c | c
    · rw [c]; exact hx
    · exact h y c
theorem cutK_good {l : List Se} {v : Nat} (h : ∀ y ∈ l, seOk y) : ∀ y ∈ cutK seK v l, seOk y := by
  intro y hy
  unfold cutK at hy
  split at hy
  · exact h y hy
  · exact h y ((List.eraseIdx_sublist _ _).mem hy)
end Go.Proofs.Ytpjfpcebjneblaa
