/- Frames: what the functions of package frame do that only compute, and the law's own. -/
import Derived.Test.YtpjfpcebjneblaaTell
namespace Go.Proofs.Ytpjfpcebjneblaa
open Go.RowKit

/-- A frame's cells. -/
abbrev frA (d s : Nat → Nat) (tg : Bool) (pc : Nat) (de : Bool) (vi ty : Nat) (da : ByteArray) : Array Value :=
  #[.int .u8 (d 0 : Nat), .int .u8 (d 1 : Nat), .int .u8 (d 2 : Nat), .int .u8 (d 3 : Nat), .int .u8 (d 4 : Nat), .int .u8 (d 5 : Nat),
    .int .u8 (s 0 : Nat), .int .u8 (s 1 : Nat), .int .u8 (s 2 : Nat), .int .u8 (s 3 : Nat), .int .u8 (s 4 : Nat), .int .u8 (s 5 : Nat),
    .bool tg, .int .u8 (pc : Nat), .bool de, .int .u16 (vi : Nat), .int .u16 (ty : Nat), .string da]

/-- No frame. -/
abbrev nil18 : Array Value :=
  #[.int .u8 0, .int .u8 0, .int .u8 0, .int .u8 0, .int .u8 0, .int .u8 0, .int .u8 0, .int .u8 0, .int .u8 0, .int .u8 0, .int .u8 0, .int .u8 0,
    .bool false, .int .u8 0, .bool false, .int .u16 0, .int .u16 0, .string ⟨#[]⟩]

theorem size52 : (Try.prog.info? 46).map (·.size) = some 18 := by kernel_rfl
theorem frA_one (d s : Nat → Nat) (tg : Bool) (pc : Nat) (de : Bool) (vi ty : Nat) (da : ByteArray) : (frA d s tg pc de vi ty da).all (·.oneCell') = true := by simp [Value.oneCell']

/-- Is all well with a frame but for its length? -/
def okF (tg : Bool) (pc : Nat) (de : Bool) (vi ty : Nat) : Bool := if tg then decide (pc ≤ 7) && decide (vi ≤ 4094) else decide (pc = 0) && !de && decide (vi = 0) && decide (ty ≠ 33024)

set_option maxRecDepth 100000 in
set_option maxHeartbeats 1000000 in
theorem mayBe_any (d s : Nat → Nat) (tg : Bool) (pc : Nat) (de : Bool) (vi ty : Nat) (da : ByteArray) (w : World) :
    Calls Try.prog 43 #[.agg (frA d s tg pc de vi ty da)] w fun e w' => e = .returned (.bool (okF tg pc de vi ty)) ∧ Below w.heap.size w w' := by
  obtain ⟨arr, harr⟩ : ∃ arr, arr = frA d s tg pc de vi ty da := ⟨_, rfl⟩
  have a12 : arr[12]? = some (.bool tg) := by rw [harr]; rfl
  have a13 : arr[13]? = some (.int .u8 (pc : Nat)) := by rw [harr]; rfl
  have a14 : arr[14]? = some (.bool de) := by rw [harr]; rfl
  have a15 : arr[15]? = some (.int .u16 (vi : Nat)) := by rw [harr]; rfl
  have a16 : arr[16]? = some (.int .u16 (ty : Nat)) := by rw [harr]; rfl
  have a17 : arr[17]? = some (.string da) := by rw [harr]; rfl
  rw [← harr]
  clear harr
  cases tg with
  | true =>
    go_enter Try.func43, Try.ntmps43
    go_wp2
    all_goals
      go_ret
      exact ⟨ret_bool (by unfold okF; rw [Bool.eq_iff_iff]; simp; omega), (Below.refl _ _).alloc (Nat.le_refl _) _⟩
  | false =>
    cases de with
    | true =>
      go_enter Try.func43, Try.ntmps43
      go_wp2
      all_goals
        go_ret
        exact ⟨ret_bool (by unfold okF; simp), (Below.refl _ _).alloc (Nat.le_refl _) _⟩
    | false =>
      go_enter Try.func43, Try.ntmps43
      go_wp2
      all_goals
        go_ret
        exact ⟨ret_bool (by unfold okF; rw [Bool.eq_iff_iff]; simp; omega), (Below.refl _ _).alloc (Nat.le_refl _) _⟩

end Go.Proofs.Ytpjfpcebjneblaa
