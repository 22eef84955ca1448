/- The developers' table of VLANs: its small functions, and the table as a map. -/
import Derived.Test.YtpjfpcebjneblaaVlm
import Derived.Test.YtpjfpcebjneblaaCnt
import Derived.Test.YtpjfpcebjneblaaTell
import Derived.Test.YtpjfpcebjneblaaInv
namespace Go.Proofs.Ytpjfpcebjneblaa
open Go.RowKit
set_option linter.unusedSimpArgs false
set_option linter.unusedVariables false

/-- May a VLAN have that number? -/
def vidOk (v : Nat) : Bool := decide (1 ≤ v) && decide (v ≤ 4094)
theorem goodVid_any (v : Nat) (w : World) : Calls Try.prog 29 #[.int .u16 (v : Nat)] w fun e w' => e = .returned (.bool (vidOk v)) ∧ w = w' := by
  by_cases h : 1 ≤ v
  · have R := Lib.hid (show decide ((v : Int) ≤ 4094) = vidOk v by unfold vidOk; rw [decide_eq_true h, Bool.true_and, decide_eq_decide]; omega)
    have e1 : decide ((1 : Int) ≤ v) = true := by rw [decide_eq_true_eq]; omega
    clear h
    go_enter Try.func29, Try.ntmps29
    go_wp2
    go_ret
    exact ⟨ret_bool R.out, rfl⟩
  · have R := Lib.hid (show false = vidOk v by unfold vidOk; rw [decide_eq_false h, Bool.false_and])
    have e1 : decide ((1 : Int) ≤ v) = false := by rw [decide_eq_false_iff_not]; omega
    clear h
    go_enter Try.func29, Try.ntmps29
    go_wp2
    go_ret
    exact ⟨ret_bool R.out, rfl⟩

/-- No bits that are no ports. -/
def onlyB (s : Nat) : Bool := decide (s < 65536)
theorem onlyPorts_any (s : Nat) (w : World) : Calls Try.prog 49 #[.int .u32 (s : Nat)] w fun e w' => e = .returned (.bool (onlyB s)) ∧ w = w' := by
  have R := Lib.hid (show ((s : Int) / 65536 == 0) = onlyB s by unfold onlyB; rw [Bool.eq_iff_iff, beq_iff_eq, decide_eq_true_eq]; omega)
  go_enter Try.func49, Try.ntmps49
  go_wp2
  go_ret
  exact ⟨ret_bool R.out, rfl⟩

theorem sub_within (m u : Nat) (hm : m < 65536) (hu : u < 65536) : withinB u m = subB m u := by
  unfold withinB subB portsL upto
  rw [Bool.eq_iff_iff, List.all_eq_true, List.all_eq_true]
  constructor
  · intro h i hi
    have hi16 := List.mem_range.1 hi
    cases c : decide (u / 2 ^ i % 2 = 1) with
    | false => rfl
    | true =>
      have := h ((i : Int) + 1) (List.mem_filter.2 ⟨List.mem_map.2 ⟨i, hi, rfl⟩, by rw [hasB_at u i hi16]; exact c⟩)
      rw [hasB_at m i hi16] at this
      rw [this]
      rfl
  · intro h p hp
    obtain ⟨h1, h2⟩ := List.mem_filter.1 hp
    obtain ⟨i, hi, rfl⟩ := List.mem_map.1 h1
    have hi16 := List.mem_range.1 hi
    have := h i hi
    rw [hasB_at u i hi16] at h2
    rw [h2] at this
    rw [hasB_at m i hi16]
    simpa using this

/-- May its members, and those without a tag, be so? -/
def portsOk (x : Vl) : Bool := onlyB x.mem && onlyB x.unt && subB x.mem x.unt
theorem goodV_eq (x : Vl) : goodV x = if vidOk x.vid = false then 15 else if portsOk x = false then 14 else 0 := by
  cases h1 : vidOk x.vid with
  | false =>
    unfold vidOk at h1
    rw [Bool.and_eq_false_iff, decide_eq_false_iff_not, decide_eq_false_iff_not] at h1
    unfold goodV
    rw [if_pos (show x.vid < 1 ∨ 4094 < x.vid by omega), if_pos rfl]
  | true =>
    unfold vidOk at h1
    rw [Bool.and_eq_true, decide_eq_true_eq, decide_eq_true_eq] at h1
    unfold goodV
    rw [if_neg (show ¬ (x.vid < 1 ∨ 4094 < x.vid) by omega), if_neg (show ¬ (true = false) by decide)]
    unfold portsOk
    cases h2 : onlyB x.mem with
    | false =>
      unfold onlyB at h2
      rw [decide_eq_false_iff_not] at h2
      rw [if_pos (.inl (by omega))]
      rfl
    | true =>
      unfold onlyB at h2
      rw [decide_eq_true_eq] at h2
      cases h3 : onlyB x.unt with
      | false =>
        unfold onlyB at h3
        rw [decide_eq_false_iff_not] at h3
        rw [if_pos (.inr (by omega))]
        rfl
      | true =>
        unfold onlyB at h3
        rw [decide_eq_true_eq] at h3
        rw [if_neg (show ¬ (65535 < x.mem ∨ 65535 < x.unt) by omega)]
        cases subB x.mem x.unt <;> rfl

theorem vinfo48 : (Try.prog.info? 37).map (·.size) = some 3 := by kernel_rfl

set_option maxHeartbeats 4000000 in
theorem goodPorts_any (x : Vl) (w : World) : Calls Try.prog 30 #[vlV x] w fun e w' => e = .returned (.bool (portsOk x)) ∧ Below w.heap.size w w' := by
  obtain ⟨vid, mem, unt⟩ := x
  have HB := Lib.hid ((Below.refl w.heap.size w).alloc (Nat.le_refl _) (Obj.cells #[.int .u16 (vid : Nat), .int .u32 (mem : Nat), .int .u32 (unt : Nat)] 37))
  cases h1 : onlyB mem with
  | false =>
    have R := Lib.hid (show false = portsOk ⟨vid, mem, unt⟩ by unfold portsOk; simp only; rw [h1]; rfl)
    have H1 := Lib.hid h1
    clear h1
    go_enter Try.func30, Try.ntmps30
    go_wp2_with (go_at_call 49; refine (onlyPorts_any mem _).mono ?_; rintro e w' ⟨rfl, rfl⟩; rw [H1.out])
    go_ret
    exact ⟨ret_bool R.out, HB.out⟩
  | true =>
    cases h2 : onlyB unt with
    | false =>
      have R := Lib.hid (show false = portsOk ⟨vid, mem, unt⟩ by unfold portsOk; simp only; rw [h1, h2]; rfl)
      have H1 := Lib.hid h1
      have H2 := Lib.hid h2
      clear h1 h2
      go_enter Try.func30, Try.ntmps30
      go_wp2_with (go_at_call 49; first | (with_reducible refine (onlyPorts_any mem _).mono ?_; rintro e w' ⟨rfl, rfl⟩; rw [H1.out]) | (with_reducible refine (onlyPorts_any unt _).mono ?_; rintro e w' ⟨rfl, rfl⟩; rw [H2.out]))
      go_ret
      exact ⟨ret_bool R.out, HB.out⟩
    | true =>
      have hm : mem < 65536 := of_decide_eq_true h1
      have hu : unt < 65536 := of_decide_eq_true h2
      have R := Lib.hid (show withinB unt mem = portsOk ⟨vid, mem, unt⟩ by unfold portsOk; simp only; rw [h1, h2, sub_within mem unt hm hu]; rfl)
      have H1 := Lib.hid h1
      have H2 := Lib.hid h2
      have HW := Lib.hid (show ∀ W : World, Calls Try.prog 26 #[.int .u32 (unt : Nat), .int .u32 (mem : Nat)] W fun e w' => e = .returned (.bool (withinB unt mem)) ∧ Below W.heap.size W w' from fun W => within_any unt mem W (by omega) (by omega))
      clear h1 h2 hm hu
      go_enter Try.func30, Try.ntmps30
      go_wp2_with (first
        | (go_at_call 49; first | (with_reducible refine (onlyPorts_any mem _).mono ?_; rintro e w' ⟨rfl, rfl⟩; rw [H1.out]) | (with_reducible refine (onlyPorts_any unt _).mono ?_; rintro e w' ⟨rfl, rfl⟩; rw [H2.out]))
        | (go_at_call 26; refine (HW.out _).mono ?_; rintro e w' ⟨rfl, hb⟩))
      go_ret
      exact ⟨ret_bool R.out, HB.out.trans (hb.mono HB.out.size)⟩
end Go.Proofs.Ytpjfpcebjneblaa
