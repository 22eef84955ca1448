/- Of: a set of some numbers; and the first line of layer 7's statements. -/
import Derived.Test.YtpjfpcebjneblaaWW
import Derived.Test.YtpjfpcebjneblaaCnt
namespace Go.Proofs.Ytpjfpcebjneblaa
open Go.RowKit
set_option linter.unusedSimpArgs false
set_option linter.unusedVariables false

/-- The set of some numbers. -/
def ofS (zs : List Int) : Nat := zs.foldl withS 0
theorem ofS_snoc (zs : List Int) (z : Int) : ofS (zs ++ [z]) = withS (ofS zs) z := by simp [ofS]
theorem ofS_lt (zs : List Int) : ofS zs < 65536 := by
  have key : ∀ (l : List Int) (s : Nat), s < 65536 → l.foldl withS s < 65536 := by
    intro l
    induction l with
    | nil => intro s h; exact h
    | cons z l ih =>
      intro s h
      refine ih _ ?_
      unfold withS
      rcases port_cases z with c | ⟨k, hk, rfl⟩
      · rw [c]; exact h
      · rw [isPort_at k hk, if_pos rfl, show ((k : Int) + 1 - 1).toNat = k by omega]
        exact Nat.or_lt_two_pow (n := 16) h (pow_k k hk)
  exact key zs 0 (by omega)
theorem has_ofS (zs : List Int) (q : Int) : hasB (ofS zs) q = (zs.contains q && isPort q) := by
  have key : ∀ (l : List Int) (s : Nat), hasB (l.foldl withS s) q = (hasB s q || (l.contains q && isPort q)) := by
    intro l
    induction l with
    | nil => intro s; simp
    | cons z l ih =>
      intro s
      rw [List.foldl_cons, ih, has_withS, List.contains_cons, Bool.or_assoc]
      congr 1
      by_cases c : q = z
      · subst c
        simp
      · have : (q == z) = false := by simpa using c
        rw [this, decide_eq_false c]
        simp
  unfold ofS
  rw [key]
  have : hasB 0 q = false := by
    rcases port_cases q with c | ⟨k, hk, rfl⟩
    · exact hasB_no c
    · rw [hasB_bit 0 k hk]; simp
  rw [this, Bool.false_or]

/-- A slice of ints that is read. -/
def IntsAt (w : World) (A : Option Addr) (zs : List Int) : Prop :=
  zs = [] ∨ ∃ b off, A = some ⟨b, off, none⟩ ∧ ∀ j z, zs[j]? = some z → w.cell? ⟨b, off + j, none⟩ = some (.int .i64 z)

set_option maxHeartbeats 2000000 in
theorem of_any (A : Option Addr) (c : Nat) (zs : List Int) (w : World) (h : IntsAt w A zs) (hl : zs.length ≤ 1000) : Calls Try.prog 28 #[.slice A zs.length c] w fun e w' => e = .returned (.int .u32 (ofS zs : Nat)) ∧ w = w' := by
  obtain ⟨n, hn⟩ : ∃ n, zs.length = n := ⟨_, rfl⟩
  rw [hn]
  have HN := Lib.hid hn
  have H := Lib.hid h
  have hn2 : (n : Int) ≤ 1000 := by omega
  clear h hn hl
  go_enter Try.func28, Try.ntmps28
  go_wp2
  go_loop [3, 8] (fun t i => ∃ k : Nat, k ≤ n ∧ i = .int .i64 k ∧ t = .int .u32 (ofS (zs.take k) : Nat)) (fun _ i => n - (intOf i).toNat)
  case atStart => exact ⟨0, Nat.zero_le _, rfl, rfl⟩
  case round =>
    obtain ⟨k, hk, rfl, rfl⟩ := hrel
    by_cases hlt : k < n
    · obtain ⟨z, hz⟩ : ∃ z, zs[k]? = some z := ⟨_, List.getElem?_eq_getElem (show k < zs.length by rw [HN.out]; exact hlt)⟩
      rcases H.out with h0 | ⟨b, off, rfl, hc⟩
      · rw [h0] at hz; simp at hz
      have c := hc k z hz
      have HT := Lib.hid (show ofS (zs.take (k + 1)) = withS (ofS (zs.take k)) z by rw [List.take_add_one, hz]; exact ofS_snoc _ _)
      have hlt' : (k : Int) < n := by omega
      have hl := ofS_lt (zs.take k)
      have HL := Lib.hid hl
      clear hc hz hl
      go_wp2_with (go_at_call 48; ((with_reducible refine (pwith_any (ofS (zs.take k)) z _ (by have := HL.out; omega)).mono ?_); rintro e w' ⟨rfl, rfl⟩))
      go_round
      case rel => exact ⟨k + 1, by omega, by go_num, by rw [HT.out]⟩
      case measure => simp [intOf]; omega
    · have hk2 : k = n := by omega
      subst hk2
      have HT := Lib.hid (show zs.take k = zs by rw [← HN.out]; exact List.take_of_length_le (Nat.le_refl _))
      go_wp2
      go_ret
      exact ⟨ret_num (by rw [HT.out]), rfl⟩

theorem ints_new (w : World) (zs : List Int) : IntsAt (w.alloc (.cells (zs.map fun z => Value.int .i64 z).toArray 3)) (some ⟨w.heap.size, 0, none⟩) zs := by
  refine .inr ⟨w.heap.size, 0, rfl, fun j z hz => ?_⟩
  have := (Blk.new w (zs.map fun z => Value.int .i64 z).toArray 3).cell j
  rw [Nat.zero_add, this]
  simp [hz]

theorem sp1 : withS (ofS [1, 3]) 2 = 7 := by decide
theorem sp2 : hasB 7 3 = true := by decide
theorem sp3 : hasB 7 4 = false := by decide
theorem sp4 : (portsL 7).length = 3 := by decide
theorem sp5 : withoutS 7 1 = 6 := by decide
theorem sp6 : withinB (ofS [1]) 7 = true := by decide

end Go.Proofs.Ytpjfpcebjneblaa
