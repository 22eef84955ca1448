/- Which PDUs may be: the document's own. -/
import Derived.Test.YtkohnleeiajiiaaPduF
namespace Go.Proofs.Ytkohnleeiajiiaa
open Go.RowKit

set_option maxRecDepth 100000 in
set_option maxHeartbeats 4000000 in
theorem rgood_any (p : Pd) (w : World) : Calls Try.prog 31 #[pdV p] w fun e w' => e = .returned (.bool (goodP p)) ∧ Below w.heap.size w w' := by
  obtain ⟨arr, harr⟩ : ∃ arr, arr = pdA p := ⟨_, rfl⟩
  have a0 : arr[0]? = some (.int .u8 (p.kind : Nat)) := by rw [harr]; rfl
  have a2 : arr[2]? = some (.bool p.prop) := by rw [harr]; rfl
  have a3 : arr[3]? = some (.bool p.lrn) := by rw [harr]; rfl
  have a4 : arr[4]? = some (.bool p.fwd) := by rw [harr]; rfl
  have a5 : arr[5]? = some (.bool p.agr) := by rw [harr]; rfl
  have a7 : arr[7]? = some (.int .u8 (p.role : Nat)) := by rw [harr]; rfl
  have hb := (Below.refl w.heap.size w).alloc (Nat.le_refl _) (Obj.cells arr 38)
  have R := Lib.hid (Blk.new w arr 38)
  have hsz := Lib.hid (show (Try.prog.info? 38).map (·.size) = some arr.size by rw [harr]; exact size38)
  have heq : ∀ W, (Op.equalIn 10000 38 (.agg arr) (.agg #[.int .u8 128, .bool false, .bool false, .bool false, .bool false, .bool false, .bool false, .int .u8 0, .int .u64 0, .int .u32 0, .int .u64 0, .int .u16 0, .int .u16 0, .int .u16 0, .int .u16 0, .int .u16 0])).run Try.prog W = .ok (eqP p (kindP 128)) W := fun W => by rw [harr]; exact equal_pd38 p (kindP 128) W
  show Calls Try.prog 31 #[.agg (pdA p)] w _
  rw [← harr]
  have HA := Lib.hid harr
  clear harr
  by_cases k0 : p.kind = 0
  · have K := Lib.hid (show goodP p = (!p.prop && !p.lrn && !p.fwd && !p.agr && decide (p.role = 0)) by unfold goodP; rw [if_pos k0])
    rw [k0] at a0
    clear k0 heq
    cases h1 : p.prop with
    | true =>
      rw [h1] at a2 K
      have K' := Lib.hid (show goodP p = false by rw [K.out]; rfl)
      clear K h1
      go_enter Try.func31, Try.ntmps31
      go_wp2
      go_ret
      exact ⟨ret_bool (by rw [K'.out]), hb⟩
    | false =>
      rw [h1] at a2 K
      cases h2 : p.lrn with
      | true =>
        rw [h2] at a3 K
        have K' := Lib.hid (show goodP p = false by rw [K.out]; rfl)
        clear K h1 h2
        go_enter Try.func31, Try.ntmps31
        go_wp2
        go_ret
        exact ⟨ret_bool (by rw [K'.out]), hb⟩
      | false =>
        rw [h2] at a3 K
        cases h3 : p.fwd with
        | true =>
          rw [h3] at a4 K
          have K' := Lib.hid (show goodP p = false by rw [K.out]; rfl)
          clear K h1 h2 h3
          go_enter Try.func31, Try.ntmps31
          go_wp2
          go_ret
          exact ⟨ret_bool (by rw [K'.out]), hb⟩
        | false =>
          rw [h3] at a4 K
          cases h4 : p.agr with
          | true =>
            rw [h4] at a5 K
            have K' := Lib.hid (show goodP p = false by rw [K.out]; rfl)
            clear K h1 h2 h3 h4
            go_enter Try.func31, Try.ntmps31
            go_wp2
            go_ret
            exact ⟨ret_bool (by rw [K'.out]), hb⟩
          | false =>
            rw [h4] at a5 K
            have K' := Lib.hid (show goodP p = decide (p.role = 0) by rw [K.out]; rfl)
            clear K h1 h2 h3 h4
            go_enter Try.func31, Try.ntmps31
            go_wp2
            go_ret
            exact ⟨ret_bool (by rw [K'.out]; rw [Bool.eq_iff_iff]; simp), hb⟩
  · by_cases k2 : p.kind = 2
    · have K' := Lib.hid (show goodP p = decide (p.role ≤ 3) by unfold goodP; rw [if_neg k0, if_pos k2])
      rw [k2] at a0
      clear k0 k2 heq
      go_enter Try.func31, Try.ntmps31
      go_wp2
      go_ret
      exact ⟨ret_bool (by rw [K'.out]; rw [Bool.eq_iff_iff]; simp; omega), hb⟩
    · have K' := Lib.hid (show goodP p = eqP p (kindP 128) by unfold goodP; rw [if_neg k0, if_neg k2])
      have e0 : ((p.kind : Int) == 0) = false := by simp; omega
      have e2 : ((p.kind : Int) == 2) = false := by simp; omega
      clear k0 k2
      go_enter Try.func31, Try.ntmps31
      go_wp2_with (refine wpList_load_row rfl 38 _ rfl w.heap.size rfl 38 _ (0, 0) _ R.out Try.underlying38 rfl hsz.out ?_)
      go_ret
      exact ⟨ret_bool (by rw [K'.out]), hb⟩

end Go.Proofs.Ytkohnleeiajiiaa
