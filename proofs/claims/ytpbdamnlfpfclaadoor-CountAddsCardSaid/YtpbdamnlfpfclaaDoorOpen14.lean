/- How fourteen numbers are opened, and slices of pairs; the table of powers. -/
import Derived.Test.YtpbdamnlfpfclaaDoorOpen2
import Derived.Test.YtpbdamnlfpfclaaDoorStrs
import Derived.Test.YtpbdamnlfpfclaaDoorFmt
import Derived.Test.YtpbdamnlfpfclaaDoorLits
import Derived.Lay
import Derived.LaidSub
import Derived.LaidMore
import Derived.Stop.Joined
namespace Go.Proofs.YtpbdamnlfpfclaaDoor
open Go.ChangeShapes Go.WideShapes Go.ChangeAt Go.RowKit Go.Deep
set_option linter.unusedVariables false
set_option linter.unusedSimpArgs false
section
variable {H : Type} {enc : TypeId × Value → H} {w : World} {base : Nat} {spare : Nat → Bool} {held : Bool}
theorem cells23 : Tryd.prog.cellsOf 23 = 14 := by kernel_rfl
theorem cells27 : Tryd.prog.cellsOf 27 = 2 := by kernel_rfl
theorem cells3 : Tryd.prog.cellsOf 3 = 1 := by kernel_rfl
theorem open_c {v : Value} {d : DataW H} {p : List MemPlace} {b0 : Nat} {r : Reach} (hv : Value.okWide Tryd.prog w r b0 23 v) (h : DataW.Trod enc Tryd.prog w base spare held 23 v d p) : ∃ c : Nat → Nat, okC c ∧ v = cV c := by
  unfold Value.okWide at hv
  rw [Tryd.underlying23] at hv
  obtain ⟨cs, rfl, hsz, _⟩ := hv
  obtain ⟨fuel, hf⟩ := h
  obtain ⟨_, hi⟩ := arr_ints Tryd.underlying23 Tryd.underlying22 cells22 cells23 hf
  have key : ∀ i : Fin 14, ∃ n : Nat, n < 4294967296 ∧ cs[i.val]? = some (.int .u32 (n : Int)) := fun ⟨i, h14⟩ => by
    obtain ⟨a, e, hw⟩ := hi i h14
    obtain ⟨n, rfl, hn⟩ := nat_of_u32 hw
    refine ⟨n, hn, ?_⟩
    simpa [Value.cells] using e
  have hs14 : cs.size = 14 := by rw [hsz, cells23]
  refine ⟨fun i => if h : i < 14 then (key ⟨i, h⟩).choose else 0, fun j hj => ?_, ?_⟩
  · simp only [dif_pos hj]
    exact (key ⟨j, hj⟩).choose_spec.1
  · refine congrArg Value.agg (Array.ext' (List.ext_getElem? fun i => ?_))
    by_cases h14 : i < 14
    · have := (key ⟨i, h14⟩).choose_spec.2
      rw [Array.getElem?_toList, this, Array.getElem?_toList, cA_at _ h14]
      simp only [dif_pos h14]
    · rw [List.getElem?_eq_none (by simpa using (by omega : cs.size ≤ i)), List.getElem?_eq_none (by have := cA_size (fun i => if h : i < 14 then (key ⟨i, h⟩).choose else 0); simp at this ⊢; omega)]
end
/-- The table of powers, out of the row's condition. -/
theorem tab_of {W : World} (h : laidMetH Tryd.prog [("math/bits.deBruijn32tab", Rows.laid_math_bits_deBruijn32tab), ("math/bits.deBruijn64tab", Rows.laid_math_bits_deBruijn64tab), ("internal/strconv.uint64pow10", Rows.laid_internal_strconv_uint64pow10)] W) : Tab10 W := by
  rw [MakeChecks.laidMetH_plain _ _ _ (by kernel_rfl)] at h
  have h1 := laidMet.filter (fun x => x.1 == "internal/strconv.uint64pow10") h
  exact Lib.tabIs_of_head (g := 0) (t := 59) (e := 30) (n := 20) (rest := []) (by kernel_rfl) (by kernel_rfl) Tryd.underlying59 Tryd.underlying30 (by kernel_rfl) (by kernel_rfl) h1
end Go.Proofs.YtpbdamnlfpfclaaDoor
