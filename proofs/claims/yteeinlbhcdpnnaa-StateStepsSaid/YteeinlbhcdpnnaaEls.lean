/- The elements of a state's lists, its config, its counts: their rows; rows are the same just where all numbers are. -/
import Derived.Test.YteeinlbhcdpnnaaRd
import Derived.Test.YteeinlbhcdpnnaaIns
import Derived.Deep.DeepCutAuto
import Derived.IntWalk
import Derived.WalkLawsBesides
import Derived.WalkSpells
import Derived.Shelf.Abstract
import Derived.Laws.StructEq
import Derived.ChangeKeysEq
namespace Go.Proofs.Yteeinlbhcdpnnaa
open Go.RowKit
set_option linter.unusedSimpArgs false
set_option linter.unusedVariables false

/-- Are both the same? -/
noncomputable def eqB {α : Type} (x y : α) : Bool := @decide (x = y) (Classical.propDecidable _)
theorem eqB_iff {α : Type} {x y : α} : eqB x y = true ↔ x = y := by unfold eqB; exact @decide_eq_true_iff _ (Classical.propDecidable _)
theorem eqB_self {α : Type} (x : α) : eqB x x = true := eqB_iff.2 rfl
theorem eqB_ne {α : Type} {x y : α} (h : x ≠ y) : eqB x y = false := by
  cases c : eqB x y with
  | false => rfl
  | true => exact absurd (eqB_iff.1 c) h
theorem eqB_comm {α : Type} (x y : α) : eqB x y = eqB y x := by
  by_cases h : x = y
  · rw [h]
  · rw [eqB_ne h, eqB_ne (fun e => h e.symm)]
theorem u5c : Try.prog.cellsOf 5 = 1 := by kernel_rfl

structure Po where
  p0 : Int
  p1 : Int
  p2 : Bool
  p3 : Int
  p4 : Int
  p5 : Bool
  p6 : Bool
  p7 : Bool
  p8 : Bool
  p9 : Bool
  p10 : Int
  p11 : Int
  p12 : Int
  p13 : Int
  p14 : Int
  p15 : Int
  p16 : Int
  p17 : Int
  p18 : Int
  p19 : Int
  p20 : Int
def poA (x : Po) : Array Value := #[.int .u16 x.p0, .int .i64 x.p1, .bool x.p2, .int .u32 x.p3, .int .i64 x.p4, .bool x.p5, .bool x.p6, .bool x.p7, .bool x.p8, .bool x.p9, .int .i64 x.p10, .int .i64 x.p11, .int .i64 x.p12, .int .u64 x.p13, .int .u32 x.p14, .int .u64 x.p15, .int .u16 x.p16, .int .i64 x.p17, .int .i64 x.p18, .int .i64 x.p19, .int .i64 x.p20]
abbrev poV (x : Po) : Value := .agg (poA x)
def poC (x : Po) : List Value := (poA x).toList
theorem po_size (x : Po) : (poA x).size = 21 := rfl
theorem po_len (x : Po) : (poC x).length = 21 := rfl
theorem po_all (x : Po) : (poA x).all (·.oneCell') = true := by simp [poA, Value.oneCell']
theorem po_one (x : Po) : ∀ u ∈ poC x, u.oneCell' = true := by
  have := po_all x
  rw [Array.all_eq_true'] at this
  intro u hu
  exact this u (by simpa [poC] using hu)
theorem size50 : (Try.prog.info? 42).map (·.size) = some 21 := by kernel_rfl
theorem po_info (x : Po) : (Try.prog.info? 42).map (·.size) = some (poA x).size := size50
theorem info50' : ∃ i z b, Try.prog.info? 42 = some i ∧ i.zero = some z ∧ i.size = 21 ∧ i.bytes = b ∧ z.cells.size = 21 ∧ b ≤ 1000 := by
  obtain ⟨i, h1, h3, h4, h5⟩ := info_parts (show (Try.prog.info? 42).map (fun i => (i.zero, i.size, i.bytes)) = some (some (.agg #[.int .u16 0, .int .i64 0, .bool false, .int .u32 0, .int .i64 0, .bool false, .bool false, .bool false, .bool false, .bool false, .int .i64 0, .int .i64 0, .int .i64 0, .int .u64 0, .int .u32 0, .int .u64 0, .int .u16 0, .int .i64 0, .int .i64 0, .int .i64 0, .int .i64 0]), 21, 136) by kernel_rfl)
  exact ⟨i, _, _, h1, h3, h4, h5, rfl, by decide⟩
theorem equal_46 (a0 b0 : Int) (a1 b1 : Int) (a2 b2 : Bool) (w : World) : (Op.equalIn 9999 40 (.agg #[.int .u16 a0, .int .i64 a1, .bool a2]) (.agg #[.int .u16 b0, .int .i64 b1, .bool b2])).run Try.prog w = .ok (decide (a0 = b0) && decide (a1 = b1) && (a2 == b2)) w := by
  have hS : Try.prog.underlying 40 = some (.struct (Try.prog.fieldsOf 40)) := by kernel_rfl
  have hp : Try.prog.stoodInHeld 40 = false := by kernel_rfl
  rw [show (9999 : Nat) = 9998 + 1 from rfl, run_equalIn_agg w 9998 40 _ _ hS hp]
  simp only [Program.fieldsOf, Try.underlying40]
  have u3 := Try.underlying3
  have u4 := Try.underlying4
  have u44 := Try.underlying33
  go_simp
  by_cases h0 : a0 = b0
  · subst h0
    by_cases h1 : a1 = b1
    · subst h1
      by_cases h2 : a2 = b2
      · subst h2
        simp
      · simp [h2]
    · simp [h1]
  · simp [h0]

theorem equal_48 (a0 b0 : Int) (a1 b1 : Int) (a2 b2 : Int) (a3 b3 : Int) (w : World) : (Op.equalIn 9999 35 (.agg #[.int .u64 a0, .int .u32 a1, .int .u64 a2, .int .u16 a3]) (.agg #[.int .u64 b0, .int .u32 b1, .int .u64 b2, .int .u16 b3])).run Try.prog w = .ok (decide (a0 = b0) && decide (a1 = b1) && decide (a2 = b2) && decide (a3 = b3)) w := by
  have hS : Try.prog.underlying 35 = some (.struct (Try.prog.fieldsOf 35)) := by kernel_rfl
  have hp : Try.prog.stoodInHeld 35 = false := by kernel_rfl
  rw [show (9999 : Nat) = 9998 + 1 from rfl, run_equalIn_agg w 9998 35 _ _ hS hp]
  simp only [Program.fieldsOf, Try.underlying35]
  have u22 := Try.underlying30
  have u27 := Try.underlying32
  have u32 := Try.underlying31
  have u44 := Try.underlying33
  go_simp
  by_cases h0 : a0 = b0
  · subst h0
    by_cases h1 : a1 = b1
    · subst h1
      by_cases h2 : a2 = b2
      · subst h2
        by_cases h3 : a3 = b3
        · subst h3
          simp
        · simp [h3]
      · simp [h2]
    · simp [h1]
  · simp [h0]

set_option maxRecDepth 100000 in
set_option maxHeartbeats 4000000 in
theorem equal_po (x y : Po) (w : World) : (Op.equalIn 10000 42 (poV x) (poV y)).run Try.prog w = .ok (eqB x y) w := by
  have hS : Try.prog.underlying 42 = some (.struct (Try.prog.fieldsOf 42)) := by kernel_rfl
  have hp : Try.prog.stoodInHeld 42 = false := by kernel_rfl
  obtain ⟨a0, a1, a2, a3, a4, a5, a6, a7, a8, a9, a10, a11, a12, a13, a14, a15, a16, a17, a18, a19, a20⟩ := x
  obtain ⟨b0, b1, b2, b3, b4, b5, b6, b7, b8, b9, b10, b11, b12, b13, b14, b15, b16, b17, b18, b19, b20⟩ := y
  have n46 : ∀ W, (Op.equalIn 9999 40 (.agg #[.int .u16 a0, .int .i64 a1, .bool a2]) (.agg #[.int .u16 b0, .int .i64 b1, .bool b2])).run Try.prog W = .ok (decide (a0 = b0) && decide (a1 = b1) && (a2 == b2)) W := fun W => equal_46 a0 b0 a1 b1 a2 b2 W
  have n48 : ∀ W, (Op.equalIn 9999 35 (.agg #[.int .u64 a13, .int .u32 a14, .int .u64 a15, .int .u16 a16]) (.agg #[.int .u64 b13, .int .u32 b14, .int .u64 b15, .int .u16 b16])).run Try.prog W = .ok (decide (a13 = b13) && decide (a14 = b14) && decide (a15 = b15) && decide (a16 = b16)) W := fun W => equal_48 a13 b13 a14 b14 a15 b15 a16 b16 W
  unfold poV poA
  rw [show (10000 : Nat) = 9999 + 1 from rfl, run_equalIn_agg w 9999 42 _ _ hS hp]
  simp only [Program.fieldsOf, Try.underlying42]
  have u3 := Try.underlying3
  have u4 := Try.underlying4
  have u22 := Try.underlying30
  have u27 := Try.underlying32
  have u32 := Try.underlying31
  have u44 := Try.underlying33
  go_simp
  by_cases h0 : a0 = b0
  · subst h0
    by_cases h1 : a1 = b1
    · subst h1
      by_cases h2 : a2 = b2
      · subst h2
        by_cases h3 : a3 = b3
        · subst h3
          by_cases h4 : a4 = b4
          · subst h4
            by_cases h5 : a5 = b5
            · subst h5
              by_cases h6 : a6 = b6
              · subst h6
                by_cases h7 : a7 = b7
                · subst h7
                  by_cases h8 : a8 = b8
                  · subst h8
                    by_cases h9 : a9 = b9
                    · subst h9
                      by_cases h10 : a10 = b10
                      · subst h10
                        by_cases h11 : a11 = b11
                        · subst h11
                          by_cases h12 : a12 = b12
                          · subst h12
                            by_cases h13 : a13 = b13
                            · subst h13
                              by_cases h14 : a14 = b14
                              · subst h14
                                by_cases h15 : a15 = b15
                                · subst h15
                                  by_cases h16 : a16 = b16
                                  · subst h16
                                    by_cases h17 : a17 = b17
                                    · subst h17
                                      by_cases h18 : a18 = b18
                                      · subst h18
                                        by_cases h19 : a19 = b19
                                        · subst h19
                                          by_cases h20 : a20 = b20
                                          · subst h20
                                            rw [eqB_self]
                                            simp
                                          · rw [eqB_ne (by simp [h20])]
                                            simp [h20]
                                        · rw [eqB_ne (by simp [h19])]
                                          simp [h19]
                                      · rw [eqB_ne (by simp [h18])]
                                        simp [h18]
                                    · rw [eqB_ne (by simp [h17])]
                                      simp [h17]
                                  · rw [eqB_ne (by simp [h16])]
                                    simp [h16]
                                · rw [eqB_ne (by simp [h15])]
                                  simp [h15]
                              · rw [eqB_ne (by simp [h14])]
                                simp [h14]
                            · rw [eqB_ne (by simp [h13])]
                              simp [h13]
                          · rw [eqB_ne (by simp [h12])]
                            simp [h12]
                        · rw [eqB_ne (by simp [h11])]
                          simp [h11]
                      · rw [eqB_ne (by simp [h10])]
                        simp [h10]
                    · rw [eqB_ne (by simp [h9])]
                      simp [h9]
                  · rw [eqB_ne (by simp [h8])]
                    simp [h8]
                · rw [eqB_ne (by simp [h7])]
                  simp [h7]
              · rw [eqB_ne (by simp [h6])]
                simp [h6]
            · rw [eqB_ne (by simp [h5])]
              simp [h5]
          · rw [eqB_ne (by simp [h4])]
            simp [h4]
        · rw [eqB_ne (by simp [h3])]
          simp [h3]
      · rw [eqB_ne (by simp [h2])]
        simp [h2]
    · rw [eqB_ne (by simp [h1])]
      simp [h1]
  · rw [eqB_ne (by simp [h0])]
    simp [h0]

structure Vr where
  p0 : Int
  p1 : Int
  p2 : Int
def vrA (x : Vr) : Array Value := #[.int .u16 x.p0, .int .u32 x.p1, .int .u32 x.p2]
abbrev vrV (x : Vr) : Value := .agg (vrA x)
def vrC (x : Vr) : List Value := (vrA x).toList
theorem vr_size (x : Vr) : (vrA x).size = 3 := rfl
theorem vr_len (x : Vr) : (vrC x).length = 3 := rfl
theorem vr_all (x : Vr) : (vrA x).all (·.oneCell') = true := by simp [vrA, Value.oneCell']
theorem vr_one (x : Vr) : ∀ u ∈ vrC x, u.oneCell' = true := by
  have := vr_all x
  rw [Array.all_eq_true'] at this
  intro u hu
  exact this u (by simpa [vrC] using hu)
structure Sr where
  p0 : Int
  p1 : Int
  p2 : Int
  p3 : Int
  p4 : Int
  p5 : Int
  p6 : Int
  p7 : Int
def srA (x : Sr) : Array Value := #[.int .u16 x.p0, .int .u8 x.p1, .int .u8 x.p2, .int .u8 x.p3, .int .u8 x.p4, .int .u8 x.p5, .int .u8 x.p6, .int .u32 x.p7]
abbrev srV (x : Sr) : Value := .agg (srA x)
def srC (x : Sr) : List Value := (srA x).toList
theorem sr_size (x : Sr) : (srA x).size = 8 := rfl
theorem sr_len (x : Sr) : (srC x).length = 8 := rfl
theorem sr_all (x : Sr) : (srA x).all (·.oneCell') = true := by simp [srA, Value.oneCell']
theorem sr_one (x : Sr) : ∀ u ∈ srC x, u.oneCell' = true := by
  have := sr_all x
  rw [Array.all_eq_true'] at this
  intro u hu
  exact this u (by simpa [srC] using hu)
structure Fr where
  p0 : Int
  p1 : Int
  p2 : Int
  p3 : Int
  p4 : Int
  p5 : Int
  p6 : Int
  p7 : Int
  p8 : Int
def frA (x : Fr) : Array Value := #[.int .u16 x.p0, .int .u8 x.p1, .int .u8 x.p2, .int .u8 x.p3, .int .u8 x.p4, .int .u8 x.p5, .int .u8 x.p6, .int .i64 x.p7, .int .i64 x.p8]
abbrev frV (x : Fr) : Value := .agg (frA x)
def frC (x : Fr) : List Value := (frA x).toList
theorem fr_size (x : Fr) : (frA x).size = 9 := rfl
theorem fr_len (x : Fr) : (frC x).length = 9 := rfl
theorem fr_all (x : Fr) : (frA x).all (·.oneCell') = true := by simp [frA, Value.oneCell']
theorem fr_one (x : Fr) : ∀ u ∈ frC x, u.oneCell' = true := by
  have := fr_all x
  rw [Array.all_eq_true'] at this
  intro u hu
  exact this u (by simpa [frC] using hu)
structure Cf where
  p0 : Int
  p1 : Int
  p2 : Int
  p3 : Int
  p4 : Int
  p5 : Int
def cfA (x : Cf) : Array Value := #[.int .u64 x.p0, .int .i64 x.p1, .int .i64 x.p2, .int .i64 x.p3, .int .i64 x.p4, .int .i64 x.p5]
abbrev cfV (x : Cf) : Value := .agg (cfA x)
def cfC (x : Cf) : List Value := (cfA x).toList
theorem cf_size (x : Cf) : (cfA x).size = 6 := rfl
theorem cf_len (x : Cf) : (cfC x).length = 6 := rfl
theorem cf_all (x : Cf) : (cfA x).all (·.oneCell') = true := by simp [cfA, Value.oneCell']
theorem cf_one (x : Cf) : ∀ u ∈ cfC x, u.oneCell' = true := by
  have := cf_all x
  rw [Array.all_eq_true'] at this
  intro u hu
  exact this u (by simpa [cfC] using hu)
theorem size34 : (Try.prog.info? 38).map (·.size) = some 6 := by kernel_rfl
theorem cf_info (x : Cf) : (Try.prog.info? 38).map (·.size) = some (cfA x).size := size34
set_option maxRecDepth 100000 in
set_option maxHeartbeats 4000000 in
theorem equal_cf (x y : Cf) (w : World) : (Op.equalIn 10000 38 (cfV x) (cfV y)).run Try.prog w = .ok (eqB x y) w := by
  have hS : Try.prog.underlying 38 = some (.struct (Try.prog.fieldsOf 38)) := by kernel_rfl
  have hp : Try.prog.stoodInHeld 38 = false := by kernel_rfl
  obtain ⟨a0, a1, a2, a3, a4, a5⟩ := x
  obtain ⟨b0, b1, b2, b3, b4, b5⟩ := y
  unfold cfV cfA
  rw [show (10000 : Nat) = 9999 + 1 from rfl, run_equalIn_agg w 9999 38 _ _ hS hp]
  simp only [Program.fieldsOf, Try.underlying38]
  have u3 := Try.underlying3
  have u22 := Try.underlying30
  have u32 := Try.underlying31
  go_simp
  by_cases h0 : a0 = b0
  · subst h0
    by_cases h1 : a1 = b1
    · subst h1
      by_cases h2 : a2 = b2
      · subst h2
        by_cases h3 : a3 = b3
        · subst h3
          by_cases h4 : a4 = b4
          · subst h4
            by_cases h5 : a5 = b5
            · subst h5
              rw [eqB_self]
              simp
            · rw [eqB_ne (by simp [h5])]
              simp [h5]
          · rw [eqB_ne (by simp [h4])]
            simp [h4]
        · rw [eqB_ne (by simp [h3])]
          simp [h3]
      · rw [eqB_ne (by simp [h2])]
        simp [h2]
    · rw [eqB_ne (by simp [h1])]
      simp [h1]
  · rw [eqB_ne (by simp [h0])]
    simp [h0]

/-- A port as plain data. -/
structure Pp where
  p0 : Int
  p1 : Int
  p2 : Int
  p3 : Int
  p4 : Int
  p5 : Int
  p6 : Int
  p7 : Int
  p8 : Int
  p9 : Int
  p10 : Bool
  p11 : Bool
  p12 : Bool
  p13 : Bool
  p14 : Bool
  p15 : Bool
  p16 : Int
  p17 : Int
  p18 : Int
  p19 : Int
  p20 : Int
def ppA (x : Pp) : Array Value := #[.int .i64 x.p0, .int .i64 x.p1, .int .i64 x.p2, .int .i64 x.p3, .int .i64 x.p4, .int .i64 x.p5, .int .i64 x.p6, .int .i64 x.p7, .int .i64 x.p8, .int .i64 x.p9, .bool x.p10, .bool x.p11, .bool x.p12, .bool x.p13, .bool x.p14, .bool x.p15, .int .u32 x.p16, .int .u64 x.p17, .int .u32 x.p18, .int .u64 x.p19, .int .u16 x.p20]
abbrev ppV (x : Pp) : Value := .agg (ppA x)
def ppC (x : Pp) : List Value := (ppA x).toList
theorem pp_size (x : Pp) : (ppA x).size = 21 := rfl
theorem pp_len (x : Pp) : (ppC x).length = 21 := rfl
end Go.Proofs.Yteeinlbhcdpnnaa
