/- The elements of a state's lists, its config, its counts: their rows; rows are the same just where all numbers are. -/
import Derived.Test.YtojijeaofkndpaaRd
import Derived.Test.YtojijeaofkndpaaIns
import Derived.Deep.DeepCutAuto
import Derived.IntWalk
import Derived.WalkLawsBesides
import Derived.WalkSpells
import Derived.Shelf.Abstract
import Derived.Laws.StructEq
import Derived.ChangeKeysEq
namespace Go.Proofs.Ytojijeaofkndpaa
open Go.RowKit
set_option linter.unusedSimpArgs false
set_option linter.unusedVariables false

/-- Are both the same? -/
noncomputable def eqB {α : Type} (x y : α) : Bool := @decide (x = y) (Classical.propDecidable _)
theorem eqB_iff {α : Type} {x y : α} : eqB x y = true ↔ x = y := by unfold eqB; exact @decide_eq_true_iff _ (Classical.propDecidable _)
theorem eqB_self {α : Type} (x : α) : eqB x x = true := eqB_iff.2 rfl
theorem eqB_ne {α : Type} {x y : α} (h : x ≠ y) : eqB x y = false := by
  cases c : eqB x y with
  | false => rfl
  | true => exact absurd (eqB_iff.1 c) h
theorem eqB_comm {α : Type} (x y : α) : eqB x y = eqB y x := by
  by_cases h : x = y
  · rw [h]
  · rw [eqB_ne h, eqB_ne (fun e => h e.symm)]
theorem u5c : Try.prog.cellsOf 5 = 1 := by kernel_rfl

structure Po where
  p0 : Int
  p1 : Int
  p2 : Bool
  p3 : Int
  p4 : Int
  p5 : Bool
  p6 : Bool
  p7 : Bool
  p8 : Bool
  p9 : Bool
  p10 : Int
  p11 : Int
  p12 : Int
  p13 : Int
  p14 : Int
  p15 : Int
  p16 : Int
  p17 : Int
  p18 : Int
  p19 : Int
  p20 : Int
def poA (x : Po) : Array Value := #[.int .u16 x.p0, .int .i64 x.p1, .bool x.p2, .int .u32 x.p3, .int .i64 x.p4, .bool x.p5, .bool x.p6, .bool x.p7, .bool x.p8, .bool x.p9, .int .i64 x.p10, .int .i64 x.p11, .int .i64 x.p12, .int .u64 x.p13, .int .u32 x.p14, .int .u64 x.p15, .int .u16 x.p16, .int .i64 x.p17, .int .i64 x.p18, .int .i64 x.p19, .int .i64 x.p20]
abbrev poV (x : Po) : Value := .agg (poA x)
def poC (x : Po) : List Value := (poA x).toList
theorem po_size (x : Po) : (poA x).size = 21 := rfl
theorem po_len (x : Po) : (poC x).length = 21 := rfl
theorem po_all (x : Po) : (poA x).all (·.oneCell') = true := by simp [poA, Value.oneCell']
theorem po_one (x : Po) : ∀ u ∈ poC x, u.oneCell' = true := by
  have := po_all x
  rw [Array.all_eq_true'] at this
  intro u hu
  exact this u (by simpa [poC] using hu)
theorem size50 : (Try.prog.info? 62).map (·.size) = some 21 := by kernel_rfl
theorem po_info (x : Po) : (Try.prog.info? 62).map (·.size) = some (poA x).size := size50
theorem info50' : ∃ i z b, Try.prog.info? 62 = some i ∧ i.zero = some z ∧ i.size = 21 ∧ i.bytes = b ∧ z.cells.size = 21 ∧ b ≤ 1000 := by
  obtain ⟨i, h1, h3, h4, h5⟩ := info_parts (show (Try.prog.info? 62).map (fun i => (i.zero, i.size, i.bytes)) = some (some (.agg #[.int .u16 0, .int .i64 0, .bool false, .int .u32 0, .int .i64 0, .bool false, .bool false, .bool false, .bool false, .bool false, .int .i64 0, .int .i64 0, .int .i64 0, .int .u64 0, .int .u32 0, .int .u64 0, .int .u16 0, .int .i64 0, .int .i64 0, .int .i64 0, .int .i64 0]), 21, 136) by kernel_rfl)
  exact ⟨i, _, _, h1, h3, h4, h5, rfl, by decide⟩
theorem poT : ElT Try.prog 94 62 21 poC := ⟨Try.underlying94, info50', by decide, po_len, po_one⟩

theorem equal_46 (a0 b0 : Int) (a1 b1 : Int) (a2 b2 : Bool) (w : World) : (Op.equalIn 9999 60 (.agg #[.int .u16 a0, .int .i64 a1, .bool a2]) (.agg #[.int .u16 b0, .int .i64 b1, .bool b2])).run Try.prog w = .ok (decide (a0 = b0) && decide (a1 = b1) && (a2 == b2)) w := by
  have hS : Try.prog.underlying 60 = some (.struct (Try.prog.fieldsOf 60)) := by kernel_rfl
  have hp : Try.prog.stoodInHeld 60 = false := by kernel_rfl
  rw [show (9999 : Nat) = 9998 + 1 from rfl, run_equalIn_agg w 9998 60 _ _ hS hp]
  simp only [Program.fieldsOf, Try.underlying60]
  have u3 := Try.underlying3
  have u4 := Try.underlying4
  have u44 := Try.underlying40
  go_simp
  by_cases h0 : a0 = b0
  · subst h0
    by_cases h1 : a1 = b1
    · subst h1
      by_cases h2 : a2 = b2
      · subst h2
        simp
      · simp [h2]
    · simp [h1]
  · simp [h0]

theorem equal_48 (a0 b0 : Int) (a1 b1 : Int) (a2 b2 : Int) (a3 b3 : Int) (w : World) : (Op.equalIn 9999 44 (.agg #[.int .u64 a0, .int .u32 a1, .int .u64 a2, .int .u16 a3]) (.agg #[.int .u64 b0, .int .u32 b1, .int .u64 b2, .int .u16 b3])).run Try.prog w = .ok (decide (a0 = b0) && decide (a1 = b1) && decide (a2 = b2) && decide (a3 = b3)) w := by
  have hS : Try.prog.underlying 44 = some (.struct (Try.prog.fieldsOf 44)) := by kernel_rfl
  have hp : Try.prog.stoodInHeld 44 = false := by kernel_rfl
  rw [show (9999 : Nat) = 9998 + 1 from rfl, run_equalIn_agg w 9998 44 _ _ hS hp]
  simp only [Program.fieldsOf, Try.underlying44]
  have u22 := Try.underlying22
  have u27 := Try.underlying30
  have u32 := Try.underlying29
  have u44 := Try.underlying40
  have u52 := Try.underlying105
  go_simp
  by_cases h0 : a0 = b0
  · subst h0
    by_cases h1 : a1 = b1
    · subst h1
      by_cases h2 : a2 = b2
      · subst h2
        by_cases h3 : a3 = b3
        · subst h3
          simp
        · simp [h3]
      · simp [h2]
    · simp [h1]
  · simp [h0]

set_option maxRecDepth 100000 in
set_option maxHeartbeats 4000000 in
theorem equal_po (x y : Po) (w : World) : (Op.equalIn 10000 62 (poV x) (poV y)).run Try.prog w = .ok (eqB x y) w := by
  have hS : Try.prog.underlying 62 = some (.struct (Try.prog.fieldsOf 62)) := by kernel_rfl
  have hp : Try.prog.stoodInHeld 62 = false := by kernel_rfl
  obtain ⟨a0, a1, a2, a3, a4, a5, a6, a7, a8, a9, a10, a11, a12, a13, a14, a15, a16, a17, a18, a19, a20⟩ := x
  obtain ⟨b0, b1, b2, b3, b4, b5, b6, b7, b8, b9, b10, b11, b12, b13, b14, b15, b16, b17, b18, b19, b20⟩ := y
  have n46 : ∀ W, (Op.equalIn 9999 60 (.agg #[.int .u16 a0, .int .i64 a1, .bool a2]) (.agg #[.int .u16 b0, .int .i64 b1, .bool b2])).run Try.prog W = .ok (decide (a0 = b0) && decide (a1 = b1) && (a2 == b2)) W := fun W => equal_46 a0 b0 a1 b1 a2 b2 W
  have n48 : ∀ W, (Op.equalIn 9999 44 (.agg #[.int .u64 a13, .int .u32 a14, .int .u64 a15, .int .u16 a16]) (.agg #[.int .u64 b13, .int .u32 b14, .int .u64 b15, .int .u16 b16])).run Try.prog W = .ok (decide (a13 = b13) && decide (a14 = b14) && decide (a15 = b15) && decide (a16 = b16)) W := fun W => equal_48 a13 b13 a14 b14 a15 b15 a16 b16 W
  unfold poV poA
  rw [show (10000 : Nat) = 9999 + 1 from rfl, run_equalIn_agg w 9999 62 _ _ hS hp]
  simp only [Program.fieldsOf, Try.underlying62]
  have u3 := Try.underlying3
  have u4 := Try.underlying4
  have u22 := Try.underlying22
  have u27 := Try.underlying30
  have u32 := Try.underlying29
  have u44 := Try.underlying40
  have u52 := Try.underlying105
  go_simp
  by_cases h0 : a0 = b0
  · subst h0
    by_cases h1 : a1 = b1
    · subst h1
      by_cases h2 : a2 = b2
      · subst h2
        by_cases h3 : a3 = b3
        · subst h3
          by_cases h4 : a4 = b4
          · subst h4
            by_cases h5 : a5 = b5
            · subst h5
              by_cases h6 : a6 = b6
              · subst h6
                by_cases h7 : a7 = b7
                · subst h7
                  by_cases h8 : a8 = b8
                  · subst h8
                    by_cases h9 : a9 = b9
                    · subst h9
                      by_cases h10 : a10 = b10
                      · subst h10
                        by_cases h11 : a11 = b11
                        · subst h11
                          by_cases h12 : a12 = b12
                          · subst h12
                            by_cases h13 : a13 = b13
                            · subst h13
                              by_cases h14 : a14 = b14
                              · subst h14
                                by_cases h15 : a15 = b15
                                · subst h15
                                  by_cases h16 : a16 = b16
                                  · subst h16
                                    by_cases h17 : a17 = b17
                                    · subst h17
                                      by_cases h18 : a18 = b18
                                      · subst h18
                                        by_cases h19 : a19 = b19
                                        · subst h19
                                          by_cases h20 : a20 = b20
                                          · subst h20
                                            rw [eqB_self]
                                            simp
                                          · rw [eqB_ne (by simp [h20])]
                                            simp [h20]
                                        · rw [eqB_ne (by simp [h19])]
                                          simp [h19]
                                      · rw [eqB_ne (by simp [h18])]
                                        simp [h18]
                                    · rw [eqB_ne (by simp [h17])]
                                      simp [h17]
                                  · rw [eqB_ne (by simp [h16])]
                                    simp [h16]
                                · rw [eqB_ne (by simp [h15])]
                                  simp [h15]
                              · rw [eqB_ne (by simp [h14])]
                                simp [h14]
                            · rw [eqB_ne (by simp [h13])]
                              simp [h13]
                          · rw [eqB_ne (by simp [h12])]
                            simp [h12]
                        · rw [eqB_ne (by simp [h11])]
                          simp [h11]
                      · rw [eqB_ne (by simp [h10])]
                        simp [h10]
                    · rw [eqB_ne (by simp [h9])]
                      simp [h9]
                  · rw [eqB_ne (by simp [h8])]
                    simp [h8]
                · rw [eqB_ne (by simp [h7])]
                  simp [h7]
              · rw [eqB_ne (by simp [h6])]
                simp [h6]
            · rw [eqB_ne (by simp [h5])]
              simp [h5]
          · rw [eqB_ne (by simp [h4])]
            simp [h4]
        · rw [eqB_ne (by simp [h3])]
          simp [h3]
      · rw [eqB_ne (by simp [h2])]
        simp [h2]
    · rw [eqB_ne (by simp [h1])]
      simp [h1]
  · rw [eqB_ne (by simp [h0])]
    simp [h0]

structure Vr where
  p0 : Int
  p1 : Int
  p2 : Int
def vrA (x : Vr) : Array Value := #[.int .u16 x.p0, .int .u32 x.p1, .int .u32 x.p2]
abbrev vrV (x : Vr) : Value := .agg (vrA x)
def vrC (x : Vr) : List Value := (vrA x).toList
theorem vr_size (x : Vr) : (vrA x).size = 3 := rfl
theorem vr_len (x : Vr) : (vrC x).length = 3 := rfl
theorem vr_all (x : Vr) : (vrA x).all (·.oneCell') = true := by simp [vrA, Value.oneCell']
theorem vr_one (x : Vr) : ∀ u ∈ vrC x, u.oneCell' = true := by
  have := vr_all x
  rw [Array.all_eq_true'] at this
  intro u hu
  exact this u (by simpa [vrC] using hu)
theorem size54 : (Try.prog.info? 107).map (·.size) = some 3 := by kernel_rfl
theorem vr_info (x : Vr) : (Try.prog.info? 107).map (·.size) = some (vrA x).size := size54
theorem info54' : ∃ i z b, Try.prog.info? 107 = some i ∧ i.zero = some z ∧ i.size = 3 ∧ i.bytes = b ∧ z.cells.size = 3 ∧ b ≤ 1000 := by
  obtain ⟨i, h1, h3, h4, h5⟩ := info_parts (show (Try.prog.info? 107).map (fun i => (i.zero, i.size, i.bytes)) = some (some (.agg #[.int .u16 0, .int .u32 0, .int .u32 0]), 3, 12) by kernel_rfl)
  exact ⟨i, _, _, h1, h3, h4, h5, rfl, by decide⟩
theorem vrT : ElT Try.prog 95 107 3 vrC := ⟨Try.underlying95, info54', by decide, vr_len, vr_one⟩
set_option maxRecDepth 100000 in
set_option maxHeartbeats 4000000 in
theorem equal_vr (x y : Vr) (w : World) : (Op.equalIn 10000 107 (vrV x) (vrV y)).run Try.prog w = .ok (eqB x y) w := by
  have hS : Try.prog.underlying 107 = some (.struct (Try.prog.fieldsOf 107)) := by kernel_rfl
  have hp : Try.prog.stoodInHeld 107 = false := by kernel_rfl
  obtain ⟨a0, a1, a2⟩ := x
  obtain ⟨b0, b1, b2⟩ := y
  unfold vrV vrA
  rw [show (10000 : Nat) = 9999 + 1 from rfl, run_equalIn_agg w 9999 107 _ _ hS hp]
  simp only [Program.fieldsOf, Try.underlying107]
  have u27 := Try.underlying30
  have u44 := Try.underlying40
  have u52 := Try.underlying105
  go_simp
  by_cases h0 : a0 = b0
  · subst h0
    by_cases h1 : a1 = b1
    · subst h1
      by_cases h2 : a2 = b2
      · subst h2
        rw [eqB_self]
        simp
      · rw [eqB_ne (by simp [h2])]
        simp [h2]
    · rw [eqB_ne (by simp [h1])]
      simp [h1]
  · rw [eqB_ne (by simp [h0])]
    simp [h0]

structure Sr where
  p0 : Int
  p1 : Int
  p2 : Int
  p3 : Int
  p4 : Int
  p5 : Int
  p6 : Int
  p7 : Int
def srA (x : Sr) : Array Value := #[.int .u16 x.p0, .int .u8 x.p1, .int .u8 x.p2, .int .u8 x.p3, .int .u8 x.p4, .int .u8 x.p5, .int .u8 x.p6, .int .u32 x.p7]
abbrev srV (x : Sr) : Value := .agg (srA x)
def srC (x : Sr) : List Value := (srA x).toList
theorem sr_size (x : Sr) : (srA x).size = 8 := rfl
theorem sr_len (x : Sr) : (srC x).length = 8 := rfl
theorem sr_all (x : Sr) : (srA x).all (·.oneCell') = true := by simp [srA, Value.oneCell']
theorem sr_one (x : Sr) : ∀ u ∈ srC x, u.oneCell' = true := by
  have := sr_all x
  rw [Array.all_eq_true'] at this
  intro u hu
  exact this u (by simpa [srC] using hu)
theorem size60 : (Try.prog.info? 114).map (·.size) = some 8 := by kernel_rfl
theorem sr_info (x : Sr) : (Try.prog.info? 114).map (·.size) = some (srA x).size := size60
theorem info60' : ∃ i z b, Try.prog.info? 114 = some i ∧ i.zero = some z ∧ i.size = 8 ∧ i.bytes = b ∧ z.cells.size = 8 ∧ b ≤ 1000 := by
  obtain ⟨i, h1, h3, h4, h5⟩ := info_parts (show (Try.prog.info? 114).map (fun i => (i.zero, i.size, i.bytes)) = some (some (.agg #[.int .u16 0, .int .u8 0, .int .u8 0, .int .u8 0, .int .u8 0, .int .u8 0, .int .u8 0, .int .u32 0]), 8, 12) by kernel_rfl)
  exact ⟨i, _, _, h1, h3, h4, h5, rfl, by decide⟩
theorem srT : ElT Try.prog 96 114 8 srC := ⟨Try.underlying96, info60', by decide, sr_len, sr_one⟩

/-- Six bytes are the same just where each is. -/
theorem equal_six (d : Nat) (a1 a2 a3 a4 a5 a6 b1 b2 b3 b4 b5 b6 : Int) (w : World) :
    (Op.equalIn (d + 2) 110 (.agg #[.int .u8 a1, .int .u8 a2, .int .u8 a3, .int .u8 a4, .int .u8 a5, .int .u8 a6]) (.agg #[.int .u8 b1, .int .u8 b2, .int .u8 b3, .int .u8 b4, .int .u8 b5, .int .u8 b6])).run Try.prog w =
      .ok (decide (a1 = b1) && decide (a2 = b2) && decide (a3 = b3) && decide (a4 = b4) && decide (a5 = b5) && decide (a6 = b6)) w := by
  have ha := fun W => run_isAgg_plain (P := Try.prog) (t := 5) Try.underlying5 rfl W
  obtain ⟨i, hi, _⟩ := info_parts Try.info5'
  have hs := fun W => run_sizeOf (P := Try.prog) (w := W) hi
  rw [u5c] at hs
  have u5 := Try.underlying5
  rw [show d + 2 = (d + 1) + 1 from rfl, Op.equalIn]
  simp only [Sem.run_bind, run_underlying Try.underlying110, Result.andThen_ok]
  simp only [Std.Legacy.Range.forIn_eq_forIn_range', Std.Legacy.Range.size, Nat.sub_zero, Nat.add_sub_cancel, Nat.div_one, List.range'_succ, List.range'_zero, List.forIn_cons, List.forIn_nil]
  go_simp
  by_cases h1 : a1 = b1
  · by_cases h2 : a2 = b2
    · by_cases h3 : a3 = b3
      · by_cases h4 : a4 = b4
        · by_cases h5 : a5 = b5
          · by_cases h6 : a6 = b6 <;> simp [h1, h2, h3, h4, h5, h6]
          · simp [h1, h2, h3, h4, h5]
        · simp [h1, h2, h3, h4]
      · simp [h1, h2, h3]
    · simp [h1, h2]
  · simp [h1]
theorem equal_key (d : Nat) (a0 b0 a1 a2 a3 a4 a5 a6 b1 b2 b3 b4 b5 b6 : Int) (w : World) (hd : d = 9998 := by rfl) :
    (Op.equalIn 9999 112 (.agg #[.int .u16 a0, .int .u8 a1, .int .u8 a2, .int .u8 a3, .int .u8 a4, .int .u8 a5, .int .u8 a6]) (.agg #[.int .u16 b0, .int .u8 b1, .int .u8 b2, .int .u8 b3, .int .u8 b4, .int .u8 b5, .int .u8 b6])).run Try.prog w =
      .ok (decide (a0 = b0) && (decide (a1 = b1) && decide (a2 = b2) && decide (a3 = b3) && decide (a4 = b4) && decide (a5 = b5) && decide (a6 = b6))) w := by
  have hS : Try.prog.underlying 112 = some (.struct (Try.prog.fieldsOf 112)) := by kernel_rfl
  have hp : Try.prog.stoodInHeld 112 = false := by kernel_rfl
  rw [show (9999 : Nat) = 9998 + 1 from rfl, run_equalIn_agg w 9998 112 _ _ hS hp]
  simp only [Program.fieldsOf, Try.underlying112]
  have u44 := Try.underlying40
  have e6 := fun W => equal_six 9996 a1 a2 a3 a4 a5 a6 b1 b2 b3 b4 b5 b6 W
  generalize (decide (a1 = b1) && decide (a2 = b2) && decide (a3 = b3) && decide (a4 = b4) && decide (a5 = b5) && decide (a6 = b6)) = r at e6 ⊢
  cases r
  · go_simp
    first | done | (by_cases h0 : a0 = b0 <;> simp [h0])
  · go_simp
    first | done | (by_cases h0 : a0 = b0 <;> simp [h0])

set_option maxRecDepth 100000 in
set_option maxHeartbeats 4000000 in
theorem equal_sr (x y : Sr) (w : World) : (Op.equalIn 10000 114 (srV x) (srV y)).run Try.prog w = .ok (eqB x y) w := by
  have hS : Try.prog.underlying 114 = some (.struct (Try.prog.fieldsOf 114)) := by kernel_rfl
  have hp : Try.prog.stoodInHeld 114 = false := by kernel_rfl
  obtain ⟨a0, a1, a2, a3, a4, a5, a6, a7⟩ := x
  obtain ⟨b0, b1, b2, b3, b4, b5, b6, b7⟩ := y
  have n58 : ∀ W, (Op.equalIn 9999 112 (.agg #[.int .u16 a0, .int .u8 a1, .int .u8 a2, .int .u8 a3, .int .u8 a4, .int .u8 a5, .int .u8 a6]) (.agg #[.int .u16 b0, .int .u8 b1, .int .u8 b2, .int .u8 b3, .int .u8 b4, .int .u8 b5, .int .u8 b6])).run Try.prog W = .ok (decide (a0 = b0) && (decide (a1 = b1) && decide (a2 = b2) && decide (a3 = b3) && decide (a4 = b4) && decide (a5 = b5) && decide (a6 = b6))) W := fun W => equal_key 9998 a0 b0 a1 a2 a3 a4 a5 a6 b1 b2 b3 b4 b5 b6 W
  unfold srV srA
  rw [show (10000 : Nat) = 9999 + 1 from rfl, run_equalIn_agg w 9999 114 _ _ hS hp]
  simp only [Program.fieldsOf, Try.underlying114]
  have u5 := Try.underlying5
  have u27 := Try.underlying30
  have u44 := Try.underlying40
  have u52 := Try.underlying105
  go_simp
  by_cases h0 : a0 = b0
  · subst h0
    by_cases h1 : a1 = b1
    · subst h1
      by_cases h2 : a2 = b2
      · subst h2
        by_cases h3 : a3 = b3
        · subst h3
          by_cases h4 : a4 = b4
          · subst h4
            by_cases h5 : a5 = b5
            · subst h5
              by_cases h6 : a6 = b6
              · subst h6
                by_cases h7 : a7 = b7
                · subst h7
                  rw [eqB_self]
                  simp
                · rw [eqB_ne (by simp [h7])]
                  simp [h7]
              · rw [eqB_ne (by simp [h6])]
                simp [h6]
            · rw [eqB_ne (by simp [h5])]
              simp [h5]
          · rw [eqB_ne (by simp [h4])]
            simp [h4]
        · rw [eqB_ne (by simp [h3])]
          simp [h3]
      · rw [eqB_ne (by simp [h2])]
        simp [h2]
    · rw [eqB_ne (by simp [h1])]
      simp [h1]
  · rw [eqB_ne (by simp [h0])]
    simp [h0]

structure Fr where
  p0 : Int
  p1 : Int
  p2 : Int
  p3 : Int
  p4 : Int
  p5 : Int
  p6 : Int
  p7 : Int
  p8 : Int
def frA (x : Fr) : Array Value := #[.int .u16 x.p0, .int .u8 x.p1, .int .u8 x.p2, .int .u8 x.p3, .int .u8 x.p4, .int .u8 x.p5, .int .u8 x.p6, .int .i64 x.p7, .int .i64 x.p8]
abbrev frV (x : Fr) : Value := .agg (frA x)
def frC (x : Fr) : List Value := (frA x).toList
theorem fr_size (x : Fr) : (frA x).size = 9 := rfl
theorem fr_len (x : Fr) : (frC x).length = 9 := rfl
theorem fr_all (x : Fr) : (frA x).all (·.oneCell') = true := by simp [frA, Value.oneCell']
theorem fr_one (x : Fr) : ∀ u ∈ frC x, u.oneCell' = true := by
  have := fr_all x
  rw [Array.all_eq_true'] at this
  intro u hu
  exact this u (by simpa [frC] using hu)
theorem size64 : (Try.prog.info? 133).map (·.size) = some 9 := by kernel_rfl
theorem fr_info (x : Fr) : (Try.prog.info? 133).map (·.size) = some (frA x).size := size64
theorem info64' : ∃ i z b, Try.prog.info? 133 = some i ∧ i.zero = some z ∧ i.size = 9 ∧ i.bytes = b ∧ z.cells.size = 9 ∧ b ≤ 1000 := by
  obtain ⟨i, h1, h3, h4, h5⟩ := info_parts (show (Try.prog.info? 133).map (fun i => (i.zero, i.size, i.bytes)) = some (some (.agg #[.int .u16 0, .int .u8 0, .int .u8 0, .int .u8 0, .int .u8 0, .int .u8 0, .int .u8 0, .int .i64 0, .int .i64 0]), 9, 24) by kernel_rfl)
  exact ⟨i, _, _, h1, h3, h4, h5, rfl, by decide⟩
theorem frT : ElT Try.prog 97 133 9 frC := ⟨Try.underlying97, info64', by decide, fr_len, fr_one⟩
set_option maxRecDepth 100000 in
set_option maxHeartbeats 4000000 in
theorem equal_fr (x y : Fr) (w : World) : (Op.equalIn 10000 133 (frV x) (frV y)).run Try.prog w = .ok (eqB x y) w := by
  have hS : Try.prog.underlying 133 = some (.struct (Try.prog.fieldsOf 133)) := by kernel_rfl
  have hp : Try.prog.stoodInHeld 133 = false := by kernel_rfl
  obtain ⟨a0, a1, a2, a3, a4, a5, a6, a7, a8⟩ := x
  obtain ⟨b0, b1, b2, b3, b4, b5, b6, b7, b8⟩ := y
  have n58 : ∀ W, (Op.equalIn 9999 112 (.agg #[.int .u16 a0, .int .u8 a1, .int .u8 a2, .int .u8 a3, .int .u8 a4, .int .u8 a5, .int .u8 a6]) (.agg #[.int .u16 b0, .int .u8 b1, .int .u8 b2, .int .u8 b3, .int .u8 b4, .int .u8 b5, .int .u8 b6])).run Try.prog W = .ok (decide (a0 = b0) && (decide (a1 = b1) && decide (a2 = b2) && decide (a3 = b3) && decide (a4 = b4) && decide (a5 = b5) && decide (a6 = b6))) W := fun W => equal_key 9998 a0 b0 a1 a2 a3 a4 a5 a6 b1 b2 b3 b4 b5 b6 W
  unfold frV frA
  rw [show (10000 : Nat) = 9999 + 1 from rfl, run_equalIn_agg w 9999 133 _ _ hS hp]
  simp only [Program.fieldsOf, Try.underlying133]
  have u3 := Try.underlying3
  have u5 := Try.underlying5
  have u44 := Try.underlying40
  go_simp
  by_cases h0 : a0 = b0
  · subst h0
    by_cases h1 : a1 = b1
    · subst h1
      by_cases h2 : a2 = b2
      · subst h2
        by_cases h3 : a3 = b3
        · subst h3
          by_cases h4 : a4 = b4
          · subst h4
            by_cases h5 : a5 = b5
            · subst h5
              by_cases h6 : a6 = b6
              · subst h6
                by_cases h7 : a7 = b7
                · subst h7
                  by_cases h8 : a8 = b8
                  · subst h8
                    rw [eqB_self]
                    simp
                  · rw [eqB_ne (by simp [h8])]
                    simp [h8]
                · rw [eqB_ne (by simp [h7])]
                  simp [h7]
              · rw [eqB_ne (by simp [h6])]
                simp [h6]
            · rw [eqB_ne (by simp [h5])]
              simp [h5]
          · rw [eqB_ne (by simp [h4])]
            simp [h4]
        · rw [eqB_ne (by simp [h3])]
          simp [h3]
      · rw [eqB_ne (by simp [h2])]
        simp [h2]
    · rw [eqB_ne (by simp [h1])]
      simp [h1]
  · rw [eqB_ne (by simp [h0])]
    simp [h0]

structure Cf where
  p0 : Int
  p1 : Int
  p2 : Int
  p3 : Int
  p4 : Int
  p5 : Int
def cfA (x : Cf) : Array Value := #[.int .u64 x.p0, .int .i64 x.p1, .int .i64 x.p2, .int .i64 x.p3, .int .i64 x.p4, .int .i64 x.p5]
abbrev cfV (x : Cf) : Value := .agg (cfA x)
def cfC (x : Cf) : List Value := (cfA x).toList
theorem cf_size (x : Cf) : (cfA x).size = 6 := rfl
theorem cf_len (x : Cf) : (cfC x).length = 6 := rfl
theorem cf_all (x : Cf) : (cfA x).all (·.oneCell') = true := by simp [cfA, Value.oneCell']
theorem cf_one (x : Cf) : ∀ u ∈ cfC x, u.oneCell' = true := by
  have := cf_all x
  rw [Array.all_eq_true'] at this
  intro u hu
  exact this u (by simpa [cfC] using hu)
theorem size34 : (Try.prog.info? 58).map (·.size) = some 6 := by kernel_rfl
theorem cf_info (x : Cf) : (Try.prog.info? 58).map (·.size) = some (cfA x).size := size34
set_option maxRecDepth 100000 in
set_option maxHeartbeats 4000000 in
theorem equal_cf (x y : Cf) (w : World) : (Op.equalIn 10000 58 (cfV x) (cfV y)).run Try.prog w = .ok (eqB x y) w := by
  have hS : Try.prog.underlying 58 = some (.struct (Try.prog.fieldsOf 58)) := by kernel_rfl
  have hp : Try.prog.stoodInHeld 58 = false := by kernel_rfl
  obtain ⟨a0, a1, a2, a3, a4, a5⟩ := x
  obtain ⟨b0, b1, b2, b3, b4, b5⟩ := y
  unfold cfV cfA
  rw [show (10000 : Nat) = 9999 + 1 from rfl, run_equalIn_agg w 9999 58 _ _ hS hp]
  simp only [Program.fieldsOf, Try.underlying58]
  have u3 := Try.underlying3
  have u22 := Try.underlying22
  have u32 := Try.underlying29
  go_simp
  by_cases h0 : a0 = b0
  · subst h0
    by_cases h1 : a1 = b1
    · subst h1
      by_cases h2 : a2 = b2
      · subst h2
        by_cases h3 : a3 = b3
        · subst h3
          by_cases h4 : a4 = b4
          · subst h4
            by_cases h5 : a5 = b5
            · subst h5
              rw [eqB_self]
              simp
            · rw [eqB_ne (by simp [h5])]
              simp [h5]
          · rw [eqB_ne (by simp [h4])]
            simp [h4]
        · rw [eqB_ne (by simp [h3])]
          simp [h3]
      · rw [eqB_ne (by simp [h2])]
        simp [h2]
    · rw [eqB_ne (by simp [h1])]
      simp [h1]
  · rw [eqB_ne (by simp [h0])]
    simp [h0]

/-- A port as plain data. -/
structure Pp where
  p0 : Int
  p1 : Int
  p2 : Int
  p3 : Int
  p4 : Int
  p5 : Int
  p6 : Int
  p7 : Int
  p8 : Int
  p9 : Int
  p10 : Bool
  p11 : Bool
  p12 : Bool
  p13 : Bool
  p14 : Bool
  p15 : Bool
  p16 : Int
  p17 : Int
  p18 : Int
  p19 : Int
  p20 : Int
def ppA (x : Pp) : Array Value := #[.int .i64 x.p0, .int .i64 x.p1, .int .i64 x.p2, .int .i64 x.p3, .int .i64 x.p4, .int .i64 x.p5, .int .i64 x.p6, .int .i64 x.p7, .int .i64 x.p8, .int .i64 x.p9, .bool x.p10, .bool x.p11, .bool x.p12, .bool x.p13, .bool x.p14, .bool x.p15, .int .u32 x.p16, .int .u64 x.p17, .int .u32 x.p18, .int .u64 x.p19, .int .u16 x.p20]
abbrev ppV (x : Pp) : Value := .agg (ppA x)
def ppC (x : Pp) : List Value := (ppA x).toList
theorem pp_size (x : Pp) : (ppA x).size = 21 := rfl
theorem pp_len (x : Pp) : (ppC x).length = 21 := rfl
end Go.Proofs.Ytojijeaofkndpaa
