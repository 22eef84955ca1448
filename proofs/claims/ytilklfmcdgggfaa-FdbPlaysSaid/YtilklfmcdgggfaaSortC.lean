/- sort.Slice: the shelf's contract laid. sort.pdqsort_func, where the one that compares may make memory. sort.Slice over structs, where the one that compares may make memory: the list in order. -/
import Derived.Shelf.SlSortFuncK.WholeK
import Derived.Ground.GgsProg
import Derived.Test.YtilklfmcdgggfaaProg
import Derived.Test.YtilklfmcdgggfaaSIns
import Derived.Test.YtilklfmcdgggfaaSPiv
import Derived.Test.YtilklfmcdgggfaaSPart
import Derived.Test.YtilklfmcdgggfaaSPEq
import Derived.Test.YtilklfmcdgggfaaSPart2
import Derived.Test.YtilklfmcdgggfaaSHeap
import Derived.Shelf.SlSortFuncK.BreakPatternsK
import Derived.Sort.Walk13
import Derived.Sort.AssemblyPlain
import Derived.Deep.LoopGhost
import Derived.Shelf.GgSortFunc.Tiny
import Derived.Shelf.GgSortFunc.Slice
import Derived.Shelf.GgSortFunc.SmallK
section
namespace Go.Proofs.Ytilklfmcdgggfaa
open Go.Shelf
def sortSl_ren : Go.Shelf.Ren := ⟨fun | 6 => 47 | 10 => 57 | 11 => 58 | 12 => 59 | 13 => 60 | 14 => 61 | 24 => 75 | 25 => 76 | 26 => 77 | 27 => 78 | 28 => 79 | 29 => 80 | 30 => 81 | 31 => 82 | 32 => 83 | 33 => 84 | 34 => 85 | 35 => 86 | 36 => 87 | 37 => 88 | 38 => 89 | 39 => 90 | n => n, fun | 20 => 20 | 26 => 102 | 35 => 117 | 0 => 0 | 37 => 119 | 3 => 3 | 41 => 122 | 44 => 125 | 49 => 71 | 51 => 62 | 4 => 4 | 54 => 135 | 53 => 134 | 58 => 50 | 5 => 5 | 9 => 9 | 60 => 140 | 64 => 143 | 66 => 145 | 67 => 146 | 17 => 17 | 32 => 114 | 33 => 115 | 82 => 161 | 12 => 12 | 75 => 154 | 76 => 155 | 77 => 156 | 78 => 157 | 79 => 158 | 80 => 159 | n => n, fun | n => n⟩
theorem sortSl : Go.Proofs.LaysGg.n6 Try.prog sortSl_ren := {
  mixed := by kernel_rfl
  f6 := Try.func47.trans (congrArg some (by kernel_rfl))
  f10 := Try.func57.trans (congrArg some (by kernel_rfl))
  f11 := Try.func58.trans (congrArg some (by kernel_rfl))
  f12 := Try.func59.trans (congrArg some (by kernel_rfl))
  f13 := Try.func60.trans (congrArg some (by kernel_rfl))
  f14 := Try.func61.trans (congrArg some (by kernel_rfl))
  f24 := Try.func75.trans (congrArg some (by kernel_rfl))
  f25 := Try.func76.trans (congrArg some (by kernel_rfl))
  f26 := Try.func77.trans (congrArg some (by kernel_rfl))
  f27 := Try.func78.trans (congrArg some (by kernel_rfl))
  f28 := Try.func79.trans (congrArg some (by kernel_rfl))
  f29 := Try.func80.trans (congrArg some (by kernel_rfl))
  f30 := Try.func81.trans (congrArg some (by kernel_rfl))
  f31 := Try.func82.trans (congrArg some (by kernel_rfl))
  f32 := Try.func83.trans (congrArg some (by kernel_rfl))
  f33 := Try.func84.trans (congrArg some (by kernel_rfl))
  f34 := Try.func85.trans (congrArg some (by kernel_rfl))
  f35 := Try.func86.trans (congrArg some (by kernel_rfl))
  f36 := Try.func87.trans (congrArg some (by kernel_rfl))
  f37 := Try.func88.trans (congrArg some (by kernel_rfl))
  f38 := Try.func89.trans (congrArg some (by kernel_rfl))
  f39 := Try.func90.trans (congrArg some (by kernel_rfl))
  t0 := Try.underlying0
  a0 := Try.isAgg0
  z0 := Try.sizeOf0
  v0 := Try.zeroValue0
  i0 := by kernel_rfl
  t3 := Try.underlying3
  a3 := Try.isAgg3
  z3 := Try.sizeOf3
  v3 := Try.zeroValue3
  i3 := by kernel_rfl
  t4 := Try.underlying4
  a4 := Try.isAgg4
  z4 := Try.sizeOf4
  v4 := Try.zeroValue4
  i4 := by kernel_rfl
  t5 := Try.underlying5
  a5 := Try.isAgg5
  z5 := Try.sizeOf5
  v5 := Try.zeroValue5
  i5 := by kernel_rfl
  t9 := Try.underlying9
  a9 := Try.isAgg9
  z9 := Try.sizeOf9
  v9 := Try.zeroValue9
  i9 := by kernel_rfl
  t12 := Try.underlying12
  a12 := Try.isAgg12
  z12 := Try.sizeOf12
  v12 := Try.zeroValue12
  i12 := by kernel_rfl
  t17 := Try.underlying17
  a17 := Try.isAgg17
  z17 := Try.sizeOf17
  v17 := Try.zeroValue17
  i17 := by kernel_rfl
  t20 := Try.underlying20
  a20 := Try.isAgg20
  z20 := Try.sizeOf20
  v20 := Try.zeroValue20
  i20 := by kernel_rfl
  t26 := Try.underlying102
  a26 := Try.isAgg102
  z26 := Try.sizeOf102
  v26 := Try.zeroValue102
  i26 := by kernel_rfl
  t32 := Try.underlying114
  a32 := Try.isAgg114
  z32 := Try.sizeOf114
  v32 := Try.zeroValue114
  i32 := by kernel_rfl
  t33 := Try.underlying115
  a33 := Try.isAgg115
  z33 := Try.sizeOf115
  v33 := Try.zeroValue115
  i33 := by kernel_rfl
  t35 := Try.underlying117
  a35 := Try.isAgg117
  z35 := Try.sizeOf117
  v35 := Try.zeroValue117
  i35 := by kernel_rfl
  t37 := Try.underlying119
  a37 := Try.isAgg119
  z37 := Try.sizeOf119
  v37 := Try.zeroValue119
  i37 := by kernel_rfl
  t41 := Try.underlying122
  a41 := Try.isAgg122
  z41 := Try.sizeOf122
  v41 := Try.zeroValue122
  i41 := by kernel_rfl
  t44 := Try.underlying125
  a44 := Try.isAgg125
  z44 := Try.sizeOf125
  v44 := Try.zeroValue125
  i44 := by kernel_rfl
  t49 := Try.underlying71
  a49 := Try.isAgg71
  z49 := Try.sizeOf71
  v49 := Try.zeroValue71
  i49 := by kernel_rfl
  t51 := Try.underlying62
  a51 := Try.isAgg62
  z51 := Try.sizeOf62
  v51 := Try.zeroValue62
  i51 := by kernel_rfl
  t53 := Try.underlying134
  a53 := Try.isAgg134
  z53 := Try.sizeOf134
  v53 := Try.zeroValue134
  i53 := by kernel_rfl
  t54 := Try.underlying135
  a54 := Try.isAgg135
  z54 := Try.sizeOf135
  v54 := Try.zeroValue135
  i54 := by kernel_rfl
  t58 := Try.underlying50
  a58 := Try.isAgg50
  z58 := Try.sizeOf50
  v58 := Try.zeroValue50
  i58 := by kernel_rfl
  t60 := Try.underlying140
  a60 := Try.isAgg140
  z60 := Try.sizeOf140
  v60 := Try.zeroValue140
  i60 := by kernel_rfl
  t64 := Try.underlying143
  a64 := Try.isAgg143
  z64 := Try.sizeOf143
  v64 := Try.zeroValue143
  i64 := by kernel_rfl
  t66 := Try.underlying145
  a66 := Try.isAgg145
  z66 := Try.sizeOf145
  v66 := Try.zeroValue145
  i66 := by kernel_rfl
  t67 := Try.underlying146
  a67 := Try.isAgg146
  z67 := Try.sizeOf146
  v67 := Try.zeroValue146
  i67 := by kernel_rfl
  t75 := Try.underlying154
  a75 := Try.isAgg154
  z75 := Try.sizeOf154
  v75 := Try.zeroValue154
  i75 := by kernel_rfl
  t76 := Try.underlying155
  a76 := Try.isAgg155
  z76 := Try.sizeOf155
  v76 := Try.zeroValue155
  i76 := by kernel_rfl
  t77 := Try.underlying156
  a77 := Try.isAgg156
  z77 := Try.sizeOf156
  v77 := Try.zeroValue156
  i77 := by kernel_rfl
  t78 := Try.underlying157
  a78 := Try.isAgg157
  z78 := Try.sizeOf157
  v78 := Try.zeroValue157
  i78 := by kernel_rfl
  t79 := Try.underlying158
  a79 := Try.isAgg158
  z79 := Try.sizeOf158
  v79 := Try.zeroValue158
  i79 := by kernel_rfl
  t80 := Try.underlying159
  a80 := Try.isAgg159
  z80 := Try.sizeOf159
  v80 := Try.zeroValue159
  i80 := by kernel_rfl
  t82 := Try.underlying161
  a82 := Try.isAgg161
  z82 := Try.sizeOf161
  v82 := Try.zeroValue161
  i82 := by kernel_rfl }
end Go.Proofs.Ytilklfmcdgggfaa
end
section
namespace Go.Proofs.Ytilklfmcdgggfaa
open Go.Shelf Go.RowKit Go.Lib Go.Sort
set_option linter.unusedVariables false
set_option linter.unusedSimpArgs false

variable {α : Type} [Inhabited α] {enc : α → List Value} {k n : Nat} {w0 : World} {blk g sf : Nat} {lb sb : Array Value} {lt : α → α → Bool}

theorem KB.sortWorld {W : World} {m off : Nat} {d : Array α} {os : Array Obj} (hb : blk < w0.heap.size) : KB w0 W (sortWorldK enc k W blk off m d os) := by
  refine ⟨?_, fun i h1 h2 => ?_⟩
  · simp [sortWorldK, grow, putRowK, putRow, mapBlock, ahead]
  · have hg : blk ≠ i := by omega
    simp only [sortWorldK, grow, putRowK, putRow, mapBlock, ahead]
    rw [Array.getElem?_append_left (by simpa using h2), Array.getElem?_modify, if_neg hg]
    rfl

/-- A row that is rewritten. -/
theorem Rw.sortWorld {W : World} {d d' : Array α} {m : Nat} {os : Array Obj} (h : Rw enc k n w0 blk d W) (hs : d'.size = d.size) : Rw enc k n w0 blk d' (sortWorldK enc k W blk 0 m d' os) := by
  refine ⟨holdsK_sortWorldK enc k W blk 0 m d d' os h.lt h.hold hs, hs.trans h.size, ⟨?_, ?_, ?_, ?_, fun i hi hne => ?_⟩, h.old⟩
  · exact h.grown.os
  · exact h.grown.tape
  · exact h.grown.output
  · have := h.grown.size
    simp [sortWorldK, grow, putRowK, putRow, mapBlock, ahead]
    omega
  · have hg : blk ≠ i := fun e => hne (by rw [e])
    have h2 := Nat.lt_of_lt_of_le hi h.grown.size
    rw [← h.grown.block i hi hne]
    simp only [sortWorldK, grow, putRowK, putRow, mapBlock, ahead]
    rw [Array.getElem?_append_left (by simpa using h2), Array.getElem?_modify, if_neg hg]
    rfl

theorem brk_any (S : SortBy g lb sf sb enc k n lt blk w0) {W : World} {d : Array α} (hW : Rw enc k n w0 blk d W) (a b : Nat) (hab : a ≤ b) (hb : b ≤ n) :
    Calls Try.prog 79 #[.agg (twoA g lb sf sb), .int .i64 a, .int .i64 b] W fun e w' => e = .returned (.tuple #[]) ∧ Rw enc k n w0 blk (breakPatterns d a b) w' ∧ KB w0 W w' := by
  have hz := hW.size
  have hf := S.few
  have hc := Any.breakPatterns_func_cells_w (P := Try.prog) (ρ := sortSl_ren) { sortSl with } enc k S.len (.func g) #[] lb sf sb blk 0 a b d W (by rw [hz]; exact S.older) hW.hold hW.lt hab (by omega) (by omega)
  change Calls Try.prog 79 _ _ _ at hc
  refine hc.mono ?_
  rintro e w' ⟨rfl, m, os, rfl⟩
  have hs : (breakPatterns d a b).size = d.size := (breakPatterns_holds d a b hab (by omega)).1
  exact ⟨rfl, hW.sortWorld hs, KB.sortWorld S.old⟩

theorem rev_any (S : SortBy g lb sf sb enc k n lt blk w0) {W : World} {d : Array α} (hW : Rw enc k n w0 blk d W) (a b : Nat) (hab : a ≤ b) (hb : b ≤ n) :
    Calls Try.prog 81 #[.agg (twoA g lb sf sb), .int .i64 a, .int .i64 b] W fun e w' => e = .returned (.tuple #[]) ∧ Rw enc k n w0 blk (reverseRange d a b) w' ∧ KB w0 W w' := by
  have hz := hW.size
  have hf := S.few
  have hc := Any.reverseRange_func_cells_w (P := Try.prog) (ρ := sortSl_ren) { sortSl with } enc k S.len (.func g) #[] lb sf sb blk 0 a b d W (by rw [hz]; exact S.older) hW.hold hW.lt hab (by omega) (by omega)
  change Calls Try.prog 81 _ _ _ at hc
  refine hc.mono ?_
  rintro e w' ⟨rfl, m, os, rfl⟩
  have hs : (reverseRange d a b).size = d.size := (reverseRange_holds d a b hab (by omega)).1
  exact ⟨rfl, hW.sortWorld hs, KB.sortWorld S.old⟩

set_option maxHeartbeats 16000000 in
set_option maxRecDepth 1000000 in
theorem pdq_any (S : SortBy g lb sf sb enc k n lt blk w0) (hO : SWO lt) : ∀ (N a b limit : Nat) (W : World) (d : Array α), b - a < N → Rw enc k n w0 blk d W → a ≤ b → b ≤ n → limit < 1152921504606846976 → Sort.Below lt a b d →
    Calls Try.prog 61 #[.agg (twoA g lb sf sb), .int .i64 a, .int .i64 b, .int .i64 limit] W fun e w' => e = .returned (.tuple #[]) ∧ Rw enc k n w0 blk (pdq lt d a b limit true true) w' ∧ KB w0 W w' := by
  intro N
  induction N with
  | zero => intro _ _ _ _ _ h; exact absurd h (Nat.not_lt_zero _)
  | succ N ih =>
    intro a b limit W d hN hW hab hb hlimit hBel0
    have eg := S.eg
    have hfew := S.few
    obtain ⟨W1, hW1⟩ : ∃ W1, W1 = W.alloc (.cells (twoA g lb sf sb) 125) := ⟨_, rfl⟩
    obtain ⟨B, hB⟩ : ∃ B, B = W.heap.size := ⟨_, rfl⟩
    have R1 := Lib.hid (show Rw enc k n w0 blk d W1 by rw [hW1]; exact hW.alloc _)
    have X1 := Lib.hid (show Bx w0 W1 B (twoA g lb sf sb) 125 by rw [hW1, hB]; exact Bx.new hW.le _ _)
    have K1 := Lib.hid (show KB w0 W W1 by rw [hW1]; exact (KB.refl _ _).alloc _)
    have HW1 := Lib.hid hW1
    have HB := Lib.hid hB
    clear hW1 hB hW
    obtain ⟨res, hres⟩ : ∃ r, r = pdq lt d a b limit true true := ⟨_, rfl⟩
    rw [← hres]
    have HRES := Lib.hid hres.symm
    clear hres
    go_enter Try.func61, Try.ntmps61
    go_upto_region 1 with fail
    rw [← HW1.out, ← HB.out]
    go_upto_block 0 with fail
    go_wp2_with fail
    go_loopg [1, 2, 3, 8, 9] (b - a) (fun kx s1 s2 s3 s8 s9 wr => ∃ (a' b' lim : Nat) (wb wp : Bool) (dk : Array α), s1 = .int .i64 a' ∧ s2 = .int .i64 b' ∧ s3 = .int .i64 lim ∧ s8 = .bool wb ∧ s9 = .bool wp ∧
      (a' ≤ b' ∧ b' ≤ n ∧ b' - a' ≤ kx ∧ kx ≤ b - a ∧ lim ≤ limit) ∧ Rw enc k n w0 blk dk wr ∧ KB w0 W1 wr ∧ Sort.Below lt a' b' dk ∧ pdq lt dk a' b' lim wb wp = res)
    case atStart => exact ⟨a, b, limit, true, true, d, rfl, rfl, rfl, rfl, rfl, by omega, R1.out, KB.refl _ _, hBel0, HRES.out⟩
    case round =>
      obtain ⟨a', b', lim, wb, wp, dk, rfl, rfl, rfl, rfl, rfl, hbd, hR, hK, hBel, heq⟩ := hrel
      have HR := Lib.hid hR
      have HK := Lib.hid hK
      have HE := Lib.hid heq
      have HBel := Lib.hid hBel
      have hds := hR.size
      clear heq
      have c0 := (X1.out.kb hK).cell 0
      have c1 := (X1.out.kb hK).cell 1
      simp only [List.getElem?_toArray, List.getElem?_cons_zero, List.getElem?_cons_succ] at c0 c1
      by_cases h12 : b' - a' ≤ 12
      · have h12z : (b' : Int) - (a' : Int) ≤ 12 := by omega
        have hc := ins_any S hR a' b' (by omega) (by omega)
        clear hR hK hBel hBel0
        go_wp2_with (go_at_call 77; refine hc.mono ?_; rintro e w1 ⟨rfl, hR2, hK2⟩)
        (try simp only [Exit.inBlock, Exit.then]); refine bodyPost_ret (results_none rfl _ _ _) rfl ?_
        rw [← HE.out, pdq_small h12]
        exact ⟨rfl, hR2, (K1.out.trans HK.out).trans hK2⟩
      · have h12z : ¬ ((b' : Int) - (a' : Int) ≤ 12) := by omega
        by_cases hl0 : lim = 0
        · have hl0z : ((lim : Int) == 0) = true := by simp [hl0]
          have hc := heap_any S hR a' b' (by omega) (by omega)
          have HQ := Lib.hid (pdq_heap (lt := lt) (d := dk) (wb := wb) (wp := wp) h12 hl0)
          clear hR hK hBel hBel0 hl0
          go_wp2_with (go_at_call 78; refine hc.mono ?_; rintro e w1 ⟨rfl, hR2, hK2⟩)
          (try simp only [Exit.inBlock, Exit.then]); refine bodyPost_ret (results_none rfl _ _ _) rfl ?_
          rw [← HE.out, HQ.out]
          exact ⟨rfl, hR2, (K1.out.trans HK.out).trans hK2⟩
        · have hl0z : ((lim : Int) == 0) = false := by simp; omega
          obtain ⟨s1, B1, hc1, s2, B2, hpv, s3, B3⟩ := rd_facts (lt := lt) (limit := lim) (wb := wb) (wp := wp) hO partialInsertionSort_holds reverseRange_holds (show a' < b' by omega) (show b' ≤ dk.size by omega) hBel
          have HB3 := Lib.hid B3
          clear hBel hBel0 B1 B2 B3 hR hK
          go_upto_if 35 with fail
          go_cut [3] (fun s3 wx => s3 = .int .i64 (((rd lt dk a' b' lim wb wp).lim : Nat) : Int) ∧ Rw enc k n w0 blk (rd lt dk a' b' lim wb wp).d1 wx ∧ KB w0 W1 wx)
          case first =>
            cases wb
            · have hc := brk_any S HR.out a' b' (by omega) (by omega)
              go_wp2_with (go_at_call 79; refine hc.mono ?_; rintro e w1 ⟨rfl, hR2, hK2⟩)
              go_meet
              refine ⟨?_, hR2, HK.out.trans hK2⟩
              show Value.int .i64 ((lim : Int) - 1) = Value.int .i64 ((lim - 1 : Nat) : Int)
              congr 1
              omega
            · go_wp2_with fail
              go_meet
              exact ⟨rfl, HR.out, HK.out⟩
          case rest =>
            obtain ⟨rfl, hR, hK⟩ := hcut
            clear HR HK c0 c1
            have HR := Lib.hid hR
            have HK := Lib.hid hK
            have c0 := (X1.out.kb hK).cell 0
            have c1 := (X1.out.kb hK).cell 1
            simp only [List.getElem?_toArray, List.getElem?_cons_zero, List.getElem?_cons_succ] at c0 c1
            have hc17 := pivot_any S hR a' b' (by omega) (by omega)
            rw [show choosePivot lt (rd lt dk a' b' lim wb wp).d1 a' b' = (rd lt dk a' b' lim wb wp).c from rfl] at hc17
            clear hR hK
            go_upto_if 50 with (go_at_call 80; refine hc17.mono ?_; rintro e w2 ⟨rfl, hR, hK⟩)
            have HR2 := Lib.hid hR
            have HK2 := Lib.hid (HK.out.trans hK)
            clear HR HK c0 c1 hc17 hK
            have c0 := (X1.out.kb HK2.out).cell 0
            have c1 := (X1.out.kb HK2.out).cell 1
            simp only [List.getElem?_toArray, List.getElem?_cons_zero, List.getElem?_cons_succ] at c0 c1
            go_cut [11, 12] (fun s11 s12 wx => s11 = .int .i64 (((rd lt dk a' b' lim wb wp).pivot : Nat) : Int) ∧ s12 = .int .i64 (hintCode (rd lt dk a' b' lim wb wp).hint) ∧ Rw enc k n w0 blk (rd lt dk a' b' lim wb wp).d2 wx ∧ KB w0 W1 wx)
            case first =>
              by_cases hh : (rd lt dk a' b' lim wb wp).c.2 = .decreasing
              · have hcode : hintCode (rd lt dk a' b' lim wb wp).c.2 = 2 := by rw [hh]; rfl
                have HD := Lib.hid (rd_dec hh)
                have hc18 := rev_any S hR a' b' (by omega) (by omega)
                clear hR
                go_wp2_with (go_at_call 81; refine hc18.mono ?_; rintro e w3 ⟨rfl, hR3, hK3⟩)
                go_meet
                refine ⟨?_, by rw [HD.out.2.2]; rfl, by rw [HD.out.1]; exact hR3, HK2.out.trans hK3⟩
                rw [HD.out.2.1]
                congr 1
                omega
              · have hcode : ¬ (hintCode (rd lt dk a' b' lim wb wp).c.2 = 2) := fun h => hh (hintCode_two h)
                have HD := Lib.hid (rd_not hh)
                clear hR
                go_wp2_with fail
                go_meet
                exact ⟨by rw [HD.out.2.1], by rw [HD.out.2.2], by rw [HD.out.1]; exact HR2.out, HK2.out⟩
            case rest =>
              obtain ⟨rfl, rfl, hR3, hK3⟩ := hcut
              clear HR2 HK2 c0 c1 hR
              have HR := Lib.hid hR3
              have HK := Lib.hid hK3
              have c0 := (X1.out.kb hK3).cell 0
              have c1 := (X1.out.kb hK3).cell 1
              simp only [List.getElem?_toArray, List.getElem?_cons_zero, List.getElem?_cons_succ] at c0 c1
              clear hR3 hK3
              go_upto_region 16 with fail
              go_cut [12, 68] (fun s12 s68 wx => s12 = .int .i64 (hintCode (rd lt dk a' b' lim wb wp).hint) ∧ s68 = .bool (wb && wp && decide ((rd lt dk a' b' lim wb wp).hint = .increasing)) ∧ Rw enc k n w0 blk (rd lt dk a' b' lim wb wp).d2 wx ∧ KB w0 W1 wx)
              case first =>
                cases wb <;> cases wp <;> cases hh3 : (rd lt dk a' b' lim _ _).hint <;>
                  (have hcode3 := congrArg hintCode hh3
                   simp only [hintCode] at hcode3
                   go_wp2_with fail
                   go_meet
                   exact ⟨by simp [hh3, hintCode], by simp [hh3, hintCode], HR.out, HK.out⟩)
              case rest =>
                obtain ⟨rfl, rfl, hR3, hK3⟩ := hcut
                clear HR HK c0 c1
                have HR := Lib.hid hR3
                have HK := Lib.hid hK3
                have c0 := (X1.out.kb hK3).cell 0
                have c1 := (X1.out.kb hK3).cell 1
                simp only [List.getElem?_toArray, List.getElem?_cons_zero, List.getElem?_cons_succ] at c0 c1
                clear hK3
                go_upto_if 68 with fail
                go_cut [] (fun wx => (rd lt dk a' b' lim wb wp).pi.2 = false ∧ Rw enc k n w0 blk (rd lt dk a' b' lim wb wp).pi.1 wx ∧ KB w0 W1 wx)
                case first =>
                  cases h68 : (wb && wp && decide ((rd lt dk a' b' lim wb wp).hint = .increasing))
                  · have EPI := Lib.hid (rd_pi_no h68)
                    clear hR3
                    go_wp2_with fail
                    go_meet
                    exact ⟨by rw [EPI.out], by rw [EPI.out]; exact HR.out, HK.out⟩
                  · have EPI := Lib.hid (rd_pi_yes h68)
                    have hc19 := partial_any S hR3 a' b' (by omega) (by omega)
                    rw [← EPI.out] at hc19
                    clear hR3
                    cases hp2 : (rd lt dk a' b' lim wb wp).pi.2 with
                    | false =>
                      rw [hp2] at hc19
                      go_wp2_with (go_at_call 82; refine hc19.mono ?_; rintro e w4 ⟨rfl, hR4, hK4⟩)
                      go_meet
                      exact ⟨hp2, hR4, HK.out.trans hK4⟩
                    | true =>
                      rw [hp2] at hc19
                      go_wp2_with (go_at_call 82; refine hc19.mono ?_; rintro e w4 ⟨rfl, hR4, hK4⟩)
                      (try simp only [Exit.inBlock, Exit.then]); refine bodyPost_ret (results_none rfl _ _ _) rfl ?_
                      rw [← HE.out, pdq_done h12 hl0 hp2]
                      exact ⟨rfl, hR4, (K1.out.trans HK.out).trans hK4⟩
                case rest =>
                  obtain ⟨hp2, hR5, hK5⟩ := hcut
                  have HP2 := Lib.hid hp2
                  clear HR HK c0 c1 hR3
                  have HR := Lib.hid hR5
                  have HK := Lib.hid hK5
                  have c0 := (X1.out.kb hK5).cell 0
                  have c1 := (X1.out.kb hK5).cell 1
                  simp only [List.getElem?_toArray, List.getElem?_cons_zero, List.getElem?_cons_succ] at c0 c1
                  clear hK5 hp2
                  obtain ⟨d5, hd5⟩ : ∃ x, x = (rd lt dk a' b' lim wb wp).pi.1 := ⟨_, rfl⟩
                  obtain ⟨pv, hpvv⟩ : ∃ x, x = (rd lt dk a' b' lim wb wp).pivot := ⟨_, rfl⟩
                  obtain ⟨lm, hlm⟩ : ∃ x, x = (rd lt dk a' b' lim wb wp).lim := ⟨_, rfl⟩
                  have hlm2 : lm ≤ lim := by rw [hlm]; exact rd_lim_le
                  have HPV := Lib.hid hpvv
                  have HD5 := Lib.hid hd5
                  have HLM := Lib.hid hlm
                  rw [← hd5] at HR hR5 HB3 s3
                  rw [← hpvv] at hpv ⊢
                  rw [← hlm]
                  have hz5 : d5.size = n := hR5.size
                  clear hd5 hpvv hlm s1 s2 hc1
                  obtain ⟨t87, ht87⟩ : ∃ t : Bool, t = (decide (a' > 0) && !lt d5[a' - 1]! d5[pv]!) := ⟨_, rfl⟩
                  have H87 := Lib.hid ht87
                  go_upto_region 18 with fail
                  go_cut [83] (fun s83 wx => s83 = .bool t87 ∧ Rw enc k n w0 blk d5 wx ∧ KB w0 W1 wx)
                  case first =>
                    rcases Nat.eq_zero_or_pos a' with ha0 | ha0
                    · have ha0z : ¬ (0 : Int) < (a' : Int) := by omega
                      have HT := Lib.hid (show t87 = false by rw [ht87]; simp [ha0])
                      clear ht87 hR5 ha0
                      go_wp2_with fail
                      go_meet
                      exact ⟨by rw [HT.out], HR.out, HK.out⟩
                    · have ha0z : (0 : Int) < (a' : Int) := by omega
                      have hl := S.less hR5 (a' - 1) pv (by omega) (by omega)
                      rw [show ((a' - 1 : Nat) : Int) = (a' : Int) - 1 by omega] at hl
                      clear hR5
                      cases hlv : lt d5[a' - 1]! d5[pv]! with
                      | false =>
                        have HT := Lib.hid (show t87 = true by rw [ht87, hlv]; simp; omega)
                        rw [hlv] at hl
                        clear ht87
                        go_wp2_with (go_at_fn g; refine hl.mono ?_; rintro e w5 ⟨rfl, hR6, hK6⟩)
                        go_meet
                        exact ⟨by rw [HT.out], hR6, HK.out.trans hK6⟩
                      | true =>
                        have HT := Lib.hid (show t87 = false by rw [ht87, hlv]; simp)
                        rw [hlv] at hl
                        clear ht87
                        go_wp2_with (go_at_fn g; refine hl.mono ?_; rintro e w5 ⟨rfl, hR6, hK6⟩)
                        go_meet
                        exact ⟨by rw [HT.out], hR6, HK.out.trans hK6⟩
                  case rest =>
                    obtain ⟨rfl, hR6, hK6⟩ := hcut
                    clear HR HK c0 c1 hR5
                    have HK := Lib.hid hK6
                    have c0 := (X1.out.kb hK6).cell 0
                    have c1 := (X1.out.kb hK6).cell 1
                    simp only [List.getElem?_toArray, List.getElem?_cons_zero, List.getElem?_cons_succ] at c0 c1
                    clear hK6 ht87
                    cases t87 with
                    | false =>
                      obtain ⟨⟨mid, ap, d4⟩, hx⟩ : ∃ r, r = partition lt d5 a' b' pv := ⟨_, rfl⟩
                      obtain ⟨r1, r2, r3, r4, r5, r6, r7⟩ := round_part hO (partition_holds lt) hpv.1 hpv.2 (show b' ≤ d5.size by omega) HB3.out hx.symm
                      have hc22 := part_any S hR6 a' b' pv (by omega) (by omega) hpv
                      rw [← hx] at hc22
                      have HX := Lib.hid hx
                      have HR4 := Lib.hid r4
                      have HR5 := Lib.hid r5
                      have HR6 := Lib.hid r6
                      have HR7 := Lib.hid r7
                      clear hx hR6 r4 r5 r6 r7
                      go_upto_if 109 with (go_at_call 84; refine hc22.mono ?_; rintro e w7 ⟨rfl, hR7, hK7⟩)
                      have HK7 := Lib.hid (HK.out.trans hK7)
                      clear c0 c1 hK7 hc22
                      have c0 := (X1.out.kb HK7.out).cell 0
                      have c1 := (X1.out.kb HK7.out).cell 1
                      simp only [List.getElem?_toArray, List.getElem?_cons_zero, List.getElem?_cons_succ] at c0 c1
                      by_cases h4 : mid - a' < b' - mid
                      · have h4z : (mid : Int) - (a' : Int) < (b' : Int) - (mid : Int) := by omega
                        have hih := ih a' mid lm w7 d4 (by omega) hR7 (by omega) (by omega) (by omega) HR4.out
                        have PS := Lib.hid (pdq_sorts lt hO d4 a' mid lm true true (by omega) (by omega) HR4.out)
                        have HQ := Lib.hid (show pdq lt (pdq lt d4 a' mid lm true true) (mid + 1) b' lm (decide (mid - a' ≥ (b' - a') / 8)) ap = res by
                          rw [← HE.out]
                          have q := pdq_left (lt := lt) (d := dk) (a := a') (b := b') (limit := lim) (wb := wb) (wp := wp) h12 hl0 HP2.out (by rw [← HD5.out, ← HPV.out]; exact H87.out.symm) (by rw [← HD5.out, ← HPV.out, ← HX.out]; exact ⟨r1, r2⟩) (by rw [← HD5.out, ← HPV.out, ← HX.out]; exact h4)
                          rw [← HD5.out, ← HPV.out, ← HX.out, ← HLM.out] at q
                          exact q.symm)
                        clear hR7
                        go_wp2_with (go_at_call 61; refine hih.mono ?_; rintro e w8 ⟨rfl, hR8, hK8⟩)
                        go_roundg (b' - (mid + 1))
                        case measure => omega
                        case rel =>
                          refine ⟨mid + 1, b', lm, decide (mid - a' ≥ (b' - a') / 8), ap, pdq lt d4 a' mid lm true true, by simp, rfl, rfl, ?_, rfl, by omega, hR8, HK7.out.trans hK8, (HR6.out _ PS.out.1 PS.out.2).1, HQ.out⟩
                          exact congrArg Value.bool (eighth (by omega) (by omega))
                      · have h4z : ¬ ((mid : Int) - (a' : Int) < (b' : Int) - (mid : Int)) := by omega
                        have hih := ih (mid + 1) b' lm w7 d4 (by omega) hR7 (by omega) (by omega) (by omega) HR5.out
                        rw [show ((mid + 1 : Nat) : Int) = (mid : Int) + 1 by omega] at hih
                        have PS := Lib.hid (pdq_sorts lt hO d4 (mid + 1) b' lm true true (by omega) (by omega) HR5.out)
                        have HQ := Lib.hid (show pdq lt (pdq lt d4 (mid + 1) b' lm true true) a' mid lm (decide (b' - mid ≥ (b' - a') / 8)) ap = res by
                          rw [← HE.out]
                          have q := pdq_right (lt := lt) (d := dk) (a := a') (b := b') (limit := lim) (wb := wb) (wp := wp) h12 hl0 HP2.out (by rw [← HD5.out, ← HPV.out]; exact H87.out.symm) (by rw [← HD5.out, ← HPV.out, ← HX.out]; exact ⟨r1, r2⟩) (by rw [← HD5.out, ← HPV.out, ← HX.out]; exact h4)
                          rw [← HD5.out, ← HPV.out, ← HX.out, ← HLM.out] at q
                          exact q.symm)
                        clear hR7
                        go_wp2_with (go_at_call 61; refine hih.mono ?_; rintro e w8 ⟨rfl, hR8, hK8⟩)
                        go_roundg (mid - a')
                        case measure => omega
                        case rel =>
                          refine ⟨a', mid, lm, decide (b' - mid ≥ (b' - a') / 8), ap, pdq lt d4 (mid + 1) b' lm true true, rfl, rfl, rfl, ?_, rfl, by omega, hR8, HK7.out.trans hK8, (HR7.out _ PS.out.1 PS.out.2).1, HQ.out⟩
                          exact congrArg Value.bool (eighth (by omega) (by omega))
                    | true =>
                      have h87' := H87.out.symm
                      simp only [Bool.and_eq_true, decide_eq_true_eq, Bool.not_eq_true'] at h87'
                      obtain ⟨⟨mid, d4⟩, hx⟩ : ∃ r, r = partitionEqual lt d5 a' b' pv := ⟨_, rfl⟩
                      obtain ⟨r1, r2, r3, r4, _⟩ := round_eq hO (partitionEqual_holds lt) h87'.1 hpv.1 hpv.2 (show b' ≤ d5.size by omega) HB3.out h87'.2 hx.symm
                      have hc21 := parteq_any S hR6 a' b' pv (by omega) (by omega) hpv
                      rw [← hx] at hc21
                      have HX := Lib.hid hx
                      have HR4 := Lib.hid r4
                      have HQ := Lib.hid (show pdq lt d4 mid b' lm wb wp = res by
                        rw [← HE.out]
                        have q := pdq_eq (lt := lt) (d := dk) (a := a') (b := b') (limit := lim) (wb := wb) (wp := wp) h12 hl0 HP2.out (by rw [← HD5.out, ← HPV.out]; exact H87.out.symm) (by rw [← HD5.out, ← HPV.out, ← HX.out]; exact ⟨r1, r2⟩)
                        rw [← HD5.out, ← HPV.out, ← HX.out, ← HLM.out] at q
                        exact q.symm)
                      clear hx hR6 r4 h87'
                      go_wp2_with (go_at_call 83; refine hc21.mono ?_; rintro e w7 ⟨rfl, hR7, hK7⟩)
                      go_roundg (b' - mid)
                      case measure => omega
                      case rel => exact ⟨mid, b', lm, wb, wp, d4, rfl, rfl, rfl, rfl, rfl, by omega, hR7, HK.out.trans hK7, HR4.out, HQ.out⟩
end Go.Proofs.Ytilklfmcdgggfaa
end
section
namespace Go.Proofs.Ytilklfmcdgggfaa
open Go.Shelf Go.RowKit Go.Lib Go.Sort
set_option linter.unusedVariables false
set_option linter.unusedSimpArgs false

variable {α : Type} [Inhabited α]

/-- The swap's two runs of stores. -/
theorem Rw.swap {enc : α → List Value} {k n blk : Nat} {w0 W : World} {d : Array α} (hk : ∀ x, (enc x).length = k) (h : Rw enc k n w0 blk d W) (i j : Nat) (hi : i < n) (hj : j < n) :
    Rw enc k n w0 blk (swp d i j) ((W.setCells blk (0 + i * k) (enc d[j]!)).setCells blk (0 + j * k) (enc d[i]!)) ∧ KB w0 W ((W.setCells blk (0 + i * k) (enc d[j]!)).setCells blk (0 + j * k) (enc d[i]!)) := by
  have hz := h.size
  have e : (W.setCells blk (0 + i * k) (enc d[j]!)).setCells blk (0 + j * k) (enc d[i]!) = sortWorldK enc k W blk 0 0 (swp d i j) #[] := by
    have q := putRowK_swp enc k hk W blk 0 d i j (by omega) (by omega)
    rw [putRowK_self enc k W blk 0 d h.hold] at q
    rw [q]
    unfold sortWorldK
    rw [grow_empty]
    rfl
  rw [e]
  exact ⟨h.sortWorld (size_swp _ _ _), KB.sortWorld h.old⟩

theorem slice_many (t e : TypeId) (i ie : TypeInfo) (hi : Try.prog.info? t = some i) (hd : i.desc = .slice e) (hpk : Try.prog.packed t = false) (hie : Try.prog.info? e = some ie) (ke : Nat) (hke : ∀ w, (Extern.Rtype.kind e).run Try.prog w = .ok ke w)
    (enc : α → List Value) (k : Nat) (hk : ∀ x, (enc x).length = k) (hs1 : ie.size = k) (hagg : ∀ w, (isAgg e).run Try.prog w = .ok true w) (h1 : ∀ x, ∀ v ∈ enc x, v.oneCell' = true) (lt : α → α → Bool) (hO : SWO lt) (g : Nat) (lb : Array Value)
    (eg : ∀ args w, (callFunc g args).run Try.prog w = .ok (.enter g args) w) (blk c : Nat) (d : Array α) (h2 : 2 ≤ d.size) (hsz : d.size ≤ 1000)
    (f : Nat) (hf : Try.prog.funcs.findIdx? (·.name == "internal/reflectlite" ++ ".Swapper$" ++ toString (swapperK d.size ie ke)) = some f)
    (gS : Bool) (hx : ∀ args W, (callFunc f args).run Try.prog W = ((Extern.ReflectliteSwapper.swap gS args).run Try.prog W).andThen fun v w' => .ok (.value v) w')
    (w : World) (hH : HoldsK enc k w blk 0 d) (hblk : blk < w.heap.size)
    (hless : ∀ (W : World) (dk : Array α), dk.size = d.size → HoldsK enc k W blk 0 dk → w.grownBy W (some blk) → ∀ i j : Nat, i < d.size → j < d.size →
      Calls Try.prog g (#[.int .i64 i, .int .i64 j] ++ lb) W fun e w' => e = .returned (.bool (lt dk[i]! dk[j]!)) ∧ RowKit.Below W.heap.size W w') :
    Calls Try.prog 47 #[.iface t (.slice (some ⟨blk, 0, none⟩) d.size c), .func (.func g) #[] lb] w fun e w' =>
      e = .returned (.tuple #[]) ∧ ∃ d' : Array α, PermIn 0 d.size d d' ∧ SortedIn lt 0 d.size d' ∧ HoldsK enc k w' blk 0 d' ∧ w.grownBy w' (some blk) := by
  have hp := Any.sort_Slice_of_pdq sortSl t e i ie hi hd hpk hie ke hke (some ⟨blk, 0, none⟩) d.size c (by omega) f hf (.func g) #[] lb w
    (fun w' => ∃ d' : Array α, PermIn 0 d.size d d' ∧ SortedIn lt 0 d.size d' ∧ HoldsK enc k w' blk 0 d' ∧ w.grownBy w' (some blk)) ?_
  · exact hp
  have hB : sliceBound Try.prog e ie ke (some ⟨blk, 0, none⟩) d.size c = #[.slice (some ⟨blk, 0, none⟩) d.size c, typeHandle Try.prog e] := by
    unfold sliceBound
    rw [if_neg (swapperK_gt _ _ _ h2)]
  obtain ⟨w0, hw0⟩ : ∃ w0, w0 = sliceWorld Try.prog sortSl_ren t (some ⟨blk, 0, none⟩) d.size c w := ⟨_, rfl⟩
  have hb0 : RowKit.Below w.heap.size w w0 := by
    rw [hw0]
    unfold sliceWorld
    exact ((RowKit.Below.refl _ _).alloc (Nat.le_refl _) _).alloc (by simp) _
  have hg0 : ∀ W, w0.grownBy W (some blk) → w.grownBy W (some blk) := fun W h =>
    ⟨h.os.trans hb0.os, h.tape.trans hb0.tape, h.output.trans hb0.output, Nat.le_trans hb0.size h.size, fun q hq hne => (h.block q (Nat.lt_of_lt_of_le hq hb0.size) hne).trans (hb0.block q hq)⟩
  have hblk0 : blk < w0.heap.size := Nat.lt_of_lt_of_le hblk hb0.size
  have S : SortBy g lb f #[.slice (some ⟨blk, 0, none⟩) d.size c, typeHandle Try.prog e] enc k d.size lt blk w0 := {
    few := by omega
    old := hblk0
    less := fun {W dk} hR a b ha hb => (hless W dk hR.size hR.hold (hg0 W hR.grown) a b ha hb).mono fun e w' ⟨he, hbl⟩ => ⟨he, hR.below hbl, KB.ofBelow hbl⟩
    swap := fun {W dk} hR a b ha hb => by
      have q := swapSwapsK_of_literal gS f hx e ie hie enc k hk hs1 hagg h1 blk 0 d.size c W dk hR.hold hR.size a b ha hb
      exact ⟨_, q, hR.swap hk a b ha hb⟩
    eg := eg
    older := swapSwapsK_of_literal gS f hx e ie hie enc k hk hs1 hagg h1 blk 0 d.size c
    len := hk }
  rw [hB, ← hw0]
  have hlim : Lib.bitLen d.size < 1152921504606846976 := Nat.lt_of_le_of_lt (Lib.bitLen_le d.size 62 (by omega) (by omega)) (by omega)
  have hR : Rw enc k d.size w0 blk d w0 := ⟨holdsK_same hH (hb0.block blk hblk), rfl, ⟨rfl, rfl, rfl, Nat.le_refl _, fun _ _ _ => rfl⟩, hblk0⟩
  refine (pdq_any S hO (d.size + 1) 0 d.size (Lib.bitLen d.size) w0 d (by omega) hR (Nat.zero_le _) (Nat.le_refl _) hlim (Or.inl rfl)).mono ?_
  rintro e' w' ⟨rfl, hR', -⟩
  have ps := pdq_sorts lt hO d 0 d.size (Lib.bitLen d.size) true true (Nat.zero_le _) (Nat.le_refl _) (Or.inl rfl)
  exact ⟨rfl, _, ps.1, ps.2, hR'.hold, hg0 _ hR'.grown⟩

theorem pair_short {β : Type} (R : β → β → Prop) : ∀ l : List β, ¬ 2 ≤ l.length → l.Pairwise R
  | [], _ => List.Pairwise.nil
  | [x], _ => List.pairwise_singleton _ _
  | _ :: _ :: _, h => by simp at h

/-- In order, as a list; whichever length. -/
theorem slice_list (t e : TypeId) (i ie : TypeInfo) (hi : Try.prog.info? t = some i) (hd : i.desc = .slice e) (hpk : Try.prog.packed t = false) (hie : Try.prog.info? e = some ie) (ke : Nat) (hke : ∀ w, (Extern.Rtype.kind e).run Try.prog w = .ok ke w)
    (enc : α → List Value) (k : Nat) (hk : ∀ x, (enc x).length = k) (hs1 : ie.size = k) (hagg : ∀ w, (isAgg e).run Try.prog w = .ok true w) (h1 : ∀ x, ∀ v ∈ enc x, v.oneCell' = true) (lt : α → α → Bool) (hO : SWO lt) (g : Nat) (lb : Array Value)
    (eg : ∀ args w, (callFunc g args).run Try.prog w = .ok (.enter g args) w) (blk c : Nat) (l : List α) (hsz : l.length ≤ 1000)
    (f0 f1 f : Nat) (hf0 : Try.prog.funcs.findIdx? (·.name == "internal/reflectlite" ++ ".Swapper$" ++ toString (swapperK 0 ie ke)) = some f0) (hf1 : Try.prog.funcs.findIdx? (·.name == "internal/reflectlite" ++ ".Swapper$" ++ toString (swapperK 1 ie ke)) = some f1)
    (hf : ∀ m, 2 ≤ m → Try.prog.funcs.findIdx? (·.name == "internal/reflectlite" ++ ".Swapper$" ++ toString (swapperK m ie ke)) = some f)
    (gS : Bool) (hx : ∀ args W, (callFunc f args).run Try.prog W = ((Extern.ReflectliteSwapper.swap gS args).run Try.prog W).andThen fun v w' => .ok (.value v) w')
    (w : World) (hH : HoldsK enc k w blk 0 l.toArray) (hblk : blk < w.heap.size)
    (hless : ∀ (W : World) (dk : Array α), dk.size = l.length → HoldsK enc k W blk 0 dk → w.grownBy W (some blk) → ∀ i j : Nat, i < l.length → j < l.length →
      Calls Try.prog g (#[.int .i64 i, .int .i64 j] ++ lb) W fun e w' => e = .returned (.bool (lt dk[i]! dk[j]!)) ∧ RowKit.Below W.heap.size W w') :
    Calls Try.prog 47 #[.iface t (.slice (some ⟨blk, 0, none⟩) l.length c), .func (.func g) #[] lb] w fun e w' =>
      e = .returned (.tuple #[]) ∧ ∃ l' : List α, l'.Perm l ∧ l'.Pairwise (fun a b => lt b a = false) ∧ HoldsK enc k w' blk 0 l'.toArray ∧ w.grownBy w' (some blk) := by
  have hs : l.toArray.size = l.length := by simp
  by_cases h2 : 2 ≤ l.length
  · have q := slice_many t e i ie hi hd hpk hie ke hke enc k hk hs1 hagg h1 lt hO g lb eg blk c l.toArray (by omega) (by omega) f (hf _ (by omega)) gS hx w hH hblk (by rw [hs]; exact hless)
    rw [hs] at q
    refine q.mono ?_
    rintro e' w' ⟨rfl, d', hp, hso, hh, hg⟩
    obtain ⟨p1, -, p3⟩ := hp
    have hz : d'.size = l.length := by rw [p1, hs]
    refine ⟨rfl, d'.toList, ?_, ?_, hh, hg⟩
    · have e1 : d'.extract 0 l.length = d' := by rw [← hz]; simp
      have e2 : l.toArray.extract 0 l.length = l.toArray := by simp
      rw [e1, e2] at p3
      simpa using p3
    · rw [List.pairwise_iff_getElem]
      intro a b ha hb hab
      have ha' : a < d'.size := by simpa using ha
      have hb' : b < d'.size := by simpa using hb
      have := hso a b (Nat.zero_le _) hab (by omega)
      rw [getElem!_pos d' a ha', getElem!_pos d' b hb'] at this
      simpa using this
  · have key : ∀ (f' : Nat), Try.prog.funcs.findIdx? (·.name == "internal/reflectlite" ++ ".Swapper$" ++ toString (swapperK l.length ie ke)) = some f' → Calls Try.prog 47 #[.iface t (.slice (some ⟨blk, 0, none⟩) l.length c), .func (.func g) #[] lb] w fun e w' =>
      e = .returned (.tuple #[]) ∧ ∃ l' : List α, l'.Perm l ∧ l'.Pairwise (fun a b => lt b a = false) ∧ HoldsK enc k w' blk 0 l'.toArray ∧ w.grownBy w' (some blk) := fun f' hf' => by
      have q := Any.sort_Slice_tiny sortSl t e i ie hi hd hpk hie ke hke (some ⟨blk, 0, none⟩) l.length c (by omega) f' hf' (.func g) #[] lb w
      change Calls Try.prog 47 _ _ _ at q
      refine q.mono ?_
      rintro e' w' ⟨rfl, os, rfl⟩
      refine ⟨rfl, l, List.Perm.refl _, ?_, holdsK_grow enc k w os blk 0 _ hblk hH, ⟨rfl, rfl, rfl, by simp, fun q hq _ => heap_grow_old w os hq⟩⟩
      exact pair_short _ l h2
    rcases Nat.eq_zero_or_pos l.length with h0 | h0
    · exact key f0 (by rw [h0]; exact hf0)
    · exact key f1 (by rw [show l.length = 1 by omega]; exact hf1)
end Go.Proofs.Ytilklfmcdgggfaa
end
