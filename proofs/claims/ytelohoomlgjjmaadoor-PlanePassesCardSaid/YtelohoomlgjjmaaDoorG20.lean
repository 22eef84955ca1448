import Derived.Shelf.SlSortFuncK.WholeK
import Derived.Ground.GgsProg
import Derived.Test.YtelohoomlgjjmaaDoorProg
import Derived.Test.YtelohoomlgjjmaaDoorG18
import Derived.Test.YtelohoomlgjjmaaDoorG19
import Derived.Shelf.SlSortFuncK.BreakPatternsK
import Derived.Sort.Walk13
import Derived.Sort.AssemblyPlain
import Derived.Deep.LoopGhost
import Derived.Shelf.GgSortFunc.Tiny
import Derived.Shelf.GgSortFunc.Slice
import Derived.Shelf.GgSortFunc.SmallK
import Derived.Test.YtelohoomlgjjmaaDoorG8
import Derived.Test.YtelohoomlgjjmaaDoorG5
import Derived.Test.YtelohoomlgjjmaaDoorG6
import Derived.Shelf.GgSortFunc.RowK
import Derived.Sort.LotA
import Derived.Sort.Statements
set_option linter.unusedSimpArgs false
set_option linter.unusedVariables false
section
/- sort.Slice: the shelf's contract laid. sort.pdqsort_func, where the one that compares may make memory. sort.Slice over structs, where the one that compares may make memory: the list in order. -/
section
namespace Go.Proofs.YtelohoomlgjjmaaDoor
open Go.Shelf
def sortSl_ren : Go.Shelf.Ren := ⟨fun | 6 => 40 | 10 => 55 | 11 => 56 | 12 => 57 | 13 => 58 | 14 => 59 | 24 => 74 | 25 => 75 | 26 => 76 | 27 => 77 | 28 => 78 | 29 => 79 | 30 => 80 | 31 => 81 | 32 => 82 | 33 => 83 | 34 => 85 | 35 => 86 | 36 => 87 | 37 => 88 | 38 => 89 | 39 => 90 | n => n, fun | 20 => 20 | 26 => 116 | 35 => 133 | 0 => 0 | 37 => 135 | 3 => 3 | 41 => 138 | 44 => 141 | 49 => 52 | 51 => 53 | 4 => 4 | 54 => 152 | 53 => 151 | 58 => 64 | 5 => 5 | 9 => 9 | 60 => 158 | 64 => 161 | 66 => 163 | 67 => 164 | 17 => 17 | 32 => 130 | 33 => 131 | 82 => 179 | 12 => 12 | 75 => 172 | 76 => 173 | 77 => 174 | 78 => 175 | 79 => 176 | 80 => 177 | n => n, fun | n => n⟩
theorem sortSl : Go.Proofs.LaysGg.n6 Tryd.prog sortSl_ren := {
  mixed := by kernel_rfl
  f6 := Tryd.func40.trans (congrArg some (by kernel_rfl))
  f10 := Tryd.func55.trans (congrArg some (by kernel_rfl))
  f11 := Tryd.func56.trans (congrArg some (by kernel_rfl))
  f12 := Tryd.func57.trans (congrArg some (by kernel_rfl))
  f13 := Tryd.func58.trans (congrArg some (by kernel_rfl))
  f14 := Tryd.func59.trans (congrArg some (by kernel_rfl))
  f24 := Tryd.func74.trans (congrArg some (by kernel_rfl))
  f25 := Tryd.func75.trans (congrArg some (by kernel_rfl))
  f26 := Tryd.func76.trans (congrArg some (by kernel_rfl))
  f27 := Tryd.func77.trans (congrArg some (by kernel_rfl))
  f28 := Tryd.func78.trans (congrArg some (by kernel_rfl))
  f29 := Tryd.func79.trans (congrArg some (by kernel_rfl))
  f30 := Tryd.func80.trans (congrArg some (by kernel_rfl))
  f31 := Tryd.func81.trans (congrArg some (by kernel_rfl))
  f32 := Tryd.func82.trans (congrArg some (by kernel_rfl))
  f33 := Tryd.func83.trans (congrArg some (by kernel_rfl))
  f34 := Tryd.func85.trans (congrArg some (by kernel_rfl))
  f35 := Tryd.func86.trans (congrArg some (by kernel_rfl))
  f36 := Tryd.func87.trans (congrArg some (by kernel_rfl))
  f37 := Tryd.func88.trans (congrArg some (by kernel_rfl))
  f38 := Tryd.func89.trans (congrArg some (by kernel_rfl))
  f39 := Tryd.func90.trans (congrArg some (by kernel_rfl))
  t0 := Tryd.underlying0
  a0 := Tryd.isAgg0
  z0 := Tryd.sizeOf0
  v0 := Tryd.zeroValue0
  i0 := by kernel_rfl
  t3 := Tryd.underlying3
  a3 := Tryd.isAgg3
  z3 := Tryd.sizeOf3
  v3 := Tryd.zeroValue3
  i3 := by kernel_rfl
  t4 := Tryd.underlying4
  a4 := Tryd.isAgg4
  z4 := Tryd.sizeOf4
  v4 := Tryd.zeroValue4
  i4 := by kernel_rfl
  t5 := Tryd.underlying5
  a5 := Tryd.isAgg5
  z5 := Tryd.sizeOf5
  v5 := Tryd.zeroValue5
  i5 := by kernel_rfl
  t9 := Tryd.underlying9
  a9 := Tryd.isAgg9
  z9 := Tryd.sizeOf9
  v9 := Tryd.zeroValue9
  i9 := by kernel_rfl
  t12 := Tryd.underlying12
  a12 := Tryd.isAgg12
  z12 := Tryd.sizeOf12
  v12 := Tryd.zeroValue12
  i12 := by kernel_rfl
  t17 := Tryd.underlying17
  a17 := Tryd.isAgg17
  z17 := Tryd.sizeOf17
  v17 := Tryd.zeroValue17
  i17 := by kernel_rfl
  t20 := Tryd.underlying20
  a20 := Tryd.isAgg20
  z20 := Tryd.sizeOf20
  v20 := Tryd.zeroValue20
  i20 := by kernel_rfl
  t26 := Tryd.underlying116
  a26 := Tryd.isAgg116
  z26 := Tryd.sizeOf116
  v26 := Tryd.zeroValue116
  i26 := by kernel_rfl
  t32 := Tryd.underlying130
  a32 := Tryd.isAgg130
  z32 := Tryd.sizeOf130
  v32 := Tryd.zeroValue130
  i32 := by kernel_rfl
  t33 := Tryd.underlying131
  a33 := Tryd.isAgg131
  z33 := Tryd.sizeOf131
  v33 := Tryd.zeroValue131
  i33 := by kernel_rfl
  t35 := Tryd.underlying133
  a35 := Tryd.isAgg133
  z35 := Tryd.sizeOf133
  v35 := Tryd.zeroValue133
  i35 := by kernel_rfl
  t37 := Tryd.underlying135
  a37 := Tryd.isAgg135
  z37 := Tryd.sizeOf135
  v37 := Tryd.zeroValue135
  i37 := by kernel_rfl
  t41 := Tryd.underlying138
  a41 := Tryd.isAgg138
  z41 := Tryd.sizeOf138
  v41 := Tryd.zeroValue138
  i41 := by kernel_rfl
  t44 := Tryd.underlying141
  a44 := Tryd.isAgg141
  z44 := Tryd.sizeOf141
  v44 := Tryd.zeroValue141
  i44 := by kernel_rfl
  t49 := Tryd.underlying52
  a49 := Tryd.isAgg52
  z49 := Tryd.sizeOf52
  v49 := Tryd.zeroValue52
  i49 := by kernel_rfl
  t51 := Tryd.underlying53
  a51 := Tryd.isAgg53
  z51 := Tryd.sizeOf53
  v51 := Tryd.zeroValue53
  i51 := by kernel_rfl
  t53 := Tryd.underlying151
  a53 := Tryd.isAgg151
  z53 := Tryd.sizeOf151
  v53 := Tryd.zeroValue151
  i53 := by kernel_rfl
  t54 := Tryd.underlying152
  a54 := Tryd.isAgg152
  z54 := Tryd.sizeOf152
  v54 := Tryd.zeroValue152
  i54 := by kernel_rfl
  t58 := Tryd.underlying64
  a58 := Tryd.isAgg64
  z58 := Tryd.sizeOf64
  v58 := Tryd.zeroValue64
  i58 := by kernel_rfl
  t60 := Tryd.underlying158
  a60 := Tryd.isAgg158
  z60 := Tryd.sizeOf158
  v60 := Tryd.zeroValue158
  i60 := by kernel_rfl
  t64 := Tryd.underlying161
  a64 := Tryd.isAgg161
  z64 := Tryd.sizeOf161
  v64 := Tryd.zeroValue161
  i64 := by kernel_rfl
  t66 := Tryd.underlying163
  a66 := Tryd.isAgg163
  z66 := Tryd.sizeOf163
  v66 := Tryd.zeroValue163
  i66 := by kernel_rfl
  t67 := Tryd.underlying164
  a67 := Tryd.isAgg164
  z67 := Tryd.sizeOf164
  v67 := Tryd.zeroValue164
  i67 := by kernel_rfl
  t75 := Tryd.underlying172
  a75 := Tryd.isAgg172
  z75 := Tryd.sizeOf172
  v75 := Tryd.zeroValue172
  i75 := by kernel_rfl
  t76 := Tryd.underlying173
  a76 := Tryd.isAgg173
  z76 := Tryd.sizeOf173
  v76 := Tryd.zeroValue173
  i76 := by kernel_rfl
  t77 := Tryd.underlying174
  a77 := Tryd.isAgg174
  z77 := Tryd.sizeOf174
  v77 := Tryd.zeroValue174
  i77 := by kernel_rfl
  t78 := Tryd.underlying175
  a78 := Tryd.isAgg175
  z78 := Tryd.sizeOf175
  v78 := Tryd.zeroValue175
  i78 := by kernel_rfl
  t79 := Tryd.underlying176
  a79 := Tryd.isAgg176
  z79 := Tryd.sizeOf176
  v79 := Tryd.zeroValue176
  i79 := by kernel_rfl
  t80 := Tryd.underlying177
  a80 := Tryd.isAgg177
  z80 := Tryd.sizeOf177
  v80 := Tryd.zeroValue177
  i80 := by kernel_rfl
  t82 := Tryd.underlying179
  a82 := Tryd.isAgg179
  z82 := Tryd.sizeOf179
  v82 := Tryd.zeroValue179
  i82 := by kernel_rfl }
end Go.Proofs.YtelohoomlgjjmaaDoor
end
section
namespace Go.Proofs.YtelohoomlgjjmaaDoor
open Go.Shelf Go.RowKit Go.Lib Go.Sort

variable {α : Type} [Inhabited α] {enc : α → List Value} {k n : Nat} {w0 : World} {blk g sf : Nat} {lb sb : Array Value} {lt : α → α → Bool}

theorem KB.sortWorld {W : World} {m off : Nat} {d : Array α} {os : Array Obj} (hb : blk < w0.heap.size) : KB w0 W (sortWorldK enc k W blk off m d os) := by
  refine ⟨?_, fun i h1 h2 => ?_⟩
  · simp [sortWorldK, grow, putRowK, putRow, mapBlock, ahead]
  · have hg : blk ≠ i := by omega
    simp only [sortWorldK, grow, putRowK, putRow, mapBlock, ahead]
    rw [Array.getElem?_append_left (by simpa using h2), Array.getElem?_modify, if_neg hg]
    rfl

/-- A row that is rewritten. -/
theorem Rw.sortWorld {W : World} {d d' : Array α} {m : Nat} {os : Array Obj} (h : Rw enc k n w0 blk d W) (hs : d'.size = d.size) : Rw enc k n w0 blk d' (sortWorldK enc k W blk 0 m d' os) := by
  refine ⟨holdsK_sortWorldK enc k W blk 0 m d d' os h.lt h.hold hs, hs.trans h.size, ⟨?_, ?_, ?_, ?_, fun i hi hne => ?_⟩, h.old⟩
  · exact h.grown.os
  · exact h.grown.tape
  · exact h.grown.output
  · have := h.grown.size
    simp [sortWorldK, grow, putRowK, putRow, mapBlock, ahead]
    omega
  · have hg : blk ≠ i := fun e => hne (by rw [e])
    have h2 := Nat.lt_of_lt_of_le hi h.grown.size
    rw [← h.grown.block i hi hne]
    simp only [sortWorldK, grow, putRowK, putRow, mapBlock, ahead]
    rw [Array.getElem?_append_left (by simpa using h2), Array.getElem?_modify, if_neg hg]
    rfl

theorem brk_any (S : SortBy g lb sf sb enc k n lt blk w0) {W : World} {d : Array α} (hW : Rw enc k n w0 blk d W) (a b : Nat) (hab : a ≤ b) (hb : b ≤ n) :
    Calls Tryd.prog 78 #[.agg (twoA g lb sf sb), .int .i64 a, .int .i64 b] W fun e w' => e = .returned (.tuple #[]) ∧ Rw enc k n w0 blk (breakPatterns d a b) w' ∧ KB w0 W w' := by
  have hz := hW.size
  have hf := S.few
  have hc := Any.breakPatterns_func_cells_w (P := Tryd.prog) (ρ := sortSl_ren) { sortSl with } enc k S.len (.func g) #[] lb sf sb blk 0 a b d W (by rw [hz]; exact S.older) hW.hold hW.lt hab (by omega) (by omega)
  change Calls Tryd.prog 78 _ _ _ at hc
  refine hc.mono ?_
  rintro e w' ⟨rfl, m, os, rfl⟩
  have hs : (breakPatterns d a b).size = d.size := (breakPatterns_holds d a b hab (by omega)).1
  exact ⟨rfl, hW.sortWorld hs, KB.sortWorld S.old⟩

theorem rev_any (S : SortBy g lb sf sb enc k n lt blk w0) {W : World} {d : Array α} (hW : Rw enc k n w0 blk d W) (a b : Nat) (hab : a ≤ b) (hb : b ≤ n) :
    Calls Tryd.prog 80 #[.agg (twoA g lb sf sb), .int .i64 a, .int .i64 b] W fun e w' => e = .returned (.tuple #[]) ∧ Rw enc k n w0 blk (reverseRange d a b) w' ∧ KB w0 W w' := by
  have hz := hW.size
  have hf := S.few
  have hc := Any.reverseRange_func_cells_w (P := Tryd.prog) (ρ := sortSl_ren) { sortSl with } enc k S.len (.func g) #[] lb sf sb blk 0 a b d W (by rw [hz]; exact S.older) hW.hold hW.lt hab (by omega) (by omega)
  change Calls Tryd.prog 80 _ _ _ at hc
  refine hc.mono ?_
  rintro e w' ⟨rfl, m, os, rfl⟩
  have hs : (reverseRange d a b).size = d.size := (reverseRange_holds d a b hab (by omega)).1
  exact ⟨rfl, hW.sortWorld hs, KB.sortWorld S.old⟩

set_option maxHeartbeats 16000000 in
set_option maxRecDepth 1000000 in
theorem pdq_any (S : SortBy g lb sf sb enc k n lt blk w0) (hO : SWO lt) : ∀ (N a b limit : Nat) (W : World) (d : Array α), b - a < N → Rw enc k n w0 blk d W → a ≤ b → b ≤ n → limit < 1152921504606846976 → Sort.Below lt a b d →
    Calls Tryd.prog 59 #[.agg (twoA g lb sf sb), .int .i64 a, .int .i64 b, .int .i64 limit] W fun e w' => e = .returned (.tuple #[]) ∧ Rw enc k n w0 blk (pdq lt d a b limit true true) w' ∧ KB w0 W w' := by
  intro N
  induction N with
  | zero => intro _ _ _ _ _ h; exact absurd h (Nat.not_lt_zero _)
  | succ N ih =>
    intro a b limit W d hN hW hab hb hlimit hBel0
    have eg := S.eg
    have hfew := S.few
    obtain ⟨W1, hW1⟩ : ∃ W1, W1 = W.alloc (.cells (twoA g lb sf sb) 141) := ⟨_, rfl⟩
    obtain ⟨B, hB⟩ : ∃ B, B = W.heap.size := ⟨_, rfl⟩
    have R1 := Lib.hid (show Rw enc k n w0 blk d W1 by rw [hW1]; exact hW.alloc _)
    have X1 := Lib.hid (show Bx w0 W1 B (twoA g lb sf sb) 141 by rw [hW1, hB]; exact Bx.new hW.le _ _)
    have K1 := Lib.hid (show KB w0 W W1 by rw [hW1]; exact (KB.refl _ _).alloc _)
    have HW1 := Lib.hid hW1
    have HB := Lib.hid hB
    clear hW1 hB hW
    obtain ⟨res, hres⟩ : ∃ r, r = pdq lt d a b limit true true := ⟨_, rfl⟩
    rw [← hres]
    have HRES := Lib.hid hres.symm
    clear hres
    go_enter Tryd.func59, Tryd.ntmps59
    go_upto_region 1 with fail
    rw [← HW1.out, ← HB.out]
    go_upto_block 0 with fail
    go_wp2_with fail
    go_loopg [1, 2, 3, 8, 9] (b - a) (fun kx s1 s2 s3 s8 s9 wr => ∃ (a' b' lim : Nat) (wb wp : Bool) (dk : Array α), s1 = .int .i64 a' ∧ s2 = .int .i64 b' ∧ s3 = .int .i64 lim ∧ s8 = .bool wb ∧ s9 = .bool wp ∧
      (a' ≤ b' ∧ b' ≤ n ∧ b' - a' ≤ kx ∧ kx ≤ b - a ∧ lim ≤ limit) ∧ Rw enc k n w0 blk dk wr ∧ KB w0 W1 wr ∧ Sort.Below lt a' b' dk ∧ pdq lt dk a' b' lim wb wp = res)
    case atStart => exact ⟨a, b, limit, true, true, d, rfl, rfl, rfl, rfl, rfl, by omega, R1.out, KB.refl _ _, hBel0, HRES.out⟩
    case round =>
      obtain ⟨a', b', lim, wb, wp, dk, rfl, rfl, rfl, rfl, rfl, hbd, hR, hK, hBel, heq⟩ := hrel
      have HR := Lib.hid hR
      have HK := Lib.hid hK
      have HE := Lib.hid heq
      have HBel := Lib.hid hBel
      have hds := hR.size
      clear heq
      have c0 := (X1.out.kb hK).cell 0
      have c1 := (X1.out.kb hK).cell 1
      simp only [List.getElem?_toArray, List.getElem?_cons_zero, List.getElem?_cons_succ] at c0 c1
      by_cases h12 : b' - a' ≤ 12
      · have h12z : (b' : Int) - (a' : Int) ≤ 12 := by omega
        have hc := ins_any S hR a' b' (by omega) (by omega)
        clear hR hK hBel hBel0
        go_wp2_with (go_at_call 76; refine hc.mono ?_; rintro e w1 ⟨rfl, hR2, hK2⟩)
        (try simp only [Exit.inBlock, Exit.then]); refine bodyPost_ret (results_none rfl _ _ _) rfl ?_
        rw [← HE.out, pdq_small h12]
        exact ⟨rfl, hR2, (K1.out.trans HK.out).trans hK2⟩
      · have h12z : ¬ ((b' : Int) - (a' : Int) ≤ 12) := by omega
        by_cases hl0 : lim = 0
        · have hl0z : ((lim : Int) == 0) = true := by simp [hl0]
          have hc := heap_any S hR a' b' (by omega) (by omega)
          have HQ := Lib.hid (pdq_heap (lt := lt) (d := dk) (wb := wb) (wp := wp) h12 hl0)
          clear hR hK hBel hBel0 hl0
          go_wp2_with (go_at_call 77; refine hc.mono ?_; rintro e w1 ⟨rfl, hR2, hK2⟩)
          (try simp only [Exit.inBlock, Exit.then]); refine bodyPost_ret (results_none rfl _ _ _) rfl ?_
          rw [← HE.out, HQ.out]
          exact ⟨rfl, hR2, (K1.out.trans HK.out).trans hK2⟩
        · have hl0z : ((lim : Int) == 0) = false := by simp; omega
          obtain ⟨s1, B1, hc1, s2, B2, hpv, s3, B3⟩ := rd_facts (lt := lt) (limit := lim) (wb := wb) (wp := wp) hO partialInsertionSort_holds reverseRange_holds (show a' < b' by omega) (show b' ≤ dk.size by omega) hBel
          have HB3 := Lib.hid B3
          clear hBel hBel0 B1 B2 B3 hR hK
          go_upto_if 35 with fail
          go_cut [3] (fun s3 wx => s3 = .int .i64 (((rd lt dk a' b' lim wb wp).lim : Nat) : Int) ∧ Rw enc k n w0 blk (rd lt dk a' b' lim wb wp).d1 wx ∧ KB w0 W1 wx)
          case first =>
            cases wb
            · have hc := brk_any S HR.out a' b' (by omega) (by omega)
              go_wp2_with (go_at_call 78; refine hc.mono ?_; rintro e w1 ⟨rfl, hR2, hK2⟩)
              go_meet
              refine ⟨?_, hR2, HK.out.trans hK2⟩
              show Value.int .i64 ((lim : Int) - 1) = Value.int .i64 ((lim - 1 : Nat) : Int)
              congr 1
              omega
            · go_wp2_with fail
              go_meet
              exact ⟨rfl, HR.out, HK.out⟩
          case rest =>
            obtain ⟨rfl, hR, hK⟩ := hcut
            clear HR HK c0 c1
            have HR := Lib.hid hR
            have HK := Lib.hid hK
            have c0 := (X1.out.kb hK).cell 0
            have c1 := (X1.out.kb hK).cell 1
            simp only [List.getElem?_toArray, List.getElem?_cons_zero, List.getElem?_cons_succ] at c0 c1
            have hc17 := pivot_any S hR a' b' (by omega) (by omega)
            rw [show choosePivot lt (rd lt dk a' b' lim wb wp).d1 a' b' = (rd lt dk a' b' lim wb wp).c from rfl] at hc17
            clear hR hK
            go_upto_if 50 with (go_at_call 79; refine hc17.mono ?_; rintro e w2 ⟨rfl, hR, hK⟩)
            have HR2 := Lib.hid hR
            have HK2 := Lib.hid (HK.out.trans hK)
            clear HR HK c0 c1 hc17 hK
            have c0 := (X1.out.kb HK2.out).cell 0
            have c1 := (X1.out.kb HK2.out).cell 1
            simp only [List.getElem?_toArray, List.getElem?_cons_zero, List.getElem?_cons_succ] at c0 c1
            go_cut [11, 12] (fun s11 s12 wx => s11 = .int .i64 (((rd lt dk a' b' lim wb wp).pivot : Nat) : Int) ∧ s12 = .int .i64 (hintCode (rd lt dk a' b' lim wb wp).hint) ∧ Rw enc k n w0 blk (rd lt dk a' b' lim wb wp).d2 wx ∧ KB w0 W1 wx)
            case first =>
              by_cases hh : (rd lt dk a' b' lim wb wp).c.2 = .decreasing
              · have hcode : hintCode (rd lt dk a' b' lim wb wp).c.2 = 2 := by rw [hh]; rfl
                have HD := Lib.hid (rd_dec hh)
                have hc18 := rev_any S hR a' b' (by omega) (by omega)
                clear hR
                go_wp2_with (go_at_call 80; refine hc18.mono ?_; rintro e w3 ⟨rfl, hR3, hK3⟩)
                go_meet
                refine ⟨?_, by rw [HD.out.2.2]; rfl, by rw [HD.out.1]; exact hR3, HK2.out.trans hK3⟩
                rw [HD.out.2.1]
                congr 1
                omega
              · have hcode : ¬ (hintCode (rd lt dk a' b' lim wb wp).c.2 = 2) := fun h => hh (hintCode_two h)
                have HD := Lib.hid (rd_not hh)
                clear hR
                go_wp2_with fail
                go_meet
                exact ⟨by rw [HD.out.2.1], by rw [HD.out.2.2], by rw [HD.out.1]; exact HR2.out, HK2.out⟩
            case rest =>
              obtain ⟨rfl, rfl, hR3, hK3⟩ := hcut
              clear HR2 HK2 c0 c1 hR
              have HR := Lib.hid hR3
              have HK := Lib.hid hK3
              have c0 := (X1.out.kb hK3).cell 0
              have c1 := (X1.out.kb hK3).cell 1
              simp only [List.getElem?_toArray, List.getElem?_cons_zero, List.getElem?_cons_succ] at c0 c1
              clear hR3 hK3
              go_upto_region 16 with fail
              go_cut [12, 68] (fun s12 s68 wx => s12 = .int .i64 (hintCode (rd lt dk a' b' lim wb wp).hint) ∧ s68 = .bool (wb && wp && decide ((rd lt dk a' b' lim wb wp).hint = .increasing)) ∧ Rw enc k n w0 blk (rd lt dk a' b' lim wb wp).d2 wx ∧ KB w0 W1 wx)
              case first =>
                cases wb <;> cases wp <;> cases hh3 : (rd lt dk a' b' lim _ _).hint <;>
                  (have hcode3 := congrArg hintCode hh3
                   simp only [hintCode] at hcode3
                   go_wp2_with fail
                   go_meet
                   exact ⟨by simp [hh3, hintCode], by simp [hh3, hintCode], HR.out, HK.out⟩)
              case rest =>
                obtain ⟨rfl, rfl, hR3, hK3⟩ := hcut
                clear HR HK c0 c1
                have HR := Lib.hid hR3
                have HK := Lib.hid hK3
                have c0 := (X1.out.kb hK3).cell 0
                have c1 := (X1.out.kb hK3).cell 1
                simp only [List.getElem?_toArray, List.getElem?_cons_zero, List.getElem?_cons_succ] at c0 c1
                clear hK3
                go_upto_if 68 with fail
                go_cut [] (fun wx => (rd lt dk a' b' lim wb wp).pi.2 = false ∧ Rw enc k n w0 blk (rd lt dk a' b' lim wb wp).pi.1 wx ∧ KB w0 W1 wx)
                case first =>
                  cases h68 : (wb && wp && decide ((rd lt dk a' b' lim wb wp).hint = .increasing))
                  · have EPI := Lib.hid (rd_pi_no h68)
                    clear hR3
                    go_wp2_with fail
                    go_meet
                    exact ⟨by rw [EPI.out], by rw [EPI.out]; exact HR.out, HK.out⟩
                  · have EPI := Lib.hid (rd_pi_yes h68)
                    have hc19 := partial_any S hR3 a' b' (by omega) (by omega)
                    rw [← EPI.out] at hc19
                    clear hR3
                    cases hp2 : (rd lt dk a' b' lim wb wp).pi.2 with
                    | false =>
                      rw [hp2] at hc19
                      go_wp2_with (go_at_call 81; refine hc19.mono ?_; rintro e w4 ⟨rfl, hR4, hK4⟩)
                      go_meet
                      exact ⟨hp2, hR4, HK.out.trans hK4⟩
                    | true =>
                      rw [hp2] at hc19
                      go_wp2_with (go_at_call 81; refine hc19.mono ?_; rintro e w4 ⟨rfl, hR4, hK4⟩)
                      (try simp only [Exit.inBlock, Exit.then]); refine bodyPost_ret (results_none rfl _ _ _) rfl ?_
                      rw [← HE.out, pdq_done h12 hl0 hp2]
                      exact ⟨rfl, hR4, (K1.out.trans HK.out).trans hK4⟩
                case rest =>
                  obtain ⟨hp2, hR5, hK5⟩ := hcut
                  have HP2 := Lib.hid hp2
                  clear HR HK c0 c1 hR3
                  have HR := Lib.hid hR5
                  have HK := Lib.hid hK5
                  have c0 := (X1.out.kb hK5).cell 0
                  have c1 := (X1.out.kb hK5).cell 1
                  simp only [List.getElem?_toArray, List.getElem?_cons_zero, List.getElem?_cons_succ] at c0 c1
                  clear hK5 hp2
                  obtain ⟨d5, hd5⟩ : ∃ x, x = (rd lt dk a' b' lim wb wp).pi.1 := ⟨_, rfl⟩
                  obtain ⟨pv, hpvv⟩ : ∃ x, x = (rd lt dk a' b' lim wb wp).pivot := ⟨_, rfl⟩
                  obtain ⟨lm, hlm⟩ : ∃ x, x = (rd lt dk a' b' lim wb wp).lim := ⟨_, rfl⟩
                  have hlm2 : lm ≤ lim := by rw [hlm]; exact rd_lim_le
                  have HPV := Lib.hid hpvv
                  have HD5 := Lib.hid hd5
                  have HLM := Lib.hid hlm
                  rw [← hd5] at HR hR5 HB3 s3
                  rw [← hpvv] at hpv ⊢
                  rw [← hlm]
                  have hz5 : d5.size = n := hR5.size
                  clear hd5 hpvv hlm s1 s2 hc1
                  obtain ⟨t87, ht87⟩ : ∃ t : Bool, t = (decide (a' > 0) && !lt d5[a' - 1]! d5[pv]!) := ⟨_, rfl⟩
                  have H87 := Lib.hid ht87
                  go_upto_region 18 with fail
                  go_cut [83] (fun s83 wx => s83 = .bool t87 ∧ Rw enc k n w0 blk d5 wx ∧ KB w0 W1 wx)
                  case first =>
                    rcases Nat.eq_zero_or_pos a' with ha0 | ha0
                    · have ha0z : ¬ (0 : Int) < (a' : Int) := by omega
                      have HT := Lib.hid (show t87 = false by rw [ht87]; simp [ha0])
                      clear ht87 hR5 ha0
                      go_wp2_with fail
                      go_meet
                      exact ⟨by rw [HT.out], HR.out, HK.out⟩
                    · have ha0z : (0 : Int) < (a' : Int) := by omega
                      have hl := S.less hR5 (a' - 1) pv (by omega) (by omega)
                      rw [show ((a' - 1 : Nat) : Int) = (a' : Int) - 1 by omega] at hl
                      clear hR5
                      cases hlv : lt d5[a' - 1]! d5[pv]! with
                      | false =>
                        have HT := Lib.hid (show t87 = true by rw [ht87, hlv]; simp; omega)
                        rw [hlv] at hl
                        clear ht87
                        go_wp2_with (go_at_fn g; refine hl.mono ?_; rintro e w5 ⟨rfl, hR6, hK6⟩)
                        go_meet
                        exact ⟨by rw [HT.out], hR6, HK.out.trans hK6⟩
                      | true =>
                        have HT := Lib.hid (show t87 = false by rw [ht87, hlv]; simp)
                        rw [hlv] at hl
                        clear ht87
                        go_wp2_with (go_at_fn g; refine hl.mono ?_; rintro e w5 ⟨rfl, hR6, hK6⟩)
                        go_meet
                        exact ⟨by rw [HT.out], hR6, HK.out.trans hK6⟩
                  case rest =>
                    obtain ⟨rfl, hR6, hK6⟩ := hcut
                    clear HR HK c0 c1 hR5
                    have HK := Lib.hid hK6
                    have c0 := (X1.out.kb hK6).cell 0
                    have c1 := (X1.out.kb hK6).cell 1
                    simp only [List.getElem?_toArray, List.getElem?_cons_zero, List.getElem?_cons_succ] at c0 c1
                    clear hK6 ht87
                    cases t87 with
                    | false =>
                      obtain ⟨⟨mid, ap, d4⟩, hx⟩ : ∃ r, r = partition lt d5 a' b' pv := ⟨_, rfl⟩
                      obtain ⟨r1, r2, r3, r4, r5, r6, r7⟩ := round_part hO (partition_holds lt) hpv.1 hpv.2 (show b' ≤ d5.size by omega) HB3.out hx.symm
                      have hc22 := part_any S hR6 a' b' pv (by omega) (by omega) hpv
                      rw [← hx] at hc22
                      have HX := Lib.hid hx
                      have HR4 := Lib.hid r4
                      have HR5 := Lib.hid r5
                      have HR6 := Lib.hid r6
                      have HR7 := Lib.hid r7
                      clear hx hR6 r4 r5 r6 r7
                      go_upto_if 109 with (go_at_call 83; refine hc22.mono ?_; rintro e w7 ⟨rfl, hR7, hK7⟩)
                      have HK7 := Lib.hid (HK.out.trans hK7)
                      clear c0 c1 hK7 hc22
                      have c0 := (X1.out.kb HK7.out).cell 0
                      have c1 := (X1.out.kb HK7.out).cell 1
                      simp only [List.getElem?_toArray, List.getElem?_cons_zero, List.getElem?_cons_succ] at c0 c1
                      by_cases h4 : mid - a' < b' - mid
                      · have h4z : (mid : Int) - (a' : Int) < (b' : Int) - (mid : Int) := by omega
                        have hih := ih a' mid lm w7 d4 (by omega) hR7 (by omega) (by omega) (by omega) HR4.out
                        have PS := Lib.hid (pdq_sorts lt hO d4 a' mid lm true true (by omega) (by omega) HR4.out)
                        have HQ := Lib.hid (show pdq lt (pdq lt d4 a' mid lm true true) (mid + 1) b' lm (decide (mid - a' ≥ (b' - a') / 8)) ap = res by
                          rw [← HE.out]
                          have q := pdq_left (lt := lt) (d := dk) (a := a') (b := b') (limit := lim) (wb := wb) (wp := wp) h12 hl0 HP2.out (by rw [← HD5.out, ← HPV.out]; exact H87.out.symm) (by rw [← HD5.out, ← HPV.out, ← HX.out]; exact ⟨r1, r2⟩) (by rw [← HD5.out, ← HPV.out, ← HX.out]; exact h4)
                          rw [← HD5.out, ← HPV.out, ← HX.out, ← HLM.out] at q
                          exact q.symm)
                        clear hR7
                        go_wp2_with (go_at_call 59; refine hih.mono ?_; rintro e w8 ⟨rfl, hR8, hK8⟩)
                        go_roundg (b' - (mid + 1))
                        case measure => omega
                        case rel =>
                          refine ⟨mid + 1, b', lm, decide (mid - a' ≥ (b' - a') / 8), ap, pdq lt d4 a' mid lm true true, by simp, rfl, rfl, ?_, rfl, by omega, hR8, HK7.out.trans hK8, (HR6.out _ PS.out.1 PS.out.2).1, HQ.out⟩
                          exact congrArg Value.bool (eighth (by omega) (by omega))
                      · have h4z : ¬ ((mid : Int) - (a' : Int) < (b' : Int) - (mid : Int)) := by omega
                        have hih := ih (mid + 1) b' lm w7 d4 (by omega) hR7 (by omega) (by omega) (by omega) HR5.out
                        rw [show ((mid + 1 : Nat) : Int) = (mid : Int) + 1 by omega] at hih
                        have PS := Lib.hid (pdq_sorts lt hO d4 (mid + 1) b' lm true true (by omega) (by omega) HR5.out)
                        have HQ := Lib.hid (show pdq lt (pdq lt d4 (mid + 1) b' lm true true) a' mid lm (decide (b' - mid ≥ (b' - a') / 8)) ap = res by
                          rw [← HE.out]
                          have q := pdq_right (lt := lt) (d := dk) (a := a') (b := b') (limit := lim) (wb := wb) (wp := wp) h12 hl0 HP2.out (by rw [← HD5.out, ← HPV.out]; exact H87.out.symm) (by rw [← HD5.out, ← HPV.out, ← HX.out]; exact ⟨r1, r2⟩) (by rw [← HD5.out, ← HPV.out, ← HX.out]; exact h4)
                          rw [← HD5.out, ← HPV.out, ← HX.out, ← HLM.out] at q
                          exact q.symm)
                        clear hR7
                        go_wp2_with (go_at_call 59; refine hih.mono ?_; rintro e w8 ⟨rfl, hR8, hK8⟩)
                        go_roundg (mid - a')
                        case measure => omega
                        case rel =>
                          refine ⟨a', mid, lm, decide (b' - mid ≥ (b' - a') / 8), ap, pdq lt d4 (mid + 1) b' lm true true, rfl, rfl, rfl, ?_, rfl, by omega, hR8, HK7.out.trans hK8, (HR7.out _ PS.out.1 PS.out.2).1, HQ.out⟩
                          exact congrArg Value.bool (eighth (by omega) (by omega))
                    | true =>
                      have h87' := H87.out.symm
                      simp only [Bool.and_eq_true, decide_eq_true_eq, Bool.not_eq_true'] at h87'
                      obtain ⟨⟨mid, d4⟩, hx⟩ : ∃ r, r = partitionEqual lt d5 a' b' pv := ⟨_, rfl⟩
                      obtain ⟨r1, r2, r3, r4, _⟩ := round_eq hO (partitionEqual_holds lt) h87'.1 hpv.1 hpv.2 (show b' ≤ d5.size by omega) HB3.out h87'.2 hx.symm
                      have hc21 := parteq_any S hR6 a' b' pv (by omega) (by omega) hpv
                      rw [← hx] at hc21
                      have HX := Lib.hid hx
                      have HR4 := Lib.hid r4
                      have HQ := Lib.hid (show pdq lt d4 mid b' lm wb wp = res by
                        rw [← HE.out]
                        have q := pdq_eq (lt := lt) (d := dk) (a := a') (b := b') (limit := lim) (wb := wb) (wp := wp) h12 hl0 HP2.out (by rw [← HD5.out, ← HPV.out]; exact H87.out.symm) (by rw [← HD5.out, ← HPV.out, ← HX.out]; exact ⟨r1, r2⟩)
                        rw [← HD5.out, ← HPV.out, ← HX.out, ← HLM.out] at q
                        exact q.symm)
                      clear hx hR6 r4 h87'
                      go_wp2_with (go_at_call 82; refine hc21.mono ?_; rintro e w7 ⟨rfl, hR7, hK7⟩)
                      go_roundg (b' - mid)
                      case measure => omega
                      case rel => exact ⟨mid, b', lm, wb, wp, d4, rfl, rfl, rfl, rfl, rfl, by omega, hR7, HK.out.trans hK7, HR4.out, HQ.out⟩
end Go.Proofs.YtelohoomlgjjmaaDoor
end
section
namespace Go.Proofs.YtelohoomlgjjmaaDoor
open Go.Shelf Go.RowKit Go.Lib Go.Sort

variable {α : Type} [Inhabited α]

/-- The swap's two runs of stores. -/
theorem Rw.swap {enc : α → List Value} {k n blk : Nat} {w0 W : World} {d : Array α} (hk : ∀ x, (enc x).length = k) (h : Rw enc k n w0 blk d W) (i j : Nat) (hi : i < n) (hj : j < n) :
    Rw enc k n w0 blk (swp d i j) ((W.setCells blk (0 + i * k) (enc d[j]!)).setCells blk (0 + j * k) (enc d[i]!)) ∧ KB w0 W ((W.setCells blk (0 + i * k) (enc d[j]!)).setCells blk (0 + j * k) (enc d[i]!)) := by
  have hz := h.size
  have e : (W.setCells blk (0 + i * k) (enc d[j]!)).setCells blk (0 + j * k) (enc d[i]!) = sortWorldK enc k W blk 0 0 (swp d i j) #[] := by
    have q := putRowK_swp enc k hk W blk 0 d i j (by omega) (by omega)
    rw [putRowK_self enc k W blk 0 d h.hold] at q
    rw [q]
    unfold sortWorldK
    rw [grow_empty]
    rfl
  rw [e]
  exact ⟨h.sortWorld (size_swp _ _ _), KB.sortWorld h.old⟩

theorem slice_many (t e : TypeId) (i ie : TypeInfo) (hi : Tryd.prog.info? t = some i) (hd : i.desc = .slice e) (hpk : Tryd.prog.packed t = false) (hie : Tryd.prog.info? e = some ie) (ke : Nat) (hke : ∀ w, (Extern.Rtype.kind e).run Tryd.prog w = .ok ke w)
    (enc : α → List Value) (k : Nat) (hk : ∀ x, (enc x).length = k) (hs1 : ie.size = k) (hagg : ∀ w, (isAgg e).run Tryd.prog w = .ok true w) (h1 : ∀ x, ∀ v ∈ enc x, v.oneCell' = true) (lt : α → α → Bool) (hO : SWO lt) (g : Nat) (lb : Array Value)
    (eg : ∀ args w, (callFunc g args).run Tryd.prog w = .ok (.enter g args) w) (blk c : Nat) (d : Array α) (h2 : 2 ≤ d.size) (hsz : d.size ≤ 1000)
    (f : Nat) (hf : Tryd.prog.funcs.findIdx? (·.name == "internal/reflectlite" ++ ".Swapper$" ++ toString (swapperK d.size ie ke)) = some f)
    (gS : Bool) (hx : ∀ args W, (callFunc f args).run Tryd.prog W = ((Extern.ReflectliteSwapper.swap gS args).run Tryd.prog W).andThen fun v w' => .ok (.value v) w')
    (w : World) (hH : HoldsK enc k w blk 0 d) (hblk : blk < w.heap.size)
    (hless : ∀ (W : World) (dk : Array α), dk.size = d.size → HoldsK enc k W blk 0 dk → w.grownBy W (some blk) → ∀ i j : Nat, i < d.size → j < d.size →
      Calls Tryd.prog g (#[.int .i64 i, .int .i64 j] ++ lb) W fun e w' => e = .returned (.bool (lt dk[i]! dk[j]!)) ∧ RowKit.Below W.heap.size W w') :
    Calls Tryd.prog 40 #[.iface t (.slice (some ⟨blk, 0, none⟩) d.size c), .func (.func g) #[] lb] w fun e w' =>
      e = .returned (.tuple #[]) ∧ ∃ d' : Array α, PermIn 0 d.size d d' ∧ SortedIn lt 0 d.size d' ∧ HoldsK enc k w' blk 0 d' ∧ w.grownBy w' (some blk) := by
  have hp := Any.sort_Slice_of_pdq sortSl t e i ie hi hd hpk hie ke hke (some ⟨blk, 0, none⟩) d.size c (by omega) f hf (.func g) #[] lb w
    (fun w' => ∃ d' : Array α, PermIn 0 d.size d d' ∧ SortedIn lt 0 d.size d' ∧ HoldsK enc k w' blk 0 d' ∧ w.grownBy w' (some blk)) ?_
  · exact hp
  have hB : sliceBound Tryd.prog e ie ke (some ⟨blk, 0, none⟩) d.size c = #[.slice (some ⟨blk, 0, none⟩) d.size c, typeHandle Tryd.prog e] := by
    unfold sliceBound
    rw [if_neg (swapperK_gt _ _ _ h2)]
  obtain ⟨w0, hw0⟩ : ∃ w0, w0 = sliceWorld Tryd.prog sortSl_ren t (some ⟨blk, 0, none⟩) d.size c w := ⟨_, rfl⟩
  have hb0 : RowKit.Below w.heap.size w w0 := by
    rw [hw0]
    unfold sliceWorld
    exact ((RowKit.Below.refl _ _).alloc (Nat.le_refl _) _).alloc (by simp) _
  have hg0 : ∀ W, w0.grownBy W (some blk) → w.grownBy W (some blk) := fun W h =>
    ⟨h.os.trans hb0.os, h.tape.trans hb0.tape, h.output.trans hb0.output, Nat.le_trans hb0.size h.size, fun q hq hne => (h.block q (Nat.lt_of_lt_of_le hq hb0.size) hne).trans (hb0.block q hq)⟩
  have hblk0 : blk < w0.heap.size := Nat.lt_of_lt_of_le hblk hb0.size
  have S : SortBy g lb f #[.slice (some ⟨blk, 0, none⟩) d.size c, typeHandle Tryd.prog e] enc k d.size lt blk w0 := {
    few := by omega
    old := hblk0
    less := fun {W dk} hR a b ha hb => (hless W dk hR.size hR.hold (hg0 W hR.grown) a b ha hb).mono fun e w' ⟨he, hbl⟩ => ⟨he, hR.below hbl, KB.ofBelow hbl⟩
    swap := fun {W dk} hR a b ha hb => by
      have q := swapSwapsK_of_literal gS f hx e ie hie enc k hk hs1 hagg h1 blk 0 d.size c W dk hR.hold hR.size a b ha hb
      exact ⟨_, q, hR.swap hk a b ha hb⟩
    eg := eg
    older := swapSwapsK_of_literal gS f hx e ie hie enc k hk hs1 hagg h1 blk 0 d.size c
    len := hk }
  rw [hB, ← hw0]
  have hlim : Lib.bitLen d.size < 1152921504606846976 := Nat.lt_of_le_of_lt (Lib.bitLen_le d.size 62 (by omega) (by omega)) (by omega)
  have hR : Rw enc k d.size w0 blk d w0 := ⟨holdsK_same hH (hb0.block blk hblk), rfl, ⟨rfl, rfl, rfl, Nat.le_refl _, fun _ _ _ => rfl⟩, hblk0⟩
  refine (pdq_any S hO (d.size + 1) 0 d.size (Lib.bitLen d.size) w0 d (by omega) hR (Nat.zero_le _) (Nat.le_refl _) hlim (Or.inl rfl)).mono ?_
  rintro e' w' ⟨rfl, hR', -⟩
  have ps := pdq_sorts lt hO d 0 d.size (Lib.bitLen d.size) true true (Nat.zero_le _) (Nat.le_refl _) (Or.inl rfl)
  exact ⟨rfl, _, ps.1, ps.2, hR'.hold, hg0 _ hR'.grown⟩

theorem pair_short {β : Type} (R : β → β → Prop) : ∀ l : List β, ¬ 2 ≤ l.length → l.Pairwise R
  | [], _ => List.Pairwise.nil
  | [x], _ => List.pairwise_singleton _ _
  | _ :: _ :: _, h => by simp at h

/-- In order, as a list; whichever length. -/
theorem slice_list (t e : TypeId) (i ie : TypeInfo) (hi : Tryd.prog.info? t = some i) (hd : i.desc = .slice e) (hpk : Tryd.prog.packed t = false) (hie : Tryd.prog.info? e = some ie) (ke : Nat) (hke : ∀ w, (Extern.Rtype.kind e).run Tryd.prog w = .ok ke w)
    (enc : α → List Value) (k : Nat) (hk : ∀ x, (enc x).length = k) (hs1 : ie.size = k) (hagg : ∀ w, (isAgg e).run Tryd.prog w = .ok true w) (h1 : ∀ x, ∀ v ∈ enc x, v.oneCell' = true) (lt : α → α → Bool) (hO : SWO lt) (g : Nat) (lb : Array Value)
    (eg : ∀ args w, (callFunc g args).run Tryd.prog w = .ok (.enter g args) w) (blk c : Nat) (l : List α) (hsz : l.length ≤ 1000)
    (f0 f1 f : Nat) (hf0 : Tryd.prog.funcs.findIdx? (·.name == "internal/reflectlite" ++ ".Swapper$" ++ toString (swapperK 0 ie ke)) = some f0) (hf1 : Tryd.prog.funcs.findIdx? (·.name == "internal/reflectlite" ++ ".Swapper$" ++ toString (swapperK 1 ie ke)) = some f1)
    (hf : ∀ m, 2 ≤ m → Tryd.prog.funcs.findIdx? (·.name == "internal/reflectlite" ++ ".Swapper$" ++ toString (swapperK m ie ke)) = some f)
    (gS : Bool) (hx : ∀ args W, (callFunc f args).run Tryd.prog W = ((Extern.ReflectliteSwapper.swap gS args).run Tryd.prog W).andThen fun v w' => .ok (.value v) w')
    (w : World) (hH : HoldsK enc k w blk 0 l.toArray) (hblk : blk < w.heap.size)
    (hless : ∀ (W : World) (dk : Array α), dk.size = l.length → HoldsK enc k W blk 0 dk → w.grownBy W (some blk) → ∀ i j : Nat, i < l.length → j < l.length →
      Calls Tryd.prog g (#[.int .i64 i, .int .i64 j] ++ lb) W fun e w' => e = .returned (.bool (lt dk[i]! dk[j]!)) ∧ RowKit.Below W.heap.size W w') :
    Calls Tryd.prog 40 #[.iface t (.slice (some ⟨blk, 0, none⟩) l.length c), .func (.func g) #[] lb] w fun e w' =>
      e = .returned (.tuple #[]) ∧ ∃ l' : List α, l'.Perm l ∧ l'.Pairwise (fun a b => lt b a = false) ∧ HoldsK enc k w' blk 0 l'.toArray ∧ w.grownBy w' (some blk) := by
  have hs : l.toArray.size = l.length := by simp
  by_cases h2 : 2 ≤ l.length
  · have q := slice_many t e i ie hi hd hpk hie ke hke enc k hk hs1 hagg h1 lt hO g lb eg blk c l.toArray (by omega) (by omega) f (hf _ (by omega)) gS hx w hH hblk (by rw [hs]; exact hless)
    rw [hs] at q
    refine q.mono ?_
    rintro e' w' ⟨rfl, d', hp, hso, hh, hg⟩
    obtain ⟨p1, -, p3⟩ := hp
    have hz : d'.size = l.length := by rw [p1, hs]
    refine ⟨rfl, d'.toList, ?_, ?_, hh, hg⟩
    · have e1 : d'.extract 0 l.length = d' := by rw [← hz]; simp
      have e2 : l.toArray.extract 0 l.length = l.toArray := by simp
      rw [e1, e2] at p3
      simpa using p3
    · rw [List.pairwise_iff_getElem]
      intro a b ha hb hab
      have ha' : a < d'.size := by simpa using ha
      have hb' : b < d'.size := by simpa using hb
      have := hso a b (Nat.zero_le _) hab (by omega)
      rw [getElem!_pos d' a ha', getElem!_pos d' b hb'] at this
      simpa using this
  · have key : ∀ (f' : Nat), Tryd.prog.funcs.findIdx? (·.name == "internal/reflectlite" ++ ".Swapper$" ++ toString (swapperK l.length ie ke)) = some f' → Calls Tryd.prog 40 #[.iface t (.slice (some ⟨blk, 0, none⟩) l.length c), .func (.func g) #[] lb] w fun e w' =>
      e = .returned (.tuple #[]) ∧ ∃ l' : List α, l'.Perm l ∧ l'.Pairwise (fun a b => lt b a = false) ∧ HoldsK enc k w' blk 0 l'.toArray ∧ w.grownBy w' (some blk) := fun f' hf' => by
      have q := Any.sort_Slice_tiny sortSl t e i ie hi hd hpk hie ke hke (some ⟨blk, 0, none⟩) l.length c (by omega) f' hf' (.func g) #[] lb w
      change Calls Tryd.prog 40 _ _ _ at q
      refine q.mono ?_
      rintro e' w' ⟨rfl, os, rfl⟩
      refine ⟨rfl, l, List.Perm.refl _, ?_, holdsK_grow enc k w os blk 0 _ hblk hH, ⟨rfl, rfl, rfl, by simp, fun q hq _ => heap_grow_old w os hq⟩⟩
      exact pair_short _ l h2
    rcases Nat.eq_zero_or_pos l.length with h0 | h0
    · exact key f0 (by rw [h0]; exact hf0)
    · exact key f1 (by rw [show l.length = 1 by omega]; exact hf1)
end Go.Proofs.YtelohoomlgjjmaaDoor
end
end
namespace Go.Proofs.YtelohoomlgjjmaaDoor
section
/- The developers' closures by which lists are sorted. -/
open Go.RowKit
attribute [local irreducible] wpQuiet

theorem byteF_mod (a k : Nat) (hk : k < 6) : byteF (a % 281474976710656) k = byteF a k := by
  obtain ⟨b0, b1, b2, b3, b4, b5⟩ := byteF_lit a
  obtain ⟨c0, c1, c2, c3, c4, c5⟩ := byteF_lit (a % 281474976710656)
  match k, hk with
  | 0, _ => rw [b0, c0]; omega
  | 1, _ => rw [b1, c1]; omega
  | 2, _ => rw [b2, c2]; omega
  | 3, _ => rw [b3, c3]; omega
  | 4, _ => rw [b4, c4]; omega
  | 5, _ => rw [b5, c5]; omega
theorem kyV_mod (v a : Nat) : kyV v (a % 281474976710656) = kyV v a := by
  unfold kyV kyA
  rw [byteF_mod a 0 (by omega), byteF_mod a 1 (by omega), byteF_mod a 2 (by omega), byteF_mod a 3 (by omega), byteF_mod a 4 (by omega), byteF_mod a 5 (by omega)]
theorem key_less2 (v a u b : Nat) (w : World) :
    Calls Tryd.prog 42 #[kyV v a, kyV u b] w fun e w' => e = .returned (.bool (decide (keyN v (a % 281474976710656) < keyN u (b % 281474976710656)))) ∧ Below w.heap.size w w' := by
  have := key_less v (a % 281474976710656) u (b % 281474976710656) (by omega) (by omega) w
  rwa [kyV_mod, kyV_mod] at this

/-- How two entries stand, whatever they are. -/
def ltS (x y : Se) : Bool := decide (keyN x.vid (x.mac % 281474976710656) < keyN y.vid (y.mac % 281474976710656))
theorem ltS_swo : Sort.SWO ltS where
  irrefl x := by simp [ltS]
  trans x y z h1 h2 := by simp [ltS] at *; omega
  ntrans x y z h1 h2 := by simp [ltS] at *; omega
instance : Inhabited Se := ⟨⟨0, 0, 0⟩⟩
theorem ltS_row {W : World} {blk n : Nat} {dk : Array Se} (h : Sort.HoldsK seC 8 W blk 0 dk) (hn : dk.size = n) (i : Nat) (hi : i < n) {w' : World} (hb : W.heap.size ≤ w'.heap.size ∧ w'.heap[blk]? = W.heap[blk]?) :
    w'.rangeAt blk (i * 8) (kyA (dk[i]!).vid (dk[i]!).mac).toList := by
  intro j u hu
  have hj : j < 7 := by
    have := (List.getElem?_eq_some_iff.1 hu).1
    simpa using this
  have q := (h.cell (i := i) (c := j) (by omega) (by omega)).1
  have e : w'.cell? ⟨blk, i * 8 + j, none⟩ = W.cell? ⟨blk, 0 + i * 8 + j, none⟩ := by
    rw [Nat.zero_add]
    simp only [World.cell?, hb.2]
  rw [e, q]
  have hl : j < (seC dk[i]!).length := by rw [show (seC dk[i]!).length = 8 from rfl]; omega
  rw [getElem!_pos (seC dk[i]!) j hl]
  generalize dk[i]! = x at hu hl ⊢
  match j, hj with
  | 0, _ => simpa [seC] using hu
  | 1, _ => simpa [seC] using hu
  | 2, _ => simpa [seC] using hu
  | 3, _ => simpa [seC] using hu
  | 4, _ => simpa [seC] using hu
  | 5, _ => simpa [seC] using hu
  | 6, _ => simpa [seC] using hu

/-- How two entries stand, whatever they are. -/
def ltE (x y : En) : Bool := decide (keyN x.vid (x.mac % 281474976710656) < keyN y.vid (y.mac % 281474976710656))
theorem ltE_swo : Sort.SWO ltE where
  irrefl x := by simp [ltE]
  trans x y z h1 h2 := by simp [ltE] at *; omega
  ntrans x y z h1 h2 := by simp [ltE] at *; omega
instance : Inhabited En := ⟨⟨0, 0, 0, 0⟩⟩
theorem ltE_row {W : World} {blk n : Nat} {dk : Array En} (h : Sort.HoldsK enC 9 W blk 0 dk) (hn : dk.size = n) (i : Nat) (hi : i < n) {w' : World} (hb : W.heap.size ≤ w'.heap.size ∧ w'.heap[blk]? = W.heap[blk]?) :
    w'.rangeAt blk (i * 9) (kyA (dk[i]!).vid (dk[i]!).mac).toList := by
  intro j u hu
  have hj : j < 7 := by
    have := (List.getElem?_eq_some_iff.1 hu).1
    simpa using this
  have q := (h.cell (i := i) (c := j) (by omega) (by omega)).1
  have e : w'.cell? ⟨blk, i * 9 + j, none⟩ = W.cell? ⟨blk, 0 + i * 9 + j, none⟩ := by
    rw [Nat.zero_add]
    simp only [World.cell?, hb.2]
  rw [e, q]
  have hl : j < (enC dk[i]!).length := by rw [show (enC dk[i]!).length = 9 from rfl]; omega
  rw [getElem!_pos (enC dk[i]!) j hl]
  generalize dk[i]! = x at hu hl ⊢
  match j, hj with
  | 0, _ => simpa [enC] using hu
  | 1, _ => simpa [enC] using hu
  | 2, _ => simpa [enC] using hu
  | 3, _ => simpa [enC] using hu
  | 4, _ => simpa [enC] using hu
  | 5, _ => simpa [enC] using hu
  | 6, _ => simpa [enC] using hu

set_option maxRecDepth 100000 in
set_option maxHeartbeats 8000000 in
theorem less48 {W : World} {blk n c Bs : Nat} {dk : Array En} (h : Sort.HoldsK enC 9 W blk 0 dk) (hn : dk.size = n) (hbl : blk < W.heap.size) (hBs : W.cell? ⟨Bs, 0, none⟩ = some (.slice (some ⟨blk, 0, none⟩) n c)) (hB : Bs < W.heap.size) (i j : Nat) (hi : i < n) (hj : j < n) (hn2 : n ≤ 1000) :
    Calls Tryd.prog 41 #[.int .i64 i, .int .i64 j, .pointer (some ⟨Bs, 0, none⟩)] W fun e w' => e = .returned (.bool (ltE dk[i]! dk[j]!)) ∧ Below W.heap.size W w' := by
  have HS := Lib.hid (show ∀ w', Below W.heap.size W w' → w'.cell? ⟨Bs, 0, none⟩ = some (.slice (some ⟨blk, 0, none⟩) n c) from fun w' hb => (hb.cell (p := ⟨Bs, 0, none⟩) hB).trans hBs)
  have HI := Lib.hid (show ∀ w', Below W.heap.size W w' → w'.rangeAt blk (i * 9) (kyA (dk[i]!).vid (dk[i]!).mac).toList from fun w' hb => ltE_row h hn i hi ⟨hb.size, hb.block blk hbl⟩)
  have HJ := Lib.hid (show ∀ w', Below W.heap.size W w' → w'.rangeAt blk (j * 9) (kyA (dk[j]!).vid (dk[j]!).mac).toList from fun w' hb => ltE_row h hn j hj ⟨hb.size, hb.block blk hbl⟩)
  have H1 := Lib.hid (show (i : Int) < (n : Int) by omega)
  have H2 := Lib.hid (show (j : Int) < (n : Int) by omega)
  have SZ := Lib.hid (show (Tryd.prog.info? 63).map (·.size) = some 7 by kernel_rfl)
  clear h hn hbl hBs hB
  go_enter Tryd.func41, Tryd.ntmps41
  go_upto_region 1 with fail
  refine wp_region_quiet (C := Below W.heap.size W) (by kernel_rfl) (by kernel_rfl) (Below.refl _ _).drew ?_
  (refine q_val (v := ?_) (by rfl) ?_ ?_; rotate_left; (· (intro w hC; have q := HS.out w hC; go_simp; try with_reducible rfl)); (try simp only [Act.put, List.getElem_toArray, List.getElem_cons_succ, List.getElem_cons_zero, List.setIfInBounds_toArray, List.set_cons_zero, List.set_cons_succ]))
  (refine q_val (v := ?_) (by rfl) ?_ ?_; rotate_left; (· (intro w hC; go_simp; try with_reducible rfl)); (try simp only [Act.put, List.getElem_toArray, List.getElem_cons_succ, List.getElem_cons_zero, List.setIfInBounds_toArray, List.set_cons_zero, List.set_cons_succ]))
  (refine q_val (v := ?_) (by rfl) ?_ ?_; rotate_left; (· (intro w hC; have q1 := H1.out; go_simp; try with_reducible rfl)); (try simp only [Act.put, List.getElem_toArray, List.getElem_cons_succ, List.getElem_cons_zero, List.setIfInBounds_toArray, List.set_cons_zero, List.set_cons_succ]))
  (refine q_val (v := ?_) (by rfl) ?_ ?_; rotate_left; (· (intro w hC; go_simp; try with_reducible rfl)); (try simp only [Act.put, List.getElem_toArray, List.getElem_cons_succ, List.getElem_cons_zero, List.setIfInBounds_toArray, List.set_cons_zero, List.set_cons_succ]))
  (refine q_val (v := kyV (dk[i]!).vid (dk[i]!).mac) (by rfl) (fun w hC => run_loadRange 63 _ rfl blk (i * 9) rfl (kyA (dk[i]!).vid (dk[i]!).mac) _ (HI.out w hC) Tryd.underlying63 rfl SZ.out) ?_; (try simp only [Act.put, List.getElem_toArray, List.getElem_cons_succ, List.getElem_cons_zero, List.setIfInBounds_toArray, List.set_cons_zero, List.set_cons_succ]))
  (refine q_val (v := ?_) (by rfl) ?_ ?_; rotate_left; (· (intro w hC; have q := HS.out w hC; go_simp; try with_reducible rfl)); (try simp only [Act.put, List.getElem_toArray, List.getElem_cons_succ, List.getElem_cons_zero, List.setIfInBounds_toArray, List.set_cons_zero, List.set_cons_succ]))
  (refine q_val (v := ?_) (by rfl) ?_ ?_; rotate_left; (· (intro w hC; go_simp; try with_reducible rfl)); (try simp only [Act.put, List.getElem_toArray, List.getElem_cons_succ, List.getElem_cons_zero, List.setIfInBounds_toArray, List.set_cons_zero, List.set_cons_succ]))
  (refine q_val (v := ?_) (by rfl) ?_ ?_; rotate_left; (· (intro w hC; have q1 := H2.out; go_simp; try with_reducible rfl)); (try simp only [Act.put, List.getElem_toArray, List.getElem_cons_succ, List.getElem_cons_zero, List.setIfInBounds_toArray, List.set_cons_zero, List.set_cons_succ]))
  (refine q_val (v := ?_) (by rfl) ?_ ?_; rotate_left; (· (intro w hC; go_simp; try with_reducible rfl)); (try simp only [Act.put, List.getElem_toArray, List.getElem_cons_succ, List.getElem_cons_zero, List.setIfInBounds_toArray, List.set_cons_zero, List.set_cons_succ]))
  (refine q_val (v := kyV (dk[j]!).vid (dk[j]!).mac) (by rfl) (fun w hC => run_loadRange 63 _ rfl blk (j * 9) rfl (kyA (dk[j]!).vid (dk[j]!).mac) _ (HJ.out w hC) Tryd.underlying63 rfl SZ.out) ?_; (try simp only [Act.put, List.getElem_toArray, List.getElem_cons_succ, List.getElem_cons_zero, List.setIfInBounds_toArray, List.set_cons_zero, List.set_cons_succ]))
  (refine q_call (v := .bool (ltE dk[i]! dk[j]!)) 42 #[kyV (dk[i]!).vid (dk[i]!).mac, kyV (dk[j]!).vid (dk[j]!).mac] (by rfl) (fun w hC => by go_simp) (fun w hC => calls_in (key_less2 _ _ _ _ w) (fun w' hb => hC.trans (hb.mono hC.size))) ?_; (try simp only [Act.put, List.getElem_toArray, List.getElem_cons_succ, List.getElem_cons_zero, List.setIfInBounds_toArray, List.set_cons_zero, List.set_cons_succ]))
  (refine q_val (v := ?_) (by rfl) ?_ ?_; rotate_left; (· (intro w hC; go_simp; try with_reducible rfl)); (try simp only [Act.put, List.getElem_toArray, List.getElem_cons_succ, List.getElem_cons_zero, List.setIfInBounds_toArray, List.set_cons_zero, List.set_cons_succ]))
  refine wpQuiet_nil ?_
  intro w5 hC5
  have K5 := Lib.hid hC5
  clear hC5
  go_wp2_with fail
  go_ret
  exact ⟨rfl, K5.out⟩
end
end Go.Proofs.YtelohoomlgjjmaaDoor
