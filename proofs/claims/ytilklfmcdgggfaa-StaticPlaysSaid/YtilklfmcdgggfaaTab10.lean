/- The developers' table: a map of its entries. The developers' table: List. The developers' table of layer 10: its small function, New, Drop, Get. The developers' table of layer 10 keeps the contract. -/
import Derived.Test.YtilklfmcdgggfaaRelK
import Derived.Test.YtilklfmcdgggfaaKx
import Derived.Test.YtilklfmcdgggfaaS10
import Derived.Test.YtilklfmcdgggfaaKept
import Derived.Test.YtilklfmcdgggfaaBks
import Derived.Test.YtilklfmcdgggfaaSortC
import Derived.Test.YtilklfmcdgggfaaCls
import Derived.Test.YtilklfmcdgggfaaLst
import Derived.Maps.RangeWalk
import Derived.Deep.DeepCutAuto
import Derived.Test.YtilklfmcdgggfaaS10b
import Derived.Test.YtilklfmcdgggfaaPlays10
import Derived.Test.YtilklfmcdgggfaaLastOp
section
namespace Go.Proofs.Ytilklfmcdgggfaa
open Go.RowKit
open Go.ChangeMaps (setBlock)
set_option linter.unusedSimpArgs false
set_option linter.unusedVariables false

/-- What the map holds for a key. -/
def vvS (x : Se) : Value := .int .u32 (x.prt : Nat)
/-- The developers' table: a block with a map of these entries. -/
def TS (w : World) (b A B : Nat) (l : List Se) : Prop :=
  ∃ (mb : Nat) (L : List (Nat × Se)), (A ≤ b ∧ b < B) ∧ (A ≤ mb ∧ mb < B) ∧ b ≠ mb ∧ Blk w b #[.map (some mb)] 108 ∧ Tb w mb kvK vvS L ∧ RelK seK L l ∧ (∀ x ∈ l, seOk x)
theorem TS.keep {w w' : World} {b A B : Nat} {l : List Se} (h : TS w b A B l) (hk : ∀ k, A ≤ k → k < B → w'.heap[k]? = w.heap[k]?) : TS w' b A B l := by
  obtain ⟨mb, L, h1, h2, h3, h4, h5, h6, h7⟩ := h
  exact ⟨mb, L, h1, h2, h3, (hk b h1.1 h1.2).trans h4, h5.same (hk mb h2.1 h2.2), h6, h7⟩
theorem TS.next {w w' : World} {b A B : Nat} {l : List Se} (h : TS w b A B l) (hB : B ≤ w.heap.size) (hb : Below w.heap.size w w') : TS w' b A B l ∧ KeptO A B w w' :=
  ⟨h.keep (fun k _ hk => hb.block k (by omega)), hb.os, hb.tape, hb.output, hb.size, fun k _ hk => hb.block k hk⟩
theorem TS.turned {w w2 : World} {b A B mb : Nat} {o : Obj} {L' : List (Nat × Se)} {l' : List Se} (h1 : A ≤ b ∧ b < B) (h2 : A ≤ mb ∧ mb < B) (h3 : b ≠ mb) (h4 : Blk w b #[.map (some mb)] 108) (hB : B ≤ w.heap.size)
    (hb : Below w.heap.size w w2) (h5 : Tb (setBlock w2 mb o) mb kvK vvS L') (h6 : RelK seK L' l') (h7 : ∀ x ∈ l', seOk x) : TS (setBlock w2 mb o) b A B l' ∧ KeptO A B w (setBlock w2 mb o) := by
  have hg := setBlock_grown w2 mb o
  refine ⟨⟨mb, L', h1, h2, h3, (h4.below hb (by omega)).grown hg (fun e => h3 (Option.some.inj e)), h5, h6, h7⟩, ?_⟩
  refine ⟨hg.os.trans hb.os, hg.tape.trans hb.tape, hg.output.trans hb.output, Nat.le_trans hb.size hg.size, fun k hk hk2 => ?_⟩
  exact (hg.block k (Nat.lt_of_lt_of_le hk2 hb.size) (fun e => by cases e; omega)).trans (hb.block k hk2)

end Go.Proofs.Ytilklfmcdgggfaa
end
section
namespace Go.Proofs.Ytilklfmcdgggfaa
open Go.RowKit
open Go.ChangeMaps (setBlock)
set_option linter.unusedSimpArgs false
set_option linter.unusedVariables false

noncomputable def lsSliceI : TypeInfo := (Try.prog.info? 88).get (by kernel_rfl)
noncomputable def lsElemI : TypeInfo := (Try.prog.info? 86).get (by kernel_rfl)
theorem ls_swap (n : Nat) (h2 : 2 ≤ n) : Lib.swapperK n lsElemI 25 = 9 := by
  have a : lsElemI.hasPointers = false := by kernel_rfl
  have b : lsElemI.bytes = 12 := by kernel_rfl
  have c : (n == 0) = false := by simp; omega
  have d : (n == 1) = false := by simp; omega
  simp [Lib.swapperK, a, b, c, d]

theorem ls_holds {w : World} {base g cap : Nat} {l : List Se} (h : Own w base 86 8 seC (.slice (some ⟨g, 0, none⟩) l.length cap) l) : Sort.HoldsK seC 8 w g 0 l.toArray := by
  intro j hj
  rw [Sort.size_flatK] at hj
  have hj2 : j < l.length * 8 := by simpa using hj
  refine ⟨?_, by rw [Nat.zero_add]; exact h.free j⟩
  have hx : j / 8 < l.length := by omega
  have e := h.at seC_len (j / 8) (j % 8) l[j / 8] (List.getElem?_eq_getElem hx) (by omega)
  rw [Nat.zero_add, Sort.get_flatK _ _ _ _ hj, show j = j / 8 * 8 + j % 8 by omega, e, show (j / 8 * 8 + j % 8) / 8 = j / 8 by omega, show (j / 8 * 8 + j % 8) % 8 = j % 8 by omega]
  rw [getElem!_pos l.toArray (j / 8) (by simpa using hx)]
  have hm : j % 8 < (seC l[j / 8]).length := by rw [seC_len]; omega
  rw [List.getElem?_eq_getElem hm]
  simp [hm]
theorem ls_src {w : World} {g c : Nat} {l : List Se} (h : Sort.HoldsK seC 8 w g 0 l.toArray) : Src w seC (.slice (some ⟨g, 0, none⟩) l.length c) l := by
  refine .inr ⟨⟨g, 0, none⟩, c, rfl, fun j u hu => ?_⟩
  have hjl : j < l.length * 8 := by
    have := (List.getElem?_eq_some_iff.1 hu).1
    rw [cellsL_len seC_len] at this
    simpa using this
  have q := (h j (by rw [Sort.size_flatK]; simpa using hjl)).1
  have hx : j / 8 < l.length := by omega
  rw [Sort.get_flatK _ _ _ _ (by simpa using hjl), getElem!_pos l.toArray (j / 8) (by simpa using hx)] at q
  have e := cellsL_at seC_len (l := l) (j / 8) (j % 8) l[j / 8] (List.getElem?_eq_getElem hx) (by omega)
  rw [show j / 8 * 8 + j % 8 = j by omega, hu] at e
  have hm : j % 8 < (seC l[j / 8]).length := by rw [seC_len]; omega
  rw [List.getElem?_eq_getElem hm] at e
  rw [getElem!_pos (seC _) (j % 8) (by simpa using hm)] at q
  have e1 : u = (seC l[j / 8])[j % 8] := Option.some.inj e
  rw [e1]
  have ea : (⟨g, 0, none⟩ : Addr).add j = ⟨g, 0 + j, none⟩ := by
    unfold Addr.add
    split <;> simp_all
  rw [ea, q]
  simp

/-- The sort of the developers' List. -/
theorem ls_sort {w : World} {base g cap Bs : Nat} {l : List Se} (h : Own w base 86 8 seC (.slice (some ⟨g, 0, none⟩) l.length cap) l) (hg : g < w.heap.size) (hl : l.length ≤ 1000) (hBs : w.cell? ⟨Bs, 0, none⟩ = some (.slice (some ⟨g, 0, none⟩) l.length cap)) (hB : Bs < w.heap.size) (hne : Bs ≠ g) :
    Calls Try.prog 47 #[.iface 88 (.slice (some ⟨g, 0, none⟩) l.length cap), .func (.func 53) #[] #[.pointer (some ⟨Bs, 0, none⟩)]] w fun e w' => e = .returned (.tuple #[]) ∧ ∃ l' : List Se, l'.Perm l ∧ l'.Pairwise (fun a b => ltS b a = false) ∧ Src w' seC (.slice (some ⟨g, 0, none⟩) l.length cap) l' ∧ w.grownBy w' (some g) := by
  refine (slice_list 88 86 lsSliceI lsElemI (by kernel_rfl) (by kernel_rfl) (by kernel_rfl) (by kernel_rfl) 25 (fun _ => by kernel_rfl) seC 8 seC_len (by kernel_rfl) (fun _ => by kernel_rfl) seC_one ltS ltS_swo 53 #[.pointer (some ⟨Bs, 0, none⟩)]
    (enters_of Try.func53 (by kernel_rfl) rfl) g cap l hl 66 67 74 (by kernel_rfl) (by kernel_rfl) (fun m hm => by rw [ls_swap m hm]; kernel_rfl) false
    (fun args W => run_callFunc_extern Try.func74 (by kernel_rfl) (by kernel_rfl) (by kernel_rfl) (e := Extern.ReflectliteSwapper.swap false) (by kernel_rfl) args W) w (ls_holds h) hg ?_).mono ?_
  · intro W dk hs hh hgr i j hi hj
    exact less53 hh hs (Nat.lt_of_lt_of_le hg hgr.size) (by rw [World.cell?_of_block (hgr.block Bs hB (fun e => hne (Option.some.inj e)))]; exact hBs) (Nat.lt_of_lt_of_le hB hgr.size) i j hi hj hl
  · rintro e w' ⟨rfl, l', hp, hs, hh, hgr⟩
    have q := ls_src (c := cap) hh
    rw [hp.length_eq] at q
    exact ⟨rfl, l', hp, hs, q, hgr⟩

theorem ltS_le {x y : Se} (hx : seOk x) (hy : seOk y) (h : ltS y x = false) : seK x ≤ seK y := by
  unfold ltS at h
  have := of_decide_eq_false h
  have e1 : x.mac % 281474976710656 = x.mac := Nat.mod_eq_of_lt hx
  have e2 : y.mac % 281474976710656 = y.mac := Nat.mod_eq_of_lt hy
  rw [e1, e2] at this
  unfold seK
  omega
/-- What a round of the list finds. -/
structure lsLoop (w : World) (r mb Bs : Nat) (L : List (Nat × Se)) (left : List (Nat × Se)) (pre : List Se) (v : Value) (wr : World) : Prop where
  it : It wr r mb kvK vvS L left
  own : Own wr w.heap.size 86 8 seC v pre
  box : Blk wr Bs #[v] 88
  perm : (pre ++ left.map (·.2)).Perm (L.map (·.2))
  below : Below w.heap.size w wr
  low : w.heap.size ≤ Bs
  ne : ∃ g, v.ownBlock = some g ∧ g ≠ r ∧ g ≠ Bs
  nr : Bs ≠ r

set_option maxRecDepth 100000 in
set_option maxHeartbeats 16000000 in
theorem list35 {w : World} {b A B : Nat} {l : List Se} (h : TS w b A B l) (hf : l.length ≤ 100) :
    Calls Try.prog 35 #[.pointer (some ⟨b, 0, none⟩)] w fun e w' => ∃ v, e = .returned v ∧ Src w' seC v l ∧ Below w.heap.size w w' := by
  obtain ⟨mb, L, h1, h2, h3, h4, h5, h6, h7⟩ := h
  have hmb := Lib.hid h5.lt
  have hc := h4.cell 0
  simp only [List.getElem?_toArray, List.getElem?_cons_zero, List.getElem?_cons_succ] at hc
  have hlen := h5.len (P := Try.prog) Try.underlying106 3
  obtain ⟨n, hn⟩ : ∃ n, L.length = n := ⟨_, rfl⟩
  rw [hn] at hlen
  have HN := Lib.hid hn
  have hn16 : n ≤ 100 := by rw [← hn, h6.len]; exact hf
  obtain ⟨i, z, hi, hz, hs, hby, hzs⟩ : ∃ i z, Try.prog.info? 86 = some i ∧ i.zero = some z ∧ i.size = 8 ∧ i.bytes = 12 ∧ z.cells.size = 8 := ⟨_, _, rfl, rfl, rfl, rfl, rfl⟩
  have HI := Lib.hid hi
  have HZ := Lib.hid hz
  have HS := Lib.hid hs
  have HBY := Lib.hid hby
  have HZS := Lib.hid hzs
  have H4 := Lib.hid h4
  have H5 := Lib.hid h5
  clear hi hz hs hby hzs h4 h5 hn
  go_enter Try.func35, Try.ntmps35
  go_upto_region 4 with (refine wpList_make_own w rfl _ _ 88 rfl w.heap.size 86 i z 8 Try.underlying88 HI.out HZ.out HS.out .i64 .i64 n n rfl rfl rfl (by rw [HBY.out]; omega) (by unfold maxLen; omega) (Nat.le_refl _) ?_; intro w1 ho1 hg1)
  have O1 := Lib.hid (show Own w1 w.heap.size 86 8 seC (.slice (some ⟨w.heap.size, 0, none⟩) 0 n) [] from ho1)
  have B1 := Lib.hid (show Below w.heap.size w w1 from (Below.refl _ _).grown hg1 (Nat.le_refl _) (fun k e => by cases e))
  have hgl : w.heap.size < w1.heap.size := (O1.out.lt w.heap.size rfl).2
  clear hg1 ho1 hlen hc
  obtain ⟨wB, hwB⟩ : ∃ wB, wB = w1.alloc (.cells #[.slice (some ⟨w.heap.size, 0, none⟩) 0 n] 88) := ⟨_, rfl⟩
  obtain ⟨Bs, hBs⟩ : ∃ Bs, Bs = w1.heap.size := ⟨_, rfl⟩
  have OB := Lib.hid (show Own wB w.heap.size 86 8 seC (.slice (some ⟨w.heap.size, 0, none⟩) 0 n) [] by rw [hwB]; exact O1.out.alloc _)
  have KB1 := Lib.hid (show Blk wB Bs #[.slice (some ⟨w.heap.size, 0, none⟩) 0 n] 88 by rw [hwB, hBs]; exact Blk.new _ _ _)
  have BB := Lib.hid (show Below w.heap.size w wB by rw [hwB]; exact B1.out.alloc B1.out.size _)
  have HBG := Lib.hid (show w.heap.size < Bs by rw [hBs]; exact hgl)
  rw [← hwB, ← hBs]
  clear hgl hwB hBs O1 B1
  have hc1 := (H4.out.below BB.out H4.out.lt).cell 0
  simp only [List.getElem?_toArray, List.getElem?_cons_zero, List.getElem?_cons_succ] at hc1
  obtain ⟨ob, hrg, hit⟩ := (H5.out.next BB.out).range (P := Try.prog) Try.underlying106
  have hrng : (Instr.range 106 (.map (some mb))).run Try.prog wB = .ok (.pointer (some ⟨wB.heap.size, 0, none⟩)) (wB.alloc ob) := hrg
  obtain ⟨w2, hw2⟩ : ∃ w2, w2 = wB.alloc ob := ⟨_, rfl⟩
  rw [← hw2] at hrng hit
  obtain ⟨r, hr⟩ : ∃ r, r = wB.heap.size := ⟨_, rfl⟩
  rw [← hr] at hrng hit
  have HR := Lib.hid (show Bs < r by rw [hr]; exact KB1.out.lt)
  have I0 := Lib.hid (show lsLoop w r mb Bs L L [] (.slice (some ⟨w.heap.size, 0, none⟩) 0 n) w2 from
    ⟨hit, by rw [hw2]; exact OB.out.alloc _, by rw [hw2]; exact KB1.out.alloc _, List.Perm.refl _, by rw [hw2]; exact BB.out.alloc BB.out.size _, Nat.le_of_lt HBG.out, ⟨w.heap.size, rfl, by have := HBG.out; have := HR.out; omega, by have := HBG.out; omega⟩, by have := HR.out; omega⟩)
  clear hrg hit hw2 hr
  go_upto_region 5 with fail
  clear hc1 hrng
  go_loopw [] (fun wr => ∃ (left : List (Nat × Se)) (pre : List Se) (v : Value), lsLoop w r mb Bs L left pre v wr) (fun wr => wr.rangeLeft mb r)
  case atStart => exact ⟨L, [], _, I0.out⟩
  case round =>
    obtain ⟨left, pre, v, hlp⟩ := hrel
    have LP := Lib.hid hlp
    have hit := hlp.it
    clear hlp
    rcases hit.step (P := Try.prog) (by have := hmb.out; have := HR.out; have := HBG.out; omega) 0 with ⟨h0, hnx⟩ | ⟨j, x, y, w3, hj, hnx, hit3, hg3, hs3, hen⟩
    · clear hit
      have HL0 := Lib.hid h0
      clear h0
      obtain ⟨g, hob, hgr, hgb⟩ := LP.out.ne
      obtain ⟨cap, rfl, hgw⟩ : ∃ cap, v = .slice (some ⟨g, 0, none⟩) pre.length cap ∧ g < wr.heap.size := by
        rcases LP.out.own.cases with ⟨hv, -⟩ | ⟨g2, cap, hv, -, hlt, -⟩
        · rw [hv] at hob
          cases hob
        · rw [hv] at hob
          have e : g2 = g := Option.some.inj hob
          exact ⟨cap, by rw [hv, e], e ▸ hlt⟩
      have hp := LP.out.perm
      rw [HL0.out, List.map_nil, List.append_nil] at hp
      have HPP := Lib.hid hp
      have hlen : pre.length ≤ 1000 := by
        rw [hp.length_eq, List.length_map, HN.out]
        omega
      have c0 := LP.out.box.cell 0
      simp only [List.getElem?_toArray, List.getElem?_cons_zero] at c0
      have hsrt := ls_sort (Bs := Bs) LP.out.own hgw hlen c0 LP.out.box.lt (fun e => hgb e.symm)
      have HS := Lib.hid hsrt
      have HGO := Lib.hid (LP.out.own.lt g rfl).1
      have HGB := Lib.hid hgb
      clear hlen hp hgw hsrt hob hgr hgb
      have HLEN := Lib.hid (show pre.length = pre.length from rfl)
      generalize hpl : pre.length = pl at *
      go_upto_region 9 with (go_at_call 47; refine HS.out.mono ?_; rintro e w5 ⟨rfl, l', q1, q2, q3, q4⟩)
      have c5 := (LP.out.box.grown q4 (fun e => HGB.out (Option.some.inj e).symm)).cell 0
      simp only [List.getElem?_toArray, List.getElem?_cons_zero] at c5
      have Q1 := Lib.hid q1
      have Q2 := Lib.hid q2
      have Q3 := Lib.hid q3
      have Q4 := Lib.hid q4
      clear q1 q2 q3 q4 c0
      go_wp2_with fail
      go_ret
      refine ⟨_, rfl, ?_, LP.out.below.grown Q4.out LP.out.below.size (fun k e => by cases e; exact HGO.out)⟩
      have hmem : ∀ z ∈ l', seOk z := fun z hz => h7 z (h6.2.map (·.2) |>.mem_iff.1 ((Q1.out.trans HPP.out).mem_iff.1 hz) |> fun q => by
        obtain ⟨u, hu, rfl⟩ := List.mem_map.1 q
        obtain ⟨u2, hu2, rfl⟩ := List.mem_map.1 hu
        exact hu2)
      have q3 := Q3.out
      rw [h6.sorted (Q1.out.trans HPP.out) (List.Pairwise.imp_of_mem (fun {a c} ha hc hh => ltS_le (hmem a ha) (hmem c hc) hh) Q2.out)] at q3
      exact q3
    · clear hit
      have hxy := h6.mem (LP.out.it.sub.mem (List.mem_of_getElem? hj))
      obtain ⟨rfl, hyl⟩ : x = seK y ∧ y ∈ l := hxy
      have hyo := h7 y hyl
      have ekv : kvK (seK y) = kyV y.vid y.mac := kvK_of y.vid y.mac hyo
      rw [ekv] at hnx hen
      unfold vvS at hnx hen
      have HIt3 := Lib.hid hit3
      have HG3 := Lib.hid hg3
      have HS3 := Lib.hid hs3
      have HJ := Lib.hid hj
      obtain ⟨g, hob, hgr, hgb⟩ := LP.out.ne
      have o3 : Own w3 w.heap.size 86 8 seC v pre := LP.out.own.kept hg3 (.inr (by rw [hob]; intro e; exact hgr (Option.some.inj e)))
      have b3 : Blk w3 Bs #[v] 88 := LP.out.box.grown hg3 (fun e => LP.out.nr (Option.some.inj e))
      obtain ⟨w5, hw5⟩ : ∃ w5, w5 = (w3.alloc (.cells (kyA y.vid y.mac) 36)).alloc (.cells (seA y) 86) := ⟨_, rfl⟩
      have o5 : Own w5 w.heap.size 86 8 seC v pre := by rw [hw5]; exact (o3.alloc _).alloc _
      have b5 : Blk w5 Bs #[v] 88 := by rw [hw5]; exact (b3.alloc _).alloc _
      have s5 : Src w5 seC (.slice (some ⟨w3.heap.size + 1, 0, none⟩) 1 1) [y] := by
        refine .inr ⟨⟨w3.heap.size + 1, 0, none⟩, 1, rfl, fun j u hu => ?_⟩
        have hk : Blk w5 (w3.heap.size + 1) (seA y) 86 := by
          have := Blk.new (w3.alloc (.cells (kyA y.vid y.mac) 36)) (seA y) 86
          rw [hw5]
          simpa using this
        have ea : (⟨w3.heap.size + 1, 0, none⟩ : Addr).add j = ⟨w3.heap.size + 1, j, none⟩ := by
          unfold Addr.add
          split <;> simp_all
        rw [ea, hk.cell]
        simpa [cellsL, seC] using hu
      have hpl : pre.length ≤ 100 := by
        have := LP.out.perm.length_eq
        rw [List.length_append, List.length_map, List.length_map, HN.out] at this
        omega
      have hw3s : w.heap.size ≤ w3.heap.size := Nat.le_trans LP.out.below.size hg3.size
      obtain ⟨v6, w6, hrun, o6, hg6, hv6⟩ := o5.app (P := Try.prog) (t := 88) (ty := 88) s5 Try.underlying88 HI.out HZ.out HS.out HBY.out HZS.out (by omega) seC_len seC_one
        (by unfold maxLen; simp; omega) (by simp; omega) (by rw [hw5]; simp; omega)
      obtain ⟨g9, m9, c9, hv9⟩ : ∃ g9 m9 c9, v6 = .slice (some ⟨g9, 0, none⟩) m9 c9 := by
        rcases o6.cases with ⟨-, q⟩ | ⟨g9, c9, q, -⟩
        · exact absurd q (by simp)
        · exact ⟨g9, _, c9, q⟩
      subst hv9
      have g6 := hg6
      rw [hob] at g6
      have b6 : Blk w6 Bs #[v] 88 := b5.grown g6 (fun e => hgb (Option.some.inj e).symm)
      have c3 := (b3.alloc (.cells (kyA y.vid y.mac) 36)).cell 0
      have c6 := b6.cell 0
      have f6 := b6.free 0
      simp only [List.getElem?_toArray, List.getElem?_cons_zero] at c3 c6
      have O6 := Lib.hid o6
      have G6 := Lib.hid g6
      have V6 := Lib.hid hv6
      have B6 := Lib.hid b6
      have HW5 := Lib.hid hw5
      have HOB := Lib.hid hob
      have HGR := Lib.hid hgr
      have HGB := Lib.hid hgb
      have HW3 := Lib.hid hw3s
      have B3 := Lib.hid b3
      clear o3 o5 s5 b5 hpl o6 hg6 hv6 hj hit3 hg3 hs3 g6 b6 hob hgr hgb ekv hyl hw3s b3
      rw [hw5] at hrun
      clear hw5
      go_wp2_with (at_builtin; refine wpList_append_lst rfl _ _ 88 rfl (.slice (some ⟨g9, 0, none⟩) m9 c9) w6 hrun ?_)
      have hm := hmb.out
      have hbg := HBG.out
      have hrr := HR.out
      have hw5s : w5.heap.size = w3.heap.size + 1 + 1 := by rw [HW5.out]; simp
      have it5 : It w5 r mb kvK vvS L (left.eraseIdx j) := by rw [HW5.out]; exact (HIt3.out.alloc _).alloc _
      have hge := (LP.out.own.lt g HOB.out).1
      have it6 := it5.grown G6.out (fun e => HGR.out (Option.some.inj e).symm) (fun e => by have := Option.some.inj e; omega)
      have b3 := LP.out.below.grown HG3.out LP.out.below.size (fun k e => by cases e; omega)
      have b5 : Below w.heap.size w w5 := by rw [HW5.out]; exact (b3.alloc b3.size _).alloc (by have := b3.size; simp; omega) _
      have b6 := b5.grown G6.out b5.size (fun k e => by cases e; exact hge)
      have hr5 : r < w5.heap.size := it5.lt
      have hB5 : Bs < w5.heap.size := by have := B3.out.lt; omega
      have hv7 : ∃ g', (Value.slice (some ⟨g9, 0, none⟩) m9 c9).ownBlock = some g' ∧ g' ≠ r ∧ g' ≠ Bs := by
        rcases V6.out with hv | hv
        · exact ⟨g, hv.trans HOB.out, HGR.out, HGB.out⟩
        · exact ⟨w5.heap.size, hv, by omega, by omega⟩
      have it7 : It (w6.setCell ⟨Bs, 0, none⟩ (.slice (some ⟨g9, 0, none⟩) m9 c9)) r mb kvK vvS L (left.eraseIdx j) := it6.setCell (by show r ≠ Bs; omega) (by show mb ≠ Bs; omega) (.slice (some ⟨g9, 0, none⟩) m9 c9)
      refine ⟨⟨left.eraseIdx j, pre ++ [y], (.slice (some ⟨g9, 0, none⟩) m9 c9), it7, ?_, ?_, perm_left LP.out.perm HJ.out, b6.setCell (by show w.heap.size ≤ Bs; omega) _, LP.out.low, hv7, LP.out.nr⟩, ?_⟩
      · obtain ⟨g', e1, -, e2⟩ := hv7
        exact O6.out.setCell (by rw [e1]; intro q; exact e2 (Option.some.inj q)) _
      · have q := B6.out.set 0 (.slice (some ⟨g9, 0, none⟩) m9 c9)
        simpa using q
      · rw [it7.left_eq, LP.out.it.left_eq, List.length_eraseIdx]
        have := (List.getElem?_eq_some_iff.1 HJ.out).1
        rw [if_pos this]
        omega
end Go.Proofs.Ytilklfmcdgggfaa
end
section
namespace Go.Proofs.Ytilklfmcdgggfaa
open Go.RowKit
attribute [local irreducible] wpQuiet
open Go.ChangeMaps (setBlock)
set_option linter.unusedSimpArgs false
set_option linter.unusedVariables false

set_option maxRecDepth 100000 in
set_option maxHeartbeats 4000000 in
theorem fault_any (x : Se) (w : World) : Calls Try.prog 51 #[seV x] w fun e w' => e = .returned (.int .i64 (goodS x)) ∧ Below w.heap.size w w' := by
  obtain ⟨vid, a, prt⟩ := x
  have HB := Lib.hid ((Below.refl w.heap.size w).alloc (Nat.le_refl _) (.cells (seA ⟨vid, a, prt⟩) 86))
  by_cases h1 : vid < 1
  · have R := Lib.hid (show (15 : Int) = goodS ⟨vid, a, prt⟩ by unfold goodS; rw [if_pos (.inl h1)])
    have e1 : decide ((vid : Int) < 1) = true := by rw [decide_eq_true_eq]; omega
    clear h1
    go_enter Try.func51, Try.ntmps51
    go_wp2
    go_ret
    exact ⟨ret_int R.out, HB.out⟩
  have e1 : decide ((vid : Int) < 1) = false := by rw [decide_eq_false_iff_not]; omega
  by_cases h2 : 4094 < vid
  · have R := Lib.hid (show (15 : Int) = goodS ⟨vid, a, prt⟩ by unfold goodS; rw [if_pos (.inr h2)])
    have e2 : decide (4094 < (vid : Int)) = true := by rw [decide_eq_true_eq]; omega
    clear h1 h2
    go_enter Try.func51, Try.ntmps51
    go_wp2
    go_ret
    exact ⟨ret_int R.out, HB.out⟩
  have e2 : decide (4094 < (vid : Int)) = false := by rw [decide_eq_false_iff_not]; omega
  have hnv : ¬ (vid < 1 ∨ 4094 < vid) := by omega
  have K0 := Lib.hid (Blk.new w (seA ⟨vid, a, prt⟩) 86)
  cases h3 : resB (byteF a) with
  | true =>
    have R := Lib.hid (show (6 : Int) = goodS ⟨vid, a, prt⟩ by unfold goodS; rw [if_neg hnv, if_pos h3])
    have H3 := Lib.hid h3
    clear h1 h2 hnv h3
    go_enter Try.func51, Try.ntmps51
    go_wp2_with (go_at_call 63; refine (reserved_any (byteF a) _ (byteF_six a)).mono ?_; rintro e w1 ⟨rfl, hb1⟩; rw [H3.out])
    go_ret
    exact ⟨ret_int R.out, HB.out.trans (hb1.mono HB.out.size)⟩
  | false =>
    have H3 := Lib.hid h3
    by_cases h4 : 65535 < prt
    · have R := Lib.hid (show (14 : Int) = goodS ⟨vid, a, prt⟩ by unfold goodS; rw [if_neg hnv, if_neg (by rw [h3]; decide), if_pos h4])
      have e4 : ((prt : Int) / 65536 != 0) = true := by simp; omega
      clear h1 h2 hnv h3 h4
      go_enter Try.func51, Try.ntmps51
      go_upto_region 5 with (go_at_call 63; refine (reserved_any (byteF a) _ (byteF_six a)).mono ?_; rintro e w1 ⟨rfl, hb1⟩; rw [H3.out])
      have c7 : w1.cell? ⟨w.heap.size, 7, none⟩ = some (.int .u32 (prt : Nat)) := by rw [(K0.out.below hb1 K0.out.lt).cell 7]; rfl
      have HB1 := Lib.hid hb1
      clear hb1
      go_wp2
      go_ret
      exact ⟨ret_int R.out, HB.out.trans (HB1.out.mono HB.out.size)⟩
    · have R := Lib.hid (show (0 : Int) = goodS ⟨vid, a, prt⟩ by unfold goodS; rw [if_neg hnv, if_neg (by rw [h3]; decide), if_neg h4])
      have e4 : ((prt : Int) / 65536 != 0) = false := by simp; omega
      clear h1 h2 hnv h3 h4
      go_enter Try.func51, Try.ntmps51
      go_upto_region 5 with (go_at_call 63; refine (reserved_any (byteF a) _ (byteF_six a)).mono ?_; rintro e w1 ⟨rfl, hb1⟩; rw [H3.out])
      have c7 : w1.cell? ⟨w.heap.size, 7, none⟩ = some (.int .u32 (prt : Nat)) := by rw [(K0.out.below hb1 K0.out.lt).cell 7]; rfl
      have HB1 := Lib.hid hb1
      clear hb1
      go_wp2
      go_ret
      exact ⟨ret_int R.out, HB.out.trans (HB1.out.mono HB.out.size)⟩

theorem zeroS (W : World) : (zeroValue 78).run Try.prog W = .ok (.int .u32 0) W := by kernel_rfl
theorem lookS_no {w : World} {mb : Nat} {L : List (Nat × Se)} (h : Tb w mb kvK vvS L) (vid a : Nat) (ha : a < 281474976710656) (g : getL (keyN vid a) L = none) :
    (Instr.lookup 106 (.map (some mb)) (kyV vid a) true).run Try.prog w = .ok (.tuple #[.int .u32 0, .bool false]) w := by
  have := Tb.look h ky_keys Try.underlying106 (keyN vid a) trivial (fun _ _ => trivial) (zeroS w) true
  rw [g, kvK_of vid a ha] at this
  exact this
theorem lookS_yes {w : World} {mb : Nat} {L : List (Nat × Se)} (h : Tb w mb kvK vvS L) (vid a : Nat) (ha : a < 281474976710656) (x : Se) (g : getL (keyN vid a) L = some x) :
    (Instr.lookup 106 (.map (some mb)) (kyV vid a) true).run Try.prog w = .ok (.tuple #[.int .u32 (x.prt : Nat), .bool true]) w := by
  have := Tb.look h ky_keys Try.underlying106 (keyN vid a) trivial (fun _ _ => trivial) (zeroS w) true
  rw [g, kvK_of vid a ha] at this
  exact this

theorem new_ts (w : World) : Calls Try.prog 28 #[] w fun e w' => ∃ b, e = .returned (.pointer (some ⟨b, 0, none⟩)) ∧ TS w' b w.heap.size w'.heap.size [] ∧ Below w.heap.size w w' := by
  have hmm := @run_makeMap Try.prog
  go_enter Try.func28, Try.ntmps28
  go_wp2
  go_ret
  refine ⟨_, rfl, ⟨w.heap.size, [], ?_, ?_, ?_, ?_, (Tb.new w kvK vvS).alloc _, RelK.nil, by simp⟩, ((Below.refl w.heap.size w).alloc (Nat.le_refl _) _).alloc (by simp) _⟩
  · simp
    try omega
  · simp
    try omega
  · simp
  · have := Blk.new (w.alloc (.map #[] 0)) #[.map (some w.heap.size)] 108
    simpa using this

theorem seven {w : World} {g vid a : Nat} (h : Blk w g (kyA vid a) 36) : w.cell? ⟨g, 0, none⟩ = some (.int .u16 (vid : Nat)) ∧ w.cell? ⟨g, 1, none⟩ = some (.int .u8 (byteF a 0 : Nat)) ∧ w.cell? ⟨g, 2, none⟩ = some (.int .u8 (byteF a 1 : Nat)) ∧ w.cell? ⟨g, 3, none⟩ = some (.int .u8 (byteF a 2 : Nat)) ∧ w.cell? ⟨g, 4, none⟩ = some (.int .u8 (byteF a 3 : Nat)) ∧ w.cell? ⟨g, 5, none⟩ = some (.int .u8 (byteF a 4 : Nat)) ∧ w.cell? ⟨g, 6, none⟩ = some (.int .u8 (byteF a 5 : Nat)) :=
  ⟨h.cell 0, h.cell 1, h.cell 2, h.cell 3, h.cell 4, h.cell 5, h.cell 6⟩

/-- The slots, while the region runs. -/
structure Dr29S (b mb g vid a : Nat) (f1 f2 f4 f5 f6 f7 f8 f9 f10 f11 f12 f13 f14 f15 f16 f17 f18 f19 : Value) (L : Nat → Bool) (v20 v21 v22 v23 v24 : Value) : Prop where
  e20 : L 0 = true → v20 = .pointer (some ⟨b, 0, none⟩)
  e21 : L 1 = true → v21 = .pointer (some ⟨b, 0, none⟩)
  e22 : L 2 = true → v22 = .pointer (some ⟨b, 0, none⟩)
  e23 : L 3 = true → v23 = .map (some mb)
  e24 : L 4 = true → v24 = kyV vid a
abbrev Dr29F (b mb g vid a : Nat) (f1 f2 f4 f5 f6 f7 f8 f9 f10 f11 f12 f13 f14 f15 f16 f17 f18 f19 : Value) (v20 v21 v22 v23 v24 : Value) : Act := { tmps := #[.pointer (some ⟨b, 0, none⟩), f1, f2, .pointer (some ⟨g, 0, none⟩), f4, f5, f6, f7, f8, f9, f10, f11, f12, f13, f14, f15, f16, f17, f18, f19, v20, v21, v22, v23, v24], defers := [] }
def Dr29I (b mb g vid a : Nat) (f1 f2 f4 f5 f6 f7 f8 f9 f10 f11 f12 f13 f14 f15 f16 f17 f18 f19 : Value) (L : Nat → Bool) (ac : Act) : Prop :=
  ∃ v20 v21 v22 v23 v24, ac = Dr29F b mb g vid a f1 f2 f4 f5 f6 f7 f8 f9 f10 f11 f12 f13 f14 f15 f16 f17 f18 f19 v20 v21 v22 v23 v24 ∧ Dr29S b mb g vid a f1 f2 f4 f5 f6 f7 f8 f9 f10 f11 f12 f13 f14 f15 f16 f17 f18 f19 L v20 v21 v22 v23 v24

theorem kySize : (Try.prog.info? 36).map (·.size) = some 7 := by kernel_rfl
set_option maxRecDepth 100000 in
set_option maxHeartbeats 8000000 in
theorem drop_ts {w : World} {b A B : Nat} {l : List Se} (vid a : Nat) (ha : a < 281474976710656) (h : TS w b A B l) (hAB : A ≤ B) (hB : B ≤ w.heap.size) :
    Calls Try.prog 29 #[.pointer (some ⟨b, 0, none⟩), kyV vid a] w fun e w' => e = .returned (.int .i64 (dropSE l (keyN vid a))) ∧ TS w' b A B (cutK seK (keyN vid a) l) ∧ KeptO A B w w' := by
  obtain ⟨mb, L, h1, h2, h3, h4, h5, h6, h7⟩ := h
  have H : TS w b A B l := ⟨mb, L, h1, h2, h3, h4, h5, h6, h7⟩
  obtain ⟨w1, hw1⟩ : ∃ w1, w1 = w.alloc (.cells (kyA vid a) 36) := ⟨_, rfl⟩
  have hb1 : Below w.heap.size w w1 := by rw [hw1]; exact (Below.refl w.heap.size w).alloc (Nat.le_refl _) _
  obtain ⟨g, hg⟩ : ∃ g, g = w.heap.size := ⟨_, rfl⟩
  have hk1 : Blk w1 g (kyA vid a) 36 := by rw [hw1, hg]; exact Blk.new _ _ _
  have h4' := h4.below hb1 (by omega)
  have h5' := h5.next hb1
  have HC := Lib.hid (show ∀ w', Below w1.heap.size w1 w' → w'.cell? ⟨b, 0, none⟩ = some (.map (some mb)) from fun w' hb => by rw [(h4'.below hb h4'.lt).cell]; rfl)
  have HK := Lib.hid (show ∀ w', Below w1.heap.size w1 w' → Blk w' g (kyA vid a) 36 from fun w' hb => hk1.below hb hk1.lt)
  have SZ := Lib.hid kySize
  have HB1 := Lib.hid hb1
  have HW := Lib.hid hw1
  have HG := Lib.hid hg
  have HH := Lib.hid H
  have H4 := Lib.hid h4
  have H5 := Lib.hid h5'
  rcases h6.get (keyN vid a) with ⟨g1, g2⟩ | ⟨k, x, g1, g2, g3, g4⟩
  · have HL := Lib.hid (show ∀ w', Below w1.heap.size w1 w' → (Instr.lookup 106 (.map (some mb)) (kyV vid a) true).run Try.prog w' = .ok (.tuple #[.int .u32 0, .bool false]) w' from fun w' hb => lookS_no (h5'.next hb) vid a ha g2)
    have R1 := Lib.hid (show (11 : Int) = dropSE l (keyN vid a) by unfold dropSE; rw [g1, if_pos (by omega)])
    have R2 := Lib.hid (show cutK seK (keyN vid a) l = l by unfold cutK; rw [g1, if_pos (by omega)])
    clear h4 h5 g1 g2 H hk1 hb1 hw1 h4' h5' hg
    go_enter Try.func29, Try.ntmps29
    go_upto_region 1 with fail
    rw [← HW.out, ← HG.out]
    go_upto_region 3 with fail
    refine wp_region_quiet (C := Below w1.heap.size w1) (by kernel_rfl) (by kernel_rfl) (Below.refl _ _).drew ?_
    (refine q_val (v := ?_) (by rfl) ?_ ?_; rotate_left; (· (intro w hC; go_simp; try with_reducible rfl)); (try simp only [Act.put, List.getElem_toArray, List.getElem_cons_succ, List.getElem_cons_zero, List.setIfInBounds_toArray, List.set_cons_zero, List.set_cons_succ]))
    (refine q_val (v := ?_) (by rfl) ?_ ?_; rotate_left; (· (intro w hC; go_simp; try with_reducible rfl)); (try simp only [Act.put, List.getElem_toArray, List.getElem_cons_succ, List.getElem_cons_zero, List.setIfInBounds_toArray, List.set_cons_zero, List.set_cons_succ]))
    (refine q_val (v := ?_) (by rfl) ?_ ?_; rotate_left; (· (intro w hC; go_simp; try with_reducible rfl)); (try simp only [Act.put, List.getElem_toArray, List.getElem_cons_succ, List.getElem_cons_zero, List.setIfInBounds_toArray, List.set_cons_zero, List.set_cons_succ]))
    (refine q_val (v := ?_) (by rfl) ?_ ?_; rotate_left; (· (intro w hC; have q := HC.out w hC; go_simp; try with_reducible rfl)); (try simp only [Act.put, List.getElem_toArray, List.getElem_cons_succ, List.getElem_cons_zero, List.setIfInBounds_toArray, List.set_cons_zero, List.set_cons_succ]))
    (refine q_val (v := kyV vid a) (by rfl) (fun w hC => run_loadVar_of 36 _ rfl g rfl 36 (kyA vid a) _ (HK.out w hC) Try.underlying36 rfl SZ.out) ?_; (try simp only [Act.put, List.getElem_toArray, List.getElem_cons_succ, List.getElem_cons_zero, List.setIfInBounds_toArray, List.set_cons_zero, List.set_cons_succ]))
    (refine q_val (v := ?_) (by rfl) ?_ ?_; rotate_left; (· (intro w hC; have q := HL.out w hC; go_simp; try with_reducible rfl)); (try simp only [Act.put, List.getElem_toArray, List.getElem_cons_succ, List.getElem_cons_zero, List.setIfInBounds_toArray, List.set_cons_zero, List.set_cons_succ]))
    (refine q_val (v := ?_) (by rfl) ?_ ?_; rotate_left; (· (intro w hC; go_simp; try with_reducible rfl)); (try simp only [Act.put, List.getElem_toArray, List.getElem_cons_succ, List.getElem_cons_zero, List.setIfInBounds_toArray, List.set_cons_zero, List.set_cons_succ]))
    (refine q_val (v := ?_) (by rfl) ?_ ?_; rotate_left; (· (intro w hC; go_simp; try with_reducible rfl)); (try simp only [Act.put, List.getElem_toArray, List.getElem_cons_succ, List.getElem_cons_zero, List.setIfInBounds_toArray, List.set_cons_zero, List.set_cons_succ]))
    (refine q_val (v := ?_) (by rfl) ?_ ?_; rotate_left; (· (intro w hC; go_simp; try with_reducible rfl)); (try simp only [Act.put, List.getElem_toArray, List.getElem_cons_succ, List.getElem_cons_zero, List.setIfInBounds_toArray, List.set_cons_zero, List.set_cons_succ]))
    (refine q_val (v := ?_) (by rfl) ?_ ?_; rotate_left; (· (intro w hC; go_simp; try with_reducible rfl)); (try simp only [Act.put, List.getElem_toArray, List.getElem_cons_succ, List.getElem_cons_zero, List.setIfInBounds_toArray, List.set_cons_zero, List.set_cons_succ]))
    (refine q_val (v := ?_) (by rfl) ?_ ?_; rotate_left; (· (intro w hC; go_simp; try with_reducible rfl)); (try simp only [Act.put, List.getElem_toArray, List.getElem_cons_succ, List.getElem_cons_zero, List.setIfInBounds_toArray, List.set_cons_zero, List.set_cons_succ]))
    refine wpQuiet_nil ?_
    intro w5 hC5
    have K5 := Lib.hid hC5
    clear hC5
    go_wp2_with fail
    go_ret
    refine ⟨ret_int R1.out, ?_⟩
    rw [R2.out]
    exact HH.out.next hB (HB1.out.trans (K5.out.mono HB1.out.size))
  · have HL := Lib.hid (show ∀ w', Below w1.heap.size w1 w' → (Instr.lookup 106 (.map (some mb)) (kyV vid a) true).run Try.prog w' = .ok (.tuple #[.int .u32 (x.prt : Nat), .bool true]) w' from fun w' hb => lookS_yes (h5'.next hb) vid a ha _ g4)
    have R1 := Lib.hid (show (0 : Int) = dropSE l (keyN vid a) by unfold dropSE; rw [g1, if_neg (by omega)])
    clear h4 h5 g1 g2 H hk1 hb1 hw1 h4' h5' hg
    go_enter Try.func29, Try.ntmps29
    go_upto_region 1 with fail
    rw [← HW.out, ← HG.out]
    go_upto_region 3 with fail
    refine wp_region_quiet (C := Below w1.heap.size w1) (by kernel_rfl) (by kernel_rfl) (Below.refl _ _).drew ?_
    (refine q_val (v := ?_) (by rfl) ?_ ?_; rotate_left; (· (intro w hC; go_simp; try with_reducible rfl)); (try simp only [Act.put, List.getElem_toArray, List.getElem_cons_succ, List.getElem_cons_zero, List.setIfInBounds_toArray, List.set_cons_zero, List.set_cons_succ]))
    (refine q_val (v := ?_) (by rfl) ?_ ?_; rotate_left; (· (intro w hC; go_simp; try with_reducible rfl)); (try simp only [Act.put, List.getElem_toArray, List.getElem_cons_succ, List.getElem_cons_zero, List.setIfInBounds_toArray, List.set_cons_zero, List.set_cons_succ]))
    (refine q_val (v := ?_) (by rfl) ?_ ?_; rotate_left; (· (intro w hC; go_simp; try with_reducible rfl)); (try simp only [Act.put, List.getElem_toArray, List.getElem_cons_succ, List.getElem_cons_zero, List.setIfInBounds_toArray, List.set_cons_zero, List.set_cons_succ]))
    (refine q_val (v := ?_) (by rfl) ?_ ?_; rotate_left; (· (intro w hC; have q := HC.out w hC; go_simp; try with_reducible rfl)); (try simp only [Act.put, List.getElem_toArray, List.getElem_cons_succ, List.getElem_cons_zero, List.setIfInBounds_toArray, List.set_cons_zero, List.set_cons_succ]))
    (refine q_val (v := kyV vid a) (by rfl) (fun w hC => run_loadVar_of 36 _ rfl g rfl 36 (kyA vid a) _ (HK.out w hC) Try.underlying36 rfl SZ.out) ?_; (try simp only [Act.put, List.getElem_toArray, List.getElem_cons_succ, List.getElem_cons_zero, List.setIfInBounds_toArray, List.set_cons_zero, List.set_cons_succ]))
    (refine q_val (v := ?_) (by rfl) ?_ ?_; rotate_left; (· (intro w hC; have q := HL.out w hC; go_simp; try with_reducible rfl)); (try simp only [Act.put, List.getElem_toArray, List.getElem_cons_succ, List.getElem_cons_zero, List.setIfInBounds_toArray, List.set_cons_zero, List.set_cons_succ]))
    (refine q_val (v := ?_) (by rfl) ?_ ?_; rotate_left; (· (intro w hC; go_simp; try with_reducible rfl)); (try simp only [Act.put, List.getElem_toArray, List.getElem_cons_succ, List.getElem_cons_zero, List.setIfInBounds_toArray, List.set_cons_zero, List.set_cons_succ]))
    (refine q_val (v := ?_) (by rfl) ?_ ?_; rotate_left; (· (intro w hC; go_simp; try with_reducible rfl)); (try simp only [Act.put, List.getElem_toArray, List.getElem_cons_succ, List.getElem_cons_zero, List.setIfInBounds_toArray, List.set_cons_zero, List.set_cons_succ]))
    (refine q_val (v := ?_) (by rfl) ?_ ?_; rotate_left; (· (intro w hC; go_simp; try with_reducible rfl)); (try simp only [Act.put, List.getElem_toArray, List.getElem_cons_succ, List.getElem_cons_zero, List.setIfInBounds_toArray, List.set_cons_zero, List.set_cons_succ]))
    (refine q_val (v := ?_) (by rfl) ?_ ?_; rotate_left; (· (intro w hC; go_simp; try with_reducible rfl)); (try simp only [Act.put, List.getElem_toArray, List.getElem_cons_succ, List.getElem_cons_zero, List.setIfInBounds_toArray, List.set_cons_zero, List.set_cons_succ]))
    (refine q_val (v := ?_) (by rfl) ?_ ?_; rotate_left; (· (intro w hC; go_simp; try with_reducible rfl)); (try simp only [Act.put, List.getElem_toArray, List.getElem_cons_succ, List.getElem_cons_zero, List.setIfInBounds_toArray, List.set_cons_zero, List.set_cons_succ]))
    refine wpQuiet_nil ?_
    intro w4 hC4
    have K4 := Lib.hid hC4
    clear hC4
    go_upto_region 6 with fail
    refine wp_region_last 5 (I := Dr29I b mb g vid a _ _ _ _ _ _ _ _ _ _ _ _ _ _ _ _ _ _) (by kernel_rfl) (by kernel_rfl) (by kernel_rfl) ⟨_, _, _, _, _, rfl, ⟨(fun h => Bool.noConfusion h), (fun h => Bool.noConfusion h), (fun h => Bool.noConfusion h), (fun h => Bool.noConfusion h), (fun h => Bool.noConfusion h)⟩⟩ ?_
    intro w5 hb5
    have hb6 := K4.out.trans (hb5.mono K4.out.size)
    have hc5 := HC.out w5 hb6
    have hk5 := HK.out w5 hb6
    have HB6 := Lib.hid hb6
    clear hb6
    refine ⟨?_, ?_⟩
    · intro i hi Lx ac hI hL haft
      obtain ⟨v20, v21, v22, v23, v24, rfl, hs⟩ := hI
      match i, hi with
      | 0, _ =>
        exact i_val rfl (.pointer (some ⟨b, 0, none⟩)) w5 (by rfl) (by go_simp) ⟨⟨(.pointer (some ⟨b, 0, none⟩)), v21, v22, v23, v24, rfl, { hs with e20 := fun _ => rfl }⟩, rfl⟩
      | 1, _ =>
        have e20x := hs.e20 (haft 0 (by decide))
        subst e20x
        exact i_val rfl (.pointer (some ⟨b, 0, none⟩)) w5 (by rfl) (by go_simp) ⟨⟨(.pointer (some ⟨b, 0, none⟩)), (.pointer (some ⟨b, 0, none⟩)), v22, v23, v24, rfl, { hs with e21 := fun _ => rfl }⟩, rfl⟩
      | 2, _ =>
        have e21x := hs.e21 (haft 1 (by decide))
        subst e21x
        exact i_val rfl (.pointer (some ⟨b, 0, none⟩)) w5 (by rfl) (by go_simp) ⟨⟨v20, (.pointer (some ⟨b, 0, none⟩)), (.pointer (some ⟨b, 0, none⟩)), v23, v24, rfl, { hs with e22 := fun _ => rfl }⟩, rfl⟩
      | 3, _ =>
        have e22x := hs.e22 (haft 2 (by decide))
        subst e22x
        have q := hc5
        exact i_val rfl (.map (some mb)) w5 (by rfl) (by go_simp) ⟨⟨v20, v21, (.pointer (some ⟨b, 0, none⟩)), (.map (some mb)), v24, rfl, { hs with e23 := fun _ => rfl }⟩, rfl⟩
      | 4, _ =>
        exact i_val rfl (kyV vid a) w5 (by rfl) (run_loadVar_of 36 _ rfl g rfl 36 (kyA vid a) _ hk5 Try.underlying36 rfl SZ.out) ⟨⟨v20, v21, v22, v23, (kyV vid a), rfl, { hs with e24 := fun _ => rfl }⟩, rfl⟩
      | k + 5, h =>
        exfalso
        have h2 : k + 5 < 5 := h
        omega
    intro Lx ac hI hall
    obtain ⟨v20, v21, v22, v23, v24, rfl, hs⟩ := hI
    have e20y := hs.e20 (hall 0 (by decide))
    subst e20y
    have e21y := hs.e21 (hall 1 (by decide))
    subst e21y
    have e22y := hs.e22 (hall 2 (by decide))
    subst e22y
    have e23y := hs.e23 (hall 3 (by decide))
    subst e23y
    have e24y := hs.e24 (hall 4 (by decide))
    subst e24y
    clear hs hall
    obtain ⟨o, hd, ht⟩ := (H5.out.next HB6.out).del ky_keys Try.underlying106 (keyN vid a) trivial (fun _ _ => trivial) 36 0
    rw [kvK_of vid a ha] at hd
    have HT := Lib.hid ht
    clear ht hc5 hk5
    refine i_val rfl (.tuple #[]) (setBlock w5 mb o) (by rfl) (by go_simp) ?_
    clear hd
    go_wp2_with fail
    go_ret
    refine ⟨ret_int R1.out, ?_⟩
    exact TS.turned h1 h2 h3 H4.out hB (HB1.out.trans (HB6.out.mono HB1.out.size)) HT.out (h6.drop (keyN vid a)) (cutK_good h7)

set_option maxRecDepth 100000 in
set_option maxHeartbeats 8000000 in
theorem get_ts {w : World} {b A B : Nat} {l : List Se} (vid a : Nat) (ha : a < 281474976710656) (h : TS w b A B l) :
    Calls Try.prog 31 #[.pointer (some ⟨b, 0, none⟩), kyV vid a] w fun e w' => Below w.heap.size w w' ∧ GetS l (keyN vid a) e := by
  obtain ⟨mb, L, h1, h2, h3, h4, h5, h6, h7⟩ := h
  have H : TS w b A B l := ⟨mb, L, h1, h2, h3, h4, h5, h6, h7⟩
  obtain ⟨w1, hw1⟩ : ∃ w1, w1 = w.alloc (.cells (kyA vid a) 36) := ⟨_, rfl⟩
  have hb1 : Below w.heap.size w w1 := by rw [hw1]; exact (Below.refl w.heap.size w).alloc (Nat.le_refl _) _
  obtain ⟨g, hg⟩ : ∃ g, g = w.heap.size := ⟨_, rfl⟩
  have hk1 : Blk w1 g (kyA vid a) 36 := by rw [hw1, hg]; exact Blk.new _ _ _
  have h4' := h4.alloc (.cells (kyA vid a) 36)
  have h5' := h5.next hb1
  rw [← hw1] at h4'
  have HC := Lib.hid (show ∀ w', Below w1.heap.size w1 w' → w'.cell? ⟨b, 0, none⟩ = some (.map (some mb)) from fun w' hb => by rw [(h4'.below hb h4'.lt).cell]; rfl)
  have HK := Lib.hid (show ∀ w', Below w1.heap.size w1 w' → Blk w' g (kyA vid a) 36 from fun w' hb => hk1.below hb hk1.lt)
  have SZ := Lib.hid kySize
  have HB1 := Lib.hid hb1
  have HW := Lib.hid hw1
  have HG := Lib.hid hg
  rcases h6.get (keyN vid a) with ⟨g1, g2⟩ | ⟨k, x, g1, g2, g3, g4⟩
  · have HL := Lib.hid (show ∀ w', Below w1.heap.size w1 w' → (Instr.lookup 106 (.map (some mb)) (kyV vid a) true).run Try.prog w' = .ok (.tuple #[.int .u32 0, .bool false]) w' from fun w' hb => lookS_no (h5'.next hb) vid a ha g2)
    have G1 := Lib.hid g1
    clear h4 h5 g1 g2 H hk1 hb1 hw1 h4' h5' hg
    go_enter Try.func31, Try.ntmps31
    go_upto_region 1 with fail
    rw [← HW.out, ← HG.out]
    go_upto_region 3 with fail
    refine wp_region_quiet (C := Below w1.heap.size w1) (by kernel_rfl) (by kernel_rfl) (Below.refl _ _).drew ?_
    (refine q_val (v := ?_) (by rfl) ?_ ?_; rotate_left; (· (intro w hC; go_simp; try with_reducible rfl)); (try simp only [Act.put, List.getElem_toArray, List.getElem_cons_succ, List.getElem_cons_zero, List.setIfInBounds_toArray, List.set_cons_zero, List.set_cons_succ]))
    (refine q_val (v := ?_) (by rfl) ?_ ?_; rotate_left; (· (intro w hC; go_simp; try with_reducible rfl)); (try simp only [Act.put, List.getElem_toArray, List.getElem_cons_succ, List.getElem_cons_zero, List.setIfInBounds_toArray, List.set_cons_zero, List.set_cons_succ]))
    (refine q_val (v := ?_) (by rfl) ?_ ?_; rotate_left; (· (intro w hC; go_simp; try with_reducible rfl)); (try simp only [Act.put, List.getElem_toArray, List.getElem_cons_succ, List.getElem_cons_zero, List.setIfInBounds_toArray, List.set_cons_zero, List.set_cons_succ]))
    (refine q_val (v := ?_) (by rfl) ?_ ?_; rotate_left; (· (intro w hC; have q := HC.out w hC; go_simp; try with_reducible rfl)); (try simp only [Act.put, List.getElem_toArray, List.getElem_cons_succ, List.getElem_cons_zero, List.setIfInBounds_toArray, List.set_cons_zero, List.set_cons_succ]))
    (refine q_val (v := kyV vid a) (by rfl) (fun w hC => run_loadVar_of 36 _ rfl g rfl 36 (kyA vid a) _ (HK.out w hC) Try.underlying36 rfl SZ.out) ?_; (try simp only [Act.put, List.getElem_toArray, List.getElem_cons_succ, List.getElem_cons_zero, List.setIfInBounds_toArray, List.set_cons_zero, List.set_cons_succ]))
    (refine q_val (v := ?_) (by rfl) ?_ ?_; rotate_left; (· (intro w hC; have q := HL.out w hC; go_simp; try with_reducible rfl)); (try simp only [Act.put, List.getElem_toArray, List.getElem_cons_succ, List.getElem_cons_zero, List.setIfInBounds_toArray, List.set_cons_zero, List.set_cons_succ]))
    (refine q_val (v := ?_) (by rfl) ?_ ?_; rotate_left; (· (intro w hC; go_simp; try with_reducible rfl)); (try simp only [Act.put, List.getElem_toArray, List.getElem_cons_succ, List.getElem_cons_zero, List.setIfInBounds_toArray, List.set_cons_zero, List.set_cons_succ]))
    (refine q_val (v := ?_) (by rfl) ?_ ?_; rotate_left; (· (intro w hC; go_simp; try with_reducible rfl)); (try simp only [Act.put, List.getElem_toArray, List.getElem_cons_succ, List.getElem_cons_zero, List.setIfInBounds_toArray, List.set_cons_zero, List.set_cons_succ]))
    (refine q_val (v := ?_) (by rfl) ?_ ?_; rotate_left; (· (intro w hC; go_simp; try with_reducible rfl)); (try simp only [Act.put, List.getElem_toArray, List.getElem_cons_succ, List.getElem_cons_zero, List.setIfInBounds_toArray, List.set_cons_zero, List.set_cons_succ]))
    (refine q_val (v := ?_) (by rfl) ?_ ?_; rotate_left; (· (intro w hC; go_simp; try with_reducible rfl)); (try simp only [Act.put, List.getElem_toArray, List.getElem_cons_succ, List.getElem_cons_zero, List.setIfInBounds_toArray, List.set_cons_zero, List.set_cons_succ]))
    (refine q_val (v := ?_) (by rfl) ?_ ?_; rotate_left; (· (intro w hC; go_simp; try with_reducible rfl)); (try simp only [Act.put, List.getElem_toArray, List.getElem_cons_succ, List.getElem_cons_zero, List.setIfInBounds_toArray, List.set_cons_zero, List.set_cons_succ]))
    refine wpQuiet_nil ?_
    intro w5 hC5
    have K5 := Lib.hid hC5
    clear hC5
    go_wp2_with fail
    go_ret2
    exact ⟨HB1.out.trans (K5.out.mono HB1.out.size), .inl ⟨G1.out, rfl⟩⟩
  · have HL := Lib.hid (show ∀ w', Below w1.heap.size w1 w' → (Instr.lookup 106 (.map (some mb)) (kyV vid a) true).run Try.prog w' = .ok (.tuple #[.int .u32 (x.prt : Nat), .bool true]) w' from fun w' hb => lookS_yes (h5'.next hb) vid a ha _ g4)
    have G1 := Lib.hid g1
    have G2 := Lib.hid g2
    clear h4 h5 g1 g2 H hk1 hb1 hw1 h4' h5' hg
    go_enter Try.func31, Try.ntmps31
    go_upto_region 1 with fail
    rw [← HW.out, ← HG.out]
    go_upto_region 3 with fail
    refine wp_region_quiet (C := Below w1.heap.size w1) (by kernel_rfl) (by kernel_rfl) (Below.refl _ _).drew ?_
    (refine q_val (v := ?_) (by rfl) ?_ ?_; rotate_left; (· (intro w hC; go_simp; try with_reducible rfl)); (try simp only [Act.put, List.getElem_toArray, List.getElem_cons_succ, List.getElem_cons_zero, List.setIfInBounds_toArray, List.set_cons_zero, List.set_cons_succ]))
    (refine q_val (v := ?_) (by rfl) ?_ ?_; rotate_left; (· (intro w hC; go_simp; try with_reducible rfl)); (try simp only [Act.put, List.getElem_toArray, List.getElem_cons_succ, List.getElem_cons_zero, List.setIfInBounds_toArray, List.set_cons_zero, List.set_cons_succ]))
    (refine q_val (v := ?_) (by rfl) ?_ ?_; rotate_left; (· (intro w hC; go_simp; try with_reducible rfl)); (try simp only [Act.put, List.getElem_toArray, List.getElem_cons_succ, List.getElem_cons_zero, List.setIfInBounds_toArray, List.set_cons_zero, List.set_cons_succ]))
    (refine q_val (v := ?_) (by rfl) ?_ ?_; rotate_left; (· (intro w hC; have q := HC.out w hC; go_simp; try with_reducible rfl)); (try simp only [Act.put, List.getElem_toArray, List.getElem_cons_succ, List.getElem_cons_zero, List.setIfInBounds_toArray, List.set_cons_zero, List.set_cons_succ]))
    (refine q_val (v := kyV vid a) (by rfl) (fun w hC => run_loadVar_of 36 _ rfl g rfl 36 (kyA vid a) _ (HK.out w hC) Try.underlying36 rfl SZ.out) ?_; (try simp only [Act.put, List.getElem_toArray, List.getElem_cons_succ, List.getElem_cons_zero, List.setIfInBounds_toArray, List.set_cons_zero, List.set_cons_succ]))
    (refine q_val (v := ?_) (by rfl) ?_ ?_; rotate_left; (· (intro w hC; have q := HL.out w hC; go_simp; try with_reducible rfl)); (try simp only [Act.put, List.getElem_toArray, List.getElem_cons_succ, List.getElem_cons_zero, List.setIfInBounds_toArray, List.set_cons_zero, List.set_cons_succ]))
    (refine q_val (v := ?_) (by rfl) ?_ ?_; rotate_left; (· (intro w hC; go_simp; try with_reducible rfl)); (try simp only [Act.put, List.getElem_toArray, List.getElem_cons_succ, List.getElem_cons_zero, List.setIfInBounds_toArray, List.set_cons_zero, List.set_cons_succ]))
    (refine q_val (v := ?_) (by rfl) ?_ ?_; rotate_left; (· (intro w hC; go_simp; try with_reducible rfl)); (try simp only [Act.put, List.getElem_toArray, List.getElem_cons_succ, List.getElem_cons_zero, List.setIfInBounds_toArray, List.set_cons_zero, List.set_cons_succ]))
    (refine q_val (v := ?_) (by rfl) ?_ ?_; rotate_left; (· (intro w hC; go_simp; try with_reducible rfl)); (try simp only [Act.put, List.getElem_toArray, List.getElem_cons_succ, List.getElem_cons_zero, List.setIfInBounds_toArray, List.set_cons_zero, List.set_cons_succ]))
    (refine q_val (v := ?_) (by rfl) ?_ ?_; rotate_left; (· (intro w hC; go_simp; try with_reducible rfl)); (try simp only [Act.put, List.getElem_toArray, List.getElem_cons_succ, List.getElem_cons_zero, List.setIfInBounds_toArray, List.set_cons_zero, List.set_cons_succ]))
    (refine q_val (v := ?_) (by rfl) ?_ ?_; rotate_left; (· (intro w hC; go_simp; try with_reducible rfl)); (try simp only [Act.put, List.getElem_toArray, List.getElem_cons_succ, List.getElem_cons_zero, List.setIfInBounds_toArray, List.set_cons_zero, List.set_cons_succ]))
    refine wpQuiet_nil ?_
    intro w5 hC5
    have K5 := Lib.hid hC5
    clear hC5
    go_wp2_with fail
    go_ret2
    exact ⟨HB1.out.trans (K5.out.mono HB1.out.size), .inr ⟨k, x, G1.out, G2.out, rfl⟩⟩
theorem se_range {w : World} {g : Nat} {x : Se} {t : TypeId} (h : Blk w g (seA x) t) : w.rangeAt g 0 (kyA x.vid x.mac).toList := by
  intro j u hu
  rw [Nat.zero_add, h.cell]
  have hj : j < 7 := by
    have := (List.getElem?_eq_some_iff.1 hu).1
    simpa using this
  match j, hj with
  | 0, _ => simpa using hu
  | 1, _ => simpa using hu
  | 2, _ => simpa using hu
  | 3, _ => simpa using hu
  | 4, _ => simpa using hu
  | 5, _ => simpa using hu
  | 6, _ => simpa using hu
theorem seSize86 : (Try.prog.info? 86).map (·.size) = some 8 := by kernel_rfl
/-- The slots, while the region runs. -/
structure St33S (b mb g : Nat) (x : Se) (f1 f2 f4 f5 f6 f7 f8 f9 f10 f11 f12 f13 f14 f15 f16 f17 f18 f19 f20 f21 f22 f23 f24 f25 f26 f27 f28 f29 f30 f31 f32 f33 f34 : Value) (L : Nat → Bool) (v35 v36 v37 v38 v39 v40 v41 v42 : Value) : Prop where
  e35 : L 0 = true → v35 = .pointer (some ⟨b, 0, none⟩)
  e36 : L 1 = true → v36 = .pointer (some ⟨b, 0, none⟩)
  e37 : L 2 = true → v37 = .pointer (some ⟨b, 0, none⟩)
  e38 : L 3 = true → v38 = .map (some mb)
  e39 : L 4 = true → v39 = .pointer (some ⟨g, 0, none⟩)
  e40 : L 5 = true → v40 = kyV x.vid x.mac
  e41 : L 6 = true → v41 = .pointer (some ⟨g, 7, none⟩)
  e42 : L 7 = true → v42 = .int .u32 (x.prt : Nat)
abbrev St33F (b mb g : Nat) (x : Se) (f1 f2 f4 f5 f6 f7 f8 f9 f10 f11 f12 f13 f14 f15 f16 f17 f18 f19 f20 f21 f22 f23 f24 f25 f26 f27 f28 f29 f30 f31 f32 f33 f34 : Value) (v35 v36 v37 v38 v39 v40 v41 v42 : Value) : Act := { tmps := #[.pointer (some ⟨b, 0, none⟩), f1, f2, .pointer (some ⟨g, 0, none⟩), f4, f5, f6, f7, f8, f9, f10, f11, f12, f13, f14, f15, f16, f17, f18, f19, f20, f21, f22, f23, f24, f25, f26, f27, f28, f29, f30, f31, f32, f33, f34, v35, v36, v37, v38, v39, v40, v41, v42], defers := [] }
def St33I (b mb g : Nat) (x : Se) (f1 f2 f4 f5 f6 f7 f8 f9 f10 f11 f12 f13 f14 f15 f16 f17 f18 f19 f20 f21 f22 f23 f24 f25 f26 f27 f28 f29 f30 f31 f32 f33 f34 : Value) (L : Nat → Bool) (ac : Act) : Prop :=
  ∃ v35 v36 v37 v38 v39 v40 v41 v42, ac = St33F b mb g x f1 f2 f4 f5 f6 f7 f8 f9 f10 f11 f12 f13 f14 f15 f16 f17 f18 f19 f20 f21 f22 f23 f24 f25 f26 f27 f28 f29 f30 f31 f32 f33 f34 v35 v36 v37 v38 v39 v40 v41 v42 ∧ St33S b mb g x f1 f2 f4 f5 f6 f7 f8 f9 f10 f11 f12 f13 f14 f15 f16 f17 f18 f19 f20 f21 f22 f23 f24 f25 f26 f27 f28 f29 f30 f31 f32 f33 f34 L v35 v36 v37 v38 v39 v40 v41 v42

set_option maxRecDepth 100000 in
set_option maxHeartbeats 16000000 in
theorem set_ts {w : World} {b A B : Nat} {l : List Se} (x : Se) (hx : seOk x) (h : TS w b A B l) (hl : l.length ≤ 100) (hAB : A ≤ B) (hB : B ≤ w.heap.size) :
    Calls Try.prog 33 #[.pointer (some ⟨b, 0, none⟩), seV x] w fun e w' => e = .returned (.int .i64 (setSE l x)) ∧ TS w' b A B (setS l x) ∧ KeptO A B w w' := by
  obtain ⟨mb, L, h1, h2, h3, h4, h5, h6, h7⟩ := h
  have H : TS w b A B l := ⟨mb, L, h1, h2, h3, h4, h5, h6, h7⟩
  obtain ⟨w1, hw1⟩ : ∃ w1, w1 = w.alloc (.cells (seA x) 86) := ⟨_, rfl⟩
  have hb1 : Below w.heap.size w w1 := by rw [hw1]; exact (Below.refl w.heap.size w).alloc (Nat.le_refl _) _
  obtain ⟨g, hg⟩ : ∃ g, g = w.heap.size := ⟨_, rfl⟩
  have hk1 : Blk w1 g (seA x) 86 := by rw [hw1, hg]; exact Blk.new _ _ _
  have h4' := h4.below hb1 (by omega)
  have h5' := h5.next hb1
  have HC := Lib.hid (show ∀ w', Below w1.heap.size w1 w' → w'.cell? ⟨b, 0, none⟩ = some (.map (some mb)) from fun w' hb => by rw [(h4'.below hb h4'.lt).cell]; rfl)
  have HK := Lib.hid (show ∀ w', Below w1.heap.size w1 w' → Blk w' g (seA x) 86 from fun w' hb => hk1.below hb hk1.lt)
  have HKX := Lib.hid (show w1.heap[g]? = some (.cells (seA x) 86 (0, 0)) from hk1)
  have SZ := Lib.hid kySize
  have SZ8 := Lib.hid (show (Try.prog.info? 86).map (·.size) = some (seA x).size from seSize86)
  have HB1 := Lib.hid hb1
  have HW := Lib.hid hw1
  have HG := Lib.hid hg
  have HH := Lib.hid H
  have H4 := Lib.hid h4
  have H5 := Lib.hid h5'
  by_cases hgd : goodS x ≠ 0
  · obtain ⟨er, her⟩ : ∃ er, goodS x = er := ⟨_, rfl⟩
    have HGD := Lib.hid her
    have R1 := Lib.hid (show er = setSE l x by unfold setSE; rw [if_pos hgd, her])
    have R2 := Lib.hid (show setS l x = l by unfold setS; rw [if_pos hgd])
    have hne : (er != 0) = true := by rw [← her]; simpa using hgd
    clear h4 h5 H hk1 hb1 hw1 h4' h5' hg her hgd
    go_enter Try.func33, Try.ntmps33
    go_upto_region 1 with fail
    rw [← HW.out, ← HG.out]
    go_upto_region 3 with fail
    go_upto_region 4 with (first | (refine wpList_load_row rfl 86 _ rfl g rfl 86 _ (0, 0) _ HKX.out Try.underlying86 rfl SZ8.out ?_) | (go_at_call 51; refine (fault_any x _).mono ?_; rintro e w2 ⟨rfl, hb2⟩))
    rw [HGD.out]
    go_wp2_with fail
    go_ret
    refine ⟨ret_int R1.out, ?_⟩
    rw [R2.out]
    exact HH.out.next hB (HB1.out.trans (hb2.mono HB1.out.size))
  have HGD := Lib.hid (show goodS x = 0 by simpa using hgd)
  rcases h6.get (keyN x.vid x.mac) with ⟨g1, g2⟩ | ⟨k, z, g1, g2, g3, g4⟩
  · have HL := Lib.hid (show ∀ w', Below w1.heap.size w1 w' → (Instr.lookup 106 (.map (some mb)) (kyV x.vid x.mac) true).run Try.prog w' = .ok (.tuple #[.int .u32 0, .bool false]) w' from fun w' hb => lookS_no (h5'.next hb) x.vid x.mac hx g2)
    have hgn : ∀ y ∈ l, seK y ≠ seK x := by
      rcases atK_cases seK (seK x) l with ⟨-, q⟩ | ⟨k, y, q, -, -⟩
      · exact q
      · exact absurd (show atK seK (seK x) l = -1 from g1) (by omega)
    have g1' : atK seK (seK x) l = -1 := g1
    obtain ⟨n, hn⟩ : ∃ n, L.length = n := ⟨_, rfl⟩
    have hnl : n = l.length := by rw [← hn, h6.len]
    have hn100 : n ≤ 100 := by omega
    have HLEN := Lib.hid (show ∀ w', Below w1.heap.size w1 w' → (Builtin.len_ #[106] 3 #[.map (some mb)]).run Try.prog w' = .ok (.int .i64 (n : Nat)) w' from fun w' hb => by rw [← hn]; exact (h5'.next hb).len (P := Try.prog) Try.underlying106 3)
    by_cases h16 : 16 ≤ n
    · have R1 := Lib.hid (show (13 : Int) = setSE l x by unfold setSE; rw [if_neg hgd, g1', if_neg (by omega), if_pos (by omega)])
      have R2 := Lib.hid (show setS l x = l by unfold setS; rw [if_neg hgd, g1', if_neg (by omega), if_pos (by omega)])
      have hge : decide ((16 : Int) ≤ (n : Int)) = true := by rw [decide_eq_true_eq]; omega
      clear h4 h5 H hk1 hb1 hw1 h4' h5' hg hgd g1 g2 g1' hgn hn hnl
      go_enter Try.func33, Try.ntmps33
      go_upto_region 1 with fail
      rw [← HW.out, ← HG.out]
      go_upto_region 3 with fail
      go_upto_region 4 with (first | (refine wpList_load_row rfl 86 _ rfl g rfl 86 _ (0, 0) _ HKX.out Try.underlying86 rfl SZ8.out ?_) | (go_at_call 51; refine (fault_any x _).mono ?_; rintro e w2 ⟨rfl, hb2⟩))
      rw [HGD.out]
      have HB2 := Lib.hid hb2
      clear hb2
      go_upto_region 6 with fail
      refine wp_region_quiet (C := Below w2.heap.size w2) (by kernel_rfl) (by kernel_rfl) (Below.refl _ _).drew ?_
      (refine q_val (v := ?_) (by rfl) ?_ ?_; rotate_left; (· (intro w hC; go_simp; try with_reducible rfl)); (try simp only [Act.put, List.getElem_toArray, List.getElem_cons_succ, List.getElem_cons_zero, List.setIfInBounds_toArray, List.set_cons_zero, List.set_cons_succ]))
      (refine q_val (v := ?_) (by rfl) ?_ ?_; rotate_left; (· (intro w hC; go_simp; try with_reducible rfl)); (try simp only [Act.put, List.getElem_toArray, List.getElem_cons_succ, List.getElem_cons_zero, List.setIfInBounds_toArray, List.set_cons_zero, List.set_cons_succ]))
      (refine q_val (v := ?_) (by rfl) ?_ ?_; rotate_left; (· (intro w hC; go_simp; try with_reducible rfl)); (try simp only [Act.put, List.getElem_toArray, List.getElem_cons_succ, List.getElem_cons_zero, List.setIfInBounds_toArray, List.set_cons_zero, List.set_cons_succ]))
      (refine q_val (v := ?_) (by rfl) ?_ ?_; rotate_left; (· (intro w hC; have q := HC.out w (HB2.out.trans (hC.mono HB2.out.size)); go_simp; try with_reducible rfl)); (try simp only [Act.put, List.getElem_toArray, List.getElem_cons_succ, List.getElem_cons_zero, List.setIfInBounds_toArray, List.set_cons_zero, List.set_cons_succ]))
      (refine q_val (v := ?_) (by rfl) ?_ ?_; rotate_left; (· (intro w hC; go_simp; try with_reducible rfl)); (try simp only [Act.put, List.getElem_toArray, List.getElem_cons_succ, List.getElem_cons_zero, List.setIfInBounds_toArray, List.set_cons_zero, List.set_cons_succ]))
      (refine q_val (v := kyV x.vid x.mac) (by rfl) (fun w hC => run_loadRange 36 _ rfl g 0 rfl (kyA x.vid x.mac) _ (se_range (HK.out w (HB2.out.trans (hC.mono HB2.out.size)))) Try.underlying36 rfl SZ.out) ?_; (try simp only [Act.put, List.getElem_toArray, List.getElem_cons_succ, List.getElem_cons_zero, List.setIfInBounds_toArray, List.set_cons_zero, List.set_cons_succ]))
      (refine q_val (v := ?_) (by rfl) ?_ ?_; rotate_left; (· (intro w hC; have q := HL.out w (HB2.out.trans (hC.mono HB2.out.size)); go_simp; try with_reducible rfl)); (try simp only [Act.put, List.getElem_toArray, List.getElem_cons_succ, List.getElem_cons_zero, List.setIfInBounds_toArray, List.set_cons_zero, List.set_cons_succ]))
      (refine q_val (v := ?_) (by rfl) ?_ ?_; rotate_left; (· (intro w hC; go_simp; try with_reducible rfl)); (try simp only [Act.put, List.getElem_toArray, List.getElem_cons_succ, List.getElem_cons_zero, List.setIfInBounds_toArray, List.set_cons_zero, List.set_cons_succ]))
      (refine q_val (v := ?_) (by rfl) ?_ ?_; rotate_left; (· (intro w hC; go_simp; try with_reducible rfl)); (try simp only [Act.put, List.getElem_toArray, List.getElem_cons_succ, List.getElem_cons_zero, List.setIfInBounds_toArray, List.set_cons_zero, List.set_cons_succ]))
      (refine q_val (v := ?_) (by rfl) ?_ ?_; rotate_left; (· (intro w hC; go_simp; try with_reducible rfl)); (try simp only [Act.put, List.getElem_toArray, List.getElem_cons_succ, List.getElem_cons_zero, List.setIfInBounds_toArray, List.set_cons_zero, List.set_cons_succ]))
      (refine q_val (v := ?_) (by rfl) ?_ ?_; rotate_left; (· (intro w hC; go_simp; try with_reducible rfl)); (try simp only [Act.put, List.getElem_toArray, List.getElem_cons_succ, List.getElem_cons_zero, List.setIfInBounds_toArray, List.set_cons_zero, List.set_cons_succ]))
      (refine q_val (v := ?_) (by rfl) ?_ ?_; rotate_left; (· (intro w hC; go_simp; try with_reducible rfl)); (try simp only [Act.put, List.getElem_toArray, List.getElem_cons_succ, List.getElem_cons_zero, List.setIfInBounds_toArray, List.set_cons_zero, List.set_cons_succ]))
      refine wpQuiet_nil ?_
      intro w4 hC4
      have K4 := Lib.hid (HB2.out.trans (hC4.mono HB2.out.size))
      clear hC4
      have hlen := HLEN.out w4 K4.out
      have hc4 := HC.out w4 K4.out
      go_wp2_with fail
      go_ret
      refine ⟨ret_int R1.out, ?_⟩
      rw [R2.out]
      exact HH.out.next hB (HB1.out.trans (K4.out.mono HB1.out.size))
    · have R1 := Lib.hid (show (0 : Int) = setSE l x by unfold setSE; rw [if_neg hgd, g1', if_neg (by omega), if_neg (by omega)])
      have HRK := Lib.hid (show RelK seK (putL (keyN x.vid x.mac) x L) (setS l x) by unfold setS; rw [if_neg hgd, g1', if_neg (by omega), if_neg (by omega)]; exact h6.lay x hgn)
      have hge : decide ((16 : Int) ≤ (n : Int)) = false := by rw [decide_eq_false_iff_not]; omega
      clear h4 h5 H hk1 hb1 hw1 h4' h5' hg hgd g1 g2 g1' hgn hn hnl
      go_enter Try.func33, Try.ntmps33
      go_upto_region 1 with fail
      rw [← HW.out, ← HG.out]
      go_upto_region 3 with fail
      go_upto_region 4 with (first | (refine wpList_load_row rfl 86 _ rfl g rfl 86 _ (0, 0) _ HKX.out Try.underlying86 rfl SZ8.out ?_) | (go_at_call 51; refine (fault_any x _).mono ?_; rintro e w2 ⟨rfl, hb2⟩))
      rw [HGD.out]
      have HB2 := Lib.hid hb2
      clear hb2
      go_upto_region 6 with fail
      refine wp_region_quiet (C := Below w2.heap.size w2) (by kernel_rfl) (by kernel_rfl) (Below.refl _ _).drew ?_
      (refine q_val (v := ?_) (by rfl) ?_ ?_; rotate_left; (· (intro w hC; go_simp; try with_reducible rfl)); (try simp only [Act.put, List.getElem_toArray, List.getElem_cons_succ, List.getElem_cons_zero, List.setIfInBounds_toArray, List.set_cons_zero, List.set_cons_succ]))
      (refine q_val (v := ?_) (by rfl) ?_ ?_; rotate_left; (· (intro w hC; go_simp; try with_reducible rfl)); (try simp only [Act.put, List.getElem_toArray, List.getElem_cons_succ, List.getElem_cons_zero, List.setIfInBounds_toArray, List.set_cons_zero, List.set_cons_succ]))
      (refine q_val (v := ?_) (by rfl) ?_ ?_; rotate_left; (· (intro w hC; go_simp; try with_reducible rfl)); (try simp only [Act.put, List.getElem_toArray, List.getElem_cons_succ, List.getElem_cons_zero, List.setIfInBounds_toArray, List.set_cons_zero, List.set_cons_succ]))
      (refine q_val (v := ?_) (by rfl) ?_ ?_; rotate_left; (· (intro w hC; have q := HC.out w (HB2.out.trans (hC.mono HB2.out.size)); go_simp; try with_reducible rfl)); (try simp only [Act.put, List.getElem_toArray, List.getElem_cons_succ, List.getElem_cons_zero, List.setIfInBounds_toArray, List.set_cons_zero, List.set_cons_succ]))
      (refine q_val (v := ?_) (by rfl) ?_ ?_; rotate_left; (· (intro w hC; go_simp; try with_reducible rfl)); (try simp only [Act.put, List.getElem_toArray, List.getElem_cons_succ, List.getElem_cons_zero, List.setIfInBounds_toArray, List.set_cons_zero, List.set_cons_succ]))
      (refine q_val (v := kyV x.vid x.mac) (by rfl) (fun w hC => run_loadRange 36 _ rfl g 0 rfl (kyA x.vid x.mac) _ (se_range (HK.out w (HB2.out.trans (hC.mono HB2.out.size)))) Try.underlying36 rfl SZ.out) ?_; (try simp only [Act.put, List.getElem_toArray, List.getElem_cons_succ, List.getElem_cons_zero, List.setIfInBounds_toArray, List.set_cons_zero, List.set_cons_succ]))
      (refine q_val (v := ?_) (by rfl) ?_ ?_; rotate_left; (· (intro w hC; have q := HL.out w (HB2.out.trans (hC.mono HB2.out.size)); go_simp; try with_reducible rfl)); (try simp only [Act.put, List.getElem_toArray, List.getElem_cons_succ, List.getElem_cons_zero, List.setIfInBounds_toArray, List.set_cons_zero, List.set_cons_succ]))
      (refine q_val (v := ?_) (by rfl) ?_ ?_; rotate_left; (· (intro w hC; go_simp; try with_reducible rfl)); (try simp only [Act.put, List.getElem_toArray, List.getElem_cons_succ, List.getElem_cons_zero, List.setIfInBounds_toArray, List.set_cons_zero, List.set_cons_succ]))
      (refine q_val (v := ?_) (by rfl) ?_ ?_; rotate_left; (· (intro w hC; go_simp; try with_reducible rfl)); (try simp only [Act.put, List.getElem_toArray, List.getElem_cons_succ, List.getElem_cons_zero, List.setIfInBounds_toArray, List.set_cons_zero, List.set_cons_succ]))
      (refine q_val (v := ?_) (by rfl) ?_ ?_; rotate_left; (· (intro w hC; go_simp; try with_reducible rfl)); (try simp only [Act.put, List.getElem_toArray, List.getElem_cons_succ, List.getElem_cons_zero, List.setIfInBounds_toArray, List.set_cons_zero, List.set_cons_succ]))
      (refine q_val (v := ?_) (by rfl) ?_ ?_; rotate_left; (· (intro w hC; go_simp; try with_reducible rfl)); (try simp only [Act.put, List.getElem_toArray, List.getElem_cons_succ, List.getElem_cons_zero, List.setIfInBounds_toArray, List.set_cons_zero, List.set_cons_succ]))
      (refine q_val (v := ?_) (by rfl) ?_ ?_; rotate_left; (· (intro w hC; go_simp; try with_reducible rfl)); (try simp only [Act.put, List.getElem_toArray, List.getElem_cons_succ, List.getElem_cons_zero, List.setIfInBounds_toArray, List.set_cons_zero, List.set_cons_succ]))
      refine wpQuiet_nil ?_
      intro w4 hC4
      have K4 := Lib.hid (HB2.out.trans (hC4.mono HB2.out.size))
      clear hC4
      have hlen := HLEN.out w4 K4.out
      have hc4 := HC.out w4 K4.out
      go_upto_region 9 with fail
      clear hlen hc4
      refine wp_region_last 8 (I := St33I b mb g x _ _ _ _ _ _ _ _ _ _ _ _ _ _ _ _ _ _ _ _ _ _ _ _ _ _ _ _ _ _ _ _ _) (by kernel_rfl) (by kernel_rfl) (by kernel_rfl) ⟨_, _, _, _, _, _, _, _, rfl, ⟨(fun h => Bool.noConfusion h), (fun h => Bool.noConfusion h), (fun h => Bool.noConfusion h), (fun h => Bool.noConfusion h), (fun h => Bool.noConfusion h), (fun h => Bool.noConfusion h), (fun h => Bool.noConfusion h), (fun h => Bool.noConfusion h)⟩⟩ ?_
      intro w5 hb5
      have hb6 := K4.out.trans (hb5.mono K4.out.size)
      have hc5 := HC.out w5 hb6
      have hk5 := HK.out w5 hb6
      have hc7 := hk5.cell 7
      simp only [List.getElem?_toArray, List.getElem?_cons_zero, List.getElem?_cons_succ] at hc7
      have HB6 := Lib.hid hb6
      clear hb6
      refine ⟨?_, ?_⟩
      · intro i hi Lx ac hI hL haft
        obtain ⟨v35, v36, v37, v38, v39, v40, v41, v42, rfl, hs⟩ := hI
        match i, hi with
        | 0, _ =>
          exact i_val rfl (.pointer (some ⟨b, 0, none⟩)) w5 (by rfl) (by go_simp) ⟨⟨(.pointer (some ⟨b, 0, none⟩)), v36, v37, v38, v39, v40, v41, v42, rfl, { hs with e35 := fun _ => rfl }⟩, rfl⟩
        | 1, _ =>
          have e35x := hs.e35 (haft 0 (by decide))
          subst e35x
          exact i_val rfl (.pointer (some ⟨b, 0, none⟩)) w5 (by rfl) (by go_simp) ⟨⟨(.pointer (some ⟨b, 0, none⟩)), (.pointer (some ⟨b, 0, none⟩)), v37, v38, v39, v40, v41, v42, rfl, { hs with e36 := fun _ => rfl }⟩, rfl⟩
        | 2, _ =>
          have e36x := hs.e36 (haft 1 (by decide))
          subst e36x
          exact i_val rfl (.pointer (some ⟨b, 0, none⟩)) w5 (by rfl) (by go_simp) ⟨⟨v35, (.pointer (some ⟨b, 0, none⟩)), (.pointer (some ⟨b, 0, none⟩)), v38, v39, v40, v41, v42, rfl, { hs with e37 := fun _ => rfl }⟩, rfl⟩
        | 3, _ =>
          have e37x := hs.e37 (haft 2 (by decide))
          subst e37x
          have q := hc5
          exact i_val rfl (.map (some mb)) w5 (by rfl) (by go_simp) ⟨⟨v35, v36, (.pointer (some ⟨b, 0, none⟩)), (.map (some mb)), v39, v40, v41, v42, rfl, { hs with e38 := fun _ => rfl }⟩, rfl⟩
        | 4, _ =>
          exact i_val rfl (.pointer (some ⟨g, 0, none⟩)) w5 (by rfl) (by go_simp) ⟨⟨v35, v36, v37, v38, (.pointer (some ⟨g, 0, none⟩)), v40, v41, v42, rfl, { hs with e39 := fun _ => rfl }⟩, rfl⟩
        | 5, _ =>
          have e39x := hs.e39 (haft 4 (by decide))
          subst e39x
          exact i_val rfl (kyV x.vid x.mac) w5 (by rfl) (run_loadRange 36 _ rfl g 0 rfl (kyA x.vid x.mac) _ (se_range hk5) Try.underlying36 rfl SZ.out) ⟨⟨v35, v36, v37, v38, (.pointer (some ⟨g, 0, none⟩)), (kyV x.vid x.mac), v41, v42, rfl, { hs with e40 := fun _ => rfl }⟩, rfl⟩
        | 6, _ =>
          exact i_val rfl (.pointer (some ⟨g, 7, none⟩)) w5 (by rfl) (by go_simp) ⟨⟨v35, v36, v37, v38, v39, v40, (.pointer (some ⟨g, 7, none⟩)), v42, rfl, { hs with e41 := fun _ => rfl }⟩, rfl⟩
        | 7, _ =>
          have e41x := hs.e41 (haft 6 (by decide))
          subst e41x
          have q := hc7
          exact i_val rfl (.int .u32 (x.prt : Nat)) w5 (by rfl) (by go_simp) ⟨⟨v35, v36, v37, v38, v39, v40, (.pointer (some ⟨g, 7, none⟩)), (.int .u32 (x.prt : Nat)), rfl, { hs with e42 := fun _ => rfl }⟩, rfl⟩
        | k + 8, h =>
          exfalso
          have h2 : k + 8 < 8 := h
          omega
      intro Lx ac hI hall
      obtain ⟨v35, v36, v37, v38, v39, v40, v41, v42, rfl, hs⟩ := hI
      have e35y := hs.e35 (hall 0 (by decide))
      subst e35y
      have e36y := hs.e36 (hall 1 (by decide))
      subst e36y
      have e37y := hs.e37 (hall 2 (by decide))
      subst e37y
      have e38y := hs.e38 (hall 3 (by decide))
      subst e38y
      have e39y := hs.e39 (hall 4 (by decide))
      subst e39y
      have e40y := hs.e40 (hall 5 (by decide))
      subst e40y
      have e41y := hs.e41 (hall 6 (by decide))
      subst e41y
      have e42y := hs.e42 (hall 7 (by decide))
      subst e42y
      clear hs hall
      obtain ⟨o, hd, ht⟩ := (H5.out.next HB6.out).put ky_keys Try.underlying106 (keyN x.vid x.mac) x trivial (fun _ _ => trivial)
      rw [kvK_of x.vid x.mac hx] at hd
      have HT := Lib.hid ht
      clear ht hc5 hk5 hc7
      unfold vvS at hd
      refine i_skip rfl (setBlock w5 mb o) (by rfl) (by go_simp) ?_
      clear hd
      go_wp2_with fail
      go_ret
      refine ⟨ret_int R1.out, ?_⟩
      exact TS.turned h1 h2 h3 H4.out hB (HB1.out.trans (HB6.out.mono HB1.out.size)) HT.out HRK.out (setS_good h7 hx)
  · have HL := Lib.hid (show ∀ w', Below w1.heap.size w1 w' → (Instr.lookup 106 (.map (some mb)) (kyV x.vid x.mac) true).run Try.prog w' = .ok (.tuple #[.int .u32 (z.prt : Nat), .bool true]) w' from fun w' hb => lookS_yes (h5'.next hb) x.vid x.mac hx _ g4)
    have g1' : atK seK (seK x) l = k := g1
    have R1 := Lib.hid (show (0 : Int) = setSE l x by unfold setSE; rw [if_neg hgd, g1', if_pos (by omega)])
    have HRK := Lib.hid (show RelK seK (putL (keyN x.vid x.mac) x L) (setS l x) by unfold setS; rw [if_neg hgd, g1', if_pos (by omega), Int.toNat_natCast]; exact h6.set x g2 g3)
    clear h4 h5 H hk1 hb1 hw1 h4' h5' hg hgd g1 g2 g1'
    go_enter Try.func33, Try.ntmps33
    go_upto_region 1 with fail
    rw [← HW.out, ← HG.out]
    go_upto_region 3 with fail
    go_upto_region 4 with (first | (refine wpList_load_row rfl 86 _ rfl g rfl 86 _ (0, 0) _ HKX.out Try.underlying86 rfl SZ8.out ?_) | (go_at_call 51; refine (fault_any x _).mono ?_; rintro e w2 ⟨rfl, hb2⟩))
    rw [HGD.out]
    have HB2 := Lib.hid hb2
    clear hb2
    go_upto_region 6 with fail
    refine wp_region_quiet (C := Below w2.heap.size w2) (by kernel_rfl) (by kernel_rfl) (Below.refl _ _).drew ?_
    (refine q_val (v := ?_) (by rfl) ?_ ?_; rotate_left; (· (intro w hC; go_simp; try with_reducible rfl)); (try simp only [Act.put, List.getElem_toArray, List.getElem_cons_succ, List.getElem_cons_zero, List.setIfInBounds_toArray, List.set_cons_zero, List.set_cons_succ]))
    (refine q_val (v := ?_) (by rfl) ?_ ?_; rotate_left; (· (intro w hC; go_simp; try with_reducible rfl)); (try simp only [Act.put, List.getElem_toArray, List.getElem_cons_succ, List.getElem_cons_zero, List.setIfInBounds_toArray, List.set_cons_zero, List.set_cons_succ]))
    (refine q_val (v := ?_) (by rfl) ?_ ?_; rotate_left; (· (intro w hC; go_simp; try with_reducible rfl)); (try simp only [Act.put, List.getElem_toArray, List.getElem_cons_succ, List.getElem_cons_zero, List.setIfInBounds_toArray, List.set_cons_zero, List.set_cons_succ]))
    (refine q_val (v := ?_) (by rfl) ?_ ?_; rotate_left; (· (intro w hC; have q := HC.out w (HB2.out.trans (hC.mono HB2.out.size)); go_simp; try with_reducible rfl)); (try simp only [Act.put, List.getElem_toArray, List.getElem_cons_succ, List.getElem_cons_zero, List.setIfInBounds_toArray, List.set_cons_zero, List.set_cons_succ]))
    (refine q_val (v := ?_) (by rfl) ?_ ?_; rotate_left; (· (intro w hC; go_simp; try with_reducible rfl)); (try simp only [Act.put, List.getElem_toArray, List.getElem_cons_succ, List.getElem_cons_zero, List.setIfInBounds_toArray, List.set_cons_zero, List.set_cons_succ]))
    (refine q_val (v := kyV x.vid x.mac) (by rfl) (fun w hC => run_loadRange 36 _ rfl g 0 rfl (kyA x.vid x.mac) _ (se_range (HK.out w (HB2.out.trans (hC.mono HB2.out.size)))) Try.underlying36 rfl SZ.out) ?_; (try simp only [Act.put, List.getElem_toArray, List.getElem_cons_succ, List.getElem_cons_zero, List.setIfInBounds_toArray, List.set_cons_zero, List.set_cons_succ]))
    (refine q_val (v := ?_) (by rfl) ?_ ?_; rotate_left; (· (intro w hC; have q := HL.out w (HB2.out.trans (hC.mono HB2.out.size)); go_simp; try with_reducible rfl)); (try simp only [Act.put, List.getElem_toArray, List.getElem_cons_succ, List.getElem_cons_zero, List.setIfInBounds_toArray, List.set_cons_zero, List.set_cons_succ]))
    (refine q_val (v := ?_) (by rfl) ?_ ?_; rotate_left; (· (intro w hC; go_simp; try with_reducible rfl)); (try simp only [Act.put, List.getElem_toArray, List.getElem_cons_succ, List.getElem_cons_zero, List.setIfInBounds_toArray, List.set_cons_zero, List.set_cons_succ]))
    (refine q_val (v := ?_) (by rfl) ?_ ?_; rotate_left; (· (intro w hC; go_simp; try with_reducible rfl)); (try simp only [Act.put, List.getElem_toArray, List.getElem_cons_succ, List.getElem_cons_zero, List.setIfInBounds_toArray, List.set_cons_zero, List.set_cons_succ]))
    (refine q_val (v := ?_) (by rfl) ?_ ?_; rotate_left; (· (intro w hC; go_simp; try with_reducible rfl)); (try simp only [Act.put, List.getElem_toArray, List.getElem_cons_succ, List.getElem_cons_zero, List.setIfInBounds_toArray, List.set_cons_zero, List.set_cons_succ]))
    (refine q_val (v := ?_) (by rfl) ?_ ?_; rotate_left; (· (intro w hC; go_simp; try with_reducible rfl)); (try simp only [Act.put, List.getElem_toArray, List.getElem_cons_succ, List.getElem_cons_zero, List.setIfInBounds_toArray, List.set_cons_zero, List.set_cons_succ]))
    (refine q_val (v := ?_) (by rfl) ?_ ?_; rotate_left; (· (intro w hC; go_simp; try with_reducible rfl)); (try simp only [Act.put, List.getElem_toArray, List.getElem_cons_succ, List.getElem_cons_zero, List.setIfInBounds_toArray, List.set_cons_zero, List.set_cons_succ]))
    refine wpQuiet_nil ?_
    intro w4 hC4
    have K4 := Lib.hid (HB2.out.trans (hC4.mono HB2.out.size))
    clear hC4
    go_upto_region 9 with fail
    refine wp_region_last 8 (I := St33I b mb g x _ _ _ _ _ _ _ _ _ _ _ _ _ _ _ _ _ _ _ _ _ _ _ _ _ _ _ _ _ _ _ _ _) (by kernel_rfl) (by kernel_rfl) (by kernel_rfl) ⟨_, _, _, _, _, _, _, _, rfl, ⟨(fun h => Bool.noConfusion h), (fun h => Bool.noConfusion h), (fun h => Bool.noConfusion h), (fun h => Bool.noConfusion h), (fun h => Bool.noConfusion h), (fun h => Bool.noConfusion h), (fun h => Bool.noConfusion h), (fun h => Bool.noConfusion h)⟩⟩ ?_
    intro w5 hb5
    have hb6 := K4.out.trans (hb5.mono K4.out.size)
    have hc5 := HC.out w5 hb6
    have hk5 := HK.out w5 hb6
    have hc7 := hk5.cell 7
    simp only [List.getElem?_toArray, List.getElem?_cons_zero, List.getElem?_cons_succ] at hc7
    have HB6 := Lib.hid hb6
    clear hb6
    refine ⟨?_, ?_⟩
    · intro i hi Lx ac hI hL haft
      obtain ⟨v35, v36, v37, v38, v39, v40, v41, v42, rfl, hs⟩ := hI
      match i, hi with
      | 0, _ =>
        exact i_val rfl (.pointer (some ⟨b, 0, none⟩)) w5 (by rfl) (by go_simp) ⟨⟨(.pointer (some ⟨b, 0, none⟩)), v36, v37, v38, v39, v40, v41, v42, rfl, { hs with e35 := fun _ => rfl }⟩, rfl⟩
      | 1, _ =>
        have e35x := hs.e35 (haft 0 (by decide))
        subst e35x
        exact i_val rfl (.pointer (some ⟨b, 0, none⟩)) w5 (by rfl) (by go_simp) ⟨⟨(.pointer (some ⟨b, 0, none⟩)), (.pointer (some ⟨b, 0, none⟩)), v37, v38, v39, v40, v41, v42, rfl, { hs with e36 := fun _ => rfl }⟩, rfl⟩
      | 2, _ =>
        have e36x := hs.e36 (haft 1 (by decide))
        subst e36x
        exact i_val rfl (.pointer (some ⟨b, 0, none⟩)) w5 (by rfl) (by go_simp) ⟨⟨v35, (.pointer (some ⟨b, 0, none⟩)), (.pointer (some ⟨b, 0, none⟩)), v38, v39, v40, v41, v42, rfl, { hs with e37 := fun _ => rfl }⟩, rfl⟩
      | 3, _ =>
        have e37x := hs.e37 (haft 2 (by decide))
        subst e37x
        have q := hc5
        exact i_val rfl (.map (some mb)) w5 (by rfl) (by go_simp) ⟨⟨v35, v36, (.pointer (some ⟨b, 0, none⟩)), (.map (some mb)), v39, v40, v41, v42, rfl, { hs with e38 := fun _ => rfl }⟩, rfl⟩
      | 4, _ =>
        exact i_val rfl (.pointer (some ⟨g, 0, none⟩)) w5 (by rfl) (by go_simp) ⟨⟨v35, v36, v37, v38, (.pointer (some ⟨g, 0, none⟩)), v40, v41, v42, rfl, { hs with e39 := fun _ => rfl }⟩, rfl⟩
      | 5, _ =>
        have e39x := hs.e39 (haft 4 (by decide))
        subst e39x
        exact i_val rfl (kyV x.vid x.mac) w5 (by rfl) (run_loadRange 36 _ rfl g 0 rfl (kyA x.vid x.mac) _ (se_range hk5) Try.underlying36 rfl SZ.out) ⟨⟨v35, v36, v37, v38, (.pointer (some ⟨g, 0, none⟩)), (kyV x.vid x.mac), v41, v42, rfl, { hs with e40 := fun _ => rfl }⟩, rfl⟩
      | 6, _ =>
        exact i_val rfl (.pointer (some ⟨g, 7, none⟩)) w5 (by rfl) (by go_simp) ⟨⟨v35, v36, v37, v38, v39, v40, (.pointer (some ⟨g, 7, none⟩)), v42, rfl, { hs with e41 := fun _ => rfl }⟩, rfl⟩
      | 7, _ =>
        have e41x := hs.e41 (haft 6 (by decide))
        subst e41x
        have q := hc7
        exact i_val rfl (.int .u32 (x.prt : Nat)) w5 (by rfl) (by go_simp) ⟨⟨v35, v36, v37, v38, v39, v40, (.pointer (some ⟨g, 7, none⟩)), (.int .u32 (x.prt : Nat)), rfl, { hs with e42 := fun _ => rfl }⟩, rfl⟩
      | k + 8, h =>
        exfalso
        have h2 : k + 8 < 8 := h
        omega
    intro Lx ac hI hall
    obtain ⟨v35, v36, v37, v38, v39, v40, v41, v42, rfl, hs⟩ := hI
    have e35y := hs.e35 (hall 0 (by decide))
    subst e35y
    have e36y := hs.e36 (hall 1 (by decide))
    subst e36y
    have e37y := hs.e37 (hall 2 (by decide))
    subst e37y
    have e38y := hs.e38 (hall 3 (by decide))
    subst e38y
    have e39y := hs.e39 (hall 4 (by decide))
    subst e39y
    have e40y := hs.e40 (hall 5 (by decide))
    subst e40y
    have e41y := hs.e41 (hall 6 (by decide))
    subst e41y
    have e42y := hs.e42 (hall 7 (by decide))
    subst e42y
    clear hs hall
    obtain ⟨o, hd, ht⟩ := (H5.out.next HB6.out).put ky_keys Try.underlying106 (keyN x.vid x.mac) x trivial (fun _ _ => trivial)
    rw [kvK_of x.vid x.mac hx] at hd
    have HT := Lib.hid ht
    clear ht hc5 hk5 hc7
    unfold vvS at hd
    refine i_skip rfl (setBlock w5 mb o) (by rfl) (by go_simp) ?_
    clear hd
    go_wp2_with fail
    go_ret
    refine ⟨ret_int R1.out, ?_⟩
    exact TS.turned h1 h2 h3 H4.out hB (HB1.out.trans (HB6.out.mono HB1.out.size)) HT.out HRK.out (setS_good h7 hx)
theorem nil_get10 (w : World) : Calls Try.prog 31 #[.pointer none, .agg #[.int .u16 0, .int .u8 0, .int .u8 0, .int .u8 0, .int .u8 0, .int .u8 0, .int .u8 0]] w fun e w' => e = .returned (.tuple #[.int .u32 0, .bool false]) ∧ Below w.heap.size w w' := by
  have HB := Lib.hid ((Below.refl w.heap.size w).alloc (Nat.le_refl _) (.cells #[.int .u16 0, .int .u8 0, .int .u8 0, .int .u8 0, .int .u8 0, .int .u8 0, .int .u8 0] 36))
  go_enter Try.func31, Try.ntmps31
  go_wp2
  go_ret2
  exact ⟨rfl, HB.out⟩
theorem nil_set10 (w : World) : Calls Try.prog 33 #[.pointer none, .agg #[.int .u16 1, .int .u8 0, .int .u8 0, .int .u8 0, .int .u8 0, .int .u8 0, .int .u8 0, .int .u32 0]] w fun e w' => e = .returned (.int .i64 1) ∧ Below w.heap.size w w' := by
  have HB := Lib.hid ((Below.refl w.heap.size w).alloc (Nat.le_refl _) (.cells #[.int .u16 1, .int .u8 0, .int .u8 0, .int .u8 0, .int .u8 0, .int .u8 0, .int .u8 0, .int .u32 0] 86))
  go_enter Try.func33, Try.ntmps33
  go_wp2
  go_ret
  exact ⟨rfl, HB.out⟩
theorem nil_drop10 (w : World) : Calls Try.prog 29 #[.pointer none, .agg #[.int .u16 0, .int .u8 0, .int .u8 0, .int .u8 0, .int .u8 0, .int .u8 0, .int .u8 0]] w fun e w' => e = .returned (.int .i64 1) ∧ Below w.heap.size w w' := by
  have HB := Lib.hid ((Below.refl w.heap.size w).alloc (Nat.le_refl _) (.cells #[.int .u16 0, .int .u8 0, .int .u8 0, .int .u8 0, .int .u8 0, .int .u8 0, .int .u8 0] 36))
  go_enter Try.func29, Try.ntmps29
  go_wp2
  go_ret
  exact ⟨rfl, HB.out⟩
theorem nil_list10 (w : World) : Calls Try.prog 35 #[.pointer none] w fun e w' => ∃ (A : Option Addr) (c : Nat), e = .returned (.slice A 0 c) ∧ Below w.heap.size w w' := by
  go_enter Try.func35, Try.ntmps35
  go_wp2
  go_ret
  exact ⟨_, _, rfl, Below.refl _ _⟩
end Go.Proofs.Ytilklfmcdgggfaa
end
section
namespace Go.Proofs.Ytilklfmcdgggfaa
open Go.RowKit

/-- The developers' table: at most sixteen entries. -/
def TSS (w : World) (b A B : Nat) (l : List Se) : Prop := TS w b A B l ∧ l.length ≤ 16

theorem tab_ok10 : TabS TSS where
  keep h hk := ⟨h.1.keep hk, h.2⟩
  new w := (new_ts w).mono fun e w' ⟨b, he, ht, hb⟩ => ⟨b, he, ⟨ht, by simp⟩, hb⟩
  set x hx h hAB hB := (set_ts x hx h.1 (by have := h.2; omega) hAB hB).mono fun e w' ⟨he, ht, hk⟩ => ⟨he, ⟨ht, setS_few _ x h.2⟩, hk⟩
  drop vid a ha h hAB hB := (drop_ts vid a ha h.1 hAB hB).mono fun e w' ⟨he, ht, hk⟩ => ⟨he, ⟨ht, Nat.le_trans (cutK_len seK _ _) h.2⟩, hk⟩
  get vid a ha h := (get_ts vid a ha h.1).mono fun e w' ⟨hb, hr⟩ => ⟨hb, hr⟩
  list h := (list35 h.1 (by have := h.2; omega)).mono fun e w' ⟨v, he, hs, hb⟩ => by
    obtain ⟨A, c, hv, hr⟩ := src_rows seC_len (by omega) hs
    exact ⟨A, c, by rw [he, hv], hr, hb⟩
  none0 := nil_get10
  none1 := nil_set10
  none2 := nil_drop10
  none3 := nil_list10
end Go.Proofs.Ytilklfmcdgggfaa
end
