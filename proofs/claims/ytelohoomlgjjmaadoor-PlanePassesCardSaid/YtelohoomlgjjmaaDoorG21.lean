import Derived.Test.YtelohoomlgjjmaaDoorG20
import Derived.Test.YtelohoomlgjjmaaDoorG6
import Derived.Test.YtelohoomlgjjmaaDoorG1
import Derived.Maps.RangeWalk
import Derived.Deep.DeepCutAuto
import Derived.Test.YtelohoomlgjjmaaDoorG17
set_option linter.unusedSimpArgs false
set_option linter.unusedVariables false
namespace Go.Proofs.YtelohoomlgjjmaaDoor
section
/- The developers' table: List. -/
open Go.RowKit
open Go.ChangeMaps (setBlock)

noncomputable def lfSliceI : TypeInfo := (Tryd.prog.info? 82).get (by kernel_rfl)
noncomputable def lfElemI : TypeInfo := (Tryd.prog.info? 67).get (by kernel_rfl)
theorem lf_swap (n : Nat) (h2 : 2 ≤ n) : Lib.swapperK n lfElemI 25 = 9 := by
  have a : lfElemI.hasPointers = false := by kernel_rfl
  have b : lfElemI.bytes = 24 := by kernel_rfl
  have c : (n == 0) = false := by simp; omega
  have d : (n == 1) = false := by simp; omega
  simp [Lib.swapperK, a, b, c, d]

theorem lf_holds {w : World} {base g cap : Nat} {l : List En} (h : Own w base 67 9 enC (.slice (some ⟨g, 0, none⟩) l.length cap) l) : Sort.HoldsK enC 9 w g 0 l.toArray := by
  intro j hj
  rw [Sort.size_flatK] at hj
  have hj2 : j < l.length * 9 := by simpa using hj
  refine ⟨?_, by rw [Nat.zero_add]; exact h.free j⟩
  have hx : j / 9 < l.length := by omega
  have e := h.at enC_len (j / 9) (j % 9) l[j / 9] (List.getElem?_eq_getElem hx) (by omega)
  rw [Nat.zero_add, Sort.get_flatK _ _ _ _ hj, show j = j / 9 * 9 + j % 9 by omega, e, show (j / 9 * 9 + j % 9) / 9 = j / 9 by omega, show (j / 9 * 9 + j % 9) % 9 = j % 9 by omega]
  rw [getElem!_pos l.toArray (j / 9) (by simpa using hx)]
  have hm : j % 9 < (enC l[j / 9]).length := by rw [enC_len]; omega
  rw [List.getElem?_eq_getElem hm]
  simp [hm]
theorem lf_src {w : World} {g c : Nat} {l : List En} (h : Sort.HoldsK enC 9 w g 0 l.toArray) : Src w enC (.slice (some ⟨g, 0, none⟩) l.length c) l := by
  refine .inr ⟨⟨g, 0, none⟩, c, rfl, fun j u hu => ?_⟩
  have hjl : j < l.length * 9 := by
    have := (List.getElem?_eq_some_iff.1 hu).1
    rw [cellsL_len enC_len] at this
    simpa using this
  have q := (h j (by rw [Sort.size_flatK]; simpa using hjl)).1
  have hx : j / 9 < l.length := by omega
  rw [Sort.get_flatK _ _ _ _ (by simpa using hjl), getElem!_pos l.toArray (j / 9) (by simpa using hx)] at q
  have e := cellsL_at enC_len (l := l) (j / 9) (j % 9) l[j / 9] (List.getElem?_eq_getElem hx) (by omega)
  rw [show j / 9 * 9 + j % 9 = j by omega, hu] at e
  have hm : j % 9 < (enC l[j / 9]).length := by rw [enC_len]; omega
  rw [List.getElem?_eq_getElem hm] at e
  rw [getElem!_pos (enC _) (j % 9) (by simpa using hm)] at q
  have e1 : u = (enC l[j / 9])[j % 9] := Option.some.inj e
  rw [e1]
  have ea : (⟨g, 0, none⟩ : Addr).add j = ⟨g, 0 + j, none⟩ := by
    unfold Addr.add
    split <;> simp_all
  rw [ea, q]
  simp

/-- The sort of the developers' List. -/
theorem lf_sort {w : World} {base g cap Bs : Nat} {l : List En} (h : Own w base 67 9 enC (.slice (some ⟨g, 0, none⟩) l.length cap) l) (hg : g < w.heap.size) (hl : l.length ≤ 1000) (hBs : w.cell? ⟨Bs, 0, none⟩ = some (.slice (some ⟨g, 0, none⟩) l.length cap)) (hB : Bs < w.heap.size) (hne : Bs ≠ g) :
    Calls Tryd.prog 40 #[.iface 82 (.slice (some ⟨g, 0, none⟩) l.length cap), .func (.func 41) #[] #[.pointer (some ⟨Bs, 0, none⟩)]] w fun e w' => e = .returned (.tuple #[]) ∧ ∃ l' : List En, l'.Perm l ∧ l'.Pairwise (fun a b => ltE b a = false) ∧ Src w' enC (.slice (some ⟨g, 0, none⟩) l.length cap) l' ∧ w.grownBy w' (some g) := by
  refine (slice_list 82 67 lfSliceI lfElemI (by kernel_rfl) (by kernel_rfl) (by kernel_rfl) (by kernel_rfl) 25 (fun _ => by kernel_rfl) enC 9 enC_len (by kernel_rfl) (fun _ => by kernel_rfl) enC_one ltE ltE_swo 41 #[.pointer (some ⟨Bs, 0, none⟩)]
    (enters_of Tryd.func41 (by kernel_rfl) rfl) g cap l hl 65 66 73 (by kernel_rfl) (by kernel_rfl) (fun m hm => by rw [lf_swap m hm]; kernel_rfl) false
    (fun args W => run_callFunc_extern Tryd.func73 (by kernel_rfl) (by kernel_rfl) (by kernel_rfl) (e := Extern.ReflectliteSwapper.swap false) (by kernel_rfl) args W) w (lf_holds h) hg ?_).mono ?_
  · intro W dk hs hh hgr i j hi hj
    exact less48 hh hs (Nat.lt_of_lt_of_le hg hgr.size) (by rw [World.cell?_of_block (hgr.block Bs hB (fun e => hne (Option.some.inj e)))]; exact hBs) (Nat.lt_of_lt_of_le hB hgr.size) i j hi hj hl
  · rintro e w' ⟨rfl, l', hp, hs, hh, hgr⟩
    have q := lf_src (c := cap) hh
    rw [hp.length_eq] at q
    exact ⟨rfl, l', hp, hs, q, hgr⟩

theorem ltE_le {x y : En} (hx : enOk x) (hy : enOk y) (h : ltE y x = false) : enK x ≤ enK y := by
  unfold ltE at h
  have := of_decide_eq_false h
  have e1 : x.mac % 281474976710656 = x.mac := Nat.mod_eq_of_lt hx
  have e2 : y.mac % 281474976710656 = y.mac := Nat.mod_eq_of_lt hy
  rw [e1, e2] at this
  unfold enK
  omega
/-- What a round of the list finds. -/
structure lfLoop (w : World) (r mb Bs : Nat) (L : List (Nat × En)) (left : List (Nat × En)) (pre : List En) (v : Value) (wr : World) : Prop where
  it : It wr r mb kvK vvE L left
  own : Own wr w.heap.size 67 9 enC v pre
  box : Blk wr Bs #[v] 82
  perm : (pre ++ left.map (·.2)).Perm (L.map (·.2))
  below : Below w.heap.size w wr
  low : w.heap.size ≤ Bs
  ne : ∃ g, v.ownBlock = some g ∧ g ≠ r ∧ g ≠ Bs
  nr : Bs ≠ r

set_option maxRecDepth 100000 in
set_option maxHeartbeats 16000000 in
theorem list22 {w : World} {b A B : Nat} {mo li : Int} {l : List En} (h : TF w b A B mo li l) (hf : l.length ≤ 100) :
    Calls Tryd.prog 20 #[.pointer (some ⟨b, 0, none⟩)] w fun e w' => ∃ v, e = .returned v ∧ Src w' enC v l ∧ Below w.heap.size w w' := by
  obtain ⟨mb, L, h1, h2, h3, h4, h5, h6, h7⟩ := h
  have hmb := Lib.hid h5.lt
  have hc := h4.cell 2
  simp only [List.getElem?_toArray, List.getElem?_cons_zero, List.getElem?_cons_succ] at hc
  have hlen := h5.len (P := Tryd.prog) Tryd.underlying103 3
  obtain ⟨n, hn⟩ : ∃ n, L.length = n := ⟨_, rfl⟩
  rw [hn] at hlen
  have HN := Lib.hid hn
  have hn16 : n ≤ 100 := by rw [← hn, h6.len]; exact hf
  obtain ⟨i, z, hi, hz, hs, hby, hzs⟩ : ∃ i z, Tryd.prog.info? 67 = some i ∧ i.zero = some z ∧ i.size = 9 ∧ i.bytes = 24 ∧ z.cells.size = 9 := ⟨_, _, rfl, rfl, rfl, rfl, rfl⟩
  have HI := Lib.hid hi
  have HZ := Lib.hid hz
  have HS := Lib.hid hs
  have HBY := Lib.hid hby
  have HZS := Lib.hid hzs
  have H4 := Lib.hid h4
  have H5 := Lib.hid h5
  clear hi hz hs hby hzs h4 h5 hn
  go_enter Tryd.func20, Tryd.ntmps20
  go_upto_region 4 with (refine wpList_make_own w rfl _ _ 82 rfl w.heap.size 67 i z 9 Tryd.underlying82 HI.out HZ.out HS.out .i64 .i64 n n rfl rfl rfl (by rw [HBY.out]; omega) (by unfold maxLen; omega) (Nat.le_refl _) ?_; intro w1 ho1 hg1)
  have O1 := Lib.hid (show Own w1 w.heap.size 67 9 enC (.slice (some ⟨w.heap.size, 0, none⟩) 0 n) [] from ho1)
  have B1 := Lib.hid (show Below w.heap.size w w1 from (Below.refl _ _).grown hg1 (Nat.le_refl _) (fun k e => by cases e))
  have hgl : w.heap.size < w1.heap.size := (O1.out.lt w.heap.size rfl).2
  clear hg1 ho1 hlen hc
  obtain ⟨wB, hwB⟩ : ∃ wB, wB = w1.alloc (.cells #[.slice (some ⟨w.heap.size, 0, none⟩) 0 n] 82) := ⟨_, rfl⟩
  obtain ⟨Bs, hBs⟩ : ∃ Bs, Bs = w1.heap.size := ⟨_, rfl⟩
  have OB := Lib.hid (show Own wB w.heap.size 67 9 enC (.slice (some ⟨w.heap.size, 0, none⟩) 0 n) [] by rw [hwB]; exact O1.out.alloc _)
  have KB1 := Lib.hid (show Blk wB Bs #[.slice (some ⟨w.heap.size, 0, none⟩) 0 n] 82 by rw [hwB, hBs]; exact Blk.new _ _ _)
  have BB := Lib.hid (show Below w.heap.size w wB by rw [hwB]; exact B1.out.alloc B1.out.size _)
  have HBG := Lib.hid (show w.heap.size < Bs by rw [hBs]; exact hgl)
  rw [← hwB, ← hBs]
  clear hgl hwB hBs O1 B1
  have hc1 := (H4.out.below BB.out H4.out.lt).cell 2
  simp only [List.getElem?_toArray, List.getElem?_cons_zero, List.getElem?_cons_succ] at hc1
  obtain ⟨ob, hrg, hit⟩ := (H5.out.next BB.out).range (P := Tryd.prog) Tryd.underlying103
  have hrng : (Instr.range 103 (.map (some mb))).run Tryd.prog wB = .ok (.pointer (some ⟨wB.heap.size, 0, none⟩)) (wB.alloc ob) := hrg
  obtain ⟨w2, hw2⟩ : ∃ w2, w2 = wB.alloc ob := ⟨_, rfl⟩
  rw [← hw2] at hrng hit
  obtain ⟨r, hr⟩ : ∃ r, r = wB.heap.size := ⟨_, rfl⟩
  rw [← hr] at hrng hit
  have HR := Lib.hid (show Bs < r by rw [hr]; exact KB1.out.lt)
  have I0 := Lib.hid (show lfLoop w r mb Bs L L [] (.slice (some ⟨w.heap.size, 0, none⟩) 0 n) w2 from
    ⟨hit, by rw [hw2]; exact OB.out.alloc _, by rw [hw2]; exact KB1.out.alloc _, List.Perm.refl _, by rw [hw2]; exact BB.out.alloc BB.out.size _, Nat.le_of_lt HBG.out, ⟨w.heap.size, rfl, by have := HBG.out; have := HR.out; omega, by have := HBG.out; omega⟩, by have := HR.out; omega⟩)
  clear hrg hit hw2 hr
  go_upto_region 5 with fail
  clear hc1 hrng
  go_loopw [] (fun wr => ∃ (left : List (Nat × En)) (pre : List En) (v : Value), lfLoop w r mb Bs L left pre v wr) (fun wr => wr.rangeLeft mb r)
  case atStart => exact ⟨L, [], _, I0.out⟩
  case round =>
    obtain ⟨left, pre, v, hlp⟩ := hrel
    have LP := Lib.hid hlp
    have hit := hlp.it
    clear hlp
    rcases hit.step (P := Tryd.prog) (by have := hmb.out; have := HR.out; have := HBG.out; omega) 0 with ⟨h0, hnx⟩ | ⟨j, x, y, w3, hj, hnx, hit3, hg3, hs3, hen⟩
    · clear hit
      have HL0 := Lib.hid h0
      clear h0
      obtain ⟨g, hob, hgr, hgb⟩ := LP.out.ne
      obtain ⟨cap, rfl, hgw⟩ : ∃ cap, v = .slice (some ⟨g, 0, none⟩) pre.length cap ∧ g < wr.heap.size := by
        rcases LP.out.own.cases with ⟨hv, -⟩ | ⟨g2, cap, hv, -, hlt, -⟩
        · rw [hv] at hob
          cases hob
        · rw [hv] at hob
          have e : g2 = g := Option.some.inj hob
          exact ⟨cap, by rw [hv, e], e ▸ hlt⟩
      have hp := LP.out.perm
      rw [HL0.out, List.map_nil, List.append_nil] at hp
      have HPP := Lib.hid hp
      have hlen : pre.length ≤ 1000 := by
        rw [hp.length_eq, List.length_map, HN.out]
        omega
      have c0 := LP.out.box.cell 0
      simp only [List.getElem?_toArray, List.getElem?_cons_zero] at c0
      have hsrt := lf_sort (Bs := Bs) LP.out.own hgw hlen c0 LP.out.box.lt (fun e => hgb e.symm)
      have HS := Lib.hid hsrt
      have HGO := Lib.hid (LP.out.own.lt g rfl).1
      have HGB := Lib.hid hgb
      clear hlen hp hgw hsrt hob hgr hgb
      have HLEN := Lib.hid (show pre.length = pre.length from rfl)
      generalize hpl : pre.length = pl at *
      go_upto_region 9 with (go_at_call 40; refine HS.out.mono ?_; rintro e w5 ⟨rfl, l', q1, q2, q3, q4⟩)
      have c5 := (LP.out.box.grown q4 (fun e => HGB.out (Option.some.inj e).symm)).cell 0
      simp only [List.getElem?_toArray, List.getElem?_cons_zero] at c5
      have Q1 := Lib.hid q1
      have Q2 := Lib.hid q2
      have Q3 := Lib.hid q3
      have Q4 := Lib.hid q4
      clear q1 q2 q3 q4 c0
      go_wp2_with fail
      go_ret
      refine ⟨_, rfl, ?_, LP.out.below.grown Q4.out LP.out.below.size (fun k e => by cases e; exact HGO.out)⟩
      have hmem : ∀ z ∈ l', enOk z := fun z hz => h7 z (h6.2.map (·.2) |>.mem_iff.1 ((Q1.out.trans HPP.out).mem_iff.1 hz) |> fun q => by
        obtain ⟨u, hu, rfl⟩ := List.mem_map.1 q
        obtain ⟨u2, hu2, rfl⟩ := List.mem_map.1 hu
        exact hu2)
      have q3 := Q3.out
      rw [h6.sorted (Q1.out.trans HPP.out) (List.Pairwise.imp_of_mem (fun {a c} ha hc hh => ltE_le (hmem a ha) (hmem c hc) hh) Q2.out)] at q3
      exact q3
    · clear hit
      have hxy := h6.mem (LP.out.it.sub.mem (List.mem_of_getElem? hj))
      obtain ⟨rfl, hyl⟩ : x = enK y ∧ y ∈ l := hxy
      have hyo := h7 y hyl
      have ekv : kvK (enK y) = kyV y.vid y.mac := kvK_of y.vid y.mac hyo
      rw [ekv] at hnx hen
      unfold vvE at hnx hen
      have HIt3 := Lib.hid hit3
      have HG3 := Lib.hid hg3
      have HS3 := Lib.hid hs3
      have HJ := Lib.hid hj
      obtain ⟨g, hob, hgr, hgb⟩ := LP.out.ne
      have o3 : Own w3 w.heap.size 67 9 enC v pre := LP.out.own.kept hg3 (.inr (by rw [hob]; intro e; exact hgr (Option.some.inj e)))
      have b3 : Blk w3 Bs #[v] 82 := LP.out.box.grown hg3 (fun e => LP.out.nr (Option.some.inj e))
      obtain ⟨w5, hw5⟩ : ∃ w5, w5 = (w3.alloc (.cells (enA y) 67)).alloc (.cells (enA y) 67) := ⟨_, rfl⟩
      have o5 : Own w5 w.heap.size 67 9 enC v pre := by rw [hw5]; exact (o3.alloc _).alloc _
      have b5 : Blk w5 Bs #[v] 82 := by rw [hw5]; exact (b3.alloc _).alloc _
      have s5 : Src w5 enC (.slice (some ⟨w3.heap.size + 1, 0, none⟩) 1 1) [y] := by
        refine .inr ⟨⟨w3.heap.size + 1, 0, none⟩, 1, rfl, fun j u hu => ?_⟩
        have hk : Blk w5 (w3.heap.size + 1) (enA y) 67 := by
          have := Blk.new (w3.alloc (.cells (enA y) 67)) (enA y) 67
          rw [hw5]
          simpa using this
        have ea : (⟨w3.heap.size + 1, 0, none⟩ : Addr).add j = ⟨w3.heap.size + 1, j, none⟩ := by
          unfold Addr.add
          split <;> simp_all
        rw [ea, hk.cell]
        simpa [cellsL, enC] using hu
      have hpl : pre.length ≤ 100 := by
        have := LP.out.perm.length_eq
        rw [List.length_append, List.length_map, List.length_map, HN.out] at this
        omega
      have hw3s : w.heap.size ≤ w3.heap.size := Nat.le_trans LP.out.below.size hg3.size
      obtain ⟨v6, w6, hrun, o6, hg6, hv6⟩ := o5.app (P := Tryd.prog) (t := 82) (ty := 82) s5 Tryd.underlying82 HI.out HZ.out HS.out HBY.out HZS.out (by omega) enC_len enC_one
        (by unfold maxLen; simp; omega) (by simp; omega) (by rw [hw5]; simp; omega)
      obtain ⟨g9, m9, c9, hv9⟩ : ∃ g9 m9 c9, v6 = .slice (some ⟨g9, 0, none⟩) m9 c9 := by
        rcases o6.cases with ⟨-, q⟩ | ⟨g9, c9, q, -⟩
        · exact absurd q (by simp)
        · exact ⟨g9, _, c9, q⟩
      subst hv9
      have g6 := hg6
      rw [hob] at g6
      have b6 : Blk w6 Bs #[v] 82 := b5.grown g6 (fun e => hgb (Option.some.inj e).symm)
      have c3 := (b3.alloc (.cells (enA y) 67)).cell 0
      have c6 := b6.cell 0
      have f6 := b6.free 0
      simp only [List.getElem?_toArray, List.getElem?_cons_zero] at c3 c6
      have O6 := Lib.hid o6
      have G6 := Lib.hid g6
      have V6 := Lib.hid hv6
      have B6 := Lib.hid b6
      have HW5 := Lib.hid hw5
      have HOB := Lib.hid hob
      have HGR := Lib.hid hgr
      have HGB := Lib.hid hgb
      have HW3 := Lib.hid hw3s
      have B3 := Lib.hid b3
      clear o3 o5 s5 b5 hpl o6 hg6 hv6 hj hit3 hg3 hs3 g6 b6 hob hgr hgb ekv hyl hw3s b3
      rw [hw5] at hrun
      clear hw5
      go_wp2_with (at_builtin; refine wpList_append_lst rfl _ _ 82 rfl (.slice (some ⟨g9, 0, none⟩) m9 c9) w6 hrun ?_)
      have hm := hmb.out
      have hbg := HBG.out
      have hrr := HR.out
      have hw5s : w5.heap.size = w3.heap.size + 1 + 1 := by rw [HW5.out]; simp
      have it5 : It w5 r mb kvK vvE L (left.eraseIdx j) := by rw [HW5.out]; exact (HIt3.out.alloc _).alloc _
      have hge := (LP.out.own.lt g HOB.out).1
      have it6 := it5.grown G6.out (fun e => HGR.out (Option.some.inj e).symm) (fun e => by have := Option.some.inj e; omega)
      have b3 := LP.out.below.grown HG3.out LP.out.below.size (fun k e => by cases e; omega)
      have b5 : Below w.heap.size w w5 := by rw [HW5.out]; exact (b3.alloc b3.size _).alloc (by have := b3.size; simp; omega) _
      have b6 := b5.grown G6.out b5.size (fun k e => by cases e; exact hge)
      have hr5 : r < w5.heap.size := it5.lt
      have hB5 : Bs < w5.heap.size := by have := B3.out.lt; omega
      have hv7 : ∃ g', (Value.slice (some ⟨g9, 0, none⟩) m9 c9).ownBlock = some g' ∧ g' ≠ r ∧ g' ≠ Bs := by
        rcases V6.out with hv | hv
        · exact ⟨g, hv.trans HOB.out, HGR.out, HGB.out⟩
        · exact ⟨w5.heap.size, hv, by omega, by omega⟩
      have it7 : It (w6.setCell ⟨Bs, 0, none⟩ (.slice (some ⟨g9, 0, none⟩) m9 c9)) r mb kvK vvE L (left.eraseIdx j) := it6.setCell (by show r ≠ Bs; omega) (by show mb ≠ Bs; omega) (.slice (some ⟨g9, 0, none⟩) m9 c9)
      refine ⟨⟨left.eraseIdx j, pre ++ [y], (.slice (some ⟨g9, 0, none⟩) m9 c9), it7, ?_, ?_, perm_left LP.out.perm HJ.out, b6.setCell (by show w.heap.size ≤ Bs; omega) _, LP.out.low, hv7, LP.out.nr⟩, ?_⟩
      · obtain ⟨g', e1, -, e2⟩ := hv7
        exact O6.out.setCell (by rw [e1]; intro q; exact e2 (Option.some.inj q)) _
      · have q := B6.out.set 0 (.slice (some ⟨g9, 0, none⟩) m9 c9)
        simpa using q
      · rw [it7.left_eq, LP.out.it.left_eq, List.length_eraseIdx]
        have := (List.getElem?_eq_some_iff.1 HJ.out).1
        rw [if_pos this]
        omega
end
section
/- PlaneShut: what Pass answers says enough. -/
open Go.RowKit
attribute [local irreducible] wpQuiet wpList

theorem learn_len {mo li : Int} {l : List En} {x : En} {l' : List En} {gv : Array Value} {full : Bool} (h : LearnR mo li l x l' gv full) : l'.length ≤ l.length + 1 := by
  have e : ∀ (l : List En) (x : En), (putD l x).length ≤ l.length + 1 := fun l x => by
    unfold putD
    rw [layK_len]
    have := cutK_len enK (enK x) l
    omega
  rcases h with ⟨-, rfl, -⟩ | ⟨-, -, rfl, -⟩ | ⟨-, -, z, -, rfl, -⟩
  · omega
  · exact e l x
  · have := e (cutK enK (enK z) l) x
    have := cutK_len enK (enK z) l
    omega
theorem list_any {w0 w : World} {i : Ix} {lv : List Vl} {ls : List Se} {lf : List En} {l : List (Nat × Array Value × TypeId)} {C : Bd} (K : Kx w0 l ((bdT w0 i lv ls lf).and C) w) (hl : lf.length ≤ 100) :
    Calls Tryd.prog 20 #[.pointer (some ⟨i.b3, 0, none⟩)] w fun e w' => ∃ v, e = .returned v ∧ ∃ a c, v = .slice a lf.length c ∧ Src w' enC v lf ∧ Kx w0 l ((bdT w0 i lv ls lf).and C) w' ∧ Below w.heap.size w w' := by
  have h : T3 w0 i lv ls lf w := K.a.1
  refine (list22 h.tabF hl).mono fun e w' ⟨v, q1, q2, q3⟩ => ⟨v, q1, ?_⟩
  rcases q2 with ⟨q4, q5⟩ | ⟨ad, c, q4, q5⟩
  · exact ⟨none, 0, by rw [q4, q5]; rfl, .inl ⟨q4, q5⟩, K.next q3, q3⟩
  · exact ⟨_, c, q4, .inr ⟨ad, c, q4, q5⟩, K.next q3, q3⟩
theorem has_and (x y : Nat) (p : Int) : hasB (x &&& y) p = (hasB x p && hasB y p) := by
  rcases port_cases p with h | ⟨k, hk, rfl⟩
  · rw [hasB_no h, hasB_no h]; rfl
  · rw [hasB_bit _ k hk, hasB_bit _ k hk, hasB_bit _ k hk, Nat.testBit_and]
theorem hasB_zero (p : Int) : hasB 0 p = false := by
  rcases port_cases p with h | ⟨k, hk, rfl⟩
  · exact hasB_no h
  · rw [hasB_bit _ k hk, Nat.zero_testBit]
/-- A port that doesn't take frames. -/
def shutP (ps : List Po) (fr : Int) : Prop := fr < 1 ∨ (ps.length : Int) < fr ∨ ∃ p, ps[(fr - 1).toNat]? = some p ∧ (onP p = false ∨ p.p11 = 0)
theorem has_openM {ps : List Po} {q : Int} : ∀ k, hasB (openM ps k) q = true → ∃ (j : Nat) (y : Po), q = (j : Int) + 1 ∧ ps[j]? = some y ∧ onP y = true ∧ y.p11 = 2
  | 0, h => by unfold openM at h; rw [hasB_zero] at h; cases h
  | k + 1, h => by
    unfold openM at h
    split at h
    · rename_i p hp
      split at h
      · rename_i c
        rw [has_withS, Bool.or_eq_true] at h
        rcases h with h | h
        · exact has_openM k h
        · rw [Bool.and_eq_true] at h
          exact ⟨k, p, of_decide_eq_true h.1, hp, c.1, c.2⟩
      · exact has_openM k h
    · exact has_openM k h
theorem ent_shut {lv : List Vl} {ps : List Po} {fr : Int} {x : Fr} (h : shutP ps fr) : entM lv ps fr x = (0, 6) := by
  unfold entM
  split
  · rfl
  · rename_i c
    rcases h with h | h | ⟨p, hp, h⟩
    · exact absurd h c
    · rw [List.getElem?_eq_none (by omega)]
    · rw [hp]
      dsimp only
      split
      · rfl
      · rename_i c2
        rcases h with h | h
        · exact absurd h c2
        · rw [if_pos h]
/-- A frame that was sent, as the one that came. -/
def likeP (x : Fr) (ps : List Po) (fr : Int) (s : Sn) : Prop :=
  (∃ (d : Nat → Nat) (tg : Bool) (pc : Nat) (de : Bool) (vi ty : Nat), s.fr = ⟨d, x.s, tg, pc, de, vi, ty, x.da⟩) ∧ s.p ≠ fr ∧ ∃ (j : Nat) (y : Po), s.p = (j : Int) + 1 ∧ ps[j]? = some y ∧ onP y = true ∧ y.p11 = 2
theorem pass_shut {i : Ix} {lv : List Vl} {ls : List Se} {lf l' : List En} {ps : List Po} {fr : Int} {x : Fr} {aq ad : Nat} {why : Int} {lb full : Bool} {sent : List Sn} (hok : ∀ y ∈ ps, PoOk y) (h : PassR i lv ls lf ps fr x aq ad l' why lb full sent) :
    l'.length ≤ lf.length + 1 ∧ (shutP ps fr → why = 6 ∧ lb = false ∧ sent = [] ∧ l' = lf) ∧ ((¬ shutP ps fr) → ∃ (k : Nat) (p : Po), fr = (k : Int) + 1 ∧ ps[k]? = some p ∧ onP p = true ∧ ¬ p.p11 = 0 ∧ (sent ≠ [] → p.p11 = 2)) ∧ ∀ s ∈ sent, likeP x ps fr s := by
  have hopen : (¬ shutP ps fr) → ∃ (k : Nat) (p : Po), fr = (k : Int) + 1 ∧ ps[k]? = some p ∧ onP p = true ∧ ¬ p.p11 = 0 := fun hn => by
    by_cases c1 : fr < 1
    · exact absurd (.inl c1) hn
    · by_cases c2 : (ps.length : Int) < fr
      · exact absurd (.inr (.inl c2)) hn
      · obtain ⟨p, hp⟩ : ∃ p, ps[(fr - 1).toNat]? = some p := ⟨_, List.getElem?_eq_getElem (by omega)⟩
        refine ⟨(fr - 1).toNat, p, by omega, hp, ?_, fun c => hn (.inr (.inr ⟨p, hp, .inr c⟩))⟩
        cases c : onP p with
        | true => rfl
        | false => exact absurd (.inr (.inr ⟨p, hp, .inl c⟩)) hn
  rcases h with ⟨h1, rfl, hw, rfl, rfl, rfl⟩ | ⟨h1, ⟨gv, hL⟩, -, p, hp, hc⟩
  · refine ⟨by omega, fun hs => ⟨by rw [hw, ent_shut hs], rfl, rfl, rfl⟩, fun hn => ?_, fun s hs => by cases hs⟩
    obtain ⟨k, p, q1, q2, q3, q4⟩ := hopen hn
    exact ⟨k, p, q1, q2, q3, q4, fun c => absurd rfl c⟩
  · refine ⟨learn_len hL, fun hs => (by rw [ent_shut hs] at h1; cases h1), fun hn => ?_, ?_⟩
    · obtain ⟨k, p', q1, q2, q3, q4⟩ := hopen hn
      have e : p' = p := by rw [q1, show ((k : Int) + 1 - 1).toNat = k by omega, q2] at hp; exact Option.some.inj hp
      subst e
      refine ⟨k, p', q1, q2, q3, q4, fun c => ?_⟩
      rcases hc with ⟨-, -, rfl⟩ | ⟨h2, -, -⟩
      · exact absurd rfl c
      · rcases (hok p' (List.mem_of_getElem? q2)).st with h | h | h
        · exact absurd h q4
        · exact absurd h h2
        · exact h
    · rcases hc with ⟨-, -, rfl⟩ | ⟨-, -, rfl⟩
      · intro s hs; cases hs
      · intro s hs
        unfold sendL at hs
        obtain ⟨q, hq, he⟩ := List.mem_filterMap.1 hs
        split at he
        · injection he with he
          subst he
          have hqs : hasB (portsN fr (entM lv ps fr x).1 ad (openM ps ps.length) lv ls l') q = true := by
            unfold portsL upto at hq
            exact (List.mem_filter.1 hq).2
          unfold portsN at hqs
          split at hqs
          · rw [hasB_zero] at hqs; cases hqs
          · rw [has_and, has_and, Bool.and_eq_true, Bool.and_eq_true, has_withoutS, Bool.and_eq_true] at hqs
            obtain ⟨⟨⟨-, h3⟩, h4⟩, -⟩ := hqs
            refine ⟨?_, of_decide_eq_true h3, has_openM _ h4⟩
            unfold forT
            split
            · exact ⟨_, _, _, _, _, _, rfl⟩
            · exact ⟨_, _, _, _, _, _, rfl⟩
        · cases he
theorem qv {P : Program} {ops : Array Oper} {C : World → Prop} {Q : Act → Prop} {a : Act} {rest : List Oper} {o : Oper} (v : Value) (h : wpQuiet P ops C Q rest (a.put o.dst v)) (hw : Region.wanted o (yielded ops a.tmps) = true := by rfl)
    (hv : ∀ w, C w → (execOp a.eval o).run P w = .ok (.value v) w := by intro wv hC; go_simp) : wpQuiet P ops C Q (o :: rest) a := q_val v hw hv h
theorem equal_mc (m : Nat → Nat) (W : World) : (Op.equalIn 10000 40 (.agg (macA m)) (.agg (macA m))).run Tryd.prog W = .ok true W := by
  have h := equal_mac 9998 40 Tryd.underlying40 m m W
  rw [eqMac_self] at h
  exact h
end
section
/- PlanePasses: the layers' answers, put together, are what Pass says. -/
open Go.RowKit

theorem older_asym {x y : En} (h : olderB x y = true) : olderB y x = false := by
  unfold olderB at *
  split at h <;> split <;> simp_all <;> omega
theorem old_unique {l : List En} {x y : En} (h : OldS l x) (k : OldS l y) : x = y := by
  rcases h.2 y k.1 with e | e
  · exact e.symm
  · rcases k.2 x h.1 with f | f
    · exact f
    · rw [older_asym e] at f; cases f
theorem learn_det {mo li : Int} {l : List En} {x : En} {l1 l2 : List En} {g1 g2 : Array Value} {b1 b2 : Bool} (h : LearnR mo li l x l1 g1 b1) (k : LearnR mo li l x l2 g2 b2) : l1 = l2 ∧ b1 = b2 := by
  rcases h with ⟨a1, rfl, -, rfl⟩ | ⟨a1, c1, rfl, -, rfl⟩ | ⟨a1, c1, z1, o1, rfl, -, rfl⟩ <;> rcases k with ⟨a2, rfl, -, rfl⟩ | ⟨a2, c2, rfl, -, rfl⟩ | ⟨a2, c2, z2, o2, rfl, -, rfl⟩
  · exact ⟨rfl, rfl⟩
  · rw [a1] at a2; cases a2
  · rw [a1] at a2; cases a2
  · rw [a1] at a2; cases a2
  · exact ⟨rfl, rfl⟩
  · rw [c1] at c2; cases c2
  · rw [a1] at a2; cases a2
  · rw [c1] at c2; cases c2
  · rw [old_unique o1 o2]; exact ⟨rfl, rfl⟩
theorem layE_self (l : List En) (x : En) : x ∈ layK enK l x := by
  unfold layK
  simp
theorem find_mem {v : Nat} {l : List En} {x : En} (hx : x ∈ l) (hk : enK x = v) : (findF v l).2 = true := by
  unfold findF
  rcases atK_cases (key := enK) v l with ⟨h, h2⟩ | ⟨k, y, h, -⟩
  · exact absurd hk (h2 x hx)
  · rw [if_neg (by rw [h]; omega)]
/-- Whether a station is new. -/
theorem learnt_eq {mo li : Int} {l : List En} {x : En} {l' : List En} {g : Array Value} {b : Bool} (h : LearnR mo li l x l' g b) (hp : 1 ≤ x.port ∧ x.port ≤ 16) (ha : x.age = 0) (hl : li = 20) :
    ((findF (enK x) l').2 && !(findF (enK x) l).2) = (!(findF (enK x) l).2 && !decide (byteF x.mac 0 % 2 = 1)) := by
  have ht : takesB li x = !decide (byteF x.mac 0 % 2 = 1) := by
    unfold takesB
    rw [ha, hl, decide_eq_true hp.1, decide_eq_true hp.2]
    simp
  rcases h with ⟨a1, rfl, -, rfl⟩ | ⟨a1, c1, rfl, -, rfl⟩ | ⟨a1, c1, z1, o1, rfl, -, rfl⟩
  · rw [← ht, a1]; simp
  · rw [← ht, a1]; unfold putD; rw [find_mem (layE_self _ _) rfl]; simp
  · rw [← ht, a1]; unfold putD; rw [find_mem (layE_self _ _) rfl]; simp
section
variable {i : Ix} {lv : List Vl} {ls : List Se} {lf l' : List En} {ps : List Po} {fr : Int} {x : Fr} {aq ad : Nat} {why : Int} {lb full : Bool} {sent : List Sn}
theorem pass_closed (h : PassR i lv ls lf ps fr x aq ad l' why lb full sent) (hs : shutP ps fr) : l' = lf ∧ why = 6 ∧ lb = false ∧ full = false ∧ sent = [] := by
  have e := ent_shut (lv := lv) (x := x) hs
  rcases h with ⟨h1, rfl, hw, rfl, rfl, rfl⟩ | ⟨h1, -⟩
  · exact ⟨rfl, by rw [hw, e], rfl, rfl, rfl⟩
  · rw [e] at h1; cases h1
theorem ent_open {k : Nat} {p : Po} (hp : ps[k]? = some p) (ho : onP p = true) (hz : ¬ p.p11 = 0) : entM lv ps ((k + 1 : Nat) : Int) x = if resB x.d = true then (0, 2) else (ingV (vidM p x) (ingM lv p ((k + 1 : Nat) : Int) x), whyN (ingM lv p ((k + 1 : Nat) : Int) x)) := by
  unfold entM
  rw [if_neg (by omega), show (((k + 1 : Nat) : Int) - 1).toNat = k by omega, hp]
  dsimp only
  rw [if_neg (by rw [ho]; decide), if_neg hz]
theorem pass_held {k : Nat} {p : Po} (h : PassR i lv ls lf ps ((k + 1 : Nat) : Int) x aq ad l' why lb full sent) (hp : ps[k]? = some p) (ho : onP p = true) (hz : ¬ p.p11 = 0) (hr : resB x.d = true) : l' = lf ∧ why = 2 ∧ lb = false ∧ full = false ∧ sent = [] := by
  have e := ent_open (lv := lv) (x := x) hp ho hz
  rw [if_pos hr] at e
  rcases h with ⟨h1, rfl, hw, rfl, rfl, rfl⟩ | ⟨h1, -⟩
  · exact ⟨rfl, by rw [hw, e], rfl, rfl, rfl⟩
  · rw [e] at h1; cases h1
theorem pass_refused {k : Nat} {p : Po} (h : PassR i lv ls lf ps ((k + 1 : Nat) : Int) x aq ad l' why lb full sent) (hp : ps[k]? = some p) (ho : onP p = true) (hz : ¬ p.p11 = 0) (hr : ¬ resB x.d = true) (hc : ¬ ingM lv p ((k + 1 : Nat) : Int) x = 0) : l' = lf ∧ why = whyN (ingM lv p ((k + 1 : Nat) : Int) x) ∧ lb = false ∧ full = false ∧ sent = [] := by
  have e := ent_open (lv := lv) (x := x) hp ho hz
  rw [if_neg hr] at e
  have hn : ¬ (entM lv ps ((k + 1 : Nat) : Int) x).2 = 7 := by
    rw [e]
    show ¬ whyN _ = 7
    unfold whyN
    rw [if_neg hc]
    split
    · decide
    · split <;> decide
  rcases h with ⟨h1, rfl, hw, rfl, rfl, rfl⟩ | ⟨h1, -⟩
  · exact ⟨rfl, by rw [hw, e], rfl, rfl, rfl⟩
  · exact absurd h1 hn
/-- What Pass says of a frame that is taken: as the layers do. -/
theorem pass_taken {k : Nat} {p : Po} (h : PassR i lv ls lf ps ((k + 1 : Nat) : Int) x aq ad l' why lb full sent) (hp : ps[k]? = some p) (ho : onP p = true) (hz : ¬ p.p11 = 0) (hr : ¬ resB x.d = true) (hc : ingM lv p ((k + 1 : Nat) : Int) x = 0) (ha : aq < 281474976710656) (hk : k < 8) (hli : i.li = 20)
    {V : Nat} (hV : V = ingV (vidM p x) 0) {l2 : List En} {g : Array Value} {b : Bool} (hL : LearnR i.mo i.li lf ⟨V, aq, ((k + 1 : Nat) : Int), 0⟩ l2 g b) :
    l' = l2 ∧ full = b ∧ lb = (!(findF (keyN V aq) lf).2 && !decide (byteF aq 0 % 2 = 1)) ∧ ((p.p11 = 1 ∧ why = 6 ∧ sent = []) ∨ (¬ p.p11 = 1 ∧ why = 7 ∧ sent = sendL x (findV V lv).1 (portsL (portsN ((k + 1 : Nat) : Int) V ad (openM ps ps.length) lv ls l2)))) := by
  have e := ent_open (lv := lv) (x := x) hp ho hz
  rw [if_neg hr, hc, ← hV] at e
  rcases h with ⟨h1, -⟩ | ⟨h1, ⟨gv, hL'⟩, h3, q, hq, h4⟩
  · rw [e] at h1; exact absurd rfl h1
  · rw [show (((k + 1 : Nat) : Int) - 1).toNat = k by omega, hp] at hq
    cases hq
    rw [e] at hL' h3 h4
    dsimp only at hL' h3 h4
    obtain ⟨rfl, rfl⟩ := learn_det hL' hL
    have q := learnt_eq hL ⟨by show (1 : Int) ≤ ((k + 1 : Nat) : Int); omega, by show ((k + 1 : Nat) : Int) ≤ 16; omega⟩ rfl hli
    unfold enK at q
    dsimp only at q
    rw [q] at h3
    exact ⟨rfl, rfl, h3, h4⟩
end
end
section
/- plane.Pass once more: what it sends lies apart from all else that is owned. -/
open Go.RowKit
attribute [local irreducible] wpQuiet wpList
/-- What Pass answers. -/
def PassQ (w0 : World) (l : List (Nat × Array Value × TypeId)) (i : Ix) (lv : List Vl) (ls : List Se) (lf : List En) (ps : List Po) (fr : Int) (x : Fr) (aq ad : Nat) (a : Option Addr) (n m : Nat) (C : Bd) (v : Value) (w' : World) : Prop :=
  ∃ (sv : Value) (why : Int) (lb full : Bool) (l' : List En) (sent : List Sn), PassR i lv ls lf ps fr x aq ad l' why lb full sent ∧ v = .agg #[sv, .int .i64 why, .bool lb, .bool full] ∧ (∃ x1 x2, sv = .slice x1 sent.length x2) ∧ (∀ k, sv.ownBlock = some k → ¬ C.f k) ∧
    Kx w0 l (((bdT w0 i lv ls l').and ((bdO w0.heap.size 58 21 poC (.slice a n m) ps).and C)).and (bdO w0.heap.size 81 19 snC (sv) (sent))) w'
set_option maxRecDepth 100000 in
set_option maxHeartbeats 8000000 in
theorem passq_any {w0 w : World} {i : Ix} {lv : List Vl} {ls : List Se} {lf : List En} {l : List (Nat × Array Value × TypeId)} {C : Bd} {ps : List Po} {a : Option Addr} {n m : Nat} (K0 : Kx w0 l ((bdT w0 i lv ls lf).and ((bdO w0.heap.size 58 21 poC (.slice a n m) ps).and C)) w) (hd : ∀ k, ((bdO w0.heap.size 58 21 poC (.slice a n m) ps).and C).f k → ¬ (bdT w0 i lv ls lf).f k) (hmo : 1 ≤ i.mo) (hn : ps.length = n) (hm : n ≤ m ∧ m ≤ maxLen) (hok : ∀ y ∈ ps, PoOk y) (hW : WhysAt w0)
    (fr : Int) (x : Fr) (hx : x.ok) (aq ad : Nat) (ha1 : aq < 281474976710656) (hs : x.s = byteF aq) (ha2 : ad < 281474976710656) (hdd : x.d = byteF ad) :
    Calls Tryd.prog 8 #[.agg (t3A i), .slice a n m, .int .i64 fr, .agg (fA x)] w fun e w' => ∃ v, e = .returned v ∧ PassQ w0 l i lv ls lf ps fr x aq ad a n m C v w' := by
  have HK0 := Lib.hid K0
  have HD := Lib.hid (K0.dis hd)
  have K := Lib.hid K0.inn
  have HMO := Lib.hid hmo
  have HN := Lib.hid hn
  have HM := Lib.hid hm
  have HOK := Lib.hid hok
  have HW := Lib.hid hW
  have HX := Lib.hid hx
  have HA1 := Lib.hid ha1
  have HA2 := Lib.hid ha2
  have HS := Lib.hid hs
  have HDD := Lib.hid hdd
  have i1 : (n : Int) ≤ 9223372036854775807 := by unfold maxLen at hm; omega
  have i2 : (n : Int) ≤ (m : Int) := by omega
  obtain ⟨vv, hvv⟩ : ∃ vv, vv = (entM lv ps fr x).1 := ⟨_, rfl⟩
  obtain ⟨wy, hwy⟩ : ∃ wy, wy = (entM lv ps fr x).2 := ⟨_, rfl⟩
  have HVV := Lib.hid hvv
  have HWY := Lib.hid hwy
  have HEN := Lib.hid (show ∀ W l2, Kx w0 l2 ((bdT w0 i lv ls lf).and (((bdO w0.heap.size 58 21 poC (.slice a n m) ps).and C).and (bdK l))) W → Calls Tryd.prog 27 #[.agg (t3A i), .slice a n m, .int .i64 fr, .agg (fA x)] W fun e w' => e = .returned (.tuple #[.int .u16 (vv : Nat), .int .i64 wy]) ∧ Below W.heap.size W w' from fun W l2 hK => by
    rw [hvv, hwy]
    exact enter_n HN.out hK.a.1 hK.a.2.1.1 HM.out HOK.out (HW.out.next hK.below HW.out.lt) fr x HX.out)
  clear K0 hd hmo hn hm hok hW hx ha1 ha2 hs hdd hvv hwy
  by_cases c0 : wy = 7
  case neg =>
    have HC := Lib.hid (show decide (wy = 7) = false from decide_eq_false c0)
    have HC2 := Lib.hid (show (wy == 7) = false by simpa using c0)
    have HC3 := Lib.hid (show (wy != 7) = true by simpa using c0)
    have HC0 := Lib.hid c0
    clear c0
    go_enter Tryd.func8, Tryd.ntmps8
    go_upto_region 0 with fail
    refine wp_region_lit ?_
    refine kx_box K.out 35 (.tmp 0) (t3A i) rfl rfl (by rfl) ?_
    intro b1 w1 hb1 hk
    have K1 := Lib.hid (show Kx w0 [(b1, t3A i, 35)] ((bdT w0 i lv ls lf).and (((bdO w0.heap.size 58 21 poC (.slice a n m) ps).and C).and (bdK l))) w1 from hk)
    clear hk hb1
    (try simp only [Act.put, gA, gS, gZ, sA, sZ, sS])
    refine kx_box K1.out 42 (.tmp 3) (fA x) rfl rfl (by rfl) ?_
    intro b2 w2 hb2 hk
    have K2 := Lib.hid (show Kx w0 [(b1, t3A i, 35), (b2, fA x, 42)] ((bdT w0 i lv ls lf).and (((bdO w0.heap.size 58 21 poC (.slice a n m) ps).and C).and (bdK l))) w2 from hk)
    clear hk hb2
    (try simp only [Act.put, gA, gS, gZ, sA, sZ, sS])
    refine kx_alloc K2.out 48 (#[.slice none 0 0, .int .i64 0, .bool false, .bool false]) rfl z4 (by rfl) ?_
    intro b3 w3 hb3 hk
    have K3 := Lib.hid (show Kx w0 [(b1, t3A i, 35), (b2, fA x, 42), (b3, #[.slice none 0 0, .int .i64 0, .bool false, .bool false], 48)] ((bdT w0 i lv ls lf).and (((bdO w0.heap.size 58 21 poC (.slice a n m) ps).and C).and (bdK l))) w3 from hk)
    clear hk hb3
    (try simp only [Act.put, gA, gS, gZ, sA, sZ, sS])
    refine wpList_nil ?_
    go_upto_region 1 with fail
    refine wp_region_lit ?_
    refine wv (.agg (t3A i)) ?_ (hrun := kx_all K3.out 0 rfl 35 _ rfl rfl Tryd.underlying35 rfl (t3Size))
    (try simp only [Act.put, gA, gS, gZ, sA, sZ, sS])
    refine wv (.slice a n m) ?_
    (try simp only [Act.put, gA, gS, gZ, sA, sZ, sS])
    refine wv (.int .i64 fr) ?_
    (try simp only [Act.put, gA, gS, gZ, sA, sZ, sS])
    refine wv (.agg (fA x)) ?_ (hrun := kx_all K3.out 1 rfl 42 _ rfl rfl Tryd.underlying42 rfl (fA_size _))
    (try simp only [Act.put, gA, gS, gZ, sA, sZ, sS])
    refine kx_call K3.out 27 #[.agg (t3A i), .slice a n m, .int .i64 fr, .agg (fA x)] (.tuple #[.int .u16 (vv : Nat), .int .i64 wy]) (by rfl) (by go_simp) (HEN.out _ _ K3.out) ?_
    intro w4 hk
    have K4 := Lib.hid (show Kx w0 [(b1, t3A i, 35), (b2, fA x, 42), (b3, #[.slice none 0 0, .int .i64 0, .bool false, .bool false], 48)] ((bdT w0 i lv ls lf).and (((bdO w0.heap.size 58 21 poC (.slice a n m) ps).and C).and (bdK l))) w4 from hk)
    clear hk
    (try simp only [Act.put, gA, gS, gZ, sA, sZ, sS])
    refine wv (.tuple #[.int .u16 (vv : Nat), .int .i64 wy]) ?_
    (try simp only [Act.put, gA, gS, gZ, sA, sZ, sS])
    refine wv (.int .u16 (vv : Nat)) ?_
    (try simp only [Act.put, gA, gS, gZ, sA, sZ, sS])
    refine wv (.int .i64 wy) ?_
    (try simp only [Act.put, gA, gS, gZ, sA, sZ, sS])
    refine wv (.int .u16 (vv : Nat)) ?_
    (try simp only [Act.put, gA, gS, gZ, sA, sZ, sS])
    refine wv (.int .i64 wy) ?_
    (try simp only [Act.put, gA, gS, gZ, sA, sZ, sS])
    refine wpList_nil ?_
    go_upto_region 2 with fail
    refine wp_region_lit ?_
    refine wv (.int .i64 wy) ?_
    (try simp only [Act.put, gA, gS, gZ, sA, sZ, sS])
    refine wv (.bool true) ?_ (hrun := by have q := HC.out; have q2 := HC2.out; have q3 := HC3.out; go_simp)
    (try simp only [Act.put, gA, gS, gZ, sA, sZ, sS])
    refine wpList_nil ?_
    go_upto_region 3 with fail
    refine wp_region_lit ?_
    refine wv (.int .i64 wy) ?_
    (try simp only [Act.put, gA, gS, gZ, sA, sZ, sS])
    refine wv (.agg (#[.slice none 0 0, .int .i64 wy, .bool false, .bool false])) ?_ (hrun := run_build_of 48 [(1, .tmp 22)] rfl _ (#[.slice none 0 0, .int .i64 wy, .bool false, .bool false]) rfl (by kernel_rfl))
    (try simp only [Act.put, gA, gS, gZ, sA, sZ, sS])
    refine kx_row K4.out 2 rfl 48 _ _ (#[.slice none 0 0, .int .i64 wy, .bool false, .bool false]) rfl rfl rfl rfl (rsize) (by rfl) (by kernel_rfl) ?_
    intro w5 hk
    have K5 := Lib.hid (show Kx w0 [(b1, t3A i, 35), (b2, fA x, 42), (b3, #[.slice none 0 0, .int .i64 wy, .bool false, .bool false], 48)] ((bdT w0 i lv ls lf).and (((bdO w0.heap.size 58 21 poC (.slice a n m) ps).and C).and (bdK l))) w5 from hk)
    clear hk
    (try simp only [Act.put, gA, gS, gZ, sA, sZ, sS])
    refine wpList_nil ?_
    go_wp2_with fail
    refine bodyPost_ret (v := .agg (#[.slice none 0 0, .int .i64 wy, .bool false, .bool false])) (results_cell_row Tryd.results8 _ _ b3 48 _ (0, 0) _ rfl (K5.out.at (i := 2) rfl) Tryd.underlying48 rfl rsize) rfl ?_
    refine ⟨_, rfl, ?_⟩
    unfold PassQ
    refine ⟨.slice none 0 0, wy, false, false, lf, [], .inl ⟨by rw [← HWY.out]; exact HC0.out, rfl, HWY.out, rfl, rfl, rfl⟩, rfl, ⟨none, 0, rfl⟩, (fun k hk _ => (by cases hk)), HK0.out.outN (T' := bdT w0 i lv ls lf) (N := bdO w0.heap.size 81 19 snC (.slice none 0 0) ([])) ((Kx.left (l := []) K5.out).turn (A' := ((bdT w0 i lv ls lf).and (((bdO w0.heap.size 58 21 poC (.slice a n m) ps).and C).and (bdK l))).and (bdO w0.heap.size 81 19 snC (.slice none 0 0) ([]))) (fun h => ⟨h, Own.nil _ _ _ _ _⟩) (fun k q => ?_)) (fun k q => q) (fun k q => by cases q)⟩
    rcases q with q | q
    · exact q
    · cases q
  case pos =>
    have HC0 := Lib.hid (show (entM lv ps fr x).2 = 7 by rw [← HWY.out]; exact c0)
    subst c0
    obtain ⟨k, p, hk, hp, -, hp0⟩ := ent7 HC0.out
    have HKF := Lib.hid hk
    subst hk
    have HP := Lib.hid hp
    have hkn : k < n := by have := (List.getElem?_eq_some_iff.1 hp).1; have := HN.out; omega
    obtain ⟨g, hg⟩ : ∃ g, a = some ⟨g, 0, none⟩ := by
      have hO : Own w w0.heap.size 58 21 poC (.slice a n m) ps := HK0.out.a.2.1
      have q := HN.out
      subst q
      obtain ⟨g, hg, -⟩ := hO.elem po_len hp
      exact ⟨g, hg⟩
    subst hg
    have c2 : (0 : Int) ≤ (k : Int) := by omega
    have c3 : (k : Int) < (n : Int) := by omega
    have c6 : (k : Int) ≤ 9223372036854775807 := by omega
    clear hp hp0
    go_enter Tryd.func8, Tryd.ntmps8
    go_upto_region 0 with fail
    refine wp_region_lit ?_
    refine kx_box K.out 35 (.tmp 0) (t3A i) rfl rfl (by rfl) ?_
    intro b1 w1 hb1 hk
    have K1 := Lib.hid (show Kx w0 [(b1, t3A i, 35)] ((bdT w0 i lv ls lf).and (((bdO w0.heap.size 58 21 poC (.slice (some ⟨g, 0, none⟩) n m) ps).and C).and (bdK l))) w1 from hk)
    clear hk hb1
    (try simp only [Act.put, gA, gS, gZ, sA, sZ, sS])
    refine kx_box K1.out 42 (.tmp 3) (fA x) rfl rfl (by rfl) ?_
    intro b2 w2 hb2 hk
    have K2 := Lib.hid (show Kx w0 [(b1, t3A i, 35), (b2, fA x, 42)] ((bdT w0 i lv ls lf).and (((bdO w0.heap.size 58 21 poC (.slice (some ⟨g, 0, none⟩) n m) ps).and C).and (bdK l))) w2 from hk)
    clear hk hb2
    (try simp only [Act.put, gA, gS, gZ, sA, sZ, sS])
    refine kx_alloc K2.out 48 (#[.slice none 0 0, .int .i64 0, .bool false, .bool false]) rfl z4 (by rfl) ?_
    intro b3 w3 hb3 hk
    have K3 := Lib.hid (show Kx w0 [(b1, t3A i, 35), (b2, fA x, 42), (b3, #[.slice none 0 0, .int .i64 0, .bool false, .bool false], 48)] ((bdT w0 i lv ls lf).and (((bdO w0.heap.size 58 21 poC (.slice (some ⟨g, 0, none⟩) n m) ps).and C).and (bdK l))) w3 from hk)
    clear hk hb3
    (try simp only [Act.put, gA, gS, gZ, sA, sZ, sS])
    refine wpList_nil ?_
    go_upto_region 1 with fail
    refine wp_region_lit ?_
    refine wv (.agg (t3A i)) ?_ (hrun := kx_all K3.out 0 rfl 35 _ rfl rfl Tryd.underlying35 rfl (t3Size))
    (try simp only [Act.put, gA, gS, gZ, sA, sZ, sS])
    refine wv (.slice (some ⟨g, 0, none⟩) n m) ?_
    (try simp only [Act.put, gA, gS, gZ, sA, sZ, sS])
    refine wv (.int .i64 ((k : Int) + 1)) ?_
    (try simp only [Act.put, gA, gS, gZ, sA, sZ, sS])
    refine wv (.agg (fA x)) ?_ (hrun := kx_all K3.out 1 rfl 42 _ rfl rfl Tryd.underlying42 rfl (fA_size _))
    (try simp only [Act.put, gA, gS, gZ, sA, sZ, sS])
    refine kx_call K3.out 27 #[.agg (t3A i), .slice (some ⟨g, 0, none⟩) n m, .int .i64 ((k : Int) + 1), .agg (fA x)] (.tuple #[.int .u16 (vv : Nat), .int .i64 7]) (by rfl) (by go_simp) (HEN.out _ _ K3.out) ?_
    intro w4 hk
    have K4 := Lib.hid (show Kx w0 [(b1, t3A i, 35), (b2, fA x, 42), (b3, #[.slice none 0 0, .int .i64 0, .bool false, .bool false], 48)] ((bdT w0 i lv ls lf).and (((bdO w0.heap.size 58 21 poC (.slice (some ⟨g, 0, none⟩) n m) ps).and C).and (bdK l))) w4 from hk)
    clear hk
    (try simp only [Act.put, gA, gS, gZ, sA, sZ, sS])
    refine wv (.tuple #[.int .u16 (vv : Nat), .int .i64 7]) ?_
    (try simp only [Act.put, gA, gS, gZ, sA, sZ, sS])
    refine wv (.int .u16 (vv : Nat)) ?_
    (try simp only [Act.put, gA, gS, gZ, sA, sZ, sS])
    refine wv (.int .i64 7) ?_
    (try simp only [Act.put, gA, gS, gZ, sA, sZ, sS])
    refine wv (.int .u16 (vv : Nat)) ?_
    (try simp only [Act.put, gA, gS, gZ, sA, sZ, sS])
    refine wv (.int .i64 7) ?_
    (try simp only [Act.put, gA, gS, gZ, sA, sZ, sS])
    refine wpList_nil ?_
    go_upto_region 2 with fail
    refine wp_region_lit ?_
    refine wv (.int .i64 7) ?_
    (try simp only [Act.put, gA, gS, gZ, sA, sZ, sS])
    refine wv (.bool false) ?_
    (try simp only [Act.put, gA, gS, gZ, sA, sZ, sS])
    refine wpList_nil ?_
    go_upto_region 4 with fail
    refine wp_region_lit ?_
    refine wv (.pointer (some ⟨b1, 2, none⟩)) ?_
    (try simp only [Act.put, gA, gS, gZ, sA, sZ, sS])
    refine wv (.pointer (some ⟨i.b3, 0, none⟩)) ?_ (hrun := by have q : w4.cell? ⟨b1, 2, none⟩ = some (.pointer (some ⟨i.b3, 0, none⟩)) := K4.out.cell (i := 0) rfl (by rfl); go_simp)
    (try simp only [Act.put, gA, gS, gZ, sA, sZ, sS])
    refine wv (.int .u16 (vv : Nat)) ?_
    (try simp only [Act.put, gA, gS, gZ, sA, sZ, sS])
    refine wv (.pointer (some ⟨b2, 6, none⟩)) ?_
    (try simp only [Act.put, gA, gS, gZ, sA, sZ, sS])
    refine wv (.agg (macA x.s)) ?_ (hrun := kx_part K4.out 1 rfl 40 _ 6 (macA x.s).toList rfl rfl (part_of (by kernel_rfl)) Tryd.underlying40 rfl (mcSize))
    (try simp only [Act.put, gA, gS, gZ, sA, sZ, sS])
    refine wv (.agg (kyA vv aq)) ?_ (hrun := run_build_of 63 [(0, .tmp 26), (1, .tmp 28)] rfl _ (kyA vv aq) rfl (built_ky vv aq x.s HS.out))
    (try simp only [Act.put, gA, gS, gZ, sA, sZ, sS])
    refine wv (.int .i64 ((k : Int) + 1)) ?_
    (try simp only [Act.put, gA, gS, gZ, sA, sZ, sS])
    refine wl_call (R := fun v w' => ∃ l' gv full, LearnR i.mo i.li lf ⟨vv, aq, ((k : Int) + 1), 0⟩ l' gv full ∧ v = .agg #[.slice none 0 0, .int .i64 0, .bool ((findF (keyN vv aq) l').2 && !(findF (keyN vv aq) lf).2), .bool full] ∧ Kx w0 [(b1, t3A i, 35), (b2, fA x, 42), (b3, #[.slice none 0 0, .int .i64 0, .bool false, .bool false], 48)] ((bdT w0 i lv ls l').and (((bdO w0.heap.size 58 21 poC (.slice (some ⟨g, 0, none⟩) n m) ps).and C).and (bdK l))) w') 28 #[.pointer (some ⟨i.b3, 0, none⟩), .agg (kyA vv aq), .int .i64 ((k : Int) + 1)] (by rfl) (by go_simp) (plearn_any K4.out HD.out HMO.out vv aq _ HA1.out) ?_
    rintro _ w20 ⟨l2, gv, full, hL, rfl, hk⟩
    have K20 := Lib.hid (show Kx w0 [(b1, t3A i, 35), (b2, fA x, 42), (b3, #[.slice none 0 0, .int .i64 0, .bool false, .bool false], 48)] ((bdT w0 i lv ls l2).and (((bdO w0.heap.size 58 21 poC (.slice (some ⟨g, 0, none⟩) n m) ps).and C).and (bdK l))) w20 from hk)
    have HL := Lib.hid hL
    clear hk hL
    obtain ⟨lb, hlb⟩ : ∃ b, b = ((findF (keyN vv aq) l2).2 && !(findF (keyN vv aq) lf).2) := ⟨_, rfl⟩
    have HLB := Lib.hid hlb
    rw [← hlb]
    clear hlb
    (try simp only [Act.put, gA, gS, gZ, sA, sZ, sS])
    refine kx_alloc K20.out 48 (#[.slice none 0 0, .int .i64 0, .bool false, .bool false]) rfl z4 (by rfl) ?_
    intro b21 w21 hb21 hk
    have K21 := Lib.hid (show Kx w0 [(b1, t3A i, 35), (b2, fA x, 42), (b3, #[.slice none 0 0, .int .i64 0, .bool false, .bool false], 48), (b21, #[.slice none 0 0, .int .i64 0, .bool false, .bool false], 48)] ((bdT w0 i lv ls l2).and (((bdO w0.heap.size 58 21 poC (.slice (some ⟨g, 0, none⟩) n m) ps).and C).and (bdK l))) w21 from hk)
    clear hk hb21
    (try simp only [Act.put, gA, gS, gZ, sA, sZ, sS])
    refine kx_row K21.out 3 rfl 48 _ _ (#[.slice none 0 0, .int .i64 0, .bool lb, .bool full]) rfl rfl rfl rfl (rsize) (by rfl) (by kernel_rfl) ?_
    intro w22 hk
    have K22 := Lib.hid (show Kx w0 [(b1, t3A i, 35), (b2, fA x, 42), (b3, #[.slice none 0 0, .int .i64 0, .bool false, .bool false], 48), (b21, #[.slice none 0 0, .int .i64 0, .bool lb, .bool full], 48)] ((bdT w0 i lv ls l2).and (((bdO w0.heap.size 58 21 poC (.slice (some ⟨g, 0, none⟩) n m) ps).and C).and (bdK l))) w22 from hk)
    clear hk
    (try simp only [Act.put, gA, gS, gZ, sA, sZ, sS])
    refine wpList_nil ?_
    go_upto_region 5 with fail
    by_cases c1 : p.p11 = 1
    case pos =>
      have HC1 := Lib.hid c1
      clear c1
      refine wp_region_lit ?_
      refine wv (.slice (some ⟨g, 0, none⟩) n m) ?_
      (try simp only [Act.put, gA, gS, gZ, sA, sZ, sS])
      refine wv (.int .i64 ((k : Int) + 1)) ?_
      (try simp only [Act.put, gA, gS, gZ, sA, sZ, sS])
      refine wv (.int .i64 (k : Nat)) ?_ (hrun := by go_simp; exact wr64 c2 c6)
      (try simp only [Act.put, gA, gS, gZ, sA, sZ, sS])
      refine wv (.pointer (some ⟨g, k * 21, none⟩)) ?_
      (try simp only [Act.put, gA, gS, gZ, sA, sZ, sS])
      refine wv (.pointer (some ⟨g, k * 21 + 11, none⟩)) ?_
      (try simp only [Act.put, gA, gS, gZ, sA, sZ, sS])
      refine wv (.int .i64 p.p11) ?_ (hrun := by have q : w22.cell? ⟨g, k * 21 + 11, none⟩ = some (.int .i64 p.p11) := range_cell (arr := poA p) (o := 11) (own_at (enc := poC) (x := p) po_len K22.out.a.2.1.1 HN.out HP.out) (by rfl); go_simp)
      (try simp only [Act.put, gA, gS, gZ, sA, sZ, sS])
      refine wv (.bool true) ?_ (hrun := by have q := HC1.out; go_simp)
      (try simp only [Act.put, gA, gS, gZ, sA, sZ, sS])
      refine wpList_nil ?_
      go_upto_region 6 with fail
      refine wp_region_lit ?_
      refine wv (.pointer (some ⟨b21, 1, none⟩)) ?_
      (try simp only [Act.put, gA, gS, gZ, sA, sZ, sS])
      refine kx_set K22.out 3 rfl 3 _ _ 1 (.int .i64 6) rfl (by rfl) rfl rfl (kx_run_set K22.out (i := 3) rfl 3 1 (.int .i64 0) (.int .i64 6) (by rfl) (fun W h1 h2 => by go_simp)) (#[.slice none 0 0, .int .i64 6, .bool lb, .bool full]) (by kernel_rfl) ?_
      intro w23 hk
      have K23 := Lib.hid (show Kx w0 [(b1, t3A i, 35), (b2, fA x, 42), (b3, #[.slice none 0 0, .int .i64 0, .bool false, .bool false], 48), (b21, #[.slice none 0 0, .int .i64 6, .bool lb, .bool full], 48)] ((bdT w0 i lv ls l2).and (((bdO w0.heap.size 58 21 poC (.slice (some ⟨g, 0, none⟩) n m) ps).and C).and (bdK l))) w23 from hk)
      clear hk
      (try simp only [Act.put, gA, gS, gZ, sA, sZ, sS])
      refine wpList_nil ?_
      go_upto_region 7 with fail
      refine wp_region_lit ?_
      refine wv (.agg (#[.slice none 0 0, .int .i64 6, .bool lb, .bool full])) ?_ (hrun := kx_all K23.out 3 rfl 48 _ rfl rfl Tryd.underlying48 rfl (rsize))
      (try simp only [Act.put, gA, gS, gZ, sA, sZ, sS])
      refine kx_row K23.out 2 rfl 48 _ _ (#[.slice none 0 0, .int .i64 6, .bool lb, .bool full]) rfl rfl rfl rfl (rsize) (by rfl) (by kernel_rfl) ?_
      intro w24 hk
      have K24 := Lib.hid (show Kx w0 [(b1, t3A i, 35), (b2, fA x, 42), (b3, #[.slice none 0 0, .int .i64 6, .bool lb, .bool full], 48), (b21, #[.slice none 0 0, .int .i64 6, .bool lb, .bool full], 48)] ((bdT w0 i lv ls l2).and (((bdO w0.heap.size 58 21 poC (.slice (some ⟨g, 0, none⟩) n m) ps).and C).and (bdK l))) w24 from hk)
      clear hk
      (try simp only [Act.put, gA, gS, gZ, sA, sZ, sS])
      refine wpList_nil ?_
      go_wp2_with fail
      refine bodyPost_ret (v := .agg (#[.slice none 0 0, .int .i64 6, .bool lb, .bool full])) (results_cell_row Tryd.results8 _ _ b3 48 _ (0, 0) _ rfl (K24.out.at (i := 2) rfl) Tryd.underlying48 rfl rsize) rfl ?_
      refine ⟨_, rfl, ?_⟩
      unfold PassQ
      refine ⟨.slice none 0 0, 6, lb, full, l2, [], .inr ⟨HC0.out, ⟨gv, by rw [← HVV.out]; exact HL.out⟩, by rw [← HVV.out]; exact HLB.out, p, by rw [show (((k : Int) + 1) - 1).toNat = k by omega]; exact HP.out, .inl ⟨HC1.out, rfl, rfl⟩⟩, rfl, ⟨none, 0, rfl⟩, (fun k hk _ => (by cases hk)), HK0.out.outN (T' := bdT w0 i lv ls l2) (N := bdO w0.heap.size 81 19 snC (.slice none 0 0) ([])) ((Kx.left (l := []) K24.out).turn (A' := ((bdT w0 i lv ls l2).and (((bdO w0.heap.size 58 21 poC (.slice (some ⟨g, 0, none⟩) n m) ps).and C).and (bdK l))).and (bdO w0.heap.size 81 19 snC (.slice none 0 0) ([]))) (fun h => ⟨h, Own.nil _ _ _ _ _⟩) (fun k q => ?_)) (fun k q => q) (fun k q => by cases q)⟩
      rcases q with q | q
      · exact q
      · cases q
    case neg =>
      have HC1 := Lib.hid (show decide (p.p11 = 1) = false from decide_eq_false c1)
      have HC2 := Lib.hid (show (p.p11 == 1) = false by simpa using c1)
      have HC3 := Lib.hid c1
      clear c1
      refine wp_region_lit ?_
      refine wv (.slice (some ⟨g, 0, none⟩) n m) ?_
      (try simp only [Act.put, gA, gS, gZ, sA, sZ, sS])
      refine wv (.int .i64 ((k : Int) + 1)) ?_
      (try simp only [Act.put, gA, gS, gZ, sA, sZ, sS])
      refine wv (.int .i64 (k : Nat)) ?_ (hrun := by go_simp; exact wr64 c2 c6)
      (try simp only [Act.put, gA, gS, gZ, sA, sZ, sS])
      refine wv (.pointer (some ⟨g, k * 21, none⟩)) ?_
      (try simp only [Act.put, gA, gS, gZ, sA, sZ, sS])
      refine wv (.pointer (some ⟨g, k * 21 + 11, none⟩)) ?_
      (try simp only [Act.put, gA, gS, gZ, sA, sZ, sS])
      refine wv (.int .i64 p.p11) ?_ (hrun := by have q : w22.cell? ⟨g, k * 21 + 11, none⟩ = some (.int .i64 p.p11) := range_cell (arr := poA p) (o := 11) (own_at (enc := poC) (x := p) po_len K22.out.a.2.1.1 HN.out HP.out) (by rfl); go_simp)
      (try simp only [Act.put, gA, gS, gZ, sA, sZ, sS])
      refine wv (.bool false) ?_ (hrun := by have q := HC1.out; have q2 := HC2.out; go_simp)
      (try simp only [Act.put, gA, gS, gZ, sA, sZ, sS])
      refine wpList_nil ?_
      go_upto_region 8 with fail
      refine wp_region_lit ?_
      refine wv (.pointer (some ⟨b21, 1, none⟩)) ?_
      (try simp only [Act.put, gA, gS, gZ, sA, sZ, sS])
      refine kx_set K22.out 3 rfl 3 _ _ 1 (.int .i64 7) rfl (by rfl) rfl rfl (kx_run_set K22.out (i := 3) rfl 3 1 (.int .i64 0) (.int .i64 7) (by rfl) (fun W h1 h2 => by go_simp)) (#[.slice none 0 0, .int .i64 7, .bool lb, .bool full]) (by kernel_rfl) ?_
      intro w23 hk
      have K23 := Lib.hid (show Kx w0 [(b1, t3A i, 35), (b2, fA x, 42), (b3, #[.slice none 0 0, .int .i64 0, .bool false, .bool false], 48), (b21, #[.slice none 0 0, .int .i64 7, .bool lb, .bool full], 48)] ((bdT w0 i lv ls l2).and (((bdO w0.heap.size 58 21 poC (.slice (some ⟨g, 0, none⟩) n m) ps).and C).and (bdK l))) w23 from hk)
      clear hk
      (try simp only [Act.put, gA, gS, gZ, sA, sZ, sS])
      refine wpList_nil ?_
      go_upto_region 9 with fail
      obtain ⟨op, hop⟩ : ∃ op, op = openM ps ps.length := ⟨_, rfl⟩
      have HOP := Lib.hid hop
      have HOL := Lib.hid (show op < 4294967296 by rw [hop]; exact openM_lt ps _)
      obtain ⟨S, hS⟩ : ∃ S, S = portsN ((k : Int) + 1) vv ad op lv ls l2 := ⟨_, rfl⟩
      have HSS := Lib.hid hS
      clear hop hS
      refine rk (fun (s : Option Addr × Nat × Nat) => [.agg (t3A i), .slice (some ⟨g, 0, none⟩) n m, .int .u32 (op : Nat), .int .i64 ((k : Int) + 1), .int .u16 (vv : Nat), .agg (fA x), .slice s.1 s.2.1 s.2.2, .pointer (some ⟨b21, 0, none⟩), undef]) (fun s L w' => (L 6 = false ∧ Kx w0 [(b1, t3A i, 35), (b2, fA x, 42), (b3, #[.slice none 0 0, .int .i64 0, .bool false, .bool false], 48), (b21, #[.slice none 0 0, .int .i64 7, .bool lb, .bool full], 48)] ((bdT w0 i lv ls l2).and (((bdO w0.heap.size 58 21 poC (.slice (some ⟨g, 0, none⟩) n m) ps).and C).and (bdK l))) w') ∨ (L 6 = true ∧ (∀ k, (Value.slice s.1 s.2.1 s.2.2).ownBlock = some k → ¬ (C.and (bdK l)).f k) ∧ Kx w0 (bif L 8 then [(b1, t3A i, 35), (b2, fA x, 42), (b3, #[.slice none 0 0, .int .i64 0, .bool false, .bool false], 48), (b21, #[.slice s.1 s.2.1 s.2.2, .int .i64 7, .bool lb, .bool full], 48)] else [(b1, t3A i, 35), (b2, fA x, 42), (b3, #[.slice none 0 0, .int .i64 0, .bool false, .bool false], 48), (b21, #[.slice none 0 0, .int .i64 7, .bool lb, .bool full], 48)]) (((bdT w0 i lv ls l2).and (((bdO w0.heap.size 58 21 poC (.slice (some ⟨g, 0, none⟩) n m) ps).and C).and (bdK l))).and (bdO w0.heap.size 81 19 snC (.slice s.1 s.2.1 s.2.2) (sendL x (findV vv lv).1 (portsL S)))) w')) (none, 0, 0) [] [] [(0, fun s => [(4, .pointer (some ⟨b1, 0, none⟩))]), (2, fun s => [(43, .slice (some ⟨g, 0, none⟩) n m)]), (5, fun s => [(7, .pointer (some ⟨b2, 0, none⟩))]), (6, fun s => [(42, .agg (t3A i)), (44, .int .u32 (op : Nat)), (45, .int .i64 ((k : Int) + 1)), (46, .int .u16 (vv : Nat)), (47, .agg (fA x))]), (8, fun s => [(49, .pointer (some ⟨b21, 0, none⟩)), (48, .slice s.1 s.2.1 s.2.2)])] [6, 8] ?_ ?_ ?_ ?_ ?_
      · exact .inl ⟨rfl, K23.out.drew⟩
      · intro s L w' h; exact trivial
      · intro s L L' w' h hC; rw [← h 6 (by simp), ← h 8 (by simp)]; exact hC
      · refine ⟨?_, ?_, ?_, ?_, ?_, trivial⟩ <;> (rintro ⟨s1, s2, s3⟩ Lx w' hw hL haft hdc ρ hc hf hG hs o ho; cases ho; try dsimp only [seen] at hw hs)
        · obtain ⟨e4, _⟩ := hs
          rcases hw with ⟨h6, hw⟩ | ⟨h6, -⟩
          case inr => exact absurd (hdc 6 h6 0 (by decide)) (by rw [hL]; decide)
          exact sw (.agg (t3A i)) (l_var 35 _ rfl _ e4 _ _ _ (Kx.at (i := 0) hw rfl) Tryd.underlying35 rfl t3Size) ⟨(s1, s2, s3), fun _ _ => rfl, rfl, .inl ⟨h6, hw⟩⟩
        · rcases hw with ⟨h6, hw⟩ | ⟨h6, -⟩
          case inr => exact absurd (hdc 6 h6 2 (by decide)) (by rw [hL]; decide)
          exact sc (.int .u32 (op : Nat)) 30 #[.slice (some ⟨g, 0, none⟩) n m] (by rw [HOP.out]; exact open_n HN.out hw.a.2.1.1 HM.out) (by go_simp) (fun w2 hb => ⟨(s1, s2, s3), fun _ _ => rfl, rfl, .inl ⟨h6, hw.next hb⟩⟩)
        · obtain ⟨e7, _⟩ := hs
          rcases hw with ⟨h6, hw⟩ | ⟨h6, -⟩
          case inr => exact absurd (hdc 6 h6 5 (by decide)) (by rw [hL]; decide)
          exact sw (.agg (fA x)) (l_var 42 _ rfl _ e7 _ _ _ (Kx.at (i := 1) hw rfl) Tryd.underlying42 rfl (fA_size _)) ⟨(s1, s2, s3), fun _ _ => rfl, rfl, .inl ⟨h6, hw⟩⟩
        · rcases hw with ⟨h6, hw⟩ | ⟨h6, -⟩
          case inr => rw [hL] at h6; cases h6
          have h8 : Lx 8 = false := by cases cq : Lx 8; rfl; exact absurd (hdc 8 cq 6 (by decide)) (by rw [hL]; decide)
          refine stepW_call (f := 29) (args := #[.agg (t3A i), .int .u32 (op : Nat), .int .i64 ((k : Int) + 1), .int .u16 (vv : Nat), .agg (fA x)]) (by go_simp) ((send_any hw.a.1 x HX.out ad HA2.out HDD.out ((k : Int) + 1) vv op HOL.out).mono ?_)
          rintro e w9 ⟨sv, q1, q2, q3⟩
          rw [← HSS.out] at q2
          obtain ⟨x1, x2, hx12, -, -⟩ := q2.shape
          refine ⟨sv, q1, (x1, (sendL x (findV vv lv).1 (portsL S)).length, x2), vs_other (i := 6) rfl hL, by rw [hx12]; rfl, .inr ⟨by rfl, fun k hk hl => by have q4 := (q2.lt k (by rw [hx12]; exact hk)).1; have q5 := (C.and (bdK l)).lt ⟨hw.a.2.1.2, hw.a.2.2⟩ hl; omega, ?_⟩⟩
          have q := hw.more (A' := bdO w0.heap.size 81 19 snC (sv) (sendL x (findV vv lv).1 (portsL S))) q3 (q2.mono (show w0.heap.size ≤ w'.heap.size from hw.below.size)) (fun k hk => (q2.lt k hk).1)
          rw [hx12] at q
          show Kx w0 (bif upd Lx 6 8 then _ else _) _ w9
          rw [show upd Lx 6 8 = false from h8]
          exact q
        · obtain ⟨e49, e48, _⟩ := hs
          rcases hw with ⟨h6, -⟩ | ⟨h6, hfr, hw⟩
          case inl => rw [haft 6 (by decide)] at h6; cases h6
          rw [hL] at hw
          have hw0 : Kx w0 [(b1, t3A i, 35), (b2, fA x, 42), (b3, #[.slice none 0 0, .int .i64 0, .bool false, .bool false], 48), (b21, #[.slice none 0 0, .int .i64 7, .bool lb, .bool full], 48)] (((bdT w0 i lv ls l2).and (((bdO w0.heap.size 58 21 poC (.slice (some ⟨g, 0, none⟩) n m) ps).and C).and (bdK l))).and (bdO w0.heap.size 81 19 snC (.slice s1 s2 s3) (sendL x (findV vv lv).1 (portsL S)))) w' := hw
          refine ss 46 _ _ rfl ⟨b21, 0, none⟩ (.slice s1 s2 s3) e49 e48 (kx_run_set hw0 (i := 3) rfl 46 0 (.slice none 0 0) (.slice s1 s2 s3) (by rfl) (fun W h1 h2 => by go_simp)) ⟨(s1, s2, s3), fun _ _ => rfl, rfl, .inr ⟨h6, hfr, kx_cast (hw0.set (i := 3) rfl 0 (.slice s1 s2 s3)) (by rfl)⟩⟩
      · rintro ⟨s1, s2, s3⟩ Lx w40 hw hall
        rcases hw with ⟨h6, -⟩ | ⟨-, hfr, hw⟩
        case inl => rw [hall 6 (by decide)] at h6; cases h6
        have HFR := Lib.hid hfr
        clear hfr
        rw [hall 8 (by decide)] at hw
        have K40 := Lib.hid (show Kx w0 [(b1, t3A i, 35), (b2, fA x, 42), (b3, #[.slice none 0 0, .int .i64 0, .bool false, .bool false], 48), (b21, #[.slice s1 s2 s3, .int .i64 7, .bool lb, .bool full], 48)] (((bdT w0 i lv ls l2).and (((bdO w0.heap.size 58 21 poC (.slice (some ⟨g, 0, none⟩) n m) ps).and C).and (bdK l))).and (bdO w0.heap.size 81 19 snC (.slice s1 s2 s3) (sendL x (findV vv lv).1 (portsL S)))) w40 from hw)
        clear hw hall
        simp only [List.toList_toArray, putsZ_some, putsZ_none, putsZ_nil, List.setIfInBounds_toArray, List.set_cons_zero, List.set_cons_succ]
        go_upto_region 10 with fail
        refine wp_region_lit ?_
        refine wv (.agg (#[.slice s1 s2 s3, .int .i64 7, .bool lb, .bool full])) ?_ (hrun := kx_all K40.out 3 rfl 48 _ rfl rfl Tryd.underlying48 rfl (rsize))
        (try simp only [Act.put, gA, gS, gZ, sA, sZ, sS])
        refine kx_row K40.out 2 rfl 48 _ _ (#[.slice s1 s2 s3, .int .i64 7, .bool lb, .bool full]) rfl rfl rfl rfl (rsize) (by rfl) (by kernel_rfl) ?_
        intro w41 hk
        have K41 := Lib.hid (show Kx w0 [(b1, t3A i, 35), (b2, fA x, 42), (b3, #[.slice s1 s2 s3, .int .i64 7, .bool lb, .bool full], 48), (b21, #[.slice s1 s2 s3, .int .i64 7, .bool lb, .bool full], 48)] (((bdT w0 i lv ls l2).and (((bdO w0.heap.size 58 21 poC (.slice (some ⟨g, 0, none⟩) n m) ps).and C).and (bdK l))).and (bdO w0.heap.size 81 19 snC (.slice s1 s2 s3) (sendL x (findV vv lv).1 (portsL S)))) w41 from hk)
        clear hk
        (try simp only [Act.put, gA, gS, gZ, sA, sZ, sS])
        refine wpList_nil ?_
        obtain ⟨y1, y2, hy, -, -⟩ := (show Own w41 w0.heap.size 81 19 snC (.slice s1 s2 s3) (sendL x (findV vv lv).1 (portsL S)) from K41.out.a.2).shape
        have HSZ := Lib.hid (show s2 = (sendL x (findV vv lv).1 (portsL S)).length by injection hy)
        clear hy
        go_wp2_with fail
        refine bodyPost_ret (v := .agg (#[.slice s1 s2 s3, .int .i64 7, .bool lb, .bool full])) (results_cell_row Tryd.results8 _ _ b3 48 _ (0, 0) _ rfl (K41.out.at (i := 2) rfl) Tryd.underlying48 rfl rsize) rfl ?_
        refine ⟨_, rfl, ?_⟩
        unfold PassQ
        refine ⟨.slice s1 s2 s3, 7, lb, full, l2, sendL x (findV vv lv).1 (portsL S), .inr ⟨HC0.out, ⟨gv, by rw [← HVV.out]; exact HL.out⟩, by rw [← HVV.out]; exact HLB.out, p, by rw [show (((k : Int) + 1) - 1).toNat = k by omega]; exact HP.out, .inr ⟨HC3.out, rfl, by rw [← HVV.out, ← HOP.out, HSS.out]⟩⟩, rfl, ⟨s1, s3, by rw [← HSZ.out]⟩, (fun k hk hc => HFR.out k hk (.inl hc)), HK0.out.outN (T' := bdT w0 i lv ls l2) (N := bdO w0.heap.size 81 19 snC (.slice s1 s2 s3) (sendL x (findV vv lv).1 (portsL S))) (Kx.left (l := []) K41.out) (fun k q => q) (fun k hk hl => HFR.out k hk (.inr hl))⟩
end
end Go.Proofs.YtelohoomlgjjmaaDoor
