import Derived.Test.YtelohoomlgjjmaaDoorG20
import Derived.Test.YtelohoomlgjjmaaDoorG6
import Derived.Test.YtelohoomlgjjmaaDoorG1
import Derived.Maps.RangeWalk
import Derived.Deep.DeepCutAuto
import Derived.Test.YtelohoomlgjjmaaDoorG17
set_option linter.unusedSimpArgs false
set_option linter.unusedVariables false
namespace Go.Proofs.YtelohoomlgjjmaaDoor
section
/- The developers' table: List. -/
open Go.RowKit
open Go.ChangeMaps (setBlock)

noncomputable def lfSliceI : TypeInfo := (Tryd.prog.info? 82).get (by kernel_rfl)
noncomputable def lfElemI : TypeInfo := (Tryd.prog.info? 67).get (by kernel_rfl)
theorem lf_swap (n : Nat) (h2 : 2 ≤ n) : Lib.swapperK n lfElemI 25 = 9 := by
  have a : lfElemI.hasPointers = false := by kernel_rfl
  have b : lfElemI.bytes = 24 := by kernel_rfl
  have c : (n == 0) = false := by simp; omega
  have d : (n == 1) = false := by simp; omega
  simp [Lib.swapperK, a, b, c, d]

theorem lf_holds {w : World} {base g cap : Nat} {l : List En} (h : Own w base 67 9 enC (.slice (some ⟨g, 0, none⟩) l.length cap) l) : Sort.HoldsK enC 9 w g 0 l.toArray := by
  intro j hj
  rw [Sort.size_flatK] at hj
  have hj2 : j < l.length * 9 := by simpa using hj
  refine ⟨?_, by rw [Nat.zero_add]; exact h.free j⟩
  have hx : j / 9 < l.length := by omega
  have e := h.at enC_len (j / 9) (j % 9) l[j / 9] (List.getElem?_eq_getElem hx) (by omega)
  rw [Nat.zero_add, Sort.get_flatK _ _ _ _ hj, show j = j / 9 * 9 + j % 9 by omega, e, show (j / 9 * 9 + j % 9) / 9 = j / 9 by omega, show (j / 9 * 9 + j % 9) % 9 = j % 9 by omega]
  rw [getElem!_pos l.toArray (j / 9) (by simpa using hx)]
  have hm : j % 9 < (enC l[j / 9]).length := by rw [enC_len]; omega
  rw [List.getElem?_eq_getElem hm]
  simp [hm]
theorem lf_src {w : World} {g c : Nat} {l : List En} (h : Sort.HoldsK enC 9 w g 0 l.toArray) : Src w enC (.slice (some ⟨g, 0, none⟩) l.length c) l := by
  refine .inr ⟨⟨g, 0, none⟩, c, rfl, fun j u hu => ?_⟩
  have hjl : j < l.length * 9 := by
    have := (List.getElem?_eq_some_iff.1 hu).1
    rw [cellsL_len enC_len] at this
    simpa using this
  have q := (h j (by rw [Sort.size_flatK]; simpa using hjl)).1
  have hx : j / 9 < l.length := by omega
  rw [Sort.get_flatK _ _ _ _ (by simpa using hjl), getElem!_pos l.toArray (j / 9) (by simpa using hx)] at q
  have e := cellsL_at enC_len (l := l) (j / 9) (j % 9) l[j / 9] (List.getElem?_eq_getElem hx) (by omega)
  rw [show j / 9 * 9 + j % 9 = j by omega, hu] at e
  have hm : j % 9 < (enC l[j / 9]).length := by rw [enC_len]; omega
  rw [List.getElem?_eq_getElem hm] at e
  rw [getElem!_pos (enC _) (j % 9) (by simpa using hm)] at q
  have e1 : u = (enC l[j / 9])[j % 9] := Option.some.inj e
  rw [e1]
  have ea : (⟨g, 0, none⟩ : Addr).add j = ⟨g, 0 + j, none⟩ := by
    unfold Addr.add
    split <;> simp_all
  rw [ea, q]
  simp

/-- The sort of the developers' List. -/
theorem lf_sort {w : World} {base g cap Bs : Nat} {l : List En} (h : Own w base 67 9 enC (.slice (some ⟨g, 0, none⟩) l.length cap) l) (hg : g < w.heap.size) (hl : l.length ≤ 1000) (hBs : w.cell? ⟨Bs, 0, none⟩ = some (.slice (some ⟨g, 0, none⟩) l.length cap)) (hB : Bs < w.heap.size) (hne : Bs ≠ g) :
    Calls Tryd.prog 40 #[.iface 82 (.slice (some ⟨g, 0, none⟩) l.length cap), .func (.func 41) #[] #[.pointer (some ⟨Bs, 0, none⟩)]] w fun e w' => e = .returned (.tuple #[]) ∧ ∃ l' : List En, l'.Perm l ∧ l'.Pairwise (fun a b => ltE b a = false) ∧ Src w' enC (.slice (some ⟨g, 0, none⟩) l.length cap) l' ∧ w.grownBy w' (some g) := by
  refine (slice_list 82 67 lfSliceI lfElemI (by kernel_rfl) (by kernel_rfl) (by kernel_rfl) (by kernel_rfl) 25 (fun _ => by kernel_rfl) enC 9 enC_len (by kernel_rfl) (fun _ => by kernel_rfl) enC_one ltE ltE_swo 41 #[.pointer (some ⟨Bs, 0, none⟩)]
    (enters_of Tryd.func41 (by kernel_rfl) rfl) g cap l hl 65 66 73 (by kernel_rfl) (by kernel_rfl) (fun m hm => by rw [lf_swap m hm]; kernel_rfl) false
    (fun args W => run_callFunc_extern Tryd.func73 (by kernel_rfl) (by kernel_rfl) (by kernel_rfl) (e := Extern.ReflectliteSwapper.swap false) (by kernel_rfl) args W) w (lf_holds h) hg ?_).mono ?_
  · intro W dk hs hh hgr i j hi hj
    exact less48 hh hs (Nat.lt_of_lt_of_le hg hgr.size) (by rw [World.cell?_of_block (hgr.block Bs hB (fun e => hne (Option.some.inj e)))]; exact hBs) (Nat.lt_of_lt_of_le hB hgr.size) i j hi hj hl
  · rintro e w' ⟨rfl, l', hp, hs, hh, hgr⟩
    have q := lf_src (c := cap) hh
    rw [hp.length_eq] at q
    exact ⟨rfl, l', hp, hs, q, hgr⟩

theorem ltE_le {x y : En} (hx : enOk x) (hy : enOk y) (h : ltE y x = false) : enK x ≤ enK y := by
  unfold ltE at h
  have := of_decide_eq_false h
  have e1 : x.mac % 281474976710656 = x.mac := Nat.mod_eq_of_lt hx
  have e2 : y.mac % 281474976710656 = y.mac := Nat.mod_eq_of_lt hy
  rw [e1, e2] at this
  unfold enK
  omega
/-- What a round of the list finds. -/
structure lfLoop (w : World) (r mb Bs : Nat) (L : List (Nat × En)) (left : List (Nat × En)) (pre : List En) (v : Value) (wr : World) : Prop where
  it : It wr r mb kvK vvE L left
  own : Own wr w.heap.size 67 9 enC v pre
  box : Blk wr Bs #[v] 82
  perm : (pre ++ left.map (·.2)).Perm (L.map (·.2))
  below : Below w.heap.size w wr
  low : w.heap.size ≤ Bs
  ne : ∃ g, v.ownBlock = some g ∧ g ≠ r ∧ g ≠ Bs
  nr : Bs ≠ r

set_option maxRecDepth 100000 in
set_option maxHeartbeats 16000000 in
theorem list22 {w : World} {b A B : Nat} {mo li : Int} {l : List En} (h : TF w b A B mo li l) (hf : l.length ≤ 100) :
    Calls Tryd.prog 20 #[.pointer (some ⟨b, 0, none⟩)] w fun e w' => ∃ v, e = .returned v ∧ Src w' enC v l ∧ Below w.heap.size w w' := by
  obtain ⟨mb, L, h1, h2, h3, h4, h5, h6, h7⟩ := h
  have hmb := Lib.hid h5.lt
  have hc := h4.cell 2
  simp only [List.getElem?_toArray, List.getElem?_cons_zero, List.getElem?_cons_succ] at hc
  have hlen := h5.len (P := Tryd.prog) Tryd.underlying103 3
  obtain ⟨n, hn⟩ : ∃ n, L.length = n := ⟨_, rfl⟩
  rw [hn] at hlen
  have HN := Lib.hid hn
  have hn16 : n ≤ 100 := by rw [← hn, h6.len]; exact hf
  obtain ⟨i, z, hi, hz, hs, hby, hzs⟩ : ∃ i z, Tryd.prog.info? 67 = some i ∧ i.zero = some z ∧ i.size = 9 ∧ i.bytes = 24 ∧ z.cells.size = 9 := ⟨_, _, rfl, rfl, rfl, rfl, rfl⟩
  have HI := Lib.hid hi
  have HZ := Lib.hid hz
  have HS := Lib.hid hs
  have HBY := Lib.hid hby
  have HZS := Lib.hid hzs
  have H4 := Lib.hid h4
  have H5 := Lib.hid h5
  clear hi hz hs hby hzs h4 h5 hn
  go_enter Tryd.func20, Tryd.ntmps20
  go_upto_region 4 with (refine wpList_make_own w rfl _ _ 82 rfl w.heap.size 67 i z 9 Tryd.underlying82 HI.out HZ.out HS.out .i64 .i64 n n rfl rfl rfl (by rw [HBY.out]; omega) (by unfold maxLen; omega) (Nat.le_refl _) ?_; intro w1 ho1 hg1)
  have O1 := Lib.hid (show Own w1 w.heap.size 67 9 enC (.slice (some ⟨w.heap.size, 0, none⟩) 0 n) [] from ho1)
  have B1 := Lib.hid (show Below w.heap.size w w1 from (Below.refl _ _).grown hg1 (Nat.le_refl _) (fun k e => by cases e))
  have hgl : w.heap.size < w1.heap.size := (O1.out.lt w.heap.size rfl).2
  clear hg1 ho1 hlen hc
  obtain ⟨wB, hwB⟩ : ∃ wB, wB = w1.alloc (.cells #[.slice (some ⟨w.heap.size, 0, none⟩) 0 n] 82) := ⟨_, rfl⟩
  obtain ⟨Bs, hBs⟩ : ∃ Bs, Bs = w1.heap.size := ⟨_, rfl⟩
  have OB := Lib.hid (show Own wB w.heap.size 67 9 enC (.slice (some ⟨w.heap.size, 0, none⟩) 0 n) [] by rw [hwB]; exact O1.out.alloc _)
  have KB1 := Lib.hid (show Blk wB Bs #[.slice (some ⟨w.heap.size, 0, none⟩) 0 n] 82 by rw [hwB, hBs]; exact Blk.new _ _ _)
  have BB := Lib.hid (show Below w.heap.size w wB by rw [hwB]; exact B1.out.alloc B1.out.size _)
  have HBG := Lib.hid (show w.heap.size < Bs by rw [hBs]; exact hgl)
  rw [← hwB, ← hBs]
  clear hgl hwB hBs O1 B1
  have hc1 := (H4.out.below BB.out H4.out.lt).cell 2
  simp only [List.getElem?_toArray, List.getElem?_cons_zero, List.getElem?_cons_succ] at hc1
  obtain ⟨ob, hrg, hit⟩ := (H5.out.next BB.out).range (P := Tryd.prog) Tryd.underlying103
  have hrng : (Instr.range 103 (.map (some mb))).run Tryd.prog wB = .ok (.pointer (some ⟨wB.heap.size, 0, none⟩)) (wB.alloc ob) := hrg
  obtain ⟨w2, hw2⟩ : ∃ w2, w2 = wB.alloc ob := ⟨_, rfl⟩
  rw [← hw2] at hrng hit
  obtain ⟨r, hr⟩ : ∃ r, r = wB.heap.size := ⟨_, rfl⟩
  rw [← hr] at hrng hit
  have HR := Lib.hid (show Bs < r by rw [hr]; exact KB1.out.lt)
  have I0 := Lib.hid (show lfLoop w r mb Bs L L [] (.slice (some ⟨w.heap.size, 0, none⟩) 0 n) w2 from
    ⟨hit, by rw [hw2]; exact OB.out.alloc _, by rw [hw2]; exact KB1.out.alloc _, List.Perm.refl _, by rw [hw2]; exact BB.out.alloc BB.out.size _, Nat.le_of_lt HBG.out, ⟨w.heap.size, rfl, by have := HBG.out; have := HR.out; omega, by have := HBG.out; omega⟩, by have := HR.out; omega⟩)
  clear hrg hit hw2 hr
  go_upto_region 5 with fail
  clear hc1 hrng
  go_loopw [] (fun wr => ∃ (left : List (Nat × En)) (pre : List En) (v : Value), lfLoop w r mb Bs L left pre v wr) (fun wr => wr.rangeLeft mb r)
  case atStart => exact ⟨L, [], _, I0.out⟩
  case round =>
    obtain ⟨left, pre, v, hlp⟩ := hrel
    have LP := Lib.hid hlp
    have hit := hlp.it
    clear hlp
    rcases hit.step (P := Tryd.prog) (by have := hmb.out; have := HR.out; have := HBG.out; omega) 0 with ⟨h0, hnx⟩ | ⟨j, x, y, w3, hj, hnx, hit3, hg3, hs3, hen⟩
    · clear hit
      have HL0 := Lib.hid h0
      clear h0
      obtain ⟨g, hob, hgr, hgb⟩ := LP.out.ne
      obtain ⟨cap, rfl, hgw⟩ : ∃ cap, v = .slice (some ⟨g, 0, none⟩) pre.length cap ∧ g < wr.heap.size := by
        rcases LP.out.own.cases with ⟨hv, -⟩ | ⟨g2, cap, hv, -, hlt, -⟩
        · rw [hv] at hob
          cases hob
        · rw [hv] at hob
          have e : g2 = g := Option.some.inj hob
          exact ⟨cap, by rw [hv, e], e ▸ hlt⟩
      have hp := LP.out.perm
      rw [HL0.out, List.map_nil, List.append_nil] at hp
      have HPP := Lib.hid hp
      have hlen : pre.length ≤ 1000 := by
        rw [hp.length_eq, List.length_map, HN.out]
        omega
      have c0 := LP.out.box.cell 0
      simp only [List.getElem?_toArray, List.getElem?_cons_zero] at c0
      have hsrt := lf_sort (Bs := Bs) LP.out.own hgw hlen c0 LP.out.box.lt (fun e => hgb e.symm)
      have HS := Lib.hid hsrt
      have HGO := Lib.hid (LP.out.own.lt g rfl).1
      have HGB := Lib.hid hgb
      clear hlen hp hgw hsrt hob hgr hgb
      have HLEN := Lib.hid (show pre.length = pre.length from rfl)
      generalize hpl : pre.length = pl at *
      go_upto_region 9 with (go_at_call 40; refine HS.out.mono ?_; rintro e w5 ⟨rfl, l', q1, q2, q3, q4⟩)
      have c5 := (LP.out.box.grown q4 (fun e => HGB.out (Option.some.inj e).symm)).cell 0
      simp only [List.getElem?_toArray, List.getElem?_cons_zero] at c5
      have Q1 := Lib.hid q1
      have Q2 := Lib.hid q2
      have Q3 := Lib.hid q3
      have Q4 := Lib.hid q4
      clear q1 q2 q3 q4 c0
      go_wp2_with fail
      go_ret
      refine ⟨_, rfl, ?_, LP.out.below.grown Q4.out LP.out.below.size (fun k e => by cases e; exact HGO.out)⟩
      have hmem : ∀ z ∈ l', enOk z := fun z hz => h7 z (h6.2.map (·.2) |>.mem_iff.1 ((Q1.out.trans HPP.out).mem_iff.1 hz) |> fun q => by
        obtain ⟨u, hu, rfl⟩ := List.mem_map.1 q
        obtain ⟨u2, hu2, rfl⟩ := List.mem_map.1 hu
        exact hu2)
      have q3 := Q3.out
      rw [h6.sorted (Q1.out.trans HPP.out) (List.Pairwise.imp_of_mem (fun {a c} ha hc hh => ltE_le (hmem a ha) (hmem c hc) hh) Q2.out)] at q3
      exact q3
    · clear hit
      have hxy := h6.mem (LP.out.it.sub.mem (List.mem_of_getElem? hj))
      obtain ⟨rfl, hyl⟩ : x = enK y ∧ y ∈ l := hxy
      have hyo := h7 y hyl
      have ekv : kvK (enK y) = kyV y.vid y.mac := kvK_of y.vid y.mac hyo
      rw [ekv] at hnx hen
      unfold vvE at hnx hen
      have HIt3 := Lib.hid hit3
      have HG3 := Lib.hid hg3
      have HS3 := Lib.hid hs3
      have HJ := Lib.hid hj
      obtain ⟨g, hob, hgr, hgb⟩ := LP.out.ne
      have o3 : Own w3 w.heap.size 67 9 enC v pre := LP.out.own.kept hg3 (.inr (by rw [hob]; intro e; exact hgr (Option.some.inj e)))
      have b3 : Blk w3 Bs #[v] 82 := LP.out.box.grown hg3 (fun e => LP.out.nr (Option.some.inj e))
      obtain ⟨w5, hw5⟩ : ∃ w5, w5 = (w3.alloc (.cells (enA y) 67)).alloc (.cells (enA y) 67) := ⟨_, rfl⟩
      have o5 : Own w5 w.heap.size 67 9 enC v pre := by rw [hw5]; exact (o3.alloc _).alloc _
      have b5 : Blk w5 Bs #[v] 82 := by rw [hw5]; exact (b3.alloc _).alloc _
      have s5 : Src w5 enC (.slice (some ⟨w3.heap.size + 1, 0, none⟩) 1 1) [y] := by
        refine .inr ⟨⟨w3.heap.size + 1, 0, none⟩, 1, rfl, fun j u hu => ?_⟩
        have hk : Blk w5 (w3.heap.size + 1) (enA y) 67 := by
          have := Blk.new (w3.alloc (.cells (enA y) 67)) (enA y) 67
          rw [hw5]
          simpa using this
        have ea : (⟨w3.heap.size + 1, 0, none⟩ : Addr).add j = ⟨w3.heap.size + 1, j, none⟩ := by
          unfold Addr.add
          split <;> simp_all
        rw [ea, hk.cell]
        simpa [cellsL, enC] using hu
      have hpl : pre.length ≤ 100 := by
        have := LP.out.perm.length_eq
        rw [List.length_append, List.length_map, List.length_map, HN.out] at this
        omega
      have hw3s : w.heap.size ≤ w3.heap.size := Nat.le_trans LP.out.below.size hg3.size
      obtain ⟨v6, w6, hrun, o6, hg6, hv6⟩ := o5.app (P := Tryd.prog) (t := 82) (ty := 82) s5 Tryd.underlying82 HI.out HZ.out HS.out HBY.out HZS.out (by omega) enC_len enC_one
        (by unfold maxLen; simp; omega) (by simp; omega) (by rw [hw5]; simp; omega)
      obtain ⟨g9, m9, c9, hv9⟩ : ∃ g9 m9 c9, v6 = .slice (some ⟨g9, 0, none⟩) m9 c9 := by
        rcases o6.cases with ⟨-, q⟩ | ⟨g9, c9, q, -⟩
        · exact absurd q (by simp)
        · exact ⟨g9, _, c9, q⟩
      subst hv9
      have g6 := hg6
      rw [hob] at g6
      have b6 : Blk w6 Bs #[v] 82 := b5.grown g6 (fun e => hgb (Option.some.inj e).symm)
      have c3 := (b3.alloc (.cells (enA y) 67)).cell 0
      have c6 := b6.cell 0
      have f6 := b6.free 0
      simp only [List.getElem?_toArray, List.getElem?_cons_zero] at c3 c6
      have O6 := Lib.hid o6
      have G6 := Lib.hid g6
      have V6 := Lib.hid hv6
      have B6 := Lib.hid b6
      have HW5 := Lib.hid hw5
      have HOB := Lib.hid hob
      have HGR := Lib.hid hgr
      have HGB := Lib.hid hgb
      have HW3 := Lib.hid hw3s
      have B3 := Lib.hid b3
      clear o3 o5 s5 b5 hpl o6 hg6 hv6 hj hit3 hg3 hs3 g6 b6 hob hgr hgb ekv hyl hw3s b3
      rw [hw5] at hrun
      clear hw5
      go_wp2_with (at_builtin; refine wpList_append_lst rfl _ _ 82 rfl (.slice (some ⟨g9, 0, none⟩) m9 c9) w6 hrun ?_)
      have hm := hmb.out
      have hbg := HBG.out
      have hrr := HR.out
      have hw5s : w5.heap.size = w3.heap.size + 1 + 1 := by rw [HW5.out]; simp
      have it5 : It w5 r mb kvK vvE L (left.eraseIdx j) := by rw [HW5.out]; exact (HIt3.out.alloc _).alloc _
      have hge := (LP.out.own.lt g HOB.out).1
      have it6 := it5.grown G6.out (fun e => HGR.out (Option.some.inj e).symm) (fun e => by have := Option.some.inj e; omega)
      have b3 := LP.out.below.grown HG3.out LP.out.below.size (fun k e => by cases e; omega)
      have b5 : Below w.heap.size w w5 := by rw [HW5.out]; exact (b3.alloc b3.size _).alloc (by have := b3.size; simp; omega) _
      have b6 := b5.grown G6.out b5.size (fun k e => by cases e; exact hge)
      have hr5 : r < w5.heap.size := it5.lt
      have hB5 : Bs < w5.heap.size := by have := B3.out.lt; omega
      have hv7 : ∃ g', (Value.slice (some ⟨g9, 0, none⟩) m9 c9).ownBlock = some g' ∧ g' ≠ r ∧ g' ≠ Bs := by
        rcases V6.out with hv | hv
        · exact ⟨g, hv.trans HOB.out, HGR.out, HGB.out⟩
        · exact ⟨w5.heap.size, hv, by omega, by omega⟩
      have it7 : It (w6.setCell ⟨Bs, 0, none⟩ (.slice (some ⟨g9, 0, none⟩) m9 c9)) r mb kvK vvE L (left.eraseIdx j) := it6.setCell (by show r ≠ Bs; omega) (by show mb ≠ Bs; omega) (.slice (some ⟨g9, 0, none⟩) m9 c9)
      refine ⟨⟨left.eraseIdx j, pre ++ [y], (.slice (some ⟨g9, 0, none⟩) m9 c9), it7, ?_, ?_, perm_left LP.out.perm HJ.out, b6.setCell (by show w.heap.size ≤ Bs; omega) _, LP.out.low, hv7, LP.out.nr⟩, ?_⟩
      · obtain ⟨g', e1, -, e2⟩ := hv7
        exact O6.out.setCell (by rw [e1]; intro q; exact e2 (Option.some.inj q)) _
      · have q := B6.out.set 0 (.slice (some ⟨g9, 0, none⟩) m9 c9)
        simpa using q
      · rw [it7.left_eq, LP.out.it.left_eq, List.length_eraseIdx]
        have := (List.getElem?_eq_some_iff.1 HJ.out).1
        rw [if_pos this]
        omega
end
section
/- PlaneShut: what Pass answers says enough. -/
open Go.RowKit
attribute [local irreducible] wpQuiet wpList

theorem learn_len {mo li : Int} {l : List En} {x : En} {l' : List En} {gv : Array Value} {full : Bool} (h : LearnR mo li l x l' gv full) : l'.length ≤ l.length + 1 := by
  have e : ∀ (l : List En) (x : En), (putD l x).length ≤ l.length + 1 := fun l x => by
    unfold putD
    rw [layK_len]
    have := cutK_len enK (enK x) l
    omega
  rcases h with ⟨-, rfl, -⟩ | ⟨-, -, rfl, -⟩ | ⟨-, -, z, -, rfl, -⟩
  · omega
  · exact e l x
  · have := e (cutK enK (enK z) l) x
    have := cutK_len enK (enK z) l
    omega
theorem list_any {w0 w : World} {i : Ix} {lv : List Vl} {ls : List Se} {lf : List En} {l : List (Nat × Array Value × TypeId)} {C : Bd} (K : Kx w0 l ((bdT w0 i lv ls lf).and C) w) (hl : lf.length ≤ 100) :
    Calls Tryd.prog 20 #[.pointer (some ⟨i.b3, 0, none⟩)] w fun e w' => ∃ v, e = .returned v ∧ ∃ a c, v = .slice a lf.length c ∧ Src w' enC v lf ∧ Kx w0 l ((bdT w0 i lv ls lf).and C) w' ∧ Below w.heap.size w w' := by
  have h : T3 w0 i lv ls lf w := K.a.1
  refine (list22 h.tabF hl).mono fun e w' ⟨v, q1, q2, q3⟩ => ⟨v, q1, ?_⟩
  rcases q2 with ⟨q4, q5⟩ | ⟨ad, c, q4, q5⟩
  · exact ⟨none, 0, by rw [q4, q5]; rfl, .inl ⟨q4, q5⟩, K.next q3, q3⟩
  · exact ⟨_, c, q4, .inr ⟨ad, c, q4, q5⟩, K.next q3, q3⟩
theorem has_and (x y : Nat) (p : Int) : hasB (x &&& y) p = (hasB x p && hasB y p) := by
  rcases port_cases p with h | ⟨k, hk, rfl⟩
  · rw [hasB_no h, hasB_no h]; rfl
  · rw [hasB_bit _ k hk, hasB_bit _ k hk, hasB_bit _ k hk, Nat.testBit_and]
theorem hasB_zero (p : Int) : hasB 0 p = false := by
  rcases port_cases p with h | ⟨k, hk, rfl⟩
  · exact hasB_no h
  · rw [hasB_bit _ k hk, Nat.zero_testBit]
/-- A port that doesn't take frames. -/
def shutP (ps : List Po) (fr : Int) : Prop := fr < 1 ∨ (ps.length : Int) < fr ∨ ∃ p, ps[(fr - 1).toNat]? = some p ∧ (onP p = false ∨ p.p11 = 0)
theorem has_openM {ps : List Po} {q : Int} : ∀ k, hasB (openM ps k) q = true → ∃ (j : Nat) (y : Po), q = (j : Int) + 1 ∧ ps[j]? = some y ∧ onP y = true ∧ y.p11 = 2
  | 0, h => by unfold openM at h; rw [hasB_zero] at h; cases h
  | k + 1, h => by
    unfold openM at h
    split at h
    · rename_i p hp
      split at h
      · rename_i c
        rw [has_withS, Bool.or_eq_true] at h
        rcases h with h | h
        · exact has_openM k h
        · rw [Bool.and_eq_true] at h
          exact ⟨k, p, of_decide_eq_true h.1, hp, c.1, c.2⟩
      · exact has_openM k h
    · exact has_openM k h
theorem ent_shut {lv : List Vl} {ps : List Po} {fr : Int} {x : Fr} (h : shutP ps fr) : entM lv ps fr x = (0, 6) := by
  unfold entM
  split
  · rfl
  · rename_i c
    rcases h with h | h | ⟨p, hp, h⟩
    · exact absurd h c
    · rw [List.getElem?_eq_none (by omega)]
    · rw [hp]
      dsimp only
      split
      · rfl
      · rename_i c2
        rcases h with h | h
        · exact absurd h c2
        · rw [if_pos h]
/-- A frame that was sent, as the one that came. -/
def likeP (x : Fr) (ps : List Po) (fr : Int) (s : Sn) : Prop :=
  (∃ (d : Nat → Nat) (tg : Bool) (pc : Nat) (de : Bool) (vi ty : Nat), s.fr = ⟨d, x.s, tg, pc, de, vi, ty, x.da⟩) ∧ s.p ≠ fr ∧ ∃ (j : Nat) (y : Po), s.p = (j : Int) + 1 ∧ ps[j]? = some y ∧ onP y = true ∧ y.p11 = 2
theorem pass_shut {i : Ix} {lv : List Vl} {ls : List Se} {lf l' : List En} {ps : List Po} {fr : Int} {x : Fr} {aq ad : Nat} {why : Int} {lb full : Bool} {sent : List Sn} (hok : ∀ y ∈ ps, PoOk y) (h : PassR i lv ls lf ps fr x aq ad l' why lb full sent) :
    l'.length ≤ lf.length + 1 ∧ (shutP ps fr → why = 6 ∧ lb = false ∧ sent = [] ∧ l' = lf) ∧ ((¬ shutP ps fr) → ∃ (k : Nat) (p : Po), fr = (k : Int) + 1 ∧ ps[k]? = some p ∧ onP p = true ∧ ¬ p.p11 = 0 ∧ (sent ≠ [] → p.p11 = 2)) ∧ ∀ s ∈ sent, likeP x ps fr s := by
  have hopen : (¬ shutP ps fr) → ∃ (k : Nat) (p : Po), fr = (k : Int) + 1 ∧ ps[k]? = some p ∧ onP p = true ∧ ¬ p.p11 = 0 := fun hn => by
    by_cases c1 : fr < 1
    · exact absurd (.inl c1) hn
    · by_cases c2 : (ps.length : Int) < fr
      · exact absurd (.inr (.inl c2)) hn
      · obtain ⟨p, hp⟩ : ∃ p, ps[(fr - 1).toNat]? = some p := ⟨_, List.getElem?_eq_getElem (by omega)⟩
        refine ⟨(fr - 1).toNat, p, by omega, hp, ?_, fun c => hn (.inr (.inr ⟨p, hp, .inr c⟩))⟩
        cases c : onP p with
        | true => rfl
        | false => exact absurd (.inr (.inr ⟨p, hp, .inl c⟩)) hn
  rcases h with ⟨h1, rfl, hw, rfl, rfl, rfl⟩ | ⟨h1, ⟨gv, hL⟩, -, p, hp, hc⟩
  · refine ⟨by omega, fun hs => ⟨by rw [hw, ent_shut hs], rfl, rfl, rfl⟩, fun hn => ?_, fun s hs => by cases hs⟩
    obtain ⟨k, p, q1, q2, q3, q4⟩ := hopen hn
    exact ⟨k, p, q1, q2, q3, q4, fun c => absurd rfl c⟩
  · refine ⟨learn_len hL, fun hs => (by rw [ent_shut hs] at h1; cases h1), fun hn => ?_, ?_⟩
    · obtain ⟨k, p', q1, q2, q3, q4⟩ := hopen hn
      have e : p' = p := by rw [q1, show ((k : Int) + 1 - 1).toNat = k by omega, q2] at hp; exact Option.some.inj hp
      subst e
      refine ⟨k, p', q1, q2, q3, q4, fun c => ?_⟩
      rcases hc with ⟨-, -, rfl⟩ | ⟨h2, -, -⟩
      · exact absurd rfl c
      · rcases (hok p' (List.mem_of_getElem? q2)).st with h | h | h
        · exact absurd h q4
        · exact absurd h h2
        · exact h
    · rcases hc with ⟨-, -, rfl⟩ | ⟨-, -, rfl⟩
      · intro s hs; cases hs
      · intro s hs
        unfold sendL at hs
        obtain ⟨q, hq, he⟩ := List.mem_filterMap.1 hs
        split at he
        · injection he with he
          subst he
          have hqs : hasB (portsN fr (entM lv ps fr x).1 ad (openM ps ps.length) lv ls l') q = true := by
            unfold portsL upto at hq
            exact (List.mem_filter.1 hq).2
          unfold portsN at hqs
          split at hqs
          · rw [hasB_zero] at hqs; cases hqs
          · rw [has_and, has_and, Bool.and_eq_true, Bool.and_eq_true, has_withoutS, Bool.and_eq_true] at hqs
            obtain ⟨⟨⟨-, h3⟩, h4⟩, -⟩ := hqs
            refine ⟨?_, of_decide_eq_true h3, has_openM _ h4⟩
            unfold forT
            split
            · exact ⟨_, _, _, _, _, _, rfl⟩
            · exact ⟨_, _, _, _, _, _, rfl⟩
        · cases he
theorem qv {P : Program} {ops : Array Oper} {C : World → Prop} {Q : Act → Prop} {a : Act} {rest : List Oper} {o : Oper} (v : Value) (h : wpQuiet P ops C Q rest (a.put o.dst v)) (hw : Region.wanted o (yielded ops a.tmps) = true := by rfl)
    (hv : ∀ w, C w → (execOp a.eval o).run P w = .ok (.value v) w := by intro wv hC; go_simp) : wpQuiet P ops C Q (o :: rest) a := q_val v hw hv h
theorem equal_mc (m : Nat → Nat) (W : World) : (Op.equalIn 10000 40 (.agg (macA m)) (.agg (macA m))).run Tryd.prog W = .ok true W := by
  have h := equal_mac 9998 40 Tryd.underlying40 m m W
  rw [eqMac_self] at h
  exact h
end
end Go.Proofs.YtelohoomlgjjmaaDoor
