/- The developers' table of VLANs: List. -/
import Derived.Test.YtjipbdljljhijaaSort8
import Derived.Maps.RangeWalk
namespace Go.Proofs.Ytjipbdljljhijaa
open Go.RowKit
set_option linter.unusedSimpArgs false
set_option linter.unusedVariables false

theorem It.left_eq {κ ν : Type} {w : World} {r b : Nat} {kv : κ → Value} {vv : ν → Value} {L left : List (κ × ν)} (h : It w r b kv vv L left) : w.rangeLeft b r = left.length := by
  obtain ⟨es, clock, since, c0, seen, hr, hb, -, -, -, -, -, -, hl, -⟩ := h
  simp only [World.rangeLeft, hb, hr]
  have := congrArg List.length hl
  simpa using this

theorem perm_left {L left : List (Nat × Vl)} {pre : List Vl} {j : Nat} {x : Nat} {n : Vl} (h : (pre ++ left.map (·.2)).Perm (L.map (·.2))) (hj : left[j]? = some (x, n)) : (pre ++ [n] ++ (left.eraseIdx j).map (·.2)).Perm (L.map (·.2)) := by
  refine List.Perm.trans ?_ h
  rw [List.append_assoc]
  refine List.Perm.append_left pre ?_
  obtain ⟨hlt, e⟩ := List.getElem?_eq_some_iff.1 hj
  have : left = left.take j ++ (x, n) :: left.drop (j + 1) := by rw [← e, List.getElem_cons_drop, List.take_append_drop]
  rw [List.eraseIdx_eq_take_drop_succ]
  have e2 : left.map (·.2) = (left.take j ++ (x, n) :: left.drop (j + 1)).map (·.2) := by rw [← this]
  rw [e2]
  simp only [List.map_append, List.map_cons, List.cons_append, List.nil_append]
  exact List.perm_middle.symm

theorem ho_size {w1 : World} {base g n : Nat} {l : List Vl} (h : Own w1 base 48 3 vlC (.slice (some ⟨g, 0, none⟩) 0 n) l) : g < w1.heap.size := (h.lt g rfl).2

set_option maxHeartbeats 8000000 in
theorem list_tm {w : World} {b A B : Nat} {l : List Vl} (h : TM w b A B l) (hf : l.length ≤ 16) :
    Calls Try.prog 24 #[.pointer (some ⟨b, 0, none⟩)] w fun e w' => ∃ v, e = .returned v ∧ Src w' vlC v l ∧ Below w.heap.size w w' := by
  obtain ⟨mb, L, h1, h2, h3, h4, h5, h6⟩ := h
  have hmb := Lib.hid h5.lt
  have hc := h4.cell 0
  simp only [List.getElem?_toArray, List.getElem?_cons_zero] at hc
  have hlen := h5.len (P := Try.prog) Try.underlying61 3
  obtain ⟨n, hn⟩ : ∃ n, L.length = n := ⟨_, rfl⟩
  rw [hn] at hlen
  have HN := Lib.hid hn
  have hn16 : n ≤ 16 := by rw [← hn, h6.len]; exact hf
  obtain ⟨i, z, hi, hz, hs, hby, hzs⟩ : ∃ i z, Try.prog.info? 48 = some i ∧ i.zero = some z ∧ i.size = 3 ∧ i.bytes = 12 ∧ z.cells.size = 3 := ⟨_, _, rfl, rfl, rfl, rfl, rfl⟩
  have HI := Lib.hid hi
  have HZ := Lib.hid hz
  have HS := Lib.hid hs
  have HBY := Lib.hid hby
  have HZS := Lib.hid hzs
  have H4 := Lib.hid h4
  have H5 := Lib.hid h5
  clear hi hz hs hby hzs h4 h5 hn
  go_enter Try.func24, Try.ntmps24
  go_upto_region 4 with (refine wpList_make_own w rfl _ _ 56 rfl w.heap.size 48 i z 3 Try.underlying56 HI.out HZ.out HS.out .i64 .i64 n n rfl rfl rfl (by rw [HBY.out]; omega) (by unfold maxLen; omega) (Nat.le_refl _) ?_; intro w1 ho1 hg1)
  have HG1 := Lib.hid hg1
  have O1 := Lib.hid (show Own w1 w.heap.size 48 3 vlC (.slice (some ⟨w.heap.size, 0, none⟩) 0 n) [] from ho1)
  have B1 := Lib.hid (show Below w.heap.size w w1 from (Below.refl _ _).grown hg1 (Nat.le_refl _) (fun k e => by cases e))
  clear hg1 ho1 hlen hc
  have hc1 := (H4.out.below B1.out H4.out.lt).cell 0
  simp only [List.getElem?_toArray, List.getElem?_cons_zero] at hc1
  obtain ⟨ob, hrg, hit⟩ := (H5.out.next B1.out).range (P := Try.prog) Try.underlying61
  have hrng : (Instr.range 61 (.map (some mb))).run Try.prog w1 = .ok (.pointer (some ⟨w1.heap.size, 0, none⟩)) (w1.alloc ob) := hrg
  obtain ⟨w2, hw2⟩ : ∃ w2, w2 = w1.alloc ob := ⟨_, rfl⟩
  rw [← hw2] at hrng hit
  obtain ⟨r, hr⟩ : ∃ r, r = w1.heap.size := ⟨_, rfl⟩
  rw [← hr] at hrng hit
  have HR := Lib.hid (show w.heap.size < r by
    have := ho_size O1.out
    omega)
  have HIT := Lib.hid hit
  have O2 := Lib.hid (show Own w2 w.heap.size 48 3 vlC (.slice (some ⟨w.heap.size, 0, none⟩) 0 n) [] by rw [hw2]; exact O1.out.alloc _)
  have B2 := Lib.hid (show Below w.heap.size w w2 by rw [hw2]; exact B1.out.alloc B1.out.size _)
  clear hrg hit hw2 hr
  go_upto_region 5 with fail
  clear hc1 hrng
  go_loopw [3] (fun v wr => ∃ (left : List (Nat × Vl)) (pre : List Vl), It wr r mb kv16 vlV L left ∧ Own wr w.heap.size 48 3 vlC v pre ∧ (pre ++ left.map (·.2)).Perm (L.map (·.2)) ∧ Below w.heap.size w wr ∧ ∃ g, v.ownBlock = some g ∧ g ≠ r) (fun _ wr => wr.rangeLeft mb r)
  case atStart => exact ⟨L, [], HIT.out, O2.out, List.Perm.refl _, B2.out, w.heap.size, rfl, by have := HR.out; omega⟩
  case round =>
    obtain ⟨left, pre, hit, hown, hperm, hbel, g, hob, hgr⟩ := hrel
    have HGR := Lib.hid hgr
    have HOB := Lib.hid hob
    have HIt := Lib.hid hit
    have HOwn := Lib.hid hown
    have HP := Lib.hid hperm
    have HBel := Lib.hid hbel
    clear hown hperm hbel hgr hob
    rcases hit.step (P := Try.prog) (by have := hmb.out; have := HR.out; omega) 0 with ⟨h0, hnx⟩ | ⟨j, x, y, w3, hj, hnx, hit3, hg3, hs3, hen⟩
    · clear hit
      have HL0 := Lib.hid h0
      clear h0
      obtain ⟨cap, rfl, hgw⟩ : ∃ cap, u3 = .slice (some ⟨g, 0, none⟩) pre.length cap ∧ g < wr.heap.size := by
        rcases HOwn.out.cases with ⟨hv, -⟩ | ⟨g2, cap, hv, -, hlt, -⟩
        · have := HOB.out
          rw [hv] at this
          cases this
        · have := HOB.out
          rw [hv] at this
          have e : g2 = g := Option.some.inj this
          exact ⟨cap, by rw [hv, e], e ▸ hlt⟩
      have hp := HP.out
      rw [HL0.out, List.map_nil, List.append_nil] at hp
      have HPP := Lib.hid hp
      have hlen : pre.length ≤ 1000 := by
        rw [hp.length_eq, List.length_map, HN.out]
        omega
      have HS := Lib.hid (sort_any HOwn.out hgw hlen)
      have HGO := Lib.hid (HOwn.out.lt g rfl).1
      clear hlen hp hgw
      generalize hpl : pre.length = pl at *
      go_wp2_with (go_at_call 31; refine HS.out.mono ?_; rintro e w5 ⟨rfl, l', q1, q2, q3, q4⟩)
      go_ret
      refine ⟨_, rfl, ?_, HBel.out.grown q4 HBel.out.size (fun k e => by cases e; exact HGO.out)⟩
      rw [h6.sorted (q1.trans HPP.out) q2] at q3
      exact q3
    · clear hit
      obtain ⟨yv, ym, yu⟩ := y
      have HIt3 := Lib.hid hit3
      have HG3 := Lib.hid hg3
      have HS3 := Lib.hid hs3
      have HJ := Lib.hid hj
      have HNX := Lib.hid hnx
      have o3 : Own w3 w.heap.size 48 3 vlC u3 pre := HOwn.out.kept hg3 (.inr (by rw [HOB.out]; intro e; exact HGR.out (Option.some.inj e)))
      obtain ⟨w5, hw5⟩ : ∃ w5, w5 = (w3.alloc (.cells (vlA ⟨yv, ym, yu⟩) 48)).alloc (.cells (vlA ⟨yv, ym, yu⟩) 48) := ⟨_, rfl⟩
      have o5 : Own w5 w.heap.size 48 3 vlC u3 pre := by rw [hw5]; exact (o3.alloc _).alloc _
      have s5 : Src w5 vlC (.slice (some ⟨w3.heap.size + 1, 0, none⟩) 1 1) [⟨yv, ym, yu⟩] := by
        refine .inr ⟨⟨w3.heap.size + 1, 0, none⟩, 1, rfl, fun j u hu => ?_⟩
        have hk : Blk w5 (w3.heap.size + 1) (vlA ⟨yv, ym, yu⟩) 48 := by
          have := Blk.new (w3.alloc (.cells (vlA ⟨yv, ym, yu⟩) 48)) (vlA ⟨yv, ym, yu⟩) 48
          rw [hw5]
          simpa using this
        have ea : (⟨w3.heap.size + 1, 0, none⟩ : Addr).add j = ⟨w3.heap.size + 1, j, none⟩ := by
          unfold Addr.add
          split <;> simp_all
        rw [ea, hk.cell]
        simpa [cellsL, vlC] using hu
      have hpl : pre.length ≤ 16 := by
        have := HP.out.length_eq
        rw [List.length_append, List.length_map, List.length_map, HN.out] at this
        omega
      obtain ⟨v6, w6, hrun, o6, hg6, hv6⟩ := o5.app (P := Try.prog) (t := 56) (ty := 56) s5 Try.underlying56 HI.out HZ.out HS.out HBY.out HZS.out (by omega) vlC_len vlC_one
        (by unfold maxLen; simp; omega) (by simp; omega) (by rw [hw5]; have := HBel.out.size; simp; omega)
      have hcx : (w3.alloc (.cells (vlA ⟨yv, ym, yu⟩) 48)).alloc (.cells (vlA ⟨yv, ym, yu⟩) 48) = w5 := hw5.symm
      have O6 := Lib.hid o6
      have G6 := Lib.hid hg6
      have V6 := Lib.hid hv6
      have HW5 := Lib.hid hw5
      clear o3 o5 s5 hpl o6 hg6 hv6 hj hit3 hg3 hs3
      rw [hw5] at hrun
      clear hcx hw5
      go_wp2_with (at_builtin; refine wpList_append_lst rfl _ _ 56 rfl v6 w6 hrun ?_)
      have hg := (HOwn.out.lt g HOB.out).1
      have hm := hmb.out
      have it5 : It w5 r mb kv16 vlV L (left.eraseIdx j) := by rw [HW5.out]; exact (HIt3.out.alloc _).alloc _
      have g6 := G6.out
      rw [HOB.out] at g6
      have it6 := it5.grown g6 (fun e => HGR.out (Option.some.inj e).symm) (fun e => by have := Option.some.inj e; omega)
      have b3 := HBel.out.grown HG3.out HBel.out.size (fun k e => by cases e; have := HR.out; omega)
      have b5 : Below w.heap.size w w5 := by rw [HW5.out]; exact (b3.alloc b3.size _).alloc (by have := b3.size; simp; omega) _
      have b6 := b5.grown g6 b5.size (fun k e => by cases e; exact hg)
      have hr5 : r < w5.heap.size := it5.lt
      refine ⟨⟨left.eraseIdx j, pre ++ [⟨yv, ym, yu⟩], it6, O6.out, perm_left HP.out HJ.out, b6, ?_⟩, ?_⟩
      · rcases V6.out with hv | hv
        · exact ⟨g, hv.trans HOB.out, HGR.out⟩
        · exact ⟨w5.heap.size, hv, by omega⟩
      · rw [it6.left_eq, HIt.out.left_eq, List.length_eraseIdx]
        have := (List.getElem?_eq_some_iff.1 HJ.out).1
        rw [if_pos this]
        omega
end Go.Proofs.Ytjipbdljljhijaa
