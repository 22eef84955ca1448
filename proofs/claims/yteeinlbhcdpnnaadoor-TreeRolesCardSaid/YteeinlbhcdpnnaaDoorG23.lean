import Derived.Test.YteeinlbhcdpnnaaDoorG4
import Derived.Test.YteeinlbhcdpnnaaDoorG22
import Derived.Test.YteeinlbhcdpnnaaDoorG12
import Derived.Test.YteeinlbhcdpnnaaDoorG15
import Derived.Test.YteeinlbhcdpnnaaDoorG11
set_option linter.unusedSimpArgs false
set_option linter.unusedVariables false
namespace Go.Proofs.YteeinlbhcdpnnaaDoor
section
open Go.RowKit
attribute [local irreducible] wpQuiet wpList
set_option maxRecDepth 100000 in
set_option maxHeartbeats 8000000 in
theorem made_any (x : Sg) (l : List Pg) (n m : Nat) (a : Option Addr) (w : World) (hl : l.length = n) (hnm : n ≤ m ∧ m ≤ maxLen) (hr : RowsAt w a 5 pgC l) (hx : x.ok) (hok : ∀ y ∈ l, y.ok) : Calls Tryd.prog 7 #[.agg (sgA x (.slice a n m))] w fun e w' => ∃ u, e = .returned (stV (madeS x l) u (.slice none 0 0) (.slice none 0 0) (.slice none 0 0)) ∧ Own w' w.heap.size 73 21 poC u (madeS x l).po ∧ Below w.heap.size w w' := by
 have HL := Lib.hid hl
 have HNM := Lib.hid hnm
 have HR := Lib.hid hr
 have HX := Lib.hid hx
 have HOK := Lib.hid hok
 have K := Lib.hid (Kx.start (Kb.nil w))
 obtain ⟨r0, hr0, lr0⟩ : ∃ r : Nat, r = x.id % 8 ∧ r < 8 := ⟨_, rfl, Nat.mod_lt _ (by decide)⟩
 obtain ⟨r1, hr1, lr1⟩ : ∃ r : Nat, r = x.n0 % 6 ∧ r < 6 := ⟨_, rfl, Nat.mod_lt _ (by decide)⟩
 obtain ⟨r2, hr2, lr2⟩ : ∃ r : Nat, r = x.n1 % 3 ∧ r < 3 := ⟨_, rfl, Nat.mod_lt _ (by decide)⟩
 obtain ⟨r3, hr3, lr3⟩ : ∃ r : Nat, r = x.n2 % 5 ∧ r < 5 := ⟨_, rfl, Nat.mod_lt _ (by decide)⟩
 have HM0 := Lib.hid (show (x.id : Int) % 8 = (r0 : Int) ∧ (x.n0 : Int) % 6 = (r1 : Int) ∧ (x.n1 : Int) % 3 = (r2 : Int) ∧ (x.n2 : Int) % 5 = (r3 : Int) by omega)
 have HM1 := Lib.hid (show (x.id : Int) < 256 ∧ (x.n0 : Int) < 256 ∧ (x.n1 : Int) < 256 ∧ (x.n2 : Int) < 256 by obtain ⟨q1, q2, q3, q4⟩ := hx; omega)
 have HM2 := Lib.hid (show (r0 : Int) < 8 ∧ (r1 : Int) < 6 ∧ (r2 : Int) < 3 ∧ (r3 : Int) < 5 by omega)
 have HCF := Lib.hid (show madeCf x = ⟨((1 + r0 : Nat) : Int), ((6 + r1 : Nat) : Int), ((1 + r2 : Nat) : Int), ((1 + r3 : Nat) : Int), 8, 20⟩ by unfold madeCf; rw [hr0, hr1, hr2, hr3])
 clear hl hnm hr hx hok hr0 hr1 hr2 hr3 lr0 lr1 lr2 lr3
 go_enter Tryd.func7, Tryd.ntmps7
 go_upto_region 0 with fail
 refine wp_region_lit ?_
 refine kx_box K.out 25 (.tmp 0) (sgA x (.slice a n m)) rfl rfl (by rfl) (pz (h := ?_))
 intro b1 w1 K1
 refine kx_alloc K1.out 40 (nil25) rfl z41 (by rfl) (pz (h := ?_))
 intro b2 w2 K2
 refine wpList_nil ?_
 go_upto_region 1 with fail
 refine lz (wz6 (pT b1 0) (.int .u8 (x.id : Nat)) (.int .u8 (r0 : Nat)) (.int .u64 (r0 : Nat)) (.int .u64 ((1 + r0 : Nat) : Int)) (pT b1 1) (h2 := by have q : w2.cell? ⟨b1, 0, none⟩ = some (.int .u8 (x.id : Nat)) := K2.out.cell (i := 0) rfl (by rfl); go_simp) (h3 := by have q0 := HM0.out.1; have q1 := HM1.out.1; have q2 := HM2.out.1; go_simp; first | exact wrS (by omega) (by omega) | exact tmN q0) (h4 := by have q2 := HM2.out.1; go_simp; first | exact wrS (by omega) (by omega) | exact tmN q0) (h5 := by have q2 := HM2.out.1; go_simp; first | exact wrS (by omega) (by omega) | exact tmN q0) (h := wz6 (pT b1 1) (.int .u8 (x.n0 : Nat)) (.int .u8 (r1 : Nat)) (iV (r1 : Nat)) (iV ((6 + r1 : Nat) : Int)) (pT b1 1) (h2 := by have q : w2.cell? ⟨b1, 1, none⟩ = some (.int .u8 (x.n0 : Nat)) := K2.out.cell (i := 0) rfl (by rfl); go_simp) (h3 := by have q0 := HM0.out.2.1; have q1 := HM1.out.2.1; have q2 := HM2.out.2.1; go_simp; first | exact wrS (by omega) (by omega) | exact tmN q0) (h4 := by have q2 := HM2.out.2.1; go_simp; first | exact wrS (by omega) (by omega) | exact tmN q0) (h5 := by have q2 := HM2.out.2.1; go_simp; first | exact wrS (by omega) (by omega) | exact tmN q0) (h := wz6 (pT b1 2) (.int .u8 (x.n1 : Nat)) (.int .u8 (r2 : Nat)) (iV (r2 : Nat)) (iV ((1 + r2 : Nat) : Int)) (pT b1 1) (h2 := by have q : w2.cell? ⟨b1, 2, none⟩ = some (.int .u8 (x.n1 : Nat)) := K2.out.cell (i := 0) rfl (by rfl); go_simp) (h3 := by have q0 := HM0.out.2.2.1; have q1 := HM1.out.2.2.1; have q2 := HM2.out.2.2.1; go_simp; first | exact wrS (by omega) (by omega) | exact tmN q0) (h4 := by have q2 := HM2.out.2.2.1; go_simp; first | exact wrS (by omega) (by omega) | exact tmN q0) (h5 := by have q2 := HM2.out.2.2.1; go_simp; first | exact wrS (by omega) (by omega) | exact tmN q0) (h := wz6 (pT b1 3) (.int .u8 (x.n2 : Nat)) (.int .u8 (r3 : Nat)) (iV (r3 : Nat)) (iV ((1 + r3 : Nat) : Int)) (.agg (cfA ⟨((1 + r0 : Nat) : Int), ((6 + r1 : Nat) : Int), ((1 + r2 : Nat) : Int), ((1 + r3 : Nat) : Int), 8, 20⟩)) (h2 := by have q : w2.cell? ⟨b1, 3, none⟩ = some (.int .u8 (x.n2 : Nat)) := K2.out.cell (i := 0) rfl (by rfl); go_simp) (h3 := by have q0 := HM0.out.2.2.2; have q1 := HM1.out.2.2.2; have q2 := HM2.out.2.2.2; go_simp; first | exact wrS (by omega) (by omega) | exact tmN q0) (h4 := by have q2 := HM2.out.2.2.2; go_simp; first | exact wrS (by omega) (by omega) | exact tmN q0) (h5 := by have q2 := HM2.out.2.2.2; go_simp; first | exact wrS (by omega) (by omega) | exact tmN q0) (h6 := by exact run_build_of 31 [(0, .tmp 10), (1, .tmp 16), (2, .tmp 22), (3, .tmp 28), (4, .const (iV 8)), (5, .const (iV 20))] rfl _ (cfA ⟨((1 + r0 : Nat) : Int), ((6 + r1 : Nat) : Int), ((1 + r2 : Nat) : Int), ((1 + r3 : Nat) : Int), 8, 20⟩) rfl (by kernel_rfl)) (h := wz1 (.agg (stA ⟨⟨((1 + r0 : Nat) : Int), ((6 + r1 : Nat) : Int), ((1 + r2 : Nat) : Int), ((1 + r3 : Nat) : Int), 8, 20⟩, [], [], [], [], fun _ => 0, 0⟩ (.slice none 0 0) (.slice none 0 0) (.slice none 0 0) (.slice none 0 0))) (h1 := by exact run_build_of 40 [(0, .tmp 29)] rfl _ (stA ⟨⟨((1 + r0 : Nat) : Int), ((6 + r1 : Nat) : Int), ((1 + r2 : Nat) : Int), ((1 + r3 : Nat) : Int), 8, 20⟩, [], [], [], [], fun _ => 0, 0⟩ (.slice none 0 0) (.slice none 0 0) (.slice none 0 0) (.slice none 0 0)) rfl (by kernel_rfl)) (h := ?_))))))
 refine kx_alloc K2.out 40 (nil25) rfl z41 (by rfl) (pz (h := ?_))
 intro b3 w3 K3
 refine kx_row K3.out 2 rfl 40 _ _ (stA ⟨⟨((1 + r0 : Nat) : Int), ((6 + r1 : Nat) : Int), ((1 + r2 : Nat) : Int), ((1 + r3 : Nat) : Int), 8, 20⟩, [], [], [], [], fun _ => 0, 0⟩ (.slice none 0 0) (.slice none 0 0) (.slice none 0 0) (.slice none 0 0)) rfl rfl rfl rfl (size41) (by rfl) (by kernel_rfl) (py (h := ?_))
 intro w4 K4
 refine wpList_nil ?_
 go_upto_region 2 with fail
 refine lz (wz1 (iV 0) (h := nz ?_))
 go_upto_region 3 with fail
 have KO := Lib.hid (show Kx w [(b1, sgA x (.slice a n m), 25), (b2, nil25, 40), (b3, stA ⟨⟨((1 + r0 : Nat) : Int), ((6 + r1 : Nat) : Int), ((1 + r2 : Nat) : Int), ((1 + r3 : Nat) : Int), 8, 20⟩, [], [], [], [], fun _ => 0, 0⟩ (.slice none 0 0) (.slice none 0 0) (.slice none 0 0) (.slice none 0 0), 40)] (bdO w.heap.size 73 21 poC (.slice none 0 0) ((l.take 0).map madeP)) w4 from ⟨K4.out.kb, Own.nil _ _ _ _ _, fun _ _ h => (by cases h), fun _ h => (by cases h)⟩)
 go_loopw [4] (fun i wr => ∃ (k : Nat) (cur : Value), k ≤ n ∧ k ≤ 6 ∧ i = .int .i64 k ∧ Kx w [(b1, sgA x (.slice a n m), 25), (b2, nil25, 40), (b3, stA ⟨⟨((1 + r0 : Nat) : Int), ((6 + r1 : Nat) : Int), ((1 + r2 : Nat) : Int), ((1 + r3 : Nat) : Int), 8, 20⟩, [], [], [], [], fun _ => 0, 0⟩ (cur) (.slice none 0 0) (.slice none 0 0) (.slice none 0 0), 40)] (bdO w.heap.size 73 21 poC (cur) ((l.take k).map madeP)) wr) (fun i _ => (n - intOf i).toNat)
 case atStart => exact ⟨0, _, Nat.zero_le _, Nat.zero_le _, rfl, KO.out⟩
 case round =>
  obtain ⟨k, cur, hk, hk6, rfl, hK⟩ := hrel
  have KR := Lib.hid hK
  have HK := Lib.hid hk
  have HK6 := Lib.hid hk6
  have HKB := Lib.hid (show (k : Int) ≤ 6 by omega)
  have HCU := Lib.hid (show ∃ x1 x2, cur = .slice x1 ((l.take k).map madeP).length x2 by obtain ⟨x1, x2, e, -, -⟩ := (show Own wr w.heap.size 73 21 poC cur ((l.take k).map madeP) from hK.a).shape; exact ⟨x1, x2, e⟩)
  have i1 : (n : Int) ≤ 9223372036854775807 := by have q := HNM.out; unfold maxLen at q; omega
  clear hK hk hk6
  by_cases hlt : k < n
  case neg =>
   have HLT := Lib.hid hlt
   clear hlt
   go_upto_region 3 with fail
   refine lz (wz6 (iV (k : Nat)) (pT b1 4) (.slice a n m) (iV (n : Nat)) (.bool false) (.bool false) (h3 := by have q : wr.cell? ⟨b1, 4, none⟩ = some (.slice a n m) := KR.out.cell (i := 0) rfl (by rfl); go_simp) (h5 := by have q := HLT.out; go_simp) (h := wk (h := wk (h := wz1 (.bool false) (h1 := by exact run_pick_no (.tmp 36) (.tmp 38) (.const (.bool false)) _ rfl rfl rfl) (h := nz ?_)))))
   go_upto_region 7 with fail
   have HONE := Lib.hid (show (stA ⟨⟨((1 + r0 : Nat) : Int), ((6 + r1 : Nat) : Int), ((1 + r2 : Nat) : Int), ((1 + r3 : Nat) : Int), 8, 20⟩, [], [], [], [], fun _ => 0, 0⟩ (cur) (.slice none 0 0) (.slice none 0 0) (.slice none 0 0)).all (·.oneCell') = true from st_all KR.out.a.oneCell rfl rfl rfl)
   refine lz (wz1 (.agg (stA ⟨⟨((1 + r0 : Nat) : Int), ((6 + r1 : Nat) : Int), ((1 + r2 : Nat) : Int), ((1 + r3 : Nat) : Int), 8, 20⟩, [], [], [], [], fun _ => 0, 0⟩ (cur) (.slice none 0 0) (.slice none 0 0) (.slice none 0 0))) (h1 := by exact kx_all KR.out 2 rfl 40 _ rfl rfl Tryd.underlying40 rfl (size41)) (h := ?_))
   refine kx_row KR.out 1 rfl 40 _ _ (stA ⟨⟨((1 + r0 : Nat) : Int), ((6 + r1 : Nat) : Int), ((1 + r2 : Nat) : Int), ((1 + r3 : Nat) : Int), 8, 20⟩, [], [], [], [], fun _ => 0, 0⟩ (cur) (.slice none 0 0) (.slice none 0 0) (.slice none 0 0)) rfl rfl rfl rfl (size41) (by rfl) (HONE.out) (py (h := ?_))
   intro w6 K6
   refine wpList_nil ?_
   go_wp2_with fail
   refine bodyPost_ret (v := .agg (stA ⟨⟨((1 + r0 : Nat) : Int), ((6 + r1 : Nat) : Int), ((1 + r2 : Nat) : Int), ((1 + r3 : Nat) : Int), 8, 20⟩, [], [], [], [], fun _ => 0, 0⟩ (cur) (.slice none 0 0) (.slice none 0 0) (.slice none 0 0))) (results_cell_row Tryd.results7 _ _ b2 40 (stA ⟨⟨((1 + r0 : Nat) : Int), ((6 + r1 : Nat) : Int), ((1 + r2 : Nat) : Int), ((1 + r3 : Nat) : Int), 8, 20⟩, [], [], [], [], fun _ => 0, 0⟩ (cur) (.slice none 0 0) (.slice none 0 0) (.slice none 0 0)) (0, 0) _ rfl (K6.out.at (i := 1) rfl) Tryd.underlying40 rfl size41) rfl ?_
   have e2 : (madeS x l).po = (l.take k).map madeP := by show (l.take 6).map madeP = _; rw [List.take_of_length_le (by have q1 := HL.out; have q2 := HK.out; have q3 := HK6.out; have q4 := HLT.out; omega), List.take_of_length_le (by have q1 := HL.out; have q4 := HLT.out; omega)]
   exact ⟨cur, by rw [show madeS x l = ⟨madeCf x, (l.take 6).map madeP, [], [], [], fun _ => 0, 0⟩ from rfl, HCF.out]; rfl, by rw [e2]; exact K6.out.a, K6.out.below⟩
  case pos =>
   have HLT := Lib.hid hlt
   clear hlt
   by_cases h6 : k < 6
   case neg =>
    have H6 := Lib.hid h6
    clear h6
    go_upto_region 3 with fail
    refine lz (wz6 (iV (k : Nat)) (pT b1 4) (.slice a n m) (iV (n : Nat)) (.bool true) (.bool true) (h3 := by have q : wr.cell? ⟨b1, 4, none⟩ = some (.slice a n m) := KR.out.cell (i := 0) rfl (by rfl); go_simp) (h5 := by have q := HLT.out; go_simp) (h := wz3 (iV (k : Nat)) (.bool false) (.bool false) (h2 := by have q := H6.out; go_simp; omega) (h3 := by exact run_pick_yes (.tmp 36) (.tmp 38) (.const (.bool false)) _ rfl rfl rfl) (h := nz ?_)))
    go_upto_region 7 with fail
    have HONE := Lib.hid (show (stA ⟨⟨((1 + r0 : Nat) : Int), ((6 + r1 : Nat) : Int), ((1 + r2 : Nat) : Int), ((1 + r3 : Nat) : Int), 8, 20⟩, [], [], [], [], fun _ => 0, 0⟩ (cur) (.slice none 0 0) (.slice none 0 0) (.slice none 0 0)).all (·.oneCell') = true from st_all KR.out.a.oneCell rfl rfl rfl)
    refine lz (wz1 (.agg (stA ⟨⟨((1 + r0 : Nat) : Int), ((6 + r1 : Nat) : Int), ((1 + r2 : Nat) : Int), ((1 + r3 : Nat) : Int), 8, 20⟩, [], [], [], [], fun _ => 0, 0⟩ (cur) (.slice none 0 0) (.slice none 0 0) (.slice none 0 0))) (h1 := by exact kx_all KR.out 2 rfl 40 _ rfl rfl Tryd.underlying40 rfl (size41)) (h := ?_))
    refine kx_row KR.out 1 rfl 40 _ _ (stA ⟨⟨((1 + r0 : Nat) : Int), ((6 + r1 : Nat) : Int), ((1 + r2 : Nat) : Int), ((1 + r3 : Nat) : Int), 8, 20⟩, [], [], [], [], fun _ => 0, 0⟩ (cur) (.slice none 0 0) (.slice none 0 0) (.slice none 0 0)) rfl rfl rfl rfl (size41) (by rfl) (HONE.out) (py (h := ?_))
    intro w6 K6
    refine wpList_nil ?_
    go_wp2_with fail
    refine bodyPost_ret (v := .agg (stA ⟨⟨((1 + r0 : Nat) : Int), ((6 + r1 : Nat) : Int), ((1 + r2 : Nat) : Int), ((1 + r3 : Nat) : Int), 8, 20⟩, [], [], [], [], fun _ => 0, 0⟩ (cur) (.slice none 0 0) (.slice none 0 0) (.slice none 0 0))) (results_cell_row Tryd.results7 _ _ b2 40 (stA ⟨⟨((1 + r0 : Nat) : Int), ((6 + r1 : Nat) : Int), ((1 + r2 : Nat) : Int), ((1 + r3 : Nat) : Int), 8, 20⟩, [], [], [], [], fun _ => 0, 0⟩ (cur) (.slice none 0 0) (.slice none 0 0) (.slice none 0 0)) (0, 0) _ rfl (K6.out.at (i := 1) rfl) Tryd.underlying40 rfl size41) rfl ?_
    have e2 : (madeS x l).po = (l.take k).map madeP := by show (l.take 6).map madeP = _; rw [show k = 6 by have q1 := HK6.out; have q2 := H6.out; omega]
    exact ⟨cur, by rw [show madeS x l = ⟨madeCf x, (l.take 6).map madeP, [], [], [], fun _ => 0, 0⟩ from rfl, HCF.out]; rfl, by rw [e2]; exact K6.out.a, K6.out.below⟩
   case pos =>
    have H6 := Lib.hid h6
    clear h6
    obtain ⟨y, hy⟩ : ∃ y, l[k]? = some y := ⟨_, List.getElem?_eq_getElem (show k < l.length by have q := HL.out; have q2 := HLT.out; omega)⟩
    obtain ⟨g, off, ha, hg⟩ := rows_range HR.out hy
    subst ha
    have HY := Lib.hid hy
    have HG := Lib.hid hg
    have HYO := Lib.hid (show (y.c : Int) < 256 ∧ (y.p : Int) < 256 by have q := HOK.out y (List.mem_of_getElem? hy); obtain ⟨q1, q2⟩ := q; omega)
    obtain ⟨c0, hc0, lc0⟩ : ∃ r : Nat, r = y.c % 4 ∧ r < 4 := ⟨_, rfl, Nat.mod_lt _ (by decide)⟩
    obtain ⟨p0, hp0, lp0⟩ : ∃ r : Nat, r = y.p % 3 ∧ r < 3 := ⟨_, rfl, Nat.mod_lt _ (by decide)⟩
    have HC0 := Lib.hid (show (y.c : Int) % 4 = (c0 : Int) ∧ (c0 : Int) < 4 by omega)
    have HP0 := Lib.hid (show (y.p : Int) % 3 = (p0 : Int) ∧ (p0 : Int) < 3 by omega)
    have HMP := Lib.hid (show madeP y = ⟨1, 0, false, ((1 + c0 : Nat) : Int), (p0 : Int), y.e, y.ad, y.up, false, false, 0, 0, 0, 0, 0, 0, 0, 0, 0, 0, 0⟩ by unfold madeP; rw [hc0, hp0])
    clear hy hg hc0 lc0 hp0 lp0
    go_upto_region 3 with fail
    refine lz (wz6 (iV (k : Nat)) (pT b1 4) (.slice (some ⟨g, off, none⟩) n m) (iV (n : Nat)) (.bool true) (.bool true) (h3 := by have q : wr.cell? ⟨b1, 4, none⟩ = some (.slice (some ⟨g, off, none⟩) n m) := KR.out.cell (i := 0) rfl (by rfl); go_simp) (h5 := by have q := HLT.out; go_simp) (h := wz3 (iV (k : Nat)) (.bool true) (.bool true) (h2 := by have q := H6.out; go_simp; omega) (h3 := by exact run_pick_yes (.tmp 36) (.tmp 38) (.const (.bool false)) _ rfl rfl rfl) (h := nz ?_)))
    go_upto_region 5 with fail
    refine lz (wz5 (pT b1 4) (.slice (some ⟨g, off, none⟩) n m) (iV (k : Nat)) (pT g (off + k * 5)) (.agg (pgA y)) (h2 := by have q : wr.cell? ⟨b1, 4, none⟩ = some (.slice (some ⟨g, off, none⟩) n m) := KR.out.cell (i := 0) rfl (by rfl); go_simp) (h4 := by have q1 : k < n := HLT.out; have q2 : n ≤ m := HNM.out.1; go_simp) (h5 := by exact run_loadRange 84 _ rfl g (off + k * 5) rfl (pgA y) _ (HG.out _ KR.out.below) Tryd.underlying84 rfl sizePg) (h := ?_))
    refine kx_alloc KR.out 84 (nilPg) rfl zPg (by rfl) (pz (h := ?_))
    intro b6 w6 K6
    refine kx_row K6.out 3 rfl 84 _ _ (pgA y) rfl rfl rfl rfl (sizePg) (by rfl) (by kernel_rfl) (py (h := ?_))
    intro w7 K7
    refine wpList_nil ?_
    go_upto_region 6 with fail
    refine lz (wz6 (pT b3 6) (cur) (.agg (#[.int .u16 1, iV 0, .bool false])) (pT b6 0) (.int .u8 (y.c : Nat)) (.int .u8 (c0 : Nat)) (h2 := by have q : w7.cell? ⟨b3, 6, none⟩ = some (cur) := K7.out.cell (i := 2) rfl (by rfl); go_simp) (h3 := by exact run_build_of 69 [(0, .const (.int .u16 1))] rfl _ (#[.int .u16 1, iV 0, .bool false]) rfl (by kernel_rfl)) (h5 := by have q : w7.cell? ⟨b6, 0, none⟩ = some (.int .u8 (y.c : Nat)) := K7.out.cell (i := 3) rfl (by rfl); go_simp) (h6 := by have q0 := HC0.out.1; have q1 := HYO.out.1; have q2 := HC0.out.2; go_simp; first | exact wrS (by omega) (by omega) | exact tmN q0) (h := wz6 (.int .u32 (c0 : Nat)) (.int .u32 ((1 + c0 : Nat) : Int)) (pT b6 1) (.int .u8 (y.p : Nat)) (.int .u8 (p0 : Nat)) (iV (p0 : Nat)) (h1 := by have q2 := HC0.out.2; go_simp; first | exact wrS (by omega) (by omega) | exact tmN q0) (h2 := by have q2 := HC0.out.2; go_simp; first | exact wrS (by omega) (by omega) | exact tmN q0) (h4 := by have q : w7.cell? ⟨b6, 1, none⟩ = some (.int .u8 (y.p : Nat)) := K7.out.cell (i := 3) rfl (by rfl); go_simp) (h5 := by have q0 := HP0.out.1; have q1 := HYO.out.2; have q2 := HP0.out.2; go_simp; first | exact wrS (by omega) (by omega) | exact tmN q0) (h6 := by have q2 := HP0.out.2; go_simp; first | exact wrS (by omega) (by omega) | exact tmN q0) (h := wz6 (pT b6 2) (.bool y.e) (pT b6 3) (.bool y.ad) (pT b6 4) (.bool y.up) (h2 := by have q : w7.cell? ⟨b6, 2, none⟩ = some (.bool y.e) := K7.out.cell (i := 3) rfl (by rfl); go_simp) (h4 := by have q : w7.cell? ⟨b6, 3, none⟩ = some (.bool y.ad) := K7.out.cell (i := 3) rfl (by rfl); go_simp) (h6 := by have q : w7.cell? ⟨b6, 4, none⟩ = some (.bool y.up) := K7.out.cell (i := 3) rfl (by rfl); go_simp) (h := wz1 (.agg (poA ⟨1, 0, false, ((1 + c0 : Nat) : Int), (p0 : Int), y.e, y.ad, y.up, false, false, 0, 0, 0, 0, 0, 0, 0, 0, 0, 0, 0⟩)) (h1 := by exact run_build_of 73 [(0, .tmp 49), (1, .tmp 54), (2, .tmp 58), (3, .tmp 60), (4, .tmp 62), (5, .tmp 64)] rfl _ (poA ⟨1, 0, false, ((1 + c0 : Nat) : Int), (p0 : Int), y.e, y.ad, y.up, false, false, 0, 0, 0, 0, 0, 0, 0, 0, 0, 0, 0⟩) rfl (by kernel_rfl)) (h := ?_)))))
    have AW1 := Lib.hid (ApW.made poT (ApW.start0 (x := (⟨1, 0, false, ((1 + c0 : Nat) : Int), (p0 : Int), y.e, y.ad, y.up, false, false, 0, 0, 0, 0, 0, 0, 0, 0, 0, 0, 0⟩ : Po)) (vS := undef) (vR := undef) (show Own w7 w.heap.size 73 21 poC cur ((l.take k).map madeP) from K7.out.a) (by have q := K7.out.below.size; exact q)) rfl (poA ⟨1, 0, false, ((1 + c0 : Nat) : Int), (p0 : Int), y.e, y.ad, y.up, false, false, 0, 0, 0, 0, 0, 0, 0, 0, 0, 0, 0⟩) rfl)
    refine wpList_made (.slice (some ⟨w7.heap.size, 0, none⟩) 1 1) (by rfl) (run_bs1 32 (.tmp 65) rfl (poV ⟨1, 0, false, ((1 + c0 : Nat) : Int), (p0 : Int), y.e, y.ad, y.up, false, false, 0, 0, 0, 0, 0, 0, 0, 0, 0, 0, 0⟩) _ rfl (one_po ⟨1, 0, false, ((1 + c0 : Nat) : Int), (p0 : Int), y.e, y.ad, y.up, false, false, 0, 0, 0, 0, 0, 0, 0, 0, 0, 0, 0⟩ w7)) ?_
    (try simp only [Act.put, gA, gS, gZ, sA, sZ, sS])
    obtain ⟨vR, wA, hrun, hA⟩ := AW1.out.app poT rfl rfl (by rw [List.length_map, List.length_take]; have q := HK6.out; omega) 32
    refine wpList_append_lst rfl _ _ 32 rfl _ wA hrun ?_
    (try simp only [Act.put, gA, gS, gZ, sA, sZ, sS])
    have KA := Lib.hid (show Kx w [(b1, sgA x (.slice (some ⟨g, off, none⟩) n m), 25), (b2, nil25, 40), (b3, stA ⟨⟨((1 + r0 : Nat) : Int), ((6 + r1 : Nat) : Int), ((1 + r2 : Nat) : Int), ((1 + r3 : Nat) : Int), 8, 20⟩, [], [], [], [], fun _ => 0, 0⟩ (cur) (.slice none 0 0) (.slice none 0 0) (.slice none 0 0), 40), (b6, pgA y, 84)] (bdO w.heap.size 73 21 poC vR ((l.take (k + 1)).map madeP)) wA from by have e : (l.take (k + 1)).map madeP = (l.take k).map madeP ++ [(⟨1, 0, false, ((1 + c0 : Nat) : Int), (p0 : Int), y.e, y.ad, y.up, false, false, 0, 0, 0, 0, 0, 0, 0, 0, 0, 0, 0⟩ : Po)] := (by rw [← HMP.out]; exact (tk_step madeP HY.out).symm); rw [e]; exact K7.out.app hA)
    have HVR := Lib.hid (show ∃ x1 x2 x3, vR = .slice x1 x2 x3 by obtain ⟨x1, x2, e, -, -⟩ := (hA.pr rfl).shape; exact ⟨x1, _, x2, e⟩)
    clear hrun hA
    refine wz1 (pT b3 6) (h := ?_)
    refine kx_set KA.out 2 rfl 32 _ _ 6 vR rfl (by rfl) rfl rfl (kx_run_set KA.out (i := 2) rfl 32 6 (cur) vR (by rfl) (fun W h1 h2 => by obtain ⟨x1, x2, e1⟩ := HCU.out; obtain ⟨x3, x5, x4, e2⟩ := HVR.out; rw [e1] at h1; rw [e2]; go_simp)) (stA ⟨⟨((1 + r0 : Nat) : Int), ((6 + r1 : Nat) : Int), ((1 + r2 : Nat) : Int), ((1 + r3 : Nat) : Int), 8, 20⟩, [], [], [], [], fun _ => 0, 0⟩ (vR) (.slice none 0 0) (.slice none 0 0) (.slice none 0 0)) (by kernel_rfl) ?_
    intro w9 hk9
    have K9 := Lib.hid (show Kx w [(b1, sgA x (.slice (some ⟨g, off, none⟩) n m), 25), (b2, nil25, 40), (b3, stA ⟨⟨((1 + r0 : Nat) : Int), ((6 + r1 : Nat) : Int), ((1 + r2 : Nat) : Int), ((1 + r3 : Nat) : Int), 8, 20⟩, [], [], [], [], fun _ => 0, 0⟩ (vR) (.slice none 0 0) (.slice none 0 0) (.slice none 0 0), 40)] (bdO w.heap.size 73 21 poC (vR) ((l.take (k + 1)).map madeP)) w9 from Kx.left (r := [(b6, pgA y, 84)]) hk9)
    clear hk9
    (try simp only [Act.put, gA, gS, gZ, sA, sZ, sS])
    refine wpList_nil ?_
    have hlt := HLT.out
    go_wp2_with fail
    go_roundw
    case rel => exact ⟨k + 1, vR, HLT.out, H6.out, by go_num, K9.out⟩
    case measure => have := HLT.out; simp [intOf]; omega
end
section
open Go.RowKit
attribute [local irreducible] wpQuiet wpList
def sp0 : St := (madeS ⟨3, 0, 0, 0⟩ [⟨0, 0, false, true, true⟩, ⟨0, 0, false, true, false⟩])
theorem beg_get (s : St) (k : Nat) : (mapTo (begF s.cf.p3) ((⟨s, [], []⟩ : TS).setBeat 0) s.po.length).s.po[k]? = (s.po[k]?).map (begF s.cf.p3 k) := by
 have q := mapTo_get (begF s.cf.p3) ((⟨s, [], []⟩ : TS).setBeat 0) k s.po.length
 rw [q]
 by_cases h : k < s.po.length
 ·
  rw [if_pos h]; rfl
 ·
  rw [if_neg h]
  have e : s.po[k]? = none := List.getElem?_eq_none (by omega)
  show s.po[k]? = _
  rw [e]; rfl
theorem beg_ok {s : St} (h : ∀ (k : Nat) (x : Po), s.po[k]? = some x → okP x) (k : Nat) (x : Po) (hx : (mapTo (begF s.cf.p3) ((⟨s, [], []⟩ : TS).setBeat 0) s.po.length).s.po[k]? = some x) : okP x := by
 rw [beg_get] at hx
 cases c : s.po[k]? with
 | none => rw [c] at hx; cases hx
 | some y =>
  rw [c] at hx
  have hx : some (begF s.cf.p3 k y) = some x := hx
  injection hx with hx
  rw [← hx]
  exact okP_switch (okP_switch (h k y c))
theorem made_ok (x : Sg) (l : List Pg) (k : Nat) (y : Po) (h : (madeS x l).po[k]? = some y) : okP y := by
 have h : ((l.take 6).map madeP)[k]? = some y := h
 rw [List.getElem?_map] at h
 cases c : (l.take 6)[k]? with
 | none => rw [c] at h; cases h
 | some z =>
  rw [c] at h
  have h : some (madeP z) = some y := h
  injection h with h
  rw [← h]
  refine ⟨⟨Int.le_refl _, by show (0 : Int) < _; decide⟩, ⟨Int.le_refl _, by show (0 : Int) < _; decide⟩, ⟨Int.le_refl _, by show (0 : Int) < _; decide⟩, ⟨Int.le_refl _, by show (0 : Int) < _; decide⟩, ?_⟩
  show 0 ≤ ((1 + z.c % 4 : Nat) : Int) ∧ ((1 + z.c % 4 : Nat) : Int) < _
  omega
theorem made_few (x : Sg) (l : List Pg) : (madeS x l).po.length ≤ 6 := by
 show ((l.take 6).map madeP).length ≤ 6
 rw [List.length_map, List.length_take]
 omega
theorem made_id (x : Sg) (l : List Pg) : 0 ≤ (madeS x l).cf.p0 ∧ (madeS x l).cf.p0 < 18446744073709551616 := by
 show 0 ≤ ((1 + x.id % 8 : Nat) : Int) ∧ ((1 + x.id % 8 : Nat) : Int) < _
 omega
theorem made_ows {w : World} {B : Nat} {u : Value} {x : Sg} {l : List Pg} (h : Own w B 73 21 poC u (madeS x l).po) : OwS w B (madeS x l) u (.slice none 0 0) (.slice none 0 0) (.slice none 0 0) :=
 ⟨h, Own.nil _ _ _ _ _, Own.nil _ _ _ _ _, Own.nil _ _ _ _ _, ⟨by have := made_few x l; omega, Nat.zero_le _, Nat.zero_le _, Nat.zero_le _⟩⟩
set_option maxRecDepth 100000 in
theorem sp_facts : (startM sp0).s.po.length = 2 ∧ ((startM sp0).told.map (fun d => (d.p0, d.p9, d.p3))) = [(1, 4, true)] ∧ ((startM sp0).s.po.map (·.p10)) = [4, 0] ∧ openU 0 (startM sp0).s.po 2 = 1 := by decide
end
section
open Go.RowKit
attribute [local irreducible] wpQuiet wpList
theorem two_pg (x y : Pg) : ∀ W : World, (Instr.buildSlice 23 2 #[(0, .agg (pgA x)), (1, .agg (pgA y))]).run Tryd.prog W = .ok (.slice (some ⟨W.heap.size, 0, none⟩) 2 2) (W.alloc (.cells (pgC x ++ pgC y).toArray 84)) := fun W => by
 unfold pgC pgA
 have u := Tryd.underlying23
 go_simp
theorem bdS_new {W : World} {B : Nat} {s : St} {v1 v2 v3 v4 : Value} (h : OwS W B s v1 v2 v3 v4) (k : Nat) (hk : (bdS B s v1 v2 v3 v4).f k) : B ≤ k := by
 rcases hk with q | q | q | q
 ·
  exact (h.o1.lt _ q).1
 ·
  exact (h.o2.lt _ q).1
 ·
  exact (h.o3.lt _ q).1
 ·
  exact (h.o4.lt _ q).1
theorem two_rows {W : World} {b : Nat} {x y : Pg} (h : Blk W b (pgC x ++ pgC y).toArray 84) : RowsAt W (some ⟨b, 0, none⟩) 5 pgC [x, y] := by
 refine .inr ⟨b, 0, rfl, h.lt, fun i z hz j u hu => ?_⟩
 rw [h.cell]
 have hj : j < 5 := (List.getElem?_eq_some_iff.1 hu).1
 match i, hz with
 | 0, hz =>
  injection hz with hz
  subst hz
  rw [List.getElem?_toArray, show 0 + (0 * 5 + j) = j by omega, List.getElem?_append_left (by show j < 5; exact hj)]
  exact hu
 | 1, hz =>
  injection hz with hz
  subst hz
  rw [List.getElem?_toArray, show 0 + (1 * 5 + j) = 5 + j by omega, List.getElem?_append_right (by show 5 ≤ 5 + j; omega)]
  rw [show 5 + j - (pgC x).length = j by show 5 + j - 5 = j; omega]
  exact hu
 | i + 2, hz => cases hz
theorem Own.cellAt {α : Type} {enc : α → List Value} {size B : Nat} {w : World} {e : TypeId} {l : List α} {g n m : Nat} (henc : ∀ x, (enc x).length = size) (h : Own w B e size enc (.slice (some ⟨g, 0, none⟩) n m) l) {i j o : Nat} {x : α} {u : Value} (hx : l[i]? = some x) (hu : (enc x)[j]? = some u) (ho : o = i * size + j) : w.cell? ⟨g, o, none⟩ = some u := by
 have hn : n = l.length := by
  rcases h.cases with ⟨e, -⟩ | ⟨g2, c2, e, -⟩
  ·
   cases e
  ·
   injection e with _ e _
 subst hn
 have hj : j < size := by rw [← henc x]; exact (List.getElem?_eq_some_iff.1 hu).1
 rw [ho, Own.at henc h i j x hx hj, hu]
theorem sp_gen (po : List Po) (td : List Td) (h1 : po.length = 2) (h2 : (td.map (fun d => (d.p0, d.p9, d.p3))) = [(1, 4, true)]) (h3 : (po.map (·.p10)) = [4, 0]) : ∃ x0 x1 d, po = [x0, x1] ∧ td = [d] ∧ x0.p10 = 4 ∧ x1.p10 = 0 ∧ d.p0 = 1 ∧ d.p9 = 4 ∧ d.p3 = true := by
 rcases po with _ | ⟨x0, _ | ⟨x1, _ | ⟨x2, po⟩⟩⟩
 ·
  cases h1
 ·
  cases h1
 ·
  rcases td with _ | ⟨d, _ | ⟨d2, td⟩⟩
  ·
   cases h2
  ·
   have e : [(d.p0, d.p9, d.p3)] = [((1 : Int), (4 : Int), true)] := h2
   have e3 : [x0.p10, x1.p10] = [(4 : Int), 0] := h3
   injection e with e _
   injection e with e1 e
   injection e with e2 e4
   injection e3 with a1 e3
   injection e3 with a2 _
   exact ⟨x0, x1, d, rfl, rfl, a1, a2, e1, e2, e4⟩
  ·
   have e := congrArg List.length h2
   rw [List.length_map] at e
   have e : td.length + 1 + 1 = 1 := e
   omega
 ·
  have e : po.length + 1 + 1 + 1 = 2 := h1
  omega
theorem sp_some : ∃ x0 x1 d, (startM sp0).s.po = [x0, x1] ∧ (startM sp0).told = [d] ∧ x0.p10 = 4 ∧ x1.p10 = 0 ∧ d.p0 = 1 ∧ d.p9 = 4 ∧ d.p3 = true := sp_gen _ _ sp_facts.1 sp_facts.2.1 sp_facts.2.2.1
theorem run_bs2 {P : Program} {o : Oper} {a : Act} {w w' : World} (t : TypeId) (x y : Operand) (ho : o.op = .buildSlice t 2 #[(0, x), (1, y)]) (v u s : Value) (hv : a.eval x = v) (hu : a.eval y = u) (h : (Instr.buildSlice t 2 #[(0, v), (1, u)]).run P w = .ok s w') : (execOp a.eval o).run P w = .ok (.value s) w' := by
 subst hv hu
 unfold execOp
 simp only [ho, List.map_toArray, List.map_cons, List.map_nil, Sem.run_bind, h, Result.andThen_ok, Sem.run_pure]
set_option maxRecDepth 100000 in
set_option maxHeartbeats 8000000 in
theorem speaks_any (w : World) (hr : RolesAt w) : Calls Tryd.prog 6 #[] w fun e w' => e = .returned (.bool true) ∧ Below w.heap.size w w' := by
 have HR := Lib.hid hr
 have K := Lib.hid (Kx.start (Kb.nil w))
 clear hr
 go_enter Tryd.func6, Tryd.ntmps6
 go_upto_region 0 with fail
 refine lz (wz1 (.bool false) (h := nz ?_))
 go_upto_region 1 with fail
 refine lz (wz2 (.agg (pgA ⟨0, 0, false, true, true⟩)) (.agg (pgA ⟨0, 0, false, true, false⟩)) (h1 := by exact run_build_of 84 [(3, .const (.bool true)), (4, .const (.bool true))] rfl _ (pgA ⟨0, 0, false, true, true⟩) rfl (by kernel_rfl)) (h2 := by exact run_build_of 84 [(3, .const (.bool true))] rfl _ (pgA ⟨0, 0, false, true, false⟩) rfl (by kernel_rfl)) (h := ?_))
 refine wpList_made (.slice (some ⟨w.heap.size, 0, none⟩) 2 2) (by rfl) (run_bs2 23 (.tmp 3) (.tmp 4) rfl (.agg (pgA ⟨0, 0, false, true, true⟩)) (.agg (pgA ⟨0, 0, false, true, false⟩)) _ rfl rfl (two_pg ⟨0, 0, false, true, true⟩ ⟨0, 0, false, true, false⟩ w)) ?_
 (try simp only [Act.put, gA, gS, gZ, sA, sZ, sS])
 obtain ⟨wp, hwp⟩ : ∃ z, z = w.alloc (.cells (pgC ⟨0, 0, false, true, true⟩ ++ pgC ⟨0, 0, false, true, false⟩).toArray 84) := ⟨_, rfl⟩
 obtain ⟨bp, hbp⟩ : ∃ z, z = w.heap.size := ⟨_, rfl⟩
 have K1 := Lib.hid (show Kx w [(bp, (pgC ⟨0, 0, false, true, true⟩ ++ pgC ⟨0, 0, false, true, false⟩).toArray, 84)] Bd.nil wp from by rw [hwp, hbp]; exact K.out.alloc _ _)
 rw [← hwp, ← hbp]
 clear hwp hbp
 refine wz1 (.agg (sgA ⟨3, 0, 0, 0⟩ (.slice (some ⟨bp, 0, none⟩) 2 2))) (h1 := by exact run_build_of 25 [(0, .const (.int .u8 3)), (2, .tmp 5)] rfl _ (sgA ⟨3, 0, 0, 0⟩ (.slice (some ⟨bp, 0, none⟩) 2 2)) rfl (by kernel_rfl)) (h := ?_)
 refine wpList_callx4 7 #[.agg (sgA ⟨3, 0, 0, 0⟩ (.slice (some ⟨bp, 0, none⟩) 2 2))] (fun v w5 => ∃ u, v = stV sp0 u (.slice none 0 0) (.slice none 0 0) (.slice none 0 0) ∧ Own w5 wp.heap.size 73 21 poC u sp0.po ∧ Below wp.heap.size wp w5) (by rfl) (by go_simp) ((made_any ⟨3, 0, 0, 0⟩ [⟨0, 0, false, true, true⟩, ⟨0, 0, false, true, false⟩] 2 2 (some ⟨bp, 0, none⟩) wp rfl ⟨Nat.le_refl _, by decide⟩ (two_rows (K1.out.at (i := 0) rfl)) ⟨by decide, by decide, by decide, by decide⟩ (fun y hy => by simp at hy; rcases hy with rfl | rfl <;> exact ⟨by decide, by decide⟩)).mono fun e w5 ⟨u, q1, q2, q3⟩ => ⟨_, q1, u, rfl, q2, q3⟩) ?_
 rintro v w5 ⟨u, rfl, hO, hB⟩
 (try simp only [Act.put, gA, gS, gZ, sA, sZ, sS])
 have HU := Lib.hid (made_ows (x := ⟨3, 0, 0, 0⟩) hO)
 have K2 := Lib.hid (show Kx w [(bp, (pgC ⟨0, 0, false, true, true⟩ ++ pgC ⟨0, 0, false, true, false⟩).toArray, 84)] (bdS wp.heap.size sp0 u (.slice none 0 0) (.slice none 0 0) (.slice none 0 0)) w5 from K1.out.renew hB (made_ows (x := ⟨3, 0, 0, 0⟩) hO) (fun k hk => bdS_new (made_ows (x := ⟨3, 0, 0, 0⟩) hO) k hk))
 clear hO hB
 have HS1 := Lib.hid (show (stA sp0 u (.slice none 0 0) (.slice none 0 0) (.slice none 0 0)).all (·.oneCell') = true from st_one HU.out)
 refine kx_alloc K2.out 40 (nil25) rfl z41 (by rfl) (pz (h := ?_))
 intro b6 w6 K6
 refine kx_row K6.out 1 rfl 40 _ _ (stA sp0 u (.slice none 0 0) (.slice none 0 0) (.slice none 0 0)) rfl rfl rfl rfl size41 rfl HS1.out (py (h := ?_))
 intro w7 K7
 refine wpList_nil ?_
 go_upto_region 2 with fail
 refine lz (wz1 (.agg (stA sp0 u (.slice none 0 0) (.slice none 0 0) (.slice none 0 0))) (h1 := by exact kx_all K7.out 1 rfl 40 _ rfl rfl Tryd.underlying40 rfl (size41)) (h := ?_))
 obtain ⟨x0, x1, d, HF⟩ := sp_some
 have HFF := Lib.hid HF
 have HOP := Lib.hid sp_facts.2.2.2
 clear HF
 obtain ⟨t, ht⟩ : ∃ z, z = startM sp0 := ⟨_, rfl⟩
 have HST := Lib.hid (start_any (w := w7) (s := sp0) K7.out.a (HR.out.fr (F := fun _ => False) (Mv.of_below K7.out.below) (fun e => e)) (by decide) (made_id _ _) (beg_ok (made_ok _ _)))
 rw [← ht] at HST HFF HOP
 clear ht
 refine wpList_callx4 9 #[.agg (stA sp0 u (.slice none 0 0) (.slice none 0 0) (.slice none 0 0))] (fun v w9 => ∃ u1 u2 u3 u4 tv fv, v = .tuple #[stV t.s u1 u2 u3 u4, .agg #[tv, fv]] ∧ Left w7 t u1 u2 u3 u4 tv fv w9) (by rfl) (by go_simp) (HST.out.mono fun e w9 ⟨u1, u2, u3, u4, tv, fv, q1, q2⟩ => ⟨_, q1, u1, u2, u3, u4, tv, fv, rfl, q2⟩) ?_
 rintro v w9 ⟨u1, u2, u3, u4, tv, fv, rfl, hL⟩
 (try simp only [Act.put, gA, gS, gZ, sA, sZ, sS])
 have HLL := Lib.hid hL
 have K9 := Lib.hid (show Kx w [(bp, (pgC ⟨0, 0, false, true, true⟩ ++ pgC ⟨0, 0, false, true, false⟩).toArray, 84), (b6, stA sp0 u (.slice none 0 0) (.slice none 0 0) (.slice none 0 0), 40)] ((bdS w7.heap.size t.s u1 u2 u3 u4).and (bdO w7.heap.size 89 17 tdC tv t.told)) w9 from K7.out.renew hL.below ⟨hL.own, hL.told⟩ (fun k hk => hk.elim (fun q => bdS_new hL.own k q) (fun q => (hL.told.lt _ q).1)))
 clear hL HST
 have HS9 := Lib.hid (show (stA t.s u1 u2 u3 u4).all (·.oneCell') = true from st_one HLL.out.own)
 have HS8 := Lib.hid (show (#[tv, fv] : Array Value).all (·.oneCell') = true by simp [HLL.out.told.oneCell, HLL.out.fl.oneCell])
 refine wz3 (.tuple #[.agg (stA t.s u1 u2 u3 u4), .agg #[tv, fv]]) (.agg (stA t.s u1 u2 u3 u4)) (.agg (#[tv, fv])) (h := ?_)
 refine kx_alloc K9.out 49 (nilM) rfl zO (by rfl) (pz (h := ?_))
 intro b10 w10 K10
 refine kx_row K10.out 1 rfl 40 _ _ (stA t.s u1 u2 u3 u4) rfl rfl rfl rfl (size41) (by rfl) (HS9.out) (py (h := ?_))
 intro w11 K11
 refine kx_row K11.out 2 rfl 49 _ _ (#[tv, fv]) rfl rfl rfl rfl (sizeO) (by rfl) (HS8.out) (py (h := ?_))
 intro w12 K12
 refine wpList_nil ?_
 go_upto_region 3 with fail
 obtain ⟨at1, mt1, et, -, -⟩ := K12.out.a.2.shape
 obtain ⟨ap1, mp1, ep, -, -⟩ := K12.out.a.1.o1.shape
 obtain ⟨gt, hgt, -, -, -⟩ := Own.elem (enc := tdC) (size := 17) (l := t.told) (x := d) (k := 0) (fun _ => rfl) (show Own w12 w7.heap.size 89 17 tdC (.slice at1 t.told.length mt1) t.told from et ▸ K12.out.a.2) (by rw [HFF.out.2.1]; rfl)
 obtain ⟨gp, hgp, -, -, -⟩ := Own.elem (l := t.s.po) (x := x0) (k := 0) po_len (show Own w12 w7.heap.size 73 21 poC (.slice ap1 t.s.po.length mp1) t.s.po from ep ▸ K12.out.a.1.o1) (by rw [HFF.out.1]; rfl)
 subst hgt hgp
 have hl1 : t.told.length = 1 := by rw [HFF.out.2.1]; rfl
 have hl2 : t.s.po.length = 2 := by rw [HFF.out.1]; rfl
 rw [hl1] at et
 rw [hl2] at ep
 subst et ep
 have HT := Lib.hid (show ∀ W, Kx w [(bp, (pgC ⟨0, 0, false, true, true⟩ ++ pgC ⟨0, 0, false, true, false⟩).toArray, 84), (b6, stA t.s (.slice (some ⟨gp, 0, none⟩) 2 mp1) u2 u3 u4, 40), (b10, #[(.slice (some ⟨gt, 0, none⟩) 1 mt1), fv], 49)] ((bdS w7.heap.size t.s (.slice (some ⟨gp, 0, none⟩) 2 mp1) u2 u3 u4).and (bdO w7.heap.size 89 17 tdC (.slice (some ⟨gt, 0, none⟩) 1 mt1) t.told)) W → W.cell? ⟨gt, 0, none⟩ = some (.int .i64 1) ∧ W.cell? ⟨gt, 9, none⟩ = some (.int .u64 4) ∧ W.cell? ⟨gt, 3, none⟩ = some (.bool true) ∧ W.cell? ⟨gp, 10, none⟩ = some (.int .i64 4) ∧ W.cell? ⟨gp, 31, none⟩ = some (.int .i64 0) from fun W hW => by
  obtain ⟨f1, f2, f3, f4, f5, f6, f7⟩ := HFF.out
  have e0 : t.told[0]? = some d := by rw [f2]; rfl
  have e1 : t.s.po[0]? = some x0 := by rw [f1]; rfl
  have e2 : t.s.po[1]? = some x1 := by rw [f1]; rfl
  refine ⟨Own.cellAt (enc := tdC) (size := 17) (fun _ => rfl) hW.a.2 e0 (j := 0) ?_ rfl, Own.cellAt (enc := tdC) (size := 17) (fun _ => rfl) hW.a.2 e0 (j := 9) ?_ rfl, Own.cellAt (enc := tdC) (size := 17) (fun _ => rfl) hW.a.2 e0 (j := 3) ?_ rfl, Own.cellAt po_len hW.a.1.o1 e1 (j := 10) ?_ rfl, Own.cellAt po_len hW.a.1.o1 e2 (j := 10) ?_ rfl⟩
  rw [← f5]; rfl
  rw [← f6]; rfl
  rw [← f7]; rfl
  rw [← f3]; rfl
  rw [← f4]; rfl)
 have HOW := Lib.hid (show ∀ W, Kx w [(bp, (pgC ⟨0, 0, false, true, true⟩ ++ pgC ⟨0, 0, false, true, false⟩).toArray, 84), (b6, stA t.s (.slice (some ⟨gp, 0, none⟩) 2 mp1) u2 u3 u4, 40), (b10, #[(.slice (some ⟨gt, 0, none⟩) 1 mt1), fv], 49)] ((bdS w7.heap.size t.s (.slice (some ⟨gp, 0, none⟩) 2 mp1) u2 u3 u4).and (bdO w7.heap.size 89 17 tdC (.slice (some ⟨gt, 0, none⟩) 1 mt1) t.told)) W → OwS W w7.heap.size t.s (.slice (some ⟨gp, 0, none⟩) 2 mp1) u2 u3 u4 from fun W hW => hW.a.1)
 clear hl1 hl2
 refine lz (wz6 (pT b10 0) (.slice (some ⟨gt, 0, none⟩) 1 mt1) (iV 1) (.bool true) (.bool true) (pT b10 0) (h2 := by have q : w12.cell? ⟨b10, 0, none⟩ = some (.slice (some ⟨gt, 0, none⟩) 1 mt1) := (K12.out.at (i := 2) rfl).cell 0; go_simp) (h := wz6 (.slice (some ⟨gt, 0, none⟩) 1 mt1) (pT gt 0) (pT gt 0) (iV 1) (.bool true) (.bool true) (h1 := by have q : w12.cell? ⟨b10, 0, none⟩ = some (.slice (some ⟨gt, 0, none⟩) 1 mt1) := (K12.out.at (i := 2) rfl).cell 0; go_simp) (h4 := by have q := (HT.out _ K12.out).1; go_simp) (h6 := by exact run_pick_yes (.tmp 17) (.tmp 23) (.const (.bool false)) _ rfl rfl rfl) (h := wz6 (.bool true) (pT b10 0) (.slice (some ⟨gt, 0, none⟩) 1 mt1) (pT gt 0) (pT gt 1) (pT gt 9) (h3 := by have q : w12.cell? ⟨b10, 0, none⟩ = some (.slice (some ⟨gt, 0, none⟩) 1 mt1) := (K12.out.at (i := 2) rfl).cell 0; go_simp) (h := wz6 (.int .u64 4) (.bool true) (.bool true) (.bool true) (pT b10 0) (.slice (some ⟨gt, 0, none⟩) 1 mt1) (h1 := by have q := (HT.out _ K12.out).2.1; go_simp) (h3 := by exact run_pick_yes (.tmp 25) (.tmp 32) (.const (.bool false)) _ rfl rfl rfl) (h6 := by have q : w12.cell? ⟨b10, 0, none⟩ = some (.slice (some ⟨gt, 0, none⟩) 1 mt1) := (K12.out.at (i := 2) rfl).cell 0; go_simp) (h := wz6 (pT gt 0) (pT gt 1) (pT gt 3) (.bool true) (.bool true) (.bool true) (h4 := by have q := (HT.out _ K12.out).2.2.1; go_simp) (h5 := by exact run_pick_yes (.tmp 34) (.tmp 40) (.const (.bool false)) _ rfl rfl rfl) (h := wz6 (pT b6 6) (.slice (some ⟨gp, 0, none⟩) 2 mp1) (iV 2) (.bool true) (.bool true) (.bool true) (h2 := by have q : w12.cell? ⟨b6, 6, none⟩ = some (.slice (some ⟨gp, 0, none⟩) 2 mp1) := (K12.out.at (i := 1) rfl).cell 6; go_simp) (h5 := by exact run_pick_yes (.tmp 42) (.tmp 46) (.const (.bool false)) _ rfl rfl rfl) (h := wz6 (pT b6 6) (.slice (some ⟨gp, 0, none⟩) 2 mp1) (pT gp 0) (pT gp 10) (iV 4) (.bool true) (h2 := by have q : w12.cell? ⟨b6, 6, none⟩ = some (.slice (some ⟨gp, 0, none⟩) 2 mp1) := (K12.out.at (i := 1) rfl).cell 6; go_simp) (h5 := by have q := (HT.out _ K12.out).2.2.2.1; go_simp) (h := wz6 (.bool true) (.bool true) (pT b6 6) (.slice (some ⟨gp, 0, none⟩) 2 mp1) (pT gp 21) (pT gp 31) (h1 := by exact run_pick_yes (.tmp 48) (.tmp 54) (.const (.bool false)) _ rfl rfl rfl) (h4 := by have q : w12.cell? ⟨b6, 6, none⟩ = some (.slice (some ⟨gp, 0, none⟩) 2 mp1) := (K12.out.at (i := 1) rfl).cell 6; go_simp) (h := wz5 (iV 0) (.bool true) (.bool true) (.bool true) (.agg (stA t.s (.slice (some ⟨gp, 0, none⟩) 2 mp1) u2 u3 u4)) (h1 := by have q := (HT.out _ K12.out).2.2.2.2; go_simp) (h3 := by exact run_pick_yes (.tmp 56) (.tmp 62) (.const (.bool false)) _ rfl rfl rfl) (h5 := by exact kx_all K12.out 1 rfl 40 _ rfl rfl Tryd.underlying40 rfl (size41)) (h := ?_))))))))))
 refine kx_call K12.out 23 #[.agg (stA t.s (.slice (some ⟨gp, 0, none⟩) 2 mp1) u2 u3 u4), .int .i64 0] (.int .u32 ((1 : Nat) : Int)) (by rfl) (by go_simp) (by have q := open_call (w := w12) 0 (HOW.out _ K12.out) (by rw [show t.s.po.length = 2 from by rw [HFF.out.1]; rfl]; decide); rw [show openU 0 t.s.po t.s.po.length = 1 from by rw [show t.s.po.length = 2 from by rw [HFF.out.1]; rfl]; exact HOP.out] at q; exact q) (py (h := ?_))
 intro w13 K13
 refine wz3 (.bool true) (.bool true) (.bool true) (h2 := by exact run_pick_yes (.tmp 64) (.tmp 67) (.const (.bool false)) _ rfl rfl rfl) (h := nz ?_)
 go_wp2_with fail
 (try simp only [Exit.inBlock, Exit.then])
 go_ret
 exact ⟨rfl, K13.out.below⟩
end
section
open Go.RowKit
attribute [local irreducible] wpQuiet wpList
abbrev nil4u : Array Value := #[.int .u8 0, .int .u8 0, .int .u8 0, .int .u8 0]
theorem sizeA4 : (Tryd.prog.info? 54).map (·.size) = some 4 := by kernel_rfl
theorem zA4 : ∀ W : World, (zeroValue 54).run Tryd.prog W = .ok (.agg nil4u) W := fun W => Tryd.zeroValue54 W
def pduQ (y : Ac) : Pd := if y.ki % 4 = 3 then ⟨128, false, false, false, false, false, false, 0, 0, 0, 0, 0, 0, 0, 0, 0⟩
 else if y.ki % 4 = 2 then ⟨0, y.f0, false, false, false, false, false, 0, 0, 0, 0, 0, ((y.age % 14 : Nat) : Int), 0, 0, 0⟩
 else ⟨2, y.f0, y.f1, false, false, y.f2, false, ((y.ro % 4 : Nat) : Int), 0, 0, 0, 0, ((y.age % 14 : Nat) : Int), 0, 0, 0⟩
def pduV (y : Ac) (s : St) (p : Int) : Vc := if y.ki % 4 = 3 then ⟨0, 0, 0, 0⟩
 else if y.own = true ∧ 1 ≤ p ∧ p ≤ (s.po.length : Int) then (match s.po[(p - 1).toNat]? with | some x => vecN x | none => ⟨0, 0, 0, 0⟩)
 else ⟨1 + y.v0 % 8, y.v1 % 5, 1 + y.v2 % 8, y.v3 % 4⟩
theorem pduV_ok {y : Ac} {s : St} {p : Int} (hok : ∀ (k : Nat) (x : Po), s.po[k]? = some x → okP x) : (pduV y s p).ok := by
 unfold pduV
 split
 ·
  exact ⟨by decide, by decide, by decide, by decide⟩
 ·
  split
  ·
   split
   ·
    rename_i x hx
    have h := hok _ x hx
    obtain ⟨⟨a1, a2⟩, ⟨b1, b2⟩, ⟨c1, c2⟩, ⟨d1, d2⟩, -⟩ := h
    refine ⟨?_, ?_, ?_, ?_⟩
    ·
     show x.p13.toNat < _; omega
    ·
     show x.p14.toNat < _; omega
    ·
     show x.p15.toNat < _; omega
    ·
     show x.p16.toNat < _; omega
   ·
    exact ⟨by decide, by decide, by decide, by decide⟩
  ·
   refine ⟨?_, ?_, ?_, ?_⟩
   ·
    show 1 + y.v0 % 8 < _; omega
   ·
    show y.v1 % 5 < _; omega
   ·
    show 1 + y.v2 % 8 < _; omega
   ·
    show y.v3 % 4 < _; omega
theorem po_vec (x : Po) (u : Vc) (c : Nat) (h : c < (vcA u).toList.length) : (poC (poU x u))[13 + c]? = (vcA u).toList[c]? := by
 have h4 : c < 4 := h
 match c, h4 with
 | 0, _ => rfl
 | 1, _ => rfl
 | 2, _ => rfl
 | 3, _ => rfl
end
end Go.Proofs.YteeinlbhcdpnnaaDoor
