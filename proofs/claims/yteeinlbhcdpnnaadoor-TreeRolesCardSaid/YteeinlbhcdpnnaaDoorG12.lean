import Derived.Test.YteeinlbhcdpnnaaDoorG4
import Derived.Test.YteeinlbhcdpnnaaDoorG2
import Derived.Test.YteeinlbhcdpnnaaDoorG11
import Derived.Test.YteeinlbhcdpnnaaDoorG10
set_option linter.unusedSimpArgs false
set_option linter.unusedVariables false
namespace Go.Proofs.YteeinlbhcdpnnaaDoor
section
open Go.RowKit
attribute [local irreducible] wpQuiet wpList
theorem results_rows {P : Program} {fn : Func} {p u : Tmp} {ty ty' : TypeId} (h : fn.results = #[.cell p ty, .cell u ty']) (tmps : Array Value) (w : World) (g g' : Nat) (t t' : TypeId) (cs cs' : Array Value) {d d' : TypeDesc}
 (hp : tmps.getD p undef = .pointer (some ⟨g, 0, none⟩)) (hv : tmps.getD u undef = .pointer (some ⟨g', 0, none⟩)) (hg : Blk w g cs t) (hg' : Blk w g' cs' t')
 (hu : P.underlying ty = some d) (hd : (match d with | .struct _ | .array _ _ => true | _ => false) = true) (hi : (P.info? ty).map (·.size) = some cs.size)
 (hu' : P.underlying ty' = some d') (hd' : (match d' with | .struct _ | .array _ _ => true | _ => false) = true) (hi' : (P.info? ty').map (·.size) = some cs'.size) :
 (results fn tmps).run P w = .ok (.tuple #[.agg cs, .agg cs']) w := by
 have hp' : tmps[p]?.getD undef = .pointer (some ⟨g, 0, none⟩) := by simpa using hp
 have hv' : tmps[u]?.getD undef = .pointer (some ⟨g', 0, none⟩) := by simpa using hv
 simp [results, h, hp', hv', asAddr, run_loadVar_row w g t ty cs (0, 0) d hg hu hd hi, run_loadVar_row w g' t' ty' cs' (0, 0) d' hg' hu' hd' hi']
set_option maxRecDepth 100000 in
set_option maxHeartbeats 8000000 in
theorem way_any (self : Nat) (x : Rp) (k : Int) (hx : x.ok) (w : World) : Calls Tryd.prog 68 #[.agg (rpA x), .int .u64 (self : Nat), .int .i64 k] w fun e w' => e = .returned (.agg (wayA self x k)) ∧ Below w.heap.size w w' := by
 have HX := Lib.hid hx
 clear hx
 obtain ⟨o, ho⟩ : ∃ o, o = x.on := ⟨_, rfl⟩
 obtain ⟨h, hh⟩ : ∃ o, o = x.hd := ⟨_, rfl⟩
 have HO := Lib.hid ho
 have HH := Lib.hid hh
 clear ho hh
 cases o
 case false =>
  have EA : rpA x = #[.bool false, .bool h, .int .u64 (x.v.r : Nat), .int .u32 (x.v.c : Nat), .int .u64 (x.v.b : Nat), .int .u16 (x.v.p : Nat), .int .u32 (x.c : Nat), .int .u16 (x.i : Nat)] := by unfold rpA; rw [← HO.out, ← HH.out]
  have HEA := Lib.hid EA
  have HW : wayA self x k = nilW := by unfold wayA wayB; rw [← HO.out, ← HH.out]; simp
  rw [HW, EA]
  clear HW EA
  have K := Lib.hid (Kb.nil w)
  go_enter Tryd.func68, Tryd.ntmps68
  go_upto_region 0 with fail
  refine wp_region_lit ?_
  refine kb_box K.out 76 (.tmp 0) (#[.bool false, .bool h, .int .u64 (x.v.r : Nat), .int .u32 (x.v.c : Nat), .int .u64 (x.v.b : Nat), .int .u16 (x.v.p : Nat), .int .u32 (x.c : Nat), .int .u16 (x.i : Nat)]) rfl rfl (by rfl) (pz (h := ?_))
  intro b1 w1 K1
  refine kb_alloc K1.out 133 (nilW) rfl z83 (by rfl) (pz (h := ?_))
  intro b2 w2 K2
  refine wpList_nil ?_
  go_upto_region 1 with fail
  refine lz (wz4 (pT b1 0) (.bool false) (.bool true) (.bool true) (h2 := by have q : w2.cell? ⟨b1, 0, none⟩ = some (.bool false) := K2.out.cell (i := 0) rfl (by rfl); go_simp) (h := wk (h := wk (h := wk (h := wz2 (.bool true) (.bool true) (h1 := by exact run_pick_yes (.tmp 10) (.const (.bool true)) (.tmp 13) _ rfl rfl rfl) (h := wk (h := wk (h := wk (h := wk (h := wk (h := wz1 (.bool true) (h1 := by exact run_pick_yes (.tmp 15) (.const (.bool true)) (.tmp 20) _ rfl rfl rfl) (h := nz ?_))))))))))))
  go_upto_region 2 with fail
  refine lz (wz1 (.agg (nilW)) (h1 := by exact run_build_of 133 [] rfl [] nilW rfl (by kernel_rfl)) (h := ?_))
  refine kb_row K2.out 1 rfl 133 _ _ (nilW) rfl rfl rfl rfl (size83) (by rfl) (by kernel_rfl) (py (h := ?_))
  intro w3 K3
  refine wpList_nil ?_
  go_wp2_with fail
  refine bodyPost_ret (v := .agg (nilW)) (results_cell_row Tryd.results68 _ _ b2 133 (nilW) (0, 0) _ rfl (K3.out.at (i := 1) rfl) Tryd.underlying133 rfl size83) rfl ?_
  exact ⟨rfl, K3.out.below⟩
 case true =>
  cases h
  case false =>
   have EA : rpA x = #[.bool true, .bool false, .int .u64 (x.v.r : Nat), .int .u32 (x.v.c : Nat), .int .u64 (x.v.b : Nat), .int .u16 (x.v.p : Nat), .int .u32 (x.c : Nat), .int .u16 (x.i : Nat)] := by unfold rpA; rw [← HO.out, ← HH.out]
   have HEA := Lib.hid EA
   have HW : wayA self x k = nilW := by unfold wayA wayB; rw [← HO.out, ← HH.out]; simp
   rw [HW, EA]
   clear HW EA
   have K := Lib.hid (Kb.nil w)
   go_enter Tryd.func68, Tryd.ntmps68
   go_upto_region 0 with fail
   refine wp_region_lit ?_
   refine kb_box K.out 76 (.tmp 0) (#[.bool true, .bool false, .int .u64 (x.v.r : Nat), .int .u32 (x.v.c : Nat), .int .u64 (x.v.b : Nat), .int .u16 (x.v.p : Nat), .int .u32 (x.c : Nat), .int .u16 (x.i : Nat)]) rfl rfl (by rfl) (pz (h := ?_))
   intro b1 w1 K1
   refine kb_alloc K1.out 133 (nilW) rfl z83 (by rfl) (pz (h := ?_))
   intro b2 w2 K2
   refine wpList_nil ?_
   go_upto_region 1 with fail
   refine lz (wz6 (pT b1 0) (.bool true) (.bool false) (.bool false) (pT b1 1) (.bool false) (h2 := by have q : w2.cell? ⟨b1, 0, none⟩ = some (.bool true) := K2.out.cell (i := 0) rfl (by rfl); go_simp) (h6 := by have q : w2.cell? ⟨b1, 1, none⟩ = some (.bool false) := K2.out.cell (i := 0) rfl (by rfl); go_simp) (h := wz3 (.bool true) (.bool true) (.bool true) (h2 := by exact run_pick_no (.tmp 10) (.const (.bool true)) (.tmp 13) _ rfl rfl rfl) (h := wk (h := wk (h := wk (h := wk (h := wk (h := wz1 (.bool true) (h1 := by exact run_pick_yes (.tmp 15) (.const (.bool true)) (.tmp 20) _ rfl rfl rfl) (h := nz ?_)))))))))
   go_upto_region 2 with fail
   refine lz (wz1 (.agg (nilW)) (h1 := by exact run_build_of 133 [] rfl [] nilW rfl (by kernel_rfl)) (h := ?_))
   refine kb_row K2.out 1 rfl 133 _ _ (nilW) rfl rfl rfl rfl (size83) (by rfl) (by kernel_rfl) (py (h := ?_))
   intro w3 K3
   refine wpList_nil ?_
   go_wp2_with fail
   refine bodyPost_ret (v := .agg (nilW)) (results_cell_row Tryd.results68 _ _ b2 133 (nilW) (0, 0) _ rfl (K3.out.at (i := 1) rfl) Tryd.underlying133 rfl size83) rfl ?_
   exact ⟨rfl, K3.out.below⟩
  case true =>
   by_cases hb : x.v.b = self
   case pos =>
    have hbi : (x.v.b : Int) = (self : Int) := by omega
    have EA : rpA x = #[.bool true, .bool true, .int .u64 (x.v.r : Nat), .int .u32 (x.v.c : Nat), .int .u64 (x.v.b : Nat), .int .u16 (x.v.p : Nat), .int .u32 (x.c : Nat), .int .u16 (x.i : Nat)] := by unfold rpA; rw [← HO.out, ← HH.out]
    have HEA := Lib.hid EA
    have HW : wayA self x k = nilW := by unfold wayA wayB; rw [← HO.out, ← HH.out]; simp [hb]
    rw [HW, EA]
    clear HW EA
    have K := Lib.hid (Kb.nil w)
    go_enter Tryd.func68, Tryd.ntmps68
    go_upto_region 0 with fail
    refine wp_region_lit ?_
    refine kb_box K.out 76 (.tmp 0) (#[.bool true, .bool true, .int .u64 (x.v.r : Nat), .int .u32 (x.v.c : Nat), .int .u64 (x.v.b : Nat), .int .u16 (x.v.p : Nat), .int .u32 (x.c : Nat), .int .u16 (x.i : Nat)]) rfl rfl (by rfl) (pz (h := ?_))
    intro b1 w1 K1
    refine kb_alloc K1.out 133 (nilW) rfl z83 (by rfl) (pz (h := ?_))
    intro b2 w2 K2
    refine wpList_nil ?_
    go_upto_region 1 with fail
    refine lz (wz6 (pT b1 0) (.bool true) (.bool false) (.bool false) (pT b1 1) (.bool true) (h2 := by have q : w2.cell? ⟨b1, 0, none⟩ = some (.bool true) := K2.out.cell (i := 0) rfl (by rfl); go_simp) (h6 := by have q : w2.cell? ⟨b1, 1, none⟩ = some (.bool true) := K2.out.cell (i := 0) rfl (by rfl); go_simp) (h := wz6 (.bool false) (.bool false) (.bool false) (pT b1 2) (pT b1 4) (.int .u64 (x.v.b : Nat)) (h2 := by exact run_pick_no (.tmp 10) (.const (.bool true)) (.tmp 13) _ rfl rfl rfl) (h6 := by have q : w2.cell? ⟨b1, 4, none⟩ = some (.int .u64 (x.v.b : Nat)) := K2.out.cell (i := 0) rfl (by rfl); go_simp) (h := wz3 (.int .u64 (self : Nat)) (.bool true) (.bool true) (h2 := by have q := hbi; go_simp) (h3 := by exact run_pick_no (.tmp 15) (.const (.bool true)) (.tmp 20) _ rfl rfl rfl) (h := nz ?_))))
    go_upto_region 2 with fail
    refine lz (wz1 (.agg (nilW)) (h1 := by exact run_build_of 133 [] rfl [] nilW rfl (by kernel_rfl)) (h := ?_))
    refine kb_row K2.out 1 rfl 133 _ _ (nilW) rfl rfl rfl rfl (size83) (by rfl) (by kernel_rfl) (py (h := ?_))
    intro w3 K3
    refine wpList_nil ?_
    go_wp2_with fail
    refine bodyPost_ret (v := .agg (nilW)) (results_cell_row Tryd.results68 _ _ b2 133 (nilW) (0, 0) _ rfl (K3.out.at (i := 1) rfl) Tryd.underlying133 rfl size83) rfl ?_
    exact ⟨rfl, K3.out.below⟩
   case neg =>
    have hbi : ¬ (x.v.b : Int) = (self : Int) := by omega
    have EA : rpA x = #[.bool true, .bool true, .int .u64 (x.v.r : Nat), .int .u32 (x.v.c : Nat), .int .u64 (x.v.b : Nat), .int .u16 (x.v.p : Nat), .int .u32 (x.c : Nat), .int .u16 (x.i : Nat)] := by unfold rpA; rw [← HO.out, ← HH.out]
    have HEA := Lib.hid EA
    have HW : wayA self x k = wyA (plusV x.v x.c) x.i k := by unfold wayA wayB; rw [← HO.out, ← HH.out]; simp [hb]
    rw [HW, EA]
    clear HW EA
    have K := Lib.hid (Kb.nil w)
    go_enter Tryd.func68, Tryd.ntmps68
    go_upto_region 0 with fail
    refine wp_region_lit ?_
    refine kb_box K.out 76 (.tmp 0) (#[.bool true, .bool true, .int .u64 (x.v.r : Nat), .int .u32 (x.v.c : Nat), .int .u64 (x.v.b : Nat), .int .u16 (x.v.p : Nat), .int .u32 (x.c : Nat), .int .u16 (x.i : Nat)]) rfl rfl (by rfl) (pz (h := ?_))
    intro b1 w1 K1
    refine kb_alloc K1.out 133 (nilW) rfl z83 (by rfl) (pz (h := ?_))
    intro b2 w2 K2
    refine wpList_nil ?_
    go_upto_region 1 with fail
    refine lz (wz6 (pT b1 0) (.bool true) (.bool false) (.bool false) (pT b1 1) (.bool true) (h2 := by have q : w2.cell? ⟨b1, 0, none⟩ = some (.bool true) := K2.out.cell (i := 0) rfl (by rfl); go_simp) (h6 := by have q : w2.cell? ⟨b1, 1, none⟩ = some (.bool true) := K2.out.cell (i := 0) rfl (by rfl); go_simp) (h := wz6 (.bool false) (.bool false) (.bool false) (pT b1 2) (pT b1 4) (.int .u64 (x.v.b : Nat)) (h2 := by exact run_pick_no (.tmp 10) (.const (.bool true)) (.tmp 13) _ rfl rfl rfl) (h6 := by have q : w2.cell? ⟨b1, 4, none⟩ = some (.int .u64 (x.v.b : Nat)) := K2.out.cell (i := 0) rfl (by rfl); go_simp) (h := wz3 (.int .u64 (self : Nat)) (.bool false) (.bool false) (h2 := by have q := hbi; go_simp) (h3 := by exact run_pick_no (.tmp 15) (.const (.bool true)) (.tmp 20) _ rfl rfl rfl) (h := nz ?_))))
    go_upto_region 3 with fail
    clear hb hbi
    refine rk (fun (_ : Unit) => [pT b1 2, .agg (#[.int .u64 (x.v.r : Nat), .int .u32 (x.v.c : Nat), .int .u64 (x.v.b : Nat), .int .u16 (x.v.p : Nat)]), pT b1 6, .int .u32 (x.c : Nat), .agg (vcA (plusV x.v x.c)), pT b1 7, .int .u16 (x.i : Nat), iV k, .agg (wyA (plusV x.v x.c) x.i k), undef]) (fun _ Lx w' => Kb w [(b1, #[.bool true, .bool true, .int .u64 (x.v.r : Nat), .int .u32 (x.v.c : Nat), .int .u64 (x.v.b : Nat), .int .u16 (x.v.p : Nat), .int .u32 (x.c : Nat), .int .u16 (x.i : Nat)], 76), (b2, bif Lx 9 then wyA (plusV x.v x.c) x.i k else nilW, 133)] w') (()) [] [(3, fun _ => ⟨b1, 6, none⟩), (6, fun _ => ⟨b1, 7, none⟩)] [(1, fun _ => [(23, pT b1 2)]), (4, fun _ => [(24, .agg (#[.int .u64 (x.v.r : Nat), .int .u32 (x.v.c : Nat), .int .u64 (x.v.b : Nat), .int .u16 (x.v.p : Nat)])), (26, .int .u32 (x.c : Nat))]), (8, fun _ => [(27, .agg (vcA (plusV x.v x.c))), (29, .int .u16 (x.i : Nat)), (30, iV k)]), (9, fun _ => [(6, pT b2 0), (31, .agg (wyA (plusV x.v x.c) x.i k))])] [9] (K2.out.drew) (fun _ Lx w' hw => ⟨fun _ => Kb.cell (i := 0) hw rfl (by rfl), fun _ => Kb.cell (i := 0) hw rfl (by rfl), trivial⟩) (fun _ L1 L2 _ e h => by (try dsimp only at h ⊢); rw [← e 9 (by decide)]; exact h) ?_ ?_
    ·
     refine ⟨?_, ?_, ?_, ?_, trivial⟩ <;> (rintro _ Lx w' hw hL haft hdc ρ hc hf hG hs o ho; cases ho; try dsimp only [pT, iV, seen] at hw hs)
     ·
      obtain ⟨e23, _⟩ := hs
      exact sq (.agg (#[.int .u64 (x.v.r : Nat), .int .u32 (x.v.c : Nat), .int .u64 (x.v.b : Nat), .int .u16 (x.v.p : Nat)])) (l_partof 71 _ rfl _ 2 e23 _ _ ((#[.int .u64 (x.v.r : Nat), .int .u32 (x.v.c : Nat), .int .u64 (x.v.b : Nat), .int .u16 (x.v.p : Nat)]).toList) _ (Kb.at (i := 0) hw rfl) (part_of (by kernel_rfl)) Tryd.underlying71 rfl (sizeV))
     ·
      exact sc (.agg (vcA (plusV x.v x.c))) 81 #[.agg (#[.int .u64 (x.v.r : Nat), .int .u32 (x.v.c : Nat), .int .u64 (x.v.b : Nat), .int .u16 (x.v.p : Nat)]), .int .u32 (x.c : Nat)] (plus_any x.v x.c w' HX.out.1.2.1 HX.out.2.1) (by go_simp) (fun w2 hb => ⟨(), fun _ _ => rfl, rfl, hw.next hb⟩)
     ·
      obtain ⟨e27, e29, e30, _⟩ := hs
      exact sq (.agg (wyA (plusV x.v x.c) x.i k)) (l_build 133 [(0, .tmp 27), (1, .tmp 29), (2, .tmp 30)] rfl _ (wyA (plusV x.v x.c) x.i k) (by simp only [List.map_cons, List.map_nil, e27, e29, e30]; rfl) (by kernel_rfl))
     ·
      obtain ⟨e6, e31, _⟩ := hs
      exact sr 133 _ _ rfl b2 (wyA (plusV x.v x.c) x.i k) e6 e31 133 (bif Lx 9 then wyA (plusV x.v x.c) x.i k else nilW) (Kb.at (i := 1) hw rfl) (size83) (by rw [hL]; rfl) (by kernel_rfl) ⟨(), fun _ _ => rfl, rfl, cast_blk (Kb.row (i := 1) hw rfl (wyA (plusV x.v x.c) x.i k)) (by rfl)⟩
    intro _ Lx w3 hw hall
    try dsimp only at hw
    simp only [pT, iV, List.toList_toArray, putsZ_some, putsZ_none, putsZ_nil, List.setIfInBounds_toArray, List.set_cons_zero, List.set_cons_succ]
    have hL9 := hall 9 (by decide)
    simp only [hL9, cond_true] at hw
    have K3 := Lib.hid hw
    clear hw hall hL9
    go_wp2_with fail
    refine bodyPost_ret (v := .agg (wyA (plusV x.v x.c) x.i k)) (results_cell_row Tryd.results68 _ _ b2 133 (wyA (plusV x.v x.c) x.i k) (0, 0) _ rfl (K3.out.at (i := 1) rfl) Tryd.underlying133 rfl size83) rfl ?_
    exact ⟨rfl, K3.out.below⟩
set_option maxRecDepth 100000 in
set_option maxHeartbeats 8000000 in
theorem waheadW_any (u v : Vc) (i j : Nat) (k l : Int) (w : World) : Calls Tryd.prog 69 #[.agg (wyA u i k), .agg (wyA v j l)] w fun e w' => e = .returned (.bool (if eqV u v then decide (i < j) else lessV u v)) ∧ Below w.heap.size w w' := by
 have CE := Lib.hid (fun W => equal_vc u v W)
 cases he : eqV u v
 case false =>
  have K := Lib.hid (Kb.nil w)
  go_enter Tryd.func69, Tryd.ntmps69
  go_upto_region 0 with fail
  refine wp_region_lit ?_
  refine kb_box K.out 133 (.tmp 0) (wyA u i k) rfl rfl (by rfl) (pz (h := ?_))
  intro b1 w1 K1
  refine kb_box K1.out 133 (.tmp 1) (wyA v j l) rfl rfl (by rfl) (pz (h := ?_))
  intro b2 w2 K2
  refine wz1 (.bool false) (h := nz ?_)
  go_upto_region 1 with fail
  refine lz (wz5 (pT b1 0) (.agg (#[.int .u64 (u.r : Nat), .int .u32 (u.c : Nat), .int .u64 (u.b : Nat), .int .u16 (u.p : Nat)])) (pT b2 0) (.agg (#[.int .u64 (v.r : Nat), .int .u32 (v.c : Nat), .int .u64 (v.b : Nat), .int .u16 (v.p : Nat)])) (.bool true) (h2 := by exact kb_prt K2.out 0 rfl 71 _ 0 rfl rfl (part_of (by kernel_rfl)) Tryd.underlying71 rfl (sizeV)) (h4 := by exact kb_prt K2.out 1 rfl 71 _ 0 rfl rfl (part_of (by kernel_rfl)) Tryd.underlying71 rfl (sizeV)) (h5 := by have q := CE.out; rw [he] at q; go_simp) (h := nz ?_))
  go_upto_region 2 with fail
  refine lz (wz4 (pT b1 0) (.agg (#[.int .u64 (u.r : Nat), .int .u32 (u.c : Nat), .int .u64 (u.b : Nat), .int .u16 (u.p : Nat)])) (pT b2 0) (.agg (#[.int .u64 (v.r : Nat), .int .u32 (v.c : Nat), .int .u64 (v.b : Nat), .int .u16 (v.p : Nat)])) (h2 := by exact kb_prt K2.out 0 rfl 71 _ 0 rfl rfl (part_of (by kernel_rfl)) Tryd.underlying71 rfl (sizeV)) (h4 := by exact kb_prt K2.out 1 rfl 71 _ 0 rfl rfl (part_of (by kernel_rfl)) Tryd.underlying71 rfl (sizeV)) (h := ?_))
  refine kb_call K2.out 70 #[.agg (#[.int .u64 (u.r : Nat), .int .u32 (u.c : Nat), .int .u64 (u.b : Nat), .int .u16 (u.p : Nat)]), .agg (#[.int .u64 (v.r : Nat), .int .u32 (v.c : Nat), .int .u64 (v.b : Nat), .int .u16 (v.p : Nat)])] (.bool (lessV u v)) (by rfl) (by go_simp) (better_any u v w2) (py (h := ?_))
  intro w3 K3
  refine wz1 (.bool (lessV u v)) (h := nz ?_)
  go_wp2_with fail
  go_ret
  exact ⟨ret_bool (by simp), K3.out.below⟩
 case true =>
  have K := Lib.hid (Kb.nil w)
  go_enter Tryd.func69, Tryd.ntmps69
  go_upto_region 0 with fail
  refine wp_region_lit ?_
  refine kb_box K.out 133 (.tmp 0) (wyA u i k) rfl rfl (by rfl) (pz (h := ?_))
  intro b1 w1 K1
  refine kb_box K1.out 133 (.tmp 1) (wyA v j l) rfl rfl (by rfl) (pz (h := ?_))
  intro b2 w2 K2
  refine wz1 (.bool false) (h := nz ?_)
  go_upto_region 1 with fail
  refine lz (wz5 (pT b1 0) (.agg (#[.int .u64 (u.r : Nat), .int .u32 (u.c : Nat), .int .u64 (u.b : Nat), .int .u16 (u.p : Nat)])) (pT b2 0) (.agg (#[.int .u64 (v.r : Nat), .int .u32 (v.c : Nat), .int .u64 (v.b : Nat), .int .u16 (v.p : Nat)])) (.bool false) (h2 := by exact kb_prt K2.out 0 rfl 71 _ 0 rfl rfl (part_of (by kernel_rfl)) Tryd.underlying71 rfl (sizeV)) (h4 := by exact kb_prt K2.out 1 rfl 71 _ 0 rfl rfl (part_of (by kernel_rfl)) Tryd.underlying71 rfl (sizeV)) (h5 := by have q := CE.out; rw [he] at q; go_simp) (h := nz ?_))
  go_upto_region 3 with fail
  refine lz (wz6 (pT b1 4) (.int .u16 (i : Nat)) (pT b2 4) (.int .u16 (j : Nat)) (.bool (decide ((i : Int) < (j : Int)))) (.bool (decide ((i : Int) < (j : Int)))) (h2 := by have q : w2.cell? ⟨b1, 4, none⟩ = some (.int .u16 (i : Nat)) := K2.out.cell (i := 0) rfl (by rfl); go_simp) (h4 := by have q : w2.cell? ⟨b2, 4, none⟩ = some (.int .u16 (j : Nat)) := K2.out.cell (i := 1) rfl (by rfl); go_simp) (h := nz ?_))
  go_wp2_with fail
  go_ret
  exact ⟨ret_bool (by simp), K2.out.below⟩
set_option maxRecDepth 100000 in
set_option maxHeartbeats 8000000 in
theorem role_any (self : Nat) (t : Vc) (x : Rp) (w : World) : Calls Tryd.prog 54 #[.agg (rpA x), .int .u64 (self : Nat), .agg (vcA t)] w fun e w' => e = .returned (.int .i64 (roleN self t x)) ∧ Below w.heap.size w w' := by
 have CB := Lib.hid (fun w => better_any x.v t w)
 obtain ⟨o, ho⟩ : ∃ o, o = x.on := ⟨_, rfl⟩
 obtain ⟨h, hh⟩ : ∃ o, o = x.hd := ⟨_, rfl⟩
 have HO := Lib.hid ho
 have HH := Lib.hid hh
 clear ho hh
 cases o
 case false =>
  have EA : rpA x = #[.bool false, .bool h, .int .u64 (x.v.r : Nat), .int .u32 (x.v.c : Nat), .int .u64 (x.v.b : Nat), .int .u16 (x.v.p : Nat), .int .u32 (x.c : Nat), .int .u16 (x.i : Nat)] := by unfold rpA; rw [← HO.out, ← HH.out]
  have HW : roleN self t x = 0 := by unfold roleN; rw [← HO.out, ← HH.out]; simp
  rw [HW, EA]
  clear HW EA
  have K := Lib.hid (Kb.nil w)
  go_enter Tryd.func54, Tryd.ntmps54
  go_upto_region 0 with fail
  refine wp_region_lit ?_
  refine kb_box K.out 76 (.tmp 0) (#[.bool false, .bool h, .int .u64 (x.v.r : Nat), .int .u32 (x.v.c : Nat), .int .u64 (x.v.b : Nat), .int .u16 (x.v.p : Nat), .int .u32 (x.c : Nat), .int .u16 (x.i : Nat)]) rfl rfl (by rfl) (pz (h := ?_))
  intro b1 w1 K1
  refine kb_box K1.out 71 (.tmp 2) (vcA t) rfl rfl (by rfl) (pz (h := ?_))
  intro b2 w2 K2
  refine wz1 (iV 0) (h := nz ?_)
  go_upto_region 1 with fail
  refine lz (wz4 (pT b1 0) (.bool false) (.bool true) (.bool true) (h2 := by have q : w2.cell? ⟨b1, 0, none⟩ = some (.bool false) := K2.out.cell (i := 0) rfl (by rfl); go_simp) (h := nz ?_))
  go_upto_region 2 with fail
  refine lz (wz1 (iV 0) (h := nz ?_))
  go_wp2_with fail
  go_ret
  exact ⟨rfl, K2.out.below⟩
 case true =>
  cases h
  case false =>
   have EA : rpA x = #[.bool true, .bool false, .int .u64 (x.v.r : Nat), .int .u32 (x.v.c : Nat), .int .u64 (x.v.b : Nat), .int .u16 (x.v.p : Nat), .int .u32 (x.c : Nat), .int .u16 (x.i : Nat)] := by unfold rpA; rw [← HO.out, ← HH.out]
   have HW : roleN self t x = 4 := by unfold roleN; rw [← HO.out, ← HH.out]; simp
   rw [HW, EA]
   clear HW EA
   have K := Lib.hid (Kb.nil w)
   go_enter Tryd.func54, Tryd.ntmps54
   go_upto_region 0 with fail
   refine wp_region_lit ?_
   refine kb_box K.out 76 (.tmp 0) (#[.bool true, .bool false, .int .u64 (x.v.r : Nat), .int .u32 (x.v.c : Nat), .int .u64 (x.v.b : Nat), .int .u16 (x.v.p : Nat), .int .u32 (x.c : Nat), .int .u16 (x.i : Nat)]) rfl rfl (by rfl) (pz (h := ?_))
   intro b1 w1 K1
   refine kb_box K1.out 71 (.tmp 2) (vcA t) rfl rfl (by rfl) (pz (h := ?_))
   intro b2 w2 K2
   refine wz1 (iV 0) (h := nz ?_)
   go_upto_region 1 with fail
   refine lz (wz4 (pT b1 0) (.bool true) (.bool false) (.bool false) (h2 := by have q : w2.cell? ⟨b1, 0, none⟩ = some (.bool true) := K2.out.cell (i := 0) rfl (by rfl); go_simp) (h := nz ?_))
   go_upto_region 3 with fail
   refine lz (wz4 (pT b1 1) (.bool false) (.bool true) (.bool true) (h2 := by have q : w2.cell? ⟨b1, 1, none⟩ = some (.bool false) := K2.out.cell (i := 0) rfl (by rfl); go_simp) (h := wk (h := wk (h := wk (h := wk (h := wk (h := wz2 (.bool true) (.bool true) (h1 := by exact run_pick_yes (.tmp 15) (.const (.bool true)) (.tmp 20) _ rfl rfl rfl) (h := nz ?_))))))))
   go_upto_region 4 with fail
   refine lz (wz1 (iV 4) (h := nz ?_))
   go_wp2_with fail
   go_ret
   exact ⟨rfl, K2.out.below⟩
  case true =>
   cases hl : lessV x.v t
   case false =>
    have EA : rpA x = #[.bool true, .bool true, .int .u64 (x.v.r : Nat), .int .u32 (x.v.c : Nat), .int .u64 (x.v.b : Nat), .int .u16 (x.v.p : Nat), .int .u32 (x.c : Nat), .int .u16 (x.i : Nat)] := by unfold rpA; rw [← HO.out, ← HH.out]
    have HW : roleN self t x = 4 := by unfold roleN; rw [← HO.out, ← HH.out]; simp [hl]
    rw [HW, EA]
    clear HW EA
    have K := Lib.hid (Kb.nil w)
    go_enter Tryd.func54, Tryd.ntmps54
    go_upto_region 0 with fail
    refine wp_region_lit ?_
    refine kb_box K.out 76 (.tmp 0) (#[.bool true, .bool true, .int .u64 (x.v.r : Nat), .int .u32 (x.v.c : Nat), .int .u64 (x.v.b : Nat), .int .u16 (x.v.p : Nat), .int .u32 (x.c : Nat), .int .u16 (x.i : Nat)]) rfl rfl (by rfl) (pz (h := ?_))
    intro b1 w1 K1
    refine kb_box K1.out 71 (.tmp 2) (vcA t) rfl rfl (by rfl) (pz (h := ?_))
    intro b2 w2 K2
    refine wz1 (iV 0) (h := nz ?_)
    go_upto_region 1 with fail
    refine lz (wz4 (pT b1 0) (.bool true) (.bool false) (.bool false) (h2 := by have q : w2.cell? ⟨b1, 0, none⟩ = some (.bool true) := K2.out.cell (i := 0) rfl (by rfl); go_simp) (h := nz ?_))
    go_upto_region 3 with fail
    refine lz (wz6 (pT b1 1) (.bool true) (.bool false) (.bool false) (pT b1 2) (.agg (#[.int .u64 (x.v.r : Nat), .int .u32 (x.v.c : Nat), .int .u64 (x.v.b : Nat), .int .u16 (x.v.p : Nat)])) (h2 := by have q : w2.cell? ⟨b1, 1, none⟩ = some (.bool true) := K2.out.cell (i := 0) rfl (by rfl); go_simp) (h6 := by exact kb_prt K2.out 0 rfl 71 _ 2 rfl rfl (part_of (by kernel_rfl)) Tryd.underlying71 rfl (sizeV)) (h := wz1 (.agg (vcA t)) (h1 := by exact kb_all K2.out 1 rfl 71 _ rfl rfl Tryd.underlying71 rfl (sizeV)) (h := ?_)))
    refine kb_call K2.out 70 #[.agg (#[.int .u64 (x.v.r : Nat), .int .u32 (x.v.c : Nat), .int .u64 (x.v.b : Nat), .int .u16 (x.v.p : Nat)]), .agg (vcA t)] (.bool false) (by rfl) (by go_simp) (by have q := CB.out w2; rw [hl] at q; exact q) (py (h := ?_))
    intro w3 K3
    refine wz3 (.bool true) (.bool true) (.bool true) (h2 := by exact run_pick_no (.tmp 15) (.const (.bool true)) (.tmp 20) _ rfl rfl rfl) (h := nz ?_)
    go_upto_region 4 with fail
    refine lz (wz1 (iV 4) (h := nz ?_))
    go_wp2_with fail
    go_ret
    exact ⟨rfl, K3.out.below⟩
   case true =>
    by_cases hb : x.v.b = self
    case pos =>
     have hbi : (x.v.b : Int) = (self : Int) := by omega
     have EA : rpA x = #[.bool true, .bool true, .int .u64 (x.v.r : Nat), .int .u32 (x.v.c : Nat), .int .u64 (x.v.b : Nat), .int .u16 (x.v.p : Nat), .int .u32 (x.c : Nat), .int .u16 (x.i : Nat)] := by unfold rpA; rw [← HO.out, ← HH.out]
     have HW : roleN self t x = 2 := by unfold roleN; rw [← HO.out, ← HH.out]; simp [hl, hb]
     rw [HW, EA]
     clear HW EA
     have K := Lib.hid (Kb.nil w)
     go_enter Tryd.func54, Tryd.ntmps54
     go_upto_region 0 with fail
     refine wp_region_lit ?_
     refine kb_box K.out 76 (.tmp 0) (#[.bool true, .bool true, .int .u64 (x.v.r : Nat), .int .u32 (x.v.c : Nat), .int .u64 (x.v.b : Nat), .int .u16 (x.v.p : Nat), .int .u32 (x.c : Nat), .int .u16 (x.i : Nat)]) rfl rfl (by rfl) (pz (h := ?_))
     intro b1 w1 K1
     refine kb_box K1.out 71 (.tmp 2) (vcA t) rfl rfl (by rfl) (pz (h := ?_))
     intro b2 w2 K2
     refine wz1 (iV 0) (h := nz ?_)
     go_upto_region 1 with fail
     refine lz (wz4 (pT b1 0) (.bool true) (.bool false) (.bool false) (h2 := by have q : w2.cell? ⟨b1, 0, none⟩ = some (.bool true) := K2.out.cell (i := 0) rfl (by rfl); go_simp) (h := nz ?_))
     go_upto_region 3 with fail
     refine lz (wz6 (pT b1 1) (.bool true) (.bool false) (.bool false) (pT b1 2) (.agg (#[.int .u64 (x.v.r : Nat), .int .u32 (x.v.c : Nat), .int .u64 (x.v.b : Nat), .int .u16 (x.v.p : Nat)])) (h2 := by have q : w2.cell? ⟨b1, 1, none⟩ = some (.bool true) := K2.out.cell (i := 0) rfl (by rfl); go_simp) (h6 := by exact kb_prt K2.out 0 rfl 71 _ 2 rfl rfl (part_of (by kernel_rfl)) Tryd.underlying71 rfl (sizeV)) (h := wz1 (.agg (vcA t)) (h1 := by exact kb_all K2.out 1 rfl 71 _ rfl rfl Tryd.underlying71 rfl (sizeV)) (h := ?_)))
     refine kb_call K2.out 70 #[.agg (#[.int .u64 (x.v.r : Nat), .int .u32 (x.v.c : Nat), .int .u64 (x.v.b : Nat), .int .u16 (x.v.p : Nat)]), .agg (vcA t)] (.bool true) (by rfl) (by go_simp) (by have q := CB.out w2; rw [hl] at q; exact q) (py (h := ?_))
     intro w3 K3
     refine wz3 (.bool false) (.bool false) (.bool false) (h2 := by exact run_pick_no (.tmp 15) (.const (.bool true)) (.tmp 20) _ rfl rfl rfl) (h := nz ?_)
     go_upto_region 5 with fail
     refine lz (wz6 (pT b1 2) (pT b1 4) (.int .u64 (x.v.b : Nat)) (.int .u64 (self : Nat)) (.bool true) (.bool true) (h3 := by have q : w3.cell? ⟨b1, 4, none⟩ = some (.int .u64 (x.v.b : Nat)) := K3.out.cell (i := 0) rfl (by rfl); go_simp) (h5 := by have q := hbi; go_simp) (h := nz ?_))
     go_upto_region 6 with fail
     refine lz (wz1 (iV 2) (h := nz ?_))
     go_wp2_with fail
     go_ret
     exact ⟨rfl, K3.out.below⟩
    case neg =>
     have hbi : ¬ (x.v.b : Int) = (self : Int) := by omega
     have EA : rpA x = #[.bool true, .bool true, .int .u64 (x.v.r : Nat), .int .u32 (x.v.c : Nat), .int .u64 (x.v.b : Nat), .int .u16 (x.v.p : Nat), .int .u32 (x.c : Nat), .int .u16 (x.i : Nat)] := by unfold rpA; rw [← HO.out, ← HH.out]
     have HW : roleN self t x = 1 := by unfold roleN; rw [← HO.out, ← HH.out]; simp [hl, hb]
     rw [HW, EA]
     clear HW EA
     have K := Lib.hid (Kb.nil w)
     go_enter Tryd.func54, Tryd.ntmps54
     go_upto_region 0 with fail
     refine wp_region_lit ?_
     refine kb_box K.out 76 (.tmp 0) (#[.bool true, .bool true, .int .u64 (x.v.r : Nat), .int .u32 (x.v.c : Nat), .int .u64 (x.v.b : Nat), .int .u16 (x.v.p : Nat), .int .u32 (x.c : Nat), .int .u16 (x.i : Nat)]) rfl rfl (by rfl) (pz (h := ?_))
     intro b1 w1 K1
     refine kb_box K1.out 71 (.tmp 2) (vcA t) rfl rfl (by rfl) (pz (h := ?_))
     intro b2 w2 K2
     refine wz1 (iV 0) (h := nz ?_)
     go_upto_region 1 with fail
     refine lz (wz4 (pT b1 0) (.bool true) (.bool false) (.bool false) (h2 := by have q : w2.cell? ⟨b1, 0, none⟩ = some (.bool true) := K2.out.cell (i := 0) rfl (by rfl); go_simp) (h := nz ?_))
     go_upto_region 3 with fail
     refine lz (wz6 (pT b1 1) (.bool true) (.bool false) (.bool false) (pT b1 2) (.agg (#[.int .u64 (x.v.r : Nat), .int .u32 (x.v.c : Nat), .int .u64 (x.v.b : Nat), .int .u16 (x.v.p : Nat)])) (h2 := by have q : w2.cell? ⟨b1, 1, none⟩ = some (.bool true) := K2.out.cell (i := 0) rfl (by rfl); go_simp) (h6 := by exact kb_prt K2.out 0 rfl 71 _ 2 rfl rfl (part_of (by kernel_rfl)) Tryd.underlying71 rfl (sizeV)) (h := wz1 (.agg (vcA t)) (h1 := by exact kb_all K2.out 1 rfl 71 _ rfl rfl Tryd.underlying71 rfl (sizeV)) (h := ?_)))
     refine kb_call K2.out 70 #[.agg (#[.int .u64 (x.v.r : Nat), .int .u32 (x.v.c : Nat), .int .u64 (x.v.b : Nat), .int .u16 (x.v.p : Nat)]), .agg (vcA t)] (.bool true) (by rfl) (by go_simp) (by have q := CB.out w2; rw [hl] at q; exact q) (py (h := ?_))
     intro w3 K3
     refine wz3 (.bool false) (.bool false) (.bool false) (h2 := by exact run_pick_no (.tmp 15) (.const (.bool true)) (.tmp 20) _ rfl rfl rfl) (h := nz ?_)
     go_upto_region 5 with fail
     refine lz (wz6 (pT b1 2) (pT b1 4) (.int .u64 (x.v.b : Nat)) (.int .u64 (self : Nat)) (.bool false) (.bool false) (h3 := by have q : w3.cell? ⟨b1, 4, none⟩ = some (.int .u64 (x.v.b : Nat)) := K3.out.cell (i := 0) rfl (by rfl); go_simp) (h5 := by have q := hbi; go_simp) (h := nz ?_))
     go_upto_region 7 with fail
     refine lz (wz1 (iV 1) (h := nz ?_))
     go_wp2_with fail
     go_ret
     exact ⟨rfl, K3.out.below⟩
end
section
open Go.RowKit
attribute [local irreducible] wpQuiet wpList
theorem zO : ∀ W : World, (zeroValue 49).run Tryd.prog W = .ok (.agg nilM) W := fun W => Tryd.zeroValue49 W
theorem sizeO : (Tryd.prog.info? 49).map (·.size) = some 2 := by kernel_rfl
theorem st_all {s : St} {v1 v2 v3 v4 : Value} (h1 : v1.oneCell' = true) (h2 : v2.oneCell' = true) (h3 : v3.oneCell' = true) (h4 : v4.oneCell' = true) : (stA s v1 v2 v3 v4).all (·.oneCell') = true := by
 simp [stA, stL, cfC, cfA, cL, Value.oneCell', List.range, List.range.loop]
 exact ⟨h1, h2, h3, h4⟩
set_option maxRecDepth 100000 in
set_option maxHeartbeats 8000000 in
theorem end_any {T b n m : Nat} {a : Option Addr} {v2 v3 v4 tv fv : Value} {t : TS} {w : World} (h : Tact w ⟨T, b, a, n, m, v2, v3, v4⟩ tv fv t) (h2 : v2.oneCell' = true) (h3 : v3.oneCell' = true) (h4 : v4.oneCell' = true) : Calls Tryd.prog 32 #[.pointer (some ⟨b, 0, none⟩)] w fun e w' => e = .returned (.tuple #[.agg (stA t.s (.slice a n m) v2 v3 v4), .agg #[tv, fv]]) ∧ Below w.heap.size w w' := by
 have HT := Lib.hid h.ready
 have HS1 := Lib.hid (show (stA t.s (.slice a n m) v2 v3 v4).all (·.oneCell') = true from st_all h.o1.oneCell h2 h3 h4)
 have HS2 := Lib.hid (show (#[tv, fv] : Array Value).all (·.oneCell') = true by simp [h.ot.oneCell, h.of.oneCell])
 have K := Lib.hid (Kb.nil w)
 clear h h2 h3 h4
 go_enter Tryd.func32, Tryd.ntmps32
 go_upto_region 0 with fail
 refine wp_region_lit ?_
 refine kb_alloc K.out 40 (nil25) rfl z41 (by rfl) (pz (h := ?_))
 intro b1 w1 K1
 refine kb_alloc K1.out 49 (nilM) rfl zO (by rfl) (pz (h := ?_))
 intro b2 w2 K2
 refine wpList_nil ?_
 go_upto_region 1 with fail
 refine rk (fun (_ : Unit) => [pT b 0, pT b 0, pT b 0, .agg (stA t.s (.slice a n m) v2 v3 v4), pT b 0, pT b 0, pT b 25, .agg (#[tv, fv]), undef, undef]) (fun _ Lx w' => Kb w [(b1, bif Lx 8 then stA t.s (.slice a n m) v2 v3 v4 else nil25, 40), (b2, bif Lx 9 then #[tv, fv] else nilM, 49)] w') (()) [] [] [(3, fun _ => [(6, pT b 0)]), (7, fun _ => [(10, pT b 25)]), (8, fun _ => [(2, pT b1 0), (7, .agg (stA t.s (.slice a n m) v2 v3 v4))]), (9, fun _ => [(3, pT b2 0), (11, .agg (#[tv, fv]))])] [8, 9] (K2.out.drew) (fun _ _ _ _ => trivial) (fun _ L1 L2 _ e h => by (try dsimp only at h ⊢); rw [← e 8 (by decide), ← e 9 (by decide)]; exact h) ?_ ?_
 ·
  refine ⟨?_, ?_, ?_, ?_, trivial⟩ <;> (rintro _ Lx w' hw hL haft hdc ρ hc hf hG hs o ho; cases ho; try dsimp only [pT, iV, seen] at hw hs)
  ·
   obtain ⟨e6, _⟩ := hs
   exact sq (.agg (stA t.s (.slice a n m) v2 v3 v4)) (l_partof 40 _ rfl b 0 e6 T _ (stA t.s (.slice a n m) v2 v3 v4).toList _ ((HT.out _ hw.below).blk) (fun k v hv => act_low t _ _ _ _ tv fv (0 + k) v (by rw [Nat.zero_add]; simpa [stA] using hv)) Tryd.underlying40 rfl (size41))
  ·
   obtain ⟨e10, _⟩ := hs
   exact sq (.agg (#[tv, fv])) (l_partof 49 _ rfl b 25 e10 T _ (#[tv, fv]).toList _ ((HT.out _ hw.below).blk) (part_of (by kernel_rfl)) Tryd.underlying49 rfl (sizeO))
  ·
   obtain ⟨e2, e7, _⟩ := hs
   exact sr 40 _ _ rfl b1 (stA t.s (.slice a n m) v2 v3 v4) e2 e7 40 (bif Lx 8 then stA t.s (.slice a n m) v2 v3 v4 else nil25) (Kb.at (i := 0) hw rfl) (size41) (by rw [hL]; rfl) (HS1.out) ⟨(), fun _ _ => rfl, rfl, cast_blk (Kb.row (i := 0) hw rfl (stA t.s (.slice a n m) v2 v3 v4)) (by rfl)⟩
  ·
   obtain ⟨e3, e11, _⟩ := hs
   exact sr 49 _ _ rfl b2 (#[tv, fv]) e3 e11 49 (bif Lx 9 then #[tv, fv] else nilM) (Kb.at (i := 1) hw rfl) (sizeO) (by rw [hL]; rfl) (HS2.out) ⟨(), fun _ _ => rfl, rfl, cast_blk (Kb.row (i := 1) hw rfl (#[tv, fv])) (by rfl)⟩
 intro _ Lx w3 hw hall
 try dsimp only at hw
 simp only [pT, iV, List.toList_toArray, putsZ_some, putsZ_none, putsZ_nil, List.setIfInBounds_toArray, List.set_cons_zero, List.set_cons_succ]
 have hL8 := hall 8 (by decide)
 have hL9 := hall 9 (by decide)
 simp only [hL8, hL9, cond_true] at hw
 have K3 := Lib.hid hw
 clear hw hall hL8 hL9
 go_wp2_with fail
 refine bodyPost_ret (v := .tuple #[.agg (stA t.s (.slice a n m) v2 v3 v4), .agg #[tv, fv]]) (results_rows Tryd.results32 _ _ b1 b2 40 49 (stA t.s (.slice a n m) v2 v3 v4) (#[tv, fv]) rfl rfl (K3.out.at (i := 0) rfl) (K3.out.at (i := 1) rfl) Tryd.underlying40 rfl size41 Tryd.underlying49 rfl sizeO) rfl ?_
 exact ⟨rfl, K3.out.below⟩
end
section
open Go.RowKit
attribute [local irreducible] wpQuiet wpList
set_option maxRecDepth 100000 in
set_option maxHeartbeats 8000000 in
theorem has_any (s : St) (a : Option Addr) (n m : Nat) (v2 v3 v4 : Value) (p : Int) (w : World) : Calls Tryd.prog 42 #[.agg (stA s (.slice a n m) v2 v3 v4), .int .i64 p] w fun e w' => e = .returned (.bool (decide (1 ≤ p) && decide (p ≤ (n : Int)))) ∧ Below w.heap.size w w' := by
 by_cases h1 : 1 ≤ p
 case neg =>
  have H1 := Lib.hid h1
  clear h1
  have K := Lib.hid (Kb.nil w)
  go_enter Tryd.func42, Tryd.ntmps42
  go_upto_region 0 with fail
  refine wp_region_lit ?_
  refine kb_box K.out 40 (.tmp 0) (stA s (.slice a n m) v2 v3 v4) rfl rfl (by rfl) (pz (h := ?_))
  intro b1 w1 K1
  refine wz1 (.bool false) (h := nz ?_)
  go_upto_region 1 with fail
  refine lz (wz3 (iV p) (.bool false) (.bool false) (h2 := by have q := H1.out; go_simp) (h := wk (h := wk (h := wk (h := wk (h := wk (h := wz2 (.bool false) (.bool false) (h1 := by exact run_pick_no (.tmp 7) (.tmp 12) (.const (.bool false)) _ rfl rfl rfl) (h := nz ?_))))))))
  go_wp2_with fail
  go_ret
  exact ⟨ret_bool (by have q := H1.out; simp; omega), K1.out.below⟩
 case pos =>
  by_cases h2 : p ≤ (n : Int)
  case pos =>
   have H1 := Lib.hid h1
   clear h1
   have H2 := Lib.hid h2
   clear h2
   have K := Lib.hid (Kb.nil w)
   go_enter Tryd.func42, Tryd.ntmps42
   go_upto_region 0 with fail
   refine wp_region_lit ?_
   refine kb_box K.out 40 (.tmp 0) (stA s (.slice a n m) v2 v3 v4) rfl rfl (by rfl) (pz (h := ?_))
   intro b1 w1 K1
   refine wz1 (.bool false) (h := nz ?_)
   go_upto_region 1 with fail
   refine lz (wz6 (iV p) (.bool true) (.bool true) (iV p) (pT b1 6) (.slice a n m) (h2 := by have q := H1.out; go_simp) (h6 := by have q : w1.cell? ⟨b1, 6, none⟩ = some (.slice a n m) := K1.out.cell (i := 0) rfl (by rfl); go_simp) (h := wz4 (iV (n : Nat)) (.bool true) (.bool true) (.bool true) (h2 := by have q := H2.out; go_simp) (h3 := by exact run_pick_yes (.tmp 7) (.tmp 12) (.const (.bool false)) _ rfl rfl rfl) (h := nz ?_)))
   go_wp2_with fail
   go_ret
   exact ⟨ret_bool (by simp [H1.out, H2.out]), K1.out.below⟩
  case neg =>
   have H1 := Lib.hid h1
   clear h1
   have H2 := Lib.hid h2
   clear h2
   have K := Lib.hid (Kb.nil w)
   go_enter Tryd.func42, Tryd.ntmps42
   go_upto_region 0 with fail
   refine wp_region_lit ?_
   refine kb_box K.out 40 (.tmp 0) (stA s (.slice a n m) v2 v3 v4) rfl rfl (by rfl) (pz (h := ?_))
   intro b1 w1 K1
   refine wz1 (.bool false) (h := nz ?_)
   go_upto_region 1 with fail
   refine lz (wz6 (iV p) (.bool true) (.bool true) (iV p) (pT b1 6) (.slice a n m) (h2 := by have q := H1.out; go_simp) (h6 := by have q : w1.cell? ⟨b1, 6, none⟩ = some (.slice a n m) := K1.out.cell (i := 0) rfl (by rfl); go_simp) (h := wz4 (iV (n : Nat)) (.bool false) (.bool false) (.bool false) (h2 := by have q := H2.out; go_simp) (h3 := by exact run_pick_yes (.tmp 7) (.tmp 12) (.const (.bool false)) _ rfl rfl rfl) (h := nz ?_)))
   go_wp2_with fail
   go_ret
   exact ⟨ret_bool (by simp [H1.out, H2.out]), K1.out.below⟩
end
section
open Go.RowKit
attribute [local irreducible] wpQuiet wpList
set_option maxRecDepth 100000 in
set_option maxHeartbeats 8000000 in
theorem fadeM_any {T b n m : Nat} {a : Option Addr} {v2 v3 v4 tv fv : Value} {t : TS} {w : World} (h : Tact w ⟨T, b, a, n, m, v2, v3, v4⟩ tv fv t) : Calls Tryd.prog 34 #[.pointer (some ⟨b, 0, none⟩)] w fun e w' => e = .returned (.tuple #[]) ∧ Done w ⟨T, b, a, n, m, v2, v3, v4⟩ tv fv (fadeM t) w' := by
 obtain ⟨tF, htF⟩ : ∃ z, z = fadeM t := ⟨_, rfl⟩
 rw [← htF]
 have HTF := Lib.hid htF
 clear htF
 have LEN := Lib.hid h.len
 obtain ⟨F, hF⟩ : ∃ F, F = foot ⟨T, b, a, n, m, v2, v3, v4⟩ tv fv := ⟨_, rfl⟩
 have HF := Lib.hid hF
 have K := Lib.hid (show Ta ⟨w, ⟨T, b, a, n, m, v2, v3, v4⟩, F⟩ [] t w from hF ▸ h.start)
 clear hF h
 go_enter Tryd.func34, Tryd.ntmps34
 go_upto_region 0 with fail
 have HE1 := Lib.hid (show tF = mapTo (fun _ x => tick1 (fadeP x)) t n by have q : n = t.s.po.length := LEN.out.1; rw [HTF.out, q]; rfl)
 refine lz (wz6 (pT b 0) (pT b 0) (pT b 0) (pT b 6) (.slice a n m) (iV (n : Nat)) (h5 := by have q : w.cell? ⟨b, 6, none⟩ = some (.slice a n m) := K.out.acell 6 rfl; go_simp) (h := wz1 (iV 0) (h := nz ?_)))
 go_upto_region 1 with fail
 go_loopw [10] (fun i wr => ∃ k : Nat, k ≤ n ∧ i = .int .i64 k ∧ Ta ⟨w, ⟨T, b, a, n, m, v2, v3, v4⟩, F⟩ [] (mapTo (fun _ x => tick1 (fadeP x)) t k) wr) (fun i _ => (n - intOf i).toNat)
 case atStart => exact ⟨0, Nat.zero_le _, rfl, K.out⟩
 case round =>
  obtain ⟨k, hk, rfl, hK⟩ := hrel
  obtain ⟨t2, ht2⟩ : ∃ z, z = mapTo (fun _ x => tick1 (fadeP x)) t k := ⟨_, rfl⟩
  rw [← ht2] at hK
  have KR := Lib.hid hK
  have HT2 := Lib.hid ht2
  have HK := Lib.hid hk
  have HC2 := Lib.hid (show t2.s.po.length = t.s.po.length by have q := mapTo_is (fun _ x => tick1 (fadeP x)) t k; rw [← ht2] at q; exact q.1)
  clear hK ht2 hk
  have i1 : (n : Int) ≤ 100 := by have q : n ≤ 100 := KR.out.few; omega
  by_cases hlt : k < n
  case neg =>
   have HLT := Lib.hid hlt
   clear hlt
   go_upto_region 1 with fail
   refine lz (wz1 (.bool false) (h1 := by have q := HLT.out; go_simp) (h := nz ?_))
   have hkn : n = k := by have q1 := HK.out; have q2 := HLT.out; omega
   have KZ := Lib.hid (show Ta ⟨w, ⟨T, b, a, n, m, v2, v3, v4⟩, F⟩ [] tF wr from by rw [show tF = t2 from by rw [HE1.out, hkn, ← HT2.out]]; exact KR.out)
   go_wp2_with fail
   go_end0
   exact ⟨rfl, by have q := KZ.out; rw [HF.out] at q; exact q.done⟩
  case pos =>
   have HLK := Lib.hid hlt
   obtain ⟨y, hy⟩ : ∃ y, t2.s.po[k]? = some y := ⟨_, List.getElem?_eq_getElem (show k < t2.s.po.length by have q1 : n = t2.s.po.length := KR.out.len.1; omega)⟩
   obtain ⟨g, rfl⟩ : ∃ g, a = some ⟨g, 0, none⟩ := KR.out.ptr hy
   have HY := Lib.hid hy
   clear hy
   clear hlt
   have HLP := Lib.hid (show k < t2.s.po.length from (List.getElem?_eq_some_iff.1 HY.out).1)
   go_upto_region 1 with fail
   refine lz (wz1 (.bool true) (h1 := by have q := HLK.out; go_simp) (h := nz ?_))
   go_upto_region 2 with fail
   refine lz (wz3 (iV (k : Nat)) (pT g (k * 21)) (.agg (poA y)) (h2 := by have q1 : k < n := HLK.out; have q2 : n ≤ m := LEN.out.2.1; go_simp) (h3 := by exact run_loadRange 73 _ rfl g (k * 21) rfl (poA y) _ (KR.out.prange rfl HY.out) Tryd.underlying73 rfl (po_info _)) (h := ?_))
   refine ta_alloc KR.out 73 (nil21) rfl z50 (by rfl) (pz (h := ?_))
   intro b2 w2 K2
   refine wz1 (iV (k : Nat)) (h := ?_)
   refine ta_row K2.out 0 rfl 73 _ _ (poA y) rfl rfl rfl rfl (size50) (by rfl) (po_all _) (py (h := ?_))
   intro w3 K3
   refine wpList_nil ?_
   go_upto_region 3 with fail
   obtain ⟨u, hu⟩ : ∃ u, u = fadeP y := ⟨_, rfl⟩
   obtain ⟨fb, hfb⟩ : ∃ u, u = fadeB y := ⟨_, rfl⟩
   have HU := Lib.hid hu
   clear hu
   have HFB := Lib.hid hfb
   clear hfb
   refine lz (wz1 (.agg (poA y)) (h1 := by exact ta_all K3.out 0 rfl 73 _ rfl rfl Tryd.underlying73 rfl (size50)) (h := ?_))
   refine ta_call K3.out 37 #[.agg (poA y)] (.tuple #[.agg (poA u), .bool fb]) (by rfl) (by go_simp) (by have q := fade_any y w3; rw [← HU.out, ← HFB.out] at q; exact q) (py (h := ?_))
   intro w4 K4
   refine wz3 (.tuple #[.agg (poA u), .bool fb]) (.agg (poA u)) (.bool fb) (h := ?_)
   refine ta_row K4.out 0 rfl 73 _ _ (poA u) rfl rfl rfl rfl (size50) (by rfl) (po_all _) (py (h := ?_))
   intro w5 K5
   refine wpList_nil ?_
   go_upto_region 4 with fail
   rcases (show 0 < u.p20 ∨ ¬ 0 < u.p20 by omega) with hc | hc
   case inl =>
    have HC := Lib.hid hc
    clear hc
    refine lz (wz3 (pT b2 20) (iV u.p20) (.bool true) (h2 := by have q : w5.cell? ⟨b2, 20, none⟩ = some (iV u.p20) := K5.out.cell (i := 0) rfl (by rfl); go_simp) (h3 := by have q := HC.out; go_simp) (h := nz ?_))
    go_upto_region 5 with fail
    refine lz (wz4 (pT b2 20) (iV u.p20) (iV (IntKind.i64.wrap (u.p20 - 1))) (pT b2 20) (h2 := by have q : w5.cell? ⟨b2, 20, none⟩ = some (iV u.p20) := K5.out.cell (i := 0) rfl (by rfl); go_simp) (h := ?_))
    refine ta_set K5.out 0 rfl 3 _ _ 20 (.int .i64 (IntKind.i64.wrap (u.p20 - 1))) rfl (by rfl) rfl rfl (ta_run_set K5.out (i := 0) rfl 3 20 (.int .i64 u.p20) (.int .i64 (IntKind.i64.wrap (u.p20 - 1))) (by rfl) (fun W h1 h2 => by go_simp)) (poA { u with p20 := (IntKind.i64.wrap (u.p20 - 1)) }) (by kernel_rfl) (py (h := ?_))
    intro w6 K6
    refine wpList_nil ?_
    go_upto_region 6 with fail
    refine rk (fun (_ : Unit) => [pT b 0, pT b 0, pT b 0, pT b 6, .slice (some ⟨g, 0, none⟩) n m, iV (k : Nat), .agg (poA { u with p20 := (IntKind.i64.wrap (u.p20 - 1)) }), pT g (k * 21), undef]) (fun _ Lx w' => Ta ⟨w, ⟨T, b, some ⟨g, 0, none⟩, n, m, v2, v3, v4⟩, F⟩ [(b2, poA { u with p20 := (IntKind.i64.wrap (u.p20 - 1)) }, 73)] (bif Lx 8 then t2.setPo (t2.s.po.set k { u with p20 := (IntKind.i64.wrap (u.p20 - 1)) }) else t2) w') (()) [] [] [(4, fun _ => [(30, pT b 6)]), (6, fun _ => [(3, pT b2 0)]), (7, fun _ => [(31, .slice (some ⟨g, 0, none⟩) n m), (32, iV (k : Nat))]), (8, fun _ => [(33, .agg (poA { u with p20 := (IntKind.i64.wrap (u.p20 - 1)) })), (34, pT g (k * 21))])] [8] (K6.out.drew) (fun _ _ _ _ => trivial) (fun _ L1 L2 _ e h => by (try dsimp only at h ⊢); rw [← e 8 (by decide)]; exact h) ?_ ?_
    ·
     refine ⟨?_, ?_, ?_, ?_, trivial⟩ <;> (rintro _ Lx w' hw hL haft hdc ρ hc hf hG hs o ho; cases ho; try dsimp only [pT, iV, seen] at hw hs)
     ·
      have hn8 : Lx 8 = false := nup (fun cq => hdc 7 (hdc 8 cq 7 (by decide)) 4 (by decide)) hL
      have hwo : Ta ⟨w, ⟨T, b, some ⟨g, 0, none⟩, n, m, v2, v3, v4⟩, F⟩ [(b2, poA { u with p20 := (IntKind.i64.wrap (u.p20 - 1)) }, 73)] (t2) w' := by rw [hn8] at hw; exact hw
      exact sq (.slice (some ⟨g, 0, none⟩) n m) (by have q : w'.cell? ⟨b, 6, none⟩ = some (.slice (some ⟨g, 0, none⟩) n m) := hwo.acell 6 rfl; go_simp)
     ·
      obtain ⟨e3, _⟩ := hs
      have hn8 : Lx 8 = false := nup (fun cq => hdc 8 cq 6 (by decide)) hL
      have hwo : Ta ⟨w, ⟨T, b, some ⟨g, 0, none⟩, n, m, v2, v3, v4⟩, F⟩ [(b2, poA { u with p20 := (IntKind.i64.wrap (u.p20 - 1)) }, 73)] (t2) w' := by rw [hn8] at hw; exact hw
      exact sq (.agg (poA { u with p20 := (IntKind.i64.wrap (u.p20 - 1)) })) (l_var 73 _ rfl _ e3 _ _ _ (Ta.at (i := 0) hwo rfl) Tryd.underlying73 rfl (size50))
     ·
      exact sq (pT g (k * 21)) (by have q1 : k < n := HLK.out; have q2 : n ≤ m := LEN.out.2.1; go_simp)
     ·
      obtain ⟨e33, e34, _⟩ := hs
      have hw0 : Ta ⟨w, ⟨T, b, some ⟨g, 0, none⟩, n, m, v2, v3, v4⟩, F⟩ [(b2, poA { u with p20 := (IntKind.i64.wrap (u.p20 - 1)) }, 73)] (t2) w' := by rw [hL] at hw; exact hw
      exact sm 73 _ _ rfl g (k * 21) (poA { u with p20 := (IntKind.i64.wrap (u.p20 - 1)) }) e34 e33 (hw0.pthere rfl HLP.out) (po_info _) (po_all _) ⟨(), fun _ _ => rfl, rfl, hw0.pput rfl HLP.out⟩
    intro _ Lx w7 hw hall
    try dsimp only at hw
    simp only [pT, iV, List.toList_toArray, putsZ_some, putsZ_none, putsZ_nil, List.setIfInBounds_toArray, List.set_cons_zero, List.set_cons_succ]
    rw [hall 8 (by decide)] at hw
    simp only [cond_true] at hw
    have K7 := Lib.hid hw
    clear hw hall
    have K7y := Lib.hid (Ta.left (l := []) K7.out)
    have hlt := HLK.out
    go_wp2_with fail
    go_roundw
    case rel => exact ⟨k + 1, HLK.out, by go_num, by rw [show mapTo (fun _ x => tick1 (fadeP x)) t (k + 1) = t2.setPo (t2.s.po.set k { u with p20 := (IntKind.i64.wrap (u.p20 - 1)) }) from by show mapStep (fun _ x => tick1 (fadeP x)) (mapTo (fun _ x => tick1 (fadeP x)) t k) k = _; rw [← HT2.out, mapStep_some HY.out]; show t2.setPo (t2.s.po.set k (tick1 (fadeP y))) = _; rw [← HU.out]; unfold tick1; rw [if_pos HC.out]]; exact K7y.out⟩
    case measure => have := HLK.out; simp [intOf]; omega
   case inr =>
    have HC := Lib.hid hc
    clear hc
    refine lz (wz3 (pT b2 20) (iV u.p20) (.bool false) (h2 := by have q : w5.cell? ⟨b2, 20, none⟩ = some (iV u.p20) := K5.out.cell (i := 0) rfl (by rfl); go_simp) (h3 := by have q := HC.out; go_simp) (h := nz ?_))
    go_upto_region 6 with fail
    refine rk (fun (_ : Unit) => [pT b 0, pT b 0, pT b 0, pT b 6, .slice (some ⟨g, 0, none⟩) n m, iV (k : Nat), .agg (poA u), pT g (k * 21), undef]) (fun _ Lx w' => Ta ⟨w, ⟨T, b, some ⟨g, 0, none⟩, n, m, v2, v3, v4⟩, F⟩ [(b2, poA u, 73)] (bif Lx 8 then t2.setPo (t2.s.po.set k u) else t2) w') (()) [] [] [(4, fun _ => [(30, pT b 6)]), (6, fun _ => [(3, pT b2 0)]), (7, fun _ => [(31, .slice (some ⟨g, 0, none⟩) n m), (32, iV (k : Nat))]), (8, fun _ => [(33, .agg (poA u)), (34, pT g (k * 21))])] [8] (K5.out.drew) (fun _ _ _ _ => trivial) (fun _ L1 L2 _ e h => by (try dsimp only at h ⊢); rw [← e 8 (by decide)]; exact h) ?_ ?_
    ·
     refine ⟨?_, ?_, ?_, ?_, trivial⟩ <;> (rintro _ Lx w' hw hL haft hdc ρ hc hf hG hs o ho; cases ho; try dsimp only [pT, iV, seen] at hw hs)
     ·
      have hn8 : Lx 8 = false := nup (fun cq => hdc 7 (hdc 8 cq 7 (by decide)) 4 (by decide)) hL
      have hwo : Ta ⟨w, ⟨T, b, some ⟨g, 0, none⟩, n, m, v2, v3, v4⟩, F⟩ [(b2, poA u, 73)] (t2) w' := by rw [hn8] at hw; exact hw
      exact sq (.slice (some ⟨g, 0, none⟩) n m) (by have q : w'.cell? ⟨b, 6, none⟩ = some (.slice (some ⟨g, 0, none⟩) n m) := hwo.acell 6 rfl; go_simp)
     ·
      obtain ⟨e3, _⟩ := hs
      have hn8 : Lx 8 = false := nup (fun cq => hdc 8 cq 6 (by decide)) hL
      have hwo : Ta ⟨w, ⟨T, b, some ⟨g, 0, none⟩, n, m, v2, v3, v4⟩, F⟩ [(b2, poA u, 73)] (t2) w' := by rw [hn8] at hw; exact hw
      exact sq (.agg (poA u)) (l_var 73 _ rfl _ e3 _ _ _ (Ta.at (i := 0) hwo rfl) Tryd.underlying73 rfl (size50))
     ·
      exact sq (pT g (k * 21)) (by have q1 : k < n := HLK.out; have q2 : n ≤ m := LEN.out.2.1; go_simp)
     ·
      obtain ⟨e33, e34, _⟩ := hs
      have hw0 : Ta ⟨w, ⟨T, b, some ⟨g, 0, none⟩, n, m, v2, v3, v4⟩, F⟩ [(b2, poA u, 73)] (t2) w' := by rw [hL] at hw; exact hw
      exact sm 73 _ _ rfl g (k * 21) (poA u) e34 e33 (hw0.pthere rfl HLP.out) (po_info _) (po_all _) ⟨(), fun _ _ => rfl, rfl, hw0.pput rfl HLP.out⟩
    intro _ Lx w6 hw hall
    try dsimp only at hw
    simp only [pT, iV, List.toList_toArray, putsZ_some, putsZ_none, putsZ_nil, List.setIfInBounds_toArray, List.set_cons_zero, List.set_cons_succ]
    rw [hall 8 (by decide)] at hw
    simp only [cond_true] at hw
    have K6 := Lib.hid hw
    clear hw hall
    have K6y := Lib.hid (Ta.left (l := []) K6.out)
    have hlt := HLK.out
    go_wp2_with fail
    go_roundw
    case rel => exact ⟨k + 1, HLK.out, by go_num, by rw [show mapTo (fun _ x => tick1 (fadeP x)) t (k + 1) = t2.setPo (t2.s.po.set k u) from by show mapStep (fun _ x => tick1 (fadeP x)) (mapTo (fun _ x => tick1 (fadeP x)) t k) k = _; rw [← HT2.out, mapStep_some HY.out]; show t2.setPo (t2.s.po.set k (tick1 (fadeP y))) = _; rw [← HU.out]; unfold tick1; rw [if_neg HC.out]]; exact K6y.out⟩
    case measure => have := HLK.out; simp [intOf]; omega
end
end Go.Proofs.YteeinlbhcdpnnaaDoor
