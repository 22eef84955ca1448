import Derived.Test.YteeinlbhcdpnnaaDoorG4
import Derived.Test.YteeinlbhcdpnnaaDoorG8
import Derived.Test.YteeinlbhcdpnnaaDoorG2
set_option linter.unusedSimpArgs false
set_option linter.unusedVariables false
namespace Go.Proofs.YteeinlbhcdpnnaaDoor
section
open Go.RowKit
attribute [local irreducible] wpQuiet wpList
def innerB (x : Po) : Bool := onP x && !edgeB x
def linkB (x : Po) : Bool := decide (x.p10 = 3) || decide (x.p10 = 4)
def chP (x : Po) (h : Int) : Po := { x with p20 := h }
def twoH (t : TS) : Int := IntKind.i64.wrap (2 * t.s.cf.p2)
theorem on_is2 (x : Po) (b : Bool) (h : onP x = b) (w : World) : Calls Tryd.prog 20 #[poV x] w fun e w' => e = .returned (.bool b) ∧ Below w.heap.size w w' := h ▸ on_any x w
set_option maxRecDepth 100000 in
set_option maxHeartbeats 8000000 in
theorem inner_any (x : Po) (w : World) : Calls Tryd.prog 75 #[poV x] w fun e w' => e = .returned (.bool (innerB x)) ∧ Below w.heap.size w w' := by
 cases ho : onP x
 case false =>
  have K := Lib.hid (Kb.nil w)
  go_enter Tryd.func75, Tryd.ntmps75
  go_upto_region 0 with fail
  refine wp_region_lit ?_
  refine kb_box K.out 73 (.tmp 0) (poA x) rfl rfl (by rfl) (pz (h := ?_))
  intro b1 w1 K1
  refine wz1 (.bool false) (h := nz ?_)
  go_upto_region 1 with fail
  refine lz (wz1 (.agg (poA x)) (h1 := by exact kb_all K1.out 0 rfl 73 _ rfl rfl Tryd.underlying73 rfl (size50)) (h := ?_))
  refine kb_call K1.out 20 #[.agg (poA x)] (.bool false) (by rfl) (by go_simp) (on_is2 x false ho w1) (py (h := ?_))
  intro w2 K2
  refine wz1 (.bool false) (h := wk (h := wk (h := wk (h := wz2 (.bool false) (.bool false) (h1 := by exact run_pick_no (.tmp 5) (.tmp 8) (.const (.bool false)) _ rfl rfl rfl) (h := nz ?_)))))
  go_wp2_with fail
  go_ret
  exact ⟨ret_bool (by simp [innerB, ho]), K2.out.below⟩
 case true =>
  cases he : edgeB x
  case false =>
   have K := Lib.hid (Kb.nil w)
   go_enter Tryd.func75, Tryd.ntmps75
   go_upto_region 0 with fail
   refine wp_region_lit ?_
   refine kb_box K.out 73 (.tmp 0) (poA x) rfl rfl (by rfl) (pz (h := ?_))
   intro b1 w1 K1
   refine wz1 (.bool false) (h := nz ?_)
   go_upto_region 1 with fail
   refine lz (wz1 (.agg (poA x)) (h1 := by exact kb_all K1.out 0 rfl 73 _ rfl rfl Tryd.underlying73 rfl (size50)) (h := ?_))
   refine kb_call K1.out 20 #[.agg (poA x)] (.bool true) (by rfl) (by go_simp) (on_is2 x true ho w1) (py (h := ?_))
   intro w2 K2
   refine wz2 (.bool true) (.agg (poA x)) (h2 := by exact kb_all K2.out 0 rfl 73 _ rfl rfl Tryd.underlying73 rfl (size50)) (h := ?_)
   refine kb_call K2.out 67 #[.agg (poA x)] (.bool false) (by rfl) (by go_simp) (edge_is x false he w2) (py (h := ?_))
   intro w3 K3
   refine wz3 (.bool true) (.bool true) (.bool true) (h2 := by exact run_pick_yes (.tmp 5) (.tmp 8) (.const (.bool false)) _ rfl rfl rfl) (h := nz ?_)
   go_wp2_with fail
   go_ret
   exact ⟨ret_bool (by simp [innerB, ho, he]), K3.out.below⟩
  case true =>
   have K := Lib.hid (Kb.nil w)
   go_enter Tryd.func75, Tryd.ntmps75
   go_upto_region 0 with fail
   refine wp_region_lit ?_
   refine kb_box K.out 73 (.tmp 0) (poA x) rfl rfl (by rfl) (pz (h := ?_))
   intro b1 w1 K1
   refine wz1 (.bool false) (h := nz ?_)
   go_upto_region 1 with fail
   refine lz (wz1 (.agg (poA x)) (h1 := by exact kb_all K1.out 0 rfl 73 _ rfl rfl Tryd.underlying73 rfl (size50)) (h := ?_))
   refine kb_call K1.out 20 #[.agg (poA x)] (.bool true) (by rfl) (by go_simp) (on_is2 x true ho w1) (py (h := ?_))
   intro w2 K2
   refine wz2 (.bool true) (.agg (poA x)) (h2 := by exact kb_all K2.out 0 rfl 73 _ rfl rfl Tryd.underlying73 rfl (size50)) (h := ?_)
   refine kb_call K2.out 67 #[.agg (poA x)] (.bool true) (by rfl) (by go_simp) (edge_is x true he w2) (py (h := ?_))
   intro w3 K3
   refine wz3 (.bool false) (.bool false) (.bool false) (h2 := by exact run_pick_yes (.tmp 5) (.tmp 8) (.const (.bool false)) _ rfl rfl rfl) (h := nz ?_)
   go_wp2_with fail
   go_ret
   exact ⟨ret_bool (by simp [innerB, ho, he]), K3.out.below⟩
theorem inner_is (x : Po) (b : Bool) (h : innerB x = b) (w : World) : Calls Tryd.prog 75 #[poV x] w fun e w' => e = .returned (.bool b) ∧ Below w.heap.size w w' := h ▸ inner_any x w
set_option maxRecDepth 100000 in
set_option maxHeartbeats 8000000 in
theorem linked_any (x : Po) (w : World) : Calls Tryd.prog 76 #[poV x] w fun e w' => e = .returned (.bool (linkB x)) ∧ Below w.heap.size w w' := by
 by_cases h3 : x.p10 = 3
 case pos =>
  have H3 := Lib.hid h3
  clear h3
  have K := Lib.hid (Kb.nil w)
  go_enter Tryd.func76, Tryd.ntmps76
  go_upto_region 0 with fail
  refine wp_region_lit ?_
  refine kb_box K.out 73 (.tmp 0) (poA x) rfl rfl (by rfl) (pz (h := ?_))
  intro b1 w1 K1
  refine wz1 (.bool false) (h := nz ?_)
  go_upto_region 1 with fail
  refine lz (wz4 (pT b1 10) (iV x.p10) (.bool true) (.bool true) (h2 := by have q : w1.cell? ⟨b1, 10, none⟩ = some (iV x.p10) := K1.out.cell (i := 0) rfl (by rfl); go_simp) (h3 := by have q := H3.out; go_simp) (h := wk (h := wk (h := wk (h := wz2 (.bool true) (.bool true) (h1 := by exact run_pick_yes (.tmp 6) (.const (.bool true)) (.tmp 9) _ rfl rfl rfl) (h := nz ?_))))))
  go_wp2_with fail
  go_ret
  exact ⟨ret_bool (by simp [linkB, H3.out]), K1.out.below⟩
 case neg =>
  by_cases h4 : x.p10 = 4
  case pos =>
   have H3 := Lib.hid h3
   clear h3
   have H4 := Lib.hid h4
   clear h4
   have K := Lib.hid (Kb.nil w)
   go_enter Tryd.func76, Tryd.ntmps76
   go_upto_region 0 with fail
   refine wp_region_lit ?_
   refine kb_box K.out 73 (.tmp 0) (poA x) rfl rfl (by rfl) (pz (h := ?_))
   intro b1 w1 K1
   refine wz1 (.bool false) (h := nz ?_)
   go_upto_region 1 with fail
   refine lz (wz6 (pT b1 10) (iV x.p10) (.bool false) (.bool false) (pT b1 10) (iV x.p10) (h2 := by have q : w1.cell? ⟨b1, 10, none⟩ = some (iV x.p10) := K1.out.cell (i := 0) rfl (by rfl); go_simp) (h3 := by have q := H3.out; go_simp) (h6 := by have q : w1.cell? ⟨b1, 10, none⟩ = some (iV x.p10) := K1.out.cell (i := 0) rfl (by rfl); go_simp) (h := wz3 (.bool true) (.bool true) (.bool true) (h1 := by have q := H4.out; go_simp) (h2 := by exact run_pick_no (.tmp 6) (.const (.bool true)) (.tmp 9) _ rfl rfl rfl) (h := nz ?_)))
   go_wp2_with fail
   go_ret
   exact ⟨ret_bool (by simp [linkB, H3.out, H4.out]), K1.out.below⟩
  case neg =>
   have H3 := Lib.hid h3
   clear h3
   have H4 := Lib.hid h4
   clear h4
   have K := Lib.hid (Kb.nil w)
   go_enter Tryd.func76, Tryd.ntmps76
   go_upto_region 0 with fail
   refine wp_region_lit ?_
   refine kb_box K.out 73 (.tmp 0) (poA x) rfl rfl (by rfl) (pz (h := ?_))
   intro b1 w1 K1
   refine wz1 (.bool false) (h := nz ?_)
   go_upto_region 1 with fail
   refine lz (wz6 (pT b1 10) (iV x.p10) (.bool false) (.bool false) (pT b1 10) (iV x.p10) (h2 := by have q : w1.cell? ⟨b1, 10, none⟩ = some (iV x.p10) := K1.out.cell (i := 0) rfl (by rfl); go_simp) (h3 := by have q := H3.out; go_simp) (h6 := by have q : w1.cell? ⟨b1, 10, none⟩ = some (iV x.p10) := K1.out.cell (i := 0) rfl (by rfl); go_simp) (h := wz3 (.bool false) (.bool false) (.bool false) (h1 := by have q := H4.out; go_simp) (h2 := by exact run_pick_no (.tmp 6) (.const (.bool true)) (.tmp 9) _ rfl rfl rfl) (h := nz ?_)))
   go_wp2_with fail
   go_ret
   exact ⟨ret_bool (by simp [linkB, H3.out, H4.out]), K1.out.below⟩
theorem linked_is (x : Po) (b : Bool) (h : linkB x = b) (w : World) : Calls Tryd.prog 76 #[poV x] w fun e w' => e = .returned (.bool b) ∧ Below w.heap.size w w' := h ▸ linked_any x w
end
section
open Go.RowKit
attribute [local irreducible] wpQuiet wpList
set_option maxRecDepth 100000 in
set_option maxHeartbeats 8000000 in
theorem alert_any {T b n m : Nat} {a : Option Addr} {v2 v3 v4 tv fv : Value} {t : TS} {w : World} {ip : Nat} {x : Po} (h : Tact w ⟨T, b, a, n, m, v2, v3, v4⟩ tv fv t) (hx : t.s.po[ip]? = some x) : Calls Tryd.prog 74 #[.pointer (some ⟨b, 0, none⟩), .int .i64 (ip : Nat)] w fun e w' => e = .returned (.tuple #[]) ∧ Done w ⟨T, b, a, n, m, v2, v3, v4⟩ tv fv (t.setPo (t.s.po.set ip (chP x (twoH t)))) w' := by
 have LEN := Lib.hid h.len
 obtain ⟨g, rfl⟩ : ∃ g, a = some ⟨g, 0, none⟩ := h.ptr hx
 have HX := Lib.hid hx
 have HLT := Lib.hid (show ip < n by have q := (List.getElem?_eq_some_iff.1 hx).1; have q2 := h.len.1; exact Nat.lt_of_lt_of_eq q q2.symm)
 clear hx
 obtain ⟨F, hF⟩ : ∃ F, F = foot ⟨T, b, some ⟨g, 0, none⟩, n, m, v2, v3, v4⟩ tv fv := ⟨_, rfl⟩
 have HF := Lib.hid hF
 have K := Lib.hid (show Ta ⟨w, ⟨T, b, some ⟨g, 0, none⟩, n, m, v2, v3, v4⟩, F⟩ [] t w from hF ▸ h.start)
 clear hF h
 go_enter Tryd.func74, Tryd.ntmps74
 go_upto_region 0 with fail
 refine rk (fun (_ : Unit) => [pT b 0, pT b 0, pT b 0, pT b 6, .slice (some ⟨g, 0, none⟩) n m, iV (ip : Nat), pT b 0, pT b 0, pT b 0, pT b 0, pT b 2, iV t.s.cf.p2, iV (twoH t), pT g (ip * 21), pT g (ip * 21 + 20), undef]) (fun _ Lx w' => Ta ⟨w, ⟨T, b, some ⟨g, 0, none⟩, n, m, v2, v3, v4⟩, F⟩ [] (bif Lx 15 then t.setPo (t.s.po.set ip (chP x (twoH t))) else t) w') (()) [] [] [(4, fun _ => [(7, pT b 6)]), (11, fun _ => [(14, pT b 2)]), (12, fun _ => [(15, iV t.s.cf.p2)]), (13, fun _ => [(8, .slice (some ⟨g, 0, none⟩) n m), (9, iV (ip : Nat))]), (15, fun _ => [(16, iV (twoH t)), (18, pT g (ip * 21 + 20))])] [15] (K.out.drew) (fun _ _ _ _ => trivial) (fun _ L1 L2 _ e h => by (try dsimp only at h ⊢); rw [← e 15 (by decide)]; exact h) ?_ ?_
 ·
  refine ⟨?_, ?_, ?_, ?_, ?_, trivial⟩ <;> (rintro _ Lx w' hw hL haft hdc ρ hc hf hG hs o ho; cases ho; try dsimp only [pT, iV, seen] at hw hs)
  ·
   have hn15 : Lx 15 = false := nup (fun cq => hdc 13 (hdc 14 (hdc 15 cq 14 (by decide)) 13 (by decide)) 4 (by decide)) hL
   have hwo : Ta ⟨w, ⟨T, b, some ⟨g, 0, none⟩, n, m, v2, v3, v4⟩, F⟩ [] (t) w' := by rw [hn15] at hw; exact hw
   exact sq (.slice (some ⟨g, 0, none⟩) n m) (by have q : w'.cell? ⟨b, 6, none⟩ = some (.slice (some ⟨g, 0, none⟩) n m) := hwo.acell 6 rfl; go_simp)
  ·
   have hn15 : Lx 15 = false := nup (fun cq => hdc 12 (hdc 15 cq 12 (by decide)) 11 (by decide)) hL
   have hwo : Ta ⟨w, ⟨T, b, some ⟨g, 0, none⟩, n, m, v2, v3, v4⟩, F⟩ [] (t) w' := by rw [hn15] at hw; exact hw
   exact sq (iV t.s.cf.p2) (by have q : w'.cell? ⟨b, 2, none⟩ = some (iV t.s.cf.p2) := hwo.acell 2 rfl; go_simp)
  ·
   exact sq (iV (twoH t)) (by go_simp; rfl)
  ·
   exact sq (pT g (ip * 21)) (by have q1 : ip < n := HLT.out; have q2 : n ≤ m := LEN.out.2.1; go_simp)
  ·
   obtain ⟨e16, e18, _⟩ := hs
   have hw0 : Ta ⟨w, ⟨T, b, some ⟨g, 0, none⟩, n, m, v2, v3, v4⟩, F⟩ [] (t) w' := by rw [hL] at hw; exact hw
   exact ss 3 _ _ rfl ⟨g, ip * 21 + 20, none⟩ (iV (twoH t)) e18 e16 (by have c1 : w'.cell? ⟨g, ip * 21 + 20, none⟩ = some (iV x.p20) := hw0.pcell rfl HX.out 20 rfl; have c2 : w'.frozen? ⟨g, ip * 21 + 20, none⟩ = false := hw0.pfree rfl _; go_simp) ⟨(), fun _ _ => rfl, rfl, hw0.pset rfl HX.out (by decide) rfl⟩
 intro _ Lx w1 hw hall
 try dsimp only at hw
 simp only [pT, iV, List.toList_toArray, putsZ_some, putsZ_none, putsZ_nil, List.setIfInBounds_toArray, List.set_cons_zero, List.set_cons_succ]
 rw [hall 15 (by decide)] at hw
 simp only [cond_true] at hw
 have K1 := Lib.hid hw
 clear hw hall
 go_wp2_with fail
 go_end0
 exact ⟨rfl, by have q := K1.out; rw [HF.out] at q; exact q.done⟩
end
section
open Go.RowKit
attribute [local irreducible] wpQuiet wpList
def chgStep (h : Int) (i : Nat) (t : TS) (k : Nat) : TS := match t.s.po[k]? with
 | some x => if k = i ∨ innerB x = false then t else (if linkB x = true then t.setPo (t.s.po.set k (chP x h)) else t).flush ((k : Int) + 1)
 | none => t
def chgTo (h : Int) (i : Nat) (t : TS) : Nat → TS
 | 0 => t
 | k + 1 => chgStep h i (chgTo h i t k) k
def changedM (t : TS) (i : Nat) : TS := match t.s.po[i]? with
 | some x => if edgeB x = true then t else chgTo (twoH t) i (t.setPo (t.s.po.set i (chP x (twoH t)))) t.s.po.length
 | none => t
def sprStep (h : Int) (i : Nat) (t : TS) (k : Nat) : TS := match t.s.po[k]? with
 | some x => if k = i ∨ innerB x = false ∨ linkB x = false then t else (t.setPo (t.s.po.set k (chP x h))).flush ((k : Int) + 1)
 | none => t
def sprTo (h : Int) (i : Nat) (t : TS) : Nat → TS
 | 0 => t
 | k + 1 => sprStep h i (sprTo h i t k) k
def spreadM (t : TS) (i : Nat) : TS := sprTo (twoH t) i t t.s.po.length
theorem chgStep_is (h : Int) (i : Nat) (t : TS) (k : Nat) : (chgStep h i t k).s.po.length = t.s.po.length ∧ (chgStep h i t k).s.cf = t.s.cf ∧ (chgStep h i t k).fl.length ≤ t.fl.length + 1 ∧ (chgStep h i t k).told = t.told := by
 unfold chgStep
 split
 ·
  split
  ·
   exact ⟨rfl, rfl, Nat.le_succ _, rfl⟩
  ·
   split
   ·
    refine ⟨?_, rfl, ?_, rfl⟩
    ·
     show (t.s.po.set k _).length = _
     rw [List.length_set]
    ·
     show (t.fl ++ [_]).length ≤ _
     simp
   ·
    refine ⟨rfl, rfl, ?_, rfl⟩
    show (t.fl ++ [_]).length ≤ _
    simp
 ·
  exact ⟨rfl, rfl, Nat.le_succ _, rfl⟩
theorem chgTo_is (h : Int) (i : Nat) (t : TS) : ∀ k, (chgTo h i t k).s.po.length = t.s.po.length ∧ (chgTo h i t k).s.cf = t.s.cf ∧ (chgTo h i t k).fl.length ≤ t.fl.length + k ∧ (chgTo h i t k).told = t.told
 | 0 => ⟨rfl, rfl, Nat.le_refl _, rfl⟩
 | k + 1 => by
  have a := chgTo_is h i t k
  have b := chgStep_is h i (chgTo h i t k) k
  exact ⟨b.1.trans a.1, b.2.1.trans a.2.1, by have := a.2.2.1; have := b.2.2.1; show (chgStep h i (chgTo h i t k) k).fl.length ≤ _; omega, b.2.2.2.trans a.2.2.2⟩
theorem sprStep_is (h : Int) (i : Nat) (t : TS) (k : Nat) : (sprStep h i t k).s.po.length = t.s.po.length ∧ (sprStep h i t k).s.cf = t.s.cf ∧ (sprStep h i t k).fl.length ≤ t.fl.length + 1 ∧ (sprStep h i t k).told = t.told := by
 unfold sprStep
 split
 ·
  split
  ·
   exact ⟨rfl, rfl, Nat.le_succ _, rfl⟩
  ·
   refine ⟨?_, rfl, ?_, rfl⟩
   ·
    show (t.s.po.set k _).length = _
    rw [List.length_set]
   ·
    show (t.fl ++ [_]).length ≤ _
    simp
 ·
  exact ⟨rfl, rfl, Nat.le_succ _, rfl⟩
theorem sprTo_is (h : Int) (i : Nat) (t : TS) : ∀ k, (sprTo h i t k).s.po.length = t.s.po.length ∧ (sprTo h i t k).s.cf = t.s.cf ∧ (sprTo h i t k).fl.length ≤ t.fl.length + k ∧ (sprTo h i t k).told = t.told
 | 0 => ⟨rfl, rfl, Nat.le_refl _, rfl⟩
 | k + 1 => by
  have a := sprTo_is h i t k
  have b := sprStep_is h i (sprTo h i t k) k
  exact ⟨b.1.trans a.1, b.2.1.trans a.2.1, by have := a.2.2.1; have := b.2.2.1; show (sprStep h i (sprTo h i t k) k).fl.length ≤ _; omega, b.2.2.2.trans a.2.2.2⟩
theorem twoH_cf {t t' : TS} (h : t'.s.cf = t.s.cf) : twoH t' = twoH t := by unfold twoH; rw [h]
set_option maxRecDepth 100000 in
theorem one_in (x : Int) : ∀ W : World, (Instr.buildSlice 45 1 #[(0, .int .i64 x)]).run Tryd.prog W = .ok (.slice (some ⟨W.heap.size, 0, none⟩) 1 1) (W.alloc (.cells #[.int .i64 x] 3)) := fun W => by
 have u := Tryd.underlying45
 go_simp
theorem wrap_i64 {x : Int} (h0 : -9223372036854775808 ≤ x) (h1 : x < 9223372036854775808) : IntKind.i64.wrap x = x := by
 simp [IntKind.wrap, IntKind.bits, IntKind.signed]
 omega
end
section
open Go.RowKit
attribute [local irreducible] wpQuiet wpList
set_option maxRecDepth 100000 in
set_option maxHeartbeats 8000000 in
theorem changed_any {T b n m : Nat} {a : Option Addr} {v2 v3 v4 tv fv : Value} {t : TS} {w : World} {ip : Nat} {x : Po} (h : Tact w ⟨T, b, a, n, m, v2, v3, v4⟩ tv fv t) (hx : t.s.po[ip]? = some x) (hfl : t.fl.length + n ≤ 1000) : Calls Tryd.prog 59 #[.pointer (some ⟨b, 0, none⟩), .int .i64 (ip : Nat)] w fun e w' => e = .returned (.tuple #[]) ∧ Done w ⟨T, b, a, n, m, v2, v3, v4⟩ tv fv (changedM t ip) w' := by
 have HFL0 := Lib.hid hfl
 clear hfl
 obtain ⟨tF, htF⟩ : ∃ z, z = changedM t ip := ⟨_, rfl⟩
 rw [← htF]
 have HTF := Lib.hid htF
 clear htF
 have HED0 := Lib.hid (show edgeB x = true ∨ edgeB x = false by cases edgeB x <;> simp)
 have LEN := Lib.hid h.len
 obtain ⟨g, rfl⟩ : ∃ g, a = some ⟨g, 0, none⟩ := h.ptr hx
 have HX := Lib.hid hx
 have HLT := Lib.hid (show ip < n by have q := (List.getElem?_eq_some_iff.1 hx).1; have q2 := h.len.1; exact Nat.lt_of_lt_of_eq q q2.symm)
 clear hx
 obtain ⟨F, hF⟩ : ∃ F, F = foot ⟨T, b, some ⟨g, 0, none⟩, n, m, v2, v3, v4⟩ tv fv := ⟨_, rfl⟩
 have HF := Lib.hid hF
 have K := Lib.hid (show Ta ⟨w, ⟨T, b, some ⟨g, 0, none⟩, n, m, v2, v3, v4⟩, F⟩ [] t w from hF ▸ h.start)
 clear hF h
 go_enter Tryd.func59, Tryd.ntmps59
 go_upto_region 0 with fail
 rcases HED0.out with hed | hed
 case inl =>
  have HED := Lib.hid hed
  clear hed
  refine lz (wz6 (pT b 0) (pT b 0) (pT b 0) (pT b 6) (.slice (some ⟨g, 0, none⟩) n m) (iV (ip : Nat)) (h5 := by have q : w.cell? ⟨b, 6, none⟩ = some (.slice (some ⟨g, 0, none⟩) n m) := K.out.acell 6 rfl; go_simp) (h := wz2 (pT g (ip * 21)) (.agg (poA x)) (h1 := by have q1 : ip < n := HLT.out; have q2 : n ≤ m := LEN.out.2.1; go_simp) (h2 := by exact run_loadRange 73 _ rfl g (ip * 21) rfl (poA x) _ (K.out.prange rfl HX.out) Tryd.underlying73 rfl (po_info _)) (h := ?_)))
  refine ta_call K.out 67 #[.agg (poA x)] (.bool true) (by rfl) (by go_simp) (edge_is x true HED.out w) (py (h := ?_))
  intro w1 K1
  refine wpList_nil ?_
  have e : tF = t := by rw [HTF.out]; unfold changedM; rw [HX.out]; show (if edgeB x = true then t else _) = t; rw [if_pos HED.out]
  have KZ := Lib.hid (show Ta ⟨w, ⟨T, b, some ⟨g, 0, none⟩, n, m, v2, v3, v4⟩, F⟩ [] tF w1 from e ▸ K1.out)
  clear e
  go_wp2_with fail
  (try simp only [Exit.inBlock, Exit.then]); refine bodyPost_ret (results_none rfl _ _ _) rfl ?_
  exact ⟨rfl, by have q := KZ.out; rw [HF.out] at q; exact q.done⟩
 case inr =>
  have HED := Lib.hid hed
  clear hed
  refine lz (wz6 (pT b 0) (pT b 0) (pT b 0) (pT b 6) (.slice (some ⟨g, 0, none⟩) n m) (iV (ip : Nat)) (h5 := by have q : w.cell? ⟨b, 6, none⟩ = some (.slice (some ⟨g, 0, none⟩) n m) := K.out.acell 6 rfl; go_simp) (h := wz2 (pT g (ip * 21)) (.agg (poA x)) (h1 := by have q1 : ip < n := HLT.out; have q2 : n ≤ m := LEN.out.2.1; go_simp) (h2 := by exact run_loadRange 73 _ rfl g (ip * 21) rfl (poA x) _ (K.out.prange rfl HX.out) Tryd.underlying73 rfl (po_info _)) (h := ?_)))
  refine ta_call K.out 67 #[.agg (poA x)] (.bool false) (by rfl) (by go_simp) (edge_is x false HED.out w) (py (h := ?_))
  intro w1 K1
  refine wpList_nil ?_
  go_upto_region 1 with fail
  refine lz (wz2 (pT b 0) (iV (ip : Nat)) (h := ?_))
  refine ta_act K1.out 74 #[.pointer (some ⟨b, 0, none⟩), .int .i64 (ip : Nat)] (t.setPo (t.s.po.set ip (chP x (twoH t)))) (by rfl) (by go_simp) (fun tv fv h => alert_any h HX.out) (py (h := ?_))
  intro w2 K2
  refine wpList_nil ?_
  go_upto_region 2 with fail
  obtain ⟨t1, ht1⟩ : ∃ z, z = t.setPo (t.s.po.set ip (chP x (twoH t))) := ⟨_, rfl⟩
  have K1x := Lib.hid (show Ta ⟨w, ⟨T, b, some ⟨g, 0, none⟩, n, m, v2, v3, v4⟩, F⟩ [] t1 w2 from ht1 ▸ K2.out)
  have HT1 := Lib.hid ht1
  clear ht1
  have HC1 := Lib.hid (show t1.s.cf = t.s.cf ∧ t1.fl = t.fl by rw [HT1.out]; exact ⟨rfl, rfl⟩)
  have e1 : tF = chgTo (twoH t) ip t1 n := by
   have q : n = t.s.po.length := LEN.out.1
   rw [HTF.out, HT1.out, q]; unfold changedM; rw [HX.out]; show (if edgeB x = true then t else _) = _; rw [if_neg (by rw [HED.out]; decide)]
  have HE1 := Lib.hid e1
  clear e1
  refine lz (wz6 (pT b 0) (pT b 0) (pT b 0) (pT b 6) (.slice (some ⟨g, 0, none⟩) n m) (iV (n : Nat)) (h5 := by have q : w2.cell? ⟨b, 6, none⟩ = some (.slice (some ⟨g, 0, none⟩) n m) := K1x.out.acell 6 rfl; go_simp) (h := wz1 (iV 0) (h := nz ?_)))
  go_upto_region 3 with fail
  go_loopw [24] (fun i wr => ∃ k : Nat, k ≤ n ∧ i = .int .i64 k ∧ Ta ⟨w, ⟨T, b, some ⟨g, 0, none⟩, n, m, v2, v3, v4⟩, F⟩ [] (chgTo (twoH t) ip t1 k) wr) (fun i _ => (n - intOf i).toNat)
  case atStart => exact ⟨0, Nat.zero_le _, rfl, K1x.out⟩
  case round =>
   obtain ⟨k, hk, rfl, hK⟩ := hrel
   obtain ⟨t2, ht2⟩ : ∃ z, z = chgTo (twoH t) ip t1 k := ⟨_, rfl⟩
   rw [← ht2] at hK
   have KR := Lib.hid hK
   have HT2 := Lib.hid ht2
   have HK := Lib.hid hk
   have HC2 := Lib.hid (show t2.s.cf = t.s.cf ∧ t2.fl.length ≤ t.fl.length + k by have q := chgTo_is (twoH t) ip t1 k; rw [← ht2] at q; have q2 := HC1.out; exact ⟨q.2.1.trans q2.1, by rw [← q2.2]; exact q.2.2.1⟩)
   clear hK ht2 hk
   have i1 : (n : Int) ≤ 100 := by have q : n ≤ 100 := KR.out.few; omega
   by_cases hlt : k < n
   case neg =>
    have HLT := Lib.hid hlt
    clear hlt
    go_upto_region 3 with fail
    refine lz (wz1 (.bool false) (h1 := by have q := HLT.out; go_simp) (h := nz ?_))
    have hkn : n = k := by have q1 := HK.out; have q2 := HLT.out; omega
    have KZ := Lib.hid (show Ta ⟨w, ⟨T, b, some ⟨g, 0, none⟩, n, m, v2, v3, v4⟩, F⟩ [] tF wr from by rw [show tF = t2 from by rw [HE1.out, hkn, ← HT2.out]]; exact KR.out)
    go_wp2_with fail
    go_end0
    exact ⟨rfl, by have q := KZ.out; rw [HF.out] at q; exact q.done⟩
   case pos =>
    have HLK := Lib.hid hlt
    obtain ⟨y, hy⟩ : ∃ y, t2.s.po[k]? = some y := ⟨_, List.getElem?_eq_getElem (show k < t2.s.po.length by have q1 : n = t2.s.po.length := KR.out.len.1; omega)⟩
    have HY := Lib.hid hy
    clear hy
    have HKB := Lib.hid (show (k : Int) < 100 by omega)
    have HFL := Lib.hid (show t2.fl.length ≤ 1000 by have q1 := HC2.out.2; have q2 := HFL0.out; omega)
    clear hlt
    go_upto_region 3 with fail
    refine lz (wz1 (.bool true) (h1 := by have q := HLK.out; go_simp) (h := nz ?_))
    go_upto_region 4 with fail
    refine lz (wz3 (iV (k : Nat)) (pT g (k * 21)) (.agg (poA y)) (h2 := by have q1 : k < n := HLK.out; have q2 : n ≤ m := LEN.out.2.1; go_simp) (h3 := by exact run_loadRange 73 _ rfl g (k * 21) rfl (poA y) _ (KR.out.prange rfl HY.out) Tryd.underlying73 rfl (po_info _)) (h := ?_))
    refine ta_alloc KR.out 73 (nil21) rfl z50 (by rfl) (pz (h := ?_))
    intro b4 w4 K4
    refine wz1 (iV (k : Nat)) (h := ?_)
    refine ta_row K4.out 0 rfl 73 _ _ (poA y) rfl rfl rfl rfl (size50) (by rfl) (po_all _) (py (h := ?_))
    intro w5 K5
    refine wpList_nil ?_
    go_upto_region 5 with fail
    by_cases hki : (k : Int) = (ip : Int)
    case pos =>
     have hkn : k = ip := by omega
     have HKI := Lib.hid hki
     clear hki
     have HKN := Lib.hid hkn
     clear hkn
     refine lz (wz4 (iV (k : Nat)) (iV (ip : Nat)) (.bool true) (.bool true) (h3 := by have q := HKI.out; go_simp) (h := wk (h := wk (h := wk (h := wz1 (.bool true) (h1 := by exact run_pick_yes (.tmp 32) (.const (.bool true)) (.tmp 35) _ rfl rfl rfl) (h := nz ?_))))))
     have K5y := Lib.hid (Ta.left (l := []) K5.out)
     have hlt := HLK.out
     go_wp2_with fail
     go_roundw
     case rel => exact ⟨k + 1, HLK.out, by go_num, by rw [show chgTo (twoH t) ip t1 (k + 1) = t2 from by show chgStep (twoH t) ip (chgTo (twoH t) ip t1 k) k = _; rw [← HT2.out]; unfold chgStep; rw [HY.out]; exact if_pos (Or.inl HKN.out)]; exact K5y.out⟩
     case measure => have := HLK.out; simp [intOf]; omega
    case neg =>
     have hkn : ¬ k = ip := by omega
     have HKI := Lib.hid hki
     clear hki
     have HKN := Lib.hid hkn
     clear hkn
     rcases (show innerB y = true ∨ innerB y = false by cases innerB y <;> simp) with hin | hin
     case inr =>
      have HIN := Lib.hid hin
      clear hin
      refine lz (wz5 (iV (k : Nat)) (iV (ip : Nat)) (.bool false) (.bool false) (.agg (poA y)) (h3 := by have q := HKI.out; go_simp) (h5 := by exact ta_all K5.out 0 rfl 73 _ rfl rfl Tryd.underlying73 rfl (size50)) (h := ?_))
      refine ta_call K5.out 75 #[.agg (poA y)] (.bool false) (by rfl) (by go_simp) (inner_is y false HIN.out w5) (py (h := ?_))
      intro w6 K6
      refine wz2 (.bool true) (.bool true) (h2 := by exact run_pick_no (.tmp 32) (.const (.bool true)) (.tmp 35) _ rfl rfl rfl) (h := nz ?_)
      have K6y := Lib.hid (Ta.left (l := []) K6.out)
      have hlt := HLK.out
      go_wp2_with fail
      go_roundw
      case rel => exact ⟨k + 1, HLK.out, by go_num, by rw [show chgTo (twoH t) ip t1 (k + 1) = t2 from by show chgStep (twoH t) ip (chgTo (twoH t) ip t1 k) k = _; rw [← HT2.out]; unfold chgStep; rw [HY.out]; exact if_pos (Or.inr HIN.out)]; exact K6y.out⟩
      case measure => have := HLK.out; simp [intOf]; omega
     case inl =>
      have HIN := Lib.hid hin
      clear hin
      refine lz (wz5 (iV (k : Nat)) (iV (ip : Nat)) (.bool false) (.bool false) (.agg (poA y)) (h3 := by have q := HKI.out; go_simp) (h5 := by exact ta_all K5.out 0 rfl 73 _ rfl rfl Tryd.underlying73 rfl (size50)) (h := ?_))
      refine ta_call K5.out 75 #[.agg (poA y)] (.bool true) (by rfl) (by go_simp) (inner_is y true HIN.out w5) (py (h := ?_))
      intro w6 K6
      refine wz2 (.bool false) (.bool false) (h2 := by exact run_pick_no (.tmp 32) (.const (.bool true)) (.tmp 35) _ rfl rfl rfl) (h := nz ?_)
      go_upto_region 6 with fail
      rcases (show linkB y = true ∨ linkB y = false by cases linkB y <;> simp) with hli | hli
      case inl =>
       have HLI := Lib.hid hli
       clear hli
       refine lz (wz1 (.agg (poA y)) (h1 := by exact ta_all K6.out 0 rfl 73 _ rfl rfl Tryd.underlying73 rfl (size50)) (h := ?_))
       refine ta_call K6.out 76 #[.agg (poA y)] (.bool true) (by rfl) (by go_simp) (linked_is y true HLI.out w6) (py (h := ?_))
       intro w7 K7
       refine wpList_nil ?_
       go_upto_region 7 with fail
       refine lz (wz2 (pT b 0) (iV (k : Nat)) (h := ?_))
       refine ta_act K7.out 74 #[.pointer (some ⟨b, 0, none⟩), .int .i64 (k : Nat)] (t2.setPo (t2.s.po.set k (chP y (twoH t2)))) (by rfl) (by go_simp) (fun tv fv h => alert_any h HY.out) (py (h := ?_))
       intro w8 K8
       refine wpList_nil ?_
       obtain ⟨t3, ht3⟩ : ∃ z, z = t2.setPo (t2.s.po.set k (chP y (twoH t2))) := ⟨_, rfl⟩
       have HT3 := Lib.hid ht3
       have K3x := Lib.hid (show Ta ⟨w, ⟨T, b, some ⟨g, 0, none⟩, n, m, v2, v3, v4⟩, F⟩ [(b4, poA y, 73)] t3 w8 from ht3 ▸ K8.out)
       clear ht3
       have HFL3 := Lib.hid (show t3.fl.length ≤ 1000 by rw [HT3.out]; exact HFL.out)
       go_upto_region 8 with fail
       obtain ⟨tv2, fv2, hA1, hA2, hA3⟩ := K3x.out.act
       have HA1 := Lib.hid hA1
       have HA2 := Lib.hid hA2
       have HA3 := Lib.hid hA3
       clear hA1 hA2 hA3
       have KF := Lib.hid (show w8.cell? ⟨b, 26, none⟩ = some fv2 from HA1.out.blk.cell 26)
       refine lz (wz6 (pT b 0) (pT b 0) (pT b 0) (pT b 25) (pT b 26) (fv2) (h6 := by have q := KF.out; go_simp) (h := wz2 (iV (k : Nat)) (iV ((k : Int) + 1)) (h2 := by have q := HKB.out; go_simp; try exact wrap_i64 (by omega) (by omega)) (h := ?_)))
       have AW1 := Lib.hid (ApW.made inT (ApW.start0 (x := ((k : Int) + 1)) (vS := undef) (vR := undef) HA1.out.of (Nat.zero_le _)) rfl #[.int .i64 ((k : Int) + 1)] rfl)
       refine wpList_made (.slice (some ⟨w8.heap.size, 0, none⟩) 1 1) (by rfl) (run_bs1 45 (.tmp 49) rfl (.int .i64 ((k : Int) + 1)) _ rfl (one_in ((k : Int) + 1) w8)) ?_
       (try simp only [Act.put, gA, gS, gZ, sA, sZ, sS])
       obtain ⟨vR, wA, hrun, hA⟩ := AW1.out.app inT rfl rfl (by have := HFL3.out; omega) 45
       obtain ⟨q', r', eu, -⟩ := (hA.pr rfl).shape
       subst eu
       have AW2 := Lib.hid hA
       refine wpList_append_lst rfl _ _ 45 rfl _ wA hrun ?_
       (try simp only [Act.put, gA, gS, gZ, sA, sZ, sS])
       clear hrun hA
       refine wz3 (pT b 0) (pT b 25) (pT b 26) (h := ?_)
       refine ta_flush K3x.out HA1.out HA2.out HA3.out AW2.out 45 _ _ rfl (by rfl) rfl rfl (fun W h1 h2 => by go_simp) ?_
       clear HA1 HA2 HA3 KF AW1 AW2
       intro w9 hk
       have K9 := Lib.hid (show Ta ⟨w, ⟨T, b, some ⟨g, 0, none⟩, n, m, v2, v3, v4⟩, F⟩ [(b4, poA y, 73)] ((t3.flush ((k : Int) + 1))) w9 from hk)
       clear hk
       (try simp only [Act.put, gA, gS, gZ, sA, sZ, sS])
       refine wpList_nil ?_
       have K9y := Lib.hid (Ta.left (l := []) K9.out)
       have hlt := HLK.out
       go_wp2_with fail
       go_roundw
       case rel => exact ⟨k + 1, HLK.out, by go_num, by rw [show chgTo (twoH t) ip t1 (k + 1) = (t3.flush ((k : Int) + 1)) from by show chgStep (twoH t) ip (chgTo (twoH t) ip t1 k) k = _; rw [← HT2.out]; unfold chgStep; rw [HY.out]; show (if _ then _ else _) = _; rw [if_neg (fun q => q.elim HKN.out (fun e => by rw [HIN.out] at e; exact Bool.noConfusion e))]; rw [if_pos HLI.out, HT3.out, twoH_cf HC2.out.1]]; exact K9y.out⟩
       case measure => have := HLK.out; simp [intOf]; omega
      case inr =>
       have HLI := Lib.hid hli
       clear hli
       refine lz (wz1 (.agg (poA y)) (h1 := by exact ta_all K6.out 0 rfl 73 _ rfl rfl Tryd.underlying73 rfl (size50)) (h := ?_))
       refine ta_call K6.out 76 #[.agg (poA y)] (.bool false) (by rfl) (by go_simp) (linked_is y false HLI.out w6) (py (h := ?_))
       intro w7 K7
       refine wpList_nil ?_
       obtain ⟨t3, ht3⟩ : ∃ z, z = t2 := ⟨_, rfl⟩
       have HT3 := Lib.hid ht3
       have K3x := Lib.hid (show Ta ⟨w, ⟨T, b, some ⟨g, 0, none⟩, n, m, v2, v3, v4⟩, F⟩ [(b4, poA y, 73)] t3 w7 from ht3 ▸ K7.out)
       clear ht3
       have HFL3 := Lib.hid (show t3.fl.length ≤ 1000 by rw [HT3.out]; exact HFL.out)
       go_upto_region 8 with fail
       obtain ⟨tv2, fv2, hA1, hA2, hA3⟩ := K3x.out.act
       have HA1 := Lib.hid hA1
       have HA2 := Lib.hid hA2
       have HA3 := Lib.hid hA3
       clear hA1 hA2 hA3
       have KF := Lib.hid (show w7.cell? ⟨b, 26, none⟩ = some fv2 from HA1.out.blk.cell 26)
       refine lz (wz6 (pT b 0) (pT b 0) (pT b 0) (pT b 25) (pT b 26) (fv2) (h6 := by have q := KF.out; go_simp) (h := wz2 (iV (k : Nat)) (iV ((k : Int) + 1)) (h2 := by have q := HKB.out; go_simp; try exact wrap_i64 (by omega) (by omega)) (h := ?_)))
       have AW1 := Lib.hid (ApW.made inT (ApW.start0 (x := ((k : Int) + 1)) (vS := undef) (vR := undef) HA1.out.of (Nat.zero_le _)) rfl #[.int .i64 ((k : Int) + 1)] rfl)
       refine wpList_made (.slice (some ⟨w7.heap.size, 0, none⟩) 1 1) (by rfl) (run_bs1 45 (.tmp 49) rfl (.int .i64 ((k : Int) + 1)) _ rfl (one_in ((k : Int) + 1) w7)) ?_
       (try simp only [Act.put, gA, gS, gZ, sA, sZ, sS])
       obtain ⟨vR, wA, hrun, hA⟩ := AW1.out.app inT rfl rfl (by have := HFL3.out; omega) 45
       obtain ⟨q', r', eu, -⟩ := (hA.pr rfl).shape
       subst eu
       have AW2 := Lib.hid hA
       refine wpList_append_lst rfl _ _ 45 rfl _ wA hrun ?_
       (try simp only [Act.put, gA, gS, gZ, sA, sZ, sS])
       clear hrun hA
       refine wz3 (pT b 0) (pT b 25) (pT b 26) (h := ?_)
       refine ta_flush K3x.out HA1.out HA2.out HA3.out AW2.out 45 _ _ rfl (by rfl) rfl rfl (fun W h1 h2 => by go_simp) ?_
       clear HA1 HA2 HA3 KF AW1 AW2
       intro w8 hk
       have K8 := Lib.hid (show Ta ⟨w, ⟨T, b, some ⟨g, 0, none⟩, n, m, v2, v3, v4⟩, F⟩ [(b4, poA y, 73)] ((t3.flush ((k : Int) + 1))) w8 from hk)
       clear hk
       (try simp only [Act.put, gA, gS, gZ, sA, sZ, sS])
       refine wpList_nil ?_
       have K8y := Lib.hid (Ta.left (l := []) K8.out)
       have hlt := HLK.out
       go_wp2_with fail
       go_roundw
       case rel => exact ⟨k + 1, HLK.out, by go_num, by rw [show chgTo (twoH t) ip t1 (k + 1) = (t3.flush ((k : Int) + 1)) from by show chgStep (twoH t) ip (chgTo (twoH t) ip t1 k) k = _; rw [← HT2.out]; unfold chgStep; rw [HY.out]; show (if _ then _ else _) = _; rw [if_neg (fun q => q.elim HKN.out (fun e => by rw [HIN.out] at e; exact Bool.noConfusion e))]; rw [if_neg (by rw [HLI.out]; decide), HT3.out]]; exact K8y.out⟩
       case measure => have := HLK.out; simp [intOf]; omega
end
section
open Go.RowKit
attribute [local irreducible] wpQuiet wpList
def roleT (r : Int) : Int := if r = 1 ∨ r = 2 then 1 else if r = 3 then 2 else if r = 4 then 3 else 0
def sentQ (x : Po) (q : Pd) : Pd := { q with p0 := 2, p7 := (roleT x.p10), p8 := x.p13, p9 := x.p14, p10 := x.p15, p11 := x.p16 }
def told1 (k : Int) (q : Pd) : Td := ⟨k, q.p0, q.p1, q.p2, q.p3, q.p4, q.p5, q.p6, q.p7, q.p8, q.p9, q.p10, q.p11, q.p12, q.p13, q.p14, q.p15⟩
def sendM (t : TS) (i : Nat) (q : Pd) : TS := match t.s.po[i]? with
 | some x => t.tell (told1 ((i : Int) + 1) (sentQ x q))
 | none => t
theorem role_tab {r : Int} (h : 0 ≤ r ∧ r ≤ 4) : ∃ j : Nat, j < 5 ∧ r = (j : Int) ∧ rolesA[j]? = some (.int .u8 (roleT r)) := by
 have e : r = 0 ∨ r = 1 ∨ r = 2 ∨ r = 3 ∨ r = 4 := by omega
 rcases e with rfl | rfl | rfl | rfl | rfl
 ·
  exact ⟨0, by decide, rfl, rfl⟩
 ·
  exact ⟨1, by decide, rfl, rfl⟩
 ·
  exact ⟨2, by decide, rfl, rfl⟩
 ·
  exact ⟨3, by decide, rfl, rfl⟩
 ·
  exact ⟨4, by decide, rfl, rfl⟩
set_option maxRecDepth 100000 in
theorem one_td (x : Td) : ∀ W : World, (Instr.buildSlice 44 1 #[(0, tdV x)]).run Tryd.prog W = .ok (.slice (some ⟨W.heap.size, 0, none⟩) 1 1) (W.alloc (.cells (tdA x) 89)) := fun W => by
 unfold tdV tdA
 have u := Tryd.underlying44
 go_simp
theorem built_td (k : Int) (q : Pd) : Tryd.prog.built 89 [(0, .int .i64 k), (1, .agg (pdA q))] = some (tdA (told1 k q)) := by kernel_rfl
structure SnCS (b n m g ip j : Nat) (x : Po) (q : Pd) (rt : Int) (b1 b2 : Nat) (qa : Option Addr) (ra : Nat) (t : TS) (f3 f4 : Value) (L : Nat → Bool) (v37 v38 v39 v40 v41 v42 v43 v44 v45 v46 v47 v48 v49 v50 v51 : Value) : Prop where
 e37 : L 0 = true → v37 = .pointer (some ⟨b, 0, none⟩)
 e38 : L 1 = true → v38 = .pointer (some ⟨b, 0, none⟩)
 e39 : L 2 = true → v39 = .pointer (some ⟨b, 0, none⟩)
 e40 : L 3 = true → v40 = .pointer (some ⟨b, 25, none⟩)
 e41 : L 4 = true → v41 = .pointer (some ⟨b, 25, none⟩)
 e42 : L 5 = true → v42 = .slice qa t.told.length ra
 e43 : L 6 = true → v43 = .int .i64 (ip : Nat)
 e44 : L 7 = true → v44 = .int .i64 ((ip : Int) + 1)
 e45 : L 8 = true → v45 = .agg (pdA { q with p0 := 2, p7 := rt, p8 := x.p13, p9 := x.p14, p10 := x.p15, p11 := x.p16 })
 e46 : L 9 = true → v46 = .agg (tdA (told1 ((ip : Int) + 1) { q with p0 := 2, p7 := rt, p8 := x.p13, p9 := x.p14, p10 := x.p15, p11 := x.p16 }))
 e49 : L 12 = true → v49 = .pointer (some ⟨b, 0, none⟩)
 e50 : L 13 = true → v50 = .pointer (some ⟨b, 25, none⟩)
 e51 : L 14 = true → v51 = .pointer (some ⟨b, 25, none⟩)
abbrev SnCF (b n m g ip j : Nat) (x : Po) (q : Pd) (rt : Int) (b1 b2 : Nat) (qa : Option Addr) (ra : Nat) (t : TS) (f3 f4 : Value) (v37 v38 v39 v40 v41 v42 v43 v44 v45 v46 v47 v48 v49 v50 v51 : Value) : Act := { tmps := #[.pointer (some ⟨b, 0, none⟩), .int .i64 (ip : Nat), .agg (pdA q), f3, f4, .pointer (some ⟨b1, 0, none⟩), .pointer (some ⟨b2, 0, none⟩), .pointer (some ⟨b, 0, none⟩), .pointer (some ⟨b, 0, none⟩), .pointer (some ⟨b, 0, none⟩), .pointer (some ⟨b, 6, none⟩), .slice (some ⟨g, 0, none⟩) n m, .int .i64 (ip : Nat), .pointer (some ⟨g, ip * 21, none⟩), .agg (poA x), .pointer (some ⟨b2, 10, none⟩), .int .i64 (j : Nat), .pointer (some ⟨0, j, none⟩), .int .u8 rt, .pointer (some ⟨b1, 0, none⟩), .pointer (some ⟨b1, 7, none⟩), .pointer (some ⟨b2, 13, none⟩), .pointer (some ⟨b2, 13, none⟩), .int .u64 x.p13, .pointer (some ⟨b2, 13, none⟩), .pointer (some ⟨b2, 14, none⟩), .int .u32 x.p14, .pointer (some ⟨b2, 13, none⟩), .pointer (some ⟨b2, 15, none⟩), .int .u64 x.p15, .pointer (some ⟨b2, 13, none⟩), .pointer (some ⟨b2, 16, none⟩), .int .u16 x.p16, .pointer (some ⟨b1, 8, none⟩), .pointer (some ⟨b1, 9, none⟩), .pointer (some ⟨b1, 10, none⟩), .pointer (some ⟨b1, 11, none⟩), v37, v38, v39, v40, v41, v42, v43, v44, v45, v46, v47, v48, v49, v50, v51], defers := [] }
def SnCI (b n m g ip j : Nat) (x : Po) (q : Pd) (rt : Int) (b1 b2 : Nat) (qa : Option Addr) (ra : Nat) (t : TS) (f3 f4 : Value) (w1 : World) (L : Nat → Bool) (ac : Act) (w : World) : Prop :=
 ∃ v37 v38 v39 v40 v41 v42 v43 v44 v45 v46 v47 v48 v49 v50 v51, ac = SnCF b n m g ip j x q rt b1 b2 qa ra t f3 f4 v37 v38 v39 v40 v41 v42 v43 v44 v45 v46 v47 v48 v49 v50 v51 ∧ SnCS b n m g ip j x q rt b1 b2 qa ra t f3 f4 L v37 v38 v39 v40 v41 v42 v43 v44 v45 v46 v47 v48 v49 v50 v51 ∧ ApW w1 0 89 17 tdC (.slice qa t.told.length ra) t.told (told1 ((ip : Int) + 1) { q with p0 := 2, p7 := rt, p8 := x.p13, p9 := x.p14, p10 := x.p15, p11 := x.p16 }) (L 10) (L 11) v47 v48 w
set_option maxRecDepth 100000 in
set_option maxHeartbeats 8000000 in
theorem send_any {T b n m : Nat} {a : Option Addr} {v2 v3 v4 tv fv : Value} {t : TS} {w : World} {ip : Nat} {x : Po} (q : Pd) (h : Tact w ⟨T, b, a, n, m, v2, v3, v4⟩ tv fv t) (hx : t.s.po[ip]? = some x) (hr : 0 ≤ x.p10 ∧ x.p10 ≤ 4) (htl : t.told.length ≤ 1000) : Calls Tryd.prog 61 #[.pointer (some ⟨b, 0, none⟩), .int .i64 (ip : Nat), pdV q] w fun e w' => e = .returned (.tuple #[]) ∧ Done w ⟨T, b, a, n, m, v2, v3, v4⟩ tv fv (sendM t ip q) w' := by
 obtain ⟨j, hj, hjr, hjt⟩ := role_tab hr
 obtain ⟨rt, hrt⟩ : ∃ z, z = roleT x.p10 := ⟨_, rfl⟩
 rw [← hrt] at hjt
 have HRT := Lib.hid hrt
 have HJ := Lib.hid hj
 have HJR := Lib.hid hjr
 have HJT := Lib.hid hjt
 have HTL := Lib.hid htl
 clear hr hj hjr hjt hrt htl
 have LEN := Lib.hid h.len
 obtain ⟨g, rfl⟩ : ∃ g, a = some ⟨g, 0, none⟩ := h.ptr hx
 have HX := Lib.hid hx
 have HLT := Lib.hid (show ip < n by have q := (List.getElem?_eq_some_iff.1 hx).1; have q2 := h.len.1; exact Nat.lt_of_lt_of_eq q q2.symm)
 clear hx
 obtain ⟨F, hF⟩ : ∃ F, F = foot ⟨T, b, some ⟨g, 0, none⟩, n, m, v2, v3, v4⟩ tv fv := ⟨_, rfl⟩
 have HF := Lib.hid hF
 have K := Lib.hid (show Ta ⟨w, ⟨T, b, some ⟨g, 0, none⟩, n, m, v2, v3, v4⟩, F⟩ [] t w from hF ▸ h.start)
 clear hF h
 go_enter Tryd.func61, Tryd.ntmps61
 go_upto_region 0 with fail
 have HKB := Lib.hid (show (ip : Int) < 100 by have q1 := HLT.out; have q2 : n ≤ 100 := K.out.few; omega)
 refine wp_region_lit ?_
 refine ta_box K.out 61 (.tmp 2) (pdA q) rfl rfl (by rfl) (pz (h := ?_))
 intro b1 w1 K1
 refine wpList_nil ?_
 go_upto_region 1 with fail
 refine lz (wz6 (pT b 0) (pT b 0) (pT b 0) (pT b 6) (.slice (some ⟨g, 0, none⟩) n m) (iV (ip : Nat)) (h5 := by have q : w1.cell? ⟨b, 6, none⟩ = some (.slice (some ⟨g, 0, none⟩) n m) := K1.out.acell 6 rfl; go_simp) (h := wz2 (pT g (ip * 21)) (.agg (poA x)) (h1 := by have q1 : ip < n := HLT.out; have q2 : n ≤ m := LEN.out.2.1; go_simp) (h2 := by exact run_loadRange 73 _ rfl g (ip * 21) rfl (poA x) _ (K1.out.prange rfl HX.out) Tryd.underlying73 rfl (po_info _)) (h := ?_)))
 refine ta_alloc K1.out 73 (nil21) rfl z50 (by rfl) (pz (h := ?_))
 intro b2 w2 K2
 refine ta_row K2.out 1 rfl 73 _ _ (poA x) rfl rfl rfl rfl (size50) (by rfl) (po_all _) (py (h := ?_))
 intro w3 K3
 refine wpList_nil ?_
 go_upto_region 2 with fail
 refine rk (fun (_ : Unit) => [pT b2 10, iV (j : Nat), pT 0 j, .int .u8 rt, pT b1 0, undef, pT b1 7, undef]) (fun _ Lx w' => Ta ⟨w, ⟨T, b, some ⟨g, 0, none⟩, n, m, v2, v3, v4⟩, F⟩ [(b1, pdA { q with p0 := (bif Lx 5 then 2 else q.p0), p7 := (bif Lx 7 then rt else q.p7) }, 61), (b2, poA x, 73)] (t) w') (()) [] [] [(1, fun _ => [(15, pT b2 10)]), (2, fun _ => [(16, iV (j : Nat))]), (3, fun _ => [(17, pT 0 j)]), (5, fun _ => [(19, pT b1 0)]), (7, fun _ => [(18, .int .u8 rt), (20, pT b1 7)])] [5, 7] (K3.out.drew) (fun _ _ _ _ => trivial) (fun _ L1 L2 _ e h => by (try dsimp only at h ⊢); rw [← e 5 (by decide), ← e 7 (by decide)]; exact h) ?_ ?_
 ·
  refine ⟨?_, ?_, ?_, ?_, ?_, trivial⟩ <;> (rintro _ Lx w' hw hL haft hdc ρ hc hf hG hs o ho; cases ho; try dsimp only [pT, iV, seen] at hw hs)
  ·
   exact sq (iV (j : Nat)) (by have q : w'.cell? ⟨b2, 10, none⟩ = some (iV x.p10) := Ta.cell (i := 1) hw rfl (by rfl); rw [HJR.out] at q; go_simp)
  ·
   exact sq (pT 0 j) (by have q1 : (j : Int) < 5 := (by have := HJ.out; omega); have q2 : ¬ (5 : Int) ≤ (j : Int) := (by omega); go_simp)
  ·
   exact sq (.int .u8 rt) (by have q := hw.roles j HJT.out; go_simp)
  ·
   obtain ⟨e19, _⟩ := hs
   exact ss 5 _ _ rfl ⟨b1, 0, none⟩ (.int .u8 2) e19 (hc _) (ta_run_set hw (i := 0) rfl 5 0 (.int .u8 (bif Lx 5 then 2 else q.p0)) (.int .u8 2) (by rfl) (fun W h1 h2 => by go_simp)) ⟨(), fun _ _ => rfl, rfl, ta_cast (Ta.set (i := 0) hw rfl 0 (.int .u8 2)) (by rfl)⟩
  ·
   obtain ⟨e18, e20, _⟩ := hs
   exact ss 5 _ _ rfl ⟨b1, 7, none⟩ (.int .u8 rt) e20 e18 (ta_run_set hw (i := 0) rfl 5 7 (.int .u8 (bif Lx 7 then rt else q.p7)) (.int .u8 rt) (by rfl) (fun W h1 h2 => by go_simp)) ⟨(), fun _ _ => rfl, rfl, ta_cast (Ta.set (i := 0) hw rfl 7 (.int .u8 rt)) (by rfl)⟩
 intro _ Lx w4 hw hall
 try dsimp only at hw
 simp only [pT, iV, List.toList_toArray, putsZ_some, putsZ_none, putsZ_nil, List.setIfInBounds_toArray, List.set_cons_zero, List.set_cons_succ]
 have hL5 := hall 5 (by decide)
 have hL7 := hall 7 (by decide)
 simp only [hL5, hL7, cond_true] at hw
 have K4 := Lib.hid hw
 clear hw hall hL5 hL7
 go_upto_region 3 with fail
 refine rk (fun (_ : Unit) => [pT b2 13, pT b2 13, .int .u64 x.p13, pT b2 13, pT b2 14, .int .u32 x.p14, pT b2 13, pT b2 15, .int .u64 x.p15, pT b2 13, pT b2 16, .int .u16 x.p16, pT b1 8, undef, pT b1 9, undef, pT b1 10, undef, pT b1 11, undef]) (fun _ Lx w' => Ta ⟨w, ⟨T, b, some ⟨g, 0, none⟩, n, m, v2, v3, v4⟩, F⟩ [(b1, pdA { q with p0 := 2, p7 := rt, p8 := (bif Lx 13 then x.p13 else q.p8), p9 := (bif Lx 15 then x.p14 else q.p9), p10 := (bif Lx 17 then x.p15 else q.p10), p11 := (bif Lx 19 then x.p16 else q.p11) }, 61), (b2, poA x, 73)] (t) w') (()) [] [(2, fun _ => ⟨b2, 13, none⟩), (5, fun _ => ⟨b2, 14, none⟩), (8, fun _ => ⟨b2, 15, none⟩), (11, fun _ => ⟨b2, 16, none⟩)] [(13, fun _ => [(23, .int .u64 x.p13), (33, pT b1 8)]), (15, fun _ => [(26, .int .u32 x.p14), (34, pT b1 9)]), (17, fun _ => [(29, .int .u64 x.p15), (35, pT b1 10)]), (19, fun _ => [(32, .int .u16 x.p16), (36, pT b1 11)])] [13, 15, 17, 19] (K4.out.drew) (fun _ Lx w' hw => ⟨fun _ => Ta.cell (i := 1) hw rfl (by rfl), fun _ => Ta.cell (i := 1) hw rfl (by rfl), fun _ => Ta.cell (i := 1) hw rfl (by rfl), fun _ => Ta.cell (i := 1) hw rfl (by rfl), trivial⟩) (fun _ L1 L2 _ e h => by (try dsimp only at h ⊢); rw [← e 13 (by decide), ← e 15 (by decide), ← e 17 (by decide), ← e 19 (by decide)]; exact h) ?_ ?_
 ·
  refine ⟨?_, ?_, ?_, ?_, trivial⟩ <;> (rintro _ Lx w' hw hL haft hdc ρ hc hf hG hs o ho; cases ho; try dsimp only [pT, iV, seen] at hw hs)
  ·
   obtain ⟨e23, e33, _⟩ := hs
   exact ss 29 _ _ rfl ⟨b1, 8, none⟩ (.int .u64 x.p13) e33 e23 (ta_run_set hw (i := 0) rfl 29 8 (.int .u64 (bif Lx 13 then x.p13 else q.p8)) (.int .u64 x.p13) (by rfl) (fun W h1 h2 => by go_simp)) ⟨(), fun _ _ => rfl, rfl, ta_cast (Ta.set (i := 0) hw rfl 8 (.int .u64 x.p13)) (by rfl)⟩
  ·
   obtain ⟨e26, e34, _⟩ := hs
   exact ss 36 _ _ rfl ⟨b1, 9, none⟩ (.int .u32 x.p14) e34 e26 (ta_run_set hw (i := 0) rfl 36 9 (.int .u32 (bif Lx 15 then x.p14 else q.p9)) (.int .u32 x.p14) (by rfl) (fun W h1 h2 => by go_simp)) ⟨(), fun _ _ => rfl, rfl, ta_cast (Ta.set (i := 0) hw rfl 9 (.int .u32 x.p14)) (by rfl)⟩
  ·
   obtain ⟨e29, e35, _⟩ := hs
   exact ss 29 _ _ rfl ⟨b1, 10, none⟩ (.int .u64 x.p15) e35 e29 (ta_run_set hw (i := 0) rfl 29 10 (.int .u64 (bif Lx 17 then x.p15 else q.p10)) (.int .u64 x.p15) (by rfl) (fun W h1 h2 => by go_simp)) ⟨(), fun _ _ => rfl, rfl, ta_cast (Ta.set (i := 0) hw rfl 10 (.int .u64 x.p15)) (by rfl)⟩
  ·
   obtain ⟨e32, e36, _⟩ := hs
   exact ss 59 _ _ rfl ⟨b1, 11, none⟩ (.int .u16 x.p16) e36 e32 (ta_run_set hw (i := 0) rfl 59 11 (.int .u16 (bif Lx 19 then x.p16 else q.p11)) (.int .u16 x.p16) (by rfl) (fun W h1 h2 => by go_simp)) ⟨(), fun _ _ => rfl, rfl, ta_cast (Ta.set (i := 0) hw rfl 11 (.int .u16 x.p16)) (by rfl)⟩
 intro _ Lx w5 hw hall
 try dsimp only at hw
 simp only [pT, iV, List.toList_toArray, putsZ_some, putsZ_none, putsZ_nil, List.setIfInBounds_toArray, List.set_cons_zero, List.set_cons_succ]
 have hL13 := hall 13 (by decide)
 have hL15 := hall 15 (by decide)
 have hL17 := hall 17 (by decide)
 have hL19 := hall 19 (by decide)
 simp only [hL13, hL15, hL17, hL19, cond_true] at hw
 have K5 := Lib.hid hw
 clear hw hall hL13 hL15 hL17 hL19
 go_upto_region 4 with fail
 obtain ⟨tv2, fv2, hA1, hA2, hA3⟩ := K5.out.act
 have HA1 := Lib.hid hA1
 have HA2 := Lib.hid hA2
 have HA3 := Lib.hid hA3
 clear hA1 hA2 hA3
 obtain ⟨qa, ra, ea, -⟩ := HA1.out.ot.shape
 subst ea
 have KF := Lib.hid (show ∀ W, w5.grownBy W (Value.slice qa t.told.length ra).ownBlock → W.cell? ⟨b, 25, none⟩ = some (.slice qa t.told.length ra) ∧ W.frozen? ⟨b, 25, none⟩ = false ∧ Blk W b1 (pdA { q with p0 := 2, p7 := rt, p8 := x.p13, p9 := x.p14, p10 := x.p15, p11 := x.p16 }) 61 from fun W hW => by
  have q1 := HA1.out.blk.grown hW (fun e => HA1.out.bt e.symm)
  exact ⟨q1.cell 25, q1.free 25, (K5.out.at (i := 0) rfl).grown hW (fun e => HA2.out _ (List.mem_cons_self ..) (.inr (.inr (.inl e.symm))))⟩)
 refine wp_region_lastW 15 (I := SnCI b n m g ip j x q rt b1 b2 qa ra t _ _ w5) (by kernel_rfl) (by kernel_rfl) (by kernel_rfl) ⟨_, _, _, _, _, _, _, _, _, _, _, _, _, _, _, rfl, ⟨(fun h => Bool.noConfusion h), (fun h => Bool.noConfusion h), (fun h => Bool.noConfusion h), (fun h => Bool.noConfusion h), (fun h => Bool.noConfusion h), (fun h => Bool.noConfusion h), (fun h => Bool.noConfusion h), (fun h => Bool.noConfusion h), (fun h => Bool.noConfusion h), (fun h => Bool.noConfusion h), (fun h => Bool.noConfusion h), (fun h => Bool.noConfusion h), (fun h => Bool.noConfusion h)⟩, ApW.start HA1.out.ot (Nat.zero_le _)⟩ ?_ ?_
 ·
  intro o ho Lx ac w' hI hL haft
  obtain ⟨v37, v38, v39, v40, v41, v42, v43, v44, v45, v46, v47, v48, v49, v50, v51, rfl, hs, hw⟩ := hI
  match o, ho with
  | 0, _ =>
   exact i_val rfl (.pointer (some ⟨b, 0, none⟩)) w' (by rfl) (by go_simp) ⟨(.pointer (some ⟨b, 0, none⟩)), v38, v39, v40, v41, v42, v43, v44, v45, v46, v47, v48, v49, v50, v51, rfl, { hs with e37 := fun _ => rfl }, hw⟩
  | 1, _ =>
   exact i_val rfl (.pointer (some ⟨b, 0, none⟩)) w' (by rfl) (by go_simp) ⟨v37, (.pointer (some ⟨b, 0, none⟩)), v39, v40, v41, v42, v43, v44, v45, v46, v47, v48, v49, v50, v51, rfl, { hs with e38 := fun _ => rfl }, hw⟩
  | 2, _ =>
   have e38x := hs.e38 (haft 1 (by decide))
   subst e38x
   exact i_val rfl (.pointer (some ⟨b, 0, none⟩)) w' (by rfl) (by go_simp) ⟨v37, (.pointer (some ⟨b, 0, none⟩)), (.pointer (some ⟨b, 0, none⟩)), v40, v41, v42, v43, v44, v45, v46, v47, v48, v49, v50, v51, rfl, { hs with e39 := fun _ => rfl }, hw⟩
  | 3, _ =>
   have e39x := hs.e39 (haft 2 (by decide))
   subst e39x
   exact i_val rfl (.pointer (some ⟨b, 25, none⟩)) w' (by rfl) (by go_simp) ⟨v37, v38, (.pointer (some ⟨b, 0, none⟩)), (.pointer (some ⟨b, 25, none⟩)), v41, v42, v43, v44, v45, v46, v47, v48, v49, v50, v51, rfl, { hs with e40 := fun _ => rfl }, hw⟩
  | 4, _ =>
   have e40x := hs.e40 (haft 3 (by decide))
   subst e40x
   exact i_val rfl (.pointer (some ⟨b, 25, none⟩)) w' (by rfl) (by go_simp) ⟨v37, v38, v39, (.pointer (some ⟨b, 25, none⟩)), (.pointer (some ⟨b, 25, none⟩)), v42, v43, v44, v45, v46, v47, v48, v49, v50, v51, rfl, { hs with e41 := fun _ => rfl }, hw⟩
  | 5, _ =>
   have e41x := hs.e41 (haft 4 (by decide))
   subst e41x
   exact i_val rfl (.slice qa t.told.length ra) w' (by rfl) (by have q := (KF.out w' hw.g).1; go_simp) ⟨v37, v38, v39, v40, (.pointer (some ⟨b, 25, none⟩)), (.slice qa t.told.length ra), v43, v44, v45, v46, v47, v48, v49, v50, v51, rfl, { hs with e42 := fun _ => rfl }, hw⟩
  | 6, _ =>
   exact i_val rfl (.int .i64 (ip : Nat)) w' (by rfl) (by go_simp) ⟨v37, v38, v39, v40, v41, v42, (.int .i64 (ip : Nat)), v44, v45, v46, v47, v48, v49, v50, v51, rfl, { hs with e43 := fun _ => rfl }, hw⟩
  | 7, _ =>
   have e43x := hs.e43 (haft 6 (by decide))
   subst e43x
   exact i_val rfl (.int .i64 ((ip : Int) + 1)) w' (by rfl) (by have q := HKB.out; go_simp; try exact wrap_i64 (by omega) (by omega)) ⟨v37, v38, v39, v40, v41, v42, (.int .i64 (ip : Nat)), (.int .i64 ((ip : Int) + 1)), v45, v46, v47, v48, v49, v50, v51, rfl, { hs with e44 := fun _ => rfl }, hw⟩
  | 8, _ =>
   exact i_val rfl (.agg (pdA { q with p0 := 2, p7 := rt, p8 := x.p13, p9 := x.p14, p10 := x.p15, p11 := x.p16 })) w' (by rfl) (run_loadVar_of 61 _ rfl b1 rfl 61 _ _ (KF.out w' hw.g).2.2 Tryd.underlying61 rfl (pd_info _)) ⟨v37, v38, v39, v40, v41, v42, v43, v44, (.agg (pdA { q with p0 := 2, p7 := rt, p8 := x.p13, p9 := x.p14, p10 := x.p15, p11 := x.p16 })), v46, v47, v48, v49, v50, v51, rfl, { hs with e45 := fun _ => rfl }, hw⟩
  | 9, _ =>
   have e44x := hs.e44 (haft 7 (by decide))
   subst e44x
   have e45x := hs.e45 (haft 8 (by decide))
   subst e45x
   exact i_val rfl (.agg (tdA (told1 ((ip : Int) + 1) { q with p0 := 2, p7 := rt, p8 := x.p13, p9 := x.p14, p10 := x.p15, p11 := x.p16 }))) w' (by rfl) (run_build_of 89 [(0, .tmp 44), (1, .tmp 45)] rfl _ (tdA (told1 ((ip : Int) + 1) { q with p0 := 2, p7 := rt, p8 := x.p13, p9 := x.p14, p10 := x.p15, p11 := x.p16 })) rfl (built_td _ _)) ⟨v37, v38, v39, v40, v41, v42, v43, (.int .i64 ((ip : Int) + 1)), (.agg (pdA { q with p0 := 2, p7 := rt, p8 := x.p13, p9 := x.p14, p10 := x.p15, p11 := x.p16 })), (.agg (tdA (told1 ((ip : Int) + 1) { q with p0 := 2, p7 := rt, p8 := x.p13, p9 := x.p14, p10 := x.p15, p11 := x.p16 }))), v47, v48, v49, v50, v51, rfl, { hs with e46 := fun _ => rfl }, hw⟩
  | 10, _ =>
   have e46x := hs.e46 (haft 9 (by decide))
   subst e46x
   exact i_val rfl (.slice (some ⟨w'.heap.size, 0, none⟩) 1 1) (w'.alloc (.cells (tdA (told1 ((ip : Int) + 1) { q with p0 := 2, p7 := rt, p8 := x.p13, p9 := x.p14, p10 := x.p15, p11 := x.p16 })) 89)) (by rfl) (run_bs1 44 (.tmp 46) rfl (tdV (told1 ((ip : Int) + 1) { q with p0 := 2, p7 := rt, p8 := x.p13, p9 := x.p14, p10 := x.p15, p11 := x.p16 })) _ rfl (one_td (told1 ((ip : Int) + 1) { q with p0 := 2, p7 := rt, p8 := x.p13, p9 := x.p14, p10 := x.p15, p11 := x.p16 }) w')) ⟨v37, v38, v39, v40, v41, v42, v43, v44, v45, (.agg (tdA (told1 ((ip : Int) + 1) { q with p0 := 2, p7 := rt, p8 := x.p13, p9 := x.p14, p10 := x.p15, p11 := x.p16 }))), (.slice (some ⟨w'.heap.size, 0, none⟩) 1 1), v48, v49, v50, v51, rfl, { hs with }, hw.made tdT hL _ rfl⟩
  | 11, _ =>
   have e42x := hs.e42 (haft 5 (by decide))
   subst e42x
   obtain ⟨u, w2, hrun, hw2⟩ := hw.app tdT (haft 10 (by decide)) hL (by have := HTL.out; omega) 44
   have hmk := haft 10 (by decide)
   exact i_wp rfl (by rfl) (wp_append_lst _ _ 44 rfl u w2 hrun ⟨v37, v38, v39, v40, v41, (.slice qa t.told.length ra), v43, v44, v45, v46, v47, u, v49, v50, v51, rfl, { hs with }, by rw [show upd Lx 11 10 = true from hmk]; exact hw2⟩)
  | 12, _ =>
   have e37x := hs.e37 (haft 0 (by decide))
   subst e37x
   exact i_val rfl (.pointer (some ⟨b, 0, none⟩)) w' (by rfl) (by go_simp) ⟨(.pointer (some ⟨b, 0, none⟩)), v38, v39, v40, v41, v42, v43, v44, v45, v46, v47, v48, (.pointer (some ⟨b, 0, none⟩)), v50, v51, rfl, { hs with e49 := fun _ => rfl }, hw⟩
  | 13, _ =>
   have e49x := hs.e49 (haft 12 (by decide))
   subst e49x
   exact i_val rfl (.pointer (some ⟨b, 25, none⟩)) w' (by rfl) (by go_simp) ⟨v37, v38, v39, v40, v41, v42, v43, v44, v45, v46, v47, v48, (.pointer (some ⟨b, 0, none⟩)), (.pointer (some ⟨b, 25, none⟩)), v51, rfl, { hs with e50 := fun _ => rfl }, hw⟩
  | 14, _ =>
   have e50x := hs.e50 (haft 13 (by decide))
   subst e50x
   exact i_val rfl (.pointer (some ⟨b, 25, none⟩)) w' (by rfl) (by go_simp) ⟨v37, v38, v39, v40, v41, v42, v43, v44, v45, v46, v47, v48, v49, (.pointer (some ⟨b, 25, none⟩)), (.pointer (some ⟨b, 25, none⟩)), rfl, { hs with e51 := fun _ => rfl }, hw⟩
  | k + 15, h =>
   exfalso
   have h2 : k + 15 < 15 := h
   omega
 intro Lx ac w' hI hall
 obtain ⟨v37, v38, v39, v40, v41, v42, v43, v44, v45, v46, v47, v48, v49, v50, v51, rfl, hs, hw⟩ := hI
 have e37y := hs.e37 (hall 0 (by decide))
 subst e37y
 have e38y := hs.e38 (hall 1 (by decide))
 subst e38y
 have e39y := hs.e39 (hall 2 (by decide))
 subst e39y
 have e40y := hs.e40 (hall 3 (by decide))
 subst e40y
 have e41y := hs.e41 (hall 4 (by decide))
 subst e41y
 have e42y := hs.e42 (hall 5 (by decide))
 subst e42y
 have e43y := hs.e43 (hall 6 (by decide))
 subst e43y
 have e44y := hs.e44 (hall 7 (by decide))
 subst e44y
 have e45y := hs.e45 (hall 8 (by decide))
 subst e45y
 have e46y := hs.e46 (hall 9 (by decide))
 subst e46y
 have e49y := hs.e49 (hall 12 (by decide))
 subst e49y
 have e50y := hs.e50 (hall 13 (by decide))
 subst e50y
 have e51y := hs.e51 (hall 14 (by decide))
 subst e51y
 have HA := Lib.hid hw
 rw [hall 10 (by decide), hall 11 (by decide)] at HA
 clear hs hall hw
 have GR := Lib.hid HA.out.g
 obtain ⟨q', r', eu, -⟩ := (HA.out.pr rfl).shape
 rw [show ((t).told ++ [(told1 ((ip : Int) + 1) { q with p0 := 2, p7 := rt, p8 := x.p13, p9 := x.p14, p10 := x.p15, p11 := x.p16 })]).length = (t).told.length + 1 from by simp] at eu
 subst eu
 have Q1 := (KF.out w' GR.out).1
 have Q2 := (KF.out w' GR.out).2.1
 refine i_skip rfl (w'.setCell ⟨b, 25, none⟩ (.slice q' ((t).told.length + 1) r')) (by rfl) (by go_simp) ?_
 have KN := Lib.hid (K5.out.tell HA1.out HA2.out HA3.out HA.out)
 have KZ := Lib.hid (show Ta ⟨w, ⟨T, b, some ⟨g, 0, none⟩, n, m, v2, v3, v4⟩, F⟩ [(b1, pdA { q with p0 := 2, p7 := rt, p8 := x.p13, p9 := x.p14, p10 := x.p15, p11 := x.p16 }, 61), (b2, poA x, 73)] (sendM t ip q) _ from by have e : sendM t ip q = t.tell (told1 ((ip : Int) + 1) { q with p0 := 2, p7 := rt, p8 := x.p13, p9 := x.p14, p10 := x.p15, p11 := x.p16 }) := (by unfold sendM; rw [HX.out]; show t.tell (told1 _ (sentQ x q)) = _; unfold sentQ; rw [HRT.out]); rw [e]; exact KN.out)
 go_wp2_with fail
 go_end0
 exact ⟨rfl, by have q := KZ.out; rw [HF.out] at q; exact q.done⟩
end
section
open Go.RowKit
attribute [local irreducible] wpQuiet wpList
def ageL (l : List Po) : Int := match l.find? (fun x => decide (x.p10 = 3)) with | some x => IntKind.i64.wrap (x.p17 + 1) | none => 0
theorem drop_at {l : List Po} {k : Nat} {x : Po} (hx : l[k]? = some x) : l.drop k = x :: l.drop (k + 1) := by
 have hk := (List.getElem?_eq_some_iff.1 hx).1
 rw [List.drop_eq_getElem_cons hk]
 congr 1
 rw [List.getElem?_eq_getElem hk] at hx
 injection hx
theorem age_yes {l : List Po} {k : Nat} {x : Po} (hx : l[k]? = some x) (h : x.p10 = 3) : ageL (l.drop k) = IntKind.i64.wrap (x.p17 + 1) := by
 rw [drop_at hx]
 simp [ageL, h]
theorem age_no {l : List Po} {k : Nat} {x : Po} (hx : l[k]? = some x) (h : ¬ x.p10 = 3) : ageL (l.drop k) = ageL (l.drop (k + 1)) := by
 rw [drop_at hx]
 simp [ageL, h]
set_option maxRecDepth 100000 in
set_option maxHeartbeats 8000000 in
theorem age_any {T b n m : Nat} {a : Option Addr} {v2 v3 v4 tv fv : Value} {t : TS} {w : World} (h : Tact w ⟨T, b, a, n, m, v2, v3, v4⟩ tv fv t) : Calls Tryd.prog 77 #[.pointer (some ⟨b, 0, none⟩)] w fun e w' => e = .returned (.int .i64 (ageL t.s.po)) ∧ Below w.heap.size w w' := by
 have LEN := Lib.hid h.len
 have HT := Lib.hid h.ready
 have K := Lib.hid (Kb.nil w)
 clear h
 go_enter Tryd.func77, Tryd.ntmps77
 go_upto_region 0 with fail
 refine lz (wz1 (iV 0) (h := nz ?_))
 go_upto_region 1 with fail
 refine lz (wz6 (pT b 0) (pT b 0) (pT b 0) (pT b 6) (.slice a n m) (iV (n : Nat)) (h5 := by have q : w.cell? ⟨b, 6, none⟩ = some (.slice a n m) := (HT.out _ K.out.below).acell 6 rfl; go_simp) (h := wz1 (iV 0) (h := nz ?_)))
 go_upto_region 2 with fail
 go_loopw [11] (fun i wr => ∃ k : Nat, k ≤ n ∧ i = .int .i64 k ∧ ageL t.s.po = ageL (t.s.po.drop k) ∧ Kb w [] wr) (fun i _ => (n - intOf i).toNat)
 case atStart => exact ⟨0, Nat.zero_le _, rfl, rfl, K.out⟩
 case round =>
  obtain ⟨k, hk, rfl, hdr, hK⟩ := hrel
  have KR := Lib.hid hK
  have HD := Lib.hid hdr
  have HK := Lib.hid hk
  clear hK hdr hk
  have i1 : (n : Int) ≤ 9223372036854775807 := by have q1 : n ≤ m := LEN.out.2.1; have q2 : m ≤ maxLen := LEN.out.2.2; unfold maxLen at q2; omega
  by_cases hlt : k < n
  case neg =>
   have HLT := Lib.hid hlt
   clear hlt
   go_upto_region 2 with fail
   refine lz (wz1 (.bool false) (h1 := by have q := HLT.out; go_simp) (h := nz ?_))
   go_upto_region 7 with fail
   refine lz (wz1 (iV 0) (h := nz ?_))
   go_wp2_with fail
   go_ret
   have e : t.s.po.drop k = [] := List.drop_eq_nil_of_le (by have q1 : n = t.s.po.length := LEN.out.1; have q2 := HLT.out; omega)
   exact ⟨by rw [HD.out, e]; rfl, KR.out.below⟩
  case pos =>
   obtain ⟨x, hx⟩ : ∃ x, t.s.po[k]? = some x := ⟨_, List.getElem?_eq_getElem (show k < t.s.po.length by have q1 : n = t.s.po.length := LEN.out.1; omega)⟩
   obtain ⟨g, rfl⟩ : ∃ g, a = some ⟨g, 0, none⟩ := (HT.out w (Below.refl _ _)).ptr hx
   have HX := Lib.hid hx
   clear hx
   have HLT := Lib.hid hlt
   clear hlt
   go_upto_region 2 with fail
   refine lz (wz1 (.bool true) (h1 := by have q := HLT.out; go_simp) (h := nz ?_))
   go_upto_region 3 with fail
   refine lz (wz2 (pT g (k * 21)) (.agg (poA x)) (h1 := by have q1 : k < n := HLT.out; have q2 : n ≤ m := LEN.out.2.1; go_simp) (h2 := by exact run_loadRange 73 _ rfl g (k * 21) rfl (poA x) _ ((HT.out _ KR.out.below).prange rfl HX.out) Tryd.underlying73 rfl (po_info _)) (h := ?_))
   refine kb_alloc KR.out 73 (nil21) rfl z50 (by rfl) (pz (h := ?_))
   intro b2 w2 K2
   refine kb_row K2.out 0 rfl 73 _ _ (poA x) rfl rfl rfl rfl (size50) (by rfl) (po_all _) (py (h := ?_))
   intro w3 K3
   refine wpList_nil ?_
   go_upto_region 4 with fail
   by_cases h3 : x.p10 = 3
   case pos =>
    have H3 := Lib.hid h3
    clear h3
    refine lz (wz3 (pT b2 10) (iV x.p10) (.bool true) (h2 := by have q : w3.cell? ⟨b2, 10, none⟩ = some (iV x.p10) := K3.out.cell (i := 0) rfl (by rfl); go_simp) (h3 := by have q := H3.out; go_simp) (h := nz ?_))
    go_upto_region 5 with fail
    refine lz (wz4 (pT b2 17) (iV x.p17) (iV (IntKind.i64.wrap (x.p17 + 1))) (iV (IntKind.i64.wrap (x.p17 + 1))) (h2 := by have q : w3.cell? ⟨b2, 17, none⟩ = some (iV x.p17) := K3.out.cell (i := 0) rfl (by rfl); go_simp) (h := nz ?_))
    go_wp2_with fail
    go_ret
    exact ⟨by rw [HD.out, age_yes HX.out H3.out]; rfl, K3.out.below⟩
   case neg =>
    have H3 := Lib.hid h3
    clear h3
    refine lz (wz3 (pT b2 10) (iV x.p10) (.bool false) (h2 := by have q : w3.cell? ⟨b2, 10, none⟩ = some (iV x.p10) := K3.out.cell (i := 0) rfl (by rfl); go_simp) (h3 := by have q := H3.out; go_simp) (h := nz ?_))
    have K3y := Lib.hid (Kb.left (l := []) K3.out)
    have hkb : (k : Int) < n := by have := HLT.out; omega
    go_wp2_with fail
    go_roundw
    case rel => exact ⟨k + 1, HLT.out, by go_num, by rw [HD.out, age_no HX.out H3.out], K3y.out⟩
    case measure => have := HLT.out; simp [intOf]; omega
end
end Go.Proofs.YteeinlbhcdpnnaaDoor
