import Derived.Test.YtelohoomlgjjmaaDoorG21
set_option linter.unusedSimpArgs false
set_option linter.unusedVariables false
namespace Go.Proofs.YtelohoomlgjjmaaDoor
section
/- PlaneShut walked. -/
open Go.RowKit
attribute [local irreducible] wpQuiet wpList

theorem shut_cases {ps : List Po} {r : Nat} (h : shutP ps (r : Int)) : (r : Int) < 1 ∨ (1 ≤ (r : Int) ∧ (ps.length : Int) < (r : Int)) ∨ (∃ (k : Nat) (p : Po), r = k + 1 ∧ k < ps.length ∧ ps[k]? = some p ∧ onP p = false) ∨ ∃ (k : Nat) (p : Po), r = k + 1 ∧ k < ps.length ∧ ps[k]? = some p ∧ onP p = true ∧ p.p11 = 0 := by
  by_cases c1 : (r : Int) < 1
  · exact .inl c1
  · by_cases c2 : (ps.length : Int) < (r : Int)
    · exact .inr (.inl ⟨by omega, c2⟩)
    · rcases h with h | h | ⟨p, hp, h⟩
      · exact absurd h c1
      · exact absurd h c2
      · have e : ((r : Int) - 1).toNat = r - 1 := by omega
        rw [e] at hp
        cases c : onP p with
        | false => exact .inr (.inr (.inl ⟨r - 1, p, by omega, by omega, hp, c⟩))
        | true => exact .inr (.inr (.inr ⟨r - 1, p, by omega, by omega, hp, c, h.resolve_left (by rw [c]; decide)⟩))
theorem RowsAt.same' {α : Type} {w w' : World} {A : Option Addr} {size : Nat} {enc : α → List Value} {l : List α} (h : RowsAt w A size enc l) (hb : Below w.heap.size w w') : RowsAt w' A size enc l := h.same hb
set_option maxRecDepth 100000 in
set_option maxHeartbeats 8000000 in
theorem shut_walk (x : Py) (hx : x.ok) (lp : List Lp) (lst : List (Nat × Nat)) (fs : List Fg) (ap az af : Option Addr) (np mp ns ms nf mf : Nat) (w : World) (hW : WhysAt w) (hp : RowsAt w ap 5 lpC lp) (hs : RowsAt w az 2 stC lst) (hf : RowsAt w af 6 fgC fs) (hlp : lp.length = np) (hls : lst.length = ns) (hlf : fs.length = nf) (hmp : np ≤ mp ∧ mp ≤ maxLen) (hms : ns ≤ ms ∧ ms ≤ maxLen) (hmf : nf ≤ mf ∧ mf ≤ maxLen) (hok : ∀ y ∈ lp, y.ok) (hst : ∀ p ∈ lst, p.1 < 65536 ∧ p.2 < 65536) (hfo : ∀ y ∈ fs, y.ok) : Calls Tryd.prog 4 #[.agg (plA x (.slice ap np mp) (.slice az ns ms) (.slice af nf mf))] w fun e w' => e = .returned (.bool true) ∧ Below w.heap.size w w' := by
  have HWY := Lib.hid hW
  have HX := Lib.hid hx
  have HP := Lib.hid hp
  have HS := Lib.hid hs
  have HF := Lib.hid hf
  have HLP := Lib.hid hlp
  have HLS := Lib.hid hls
  have HLF := Lib.hid hlf
  have HMP := Lib.hid hmp
  have HMS := Lib.hid hms
  have HMF := Lib.hid hmf
  have HOK := Lib.hid hok
  have HST := Lib.hid hst
  have HFO := Lib.hid hfo
  have i2 : (nf : Int) ≤ 9223372036854775807 := by unfold maxLen at hmf; omega
  have i4 : (nf : Int) ≤ (mf : Int) := by omega
  have K0 := Lib.hid (Kx.start (Kb.nil w))
  obtain ⟨V, hV⟩ : ∃ V, V = madeV x 3 := ⟨_, rfl⟩
  obtain ⟨T, hT⟩ : ∃ T, T = madeT (lst.take 6) := ⟨_, rfl⟩
  obtain ⟨ps, hps⟩ : ∃ ps, ps = (lp.take 8).map madeP := ⟨_, rfl⟩
  have HPO := Lib.hid (show ∀ y ∈ ps, PoOk y by rw [hps]; intro y hy; obtain ⟨z, -, rfl⟩ := List.mem_map.1 hy; exact madeP_ok z)
  have HMK := Lib.hid (show ∀ W, Below w.heap.size w W → Calls Tryd.prog 6 #[.agg (plA x (.slice ap np mp) (.slice az ns ms) (.slice af nf mf))] W fun e w' => ∃ v, e = .returned v ∧ ∃ (i : Ix) (a : Option Addr) (n m : Nat), v = .tuple #[.agg (t3A i), .slice a n m] ∧ 1 ≤ i.mo ∧ ps.length = n ∧ n ≤ m ∧ m ≤ maxLen ∧ Kx W [] ((bdT W i V T []).and (bdO W.heap.size 58 21 poC (.slice a n m) ps)) w' ∧ ∀ k, (Value.slice a n m).ownBlock = some k → ¬ (bdT W i V T []).f k from fun W hW => by
    rw [hV, hT, hps]
    exact (made_any x hx lp lst _ ap az np mp ns ms W (hp.same' hW) (hs.same' hW) hlp hls hmp hms hok hst).mono fun e w' h => by
      obtain ⟨i, a, n, m, q1, q2, q3, q4, q5, q6, q7, q8⟩ := h
      exact ⟨_, q1, i, a, n, m, rfl, by rw [q2]; omega, q4, q5, q6, q7, q8⟩)
  clear hW hx hp hs hf hlp hls hlf hmp hms hmf hok hst hfo hV hT hps
  go_enter Tryd.func4, Tryd.ntmps4
  go_upto_region 0 with fail
  refine wp_region_lit ?_
  refine kx_box K0.out 29 (.tmp 0) (plA x (.slice ap np mp) (.slice az ns ms) (.slice af nf mf)) rfl rfl (by rfl) ?_
  intro b1 w1 hb1 hk
  have K1 := Lib.hid (show Kx w [(b1, plA x (.slice ap np mp) (.slice az ns ms) (.slice af nf mf), 29)] (Bd.nil) w1 from hk)
  clear hk hb1
  (try simp only [Act.put, gA, gS, gZ, sA, sZ, sS])
  refine wv (.bool false) ?_
  (try simp only [Act.put, gA, gS, gZ, sA, sZ, sS])
  refine wpList_nil ?_
  go_upto_region 1 with fail
  refine wp_region_lit ?_
  refine kx_call K1.out 5 #[] (.bool true) (by rfl) (by go_simp) (speaks19_any _ (HWY.out.next K1.out.below HWY.out.lt)) ?_
  intro w2 hk
  have K2 := Lib.hid (show Kx w [(b1, plA x (.slice ap np mp) (.slice az ns ms) (.slice af nf mf), 29)] (Bd.nil) w2 from hk)
  clear hk
  (try simp only [Act.put, gA, gS, gZ, sA, sZ, sS])
  refine wv (.bool false) ?_
  (try simp only [Act.put, gA, gS, gZ, sA, sZ, sS])
  refine wpList_nil ?_
  go_upto_region 3 with fail
  refine wp_region_lit ?_
  refine wv (.agg (plA x (.slice ap np mp) (.slice az ns ms) (.slice af nf mf))) ?_ (hrun := kx_all K2.out 0 rfl 29 _ rfl rfl Tryd.underlying29 rfl (plSize))
  (try simp only [Act.put, gA, gS, gZ, sA, sZ, sS])
  refine wl_call (R := fun v wz => ∃ (i : Ix) (a : Option Addr) (n m : Nat), v = .tuple #[.agg (t3A i), .slice a n m] ∧ 1 ≤ i.mo ∧ ps.length = n ∧ n ≤ m ∧ m ≤ maxLen ∧ Kx w2 [] ((bdT w2 i V T []).and (bdO w2.heap.size 58 21 poC (.slice a n m) ps)) wz ∧ ∀ k, (Value.slice a n m).ownBlock = some k → ¬ (bdT w2 i V T []).f k) 6 #[.agg (plA x (.slice ap np mp) (.slice az ns ms) (.slice af nf mf))] (by rfl) (by go_simp) (HMK.out _ K2.out.below) ?_
  rintro _ w10 ⟨i, a, n, m, rfl, hmo, hn, hnm, hmx, hk, hdis⟩
  have K10 := Lib.hid (show Kx w [(b1, plA x (.slice ap np mp) (.slice az ns ms) (.slice af nf mf), 29)] ((bdT w i V T []).and ((bdO w.heap.size 58 21 poC (.slice a n m) ps).and Bd.nil)) w10 from (K2.out.made hk).turn (fun h => ⟨h.2.1, h.2.2, trivial⟩) (fun k q => by rcases q with q | q | q; exact .inr (.inl q); exact .inr (.inr q); exact q.elim))
  have HDS := Lib.hid (show ∀ lf k, ((bdO w.heap.size 58 21 poC (.slice a n m) ps).and Bd.nil).f k → ¬ (bdT w i V T lf).f k from fun lf k q => by rcases q with q | q; exact hdis k q; exact q.elim)
  have HMO := Lib.hid hmo
  have HN := Lib.hid hn
  have HMX := Lib.hid (And.intro hnm hmx)
  have i5 : (n : Int) ≤ 9223372036854775807 := by unfold maxLen at hmx; omega
  have i6 : (n : Int) ≤ (m : Int) := by omega
  clear hk hdis hmo hn hnm hmx
  (try simp only [Act.put, gA, gS, gZ, sA, sZ, sS])
  refine wv (.tuple #[.agg (t3A i), .slice a n m]) ?_
  (try simp only [Act.put, gA, gS, gZ, sA, sZ, sS])
  refine wv (.agg (t3A i)) ?_
  (try simp only [Act.put, gA, gS, gZ, sA, sZ, sS])
  refine wv (.slice a n m) ?_
  (try simp only [Act.put, gA, gS, gZ, sA, sZ, sS])
  refine kx_alloc K10.out 35 (#[.pointer none, .pointer none, .pointer none]) rfl zT (by rfl) ?_
  intro b11 w11 hb11 hk
  have K11 := Lib.hid (show Kx w [(b1, plA x (.slice ap np mp) (.slice az ns ms) (.slice af nf mf), 29), (b11, #[.pointer none, .pointer none, .pointer none], 35)] ((bdT w i V T []).and ((bdO w.heap.size 58 21 poC (.slice a n m) ps).and Bd.nil)) w11 from hk)
  clear hk hb11
  (try simp only [Act.put, gA, gS, gZ, sA, sZ, sS])
  refine kx_row K11.out 1 rfl 35 _ _ (t3A i) rfl rfl rfl rfl (t3Size) (by rfl) (t3_one i) ?_
  intro w12 hk
  have K12 := Lib.hid (show Kx w [(b1, plA x (.slice ap np mp) (.slice az ns ms) (.slice af nf mf), 29), (b11, t3A i, 35)] ((bdT w i V T []).and ((bdO w.heap.size 58 21 poC (.slice a n m) ps).and Bd.nil)) w12 from hk)
  clear hk
  (try simp only [Act.put, gA, gS, gZ, sA, sZ, sS])
  refine wv (.slice a n m) ?_
  (try simp only [Act.put, gA, gS, gZ, sA, sZ, sS])
  refine wpList_nil ?_
  go_upto_region 4 with fail
  refine wp_region_lit ?_
  refine wv (.int .i64 0) ?_
  (try simp only [Act.put, gA, gS, gZ, sA, sZ, sS])
  refine wpList_nil ?_
  go_upto_region 5 with fail
  go_loopw [5] (fun q wr => ∃ (k : Nat) (lf : List En), k ≤ nf ∧ k ≤ 40 ∧ lf.length ≤ k ∧ q = .int .i64 k ∧ Kx w [(b1, plA x (.slice ap np mp) (.slice az ns ms) (.slice af nf mf), 29), (b11, t3A i, 35)] ((bdT w i V T lf).and ((bdO w.heap.size 58 21 poC (.slice a n m) ps).and Bd.nil)) wr) (fun q _ => nf - (intOf q).toNat)
  case atStart => exact ⟨0, [], Nat.zero_le _, Nat.zero_le _, Nat.le_refl _, rfl, K12.out⟩
  case round =>
    obtain ⟨k, lf, hk, hk40, hlf, rfl, hK⟩ := hrel
    have KR := Lib.hid hK
    have HKK := Lib.hid (And.intro hk (And.intro hk40 hlf))
    clear hK K12 hk hk40 hlf
    by_cases c0 : k < nf ∧ k < 40
    case neg =>
      have hex : k = nf ∨ (k < nf ∧ k = 40) := by have := HKK.out; omega
      have c6 : (0 : Int) ≤ (k : Int) := by omega
      clear c0
      rcases hex with c1 | ⟨c1, c2⟩
      case' inl =>
        have c3 : nf ≤ k := by omega
        clear c1
        go_upto_region 5 with fail
        refine wp_region_lit ?_
        refine wv (.int .i64 (k : Nat)) ?_
        (try simp only [Act.put, gA, gS, gZ, sA, sZ, sS])
        refine wv (.pointer (some ⟨b1, 9, none⟩)) ?_
        (try simp only [Act.put, gA, gS, gZ, sA, sZ, sS])
        refine wv (.slice af nf mf) ?_ (hrun := by have q : wr.cell? ⟨b1, 9, none⟩ = some (.slice af nf mf) := KR.out.cell (i := 0) rfl (by rfl); go_simp)
        (try simp only [Act.put, gA, gS, gZ, sA, sZ, sS])
        refine wv (.int .i64 (nf : Nat)) ?_
        (try simp only [Act.put, gA, gS, gZ, sA, sZ, sS])
        refine wv (.bool false) ?_ (hrun := by go_simp <;> omega)
        (try simp only [Act.put, gA, gS, gZ, sA, sZ, sS])
        refine wv (.bool false) ?_
        (try simp only [Act.put, gA, gS, gZ, sA, sZ, sS])
        refine wpList_skip (by kernel_rfl) ?_
        (try simp only [Act.put, gA, gS, gZ, sA, sZ, sS])
        refine wpList_skip (by kernel_rfl) ?_
        (try simp only [Act.put, gA, gS, gZ, sA, sZ, sS])
        refine wv (.bool false) ?_ (hrun := run_pick_no (.tmp 25) (.tmp 27) (.const (.bool false)) _ rfl rfl rfl)
        (try simp only [Act.put, gA, gS, gZ, sA, sZ, sS])
        refine wpList_nil ?_
      case' inr =>
        have c3 : (k : Int) < (nf : Int) := by omega
        have c4 : decide ((k : Int) < 40) = false := decide_eq_false (by omega)
        clear c1 c2
        go_upto_region 5 with fail
        refine wp_region_lit ?_
        refine wv (.int .i64 (k : Nat)) ?_
        (try simp only [Act.put, gA, gS, gZ, sA, sZ, sS])
        refine wv (.pointer (some ⟨b1, 9, none⟩)) ?_
        (try simp only [Act.put, gA, gS, gZ, sA, sZ, sS])
        refine wv (.slice af nf mf) ?_ (hrun := by have q : wr.cell? ⟨b1, 9, none⟩ = some (.slice af nf mf) := KR.out.cell (i := 0) rfl (by rfl); go_simp)
        (try simp only [Act.put, gA, gS, gZ, sA, sZ, sS])
        refine wv (.int .i64 (nf : Nat)) ?_
        (try simp only [Act.put, gA, gS, gZ, sA, sZ, sS])
        refine wv (.bool true) ?_
        (try simp only [Act.put, gA, gS, gZ, sA, sZ, sS])
        refine wv (.bool true) ?_
        (try simp only [Act.put, gA, gS, gZ, sA, sZ, sS])
        refine wv (.int .i64 (k : Nat)) ?_
        (try simp only [Act.put, gA, gS, gZ, sA, sZ, sS])
        refine wv (.bool false) ?_
        (try simp only [Act.put, gA, gS, gZ, sA, sZ, sS])
        refine wv (.bool false) ?_ (hrun := run_pick_yes (.tmp 25) (.tmp 27) (.const (.bool false)) _ rfl rfl rfl)
        (try simp only [Act.put, gA, gS, gZ, sA, sZ, sS])
        refine wpList_nil ?_
      all_goals
        go_wp2_with fail
        go_ret
        exact ⟨rfl, KR.out.below⟩
    case pos =>
      obtain ⟨c1, c2⟩ := c0
      have HLT := Lib.hid (And.intro c1 c2)
      obtain ⟨y, hy⟩ : ∃ y, fs[k]? = some y := ⟨_, List.getElem?_eq_getElem (by rw [HLF.out]; exact c1)⟩
      have hyo := HFO.out y (List.mem_of_getElem? hy)
      obtain ⟨g, off, haf, hrow⟩ := rows_range HF.out hy
      subst haf
      have HROW := Lib.hid hrow
      obtain ⟨Y, hY⟩ : ∃ Y, Y = ofM y := ⟨_, rfl⟩
      have HYO := Lib.hid (show Y.ok by rw [hY]; exact ofM_ok y hyo)
      have HOF := Lib.hid (show ∀ W, Calls Tryd.prog 7 #[.agg (fgA y)] W fun e w' => e = .returned (.agg (fA Y)) ∧ Below W.heap.size W w' from fun W => by rw [hY]; exact frof_any y hyo W)
      obtain ⟨r, hr, lr⟩ : ∃ r : Nat, r = y.po % 10 ∧ r < 10 := ⟨_, rfl, Nat.mod_lt _ (by decide)⟩
      have HRR := Lib.hid (show (y.po : Int) % 10 = (r : Int) ∧ (r : Int) < 10 by omega)
      have HYI := Lib.hid (show (y.po : Int) < 256 by have := hyo.1; omega)
      obtain ⟨aq, ha1, hs1⟩ := HYO.out.sa
      obtain ⟨ad, ha2, hd2⟩ := HYO.out.dd
      have HAQ := Lib.hid (And.intro ha1 hs1)
      have HAD := Lib.hid (And.intro ha2 hd2)
      have c4 : (k : Int) < (nf : Int) := by omega
      have c5 : (k : Int) < 40 := by omega
      have c6 : (0 : Int) ≤ (k : Int) := by omega
      obtain ⟨nl, hnl⟩ : ∃ nl, nl = lf.length := ⟨_, rfl⟩
      have HNL := Lib.hid hnl
      clear hy hyo hrow hY hr lr ha1 hs1 ha2 hd2 hnl
      go_upto_region 5 with fail
      refine wp_region_lit ?_
      refine wv (.int .i64 (k : Nat)) ?_
      (try simp only [Act.put, gA, gS, gZ, sA, sZ, sS])
      refine wv (.pointer (some ⟨b1, 9, none⟩)) ?_
      (try simp only [Act.put, gA, gS, gZ, sA, sZ, sS])
      refine wv (.slice (some ⟨g, off, none⟩) nf mf) ?_ (hrun := by have q : wr.cell? ⟨b1, 9, none⟩ = some (.slice (some ⟨g, off, none⟩) nf mf) := KR.out.cell (i := 0) rfl (by rfl); go_simp)
      (try simp only [Act.put, gA, gS, gZ, sA, sZ, sS])
      refine wv (.int .i64 (nf : Nat)) ?_
      (try simp only [Act.put, gA, gS, gZ, sA, sZ, sS])
      refine wv (.bool true) ?_
      (try simp only [Act.put, gA, gS, gZ, sA, sZ, sS])
      refine wv (.bool true) ?_
      (try simp only [Act.put, gA, gS, gZ, sA, sZ, sS])
      refine wv (.int .i64 (k : Nat)) ?_
      (try simp only [Act.put, gA, gS, gZ, sA, sZ, sS])
      refine wv (.bool true) ?_
      (try simp only [Act.put, gA, gS, gZ, sA, sZ, sS])
      refine wv (.bool true) ?_ (hrun := run_pick_yes (.tmp 25) (.tmp 27) (.const (.bool false)) _ rfl rfl rfl)
      (try simp only [Act.put, gA, gS, gZ, sA, sZ, sS])
      refine wpList_nil ?_
      go_upto_region 7 with fail
      refine wp_region_lit ?_
      refine wv (.pointer (some ⟨b1, 9, none⟩)) ?_
      (try simp only [Act.put, gA, gS, gZ, sA, sZ, sS])
      refine wv (.slice (some ⟨g, off, none⟩) nf mf) ?_ (hrun := by have q : wr.cell? ⟨b1, 9, none⟩ = some (.slice (some ⟨g, off, none⟩) nf mf) := KR.out.cell (i := 0) rfl (by rfl); go_simp)
      (try simp only [Act.put, gA, gS, gZ, sA, sZ, sS])
      refine wv (.int .i64 (k : Nat)) ?_
      (try simp only [Act.put, gA, gS, gZ, sA, sZ, sS])
      refine wv (.pointer (some ⟨g, off + k * 6, none⟩)) ?_ (hrun := by have q0 := HLT.out; have q1 := HMF.out; go_simp)
      (try simp only [Act.put, gA, gS, gZ, sA, sZ, sS])
      refine wv (.agg (fgA y)) ?_ (hrun := run_loadRange 45 _ rfl g (off + k * 6) rfl (fgA y) _ (HROW.out _ KR.out.below) Tryd.underlying45 rfl (fgSize))
      (try simp only [Act.put, gA, gS, gZ, sA, sZ, sS])
      refine kx_call KR.out 7 #[.agg (fgA y)] (.agg (fA Y)) (by rfl) (by go_simp) (HOF.out _) ?_
      intro w21 hk
      have K21 := Lib.hid (show Kx w [(b1, plA x (.slice ap np mp) (.slice az ns ms) (.slice (some ⟨g, off, none⟩) nf mf), 29), (b11, t3A i, 35)] ((bdT w i V T lf).and ((bdO w.heap.size 58 21 poC (.slice a n m) ps).and Bd.nil)) w21 from hk)
      clear hk
      (try simp only [Act.put, gA, gS, gZ, sA, sZ, sS])
      refine kx_alloc K21.out 42 (nil18) rfl z18 (by rfl) ?_
      intro b22 w22 hb22 hk
      have K22 := Lib.hid (show Kx w [(b1, plA x (.slice ap np mp) (.slice az ns ms) (.slice (some ⟨g, off, none⟩) nf mf), 29), (b11, t3A i, 35), (b22, nil18, 42)] ((bdT w i V T lf).and ((bdO w.heap.size 58 21 poC (.slice a n m) ps).and Bd.nil)) w22 from hk)
      clear hk hb22
      (try simp only [Act.put, gA, gS, gZ, sA, sZ, sS])
      refine kx_row K22.out 2 rfl 42 _ _ (fA Y) rfl rfl rfl rfl (fA_size _) (by rfl) (fA_one Y) ?_
      intro w23 hk
      have K23 := Lib.hid (show Kx w [(b1, plA x (.slice ap np mp) (.slice az ns ms) (.slice (some ⟨g, off, none⟩) nf mf), 29), (b11, t3A i, 35), (b22, fA Y, 42)] ((bdT w i V T lf).and ((bdO w.heap.size 58 21 poC (.slice a n m) ps).and Bd.nil)) w23 from hk)
      clear hk
      (try simp only [Act.put, gA, gS, gZ, sA, sZ, sS])
      refine wpList_nil ?_
      go_upto_region 8 with fail
      refine wp_region_lit ?_
      refine wv (.pointer (some ⟨b1, 9, none⟩)) ?_
      (try simp only [Act.put, gA, gS, gZ, sA, sZ, sS])
      refine wv (.slice (some ⟨g, off, none⟩) nf mf) ?_ (hrun := by have q : w23.cell? ⟨b1, 9, none⟩ = some (.slice (some ⟨g, off, none⟩) nf mf) := K23.out.cell (i := 0) rfl (by rfl); go_simp)
      (try simp only [Act.put, gA, gS, gZ, sA, sZ, sS])
      refine wv (.int .i64 (k : Nat)) ?_
      (try simp only [Act.put, gA, gS, gZ, sA, sZ, sS])
      refine wv (.pointer (some ⟨g, off + k * 6, none⟩)) ?_ (hrun := by have q0 := HLT.out; have q1 := HMF.out; go_simp)
      (try simp only [Act.put, gA, gS, gZ, sA, sZ, sS])
      refine wv (.pointer (some ⟨g, off + k * 6, none⟩)) ?_
      (try simp only [Act.put, gA, gS, gZ, sA, sZ, sS])
      refine wv (.int .u8 (y.po : Nat)) ?_ (hrun := by have q : w23.cell? ⟨g, off + k * 6, none⟩ = some (.int .u8 (y.po : Nat)) := range_cell (arr := fgA y) (o := 0) (HROW.out _ K23.out.below) (by rfl); go_simp)
      (try simp only [Act.put, gA, gS, gZ, sA, sZ, sS])
      refine wv (.int .u8 (r : Nat)) ?_ (hrun := by have q0 := HRR.out.1; have q2 := HRR.out.2; have q1 := HYI.out; go_simp; first | exact wrS (by omega) (by omega) | exact wrU (by simp) (by omega) (by omega) | exact tmN q0 | omega)
      (try simp only [Act.put, gA, gS, gZ, sA, sZ, sS])
      refine wv (.int .i64 (r : Nat)) ?_ (hrun := by have q2 := HRR.out.2; go_simp; first | exact wrS (by omega) (by omega) | exact wrU (by simp) (by omega) (by omega) | exact tmN q0 | omega)
      (try simp only [Act.put, gA, gS, gZ, sA, sZ, sS])
      refine wv (.int .i64 (r : Nat)) ?_
      (try simp only [Act.put, gA, gS, gZ, sA, sZ, sS])
      refine wpList_nil ?_
      go_upto_region 9 with fail
      refine wp_region_lit ?_
      refine wv (.pointer (some ⟨b11, 2, none⟩)) ?_
      (try simp only [Act.put, gA, gS, gZ, sA, sZ, sS])
      refine wv (.pointer (some ⟨i.b3, 0, none⟩)) ?_ (hrun := by have q : w23.cell? ⟨b11, 2, none⟩ = some (.pointer (some ⟨i.b3, 0, none⟩)) := K23.out.cell (i := 1) rfl (by rfl); go_simp)
      (try simp only [Act.put, gA, gS, gZ, sA, sZ, sS])
      refine wl_call (R := fun v wq => ∃ aw cw, v = .slice aw lf.length cw ∧ Src wq enC v lf ∧ Kx w [(b1, plA x (.slice ap np mp) (.slice az ns ms) (.slice (some ⟨g, off, none⟩) nf mf), 29), (b11, t3A i, 35), (b22, fA Y, 42)] ((bdT w i V T lf).and ((bdO w.heap.size 58 21 poC (.slice a n m) ps).and Bd.nil)) wq ∧ Below w23.heap.size w23 wq) 20 #[.pointer (some ⟨i.b3, 0, none⟩)] (by rfl) (by go_simp) (list_any K23.out (by have := HKK.out; omega)) ?_
      rintro _ w24 ⟨za, zc, rfl, hsrc, hk, -⟩
      have K24 := Lib.hid (show Kx w [(b1, plA x (.slice ap np mp) (.slice az ns ms) (.slice (some ⟨g, off, none⟩) nf mf), 29), (b11, t3A i, 35), (b22, fA Y, 42)] ((bdT w i V T lf).and ((bdO w.heap.size 58 21 poC (.slice a n m) ps).and Bd.nil)) w24 from hk)
      rw [← HNL.out]
      clear hk hsrc
      (try simp only [Act.put, gA, gS, gZ, sA, sZ, sS])
      refine wv (.int .i64 (nl : Nat)) ?_
      (try simp only [Act.put, gA, gS, gZ, sA, sZ, sS])
      refine wv (.int .i64 (nl : Nat)) ?_
      (try simp only [Act.put, gA, gS, gZ, sA, sZ, sS])
      refine wpList_nil ?_
      go_upto_region 10 with fail
      refine wp_region_lit ?_
      refine wv (.agg (t3A i)) ?_ (hrun := kx_all K24.out 1 rfl 35 _ rfl rfl Tryd.underlying35 rfl (t3Size))
      (try simp only [Act.put, gA, gS, gZ, sA, sZ, sS])
      refine wv (.slice a n m) ?_
      (try simp only [Act.put, gA, gS, gZ, sA, sZ, sS])
      refine wv (.int .i64 (r : Nat)) ?_
      (try simp only [Act.put, gA, gS, gZ, sA, sZ, sS])
      refine wv (.agg (fA Y)) ?_ (hrun := kx_all K24.out 2 rfl 42 _ rfl rfl Tryd.underlying42 rfl (fA_size _))
      (try simp only [Act.put, gA, gS, gZ, sA, sZ, sS])
      refine wl_call (R := fun v wz => PassP w [(b1, plA x (.slice ap np mp) (.slice az ns ms) (.slice (some ⟨g, off, none⟩) nf mf), 29), (b11, t3A i, 35), (b22, fA Y, 42)] i V T lf ps (r : Nat) Y aq ad a n m Bd.nil v wz) 8 #[.agg (t3A i), .slice a n m, .int .i64 (r : Nat), .agg (fA Y)] (by rfl) (by go_simp) (pass_any K24.out (HDS.out lf) HMO.out HN.out HMX.out HPO.out HWY.out _ Y HYO.out aq ad HAQ.out.1 HAQ.out.2 HAD.out.1 HAD.out.2) ?_
      rintro _ w40 hpp
      unfold PassP at hpp
      obtain ⟨_, why, lb, full, l2, sent, hpr, rfl, ⟨x1, x2, rfl⟩, hk⟩ := hpp
      obtain ⟨f1, f2, f3, f4⟩ := pass_shut HPO.out hpr
      have HF1 := Lib.hid f1
      have HF2 := Lib.hid f2
      have HF3 := Lib.hid f3
      have HF4 := Lib.hid f4
      obtain ⟨sl, hsl⟩ : ∃ sl, sl = sent.length := ⟨_, rfl⟩
      have HSL := Lib.hid hsl
      rw [← hsl] at hk ⊢
      obtain ⟨PV, hPV⟩ : ∃ PV, PV = bdO w.heap.size 58 21 poC (.slice a n m) ps := ⟨_, rfl⟩
      have HPV := Lib.hid hPV
      rw [← hPV] at hk
      have K40 := Lib.hid (show Kx w [(b1, plA x (.slice ap np mp) (.slice az ns ms) (.slice (some ⟨g, off, none⟩) nf mf), 29), (b11, t3A i, 35), (b22, fA Y, 42)] ((bdT w i V T l2).and ((PV.and Bd.nil).and (bdO w.heap.size 81 19 snC (.slice x1 sl x2) (sent)))) w40 from hk.turn (fun h => ⟨h.1.1, h.1.2, h.2⟩) (fun k q => by rcases q with q | q | q; exact .inl (.inl q); exact .inl (.inr q); exact .inr q))
      clear hk hpr f1 f2 f3 f4 hsl hPV
      (try simp only [Act.put, gA, gS, gZ, sA, sZ, sS])
      refine kx_alloc K40.out 48 (#[.slice none 0 0, .int .i64 0, .bool false, .bool false]) rfl z4 (by rfl) ?_
      intro b41 w41 hb41 hk
      have K41 := Lib.hid (show Kx w [(b1, plA x (.slice ap np mp) (.slice az ns ms) (.slice (some ⟨g, off, none⟩) nf mf), 29), (b11, t3A i, 35), (b22, fA Y, 42), (b41, #[.slice none 0 0, .int .i64 0, .bool false, .bool false], 48)] ((bdT w i V T l2).and ((PV.and Bd.nil).and (bdO w.heap.size 81 19 snC (.slice x1 sl x2) (sent)))) w41 from hk)
      clear hk hb41
      (try simp only [Act.put, gA, gS, gZ, sA, sZ, sS])
      refine kx_row K41.out 3 rfl 48 _ _ (#[.slice x1 sl x2, .int .i64 why, .bool lb, .bool full]) rfl rfl rfl rfl (rsize) (by rfl) (by kernel_rfl) ?_
      intro w42 hk
      have K42 := Lib.hid (show Kx w [(b1, plA x (.slice ap np mp) (.slice az ns ms) (.slice (some ⟨g, off, none⟩) nf mf), 29), (b11, t3A i, 35), (b22, fA Y, 42), (b41, #[.slice x1 sl x2, .int .i64 why, .bool lb, .bool full], 48)] ((bdT w i V T l2).and ((PV.and Bd.nil).and (bdO w.heap.size 81 19 snC (.slice x1 sl x2) (sent)))) w42 from hk)
      clear hk
      (try simp only [Act.put, gA, gS, gZ, sA, sZ, sS])
      refine wpList_nil ?_
      by_cases hsh : shutP ps (r : Int)
      case pos =>
        obtain ⟨rfl, rfl, rfl, rfl⟩ := HF2.out hsh
        have hs0 : sl = 0 := HSL.out
        subst hs0
        have hcs := shut_cases hsh
        rw [HN.out] at hcs
        clear hsh
        rcases hcs with d1 | ⟨d1, d2⟩ | ⟨kk, p, rfl, d1, d2, d3⟩ | ⟨kk, p, rfl, d1, d2, d3, d4⟩
        case' inl =>
          go_upto_region 11 with fail
          refine wp_region_lit ?_
          refine wv (.int .i64 (r : Nat)) ?_
          (try simp only [Act.put, gA, gS, gZ, sA, sZ, sS])
          refine wv (.bool true) ?_
          (try simp only [Act.put, gA, gS, gZ, sA, sZ, sS])
          refine wv (.bool true) ?_
          (try simp only [Act.put, gA, gS, gZ, sA, sZ, sS])
          refine wpList_skip (by kernel_rfl) ?_
          (try simp only [Act.put, gA, gS, gZ, sA, sZ, sS])
          refine wpList_skip (by kernel_rfl) ?_
          (try simp only [Act.put, gA, gS, gZ, sA, sZ, sS])
          refine wpList_skip (by kernel_rfl) ?_
          (try simp only [Act.put, gA, gS, gZ, sA, sZ, sS])
          refine wpList_skip (by kernel_rfl) ?_
          (try simp only [Act.put, gA, gS, gZ, sA, sZ, sS])
          refine wv (.bool true) ?_ (hrun := run_pick_yes (.tmp 56) (.const (.bool true)) (.tmp 60) _ rfl rfl rfl)
          (try simp only [Act.put, gA, gS, gZ, sA, sZ, sS])
          refine wv (.bool true) ?_
          (try simp only [Act.put, gA, gS, gZ, sA, sZ, sS])
          refine wpList_skip (by kernel_rfl) ?_
          (try simp only [Act.put, gA, gS, gZ, sA, sZ, sS])
          refine wpList_skip (by kernel_rfl) ?_
          (try simp only [Act.put, gA, gS, gZ, sA, sZ, sS])
          refine wpList_skip (by kernel_rfl) ?_
          (try simp only [Act.put, gA, gS, gZ, sA, sZ, sS])
          refine wpList_skip (by kernel_rfl) ?_
          (try simp only [Act.put, gA, gS, gZ, sA, sZ, sS])
          refine wpList_skip (by kernel_rfl) ?_
          (try simp only [Act.put, gA, gS, gZ, sA, sZ, sS])
          refine wpList_skip (by kernel_rfl) ?_
          (try simp only [Act.put, gA, gS, gZ, sA, sZ, sS])
          refine wpList_skip (by kernel_rfl) ?_
          (try simp only [Act.put, gA, gS, gZ, sA, sZ, sS])
          refine wv (.bool true) ?_ (hrun := run_pick_yes (.tmp 62) (.const (.bool true)) (.tmp 69) _ rfl rfl rfl)
          (try simp only [Act.put, gA, gS, gZ, sA, sZ, sS])
          refine wv (.bool true) ?_
          (try simp only [Act.put, gA, gS, gZ, sA, sZ, sS])
          refine wpList_skip (by kernel_rfl) ?_
          (try simp only [Act.put, gA, gS, gZ, sA, sZ, sS])
          refine wpList_skip (by kernel_rfl) ?_
          (try simp only [Act.put, gA, gS, gZ, sA, sZ, sS])
          refine wpList_skip (by kernel_rfl) ?_
          (try simp only [Act.put, gA, gS, gZ, sA, sZ, sS])
          refine wpList_skip (by kernel_rfl) ?_
          (try simp only [Act.put, gA, gS, gZ, sA, sZ, sS])
          refine wpList_skip (by kernel_rfl) ?_
          (try simp only [Act.put, gA, gS, gZ, sA, sZ, sS])
          refine wpList_skip (by kernel_rfl) ?_
          (try simp only [Act.put, gA, gS, gZ, sA, sZ, sS])
          refine wpList_skip (by kernel_rfl) ?_
          (try simp only [Act.put, gA, gS, gZ, sA, sZ, sS])
          refine wv (.bool true) ?_ (hrun := run_pick_yes (.tmp 71) (.const (.bool true)) (.tmp 78) _ rfl rfl rfl)
          (try simp only [Act.put, gA, gS, gZ, sA, sZ, sS])
          refine wv (.bool true) ?_
          (try simp only [Act.put, gA, gS, gZ, sA, sZ, sS])
          refine wpList_nil ?_
          obtain ⟨wz, hwz⟩ : ∃ wz, wz = w42 := ⟨_, rfl⟩
          have KZ := Lib.hid (show Kx w [(b1, plA x (.slice ap np mp) (.slice az ns ms) (.slice (some ⟨g, off, none⟩) nf mf), 29), (b11, t3A i, 35), (b22, fA Y, 42), (b41, #[.slice x1 0 x2, .int .i64 6, .bool false, .bool full], 48)] ((bdT w i V T l2).and ((PV.and Bd.nil).and (bdO w.heap.size 81 19 snC (.slice x1 0 x2) ([])))) wz by rw [hwz]; exact K42.out)
          rw [← hwz]
          clear hwz
        case' inr.inl =>
          have d3 : decide ((r : Int) < 1) = false := decide_eq_false (by omega)
          go_upto_region 11 with fail
          refine wp_region_lit ?_
          refine wv (.int .i64 (r : Nat)) ?_
          (try simp only [Act.put, gA, gS, gZ, sA, sZ, sS])
          refine wv (.bool false) ?_
          (try simp only [Act.put, gA, gS, gZ, sA, sZ, sS])
          refine wv (.bool false) ?_
          (try simp only [Act.put, gA, gS, gZ, sA, sZ, sS])
          refine wv (.int .i64 (r : Nat)) ?_
          (try simp only [Act.put, gA, gS, gZ, sA, sZ, sS])
          refine wv (.slice a n m) ?_
          (try simp only [Act.put, gA, gS, gZ, sA, sZ, sS])
          refine wv (.int .i64 (n : Nat)) ?_
          (try simp only [Act.put, gA, gS, gZ, sA, sZ, sS])
          refine wv (.bool true) ?_
          (try simp only [Act.put, gA, gS, gZ, sA, sZ, sS])
          refine wv (.bool true) ?_ (hrun := run_pick_no (.tmp 56) (.const (.bool true)) (.tmp 60) _ rfl rfl rfl)
          (try simp only [Act.put, gA, gS, gZ, sA, sZ, sS])
          refine wv (.bool true) ?_
          (try simp only [Act.put, gA, gS, gZ, sA, sZ, sS])
          refine wpList_skip (by kernel_rfl) ?_
          (try simp only [Act.put, gA, gS, gZ, sA, sZ, sS])
          refine wpList_skip (by kernel_rfl) ?_
          (try simp only [Act.put, gA, gS, gZ, sA, sZ, sS])
          refine wpList_skip (by kernel_rfl) ?_
          (try simp only [Act.put, gA, gS, gZ, sA, sZ, sS])
          refine wpList_skip (by kernel_rfl) ?_
          (try simp only [Act.put, gA, gS, gZ, sA, sZ, sS])
          refine wpList_skip (by kernel_rfl) ?_
          (try simp only [Act.put, gA, gS, gZ, sA, sZ, sS])
          refine wpList_skip (by kernel_rfl) ?_
          (try simp only [Act.put, gA, gS, gZ, sA, sZ, sS])
          refine wpList_skip (by kernel_rfl) ?_
          (try simp only [Act.put, gA, gS, gZ, sA, sZ, sS])
          refine wv (.bool true) ?_ (hrun := run_pick_yes (.tmp 62) (.const (.bool true)) (.tmp 69) _ rfl rfl rfl)
          (try simp only [Act.put, gA, gS, gZ, sA, sZ, sS])
          refine wv (.bool true) ?_
          (try simp only [Act.put, gA, gS, gZ, sA, sZ, sS])
          refine wpList_skip (by kernel_rfl) ?_
          (try simp only [Act.put, gA, gS, gZ, sA, sZ, sS])
          refine wpList_skip (by kernel_rfl) ?_
          (try simp only [Act.put, gA, gS, gZ, sA, sZ, sS])
          refine wpList_skip (by kernel_rfl) ?_
          (try simp only [Act.put, gA, gS, gZ, sA, sZ, sS])
          refine wpList_skip (by kernel_rfl) ?_
          (try simp only [Act.put, gA, gS, gZ, sA, sZ, sS])
          refine wpList_skip (by kernel_rfl) ?_
          (try simp only [Act.put, gA, gS, gZ, sA, sZ, sS])
          refine wpList_skip (by kernel_rfl) ?_
          (try simp only [Act.put, gA, gS, gZ, sA, sZ, sS])
          refine wpList_skip (by kernel_rfl) ?_
          (try simp only [Act.put, gA, gS, gZ, sA, sZ, sS])
          refine wv (.bool true) ?_ (hrun := run_pick_yes (.tmp 71) (.const (.bool true)) (.tmp 78) _ rfl rfl rfl)
          (try simp only [Act.put, gA, gS, gZ, sA, sZ, sS])
          refine wv (.bool true) ?_
          (try simp only [Act.put, gA, gS, gZ, sA, sZ, sS])
          refine wpList_nil ?_
          obtain ⟨wz, hwz⟩ : ∃ wz, wz = w42 := ⟨_, rfl⟩
          have KZ := Lib.hid (show Kx w [(b1, plA x (.slice ap np mp) (.slice az ns ms) (.slice (some ⟨g, off, none⟩) nf mf), 29), (b11, t3A i, 35), (b22, fA Y, 42), (b41, #[.slice x1 0 x2, .int .i64 6, .bool false, .bool full], 48)] ((bdT w i V T l2).and ((PV.and Bd.nil).and (bdO w.heap.size 81 19 snC (.slice x1 0 x2) ([])))) wz by rw [hwz]; exact K42.out)
          rw [← hwz]
          clear hwz
        case' inr.inr.inl =>
          obtain ⟨gp, hgp⟩ : ∃ gp, a = some ⟨gp, 0, none⟩ := by
            have hO : Own w42 w.heap.size 58 21 poC (.slice a n m) ps := by have q := K42.out.a.2.1.1; rw [HPV.out] at q; exact q
            have q := HN.out
            subst q
            obtain ⟨gp, hg, -⟩ := hO.elem po_len d2
            exact ⟨gp, hg⟩
          subst hgp
          have HROWP := Lib.hid (show ∀ W, Below w42.heap.size w42 W → W.rangeAt gp (kk * 21) (poC p) from fun W hW => by
            have hO : Own w42 w.heap.size 58 21 poC (.slice (some ⟨gp, 0, none⟩) n m) ps := by have q := K42.out.a.2.1.1; rw [HPV.out] at q; exact q
            exact own_at (enc := poC) (x := p) po_len (hO.next hW) HN.out d2)
          have d5 : (kk : Int) < (n : Int) := by omega
          have d6 : (0 : Int) ≤ (kk : Int) := by omega
          have d7 : (kk : Int) ≤ 9223372036854775807 := by omega
          clear d2
          have HON := Lib.hid (show ∀ W : World, Calls Tryd.prog 9 #[poV p] W fun e w' => e = .returned (.bool false) ∧ Below W.heap.size W w' from fun W => by rw [← d3]; exact on_any p W)
          clear d3
          have HB0 := Lib.hid (Below.refl w42.heap.size w42)
          go_upto_region 11 with fail
          refine wp_region_lit ?_
          refine wv (.int .i64 ((kk + 1 : Nat) : Int)) ?_
          (try simp only [Act.put, gA, gS, gZ, sA, sZ, sS])
          refine wv (.bool false) ?_ (hrun := by go_simp <;> omega)
          (try simp only [Act.put, gA, gS, gZ, sA, sZ, sS])
          refine wv (.bool false) ?_
          (try simp only [Act.put, gA, gS, gZ, sA, sZ, sS])
          refine wv (.int .i64 ((kk + 1 : Nat) : Int)) ?_
          (try simp only [Act.put, gA, gS, gZ, sA, sZ, sS])
          refine wv (.slice (some ⟨gp, 0, none⟩) n m) ?_
          (try simp only [Act.put, gA, gS, gZ, sA, sZ, sS])
          refine wv (.int .i64 (n : Nat)) ?_
          (try simp only [Act.put, gA, gS, gZ, sA, sZ, sS])
          refine wv (.bool false) ?_ (hrun := by go_simp <;> omega)
          (try simp only [Act.put, gA, gS, gZ, sA, sZ, sS])
          refine wv (.bool false) ?_ (hrun := run_pick_no (.tmp 56) (.const (.bool true)) (.tmp 60) _ rfl rfl rfl)
          (try simp only [Act.put, gA, gS, gZ, sA, sZ, sS])
          refine wv (.bool false) ?_
          (try simp only [Act.put, gA, gS, gZ, sA, sZ, sS])
          refine wv (.slice (some ⟨gp, 0, none⟩) n m) ?_
          (try simp only [Act.put, gA, gS, gZ, sA, sZ, sS])
          refine wv (.int .i64 ((kk + 1 : Nat) : Int)) ?_
          (try simp only [Act.put, gA, gS, gZ, sA, sZ, sS])
          refine wv (.int .i64 (kk : Nat)) ?_ (hrun := by go_simp <;> exact wr64 d6 d7)
          (try simp only [Act.put, gA, gS, gZ, sA, sZ, sS])
          refine wv (.pointer (some ⟨gp, kk * 21, none⟩)) ?_
          (try simp only [Act.put, gA, gS, gZ, sA, sZ, sS])
          refine wv (.agg (poA p)) ?_ (hrun := run_loadRange 58 _ rfl gp (kk * 21) rfl (poA p) _ (HROWP.out _ (Below.refl _ _)) Tryd.underlying58 rfl (po_info _))
          (try simp only [Act.put, gA, gS, gZ, sA, sZ, sS])
          refine wl_call (R := fun v wz => v = .bool false ∧ Below w42.heap.size w42 wz) 9 #[.agg (poA p)] (by rfl) (by go_simp) ((HON.out _).mono fun e w2 h => ⟨_, h.1, rfl, h.2⟩) ?_
          rintro _ w43 ⟨rfl, hb⟩
          have K43 := Lib.hid (show Kx w [(b1, plA x (.slice ap np mp) (.slice az ns ms) (.slice (some ⟨g, off, none⟩) nf mf), 29), (b11, t3A i, 35), (b22, fA Y, 42), (b41, #[.slice x1 0 x2, .int .i64 6, .bool false, .bool full], 48)] ((bdT w i V T l2).and ((PV.and Bd.nil).and (bdO w.heap.size 81 19 snC (.slice x1 0 x2) ([])))) w43 from K42.out.next hb)
          have HBX := Lib.hid hb
          clear hb
          (try simp only [Act.put, gA, gS, gZ, sA, sZ, sS])
          refine wv (.bool true) ?_
          (try simp only [Act.put, gA, gS, gZ, sA, sZ, sS])
          refine wv (.bool true) ?_ (hrun := run_pick_no (.tmp 62) (.const (.bool true)) (.tmp 69) _ rfl rfl rfl)
          (try simp only [Act.put, gA, gS, gZ, sA, sZ, sS])
          refine wv (.bool true) ?_
          (try simp only [Act.put, gA, gS, gZ, sA, sZ, sS])
          refine wpList_skip (by kernel_rfl) ?_
          (try simp only [Act.put, gA, gS, gZ, sA, sZ, sS])
          refine wpList_skip (by kernel_rfl) ?_
          (try simp only [Act.put, gA, gS, gZ, sA, sZ, sS])
          refine wpList_skip (by kernel_rfl) ?_
          (try simp only [Act.put, gA, gS, gZ, sA, sZ, sS])
          refine wpList_skip (by kernel_rfl) ?_
          (try simp only [Act.put, gA, gS, gZ, sA, sZ, sS])
          refine wpList_skip (by kernel_rfl) ?_
          (try simp only [Act.put, gA, gS, gZ, sA, sZ, sS])
          refine wpList_skip (by kernel_rfl) ?_
          (try simp only [Act.put, gA, gS, gZ, sA, sZ, sS])
          refine wpList_skip (by kernel_rfl) ?_
          (try simp only [Act.put, gA, gS, gZ, sA, sZ, sS])
          refine wv (.bool true) ?_ (hrun := run_pick_yes (.tmp 71) (.const (.bool true)) (.tmp 78) _ rfl rfl rfl)
          (try simp only [Act.put, gA, gS, gZ, sA, sZ, sS])
          refine wv (.bool true) ?_
          (try simp only [Act.put, gA, gS, gZ, sA, sZ, sS])
          refine wpList_nil ?_
          obtain ⟨wz, hwz⟩ : ∃ wz, wz = w43 := ⟨_, rfl⟩
          have KZ := Lib.hid (show Kx w [(b1, plA x (.slice ap np mp) (.slice az ns ms) (.slice (some ⟨g, off, none⟩) nf mf), 29), (b11, t3A i, 35), (b22, fA Y, 42), (b41, #[.slice x1 0 x2, .int .i64 6, .bool false, .bool full], 48)] ((bdT w i V T l2).and ((PV.and Bd.nil).and (bdO w.heap.size 81 19 snC (.slice x1 0 x2) ([])))) wz by rw [hwz]; exact K43.out)
          rw [← hwz]
          clear hwz
        case' inr.inr.inr =>
          obtain ⟨gp, hgp⟩ : ∃ gp, a = some ⟨gp, 0, none⟩ := by
            have hO : Own w42 w.heap.size 58 21 poC (.slice a n m) ps := by have q := K42.out.a.2.1.1; rw [HPV.out] at q; exact q
            have q := HN.out
            subst q
            obtain ⟨gp, hg, -⟩ := hO.elem po_len d2
            exact ⟨gp, hg⟩
          subst hgp
          have HROWP := Lib.hid (show ∀ W, Below w42.heap.size w42 W → W.rangeAt gp (kk * 21) (poC p) from fun W hW => by
            have hO : Own w42 w.heap.size 58 21 poC (.slice (some ⟨gp, 0, none⟩) n m) ps := by have q := K42.out.a.2.1.1; rw [HPV.out] at q; exact q
            exact own_at (enc := poC) (x := p) po_len (hO.next hW) HN.out d2)
          have d5 : (kk : Int) < (n : Int) := by omega
          have d6 : (0 : Int) ≤ (kk : Int) := by omega
          have d7 : (kk : Int) ≤ 9223372036854775807 := by omega
          clear d2
          have HON := Lib.hid (show ∀ W : World, Calls Tryd.prog 9 #[poV p] W fun e w' => e = .returned (.bool true) ∧ Below W.heap.size W w' from fun W => by rw [← d3]; exact on_any p W)
          clear d3
          have HD4 := Lib.hid d4
          clear d4
          have HB0 := Lib.hid (Below.refl w42.heap.size w42)
          go_upto_region 11 with fail
          refine wp_region_lit ?_
          refine wv (.int .i64 ((kk + 1 : Nat) : Int)) ?_
          (try simp only [Act.put, gA, gS, gZ, sA, sZ, sS])
          refine wv (.bool false) ?_ (hrun := by go_simp <;> omega)
          (try simp only [Act.put, gA, gS, gZ, sA, sZ, sS])
          refine wv (.bool false) ?_
          (try simp only [Act.put, gA, gS, gZ, sA, sZ, sS])
          refine wv (.int .i64 ((kk + 1 : Nat) : Int)) ?_
          (try simp only [Act.put, gA, gS, gZ, sA, sZ, sS])
          refine wv (.slice (some ⟨gp, 0, none⟩) n m) ?_
          (try simp only [Act.put, gA, gS, gZ, sA, sZ, sS])
          refine wv (.int .i64 (n : Nat)) ?_
          (try simp only [Act.put, gA, gS, gZ, sA, sZ, sS])
          refine wv (.bool false) ?_ (hrun := by go_simp <;> omega)
          (try simp only [Act.put, gA, gS, gZ, sA, sZ, sS])
          refine wv (.bool false) ?_ (hrun := run_pick_no (.tmp 56) (.const (.bool true)) (.tmp 60) _ rfl rfl rfl)
          (try simp only [Act.put, gA, gS, gZ, sA, sZ, sS])
          refine wv (.bool false) ?_
          (try simp only [Act.put, gA, gS, gZ, sA, sZ, sS])
          refine wv (.slice (some ⟨gp, 0, none⟩) n m) ?_
          (try simp only [Act.put, gA, gS, gZ, sA, sZ, sS])
          refine wv (.int .i64 ((kk + 1 : Nat) : Int)) ?_
          (try simp only [Act.put, gA, gS, gZ, sA, sZ, sS])
          refine wv (.int .i64 (kk : Nat)) ?_ (hrun := by go_simp <;> exact wr64 d6 d7)
          (try simp only [Act.put, gA, gS, gZ, sA, sZ, sS])
          refine wv (.pointer (some ⟨gp, kk * 21, none⟩)) ?_
          (try simp only [Act.put, gA, gS, gZ, sA, sZ, sS])
          refine wv (.agg (poA p)) ?_ (hrun := run_loadRange 58 _ rfl gp (kk * 21) rfl (poA p) _ (HROWP.out _ (Below.refl _ _)) Tryd.underlying58 rfl (po_info _))
          (try simp only [Act.put, gA, gS, gZ, sA, sZ, sS])
          refine wl_call (R := fun v wz => v = .bool true ∧ Below w42.heap.size w42 wz) 9 #[.agg (poA p)] (by rfl) (by go_simp) ((HON.out _).mono fun e w2 h => ⟨_, h.1, rfl, h.2⟩) ?_
          rintro _ w43 ⟨rfl, hb⟩
          have K43 := Lib.hid (show Kx w [(b1, plA x (.slice ap np mp) (.slice az ns ms) (.slice (some ⟨g, off, none⟩) nf mf), 29), (b11, t3A i, 35), (b22, fA Y, 42), (b41, #[.slice x1 0 x2, .int .i64 6, .bool false, .bool full], 48)] ((bdT w i V T l2).and ((PV.and Bd.nil).and (bdO w.heap.size 81 19 snC (.slice x1 0 x2) ([])))) w43 from K42.out.next hb)
          have HBX := Lib.hid hb
          clear hb
          (try simp only [Act.put, gA, gS, gZ, sA, sZ, sS])
          refine wv (.bool false) ?_
          (try simp only [Act.put, gA, gS, gZ, sA, sZ, sS])
          refine wv (.bool false) ?_ (hrun := run_pick_no (.tmp 62) (.const (.bool true)) (.tmp 69) _ rfl rfl rfl)
          (try simp only [Act.put, gA, gS, gZ, sA, sZ, sS])
          refine wv (.bool false) ?_
          (try simp only [Act.put, gA, gS, gZ, sA, sZ, sS])
          refine wv (.slice (some ⟨gp, 0, none⟩) n m) ?_
          (try simp only [Act.put, gA, gS, gZ, sA, sZ, sS])
          refine wv (.int .i64 ((kk + 1 : Nat) : Int)) ?_
          (try simp only [Act.put, gA, gS, gZ, sA, sZ, sS])
          refine wv (.int .i64 (kk : Nat)) ?_ (hrun := by go_simp <;> exact wr64 d6 d7)
          (try simp only [Act.put, gA, gS, gZ, sA, sZ, sS])
          refine wv (.pointer (some ⟨gp, kk * 21, none⟩)) ?_
          (try simp only [Act.put, gA, gS, gZ, sA, sZ, sS])
          refine wv (.pointer (some ⟨gp, kk * 21 + 11, none⟩)) ?_
          (try simp only [Act.put, gA, gS, gZ, sA, sZ, sS])
          refine wv (.int .i64 p.p11) ?_ (hrun := by have q : w43.cell? ⟨gp, kk * 21 + 11, none⟩ = some (.int .i64 p.p11) := range_cell (arr := poA p) (o := 11) (HROWP.out _ HBX.out) (by rfl); go_simp)
          (try simp only [Act.put, gA, gS, gZ, sA, sZ, sS])
          refine wv (.bool true) ?_ (hrun := by have q := HD4.out; go_simp)
          (try simp only [Act.put, gA, gS, gZ, sA, sZ, sS])
          refine wv (.bool true) ?_ (hrun := run_pick_no (.tmp 71) (.const (.bool true)) (.tmp 78) _ rfl rfl rfl)
          (try simp only [Act.put, gA, gS, gZ, sA, sZ, sS])
          refine wv (.bool true) ?_
          (try simp only [Act.put, gA, gS, gZ, sA, sZ, sS])
          refine wpList_nil ?_
          obtain ⟨wz, hwz⟩ : ∃ wz, wz = w43 := ⟨_, rfl⟩
          have KZ := Lib.hid (show Kx w [(b1, plA x (.slice ap np mp) (.slice az ns ms) (.slice (some ⟨g, off, none⟩) nf mf), 29), (b11, t3A i, 35), (b22, fA Y, 42), (b41, #[.slice x1 0 x2, .int .i64 6, .bool false, .bool full], 48)] ((bdT w i V T l2).and ((PV.and Bd.nil).and (bdO w.heap.size 81 19 snC (.slice x1 0 x2) ([])))) wz by rw [hwz]; exact K43.out)
          rw [← hwz]
          clear hwz
        all_goals as_aux_lemma =>
          go_upto_region 12 with fail
          refine wp_region_lit ?_
          refine wv (.bool true) ?_
          (try simp only [Act.put, gA, gS, gZ, sA, sZ, sS])
          refine wv (.bool true) ?_
          (try simp only [Act.put, gA, gS, gZ, sA, sZ, sS])
          refine wv (.pointer (some ⟨b41, 1, none⟩)) ?_
          (try simp only [Act.put, gA, gS, gZ, sA, sZ, sS])
          refine wv (.int .i64 6) ?_ (hrun := by have q : wz.cell? ⟨b41, 1, none⟩ = some (.int .i64 6) := KZ.out.cell (i := 3) rfl (by rfl); go_simp)
          (try simp only [Act.put, gA, gS, gZ, sA, sZ, sS])
          refine wv (.bool false) ?_
          (try simp only [Act.put, gA, gS, gZ, sA, sZ, sS])
          refine wv (.bool false) ?_
          (try simp only [Act.put, gA, gS, gZ, sA, sZ, sS])
          refine wv (.pointer (some ⟨b41, 0, none⟩)) ?_
          (try simp only [Act.put, gA, gS, gZ, sA, sZ, sS])
          refine wv (.slice x1 0 x2) ?_ (hrun := by have q : wz.cell? ⟨b41, 0, none⟩ = some (.slice x1 0 x2) := KZ.out.cell (i := 3) rfl (by rfl); go_simp)
          (try simp only [Act.put, gA, gS, gZ, sA, sZ, sS])
          refine wv (.int .i64 0) ?_
          (try simp only [Act.put, gA, gS, gZ, sA, sZ, sS])
          refine wv (.bool false) ?_
          (try simp only [Act.put, gA, gS, gZ, sA, sZ, sS])
          refine wv (.bool false) ?_ (hrun := run_pick_no (.tmp 85) (.const (.bool true)) (.tmp 89) _ rfl rfl rfl)
          (try simp only [Act.put, gA, gS, gZ, sA, sZ, sS])
          refine wv (.bool false) ?_
          (try simp only [Act.put, gA, gS, gZ, sA, sZ, sS])
          refine wv (.pointer (some ⟨b41, 2, none⟩)) ?_
          (try simp only [Act.put, gA, gS, gZ, sA, sZ, sS])
          refine wv (.bool false) ?_ (hrun := by have q : wz.cell? ⟨b41, 2, none⟩ = some (.bool false) := KZ.out.cell (i := 3) rfl (by rfl); go_simp)
          (try simp only [Act.put, gA, gS, gZ, sA, sZ, sS])
          refine wv (.bool false) ?_ (hrun := run_pick_no (.tmp 91) (.const (.bool true)) (.tmp 93) _ rfl rfl rfl)
          (try simp only [Act.put, gA, gS, gZ, sA, sZ, sS])
          refine wv (.bool false) ?_
          (try simp only [Act.put, gA, gS, gZ, sA, sZ, sS])
          refine wv (.pointer (some ⟨b11, 2, none⟩)) ?_
          (try simp only [Act.put, gA, gS, gZ, sA, sZ, sS])
          refine wv (.pointer (some ⟨i.b3, 0, none⟩)) ?_ (hrun := by have q : wz.cell? ⟨b11, 2, none⟩ = some (.pointer (some ⟨i.b3, 0, none⟩)) := KZ.out.cell (i := 1) rfl (by rfl); go_simp)
          (try simp only [Act.put, gA, gS, gZ, sA, sZ, sS])
          refine wl_call (R := fun v wq => ∃ aw cw, v = .slice aw l2.length cw ∧ Src wq enC v l2 ∧ Kx w [(b1, plA x (.slice ap np mp) (.slice az ns ms) (.slice (some ⟨g, off, none⟩) nf mf), 29), (b11, t3A i, 35), (b22, fA Y, 42), (b41, #[.slice x1 0 x2, .int .i64 6, .bool false, .bool full], 48)] ((bdT w i V T l2).and ((PV.and Bd.nil).and (bdO w.heap.size 81 19 snC (.slice x1 0 x2) ([])))) wq ∧ Below wz.heap.size wz wq) 20 #[.pointer (some ⟨i.b3, 0, none⟩)] (by rfl) (by go_simp) (list_any KZ.out (by have := HKK.out; omega)) ?_
          rintro _ w61 ⟨qa, qc, rfl, hsrc, hk, -⟩
          have K61 := Lib.hid (show Kx w [(b1, plA x (.slice ap np mp) (.slice az ns ms) (.slice (some ⟨g, off, none⟩) nf mf), 29), (b11, t3A i, 35), (b22, fA Y, 42), (b41, #[.slice x1 0 x2, .int .i64 6, .bool false, .bool full], 48)] ((bdT w i V T l2).and ((PV.and Bd.nil).and (bdO w.heap.size 81 19 snC (.slice x1 0 x2) ([])))) w61 from hk)
          rw [← HNL.out]
          clear hk hsrc
          (try simp only [Act.put, gA, gS, gZ, sA, sZ, sS])
          refine wv (.int .i64 (nl : Nat)) ?_
          (try simp only [Act.put, gA, gS, gZ, sA, sZ, sS])
          refine wv (.int .i64 (nl : Nat)) ?_
          (try simp only [Act.put, gA, gS, gZ, sA, sZ, sS])
          refine wv (.bool false) ?_
          (try simp only [Act.put, gA, gS, gZ, sA, sZ, sS])
          refine wv (.bool false) ?_ (hrun := run_pick_no (.tmp 95) (.const (.bool true)) (.tmp 101) _ rfl rfl rfl)
          (try simp only [Act.put, gA, gS, gZ, sA, sZ, sS])
          refine wv (.bool false) ?_ (hrun := run_pick_yes (.tmp 81) (.tmp 102) (.const (.bool false)) _ rfl rfl rfl)
          (try simp only [Act.put, gA, gS, gZ, sA, sZ, sS])
          refine wpList_nil ?_
          go_upto_region 14 with fail
          refine wp_region_lit ?_
          refine wv (.int .i64 0) ?_
          (try simp only [Act.put, gA, gS, gZ, sA, sZ, sS])
          refine wpList_nil ?_
          go_upto_region 15 with fail
          go_loopw [11] (fun q wr => q = .int .i64 0 ∧ Kx w [(b1, plA x (.slice ap np mp) (.slice az ns ms) (.slice (some ⟨g, off, none⟩) nf mf), 29), (b11, t3A i, 35), (b22, fA Y, 42), (b41, #[.slice x1 0 x2, .int .i64 6, .bool false, .bool full], 48)] ((bdT w i V T l2).and ((PV.and Bd.nil).and (bdO w.heap.size 81 19 snC (.slice x1 0 x2) ([])))) wr) (fun _ _ => 0)
          case atStart => exact ⟨rfl, K61.out⟩
          case round =>
            obtain ⟨rfl, hK⟩ := hrel
            have KQ := Lib.hid hK
            clear hK
            go_upto_region 15 with fail
            refine wp_region_lit ?_
            refine wv (.int .i64 0) ?_
            (try simp only [Act.put, gA, gS, gZ, sA, sZ, sS])
            refine wv (.pointer (some ⟨b41, 0, none⟩)) ?_
            (try simp only [Act.put, gA, gS, gZ, sA, sZ, sS])
            refine wv (.slice x1 0 x2) ?_ (hrun := by have q : wr.cell? ⟨b41, 0, none⟩ = some (.slice x1 0 x2) := KQ.out.cell (i := 3) rfl (by rfl); go_simp)
            (try simp only [Act.put, gA, gS, gZ, sA, sZ, sS])
            refine wv (.int .i64 0) ?_
            (try simp only [Act.put, gA, gS, gZ, sA, sZ, sS])
            refine wv (.bool false) ?_
            (try simp only [Act.put, gA, gS, gZ, sA, sZ, sS])
            refine wpList_nil ?_
            go_wp2_with fail
            go_roundw
            case rel => exact ⟨k + 1, l2, by have := HLT.out; omega, by have := HLT.out; omega, by have := HKK.out; have := HF1.out; omega, by go_num, by have q := (Kx.left (l := [(b1, plA x (.slice ap np mp) (.slice az ns ms) (.slice (some ⟨g, off, none⟩) nf mf), 29), (b11, t3A i, 35)]) (r := [(b22, fA Y, 42), (b41, #[.slice x1 0 x2, .int .i64 6, .bool false, .bool full], 48)]) KQ.out).turn (A' := (bdT w i V T l2).and ((PV).and Bd.nil)) (fun h => ⟨h.1, h.2.1⟩) (fun k q => by rcases q with q | q; exact .inl q; exact .inr (.inl q)); rw [HPV.out] at q; exact q⟩
            case measure => have := HLT.out; simp [intOf]; omega
      case neg => as_aux_lemma =>
        obtain ⟨kk, p, hkk, d2, d3, d4, d8⟩ := HF3.out hsh
        have hrk : r = kk + 1 := by omega
        subst hrk
        clear hsh hkk
        have d1 : kk < n := by have := (List.getElem?_eq_some_iff.1 d2).1; have := HN.out; omega
        have HP2 := Lib.hid d2
        have HD8 := Lib.hid d8
        obtain ⟨gp, hgp⟩ : ∃ gp, a = some ⟨gp, 0, none⟩ := by
          have hO : Own w42 w.heap.size 58 21 poC (.slice a n m) ps := by have q := K42.out.a.2.1.1; rw [HPV.out] at q; exact q
          have q := HN.out
          subst q
          obtain ⟨gp, hg, -⟩ := hO.elem po_len d2
          exact ⟨gp, hg⟩
        subst hgp
        have HPT := Lib.hid (show ∀ W kq pq, PV.p W → ps[kq]? = some pq → W.rangeAt gp (kq * 21) (poC pq) from fun W kq pq h1 h2 => by rw [HPV.out] at h1; exact own_at (enc := poC) (x := pq) po_len h1 HN.out h2)
        have d5 : (kk : Int) < (n : Int) := by omega
        have d6 : (0 : Int) ≤ (kk : Int) := by omega
        have d7 : (kk : Int) ≤ 9223372036854775807 := by omega
        clear d2 d8
        have HON := Lib.hid (show ∀ W : World, Calls Tryd.prog 9 #[poV p] W fun e w' => e = .returned (.bool true) ∧ Below W.heap.size W w' from fun W => by rw [← d3]; exact on_any p W)
        clear d3
        have HD4 := Lib.hid (show decide (p.p11 = 0) = false from decide_eq_false d4)
        have HD5 := Lib.hid (show (p.p11 == 0) = false by simpa using d4)
        clear d4
        go_upto_region 11 with fail
        refine wp_region_lit ?_
        refine wv (.int .i64 ((kk + 1 : Nat) : Int)) ?_
        (try simp only [Act.put, gA, gS, gZ, sA, sZ, sS])
        refine wv (.bool false) ?_ (hrun := by go_simp <;> omega)
        (try simp only [Act.put, gA, gS, gZ, sA, sZ, sS])
        refine wv (.bool false) ?_
        (try simp only [Act.put, gA, gS, gZ, sA, sZ, sS])
        refine wv (.int .i64 ((kk + 1 : Nat) : Int)) ?_
        (try simp only [Act.put, gA, gS, gZ, sA, sZ, sS])
        refine wv (.slice (some ⟨gp, 0, none⟩) n m) ?_
        (try simp only [Act.put, gA, gS, gZ, sA, sZ, sS])
        refine wv (.int .i64 (n : Nat)) ?_
        (try simp only [Act.put, gA, gS, gZ, sA, sZ, sS])
        refine wv (.bool false) ?_ (hrun := by go_simp <;> omega)
        (try simp only [Act.put, gA, gS, gZ, sA, sZ, sS])
        refine wv (.bool false) ?_ (hrun := run_pick_no (.tmp 56) (.const (.bool true)) (.tmp 60) _ rfl rfl rfl)
        (try simp only [Act.put, gA, gS, gZ, sA, sZ, sS])
        refine wv (.bool false) ?_
        (try simp only [Act.put, gA, gS, gZ, sA, sZ, sS])
        refine wv (.slice (some ⟨gp, 0, none⟩) n m) ?_
        (try simp only [Act.put, gA, gS, gZ, sA, sZ, sS])
        refine wv (.int .i64 ((kk + 1 : Nat) : Int)) ?_
        (try simp only [Act.put, gA, gS, gZ, sA, sZ, sS])
        refine wv (.int .i64 (kk : Nat)) ?_ (hrun := by go_simp <;> exact wr64 d6 d7)
        (try simp only [Act.put, gA, gS, gZ, sA, sZ, sS])
        refine wv (.pointer (some ⟨gp, kk * 21, none⟩)) ?_
        (try simp only [Act.put, gA, gS, gZ, sA, sZ, sS])
        refine wv (.agg (poA p)) ?_ (hrun := run_loadRange 58 _ rfl gp (kk * 21) rfl (poA p) _ (HPT.out _ kk _ K42.out.a.2.1.1 HP2.out) Tryd.underlying58 rfl (po_info _))
        (try simp only [Act.put, gA, gS, gZ, sA, sZ, sS])
        refine kx_call K42.out 9 #[.agg (poA p)] (.bool true) (by rfl) (by go_simp) (HON.out _) ?_
        intro w43 hk
        have K43 := Lib.hid (show Kx w [(b1, plA x (.slice ap np mp) (.slice az ns ms) (.slice (some ⟨g, off, none⟩) nf mf), 29), (b11, t3A i, 35), (b22, fA Y, 42), (b41, #[.slice x1 sl x2, .int .i64 why, .bool lb, .bool full], 48)] ((bdT w i V T l2).and ((PV.and Bd.nil).and (bdO w.heap.size 81 19 snC (.slice x1 sl x2) (sent)))) w43 from hk)
        clear hk
        (try simp only [Act.put, gA, gS, gZ, sA, sZ, sS])
        refine wv (.bool false) ?_
        (try simp only [Act.put, gA, gS, gZ, sA, sZ, sS])
        refine wv (.bool false) ?_ (hrun := run_pick_no (.tmp 62) (.const (.bool true)) (.tmp 69) _ rfl rfl rfl)
        (try simp only [Act.put, gA, gS, gZ, sA, sZ, sS])
        refine wv (.bool false) ?_
        (try simp only [Act.put, gA, gS, gZ, sA, sZ, sS])
        refine wv (.slice (some ⟨gp, 0, none⟩) n m) ?_
        (try simp only [Act.put, gA, gS, gZ, sA, sZ, sS])
        refine wv (.int .i64 ((kk + 1 : Nat) : Int)) ?_
        (try simp only [Act.put, gA, gS, gZ, sA, sZ, sS])
        refine wv (.int .i64 (kk : Nat)) ?_ (hrun := by go_simp <;> exact wr64 d6 d7)
        (try simp only [Act.put, gA, gS, gZ, sA, sZ, sS])
        refine wv (.pointer (some ⟨gp, kk * 21, none⟩)) ?_
        (try simp only [Act.put, gA, gS, gZ, sA, sZ, sS])
        refine wv (.pointer (some ⟨gp, kk * 21 + 11, none⟩)) ?_
        (try simp only [Act.put, gA, gS, gZ, sA, sZ, sS])
        refine wv (.int .i64 p.p11) ?_ (hrun := by have q : w43.cell? ⟨gp, kk * 21 + 11, none⟩ = some (.int .i64 p.p11) := range_cell (arr := poA p) (o := 11) (HPT.out _ kk _ K43.out.a.2.1.1 HP2.out) (by rfl); go_simp)
        (try simp only [Act.put, gA, gS, gZ, sA, sZ, sS])
        refine wv (.bool false) ?_ (hrun := by have q := HD4.out; have q2 := HD5.out; go_simp)
        (try simp only [Act.put, gA, gS, gZ, sA, sZ, sS])
        refine wv (.bool false) ?_ (hrun := run_pick_no (.tmp 71) (.const (.bool true)) (.tmp 78) _ rfl rfl rfl)
        (try simp only [Act.put, gA, gS, gZ, sA, sZ, sS])
        refine wv (.bool false) ?_
        (try simp only [Act.put, gA, gS, gZ, sA, sZ, sS])
        refine wpList_nil ?_
        go_upto_region 12 with fail
        refine wp_region_lit ?_
        refine wv (.bool false) ?_
        (try simp only [Act.put, gA, gS, gZ, sA, sZ, sS])
        refine wv (.bool false) ?_
        (try simp only [Act.put, gA, gS, gZ, sA, sZ, sS])
        refine wpList_skip (by kernel_rfl) ?_
        (try simp only [Act.put, gA, gS, gZ, sA, sZ, sS])
        refine wpList_skip (by kernel_rfl) ?_
        (try simp only [Act.put, gA, gS, gZ, sA, sZ, sS])
        refine wpList_skip (by kernel_rfl) ?_
        (try simp only [Act.put, gA, gS, gZ, sA, sZ, sS])
        refine wpList_skip (by kernel_rfl) ?_
        (try simp only [Act.put, gA, gS, gZ, sA, sZ, sS])
        refine wpList_skip (by kernel_rfl) ?_
        (try simp only [Act.put, gA, gS, gZ, sA, sZ, sS])
        refine wpList_skip (by kernel_rfl) ?_
        (try simp only [Act.put, gA, gS, gZ, sA, sZ, sS])
        refine wpList_skip (by kernel_rfl) ?_
        (try simp only [Act.put, gA, gS, gZ, sA, sZ, sS])
        refine wpList_skip (by kernel_rfl) ?_
        (try simp only [Act.put, gA, gS, gZ, sA, sZ, sS])
        refine wpList_skip (by kernel_rfl) ?_
        (try simp only [Act.put, gA, gS, gZ, sA, sZ, sS])
        refine wpList_skip (by kernel_rfl) ?_
        (try simp only [Act.put, gA, gS, gZ, sA, sZ, sS])
        refine wpList_skip (by kernel_rfl) ?_
        (try simp only [Act.put, gA, gS, gZ, sA, sZ, sS])
        refine wpList_skip (by kernel_rfl) ?_
        (try simp only [Act.put, gA, gS, gZ, sA, sZ, sS])
        refine wpList_skip (by kernel_rfl) ?_
        (try simp only [Act.put, gA, gS, gZ, sA, sZ, sS])
        refine wpList_skip (by kernel_rfl) ?_
        (try simp only [Act.put, gA, gS, gZ, sA, sZ, sS])
        refine wpList_skip (by kernel_rfl) ?_
        (try simp only [Act.put, gA, gS, gZ, sA, sZ, sS])
        refine wpList_skip (by kernel_rfl) ?_
        (try simp only [Act.put, gA, gS, gZ, sA, sZ, sS])
        refine wpList_skip (by kernel_rfl) ?_
        (try simp only [Act.put, gA, gS, gZ, sA, sZ, sS])
        refine wpList_skip (by kernel_rfl) ?_
        (try simp only [Act.put, gA, gS, gZ, sA, sZ, sS])
        refine wpList_skip (by kernel_rfl) ?_
        (try simp only [Act.put, gA, gS, gZ, sA, sZ, sS])
        refine wpList_skip (by kernel_rfl) ?_
        (try simp only [Act.put, gA, gS, gZ, sA, sZ, sS])
        refine wpList_skip (by kernel_rfl) ?_
        (try simp only [Act.put, gA, gS, gZ, sA, sZ, sS])
        refine wv (.bool false) ?_ (hrun := run_pick_no (.tmp 81) (.tmp 102) (.const (.bool false)) _ rfl rfl rfl)
        (try simp only [Act.put, gA, gS, gZ, sA, sZ, sS])
        refine wpList_nil ?_
        go_upto_region 14 with fail
        refine wp_region_lit ?_
        refine wv (.int .i64 0) ?_
        (try simp only [Act.put, gA, gS, gZ, sA, sZ, sS])
        refine wpList_nil ?_
        go_upto_region 15 with fail
        go_loopw [11] (fun q wr => ∃ jj : Nat, jj ≤ sl ∧ q = .int .i64 jj ∧ Kx w [(b1, plA x (.slice ap np mp) (.slice az ns ms) (.slice (some ⟨g, off, none⟩) nf mf), 29), (b11, t3A i, 35), (b22, fA Y, 42), (b41, #[.slice x1 sl x2, .int .i64 why, .bool lb, .bool full], 48)] ((bdT w i V T l2).and ((PV.and Bd.nil).and (bdO w.heap.size 81 19 snC (.slice x1 sl x2) (sent)))) wr) (fun q _ => sl - (intOf q).toNat)
        case atStart => exact ⟨0, Nat.zero_le _, rfl, K43.out⟩
        case round =>
          obtain ⟨jj, hj, rfl, hK⟩ := hrel
          have KQ := Lib.hid hK
          have HJ := Lib.hid hj
          clear hK hj
          have e1 : (0 : Int) ≤ (jj : Int) := by omega
          by_cases c0 : jj < sl
          case neg =>
            have c1 : sl ≤ jj := by omega
            clear c0
            go_upto_region 15 with fail
            refine wp_region_lit ?_
            refine wv (.int .i64 (jj : Nat)) ?_
            (try simp only [Act.put, gA, gS, gZ, sA, sZ, sS])
            refine wv (.pointer (some ⟨b41, 0, none⟩)) ?_
            (try simp only [Act.put, gA, gS, gZ, sA, sZ, sS])
            refine wv (.slice x1 sl x2) ?_ (hrun := by have q : wr.cell? ⟨b41, 0, none⟩ = some (.slice x1 sl x2) := KQ.out.cell (i := 3) rfl (by rfl); go_simp)
            (try simp only [Act.put, gA, gS, gZ, sA, sZ, sS])
            refine wv (.int .i64 (sl : Nat)) ?_
            (try simp only [Act.put, gA, gS, gZ, sA, sZ, sS])
            refine wv (.bool false) ?_ (hrun := by go_simp <;> omega)
            (try simp only [Act.put, gA, gS, gZ, sA, sZ, sS])
            refine wpList_nil ?_
            go_wp2_with fail
            go_roundw
            case rel => exact ⟨k + 1, l2, by have := HLT.out; omega, by have := HLT.out; omega, by have := HKK.out; have := HF1.out; omega, by go_num, by have q := (Kx.left (l := [(b1, plA x (.slice ap np mp) (.slice az ns ms) (.slice (some ⟨g, off, none⟩) nf mf), 29), (b11, t3A i, 35)]) (r := [(b22, fA Y, 42), (b41, #[.slice x1 sl x2, .int .i64 why, .bool lb, .bool full], 48)]) KQ.out).turn (A' := (bdT w i V T l2).and ((PV).and Bd.nil)) (fun h => ⟨h.1, h.2.1⟩) (fun k q => by rcases q with q | q; exact .inl q; exact .inr (.inl q)); rw [HPV.out] at q; exact q⟩
            case measure => have := HLT.out; simp [intOf]; omega
          case pos => as_aux_lemma =>
            have c1 : (jj : Int) < (sl : Int) := by omega
            obtain ⟨s, hs⟩ : ∃ s, sent[jj]? = some s := ⟨_, List.getElem?_eq_getElem (by rw [← HSL.out]; exact c0)⟩
            have HD9 := Lib.hid (HD8.out (fun e => by rw [e] at hs; cases hs))
            obtain ⟨⟨d9, tg9, pc9, de9, vi9, ty9, hfr9⟩, hne, q9, py, hq, hpy, hon, hst9⟩ := HF4.out s (List.mem_of_getElem? hs)
            obtain ⟨sp, sfr⟩ := s
            dsimp only at hfr9 hne hq
            subst hfr9 hq
            obtain ⟨gs, hgs⟩ : ∃ gs, x1 = some ⟨gs, 0, none⟩ := by
              have hO : Own wr w.heap.size 81 19 snC (.slice x1 sl x2) sent := KQ.out.a.2.2
              have q := HSL.out
              subst q
              obtain ⟨gs, hg, -⟩ := hO.elem sn_len hs
              exact ⟨gs, hg⟩
            subst hgs
            have HST9 := Lib.hid (show ∀ W, Own W w.heap.size 81 19 snC (.slice (some ⟨gs, 0, none⟩) sl x2) sent → W.rangeAt gs (jj * 19) (snC ⟨(q9 : Int) + 1, ⟨d9, Y.s, tg9, pc9, de9, vi9, ty9, Y.da⟩⟩) from fun W h => own_at (enc := snC) sn_len h HSL.out.symm hs)
            have hx2 : (sl : Int) ≤ (x2 : Int) := by
              obtain ⟨a9, c9, r1, r2, _⟩ := Own.shape (show Own wr w.heap.size 81 19 snC (.slice (some ⟨gs, 0, none⟩) sl x2) sent from KQ.out.a.2.2)
              injection r1 with r3 r4 r5
              omega
            have hx3 : (sl : Int) ≤ 9223372036854775807 := by
              obtain ⟨a9, c9, r1, r2, r6⟩ := Own.shape (show Own wr w.heap.size 81 19 snC (.slice (some ⟨gs, 0, none⟩) sl x2) sent from KQ.out.a.2.2)
              injection r1 with r3 r4 r5
              unfold maxLen at r6
              omega
            have HPY := Lib.hid hpy
            have HQN := Lib.hid (show q9 < n from by have := (List.getElem?_eq_some_iff.1 hpy).1; have := HN.out; omega)
            have e2 : (0 : Int) ≤ (q9 : Int) := by omega
            have e3 : (q9 : Int) < (n : Int) := by have := HQN.out; omega
            have e4 : (q9 : Int) ≤ 9223372036854775807 := by omega
            have hne' : ((q9 : Int) + 1 = ((kk + 1 : Nat) : Int)) = False := by simp; intro h; apply hne; omega
            have HNE := Lib.hid (show ¬ (q9 : Int) = (kk : Int) from fun h => hne (by omega))
            have HOQ := Lib.hid (show ∀ W : World, Calls Tryd.prog 9 #[poV py] W fun e w' => e = .returned (.bool true) ∧ Below W.heap.size W w' from fun W => by rw [← hon]; exact on_any py W)
            have HSQ := Lib.hid hst9
            have HEM := Lib.hid (equal_mc Y.s)
            clear hs hne hne' hpy hon hst9 c0
            go_upto_region 15 with fail
            refine wp_region_lit ?_
            refine wv (.int .i64 (jj : Nat)) ?_
            (try simp only [Act.put, gA, gS, gZ, sA, sZ, sS])
            refine wv (.pointer (some ⟨b41, 0, none⟩)) ?_
            (try simp only [Act.put, gA, gS, gZ, sA, sZ, sS])
            refine wv (.slice (some ⟨gs, 0, none⟩) sl x2) ?_ (hrun := by have q : wr.cell? ⟨b41, 0, none⟩ = some (.slice (some ⟨gs, 0, none⟩) sl x2) := KQ.out.cell (i := 3) rfl (by rfl); go_simp)
            (try simp only [Act.put, gA, gS, gZ, sA, sZ, sS])
            refine wv (.int .i64 (sl : Nat)) ?_
            (try simp only [Act.put, gA, gS, gZ, sA, sZ, sS])
            refine wv (.bool true) ?_
            (try simp only [Act.put, gA, gS, gZ, sA, sZ, sS])
            refine wpList_nil ?_
            go_upto_region 17 with fail
            refine wp_region_lit ?_
            refine wv (.pointer (some ⟨b41, 0, none⟩)) ?_
            (try simp only [Act.put, gA, gS, gZ, sA, sZ, sS])
            refine wv (.slice (some ⟨gs, 0, none⟩) sl x2) ?_ (hrun := by have q : wr.cell? ⟨b41, 0, none⟩ = some (.slice (some ⟨gs, 0, none⟩) sl x2) := KQ.out.cell (i := 3) rfl (by rfl); go_simp)
            (try simp only [Act.put, gA, gS, gZ, sA, sZ, sS])
            refine wv (.int .i64 (jj : Nat)) ?_
            (try simp only [Act.put, gA, gS, gZ, sA, sZ, sS])
            refine wv (.pointer (some ⟨gs, jj * 19, none⟩)) ?_
            (try simp only [Act.put, gA, gS, gZ, sA, sZ, sS])
            refine wv (.pointer (some ⟨gs, jj * 19, none⟩)) ?_
            (try simp only [Act.put, gA, gS, gZ, sA, sZ, sS])
            refine wv (.int .i64 ((q9 : Int) + 1)) ?_ (hrun := by have q : wr.cell? ⟨gs, jj * 19, none⟩ = some (.int .i64 ((q9 : Int) + 1)) := range_cell (arr := snA ⟨(q9 : Int) + 1, ⟨d9, Y.s, tg9, pc9, de9, vi9, ty9, Y.da⟩⟩) (o := 0) (HST9.out _ KQ.out.a.2.2) (by rfl); go_simp)
            (try simp only [Act.put, gA, gS, gZ, sA, sZ, sS])
            refine wv (.int .i64 ((q9 : Int) + 1)) ?_
            (try simp only [Act.put, gA, gS, gZ, sA, sZ, sS])
            refine wpList_nil ?_
            go_upto_region 18 with fail
            refine wp_region_quiet (C := fun W => Kx w [(b1, plA x (.slice ap np mp) (.slice az ns ms) (.slice (some ⟨g, off, none⟩) nf mf), 29), (b11, t3A i, 35), (b22, fA Y, 42), (b41, #[.slice (some ⟨gs, 0, none⟩) sl x2, .int .i64 why, .bool lb, .bool full], 48)] ((bdT w i V T l2).and ((PV.and Bd.nil).and (bdO w.heap.size 81 19 snC (.slice (some ⟨gs, 0, none⟩) sl x2) (sent)))) W) (by kernel_rfl) (by kernel_rfl) KQ.out.drew ?_
            refine qv (.int .i64 ((q9 : Int) + 1)) ?_
            (try simp only [Act.put, gA, gS, gZ, sA, sZ, sS])
            refine qv (.bool false) ?_ (hv := fun wv hC => by go_simp <;> omega)
            (try simp only [Act.put, gA, gS, gZ, sA, sZ, sS])
            refine qv (.bool false) ?_
            (try simp only [Act.put, gA, gS, gZ, sA, sZ, sS])
            refine qv (.int .i64 ((q9 : Int) + 1)) ?_
            (try simp only [Act.put, gA, gS, gZ, sA, sZ, sS])
            refine qv (.slice (some ⟨gp, 0, none⟩) n m) ?_
            (try simp only [Act.put, gA, gS, gZ, sA, sZ, sS])
            refine qv (.int .i64 (n : Nat)) ?_
            (try simp only [Act.put, gA, gS, gZ, sA, sZ, sS])
            refine qv (.bool false) ?_ (hv := fun wv hC => by go_simp <;> omega)
            (try simp only [Act.put, gA, gS, gZ, sA, sZ, sS])
            refine qv (.bool false) ?_ (hv := fun wv hC => run_pick_no (.tmp 119) (.const (.bool true)) (.tmp 123) _ rfl rfl rfl)
            (try simp only [Act.put, gA, gS, gZ, sA, sZ, sS])
            refine qv (.bool false) ?_
            (try simp only [Act.put, gA, gS, gZ, sA, sZ, sS])
            refine qv (.int .i64 ((q9 : Int) + 1)) ?_
            (try simp only [Act.put, gA, gS, gZ, sA, sZ, sS])
            refine qv (.int .i64 ((kk + 1 : Nat) : Int)) ?_
            (try simp only [Act.put, gA, gS, gZ, sA, sZ, sS])
            refine qv (.bool false) ?_ (hv := fun wv hC => by have q := HNE.out; go_simp <;> omega)
            (try simp only [Act.put, gA, gS, gZ, sA, sZ, sS])
            refine qv (.bool false) ?_ (hv := fun wv hC => run_pick_no (.tmp 125) (.const (.bool true)) (.tmp 128) _ rfl rfl rfl)
            (try simp only [Act.put, gA, gS, gZ, sA, sZ, sS])
            refine qv (.bool false) ?_
            (try simp only [Act.put, gA, gS, gZ, sA, sZ, sS])
            refine qv (.slice (some ⟨gp, 0, none⟩) n m) ?_
            (try simp only [Act.put, gA, gS, gZ, sA, sZ, sS])
            refine qv (.int .i64 ((q9 : Int) + 1)) ?_
            (try simp only [Act.put, gA, gS, gZ, sA, sZ, sS])
            refine qv (.int .i64 (q9 : Nat)) ?_ (hv := fun wv hC => by go_simp <;> exact wr64 e2 e4)
            (try simp only [Act.put, gA, gS, gZ, sA, sZ, sS])
            refine qv (.pointer (some ⟨gp, q9 * 21, none⟩)) ?_
            (try simp only [Act.put, gA, gS, gZ, sA, sZ, sS])
            refine qv (.agg (poA py)) ?_ (hv := fun wv hC => run_loadRange 58 _ rfl gp (q9 * 21) rfl (poA py) _ (HPT.out _ q9 _ (Lib.hid hC).out.a.2.1.1 HPY.out) Tryd.underlying58 rfl (po_info _))
            (try simp only [Act.put, gA, gS, gZ, sA, sZ, sS])
            refine q_call (v := .bool true) 9 #[.agg (poA py)] (by rfl) (fun wv hC => by go_simp) (fun wv hC => calls_in (HOQ.out _) (fun w2 hb => hC.next hb)) ?_
            (try simp only [Act.put, gA, gS, gZ, sA, sZ, sS])
            refine qv (.bool false) ?_
            (try simp only [Act.put, gA, gS, gZ, sA, sZ, sS])
            refine qv (.bool false) ?_ (hv := fun wv hC => run_pick_no (.tmp 130) (.const (.bool true)) (.tmp 137) _ rfl rfl rfl)
            (try simp only [Act.put, gA, gS, gZ, sA, sZ, sS])
            refine qv (.bool false) ?_
            (try simp only [Act.put, gA, gS, gZ, sA, sZ, sS])
            refine qv (.slice (some ⟨gp, 0, none⟩) n m) ?_
            (try simp only [Act.put, gA, gS, gZ, sA, sZ, sS])
            refine qv (.int .i64 ((q9 : Int) + 1)) ?_
            (try simp only [Act.put, gA, gS, gZ, sA, sZ, sS])
            refine qv (.int .i64 (q9 : Nat)) ?_ (hv := fun wv hC => by go_simp <;> exact wr64 e2 e4)
            (try simp only [Act.put, gA, gS, gZ, sA, sZ, sS])
            refine qv (.pointer (some ⟨gp, q9 * 21, none⟩)) ?_
            (try simp only [Act.put, gA, gS, gZ, sA, sZ, sS])
            refine qv (.pointer (some ⟨gp, q9 * 21 + 11, none⟩)) ?_
            (try simp only [Act.put, gA, gS, gZ, sA, sZ, sS])
            refine qv (.int .i64 py.p11) ?_ (hv := fun wv hC => by have q : wv.cell? ⟨gp, q9 * 21 + 11, none⟩ = some (.int .i64 py.p11) := range_cell (arr := poA py) (o := 11) (HPT.out _ q9 _ (Lib.hid hC).out.a.2.1.1 HPY.out) (by rfl); go_simp)
            (try simp only [Act.put, gA, gS, gZ, sA, sZ, sS])
            refine qv (.bool false) ?_ (hv := fun wv hC => by have q := HSQ.out; go_simp)
            (try simp only [Act.put, gA, gS, gZ, sA, sZ, sS])
            refine qv (.bool false) ?_ (hv := fun wv hC => run_pick_no (.tmp 139) (.const (.bool true)) (.tmp 146) _ rfl rfl rfl)
            (try simp only [Act.put, gA, gS, gZ, sA, sZ, sS])
            refine qv (.bool false) ?_
            (try simp only [Act.put, gA, gS, gZ, sA, sZ, sS])
            refine qv (.bool false) ?_
            (try simp only [Act.put, gA, gS, gZ, sA, sZ, sS])
            refine qv (.bool false) ?_ (hv := fun wv hC => run_pick_no (.tmp 148) (.const (.bool true)) (.tmp 149) _ rfl rfl rfl)
            (try simp only [Act.put, gA, gS, gZ, sA, sZ, sS])
            refine qv (.bool false) ?_
            (try simp only [Act.put, gA, gS, gZ, sA, sZ, sS])
            refine qv (.slice (some ⟨gp, 0, none⟩) n m) ?_
            (try simp only [Act.put, gA, gS, gZ, sA, sZ, sS])
            refine qv (.int .i64 ((kk + 1 : Nat) : Int)) ?_
            (try simp only [Act.put, gA, gS, gZ, sA, sZ, sS])
            refine qv (.int .i64 (kk : Nat)) ?_ (hv := fun wv hC => by go_simp <;> exact wr64 d6 d7)
            (try simp only [Act.put, gA, gS, gZ, sA, sZ, sS])
            refine qv (.pointer (some ⟨gp, kk * 21, none⟩)) ?_
            (try simp only [Act.put, gA, gS, gZ, sA, sZ, sS])
            refine qv (.pointer (some ⟨gp, kk * 21 + 11, none⟩)) ?_
            (try simp only [Act.put, gA, gS, gZ, sA, sZ, sS])
            refine qv (.int .i64 p.p11) ?_ (hv := fun wv hC => by have q : wv.cell? ⟨gp, kk * 21 + 11, none⟩ = some (.int .i64 p.p11) := range_cell (arr := poA p) (o := 11) (HPT.out _ kk _ (Lib.hid hC).out.a.2.1.1 HP2.out) (by rfl); go_simp)
            (try simp only [Act.put, gA, gS, gZ, sA, sZ, sS])
            refine qv (.bool false) ?_ (hv := fun wv hC => by have q := HD9.out; go_simp)
            (try simp only [Act.put, gA, gS, gZ, sA, sZ, sS])
            refine qv (.bool false) ?_ (hv := fun wv hC => run_pick_no (.tmp 151) (.const (.bool true)) (.tmp 158) _ rfl rfl rfl)
            (try simp only [Act.put, gA, gS, gZ, sA, sZ, sS])
            refine qv (.bool false) ?_
            (try simp only [Act.put, gA, gS, gZ, sA, sZ, sS])
            refine qv (.pointer (some ⟨b41, 0, none⟩)) ?_
            (try simp only [Act.put, gA, gS, gZ, sA, sZ, sS])
            refine qv (.slice (some ⟨gs, 0, none⟩) sl x2) ?_ (hv := fun wv hC => by have q : wv.cell? ⟨b41, 0, none⟩ = some (.slice (some ⟨gs, 0, none⟩) sl x2) := (Lib.hid hC).out.cell (i := 3) rfl (by rfl); go_simp)
            (try simp only [Act.put, gA, gS, gZ, sA, sZ, sS])
            refine qv (.int .i64 (jj : Nat)) ?_
            (try simp only [Act.put, gA, gS, gZ, sA, sZ, sS])
            refine qv (.pointer (some ⟨gs, jj * 19, none⟩)) ?_
            (try simp only [Act.put, gA, gS, gZ, sA, sZ, sS])
            refine qv (.pointer (some ⟨gs, jj * 19 + 1, none⟩)) ?_
            (try simp only [Act.put, gA, gS, gZ, sA, sZ, sS])
            refine qv (.pointer (some ⟨gs, jj * 19 + 18, none⟩)) ?_
            (try simp only [Act.put, gA, gS, gZ, sA, sZ, sS])
            refine qv (.string Y.da) ?_ (hv := fun wv hC => by have q : wv.cell? ⟨gs, jj * 19 + 18, none⟩ = some (.string Y.da) := range_cell (arr := snA ⟨(q9 : Int) + 1, ⟨d9, Y.s, tg9, pc9, de9, vi9, ty9, Y.da⟩⟩) (o := 18) (HST9.out _ (Lib.hid hC).out.a.2.2) (by rfl); go_simp)
            (try simp only [Act.put, gA, gS, gZ, sA, sZ, sS])
            refine qv (.pointer (some ⟨b22, 17, none⟩)) ?_
            (try simp only [Act.put, gA, gS, gZ, sA, sZ, sS])
            refine qv (.string Y.da) ?_ (hv := fun wv hC => by have q : wv.cell? ⟨b22, 17, none⟩ = some (.string Y.da) := (Lib.hid hC).out.cell (i := 2) rfl (by rfl); go_simp)
            (try simp only [Act.put, gA, gS, gZ, sA, sZ, sS])
            refine qv (.bool false) ?_
            (try simp only [Act.put, gA, gS, gZ, sA, sZ, sS])
            refine qv (.bool false) ?_ (hv := fun wv hC => run_pick_no (.tmp 160) (.const (.bool true)) (.tmp 170) _ rfl rfl rfl)
            (try simp only [Act.put, gA, gS, gZ, sA, sZ, sS])
            refine qv (.bool false) ?_
            (try simp only [Act.put, gA, gS, gZ, sA, sZ, sS])
            refine qv (.pointer (some ⟨b41, 0, none⟩)) ?_
            (try simp only [Act.put, gA, gS, gZ, sA, sZ, sS])
            refine qv (.slice (some ⟨gs, 0, none⟩) sl x2) ?_ (hv := fun wv hC => by have q : wv.cell? ⟨b41, 0, none⟩ = some (.slice (some ⟨gs, 0, none⟩) sl x2) := (Lib.hid hC).out.cell (i := 3) rfl (by rfl); go_simp)
            (try simp only [Act.put, gA, gS, gZ, sA, sZ, sS])
            refine qv (.int .i64 (jj : Nat)) ?_
            (try simp only [Act.put, gA, gS, gZ, sA, sZ, sS])
            refine qv (.pointer (some ⟨gs, jj * 19, none⟩)) ?_
            (try simp only [Act.put, gA, gS, gZ, sA, sZ, sS])
            refine qv (.pointer (some ⟨gs, jj * 19 + 1, none⟩)) ?_
            (try simp only [Act.put, gA, gS, gZ, sA, sZ, sS])
            refine qv (.pointer (some ⟨gs, jj * 19 + 7, none⟩)) ?_
            (try simp only [Act.put, gA, gS, gZ, sA, sZ, sS])
            refine qv (.agg (macA Y.s)) ?_ (hv := fun wv hC => run_loadRange 40 _ rfl gs (jj * 19 + 7) rfl (macA Y.s) _ (range_part (arr := snA ⟨(q9 : Int) + 1, ⟨d9, Y.s, tg9, pc9, de9, vi9, ty9, Y.da⟩⟩) (o := 7) (HST9.out _ (Lib.hid hC).out.a.2.2) (part_of (by kernel_rfl))) Tryd.underlying40 rfl (mcSize))
            (try simp only [Act.put, gA, gS, gZ, sA, sZ, sS])
            refine qv (.pointer (some ⟨b22, 6, none⟩)) ?_
            (try simp only [Act.put, gA, gS, gZ, sA, sZ, sS])
            refine qv (.agg (macA Y.s)) ?_ (hv := fun wv hC => kx_part (Lib.hid hC).out 2 rfl 40 _ 6 (macA Y.s).toList rfl rfl (part_of (by kernel_rfl)) Tryd.underlying40 rfl (mcSize))
            (try simp only [Act.put, gA, gS, gZ, sA, sZ, sS])
            refine qv (.bool false) ?_ (hv := fun wv hC => by have q := HEM.out; go_simp)
            (try simp only [Act.put, gA, gS, gZ, sA, sZ, sS])
            refine qv (.bool false) ?_ (hv := fun wv hC => run_pick_no (.tmp 172) (.const (.bool true)) (.tmp 182) _ rfl rfl rfl)
            (try simp only [Act.put, gA, gS, gZ, sA, sZ, sS])
            refine wpQuiet_nil ?_
            intro w101 hC
            have K101 := Lib.hid (show Kx w [(b1, plA x (.slice ap np mp) (.slice az ns ms) (.slice (some ⟨g, off, none⟩) nf mf), 29), (b11, t3A i, 35), (b22, fA Y, 42), (b41, #[.slice (some ⟨gs, 0, none⟩) sl x2, .int .i64 why, .bool lb, .bool full], 48)] ((bdT w i V T l2).and ((PV.and Bd.nil).and (bdO w.heap.size 81 19 snC (.slice (some ⟨gs, 0, none⟩) sl x2) (sent)))) w101 from hC)
            clear hC
            go_wp2_with fail
            go_roundw
            case rel => exact ⟨jj + 1, by omega, by go_num, K101.out⟩
            case measure => simp [intOf]; omega
end
end Go.Proofs.YtelohoomlgjjmaaDoor
