import Derived.Test.YtelohoomlgjjmaaDoorG21
import Derived.Test.YtelohoomlgjjmaaDoorG22
set_option linter.unusedSimpArgs false
set_option linter.unusedVariables false
namespace Go.Proofs.YtelohoomlgjjmaaDoor
section
/- PlanePasses walked. -/
open Go.RowKit
attribute [local irreducible] wpQuiet wpList

theorem why_at (c : Int) (h : c = 0 ∨ c = 1 ∨ c = 2 ∨ c = 3) : ∀ W : World, (Instr.index 61 (.agg #[.int .i64 7, .int .i64 3, .int .i64 4, .int .i64 5]) (.int .i64 c)).run Tryd.prog W = .ok (.int .i64 (whyN c)) W := fun W => by
  rcases h with rfl | rfl | rfl | rfl <;> kernel_rfl
theorem why_at0 : ∀ W : World, (Instr.index 61 (.agg #[.int .i64 7, .int .i64 3, .int .i64 4, .int .i64 5]) (.int .i64 0)).run Tryd.prog W = .ok (.int .i64 7) W := why_at 0 (.inl rfl)
theorem zKy : ∀ W : World, (zeroValue 63).run Tryd.prog W = .ok (.agg #[.int .u16 0, .int .u8 0, .int .u8 0, .int .u8 0, .int .u8 0, .int .u8 0, .int .u8 0]) W := fun W => Tryd.zeroValue63 W
theorem shut_cases {ps : List Po} {r : Nat} (h : shutP ps (r : Int)) : (r : Int) < 1 ∨ (1 ≤ (r : Int) ∧ (ps.length : Int) < (r : Int)) ∨ (∃ (k : Nat) (p : Po), r = k + 1 ∧ k < ps.length ∧ ps[k]? = some p ∧ onP p = false) ∨ ∃ (k : Nat) (p : Po), r = k + 1 ∧ k < ps.length ∧ ps[k]? = some p ∧ onP p = true ∧ p.p11 = 0 := by
  by_cases c1 : (r : Int) < 1
  · exact .inl c1
  · by_cases c2 : (ps.length : Int) < (r : Int)
    · exact .inr (.inl ⟨by omega, c2⟩)
    · rcases h with h | h | ⟨p, hp, h⟩
      · exact absurd h c1
      · exact absurd h c2
      · have e : ((r : Int) - 1).toNat = r - 1 := by omega
        rw [e] at hp
        cases c : onP p with
        | false => exact .inr (.inr (.inl ⟨r - 1, p, by omega, by omega, hp, c⟩))
        | true => exact .inr (.inr (.inr ⟨r - 1, p, by omega, by omega, hp, c, h.resolve_left (by rw [c]; decide)⟩))
theorem RowsAt.same2 {α : Type} {w w' : World} {A : Option Addr} {size : Nat} {enc : α → List Value} {l : List α} (h : RowsAt w A size enc l) (hb : Below w.heap.size w w') : RowsAt w' A size enc l := h.same hb
set_option maxRecDepth 100000 in
set_option maxHeartbeats 60000000 in
theorem pass_walk (x : Py) (hx : x.ok) (lp : List Lp) (lst : List (Nat × Nat)) (fs : List Fg) (ap az af : Option Addr) (np mp ns ms nf mf : Nat) (w : World) (hW : WhysAt w) (hp : RowsAt w ap 5 lpC lp) (hs : RowsAt w az 2 stC lst) (hf : RowsAt w af 6 fgC fs) (hlp : lp.length = np) (hls : lst.length = ns) (hlf : fs.length = nf) (hmp : np ≤ mp ∧ mp ≤ maxLen) (hms : ns ≤ ms ∧ ms ≤ maxLen) (hmf : nf ≤ mf ∧ mf ≤ maxLen) (hok : ∀ y ∈ lp, y.ok) (hst : ∀ p ∈ lst, p.1 < 65536 ∧ p.2 < 65536) (hfo : ∀ y ∈ fs, y.ok) : Calls Tryd.prog 3 #[.agg (plA x (.slice ap np mp) (.slice az ns ms) (.slice af nf mf))] w fun e w' => e = .returned (.bool true) ∧ Below w.heap.size w w' := by
  have HWY := Lib.hid hW
  have HX := Lib.hid hx
  have HP := Lib.hid hp
  have HS := Lib.hid hs
  have HF := Lib.hid hf
  have HLP := Lib.hid hlp
  have HLS := Lib.hid hls
  have HLF := Lib.hid hlf
  have HMP := Lib.hid hmp
  have HMS := Lib.hid hms
  have HMF := Lib.hid hmf
  have HOK := Lib.hid hok
  have HST := Lib.hid hst
  have HFO := Lib.hid hfo
  have i2 : (nf : Int) ≤ 9223372036854775807 := by unfold maxLen at hmf; omega
  have i4 : (nf : Int) ≤ (mf : Int) := by omega
  have K0 := Lib.hid (Kx.start (Kb.nil w))
  obtain ⟨V, hV⟩ : ∃ V, V = madeV x 3 := ⟨_, rfl⟩
  obtain ⟨T, hT⟩ : ∃ T, T = madeT (lst.take 6) := ⟨_, rfl⟩
  obtain ⟨ps, hps⟩ : ∃ ps, ps = (lp.take 8).map madeP := ⟨_, rfl⟩
  have HPO := Lib.hid (show ∀ y ∈ ps, PoOk y by rw [hps]; intro y hy; obtain ⟨z, -, rfl⟩ := List.mem_map.1 hy; exact madeP_ok z)
  obtain ⟨mo, hmo⟩ : ∃ mo : Int, mo = ((1 + x.room % 6 : Nat) : Int) := ⟨_, rfl⟩
  have HM1 := Lib.hid (show 1 ≤ mo by rw [hmo]; omega)
  have HP8 := Lib.hid (show ps.length ≤ 8 by rw [hps, List.length_map, List.length_take]; omega)
  have HMK := Lib.hid (show ∀ W, Below w.heap.size w W → Calls Tryd.prog 6 #[.agg (plA x (.slice ap np mp) (.slice az ns ms) (.slice af nf mf))] W fun e w' => ∃ v, e = .returned v ∧ ∃ (i : Ix) (a : Option Addr) (n m : Nat), v = .tuple #[.agg (t3A i), .slice a n m] ∧ i.mo = mo ∧ i.li = 20 ∧ ps.length = n ∧ n ≤ m ∧ m ≤ maxLen ∧ Kx W [] ((bdT W i V T []).and (bdO W.heap.size 58 21 poC (.slice a n m) ps)) w' ∧ ∀ k, (Value.slice a n m).ownBlock = some k → ¬ (bdT W i V T []).f k from fun W hW => by
    rw [hV, hT, hps, hmo]
    exact (made_any x hx lp lst _ ap az np mp ns ms W (hp.same hW) (hs.same hW) hlp hls hmp hms hok hst).mono fun e w' h => by
      obtain ⟨i, a, n, m, q1, q2, q3, q4, q5, q6, q7, q8⟩ := h
      exact ⟨_, q1, i, a, n, m, rfl, q2, q3, q4, q5, q6, q7, q8⟩)
  clear hW hx hp hs hf hlp hls hlf hmp hms hmf hok hst hfo hV hT hps hmo
  go_enter Tryd.func3, Tryd.ntmps3
  go_upto_region 0 with fail
  refine wp_region_lit ?_
  refine kx_box K0.out 29 (.tmp 0) (plA x (.slice ap np mp) (.slice az ns ms) (.slice af nf mf)) rfl rfl (by rfl) ?_
  intro b1 w1 hb1 hk
  have K1 := Lib.hid (show Kx w [(b1, plA x (.slice ap np mp) (.slice az ns ms) (.slice af nf mf), 29)] (Bd.nil) w1 from hk)
  clear hk hb1
  (try simp only [Act.put, gA, gS, gZ, sA, sZ, sS])
  refine wv (.bool false) ?_
  (try simp only [Act.put, gA, gS, gZ, sA, sZ, sS])
  refine wpList_nil ?_
  go_upto_region 1 with fail
  refine wp_region_lit ?_
  refine kx_call K1.out 5 #[] (.bool true) (by rfl) (by go_simp) (speaks19_any _ (HWY.out.next K1.out.below HWY.out.lt)) ?_
  intro w2 hk
  have K2 := Lib.hid (show Kx w [(b1, plA x (.slice ap np mp) (.slice az ns ms) (.slice af nf mf), 29)] (Bd.nil) w2 from hk)
  clear hk
  (try simp only [Act.put, gA, gS, gZ, sA, sZ, sS])
  refine wv (.bool false) ?_
  (try simp only [Act.put, gA, gS, gZ, sA, sZ, sS])
  refine wpList_nil ?_
  go_upto_region 3 with fail
  refine wp_region_lit ?_
  refine wv (.agg (plA x (.slice ap np mp) (.slice az ns ms) (.slice af nf mf))) ?_ (hrun := kx_all K2.out 0 rfl 29 _ rfl rfl Tryd.underlying29 rfl (plSize))
  (try simp only [Act.put, gA, gS, gZ, sA, sZ, sS])
  refine wl_call (R := fun v wz => ∃ (i : Ix) (a : Option Addr) (n m : Nat), v = .tuple #[.agg (t3A i), .slice a n m] ∧ i.mo = mo ∧ i.li = 20 ∧ ps.length = n ∧ n ≤ m ∧ m ≤ maxLen ∧ Kx w2 [] ((bdT w2 i V T []).and (bdO w2.heap.size 58 21 poC (.slice a n m) ps)) wz ∧ ∀ k, (Value.slice a n m).ownBlock = some k → ¬ (bdT w2 i V T []).f k) 6 #[.agg (plA x (.slice ap np mp) (.slice az ns ms) (.slice af nf mf))] (by rfl) (by go_simp) (HMK.out _ K2.out.below) ?_
  rintro _ w10 ⟨i, a, n, m, rfl, hmo, hli, hn, hnm, hmx, hk, hdis⟩
  have K10 := Lib.hid (show Kx w [(b1, plA x (.slice ap np mp) (.slice az ns ms) (.slice af nf mf), 29)] ((bdT w i V T []).and (bdO w.heap.size 58 21 poC (.slice a n m) ps)) w10 from (K2.out.made hk).turn (fun h => ⟨h.2.1, h.2.2⟩) (fun k q => by rcases q with q | q; exact .inr (.inl q); exact .inr (.inr q)))
  have HD1 := Lib.hid (show ∀ lf k, (bdO w.heap.size 58 21 poC (.slice a n m) ps).f k → ¬ (bdT w i V T lf).f k from fun lf k q => hdis k q)
  have HMI := Lib.hid hmo
  have HLI := Lib.hid hli
  have HMO := Lib.hid (show 1 ≤ i.mo by rw [hmo]; exact HM1.out)
  have HN := Lib.hid hn
  have HMX := Lib.hid (And.intro hnm hmx)
  have i5 : (n : Int) ≤ 9223372036854775807 := by unfold maxLen at hmx; omega
  have i6 : (n : Int) ≤ (m : Int) := by omega
  clear hk hdis hmo hli hn hnm hmx
  (try simp only [Act.put, gA, gS, gZ, sA, sZ, sS])
  refine wv (.tuple #[.agg (t3A i), .slice a n m]) ?_
  (try simp only [Act.put, gA, gS, gZ, sA, sZ, sS])
  refine wv (.agg (t3A i)) ?_
  (try simp only [Act.put, gA, gS, gZ, sA, sZ, sS])
  refine wv (.slice a n m) ?_
  (try simp only [Act.put, gA, gS, gZ, sA, sZ, sS])
  refine kx_alloc K10.out 35 (#[.pointer none, .pointer none, .pointer none]) rfl zT (by rfl) ?_
  intro b11 w11 hb11 hk
  have K11 := Lib.hid (show Kx w [(b1, plA x (.slice ap np mp) (.slice az ns ms) (.slice af nf mf), 29), (b11, #[.pointer none, .pointer none, .pointer none], 35)] ((bdT w i V T []).and (bdO w.heap.size 58 21 poC (.slice a n m) ps)) w11 from hk)
  clear hk hb11
  (try simp only [Act.put, gA, gS, gZ, sA, sZ, sS])
  refine kx_row K11.out 1 rfl 35 _ _ (t3A i) rfl rfl rfl rfl (t3Size) (by rfl) (t3_one i) ?_
  intro w12 hk
  have K12 := Lib.hid (show Kx w [(b1, plA x (.slice ap np mp) (.slice az ns ms) (.slice af nf mf), 29), (b11, t3A i, 35)] ((bdT w i V T []).and (bdO w.heap.size 58 21 poC (.slice a n m) ps)) w12 from hk)
  clear hk
  (try simp only [Act.put, gA, gS, gZ, sA, sZ, sS])
  refine wv (.slice a n m) ?_
  (try simp only [Act.put, gA, gS, gZ, sA, sZ, sS])
  refine wpList_nil ?_
  go_upto_region 4 with fail
  refine wp_region_lit ?_
  refine wv (.agg (plA x (.slice ap np mp) (.slice az ns ms) (.slice af nf mf))) ?_ (hrun := kx_all K12.out 0 rfl 29 _ rfl rfl Tryd.underlying29 rfl (plSize))
  (try simp only [Act.put, gA, gS, gZ, sA, sZ, sS])
  refine wl_call (R := fun v wz => ∃ (i : Ix) (a : Option Addr) (n m : Nat), v = .tuple #[.agg (t3A i), .slice a n m] ∧ i.mo = mo ∧ i.li = 20 ∧ ps.length = n ∧ n ≤ m ∧ m ≤ maxLen ∧ Kx w12 [] ((bdT w12 i V T []).and (bdO w12.heap.size 58 21 poC (.slice a n m) ps)) wz ∧ ∀ k, (Value.slice a n m).ownBlock = some k → ¬ (bdT w12 i V T []).f k) 6 #[.agg (plA x (.slice ap np mp) (.slice az ns ms) (.slice af nf mf))] (by rfl) (by go_simp) (HMK.out _ K12.out.below) ?_
  rintro _ w20 ⟨j, a2, n2, m2, rfl, hmo, hli, hn, hnm, hmx, hk, hdis⟩
  have K20 := Lib.hid (show Kx w [(b1, plA x (.slice ap np mp) (.slice az ns ms) (.slice af nf mf), 29), (b11, t3A i, 35)] ((bdT w i V T []).and ((bdO w.heap.size 58 21 poC (.slice a n m) ps).and (bdT w j V T []))) w20 from (K12.out.made hk).turn (fun h => ⟨h.1.1, h.1.2, h.2.1⟩) (fun k q => by rcases q with q | q | q; exact .inl (.inl q); exact .inl (.inr q); exact .inr (.inl q)))
  have HNW := Lib.hid (show ∀ lf k, (bdT w j V T lf).f k → w12.heap.size ≤ k from fun lf k q => hk.nw k (.inl q))
  have HDS := Lib.hid (show ∀ lf lg k, ((bdO w.heap.size 58 21 poC (.slice a n m) ps).and (bdT w j V T lg)).f k → ¬ (bdT w i V T lf).f k from fun lf lg k q => by
    rcases q with q | q
    · exact HD1.out lf k q
    · intro h; have q1 := HNW.out lg k q; have q2 := (bdT w i V T []).lt K12.out.a.1 h; omega)
  have HPJ := Lib.hid (show ∀ lf k, (bdO w.heap.size 58 21 poC (.slice a n m) ps).f k → ¬ (bdT w j V T lf).f k from fun lf k q h => by have q1 := HNW.out lf k h; have q2 := (bdO w.heap.size 58 21 poC (.slice a n m) ps).lt K12.out.a.2 q; omega)
  have HMJ := Lib.hid hmo
  have HLJ := Lib.hid hli
  have HMO2 := Lib.hid (show 1 ≤ j.mo by rw [hmo]; exact HM1.out)
  clear hk hdis hmo hli hn hnm hmx
  (try simp only [Act.put, gA, gS, gZ, sA, sZ, sS])
  refine wv (.tuple #[.agg (t3A j), .slice a2 n2 m2]) ?_
  (try simp only [Act.put, gA, gS, gZ, sA, sZ, sS])
  refine wv (.agg (t3A j)) ?_
  (try simp only [Act.put, gA, gS, gZ, sA, sZ, sS])
  refine wv (.slice a2 n2 m2) ?_
  (try simp only [Act.put, gA, gS, gZ, sA, sZ, sS])
  refine kx_alloc K20.out 35 (#[.pointer none, .pointer none, .pointer none]) rfl zT (by rfl) ?_
  intro b21 w21 hb21 hk
  have K21 := Lib.hid (show Kx w [(b1, plA x (.slice ap np mp) (.slice az ns ms) (.slice af nf mf), 29), (b11, t3A i, 35), (b21, #[.pointer none, .pointer none, .pointer none], 35)] ((bdT w i V T []).and ((bdO w.heap.size 58 21 poC (.slice a n m) ps).and (bdT w j V T []))) w21 from hk)
  clear hk hb21
  (try simp only [Act.put, gA, gS, gZ, sA, sZ, sS])
  refine kx_row K21.out 2 rfl 35 _ _ (t3A j) rfl rfl rfl rfl (t3Size) (by rfl) (t3_one j) ?_
  intro w22 hk
  have K22 := Lib.hid (show Kx w [(b1, plA x (.slice ap np mp) (.slice az ns ms) (.slice af nf mf), 29), (b11, t3A i, 35), (b21, t3A j, 35)] ((bdT w i V T []).and ((bdO w.heap.size 58 21 poC (.slice a n m) ps).and (bdT w j V T []))) w22 from hk)
  clear hk
  (try simp only [Act.put, gA, gS, gZ, sA, sZ, sS])
  refine wv (.slice a2 n2 m2) ?_
  (try simp only [Act.put, gA, gS, gZ, sA, sZ, sS])
  refine wpList_nil ?_
  go_upto_region 5 with fail
  refine wp_region_lit ?_
  refine wv (.int .i64 0) ?_
  (try simp only [Act.put, gA, gS, gZ, sA, sZ, sS])
  refine wpList_nil ?_
  go_upto_region 6 with fail
  go_loopw [7] (fun q wr => ∃ (k : Nat) (lf : List En), k ≤ nf ∧ k ≤ 40 ∧ lf.length ≤ k ∧ q = .int .i64 k ∧ Kx w [(b1, plA x (.slice ap np mp) (.slice az ns ms) (.slice af nf mf), 29), (b11, t3A i, 35), (b21, t3A j, 35)] ((bdT w i V T lf).and ((bdO w.heap.size 58 21 poC (.slice a n m) ps).and (bdT w j V T lf))) wr) (fun q _ => nf - (intOf q).toNat)
  case atStart => exact ⟨0, [], Nat.zero_le _, Nat.zero_le _, Nat.le_refl _, rfl, K22.out⟩
  case round =>
    obtain ⟨k, lf, hk, hk40, hlf, rfl, hK⟩ := hrel
    have KR := Lib.hid hK
    have HKK := Lib.hid (And.intro hk (And.intro hk40 hlf))
    clear hK K22 hk hk40 hlf
    by_cases c0 : k < nf ∧ k < 40
    case neg =>
      have hex : k = nf ∨ (k < nf ∧ k = 40) := by have := HKK.out; omega
      have c6 : (0 : Int) ≤ (k : Int) := by omega
      clear c0
      rcases hex with c1 | ⟨c1, c2⟩
      case' inl =>
        have c3 : nf ≤ k := by omega
        clear c1
        go_upto_region 6 with fail
        refine wp_region_lit ?_
        refine wv (.int .i64 (k : Nat)) ?_
        (try simp only [Act.put, gA, gS, gZ, sA, sZ, sS])
        refine wv (.pointer (some ⟨b1, 9, none⟩)) ?_
        (try simp only [Act.put, gA, gS, gZ, sA, sZ, sS])
        refine wv (.slice af nf mf) ?_ (hrun := by have q : wr.cell? ⟨b1, 9, none⟩ = some (.slice af nf mf) := KR.out.cell (i := 0) rfl (by rfl); go_simp)
        (try simp only [Act.put, gA, gS, gZ, sA, sZ, sS])
        refine wv (.int .i64 (nf : Nat)) ?_
        (try simp only [Act.put, gA, gS, gZ, sA, sZ, sS])
        refine wv (.bool false) ?_ (hrun := by go_simp <;> omega)
        (try simp only [Act.put, gA, gS, gZ, sA, sZ, sS])
        refine wv (.bool false) ?_
        (try simp only [Act.put, gA, gS, gZ, sA, sZ, sS])
        refine wpList_skip (by kernel_rfl) ?_
        (try simp only [Act.put, gA, gS, gZ, sA, sZ, sS])
        refine wpList_skip (by kernel_rfl) ?_
        (try simp only [Act.put, gA, gS, gZ, sA, sZ, sS])
        refine wv (.bool false) ?_ (hrun := run_pick_no (.tmp 46) (.tmp 48) (.const (.bool false)) _ rfl rfl rfl)
        (try simp only [Act.put, gA, gS, gZ, sA, sZ, sS])
        refine wpList_nil ?_
      case' inr =>
        have c3 : (k : Int) < (nf : Int) := by omega
        have c4 : decide ((k : Int) < 40) = false := decide_eq_false (by omega)
        clear c1 c2
        go_upto_region 6 with fail
        refine wp_region_lit ?_
        refine wv (.int .i64 (k : Nat)) ?_
        (try simp only [Act.put, gA, gS, gZ, sA, sZ, sS])
        refine wv (.pointer (some ⟨b1, 9, none⟩)) ?_
        (try simp only [Act.put, gA, gS, gZ, sA, sZ, sS])
        refine wv (.slice af nf mf) ?_ (hrun := by have q : wr.cell? ⟨b1, 9, none⟩ = some (.slice af nf mf) := KR.out.cell (i := 0) rfl (by rfl); go_simp)
        (try simp only [Act.put, gA, gS, gZ, sA, sZ, sS])
        refine wv (.int .i64 (nf : Nat)) ?_
        (try simp only [Act.put, gA, gS, gZ, sA, sZ, sS])
        refine wv (.bool true) ?_
        (try simp only [Act.put, gA, gS, gZ, sA, sZ, sS])
        refine wv (.bool true) ?_
        (try simp only [Act.put, gA, gS, gZ, sA, sZ, sS])
        refine wv (.int .i64 (k : Nat)) ?_
        (try simp only [Act.put, gA, gS, gZ, sA, sZ, sS])
        refine wv (.bool false) ?_
        (try simp only [Act.put, gA, gS, gZ, sA, sZ, sS])
        refine wv (.bool false) ?_ (hrun := run_pick_yes (.tmp 46) (.tmp 48) (.const (.bool false)) _ rfl rfl rfl)
        (try simp only [Act.put, gA, gS, gZ, sA, sZ, sS])
        refine wpList_nil ?_
      all_goals
        go_wp2_with fail
        go_ret
        exact ⟨rfl, KR.out.below⟩
    case pos =>
      obtain ⟨c1, c2⟩ := c0
      have HLT := Lib.hid (And.intro c1 c2)
      obtain ⟨y, hy⟩ : ∃ y, fs[k]? = some y := ⟨_, List.getElem?_eq_getElem (by rw [HLF.out]; exact c1)⟩
      have hyo := HFO.out y (List.mem_of_getElem? hy)
      obtain ⟨g, off, haf, hrow⟩ := rows_range HF.out hy
      subst haf
      have HROW := Lib.hid hrow
      obtain ⟨Y, hY⟩ : ∃ Y, Y = ofM y := ⟨_, rfl⟩
      have HYO := Lib.hid (show Y.ok by rw [hY]; exact ofM_ok y hyo)
      have HOF := Lib.hid (show ∀ W, Calls Tryd.prog 7 #[.agg (fgA y)] W fun e w' => e = .returned (.agg (fA Y)) ∧ Below W.heap.size W w' from fun W => by rw [hY]; exact frof_any y hyo W)
      obtain ⟨r, hr, lr⟩ : ∃ r : Nat, r = y.po % 10 ∧ r < 10 := ⟨_, rfl, Nat.mod_lt _ (by decide)⟩
      have HRR := Lib.hid (show (y.po : Int) % 10 = (r : Int) ∧ (r : Int) < 10 by omega)
      have HYI := Lib.hid (show (y.po : Int) < 256 by have := hyo.1; omega)
      obtain ⟨aq, ha1, hs1⟩ := HYO.out.sa
      obtain ⟨ad, ha2, hd2⟩ := HYO.out.dd
      have HAQ := Lib.hid (And.intro ha1 hs1)
      have HAD := Lib.hid (And.intro ha2 hd2)
      have c4 : (k : Int) < (nf : Int) := by omega
      have c5 : (k : Int) < 40 := by omega
      have c6 : (0 : Int) ≤ (k : Int) := by omega
      obtain ⟨nl, hnl⟩ : ∃ nl, nl = lf.length := ⟨_, rfl⟩
      have HNL := Lib.hid hnl
      clear hy hyo hrow hY hr lr ha1 hs1 ha2 hd2 hnl
      go_upto_region 6 with fail
      refine wp_region_lit ?_
      refine wv (.int .i64 (k : Nat)) ?_
      (try simp only [Act.put, gA, gS, gZ, sA, sZ, sS])
      refine wv (.pointer (some ⟨b1, 9, none⟩)) ?_
      (try simp only [Act.put, gA, gS, gZ, sA, sZ, sS])
      refine wv (.slice (some ⟨g, off, none⟩) nf mf) ?_ (hrun := by have q : wr.cell? ⟨b1, 9, none⟩ = some (.slice (some ⟨g, off, none⟩) nf mf) := KR.out.cell (i := 0) rfl (by rfl); go_simp)
      (try simp only [Act.put, gA, gS, gZ, sA, sZ, sS])
      refine wv (.int .i64 (nf : Nat)) ?_
      (try simp only [Act.put, gA, gS, gZ, sA, sZ, sS])
      refine wv (.bool true) ?_
      (try simp only [Act.put, gA, gS, gZ, sA, sZ, sS])
      refine wv (.bool true) ?_
      (try simp only [Act.put, gA, gS, gZ, sA, sZ, sS])
      refine wv (.int .i64 (k : Nat)) ?_
      (try simp only [Act.put, gA, gS, gZ, sA, sZ, sS])
      refine wv (.bool true) ?_
      (try simp only [Act.put, gA, gS, gZ, sA, sZ, sS])
      refine wv (.bool true) ?_ (hrun := run_pick_yes (.tmp 46) (.tmp 48) (.const (.bool false)) _ rfl rfl rfl)
      (try simp only [Act.put, gA, gS, gZ, sA, sZ, sS])
      refine wpList_nil ?_
      go_upto_region 8 with fail
      refine wp_region_lit ?_
      refine wv (.pointer (some ⟨b1, 9, none⟩)) ?_
      (try simp only [Act.put, gA, gS, gZ, sA, sZ, sS])
      refine wv (.slice (some ⟨g, off, none⟩) nf mf) ?_ (hrun := by have q : wr.cell? ⟨b1, 9, none⟩ = some (.slice (some ⟨g, off, none⟩) nf mf) := KR.out.cell (i := 0) rfl (by rfl); go_simp)
      (try simp only [Act.put, gA, gS, gZ, sA, sZ, sS])
      refine wv (.int .i64 (k : Nat)) ?_
      (try simp only [Act.put, gA, gS, gZ, sA, sZ, sS])
      refine wv (.pointer (some ⟨g, off + k * 6, none⟩)) ?_ (hrun := by have q0 := HLT.out; have q1 := HMF.out; go_simp)
      (try simp only [Act.put, gA, gS, gZ, sA, sZ, sS])
      refine wv (.agg (fgA y)) ?_ (hrun := run_loadRange 45 _ rfl g (off + k * 6) rfl (fgA y) _ (HROW.out _ KR.out.below) Tryd.underlying45 rfl (fgSize))
      (try simp only [Act.put, gA, gS, gZ, sA, sZ, sS])
      refine kx_call KR.out 7 #[.agg (fgA y)] (.agg (fA Y)) (by rfl) (by go_simp) (HOF.out _) ?_
      intro w41 hk
      have K41 := Lib.hid (show Kx w [(b1, plA x (.slice ap np mp) (.slice az ns ms) (.slice (some ⟨g, off, none⟩) nf mf), 29), (b11, t3A i, 35), (b21, t3A j, 35)] ((bdT w i V T lf).and ((bdO w.heap.size 58 21 poC (.slice a n m) ps).and (bdT w j V T lf))) w41 from hk)
      clear hk
      (try simp only [Act.put, gA, gS, gZ, sA, sZ, sS])
      refine kx_alloc K41.out 42 (nil18) rfl z18 (by rfl) ?_
      intro b42 w42 hb42 hk
      have K42 := Lib.hid (show Kx w [(b1, plA x (.slice ap np mp) (.slice az ns ms) (.slice (some ⟨g, off, none⟩) nf mf), 29), (b11, t3A i, 35), (b21, t3A j, 35), (b42, nil18, 42)] ((bdT w i V T lf).and ((bdO w.heap.size 58 21 poC (.slice a n m) ps).and (bdT w j V T lf))) w42 from hk)
      clear hk hb42
      (try simp only [Act.put, gA, gS, gZ, sA, sZ, sS])
      refine kx_row K42.out 3 rfl 42 _ _ (fA Y) rfl rfl rfl rfl (fA_size _) (by rfl) (fA_one Y) ?_
      intro w43 hk
      have K43 := Lib.hid (show Kx w [(b1, plA x (.slice ap np mp) (.slice az ns ms) (.slice (some ⟨g, off, none⟩) nf mf), 29), (b11, t3A i, 35), (b21, t3A j, 35), (b42, fA Y, 42)] ((bdT w i V T lf).and ((bdO w.heap.size 58 21 poC (.slice a n m) ps).and (bdT w j V T lf))) w43 from hk)
      clear hk
      (try simp only [Act.put, gA, gS, gZ, sA, sZ, sS])
      refine wpList_nil ?_
      go_upto_region 9 with fail
      refine wp_region_lit ?_
      refine wv (.pointer (some ⟨b1, 9, none⟩)) ?_
      (try simp only [Act.put, gA, gS, gZ, sA, sZ, sS])
      refine wv (.slice (some ⟨g, off, none⟩) nf mf) ?_ (hrun := by have q : w43.cell? ⟨b1, 9, none⟩ = some (.slice (some ⟨g, off, none⟩) nf mf) := K43.out.cell (i := 0) rfl (by rfl); go_simp)
      (try simp only [Act.put, gA, gS, gZ, sA, sZ, sS])
      refine wv (.int .i64 (k : Nat)) ?_
      (try simp only [Act.put, gA, gS, gZ, sA, sZ, sS])
      refine wv (.pointer (some ⟨g, off + k * 6, none⟩)) ?_ (hrun := by have q0 := HLT.out; have q1 := HMF.out; go_simp)
      (try simp only [Act.put, gA, gS, gZ, sA, sZ, sS])
      refine wv (.pointer (some ⟨g, off + k * 6, none⟩)) ?_
      (try simp only [Act.put, gA, gS, gZ, sA, sZ, sS])
      refine wv (.int .u8 (y.po : Nat)) ?_ (hrun := by have q : w43.cell? ⟨g, off + k * 6, none⟩ = some (.int .u8 (y.po : Nat)) := range_cell (arr := fgA y) (o := 0) (HROW.out _ K43.out.below) (by rfl); go_simp)
      (try simp only [Act.put, gA, gS, gZ, sA, sZ, sS])
      refine wv (.int .u8 (r : Nat)) ?_ (hrun := by have q0 := HRR.out.1; have q2 := HRR.out.2; have q1 := HYI.out; go_simp; first | exact wrS (by omega) (by omega) | exact wrU (by simp) (by omega) (by omega) | exact tmN q0 | omega)
      (try simp only [Act.put, gA, gS, gZ, sA, sZ, sS])
      refine wv (.int .i64 (r : Nat)) ?_ (hrun := by have q2 := HRR.out.2; go_simp; first | exact wrS (by omega) (by omega) | exact wrU (by simp) (by omega) (by omega) | exact tmN q0 | omega)
      (try simp only [Act.put, gA, gS, gZ, sA, sZ, sS])
      refine wv (.int .i64 (r : Nat)) ?_
      (try simp only [Act.put, gA, gS, gZ, sA, sZ, sS])
      refine wpList_nil ?_
      go_upto_region 10 with fail
      refine wp_region_lit ?_
      refine wv (.agg (t3A i)) ?_ (hrun := kx_all K43.out 1 rfl 35 _ rfl rfl Tryd.underlying35 rfl (t3Size))
      (try simp only [Act.put, gA, gS, gZ, sA, sZ, sS])
      refine wv (.slice a n m) ?_
      (try simp only [Act.put, gA, gS, gZ, sA, sZ, sS])
      refine wv (.int .i64 (r : Nat)) ?_
      (try simp only [Act.put, gA, gS, gZ, sA, sZ, sS])
      refine wv (.agg (fA Y)) ?_ (hrun := kx_all K43.out 3 rfl 42 _ rfl rfl Tryd.underlying42 rfl (fA_size _))
      (try simp only [Act.put, gA, gS, gZ, sA, sZ, sS])
      refine wl_call (R := fun v wz => PassQ w [(b1, plA x (.slice ap np mp) (.slice az ns ms) (.slice (some ⟨g, off, none⟩) nf mf), 29), (b11, t3A i, 35), (b21, t3A j, 35), (b42, fA Y, 42)] i V T lf ps (r : Nat) Y aq ad a n m (bdT w j V T lf) v wz) 8 #[.agg (t3A i), .slice a n m, .int .i64 (r : Nat), .agg (fA Y)] (by rfl) (by go_simp) (passq_any K43.out (HDS.out lf lf) HMO.out HN.out HMX.out HPO.out HWY.out _ Y HYO.out aq ad HAQ.out.1 HAQ.out.2 HAD.out.1 HAD.out.2) ?_
      rintro _ w60 hpp
      unfold PassQ at hpp
      obtain ⟨_, why, lb, full, l2, sent, hpr, rfl, ⟨x1, x2, rfl⟩, hsj, hk⟩ := hpp
      obtain ⟨f1, -, f3, -⟩ := pass_shut HPO.out hpr
      have HF1 := Lib.hid f1
      have HF3 := Lib.hid f3
      have HPR := Lib.hid hpr
      obtain ⟨sl, hsl⟩ : ∃ sl, sl = sent.length := ⟨_, rfl⟩
      have HSL := Lib.hid hsl
      rw [← hsl] at hk hsj ⊢
      have HSJ := Lib.hid (show ∀ k, (Value.slice x1 sl x2).ownBlock = some k → ¬ (bdT w j V T lf).f k from hsj)
      obtain ⟨PV, hPV⟩ : ∃ PV, PV = bdO w.heap.size 58 21 poC (.slice a n m) ps := ⟨_, rfl⟩
      have HPV := Lib.hid hPV
      have HJD := Lib.hid (show ∀ lj l2 k, ((bdT w i V T l2).and (PV.and (bdO w.heap.size 81 19 snC (.slice x1 sl x2) (sent)))).f k → ¬ (bdT w j V T lj).f k from fun lj l2 k q => by
        rcases q with q | q | q
        · exact fun h => HDS.out l2 lj k (.inr h) q
        · rw [hPV] at q; exact HPJ.out lj k q
        · exact fun h => HSJ.out k q h)
      rw [← hPV] at hk
      have K60 := Lib.hid (show Kx w [(b1, plA x (.slice ap np mp) (.slice az ns ms) (.slice (some ⟨g, off, none⟩) nf mf), 29), (b11, t3A i, 35), (b21, t3A j, 35), (b42, fA Y, 42)] ((bdT w j V T lf).and ((bdT w i V T l2).and ((PV).and (bdO w.heap.size 81 19 snC (.slice x1 sl x2) (sent))))) w60 from hk.turn (fun h => ⟨h.1.2.2, h.1.1, h.1.2.1, h.2⟩) (fun k q => by rcases q with q | q | q | q; exact .inl (.inr (.inr q)); exact .inl (.inl q); exact .inl (.inr (.inl q)); exact .inr q))
      clear hk hpr f1 f3 hsl hPV hsj
      (try simp only [Act.put, gA, gS, gZ, sA, sZ, sS])
      refine kx_alloc K60.out 48 (#[.slice none 0 0, .int .i64 0, .bool false, .bool false]) rfl z4 (by rfl) ?_
      intro b61 w61 hb61 hk
      have K61 := Lib.hid (show Kx w [(b1, plA x (.slice ap np mp) (.slice az ns ms) (.slice (some ⟨g, off, none⟩) nf mf), 29), (b11, t3A i, 35), (b21, t3A j, 35), (b42, fA Y, 42), (b61, #[.slice none 0 0, .int .i64 0, .bool false, .bool false], 48)] ((bdT w j V T lf).and ((bdT w i V T l2).and ((PV).and (bdO w.heap.size 81 19 snC (.slice x1 sl x2) (sent))))) w61 from hk)
      clear hk hb61
      (try simp only [Act.put, gA, gS, gZ, sA, sZ, sS])
      refine kx_row K61.out 4 rfl 48 _ _ (#[.slice x1 sl x2, .int .i64 why, .bool lb, .bool full]) rfl rfl rfl rfl (rsize) (by rfl) (by kernel_rfl) ?_
      intro w62 hk
      have K62 := Lib.hid (show Kx w [(b1, plA x (.slice ap np mp) (.slice az ns ms) (.slice (some ⟨g, off, none⟩) nf mf), 29), (b11, t3A i, 35), (b21, t3A j, 35), (b42, fA Y, 42), (b61, #[.slice x1 sl x2, .int .i64 why, .bool lb, .bool full], 48)] ((bdT w j V T lf).and ((bdT w i V T l2).and ((PV).and (bdO w.heap.size 81 19 snC (.slice x1 sl x2) (sent))))) w62 from hk)
      clear hk
      (try simp only [Act.put, gA, gS, gZ, sA, sZ, sS])
      refine wpList_nil ?_
      go_upto_region 11 with fail
      refine wp_region_lit ?_
      refine kx_alloc K62.out 48 (#[.slice none 0 0, .int .i64 0, .bool false, .bool false]) rfl z4 (by rfl) ?_
      intro b63 w63 hb63 hk
      have K63 := Lib.hid (show Kx w [(b1, plA x (.slice ap np mp) (.slice az ns ms) (.slice (some ⟨g, off, none⟩) nf mf), 29), (b11, t3A i, 35), (b21, t3A j, 35), (b42, fA Y, 42), (b61, #[.slice x1 sl x2, .int .i64 why, .bool lb, .bool full], 48), (b63, #[.slice none 0 0, .int .i64 0, .bool false, .bool false], 48)] ((bdT w j V T lf).and ((bdT w i V T l2).and ((PV).and (bdO w.heap.size 81 19 snC (.slice x1 sl x2) (sent))))) w63 from hk)
      clear hk hb63
      (try simp only [Act.put, gA, gS, gZ, sA, sZ, sS])
      refine wpList_nil ?_
      go_upto_region 12 with fail
      refine wp_region_lit ?_
      refine wv (.int .u16 0) ?_
      (try simp only [Act.put, gA, gS, gZ, sA, sZ, sS])
      refine wv (.int .i64 (-1)) ?_
      (try simp only [Act.put, gA, gS, gZ, sA, sZ, sS])
      refine wpList_nil ?_
      by_cases hsh : shutP ps (r : Int)
      case pos =>
        obtain ⟨rfl, rfl, rfl, rfl, rfl⟩ := pass_closed HPR.out hsh
        have hs0 : sl = 0 := HSL.out
        subst hs0
        have hcs := shut_cases hsh
        rw [HN.out] at hcs
        clear hsh
        rcases hcs with d1 | ⟨d1, d2⟩ | ⟨kk, p, rfl, d1, d2, d3⟩ | ⟨kk, p, rfl, d1, d2, d3, d4⟩
        case' inl =>
          go_upto_region 13 with fail
          refine wp_region_lit ?_
          refine wv (.int .i64 (r : Nat)) ?_
          (try simp only [Act.put, gA, gS, gZ, sA, sZ, sS])
          refine wv (.bool true) ?_
          (try simp only [Act.put, gA, gS, gZ, sA, sZ, sS])
          refine wv (.bool true) ?_
          (try simp only [Act.put, gA, gS, gZ, sA, sZ, sS])
          refine wpList_skip (by kernel_rfl) ?_
          (try simp only [Act.put, gA, gS, gZ, sA, sZ, sS])
          refine wpList_skip (by kernel_rfl) ?_
          (try simp only [Act.put, gA, gS, gZ, sA, sZ, sS])
          refine wpList_skip (by kernel_rfl) ?_
          (try simp only [Act.put, gA, gS, gZ, sA, sZ, sS])
          refine wpList_skip (by kernel_rfl) ?_
          (try simp only [Act.put, gA, gS, gZ, sA, sZ, sS])
          refine wv (.bool true) ?_ (hrun := run_pick_yes (.tmp 73) (.const (.bool true)) (.tmp 77) _ rfl rfl rfl)
          (try simp only [Act.put, gA, gS, gZ, sA, sZ, sS])
          refine wv (.bool true) ?_
          (try simp only [Act.put, gA, gS, gZ, sA, sZ, sS])
          refine wpList_skip (by kernel_rfl) ?_
          (try simp only [Act.put, gA, gS, gZ, sA, sZ, sS])
          refine wpList_skip (by kernel_rfl) ?_
          (try simp only [Act.put, gA, gS, gZ, sA, sZ, sS])
          refine wpList_skip (by kernel_rfl) ?_
          (try simp only [Act.put, gA, gS, gZ, sA, sZ, sS])
          refine wpList_skip (by kernel_rfl) ?_
          (try simp only [Act.put, gA, gS, gZ, sA, sZ, sS])
          refine wpList_skip (by kernel_rfl) ?_
          (try simp only [Act.put, gA, gS, gZ, sA, sZ, sS])
          refine wpList_skip (by kernel_rfl) ?_
          (try simp only [Act.put, gA, gS, gZ, sA, sZ, sS])
          refine wpList_skip (by kernel_rfl) ?_
          (try simp only [Act.put, gA, gS, gZ, sA, sZ, sS])
          refine wv (.bool true) ?_ (hrun := run_pick_yes (.tmp 79) (.const (.bool true)) (.tmp 86) _ rfl rfl rfl)
          (try simp only [Act.put, gA, gS, gZ, sA, sZ, sS])
          refine wv (.bool true) ?_
          (try simp only [Act.put, gA, gS, gZ, sA, sZ, sS])
          refine wpList_skip (by kernel_rfl) ?_
          (try simp only [Act.put, gA, gS, gZ, sA, sZ, sS])
          refine wpList_skip (by kernel_rfl) ?_
          (try simp only [Act.put, gA, gS, gZ, sA, sZ, sS])
          refine wpList_skip (by kernel_rfl) ?_
          (try simp only [Act.put, gA, gS, gZ, sA, sZ, sS])
          refine wpList_skip (by kernel_rfl) ?_
          (try simp only [Act.put, gA, gS, gZ, sA, sZ, sS])
          refine wpList_skip (by kernel_rfl) ?_
          (try simp only [Act.put, gA, gS, gZ, sA, sZ, sS])
          refine wpList_skip (by kernel_rfl) ?_
          (try simp only [Act.put, gA, gS, gZ, sA, sZ, sS])
          refine wpList_skip (by kernel_rfl) ?_
          (try simp only [Act.put, gA, gS, gZ, sA, sZ, sS])
          refine wv (.bool true) ?_ (hrun := run_pick_yes (.tmp 88) (.const (.bool true)) (.tmp 95) _ rfl rfl rfl)
          (try simp only [Act.put, gA, gS, gZ, sA, sZ, sS])
          refine wpList_nil ?_
          obtain ⟨wz, hwz⟩ : ∃ wz, wz = w63 := ⟨_, rfl⟩
          have KZ := Lib.hid (show Kx w [(b1, plA x (.slice ap np mp) (.slice az ns ms) (.slice (some ⟨g, off, none⟩) nf mf), 29), (b11, t3A i, 35), (b21, t3A j, 35), (b42, fA Y, 42), (b61, #[.slice x1 0 x2, .int .i64 6, .bool false, .bool false], 48), (b63, #[.slice none 0 0, .int .i64 0, .bool false, .bool false], 48)] ((bdT w j V T l2).and ((bdT w i V T l2).and ((PV).and (bdO w.heap.size 81 19 snC (.slice x1 0 x2) ([]))))) wz by rw [hwz]; exact K63.out)
          rw [← hwz]
          clear hwz
        case' inr.inl =>
          have d3 : decide ((r : Int) < 1) = false := decide_eq_false (by omega)
          go_upto_region 13 with fail
          refine wp_region_lit ?_
          refine wv (.int .i64 (r : Nat)) ?_
          (try simp only [Act.put, gA, gS, gZ, sA, sZ, sS])
          refine wv (.bool false) ?_
          (try simp only [Act.put, gA, gS, gZ, sA, sZ, sS])
          refine wv (.bool false) ?_
          (try simp only [Act.put, gA, gS, gZ, sA, sZ, sS])
          refine wv (.int .i64 (r : Nat)) ?_
          (try simp only [Act.put, gA, gS, gZ, sA, sZ, sS])
          refine wv (.slice a n m) ?_
          (try simp only [Act.put, gA, gS, gZ, sA, sZ, sS])
          refine wv (.int .i64 (n : Nat)) ?_
          (try simp only [Act.put, gA, gS, gZ, sA, sZ, sS])
          refine wv (.bool true) ?_
          (try simp only [Act.put, gA, gS, gZ, sA, sZ, sS])
          refine wv (.bool true) ?_ (hrun := run_pick_no (.tmp 73) (.const (.bool true)) (.tmp 77) _ rfl rfl rfl)
          (try simp only [Act.put, gA, gS, gZ, sA, sZ, sS])
          refine wv (.bool true) ?_
          (try simp only [Act.put, gA, gS, gZ, sA, sZ, sS])
          refine wpList_skip (by kernel_rfl) ?_
          (try simp only [Act.put, gA, gS, gZ, sA, sZ, sS])
          refine wpList_skip (by kernel_rfl) ?_
          (try simp only [Act.put, gA, gS, gZ, sA, sZ, sS])
          refine wpList_skip (by kernel_rfl) ?_
          (try simp only [Act.put, gA, gS, gZ, sA, sZ, sS])
          refine wpList_skip (by kernel_rfl) ?_
          (try simp only [Act.put, gA, gS, gZ, sA, sZ, sS])
          refine wpList_skip (by kernel_rfl) ?_
          (try simp only [Act.put, gA, gS, gZ, sA, sZ, sS])
          refine wpList_skip (by kernel_rfl) ?_
          (try simp only [Act.put, gA, gS, gZ, sA, sZ, sS])
          refine wpList_skip (by kernel_rfl) ?_
          (try simp only [Act.put, gA, gS, gZ, sA, sZ, sS])
          refine wv (.bool true) ?_ (hrun := run_pick_yes (.tmp 79) (.const (.bool true)) (.tmp 86) _ rfl rfl rfl)
          (try simp only [Act.put, gA, gS, gZ, sA, sZ, sS])
          refine wv (.bool true) ?_
          (try simp only [Act.put, gA, gS, gZ, sA, sZ, sS])
          refine wpList_skip (by kernel_rfl) ?_
          (try simp only [Act.put, gA, gS, gZ, sA, sZ, sS])
          refine wpList_skip (by kernel_rfl) ?_
          (try simp only [Act.put, gA, gS, gZ, sA, sZ, sS])
          refine wpList_skip (by kernel_rfl) ?_
          (try simp only [Act.put, gA, gS, gZ, sA, sZ, sS])
          refine wpList_skip (by kernel_rfl) ?_
          (try simp only [Act.put, gA, gS, gZ, sA, sZ, sS])
          refine wpList_skip (by kernel_rfl) ?_
          (try simp only [Act.put, gA, gS, gZ, sA, sZ, sS])
          refine wpList_skip (by kernel_rfl) ?_
          (try simp only [Act.put, gA, gS, gZ, sA, sZ, sS])
          refine wpList_skip (by kernel_rfl) ?_
          (try simp only [Act.put, gA, gS, gZ, sA, sZ, sS])
          refine wv (.bool true) ?_ (hrun := run_pick_yes (.tmp 88) (.const (.bool true)) (.tmp 95) _ rfl rfl rfl)
          (try simp only [Act.put, gA, gS, gZ, sA, sZ, sS])
          refine wpList_nil ?_
          obtain ⟨wz, hwz⟩ : ∃ wz, wz = w63 := ⟨_, rfl⟩
          have KZ := Lib.hid (show Kx w [(b1, plA x (.slice ap np mp) (.slice az ns ms) (.slice (some ⟨g, off, none⟩) nf mf), 29), (b11, t3A i, 35), (b21, t3A j, 35), (b42, fA Y, 42), (b61, #[.slice x1 0 x2, .int .i64 6, .bool false, .bool false], 48), (b63, #[.slice none 0 0, .int .i64 0, .bool false, .bool false], 48)] ((bdT w j V T l2).and ((bdT w i V T l2).and ((PV).and (bdO w.heap.size 81 19 snC (.slice x1 0 x2) ([]))))) wz by rw [hwz]; exact K63.out)
          rw [← hwz]
          clear hwz
        case' inr.inr.inl =>
          obtain ⟨gp, hgp⟩ : ∃ gp, a = some ⟨gp, 0, none⟩ := by
            have hO : Own w63 w.heap.size 58 21 poC (.slice a n m) ps := by have q := K63.out.a.2.2.1; rw [HPV.out] at q; exact q
            have q := HN.out
            subst q
            obtain ⟨gp, hg, -⟩ := hO.elem po_len d2
            exact ⟨gp, hg⟩
          subst hgp
          have HPT := Lib.hid (show ∀ W kq pq, PV.p W → ps[kq]? = some pq → W.rangeAt gp (kq * 21) (poC pq) from fun W kq pq h1 h2 => by rw [HPV.out] at h1; exact own_at (enc := poC) (x := pq) po_len h1 HN.out h2)
          have HP2 := Lib.hid d2
          have d5 : (kk : Int) < (n : Int) := by omega
          have d6 : (0 : Int) ≤ (kk : Int) := by omega
          have d7 : (kk : Int) ≤ 9223372036854775807 := by omega
          clear d2
          have HON := Lib.hid (show ∀ W : World, Calls Tryd.prog 9 #[poV p] W fun e w' => e = .returned (.bool false) ∧ Below W.heap.size W w' from fun W => by rw [← d3]; exact on_any p W)
          clear d3
          go_upto_region 13 with fail
          refine wp_region_lit ?_
          refine wv (.int .i64 ((kk + 1 : Nat) : Int)) ?_
          (try simp only [Act.put, gA, gS, gZ, sA, sZ, sS])
          refine wv (.bool false) ?_ (hrun := by go_simp <;> omega)
          (try simp only [Act.put, gA, gS, gZ, sA, sZ, sS])
          refine wv (.bool false) ?_
          (try simp only [Act.put, gA, gS, gZ, sA, sZ, sS])
          refine wv (.int .i64 ((kk + 1 : Nat) : Int)) ?_
          (try simp only [Act.put, gA, gS, gZ, sA, sZ, sS])
          refine wv (.slice (some ⟨gp, 0, none⟩) n m) ?_
          (try simp only [Act.put, gA, gS, gZ, sA, sZ, sS])
          refine wv (.int .i64 (n : Nat)) ?_
          (try simp only [Act.put, gA, gS, gZ, sA, sZ, sS])
          refine wv (.bool false) ?_ (hrun := by go_simp <;> omega)
          (try simp only [Act.put, gA, gS, gZ, sA, sZ, sS])
          refine wv (.bool false) ?_ (hrun := run_pick_no (.tmp 73) (.const (.bool true)) (.tmp 77) _ rfl rfl rfl)
          (try simp only [Act.put, gA, gS, gZ, sA, sZ, sS])
          refine wv (.bool false) ?_
          (try simp only [Act.put, gA, gS, gZ, sA, sZ, sS])
          refine wv (.slice (some ⟨gp, 0, none⟩) n m) ?_
          (try simp only [Act.put, gA, gS, gZ, sA, sZ, sS])
          refine wv (.int .i64 ((kk + 1 : Nat) : Int)) ?_
          (try simp only [Act.put, gA, gS, gZ, sA, sZ, sS])
          refine wv (.int .i64 (kk : Nat)) ?_ (hrun := by go_simp <;> exact wr64 d6 d7)
          (try simp only [Act.put, gA, gS, gZ, sA, sZ, sS])
          refine wv (.pointer (some ⟨gp, kk * 21, none⟩)) ?_
          (try simp only [Act.put, gA, gS, gZ, sA, sZ, sS])
          refine wv (.agg (poA p)) ?_ (hrun := run_loadRange 58 _ rfl gp (kk * 21) rfl (poA p) _ (HPT.out _ kk _ K63.out.a.2.2.1 HP2.out) Tryd.underlying58 rfl (po_info _))
          (try simp only [Act.put, gA, gS, gZ, sA, sZ, sS])
          refine kx_call K63.out 9 #[.agg (poA p)] (.bool false) (by rfl) (by go_simp) (HON.out _) ?_
          intro w64 hk
          have K64 := Lib.hid (show Kx w [(b1, plA x (.slice ap np mp) (.slice az ns ms) (.slice (some ⟨g, off, none⟩) nf mf), 29), (b11, t3A i, 35), (b21, t3A j, 35), (b42, fA Y, 42), (b61, #[.slice x1 0 x2, .int .i64 6, .bool false, .bool false], 48), (b63, #[.slice none 0 0, .int .i64 0, .bool false, .bool false], 48)] ((bdT w j V T l2).and ((bdT w i V T l2).and ((PV).and (bdO w.heap.size 81 19 snC (.slice x1 0 x2) ([]))))) w64 from hk)
          clear hk
          (try simp only [Act.put, gA, gS, gZ, sA, sZ, sS])
          refine wv (.bool true) ?_
          (try simp only [Act.put, gA, gS, gZ, sA, sZ, sS])
          refine wv (.bool true) ?_ (hrun := run_pick_no (.tmp 79) (.const (.bool true)) (.tmp 86) _ rfl rfl rfl)
          (try simp only [Act.put, gA, gS, gZ, sA, sZ, sS])
          refine wv (.bool true) ?_
          (try simp only [Act.put, gA, gS, gZ, sA, sZ, sS])
          refine wpList_skip (by kernel_rfl) ?_
          (try simp only [Act.put, gA, gS, gZ, sA, sZ, sS])
          refine wpList_skip (by kernel_rfl) ?_
          (try simp only [Act.put, gA, gS, gZ, sA, sZ, sS])
          refine wpList_skip (by kernel_rfl) ?_
          (try simp only [Act.put, gA, gS, gZ, sA, sZ, sS])
          refine wpList_skip (by kernel_rfl) ?_
          (try simp only [Act.put, gA, gS, gZ, sA, sZ, sS])
          refine wpList_skip (by kernel_rfl) ?_
          (try simp only [Act.put, gA, gS, gZ, sA, sZ, sS])
          refine wpList_skip (by kernel_rfl) ?_
          (try simp only [Act.put, gA, gS, gZ, sA, sZ, sS])
          refine wpList_skip (by kernel_rfl) ?_
          (try simp only [Act.put, gA, gS, gZ, sA, sZ, sS])
          refine wv (.bool true) ?_ (hrun := run_pick_yes (.tmp 88) (.const (.bool true)) (.tmp 95) _ rfl rfl rfl)
          (try simp only [Act.put, gA, gS, gZ, sA, sZ, sS])
          refine wpList_nil ?_
          obtain ⟨wz, hwz⟩ : ∃ wz, wz = w64 := ⟨_, rfl⟩
          have KZ := Lib.hid (show Kx w [(b1, plA x (.slice ap np mp) (.slice az ns ms) (.slice (some ⟨g, off, none⟩) nf mf), 29), (b11, t3A i, 35), (b21, t3A j, 35), (b42, fA Y, 42), (b61, #[.slice x1 0 x2, .int .i64 6, .bool false, .bool false], 48), (b63, #[.slice none 0 0, .int .i64 0, .bool false, .bool false], 48)] ((bdT w j V T l2).and ((bdT w i V T l2).and ((PV).and (bdO w.heap.size 81 19 snC (.slice x1 0 x2) ([]))))) wz by rw [hwz]; exact K64.out)
          rw [← hwz]
          clear hwz
        case' inr.inr.inr =>
          obtain ⟨gp, hgp⟩ : ∃ gp, a = some ⟨gp, 0, none⟩ := by
            have hO : Own w63 w.heap.size 58 21 poC (.slice a n m) ps := by have q := K63.out.a.2.2.1; rw [HPV.out] at q; exact q
            have q := HN.out
            subst q
            obtain ⟨gp, hg, -⟩ := hO.elem po_len d2
            exact ⟨gp, hg⟩
          subst hgp
          have HPT := Lib.hid (show ∀ W kq pq, PV.p W → ps[kq]? = some pq → W.rangeAt gp (kq * 21) (poC pq) from fun W kq pq h1 h2 => by rw [HPV.out] at h1; exact own_at (enc := poC) (x := pq) po_len h1 HN.out h2)
          have HP2 := Lib.hid d2
          have d5 : (kk : Int) < (n : Int) := by omega
          have d6 : (0 : Int) ≤ (kk : Int) := by omega
          have d7 : (kk : Int) ≤ 9223372036854775807 := by omega
          clear d2
          have HON := Lib.hid (show ∀ W : World, Calls Tryd.prog 9 #[poV p] W fun e w' => e = .returned (.bool true) ∧ Below W.heap.size W w' from fun W => by rw [← d3]; exact on_any p W)
          clear d3
          have HD4 := Lib.hid d4
          clear d4
          go_upto_region 13 with fail
          refine wp_region_lit ?_
          refine wv (.int .i64 ((kk + 1 : Nat) : Int)) ?_
          (try simp only [Act.put, gA, gS, gZ, sA, sZ, sS])
          refine wv (.bool false) ?_ (hrun := by go_simp <;> omega)
          (try simp only [Act.put, gA, gS, gZ, sA, sZ, sS])
          refine wv (.bool false) ?_
          (try simp only [Act.put, gA, gS, gZ, sA, sZ, sS])
          refine wv (.int .i64 ((kk + 1 : Nat) : Int)) ?_
          (try simp only [Act.put, gA, gS, gZ, sA, sZ, sS])
          refine wv (.slice (some ⟨gp, 0, none⟩) n m) ?_
          (try simp only [Act.put, gA, gS, gZ, sA, sZ, sS])
          refine wv (.int .i64 (n : Nat)) ?_
          (try simp only [Act.put, gA, gS, gZ, sA, sZ, sS])
          refine wv (.bool false) ?_ (hrun := by go_simp <;> omega)
          (try simp only [Act.put, gA, gS, gZ, sA, sZ, sS])
          refine wv (.bool false) ?_ (hrun := run_pick_no (.tmp 73) (.const (.bool true)) (.tmp 77) _ rfl rfl rfl)
          (try simp only [Act.put, gA, gS, gZ, sA, sZ, sS])
          refine wv (.bool false) ?_
          (try simp only [Act.put, gA, gS, gZ, sA, sZ, sS])
          refine wv (.slice (some ⟨gp, 0, none⟩) n m) ?_
          (try simp only [Act.put, gA, gS, gZ, sA, sZ, sS])
          refine wv (.int .i64 ((kk + 1 : Nat) : Int)) ?_
          (try simp only [Act.put, gA, gS, gZ, sA, sZ, sS])
          refine wv (.int .i64 (kk : Nat)) ?_ (hrun := by go_simp <;> exact wr64 d6 d7)
          (try simp only [Act.put, gA, gS, gZ, sA, sZ, sS])
          refine wv (.pointer (some ⟨gp, kk * 21, none⟩)) ?_
          (try simp only [Act.put, gA, gS, gZ, sA, sZ, sS])
          refine wv (.agg (poA p)) ?_ (hrun := run_loadRange 58 _ rfl gp (kk * 21) rfl (poA p) _ (HPT.out _ kk _ K63.out.a.2.2.1 HP2.out) Tryd.underlying58 rfl (po_info _))
          (try simp only [Act.put, gA, gS, gZ, sA, sZ, sS])
          refine kx_call K63.out 9 #[.agg (poA p)] (.bool true) (by rfl) (by go_simp) (HON.out _) ?_
          intro w64 hk
          have K64 := Lib.hid (show Kx w [(b1, plA x (.slice ap np mp) (.slice az ns ms) (.slice (some ⟨g, off, none⟩) nf mf), 29), (b11, t3A i, 35), (b21, t3A j, 35), (b42, fA Y, 42), (b61, #[.slice x1 0 x2, .int .i64 6, .bool false, .bool false], 48), (b63, #[.slice none 0 0, .int .i64 0, .bool false, .bool false], 48)] ((bdT w j V T l2).and ((bdT w i V T l2).and ((PV).and (bdO w.heap.size 81 19 snC (.slice x1 0 x2) ([]))))) w64 from hk)
          clear hk
          (try simp only [Act.put, gA, gS, gZ, sA, sZ, sS])
          refine wv (.bool false) ?_
          (try simp only [Act.put, gA, gS, gZ, sA, sZ, sS])
          refine wv (.bool false) ?_ (hrun := run_pick_no (.tmp 79) (.const (.bool true)) (.tmp 86) _ rfl rfl rfl)
          (try simp only [Act.put, gA, gS, gZ, sA, sZ, sS])
          refine wv (.bool false) ?_
          (try simp only [Act.put, gA, gS, gZ, sA, sZ, sS])
          refine wv (.slice (some ⟨gp, 0, none⟩) n m) ?_
          (try simp only [Act.put, gA, gS, gZ, sA, sZ, sS])
          refine wv (.int .i64 ((kk + 1 : Nat) : Int)) ?_
          (try simp only [Act.put, gA, gS, gZ, sA, sZ, sS])
          refine wv (.int .i64 (kk : Nat)) ?_ (hrun := by go_simp <;> exact wr64 d6 d7)
          (try simp only [Act.put, gA, gS, gZ, sA, sZ, sS])
          refine wv (.pointer (some ⟨gp, kk * 21, none⟩)) ?_
          (try simp only [Act.put, gA, gS, gZ, sA, sZ, sS])
          refine wv (.pointer (some ⟨gp, kk * 21 + 11, none⟩)) ?_
          (try simp only [Act.put, gA, gS, gZ, sA, sZ, sS])
          refine wv (.int .i64 p.p11) ?_ (hrun := by have q : w64.cell? ⟨gp, kk * 21 + 11, none⟩ = some (.int .i64 p.p11) := range_cell (arr := poA p) (o := 11) (HPT.out _ kk _ K64.out.a.2.2.1 HP2.out) (by rfl); go_simp)
          (try simp only [Act.put, gA, gS, gZ, sA, sZ, sS])
          refine wv (.bool true) ?_ (hrun := by have q := HD4.out; go_simp)
          (try simp only [Act.put, gA, gS, gZ, sA, sZ, sS])
          refine wv (.bool true) ?_ (hrun := run_pick_no (.tmp 88) (.const (.bool true)) (.tmp 95) _ rfl rfl rfl)
          (try simp only [Act.put, gA, gS, gZ, sA, sZ, sS])
          refine wpList_nil ?_
          obtain ⟨wz, hwz⟩ : ∃ wz, wz = w64 := ⟨_, rfl⟩
          have KZ := Lib.hid (show Kx w [(b1, plA x (.slice ap np mp) (.slice az ns ms) (.slice (some ⟨g, off, none⟩) nf mf), 29), (b11, t3A i, 35), (b21, t3A j, 35), (b42, fA Y, 42), (b61, #[.slice x1 0 x2, .int .i64 6, .bool false, .bool false], 48), (b63, #[.slice none 0 0, .int .i64 0, .bool false, .bool false], 48)] ((bdT w j V T l2).and ((bdT w i V T l2).and ((PV).and (bdO w.heap.size 81 19 snC (.slice x1 0 x2) ([]))))) wz by rw [hwz]; exact K64.out)
          rw [← hwz]
          clear hwz
        all_goals as_aux_lemma =>
          go_upto_region 14 with fail
          refine wp_region_lit ?_
          refine wv (.pointer (some ⟨b63, 1, none⟩)) ?_
          (try simp only [Act.put, gA, gS, gZ, sA, sZ, sS])
          refine kx_set KZ.out 5 rfl 3 _ _ 1 (.int .i64 6) rfl (by rfl) rfl rfl (kx_run_set KZ.out (i := 5) rfl 3 1 (.int .i64 0) (.int .i64 6) (by rfl) (fun W h1 h2 => by go_simp)) (#[.slice none 0 0, .int .i64 6, .bool false, .bool false]) (by kernel_rfl) ?_
          intro w71 hk
          have K71 := Lib.hid (show Kx w [(b1, plA x (.slice ap np mp) (.slice az ns ms) (.slice (some ⟨g, off, none⟩) nf mf), 29), (b11, t3A i, 35), (b21, t3A j, 35), (b42, fA Y, 42), (b61, #[.slice x1 0 x2, .int .i64 6, .bool false, .bool false], 48), (b63, #[.slice none 0 0, .int .i64 6, .bool false, .bool false], 48)] ((bdT w j V T l2).and ((bdT w i V T l2).and ((PV).and (bdO w.heap.size 81 19 snC (.slice x1 0 x2) ([]))))) w71 from hk)
          clear hk
          (try simp only [Act.put, gA, gS, gZ, sA, sZ, sS])
          refine wpList_nil ?_
          go_upto_region 40 with fail
          refine wp_region_lit ?_
          refine wv (.pointer (some ⟨b61, 1, none⟩)) ?_
          (try simp only [Act.put, gA, gS, gZ, sA, sZ, sS])
          refine wv (.int .i64 6) ?_ (hrun := by have q : w71.cell? ⟨b61, 1, none⟩ = some (.int .i64 6) := K71.out.cell (i := 4) rfl (by rfl); go_simp)
          (try simp only [Act.put, gA, gS, gZ, sA, sZ, sS])
          refine wv (.pointer (some ⟨b63, 1, none⟩)) ?_
          (try simp only [Act.put, gA, gS, gZ, sA, sZ, sS])
          refine wv (.int .i64 6) ?_ (hrun := by have q : w71.cell? ⟨b63, 1, none⟩ = some (.int .i64 6) := K71.out.cell (i := 5) rfl (by rfl); go_simp)
          (try simp only [Act.put, gA, gS, gZ, sA, sZ, sS])
          refine wv (.bool false) ?_
          (try simp only [Act.put, gA, gS, gZ, sA, sZ, sS])
          refine wv (.bool false) ?_
          (try simp only [Act.put, gA, gS, gZ, sA, sZ, sS])
          refine wv (.pointer (some ⟨b61, 2, none⟩)) ?_
          (try simp only [Act.put, gA, gS, gZ, sA, sZ, sS])
          refine wv (.bool false) ?_ (hrun := by have q : w71.cell? ⟨b61, 2, none⟩ = some (.bool false) := K71.out.cell (i := 4) rfl (by rfl); go_simp)
          (try simp only [Act.put, gA, gS, gZ, sA, sZ, sS])
          refine wv (.pointer (some ⟨b63, 2, none⟩)) ?_
          (try simp only [Act.put, gA, gS, gZ, sA, sZ, sS])
          refine wv (.bool false) ?_ (hrun := by have q : w71.cell? ⟨b63, 2, none⟩ = some (.bool false) := K71.out.cell (i := 5) rfl (by rfl); go_simp)
          (try simp only [Act.put, gA, gS, gZ, sA, sZ, sS])
          refine wv (.bool false) ?_
          (try simp only [Act.put, gA, gS, gZ, sA, sZ, sS])
          refine wv (.bool false) ?_ (hrun := run_pick_no (.tmp 226) (.const (.bool true)) (.tmp 231) _ rfl rfl rfl)
          (try simp only [Act.put, gA, gS, gZ, sA, sZ, sS])
          refine wv (.bool false) ?_
          (try simp only [Act.put, gA, gS, gZ, sA, sZ, sS])
          refine wv (.pointer (some ⟨b61, 3, none⟩)) ?_
          (try simp only [Act.put, gA, gS, gZ, sA, sZ, sS])
          refine wv (.bool false) ?_ (hrun := by have q : w71.cell? ⟨b61, 3, none⟩ = some (.bool false) := K71.out.cell (i := 4) rfl (by rfl); go_simp)
          (try simp only [Act.put, gA, gS, gZ, sA, sZ, sS])
          refine wv (.pointer (some ⟨b63, 3, none⟩)) ?_
          (try simp only [Act.put, gA, gS, gZ, sA, sZ, sS])
          refine wv (.bool false) ?_ (hrun := by have q : w71.cell? ⟨b63, 3, none⟩ = some (.bool false) := K71.out.cell (i := 5) rfl (by rfl); go_simp)
          (try simp only [Act.put, gA, gS, gZ, sA, sZ, sS])
          refine wv (.bool false) ?_
          (try simp only [Act.put, gA, gS, gZ, sA, sZ, sS])
          refine wv (.bool false) ?_ (hrun := run_pick_no (.tmp 233) (.const (.bool true)) (.tmp 238) _ rfl rfl rfl)
          (try simp only [Act.put, gA, gS, gZ, sA, sZ, sS])
          refine wv (.bool false) ?_
          (try simp only [Act.put, gA, gS, gZ, sA, sZ, sS])
          refine wv (.pointer (some ⟨b61, 0, none⟩)) ?_
          (try simp only [Act.put, gA, gS, gZ, sA, sZ, sS])
          refine wv (.slice x1 0 x2) ?_ (hrun := by have q : w71.cell? ⟨b61, 0, none⟩ = some (.slice x1 0 x2) := K71.out.cell (i := 4) rfl (by rfl); go_simp)
          (try simp only [Act.put, gA, gS, gZ, sA, sZ, sS])
          refine wv (.int .i64 0) ?_
          (try simp only [Act.put, gA, gS, gZ, sA, sZ, sS])
          refine wv (.pointer (some ⟨b63, 0, none⟩)) ?_
          (try simp only [Act.put, gA, gS, gZ, sA, sZ, sS])
          refine wv (.slice none 0 0) ?_ (hrun := by have q : w71.cell? ⟨b63, 0, none⟩ = some (.slice none 0 0) := K71.out.cell (i := 5) rfl (by rfl); go_simp)
          (try simp only [Act.put, gA, gS, gZ, sA, sZ, sS])
          refine wv (.int .i64 0) ?_
          (try simp only [Act.put, gA, gS, gZ, sA, sZ, sS])
          refine wv (.bool false) ?_
          (try simp only [Act.put, gA, gS, gZ, sA, sZ, sS])
          refine wv (.bool false) ?_ (hrun := run_pick_no (.tmp 240) (.const (.bool true)) (.tmp 247) _ rfl rfl rfl)
          (try simp only [Act.put, gA, gS, gZ, sA, sZ, sS])
          refine wpList_nil ?_
          go_upto_region 42 with fail
          refine wp_region_lit ?_
          refine wv (.int .i64 0) ?_
          (try simp only [Act.put, gA, gS, gZ, sA, sZ, sS])
          refine wpList_nil ?_
          go_upto_region 43 with fail
          go_loopw [25] (fun q wr => q = .int .i64 0 ∧ Kx w [(b1, plA x (.slice ap np mp) (.slice az ns ms) (.slice (some ⟨g, off, none⟩) nf mf), 29), (b11, t3A i, 35), (b21, t3A j, 35), (b42, fA Y, 42), (b61, #[.slice x1 0 x2, .int .i64 6, .bool false, .bool false], 48), (b63, #[.slice none 0 0, .int .i64 6, .bool false, .bool false], 48)] ((bdT w j V T l2).and ((bdT w i V T l2).and ((PV).and (bdO w.heap.size 81 19 snC (.slice x1 0 x2) ([]))))) wr) (fun _ _ => 0)
          case atStart => exact ⟨rfl, K71.out⟩
          case round =>
            obtain ⟨rfl, hK⟩ := hrel
            have KQ := Lib.hid hK
            clear hK
            go_upto_region 43 with fail
            refine wp_region_lit ?_
            refine wv (.int .i64 0) ?_
            (try simp only [Act.put, gA, gS, gZ, sA, sZ, sS])
            refine wv (.pointer (some ⟨b61, 0, none⟩)) ?_
            (try simp only [Act.put, gA, gS, gZ, sA, sZ, sS])
            refine wv (.slice x1 0 x2) ?_ (hrun := by have q : wr.cell? ⟨b61, 0, none⟩ = some (.slice x1 0 x2) := KQ.out.cell (i := 4) rfl (by rfl); go_simp)
            (try simp only [Act.put, gA, gS, gZ, sA, sZ, sS])
            refine wv (.int .i64 0) ?_
            (try simp only [Act.put, gA, gS, gZ, sA, sZ, sS])
            refine wv (.bool false) ?_
            (try simp only [Act.put, gA, gS, gZ, sA, sZ, sS])
            refine wpList_nil ?_
            go_upto_region 47 with fail
            have HLL := Lib.hid (show l2.length ≤ 100 by have := HF1.out; have := HKK.out; omega)
            obtain ⟨nl, hnl⟩ : ∃ nl, nl = l2.length := ⟨_, rfl⟩
            have HNL := Lib.hid hnl
            have i7 : (nl : Int) ≤ 100 := by have := HLL.out; omega
            clear hnl
            refine rk (fun (s : (Option Addr × Nat) × (Option Addr × Nat)) => [.pointer (some ⟨b11, 2, none⟩), .pointer (some ⟨i.b3, 0, none⟩), .slice s.1.1 nl s.1.2, .pointer (some ⟨b21, 2, none⟩), .pointer (some ⟨j.b3, 0, none⟩), .slice s.2.1 nl s.2.2, .slice s.1.1 nl s.1.2, .slice s.2.1 nl s.2.2]) (fun s Lx w' => ((Lx 2 = true → Src w' enC (.slice s.1.1 nl s.1.2) l2) ∧ (Lx 5 = true → Src w' enC (.slice s.2.1 nl s.2.2) l2) ∧ Kx w [(b1, plA x (.slice ap np mp) (.slice az ns ms) (.slice (some ⟨g, off, none⟩) nf mf), 29), (b11, t3A i, 35), (b21, t3A j, 35), (b42, fA Y, 42), (b61, #[.slice x1 0 x2, .int .i64 6, .bool false, .bool false], 48), (b63, #[.slice none 0 0, .int .i64 6, .bool false, .bool false], 48)] ((bdT w j V T l2).and ((bdT w i V T l2).and ((PV).and (bdO w.heap.size 81 19 snC (.slice x1 0 x2) ([]))))) w')) (((none, 0), (none, 0))) [] [(1, fun s => ⟨b11, 2, none⟩), (4, fun s => ⟨b21, 2, none⟩)] [(2, fun s => [(268, .pointer (some ⟨i.b3, 0, none⟩))]), (5, fun s => [(271, .pointer (some ⟨j.b3, 0, none⟩))])] [2, 5] ?_ ?_ ?_ ?_ ?_
            · exact ⟨(fun h => by cases h), (fun h => by cases h), KQ.out.drew⟩
            · intro s L w' h; exact ⟨fun _ => Kx.cell (i := 1) h.2.2 rfl (by rfl), fun _ => Kx.cell (i := 2) h.2.2 rfl (by rfl), trivial⟩
            · intro s L1 L2 w' e h; (try dsimp only at h ⊢); rw [← e 2 (by simp), ← e 5 (by simp)]; exact h
            · refine ⟨?_, ?_, trivial⟩ <;> (rintro s Lx w' hw hL haft hdc ρ hc hf hG hs o ho; cases ho; try dsimp only [seen] at hw hs)
              · obtain ⟨e268, -⟩ := hs
                refine stepW_call (f := 20) (args := #[.pointer (some ⟨i.b3, 0, none⟩)]) (by go_simp) ((list22 (T3.tabF (w0 := w) (show T3 w i V T l2 w' from hw.2.2.a.2.1)) HLL.out).mono ?_)
                rintro e w9 ⟨v, q1, q2, q3⟩
                obtain ⟨A9, c9, hv9, -⟩ := src_rows enC_len (by decide) q2
                rw [← HNL.out] at hv9
                subst hv9
                have h9 : Lx 6 = false := by cases cq : Lx 6; rfl; exact absurd (hdc 6 cq 2 (by decide)) (by rw [hL]; decide)
                exact ⟨_, q1, ((A9, c9), s.2), vs_two (i := 2) (k := 6) rfl hL h9, rfl, fun _ => q2, fun h => src_next (hw.2.1 h) q3, hw.2.2.next q3⟩
              · obtain ⟨e271, -⟩ := hs
                refine stepW_call (f := 20) (args := #[.pointer (some ⟨j.b3, 0, none⟩)]) (by go_simp) ((list22 (T3.tabF (w0 := w) (show T3 w j V T l2 w' from hw.2.2.a.1)) HLL.out).mono ?_)
                rintro e w9 ⟨v, q1, q2, q3⟩
                obtain ⟨A9, c9, hv9, -⟩ := src_rows enC_len (by decide) q2
                rw [← HNL.out] at hv9
                subst hv9
                have h9 : Lx 7 = false := by cases cq : Lx 7; rfl; exact absurd (hdc 7 cq 5 (by decide)) (by rw [hL]; decide)
                exact ⟨_, q1, (s.1, (A9, c9)), vs_two (i := 5) (k := 7) rfl hL h9, rfl, fun h => src_next (hw.1 h) q3, fun _ => q2, hw.2.2.next q3⟩
            · rintro ⟨⟨za, zc⟩, ya, yc⟩ Lx w80 hw hall
              obtain ⟨h1, h2, h3⟩ := hw
              have S1 := Lib.hid (h1 (hall 2 (by decide)))
              have S2 := Lib.hid (h2 (hall 5 (by decide)))
              have K80 := Lib.hid (show Kx w [(b1, plA x (.slice ap np mp) (.slice az ns ms) (.slice (some ⟨g, off, none⟩) nf mf), 29), (b11, t3A i, 35), (b21, t3A j, 35), (b42, fA Y, 42), (b61, #[.slice x1 0 x2, .int .i64 6, .bool false, .bool false], 48), (b63, #[.slice none 0 0, .int .i64 6, .bool false, .bool false], 48)] ((bdT w j V T l2).and ((bdT w i V T l2).and ((PV).and (bdO w.heap.size 81 19 snC (.slice x1 0 x2) ([]))))) w80 from h3)
              clear h1 h2 h3 hall
              simp only [List.toList_toArray, putsZ_some, putsZ_none, putsZ_nil, List.setIfInBounds_toArray, List.set_cons_zero, List.set_cons_succ]
              go_upto_region 48 with fail
              refine wp_region_lit ?_
              refine wv (.slice za nl zc) ?_
              (try simp only [Act.put, gA, gS, gZ, sA, sZ, sS])
              refine wv (.int .i64 (nl : Nat)) ?_
              (try simp only [Act.put, gA, gS, gZ, sA, sZ, sS])
              refine wv (.slice ya nl yc) ?_
              (try simp only [Act.put, gA, gS, gZ, sA, sZ, sS])
              refine wv (.int .i64 (nl : Nat)) ?_
              (try simp only [Act.put, gA, gS, gZ, sA, sZ, sS])
              refine wv (.bool false) ?_
              (try simp only [Act.put, gA, gS, gZ, sA, sZ, sS])
              refine wpList_nil ?_
              go_upto_region 50 with fail
              refine wp_region_lit ?_
              refine wv (.int .i64 0) ?_
              (try simp only [Act.put, gA, gS, gZ, sA, sZ, sS])
              refine wpList_nil ?_
              go_upto_region 51 with fail
              go_loopw [28] (fun q wr => ∃ jj : Nat, jj ≤ nl ∧ q = .int .i64 jj ∧ Kx w [] (bdF w w80) wr) (fun q _ => nl - (intOf q).toNat)
              case atStart => exact ⟨0, Nat.zero_le _, rfl, K80.out.freeze⟩
              case round =>
                obtain ⟨jj, hj, rfl, hK⟩ := hrel
                have KF := Lib.hid hK
                have HB8 := Lib.hid (K80.out.frozen hK)
                have HJ := Lib.hid hj
                clear hK hj
                have e1 : (0 : Int) ≤ (jj : Int) := by omega
                by_cases c0 : jj < nl
                case neg =>
                  have c1 : nl ≤ jj := by omega
                  clear c0
                  go_upto_region 51 with fail
                  refine wp_region_lit ?_
                  refine wv (.int .i64 (jj : Nat)) ?_
                  (try simp only [Act.put, gA, gS, gZ, sA, sZ, sS])
                  refine wv (.slice za nl zc) ?_
                  (try simp only [Act.put, gA, gS, gZ, sA, sZ, sS])
                  refine wv (.int .i64 (nl : Nat)) ?_
                  (try simp only [Act.put, gA, gS, gZ, sA, sZ, sS])
                  refine wv (.bool false) ?_ (hrun := by go_simp <;> omega)
                  (try simp only [Act.put, gA, gS, gZ, sA, sZ, sS])
                  refine wpList_nil ?_
                  go_wp2_with fail
                  go_roundw
                  case rel => exact ⟨k + 1, l2, by have := HLT.out; omega, by have := HLT.out; omega, by have := HKK.out; have := HF1.out; omega, by go_num, by have q := (Kx.left (l := [(b1, plA x (.slice ap np mp) (.slice az ns ms) (.slice (some ⟨g, off, none⟩) nf mf), 29), (b11, t3A i, 35), (b21, t3A j, 35)]) (r := [(b42, fA Y, 42), (b61, #[.slice x1 0 x2, .int .i64 6, .bool false, .bool false], 48), (b63, #[.slice none 0 0, .int .i64 6, .bool false, .bool false], 48)]) (K80.out.next HB8.out)).turn (A' := (bdT w i V T l2).and ((PV).and (bdT w j V T l2))) (fun h => ⟨h.2.1, h.2.2.1, h.1⟩) (fun k q => by rcases q with q | q | q; exact .inr (.inl q); exact .inr (.inr (.inl q)); exact .inl q); rw [HPV.out] at q; exact q⟩
                  case measure => have := HLT.out; simp [intOf]; omega
                case pos => as_aux_lemma =>
                  have c1 : (jj : Int) < (nl : Int) := by omega
                  obtain ⟨s, hs⟩ : ∃ s, l2[jj]? = some s := ⟨_, List.getElem?_eq_getElem (by rw [← HNL.out]; exact c0)⟩
                  obtain ⟨A1, cc1, e2, r1⟩ := src_rows enC_len (by decide) S1.out
                  obtain ⟨A2, cc2, e3, r2⟩ := src_rows enC_len (by decide) S2.out
                  injection e2 with e2 e4 e5
                  injection e3 with e3 e6 e7
                  clear e4 e5 e6 e7
                  subst e2 e3
                  obtain ⟨g1, o1, rfl, r3⟩ := rows_range r1 hs
                  obtain ⟨g2, o2, rfl, r4⟩ := rows_range r2 hs
                  have HR1 := Lib.hid r3
                  have HR2 := Lib.hid r4
                  have HEQ := Lib.hid (equal_en s)
                  have HJ2 := Lib.hid c0
                  clear hs r1 r2 r3 r4 c0
                  go_upto_region 51 with fail
                  refine wp_region_lit ?_
                  refine wv (.int .i64 (jj : Nat)) ?_
                  (try simp only [Act.put, gA, gS, gZ, sA, sZ, sS])
                  refine wv (.slice (some ⟨g1, o1, none⟩) nl zc) ?_
                  (try simp only [Act.put, gA, gS, gZ, sA, sZ, sS])
                  refine wv (.int .i64 (nl : Nat)) ?_
                  (try simp only [Act.put, gA, gS, gZ, sA, sZ, sS])
                  refine wv (.bool true) ?_
                  (try simp only [Act.put, gA, gS, gZ, sA, sZ, sS])
                  refine wpList_nil ?_
                  go_upto_region 53 with fail
                  refine wp_region_quiet (C := fun W => Kx w [] (bdF w w80) W) (by kernel_rfl) (by kernel_rfl) KF.out.drew ?_
                  refine qv (.slice (some ⟨g1, o1, none⟩) nl zc) ?_
                  (try simp only [Act.put, gA, gS, gZ, sA, sZ, sS])
                  refine qv (.int .i64 (jj : Nat)) ?_
                  (try simp only [Act.put, gA, gS, gZ, sA, sZ, sS])
                  refine qv (.pointer (some ⟨g1, o1 + jj * 9, none⟩)) ?_
                  (try simp only [Act.put, gA, gS, gZ, sA, sZ, sS])
                  refine qv (.agg (enA s)) ?_ (hv := fun wv hC => run_loadRange 67 _ rfl g1 (o1 + jj * 9) rfl (enA s) _ (HR1.out _ (K80.out.frozen (Lib.hid hC).out)) Tryd.underlying67 rfl (enSz))
                  (try simp only [Act.put, gA, gS, gZ, sA, sZ, sS])
                  refine qv (.slice (some ⟨g2, o2, none⟩) nl yc) ?_
                  (try simp only [Act.put, gA, gS, gZ, sA, sZ, sS])
                  refine qv (.int .i64 (jj : Nat)) ?_
                  (try simp only [Act.put, gA, gS, gZ, sA, sZ, sS])
                  refine qv (.pointer (some ⟨g2, o2 + jj * 9, none⟩)) ?_
                  (try simp only [Act.put, gA, gS, gZ, sA, sZ, sS])
                  refine qv (.agg (enA s)) ?_ (hv := fun wv hC => run_loadRange 67 _ rfl g2 (o2 + jj * 9) rfl (enA s) _ (HR2.out _ (K80.out.frozen (Lib.hid hC).out)) Tryd.underlying67 rfl (enSz))
                  (try simp only [Act.put, gA, gS, gZ, sA, sZ, sS])
                  refine qv (.bool false) ?_ (hv := fun wv hC => by have q := HEQ.out; go_simp)
                  (try simp only [Act.put, gA, gS, gZ, sA, sZ, sS])
                  refine wpQuiet_nil ?_
                  intro w132 hC
                  have K132 := Lib.hid (show Kx w [] (bdF w w80) w132 from hC)
                  clear hC
                  go_wp2_with fail
                  go_roundw
                  case rel => exact ⟨jj + 1, by have := HJ2.out; omega, by go_num, K132.out⟩
                  case measure => have := HJ2.out; simp [intOf]; omega
      case neg => as_aux_lemma =>
        obtain ⟨kk, p, hkk, d2, d3, d4, -⟩ := HF3.out hsh
        have hrk : r = kk + 1 := by omega
        subst hrk
        clear hsh hkk
        have HDO := Lib.hid d3
        have HDZ := Lib.hid d4
        have d1 : kk < n := by have := (List.getElem?_eq_some_iff.1 d2).1; have := HN.out; omega
        obtain ⟨gp, hgp⟩ : ∃ gp, a = some ⟨gp, 0, none⟩ := by
          have hO : Own w63 w.heap.size 58 21 poC (.slice a n m) ps := by have q := K63.out.a.2.2.1; rw [HPV.out] at q; exact q
          have q := HN.out
          subst q
          obtain ⟨gp, hg, -⟩ := hO.elem po_len d2
          exact ⟨gp, hg⟩
        subst hgp
        have HPT := Lib.hid (show ∀ W kq pq, PV.p W → ps[kq]? = some pq → W.rangeAt gp (kq * 21) (poC pq) from fun W kq pq h1 h2 => by rw [HPV.out] at h1; exact own_at (enc := poC) (x := pq) po_len h1 HN.out h2)
        have HP2 := Lib.hid d2
        have d5 : (kk : Int) < (n : Int) := by omega
        have d6 : (0 : Int) ≤ (kk : Int) := by omega
        have d7 : (kk : Int) ≤ 9223372036854775807 := by omega
        clear d2
        obtain ⟨⟨pv, hpv⟩, -⟩ := HPO.out p (List.mem_of_getElem? HP2.out)
        have HPVV := Lib.hid hpv
        clear hpv
        have HON := Lib.hid (show ∀ W : World, Calls Tryd.prog 9 #[poV p] W fun e w' => e = .returned (.bool true) ∧ Below W.heap.size W w' from fun W => by rw [← d3]; exact on_any p W)
        have HD4 := Lib.hid (show decide (p.p11 = 0) = false from decide_eq_false d4)
        have HD5 := Lib.hid (show (p.p11 == 0) = false by simpa using d4)
        clear d3 d4
        go_upto_region 13 with fail
        refine wp_region_lit ?_
        refine wv (.int .i64 ((kk + 1 : Nat) : Int)) ?_
        (try simp only [Act.put, gA, gS, gZ, sA, sZ, sS])
        refine wv (.bool false) ?_ (hrun := by go_simp <;> omega)
        (try simp only [Act.put, gA, gS, gZ, sA, sZ, sS])
        refine wv (.bool false) ?_
        (try simp only [Act.put, gA, gS, gZ, sA, sZ, sS])
        refine wv (.int .i64 ((kk + 1 : Nat) : Int)) ?_
        (try simp only [Act.put, gA, gS, gZ, sA, sZ, sS])
        refine wv (.slice (some ⟨gp, 0, none⟩) n m) ?_
        (try simp only [Act.put, gA, gS, gZ, sA, sZ, sS])
        refine wv (.int .i64 (n : Nat)) ?_
        (try simp only [Act.put, gA, gS, gZ, sA, sZ, sS])
        refine wv (.bool false) ?_ (hrun := by go_simp <;> omega)
        (try simp only [Act.put, gA, gS, gZ, sA, sZ, sS])
        refine wv (.bool false) ?_ (hrun := run_pick_no (.tmp 73) (.const (.bool true)) (.tmp 77) _ rfl rfl rfl)
        (try simp only [Act.put, gA, gS, gZ, sA, sZ, sS])
        refine wv (.bool false) ?_
        (try simp only [Act.put, gA, gS, gZ, sA, sZ, sS])
        refine wv (.slice (some ⟨gp, 0, none⟩) n m) ?_
        (try simp only [Act.put, gA, gS, gZ, sA, sZ, sS])
        refine wv (.int .i64 ((kk + 1 : Nat) : Int)) ?_
        (try simp only [Act.put, gA, gS, gZ, sA, sZ, sS])
        refine wv (.int .i64 (kk : Nat)) ?_ (hrun := by go_simp <;> exact wr64 d6 d7)
        (try simp only [Act.put, gA, gS, gZ, sA, sZ, sS])
        refine wv (.pointer (some ⟨gp, kk * 21, none⟩)) ?_
        (try simp only [Act.put, gA, gS, gZ, sA, sZ, sS])
        refine wv (.agg (poA p)) ?_ (hrun := run_loadRange 58 _ rfl gp (kk * 21) rfl (poA p) _ (HPT.out _ kk _ K63.out.a.2.2.1 HP2.out) Tryd.underlying58 rfl (po_info _))
        (try simp only [Act.put, gA, gS, gZ, sA, sZ, sS])
        refine kx_call K63.out 9 #[.agg (poA p)] (.bool true) (by rfl) (by go_simp) (HON.out _) ?_
        intro w64 hk
        have K64 := Lib.hid (show Kx w [(b1, plA x (.slice ap np mp) (.slice az ns ms) (.slice (some ⟨g, off, none⟩) nf mf), 29), (b11, t3A i, 35), (b21, t3A j, 35), (b42, fA Y, 42), (b61, #[.slice x1 sl x2, .int .i64 why, .bool lb, .bool full], 48), (b63, #[.slice none 0 0, .int .i64 0, .bool false, .bool false], 48)] ((bdT w j V T lf).and ((bdT w i V T l2).and ((PV).and (bdO w.heap.size 81 19 snC (.slice x1 sl x2) (sent))))) w64 from hk)
        clear hk
        (try simp only [Act.put, gA, gS, gZ, sA, sZ, sS])
        refine wv (.bool false) ?_
        (try simp only [Act.put, gA, gS, gZ, sA, sZ, sS])
        refine wv (.bool false) ?_ (hrun := run_pick_no (.tmp 79) (.const (.bool true)) (.tmp 86) _ rfl rfl rfl)
        (try simp only [Act.put, gA, gS, gZ, sA, sZ, sS])
        refine wv (.bool false) ?_
        (try simp only [Act.put, gA, gS, gZ, sA, sZ, sS])
        refine wv (.slice (some ⟨gp, 0, none⟩) n m) ?_
        (try simp only [Act.put, gA, gS, gZ, sA, sZ, sS])
        refine wv (.int .i64 ((kk + 1 : Nat) : Int)) ?_
        (try simp only [Act.put, gA, gS, gZ, sA, sZ, sS])
        refine wv (.int .i64 (kk : Nat)) ?_ (hrun := by go_simp <;> exact wr64 d6 d7)
        (try simp only [Act.put, gA, gS, gZ, sA, sZ, sS])
        refine wv (.pointer (some ⟨gp, kk * 21, none⟩)) ?_
        (try simp only [Act.put, gA, gS, gZ, sA, sZ, sS])
        refine wv (.pointer (some ⟨gp, kk * 21 + 11, none⟩)) ?_
        (try simp only [Act.put, gA, gS, gZ, sA, sZ, sS])
        refine wv (.int .i64 p.p11) ?_ (hrun := by have q : w64.cell? ⟨gp, kk * 21 + 11, none⟩ = some (.int .i64 p.p11) := range_cell (arr := poA p) (o := 11) (HPT.out _ kk _ K64.out.a.2.2.1 HP2.out) (by rfl); go_simp)
        (try simp only [Act.put, gA, gS, gZ, sA, sZ, sS])
        refine wv (.bool false) ?_ (hrun := by have q := HD4.out; have q2 := HD5.out; go_simp)
        (try simp only [Act.put, gA, gS, gZ, sA, sZ, sS])
        refine wv (.bool false) ?_ (hrun := run_pick_no (.tmp 88) (.const (.bool true)) (.tmp 95) _ rfl rfl rfl)
        (try simp only [Act.put, gA, gS, gZ, sA, sZ, sS])
        refine wpList_nil ?_
        go_upto_region 15 with fail
        have HRE := Lib.hid (show ∀ W : World, Calls Tryd.prog 10 #[mac Y.d] W fun e w' => e = .returned (.bool (resB Y.d)) ∧ Below W.heap.size W w' from fun W => reserved_any Y.d W HYO.out.d)
        by_cases hr : resB Y.d = true
        case pos => as_aux_lemma =>
          obtain ⟨rfl, rfl, rfl, rfl, rfl⟩ := pass_held HPR.out HP2.out HDO.out HDZ.out hr
          have hs0 : sl = 0 := HSL.out
          subst hs0
          have HRT := Lib.hid (show ∀ W : World, Calls Tryd.prog 10 #[mac Y.d] W fun e w' => e = .returned (.bool true) ∧ Below W.heap.size W w' from fun W => by have q := HRE.out W; rw [hr] at q; exact q)
          clear hr
          refine wp_region_lit ?_
          refine wv (.pointer (some ⟨b42, 0, none⟩)) ?_
          (try simp only [Act.put, gA, gS, gZ, sA, sZ, sS])
          refine wv (.agg (macA Y.d)) ?_ (hrun := kx_part K64.out 3 rfl 40 _ 0 (macA Y.d).toList rfl rfl (part_of (by kernel_rfl)) Tryd.underlying40 rfl (mcSize))
          (try simp only [Act.put, gA, gS, gZ, sA, sZ, sS])
          refine kx_call K64.out 10 #[.agg (macA Y.d)] (.bool true) (by rfl) (by go_simp) (HRT.out _) ?_
          intro w65 hk
          have K65 := Lib.hid (show Kx w [(b1, plA x (.slice ap np mp) (.slice az ns ms) (.slice (some ⟨g, off, none⟩) nf mf), 29), (b11, t3A i, 35), (b21, t3A j, 35), (b42, fA Y, 42), (b61, #[.slice x1 0 x2, .int .i64 2, .bool false, .bool false], 48), (b63, #[.slice none 0 0, .int .i64 0, .bool false, .bool false], 48)] ((bdT w j V T l2).and ((bdT w i V T l2).and ((PV).and (bdO w.heap.size 81 19 snC (.slice x1 0 x2) ([]))))) w65 from hk)
          clear hk
          (try simp only [Act.put, gA, gS, gZ, sA, sZ, sS])
          refine wpList_nil ?_
          go_upto_region 16 with fail
          refine wp_region_lit ?_
          refine wv (.pointer (some ⟨b63, 1, none⟩)) ?_
          (try simp only [Act.put, gA, gS, gZ, sA, sZ, sS])
          refine kx_set K65.out 5 rfl 3 _ _ 1 (.int .i64 2) rfl (by rfl) rfl rfl (kx_run_set K65.out (i := 5) rfl 3 1 (.int .i64 0) (.int .i64 2) (by rfl) (fun W h1 h2 => by go_simp)) (#[.slice none 0 0, .int .i64 2, .bool false, .bool false]) (by kernel_rfl) ?_
          intro w66 hk
          have K66 := Lib.hid (show Kx w [(b1, plA x (.slice ap np mp) (.slice az ns ms) (.slice (some ⟨g, off, none⟩) nf mf), 29), (b11, t3A i, 35), (b21, t3A j, 35), (b42, fA Y, 42), (b61, #[.slice x1 0 x2, .int .i64 2, .bool false, .bool false], 48), (b63, #[.slice none 0 0, .int .i64 2, .bool false, .bool false], 48)] ((bdT w j V T l2).and ((bdT w i V T l2).and ((PV).and (bdO w.heap.size 81 19 snC (.slice x1 0 x2) ([]))))) w66 from hk)
          clear hk
          (try simp only [Act.put, gA, gS, gZ, sA, sZ, sS])
          refine wpList_nil ?_
          go_upto_region 40 with fail
          refine wp_region_lit ?_
          refine wv (.pointer (some ⟨b61, 1, none⟩)) ?_
          (try simp only [Act.put, gA, gS, gZ, sA, sZ, sS])
          refine wv (.int .i64 2) ?_ (hrun := by have q : w66.cell? ⟨b61, 1, none⟩ = some (.int .i64 2) := K66.out.cell (i := 4) rfl (by rfl); go_simp)
          (try simp only [Act.put, gA, gS, gZ, sA, sZ, sS])
          refine wv (.pointer (some ⟨b63, 1, none⟩)) ?_
          (try simp only [Act.put, gA, gS, gZ, sA, sZ, sS])
          refine wv (.int .i64 2) ?_ (hrun := by have q : w66.cell? ⟨b63, 1, none⟩ = some (.int .i64 2) := K66.out.cell (i := 5) rfl (by rfl); go_simp)
          (try simp only [Act.put, gA, gS, gZ, sA, sZ, sS])
          refine wv (.bool false) ?_
          (try simp only [Act.put, gA, gS, gZ, sA, sZ, sS])
          refine wv (.bool false) ?_
          (try simp only [Act.put, gA, gS, gZ, sA, sZ, sS])
          refine wv (.pointer (some ⟨b61, 2, none⟩)) ?_
          (try simp only [Act.put, gA, gS, gZ, sA, sZ, sS])
          refine wv (.bool false) ?_ (hrun := by have q : w66.cell? ⟨b61, 2, none⟩ = some (.bool false) := K66.out.cell (i := 4) rfl (by rfl); go_simp)
          (try simp only [Act.put, gA, gS, gZ, sA, sZ, sS])
          refine wv (.pointer (some ⟨b63, 2, none⟩)) ?_
          (try simp only [Act.put, gA, gS, gZ, sA, sZ, sS])
          refine wv (.bool false) ?_ (hrun := by have q : w66.cell? ⟨b63, 2, none⟩ = some (.bool false) := K66.out.cell (i := 5) rfl (by rfl); go_simp)
          (try simp only [Act.put, gA, gS, gZ, sA, sZ, sS])
          refine wv (.bool false) ?_
          (try simp only [Act.put, gA, gS, gZ, sA, sZ, sS])
          refine wv (.bool false) ?_ (hrun := run_pick_no (.tmp 226) (.const (.bool true)) (.tmp 231) _ rfl rfl rfl)
          (try simp only [Act.put, gA, gS, gZ, sA, sZ, sS])
          refine wv (.bool false) ?_
          (try simp only [Act.put, gA, gS, gZ, sA, sZ, sS])
          refine wv (.pointer (some ⟨b61, 3, none⟩)) ?_
          (try simp only [Act.put, gA, gS, gZ, sA, sZ, sS])
          refine wv (.bool false) ?_ (hrun := by have q : w66.cell? ⟨b61, 3, none⟩ = some (.bool false) := K66.out.cell (i := 4) rfl (by rfl); go_simp)
          (try simp only [Act.put, gA, gS, gZ, sA, sZ, sS])
          refine wv (.pointer (some ⟨b63, 3, none⟩)) ?_
          (try simp only [Act.put, gA, gS, gZ, sA, sZ, sS])
          refine wv (.bool false) ?_ (hrun := by have q : w66.cell? ⟨b63, 3, none⟩ = some (.bool false) := K66.out.cell (i := 5) rfl (by rfl); go_simp)
          (try simp only [Act.put, gA, gS, gZ, sA, sZ, sS])
          refine wv (.bool false) ?_
          (try simp only [Act.put, gA, gS, gZ, sA, sZ, sS])
          refine wv (.bool false) ?_ (hrun := run_pick_no (.tmp 233) (.const (.bool true)) (.tmp 238) _ rfl rfl rfl)
          (try simp only [Act.put, gA, gS, gZ, sA, sZ, sS])
          refine wv (.bool false) ?_
          (try simp only [Act.put, gA, gS, gZ, sA, sZ, sS])
          refine wv (.pointer (some ⟨b61, 0, none⟩)) ?_
          (try simp only [Act.put, gA, gS, gZ, sA, sZ, sS])
          refine wv (.slice x1 0 x2) ?_ (hrun := by have q : w66.cell? ⟨b61, 0, none⟩ = some (.slice x1 0 x2) := K66.out.cell (i := 4) rfl (by rfl); go_simp)
          (try simp only [Act.put, gA, gS, gZ, sA, sZ, sS])
          refine wv (.int .i64 0) ?_
          (try simp only [Act.put, gA, gS, gZ, sA, sZ, sS])
          refine wv (.pointer (some ⟨b63, 0, none⟩)) ?_
          (try simp only [Act.put, gA, gS, gZ, sA, sZ, sS])
          refine wv (.slice none 0 0) ?_ (hrun := by have q : w66.cell? ⟨b63, 0, none⟩ = some (.slice none 0 0) := K66.out.cell (i := 5) rfl (by rfl); go_simp)
          (try simp only [Act.put, gA, gS, gZ, sA, sZ, sS])
          refine wv (.int .i64 0) ?_
          (try simp only [Act.put, gA, gS, gZ, sA, sZ, sS])
          refine wv (.bool false) ?_
          (try simp only [Act.put, gA, gS, gZ, sA, sZ, sS])
          refine wv (.bool false) ?_ (hrun := run_pick_no (.tmp 240) (.const (.bool true)) (.tmp 247) _ rfl rfl rfl)
          (try simp only [Act.put, gA, gS, gZ, sA, sZ, sS])
          refine wpList_nil ?_
          go_upto_region 42 with fail
          refine wp_region_lit ?_
          refine wv (.int .i64 0) ?_
          (try simp only [Act.put, gA, gS, gZ, sA, sZ, sS])
          refine wpList_nil ?_
          go_upto_region 43 with fail
          go_loopw [25] (fun q wr => q = .int .i64 0 ∧ Kx w [(b1, plA x (.slice ap np mp) (.slice az ns ms) (.slice (some ⟨g, off, none⟩) nf mf), 29), (b11, t3A i, 35), (b21, t3A j, 35), (b42, fA Y, 42), (b61, #[.slice x1 0 x2, .int .i64 2, .bool false, .bool false], 48), (b63, #[.slice none 0 0, .int .i64 2, .bool false, .bool false], 48)] ((bdT w j V T l2).and ((bdT w i V T l2).and ((PV).and (bdO w.heap.size 81 19 snC (.slice x1 0 x2) ([]))))) wr) (fun _ _ => 0)
          case atStart => exact ⟨rfl, K66.out⟩
          case round =>
            obtain ⟨rfl, hK⟩ := hrel
            have KQ := Lib.hid hK
            clear hK
            go_upto_region 43 with fail
            refine wp_region_lit ?_
            refine wv (.int .i64 0) ?_
            (try simp only [Act.put, gA, gS, gZ, sA, sZ, sS])
            refine wv (.pointer (some ⟨b61, 0, none⟩)) ?_
            (try simp only [Act.put, gA, gS, gZ, sA, sZ, sS])
            refine wv (.slice x1 0 x2) ?_ (hrun := by have q : wr.cell? ⟨b61, 0, none⟩ = some (.slice x1 0 x2) := KQ.out.cell (i := 4) rfl (by rfl); go_simp)
            (try simp only [Act.put, gA, gS, gZ, sA, sZ, sS])
            refine wv (.int .i64 0) ?_
            (try simp only [Act.put, gA, gS, gZ, sA, sZ, sS])
            refine wv (.bool false) ?_
            (try simp only [Act.put, gA, gS, gZ, sA, sZ, sS])
            refine wpList_nil ?_
            go_upto_region 47 with fail
            have HLL := Lib.hid (show l2.length ≤ 100 by have := HF1.out; have := HKK.out; omega)
            obtain ⟨nl, hnl⟩ : ∃ nl, nl = l2.length := ⟨_, rfl⟩
            have HNL := Lib.hid hnl
            have i7 : (nl : Int) ≤ 100 := by have := HLL.out; omega
            clear hnl
            refine rk (fun (s : (Option Addr × Nat) × (Option Addr × Nat)) => [.pointer (some ⟨b11, 2, none⟩), .pointer (some ⟨i.b3, 0, none⟩), .slice s.1.1 nl s.1.2, .pointer (some ⟨b21, 2, none⟩), .pointer (some ⟨j.b3, 0, none⟩), .slice s.2.1 nl s.2.2, .slice s.1.1 nl s.1.2, .slice s.2.1 nl s.2.2]) (fun s Lx w' => ((Lx 2 = true → Src w' enC (.slice s.1.1 nl s.1.2) l2) ∧ (Lx 5 = true → Src w' enC (.slice s.2.1 nl s.2.2) l2) ∧ Kx w [(b1, plA x (.slice ap np mp) (.slice az ns ms) (.slice (some ⟨g, off, none⟩) nf mf), 29), (b11, t3A i, 35), (b21, t3A j, 35), (b42, fA Y, 42), (b61, #[.slice x1 0 x2, .int .i64 2, .bool false, .bool false], 48), (b63, #[.slice none 0 0, .int .i64 2, .bool false, .bool false], 48)] ((bdT w j V T l2).and ((bdT w i V T l2).and ((PV).and (bdO w.heap.size 81 19 snC (.slice x1 0 x2) ([]))))) w')) (((none, 0), (none, 0))) [] [(1, fun s => ⟨b11, 2, none⟩), (4, fun s => ⟨b21, 2, none⟩)] [(2, fun s => [(268, .pointer (some ⟨i.b3, 0, none⟩))]), (5, fun s => [(271, .pointer (some ⟨j.b3, 0, none⟩))])] [2, 5] ?_ ?_ ?_ ?_ ?_
            · exact ⟨(fun h => by cases h), (fun h => by cases h), KQ.out.drew⟩
            · intro s L w' h; exact ⟨fun _ => Kx.cell (i := 1) h.2.2 rfl (by rfl), fun _ => Kx.cell (i := 2) h.2.2 rfl (by rfl), trivial⟩
            · intro s L1 L2 w' e h; (try dsimp only at h ⊢); rw [← e 2 (by simp), ← e 5 (by simp)]; exact h
            · refine ⟨?_, ?_, trivial⟩ <;> (rintro s Lx w' hw hL haft hdc ρ hc hf hG hs o ho; cases ho; try dsimp only [seen] at hw hs)
              · obtain ⟨e268, -⟩ := hs
                refine stepW_call (f := 20) (args := #[.pointer (some ⟨i.b3, 0, none⟩)]) (by go_simp) ((list22 (T3.tabF (w0 := w) (show T3 w i V T l2 w' from hw.2.2.a.2.1)) HLL.out).mono ?_)
                rintro e w9 ⟨v, q1, q2, q3⟩
                obtain ⟨A9, c9, hv9, -⟩ := src_rows enC_len (by decide) q2
                rw [← HNL.out] at hv9
                subst hv9
                have h9 : Lx 6 = false := by cases cq : Lx 6; rfl; exact absurd (hdc 6 cq 2 (by decide)) (by rw [hL]; decide)
                exact ⟨_, q1, ((A9, c9), s.2), vs_two (i := 2) (k := 6) rfl hL h9, rfl, fun _ => q2, fun h => src_next (hw.2.1 h) q3, hw.2.2.next q3⟩
              · obtain ⟨e271, -⟩ := hs
                refine stepW_call (f := 20) (args := #[.pointer (some ⟨j.b3, 0, none⟩)]) (by go_simp) ((list22 (T3.tabF (w0 := w) (show T3 w j V T l2 w' from hw.2.2.a.1)) HLL.out).mono ?_)
                rintro e w9 ⟨v, q1, q2, q3⟩
                obtain ⟨A9, c9, hv9, -⟩ := src_rows enC_len (by decide) q2
                rw [← HNL.out] at hv9
                subst hv9
                have h9 : Lx 7 = false := by cases cq : Lx 7; rfl; exact absurd (hdc 7 cq 5 (by decide)) (by rw [hL]; decide)
                exact ⟨_, q1, (s.1, (A9, c9)), vs_two (i := 5) (k := 7) rfl hL h9, rfl, fun h => src_next (hw.1 h) q3, fun _ => q2, hw.2.2.next q3⟩
            · rintro ⟨⟨za, zc⟩, ya, yc⟩ Lx w80 hw hall
              obtain ⟨h1, h2, h3⟩ := hw
              have S1 := Lib.hid (h1 (hall 2 (by decide)))
              have S2 := Lib.hid (h2 (hall 5 (by decide)))
              have K80 := Lib.hid (show Kx w [(b1, plA x (.slice ap np mp) (.slice az ns ms) (.slice (some ⟨g, off, none⟩) nf mf), 29), (b11, t3A i, 35), (b21, t3A j, 35), (b42, fA Y, 42), (b61, #[.slice x1 0 x2, .int .i64 2, .bool false, .bool false], 48), (b63, #[.slice none 0 0, .int .i64 2, .bool false, .bool false], 48)] ((bdT w j V T l2).and ((bdT w i V T l2).and ((PV).and (bdO w.heap.size 81 19 snC (.slice x1 0 x2) ([]))))) w80 from h3)
              clear h1 h2 h3 hall
              simp only [List.toList_toArray, putsZ_some, putsZ_none, putsZ_nil, List.setIfInBounds_toArray, List.set_cons_zero, List.set_cons_succ]
              go_upto_region 48 with fail
              refine wp_region_lit ?_
              refine wv (.slice za nl zc) ?_
              (try simp only [Act.put, gA, gS, gZ, sA, sZ, sS])
              refine wv (.int .i64 (nl : Nat)) ?_
              (try simp only [Act.put, gA, gS, gZ, sA, sZ, sS])
              refine wv (.slice ya nl yc) ?_
              (try simp only [Act.put, gA, gS, gZ, sA, sZ, sS])
              refine wv (.int .i64 (nl : Nat)) ?_
              (try simp only [Act.put, gA, gS, gZ, sA, sZ, sS])
              refine wv (.bool false) ?_
              (try simp only [Act.put, gA, gS, gZ, sA, sZ, sS])
              refine wpList_nil ?_
              go_upto_region 50 with fail
              refine wp_region_lit ?_
              refine wv (.int .i64 0) ?_
              (try simp only [Act.put, gA, gS, gZ, sA, sZ, sS])
              refine wpList_nil ?_
              go_upto_region 51 with fail
              go_loopw [28] (fun q wr => ∃ jj : Nat, jj ≤ nl ∧ q = .int .i64 jj ∧ Kx w [] (bdF w w80) wr) (fun q _ => nl - (intOf q).toNat)
              case atStart => exact ⟨0, Nat.zero_le _, rfl, K80.out.freeze⟩
              case round =>
                obtain ⟨jj, hj, rfl, hK⟩ := hrel
                have KF := Lib.hid hK
                have HB8 := Lib.hid (K80.out.frozen hK)
                have HJ := Lib.hid hj
                clear hK hj
                have e1 : (0 : Int) ≤ (jj : Int) := by omega
                by_cases c0 : jj < nl
                case neg =>
                  have c1 : nl ≤ jj := by omega
                  clear c0
                  go_upto_region 51 with fail
                  refine wp_region_lit ?_
                  refine wv (.int .i64 (jj : Nat)) ?_
                  (try simp only [Act.put, gA, gS, gZ, sA, sZ, sS])
                  refine wv (.slice za nl zc) ?_
                  (try simp only [Act.put, gA, gS, gZ, sA, sZ, sS])
                  refine wv (.int .i64 (nl : Nat)) ?_
                  (try simp only [Act.put, gA, gS, gZ, sA, sZ, sS])
                  refine wv (.bool false) ?_ (hrun := by go_simp <;> omega)
                  (try simp only [Act.put, gA, gS, gZ, sA, sZ, sS])
                  refine wpList_nil ?_
                  go_wp2_with fail
                  go_roundw
                  case rel => exact ⟨k + 1, l2, by have := HLT.out; omega, by have := HLT.out; omega, by have := HKK.out; have := HF1.out; omega, by go_num, by have q := (Kx.left (l := [(b1, plA x (.slice ap np mp) (.slice az ns ms) (.slice (some ⟨g, off, none⟩) nf mf), 29), (b11, t3A i, 35), (b21, t3A j, 35)]) (r := [(b42, fA Y, 42), (b61, #[.slice x1 0 x2, .int .i64 2, .bool false, .bool false], 48), (b63, #[.slice none 0 0, .int .i64 2, .bool false, .bool false], 48)]) (K80.out.next HB8.out)).turn (A' := (bdT w i V T l2).and ((PV).and (bdT w j V T l2))) (fun h => ⟨h.2.1, h.2.2.1, h.1⟩) (fun k q => by rcases q with q | q | q; exact .inr (.inl q); exact .inr (.inr (.inl q)); exact .inl q); rw [HPV.out] at q; exact q⟩
                  case measure => have := HLT.out; simp [intOf]; omega
                case pos => as_aux_lemma =>
                  have c1 : (jj : Int) < (nl : Int) := by omega
                  obtain ⟨s, hs⟩ : ∃ s, l2[jj]? = some s := ⟨_, List.getElem?_eq_getElem (by rw [← HNL.out]; exact c0)⟩
                  obtain ⟨A1, cc1, e2, r1⟩ := src_rows enC_len (by decide) S1.out
                  obtain ⟨A2, cc2, e3, r2⟩ := src_rows enC_len (by decide) S2.out
                  injection e2 with e2 e4 e5
                  injection e3 with e3 e6 e7
                  clear e4 e5 e6 e7
                  subst e2 e3
                  obtain ⟨g1, o1, rfl, r3⟩ := rows_range r1 hs
                  obtain ⟨g2, o2, rfl, r4⟩ := rows_range r2 hs
                  have HR1 := Lib.hid r3
                  have HR2 := Lib.hid r4
                  have HEQ := Lib.hid (equal_en s)
                  have HJ2 := Lib.hid c0
                  clear hs r1 r2 r3 r4 c0
                  go_upto_region 51 with fail
                  refine wp_region_lit ?_
                  refine wv (.int .i64 (jj : Nat)) ?_
                  (try simp only [Act.put, gA, gS, gZ, sA, sZ, sS])
                  refine wv (.slice (some ⟨g1, o1, none⟩) nl zc) ?_
                  (try simp only [Act.put, gA, gS, gZ, sA, sZ, sS])
                  refine wv (.int .i64 (nl : Nat)) ?_
                  (try simp only [Act.put, gA, gS, gZ, sA, sZ, sS])
                  refine wv (.bool true) ?_
                  (try simp only [Act.put, gA, gS, gZ, sA, sZ, sS])
                  refine wpList_nil ?_
                  go_upto_region 53 with fail
                  refine wp_region_quiet (C := fun W => Kx w [] (bdF w w80) W) (by kernel_rfl) (by kernel_rfl) KF.out.drew ?_
                  refine qv (.slice (some ⟨g1, o1, none⟩) nl zc) ?_
                  (try simp only [Act.put, gA, gS, gZ, sA, sZ, sS])
                  refine qv (.int .i64 (jj : Nat)) ?_
                  (try simp only [Act.put, gA, gS, gZ, sA, sZ, sS])
                  refine qv (.pointer (some ⟨g1, o1 + jj * 9, none⟩)) ?_
                  (try simp only [Act.put, gA, gS, gZ, sA, sZ, sS])
                  refine qv (.agg (enA s)) ?_ (hv := fun wv hC => run_loadRange 67 _ rfl g1 (o1 + jj * 9) rfl (enA s) _ (HR1.out _ (K80.out.frozen (Lib.hid hC).out)) Tryd.underlying67 rfl (enSz))
                  (try simp only [Act.put, gA, gS, gZ, sA, sZ, sS])
                  refine qv (.slice (some ⟨g2, o2, none⟩) nl yc) ?_
                  (try simp only [Act.put, gA, gS, gZ, sA, sZ, sS])
                  refine qv (.int .i64 (jj : Nat)) ?_
                  (try simp only [Act.put, gA, gS, gZ, sA, sZ, sS])
                  refine qv (.pointer (some ⟨g2, o2 + jj * 9, none⟩)) ?_
                  (try simp only [Act.put, gA, gS, gZ, sA, sZ, sS])
                  refine qv (.agg (enA s)) ?_ (hv := fun wv hC => run_loadRange 67 _ rfl g2 (o2 + jj * 9) rfl (enA s) _ (HR2.out _ (K80.out.frozen (Lib.hid hC).out)) Tryd.underlying67 rfl (enSz))
                  (try simp only [Act.put, gA, gS, gZ, sA, sZ, sS])
                  refine qv (.bool false) ?_ (hv := fun wv hC => by have q := HEQ.out; go_simp)
                  (try simp only [Act.put, gA, gS, gZ, sA, sZ, sS])
                  refine wpQuiet_nil ?_
                  intro w127 hC
                  have K127 := Lib.hid (show Kx w [] (bdF w w80) w127 from hC)
                  clear hC
                  go_wp2_with fail
                  go_roundw
                  case rel => exact ⟨jj + 1, by have := HJ2.out; omega, by go_num, K127.out⟩
                  case measure => have := HJ2.out; simp [intOf]; omega
        case neg =>
          have HRF := Lib.hid (show ∀ W : World, Calls Tryd.prog 10 #[mac Y.d] W fun e w' => e = .returned (.bool false) ∧ Below W.heap.size W w' from fun W => by have q := HRE.out W; rw [show resB Y.d = false by simpa using hr] at q; exact q)
          obtain ⟨c, hc⟩ : ∃ c, c = ingM V p ((kk + 1 : Nat) : Int) Y := ⟨_, rfl⟩
          obtain ⟨vd, hvd⟩ : ∃ vd, vd = ingV (vidM p Y) c := ⟨_, rfl⟩
          have HCC := Lib.hid (show c = 0 ∨ c = 1 ∨ c = 2 ∨ c = 3 by rw [hc]; exact ing_case _ _ _ _)
          have HIN := Lib.hid (show ∀ W lf, T3 w j V T lf W → Calls Tryd.prog 11 #[.agg #[.int .u16 p.p0, .int .i64 p.p1, .bool p.p2], .int .i64 ((kk + 1 : Nat) : Int), .agg (fA Y), .pointer (some ⟨j.b1, 0, none⟩)] W fun e w' => e = .returned (.tuple #[.int .u16 (vd : Nat), .int .i64 c]) ∧ Below W.heap.size W w' from fun W lf hT => by rw [hvd, hc, HPVV.out]; exact ing_any hT p pv HPVV.out _ Y)
          have HRN := Lib.hid hr
          have HCE := Lib.hid hc
          have HVD := Lib.hid hvd
          clear hr hc hvd
          refine wp_region_lit ?_
          refine wv (.pointer (some ⟨b42, 0, none⟩)) ?_
          (try simp only [Act.put, gA, gS, gZ, sA, sZ, sS])
          refine wv (.agg (macA Y.d)) ?_ (hrun := kx_part K64.out 3 rfl 40 _ 0 (macA Y.d).toList rfl rfl (part_of (by kernel_rfl)) Tryd.underlying40 rfl (mcSize))
          (try simp only [Act.put, gA, gS, gZ, sA, sZ, sS])
          refine kx_call K64.out 10 #[.agg (macA Y.d)] (.bool false) (by rfl) (by go_simp) (HRF.out _) ?_
          intro w65 hk
          have K65 := Lib.hid (show Kx w [(b1, plA x (.slice ap np mp) (.slice az ns ms) (.slice (some ⟨g, off, none⟩) nf mf), 29), (b11, t3A i, 35), (b21, t3A j, 35), (b42, fA Y, 42), (b61, #[.slice x1 sl x2, .int .i64 why, .bool lb, .bool full], 48), (b63, #[.slice none 0 0, .int .i64 0, .bool false, .bool false], 48)] ((bdT w j V T lf).and ((bdT w i V T l2).and ((PV).and (bdO w.heap.size 81 19 snC (.slice x1 sl x2) (sent))))) w65 from hk)
          clear hk
          (try simp only [Act.put, gA, gS, gZ, sA, sZ, sS])
          refine wpList_nil ?_
          go_upto_region 17 with fail
          refine wp_region_quiet (C := fun W => Kx w [(b1, plA x (.slice ap np mp) (.slice az ns ms) (.slice (some ⟨g, off, none⟩) nf mf), 29), (b11, t3A i, 35), (b21, t3A j, 35), (b42, fA Y, 42), (b61, #[.slice x1 sl x2, .int .i64 why, .bool lb, .bool full], 48), (b63, #[.slice none 0 0, .int .i64 0, .bool false, .bool false], 48)] ((bdT w j V T lf).and ((bdT w i V T l2).and ((PV).and (bdO w.heap.size 81 19 snC (.slice x1 sl x2) (sent))))) W) (by kernel_rfl) (by kernel_rfl) K65.out.drew ?_
          refine qv (.slice (some ⟨gp, 0, none⟩) n m) ?_
          (try simp only [Act.put, gA, gS, gZ, sA, sZ, sS])
          refine qv (.int .i64 ((kk + 1 : Nat) : Int)) ?_
          (try simp only [Act.put, gA, gS, gZ, sA, sZ, sS])
          refine qv (.int .i64 (kk : Nat)) ?_ (hv := fun wv hC => by go_simp <;> exact wr64 d6 d7)
          (try simp only [Act.put, gA, gS, gZ, sA, sZ, sS])
          refine qv (.pointer (some ⟨gp, kk * 21, none⟩)) ?_
          (try simp only [Act.put, gA, gS, gZ, sA, sZ, sS])
          refine qv (.pointer (some ⟨gp, kk * 21, none⟩)) ?_
          (try simp only [Act.put, gA, gS, gZ, sA, sZ, sS])
          refine qv (.agg (#[.int .u16 p.p0, .int .i64 p.p1, .bool p.p2])) ?_ (hv := fun wv hC => run_loadRange 51 _ rfl gp (kk * 21) rfl (#[.int .u16 p.p0, .int .i64 p.p1, .bool p.p2]) _ (range_part (arr := poA p) (o := 0) (HPT.out _ kk _ (Lib.hid hC).out.a.2.2.1 HP2.out) (part_of (by kernel_rfl))) Tryd.underlying51 rfl (pgSize))
          (try simp only [Act.put, gA, gS, gZ, sA, sZ, sS])
          refine qv (.int .i64 ((kk + 1 : Nat) : Int)) ?_
          (try simp only [Act.put, gA, gS, gZ, sA, sZ, sS])
          refine qv (.agg (fA Y)) ?_ (hv := fun wv hC => kx_all (Lib.hid hC).out 3 rfl 42 _ rfl rfl Tryd.underlying42 rfl (fA_size _))
          (try simp only [Act.put, gA, gS, gZ, sA, sZ, sS])
          refine qv (.pointer (some ⟨b21, 0, none⟩)) ?_
          (try simp only [Act.put, gA, gS, gZ, sA, sZ, sS])
          refine qv (.pointer (some ⟨j.b1, 0, none⟩)) ?_ (hv := fun wv hC => by have q : wv.cell? ⟨b21, 0, none⟩ = some (.pointer (some ⟨j.b1, 0, none⟩)) := (Lib.hid hC).out.cell (i := 2) rfl (by rfl); go_simp)
          (try simp only [Act.put, gA, gS, gZ, sA, sZ, sS])
          refine q_call (v := .tuple #[.int .u16 (vd : Nat), .int .i64 c]) 11 #[.agg (#[.int .u16 p.p0, .int .i64 p.p1, .bool p.p2]), .int .i64 ((kk + 1 : Nat) : Int), .agg (fA Y), .pointer (some ⟨j.b1, 0, none⟩)] (by rfl) (fun wv hC => by go_simp) (fun wv hC => calls_in (HIN.out _ _ hC.a.1) (fun w2 hb => hC.next hb)) ?_
          (try simp only [Act.put, gA, gS, gZ, sA, sZ, sS])
          refine qv (.tuple #[.int .u16 (vd : Nat), .int .i64 c]) ?_
          (try simp only [Act.put, gA, gS, gZ, sA, sZ, sS])
          refine qv (.int .u16 (vd : Nat)) ?_
          (try simp only [Act.put, gA, gS, gZ, sA, sZ, sS])
          refine qv (.int .i64 c) ?_
          (try simp only [Act.put, gA, gS, gZ, sA, sZ, sS])
          refine qv (.int .u16 (vd : Nat)) ?_
          (try simp only [Act.put, gA, gS, gZ, sA, sZ, sS])
          refine qv (.int .i64 c) ?_
          (try simp only [Act.put, gA, gS, gZ, sA, sZ, sS])
          refine wpQuiet_nil ?_
          intro w66 hC
          have K66 := Lib.hid (show Kx w [(b1, plA x (.slice ap np mp) (.slice az ns ms) (.slice (some ⟨g, off, none⟩) nf mf), 29), (b11, t3A i, 35), (b21, t3A j, 35), (b42, fA Y, 42), (b61, #[.slice x1 sl x2, .int .i64 why, .bool lb, .bool full], 48), (b63, #[.slice none 0 0, .int .i64 0, .bool false, .bool false], 48)] ((bdT w j V T lf).and ((bdT w i V T l2).and ((PV).and (bdO w.heap.size 81 19 snC (.slice x1 sl x2) (sent))))) w66 from hC)
          clear hC
          go_upto_region 18 with fail
          by_cases hc0 : c = 0
          case neg => as_aux_lemma =>
            obtain ⟨rfl, hw9, rfl, rfl, rfl⟩ := pass_refused HPR.out HP2.out HDO.out HDZ.out HRN.out (by rw [← HCE.out]; exact hc0)
            rw [← HCE.out] at hw9
            subst hw9
            have hs0 : sl = 0 := HSL.out
            subst hs0
            have HC0 := Lib.hid hc0
            have HC1 := Lib.hid (show decide (c = 0) = false from decide_eq_false hc0)
            have HC2 := Lib.hid (show (c == 0) = false by simpa using hc0)
            clear hc0
            refine wp_region_lit ?_
            refine wv (.agg (#[.int .i64 7, .int .i64 3, .int .i64 4, .int .i64 5])) ?_
            (try simp only [Act.put, gA, gS, gZ, sA, sZ, sS])
            refine wv (.int .i64 c) ?_
            (try simp only [Act.put, gA, gS, gZ, sA, sZ, sS])
            refine wv (.int .i64 (whyN c)) ?_ (hrun := by have q := why_at c HCC.out; go_simp)
            (try simp only [Act.put, gA, gS, gZ, sA, sZ, sS])
            refine wv (.pointer (some ⟨b63, 1, none⟩)) ?_
            (try simp only [Act.put, gA, gS, gZ, sA, sZ, sS])
            refine kx_set K66.out 5 rfl 3 _ _ 1 (.int .i64 (whyN c)) rfl (by rfl) rfl rfl (kx_run_set K66.out (i := 5) rfl 3 1 (.int .i64 0) (.int .i64 (whyN c)) (by rfl) (fun W h1 h2 => by go_simp)) (#[.slice none 0 0, .int .i64 (whyN c), .bool false, .bool false]) (by kernel_rfl) ?_
            intro w67 hk
            have K67 := Lib.hid (show Kx w [(b1, plA x (.slice ap np mp) (.slice az ns ms) (.slice (some ⟨g, off, none⟩) nf mf), 29), (b11, t3A i, 35), (b21, t3A j, 35), (b42, fA Y, 42), (b61, #[.slice x1 0 x2, .int .i64 (whyN c), .bool false, .bool false], 48), (b63, #[.slice none 0 0, .int .i64 (whyN c), .bool false, .bool false], 48)] ((bdT w j V T l2).and ((bdT w i V T l2).and ((PV).and (bdO w.heap.size 81 19 snC (.slice x1 0 x2) ([]))))) w67 from hk)
            clear hk
            (try simp only [Act.put, gA, gS, gZ, sA, sZ, sS])
            refine wpList_nil ?_
            go_upto_region 19 with fail
            refine wp_region_lit ?_
            refine wv (.int .i64 c) ?_
            (try simp only [Act.put, gA, gS, gZ, sA, sZ, sS])
            refine wv (.bool false) ?_ (hrun := by have q := HC1.out; have q2 := HC2.out; go_simp)
            (try simp only [Act.put, gA, gS, gZ, sA, sZ, sS])
            refine wpList_nil ?_
            go_upto_region 40 with fail
            refine wp_region_lit ?_
            refine wv (.pointer (some ⟨b61, 1, none⟩)) ?_
            (try simp only [Act.put, gA, gS, gZ, sA, sZ, sS])
            refine wv (.int .i64 (whyN c)) ?_ (hrun := by have q : w67.cell? ⟨b61, 1, none⟩ = some (.int .i64 (whyN c)) := K67.out.cell (i := 4) rfl (by rfl); go_simp)
            (try simp only [Act.put, gA, gS, gZ, sA, sZ, sS])
            refine wv (.pointer (some ⟨b63, 1, none⟩)) ?_
            (try simp only [Act.put, gA, gS, gZ, sA, sZ, sS])
            refine wv (.int .i64 (whyN c)) ?_ (hrun := by have q : w67.cell? ⟨b63, 1, none⟩ = some (.int .i64 (whyN c)) := K67.out.cell (i := 5) rfl (by rfl); go_simp)
            (try simp only [Act.put, gA, gS, gZ, sA, sZ, sS])
            refine wv (.bool false) ?_
            (try simp only [Act.put, gA, gS, gZ, sA, sZ, sS])
            refine wv (.bool false) ?_
            (try simp only [Act.put, gA, gS, gZ, sA, sZ, sS])
            refine wv (.pointer (some ⟨b61, 2, none⟩)) ?_
            (try simp only [Act.put, gA, gS, gZ, sA, sZ, sS])
            refine wv (.bool false) ?_ (hrun := by have q : w67.cell? ⟨b61, 2, none⟩ = some (.bool false) := K67.out.cell (i := 4) rfl (by rfl); go_simp)
            (try simp only [Act.put, gA, gS, gZ, sA, sZ, sS])
            refine wv (.pointer (some ⟨b63, 2, none⟩)) ?_
            (try simp only [Act.put, gA, gS, gZ, sA, sZ, sS])
            refine wv (.bool false) ?_ (hrun := by have q : w67.cell? ⟨b63, 2, none⟩ = some (.bool false) := K67.out.cell (i := 5) rfl (by rfl); go_simp)
            (try simp only [Act.put, gA, gS, gZ, sA, sZ, sS])
            refine wv (.bool false) ?_
            (try simp only [Act.put, gA, gS, gZ, sA, sZ, sS])
            refine wv (.bool false) ?_ (hrun := run_pick_no (.tmp 226) (.const (.bool true)) (.tmp 231) _ rfl rfl rfl)
            (try simp only [Act.put, gA, gS, gZ, sA, sZ, sS])
            refine wv (.bool false) ?_
            (try simp only [Act.put, gA, gS, gZ, sA, sZ, sS])
            refine wv (.pointer (some ⟨b61, 3, none⟩)) ?_
            (try simp only [Act.put, gA, gS, gZ, sA, sZ, sS])
            refine wv (.bool false) ?_ (hrun := by have q : w67.cell? ⟨b61, 3, none⟩ = some (.bool false) := K67.out.cell (i := 4) rfl (by rfl); go_simp)
            (try simp only [Act.put, gA, gS, gZ, sA, sZ, sS])
            refine wv (.pointer (some ⟨b63, 3, none⟩)) ?_
            (try simp only [Act.put, gA, gS, gZ, sA, sZ, sS])
            refine wv (.bool false) ?_ (hrun := by have q : w67.cell? ⟨b63, 3, none⟩ = some (.bool false) := K67.out.cell (i := 5) rfl (by rfl); go_simp)
            (try simp only [Act.put, gA, gS, gZ, sA, sZ, sS])
            refine wv (.bool false) ?_
            (try simp only [Act.put, gA, gS, gZ, sA, sZ, sS])
            refine wv (.bool false) ?_ (hrun := run_pick_no (.tmp 233) (.const (.bool true)) (.tmp 238) _ rfl rfl rfl)
            (try simp only [Act.put, gA, gS, gZ, sA, sZ, sS])
            refine wv (.bool false) ?_
            (try simp only [Act.put, gA, gS, gZ, sA, sZ, sS])
            refine wv (.pointer (some ⟨b61, 0, none⟩)) ?_
            (try simp only [Act.put, gA, gS, gZ, sA, sZ, sS])
            refine wv (.slice x1 0 x2) ?_ (hrun := by have q : w67.cell? ⟨b61, 0, none⟩ = some (.slice x1 0 x2) := K67.out.cell (i := 4) rfl (by rfl); go_simp)
            (try simp only [Act.put, gA, gS, gZ, sA, sZ, sS])
            refine wv (.int .i64 0) ?_
            (try simp only [Act.put, gA, gS, gZ, sA, sZ, sS])
            refine wv (.pointer (some ⟨b63, 0, none⟩)) ?_
            (try simp only [Act.put, gA, gS, gZ, sA, sZ, sS])
            refine wv (.slice none 0 0) ?_ (hrun := by have q : w67.cell? ⟨b63, 0, none⟩ = some (.slice none 0 0) := K67.out.cell (i := 5) rfl (by rfl); go_simp)
            (try simp only [Act.put, gA, gS, gZ, sA, sZ, sS])
            refine wv (.int .i64 0) ?_
            (try simp only [Act.put, gA, gS, gZ, sA, sZ, sS])
            refine wv (.bool false) ?_
            (try simp only [Act.put, gA, gS, gZ, sA, sZ, sS])
            refine wv (.bool false) ?_ (hrun := run_pick_no (.tmp 240) (.const (.bool true)) (.tmp 247) _ rfl rfl rfl)
            (try simp only [Act.put, gA, gS, gZ, sA, sZ, sS])
            refine wpList_nil ?_
            go_upto_region 42 with fail
            refine wp_region_lit ?_
            refine wv (.int .i64 0) ?_
            (try simp only [Act.put, gA, gS, gZ, sA, sZ, sS])
            refine wpList_nil ?_
            go_upto_region 43 with fail
            go_loopw [25] (fun q wr => q = .int .i64 0 ∧ Kx w [(b1, plA x (.slice ap np mp) (.slice az ns ms) (.slice (some ⟨g, off, none⟩) nf mf), 29), (b11, t3A i, 35), (b21, t3A j, 35), (b42, fA Y, 42), (b61, #[.slice x1 0 x2, .int .i64 (whyN c), .bool false, .bool false], 48), (b63, #[.slice none 0 0, .int .i64 (whyN c), .bool false, .bool false], 48)] ((bdT w j V T l2).and ((bdT w i V T l2).and ((PV).and (bdO w.heap.size 81 19 snC (.slice x1 0 x2) ([]))))) wr) (fun _ _ => 0)
            case atStart => exact ⟨rfl, K67.out⟩
            case round =>
              obtain ⟨rfl, hK⟩ := hrel
              have KQ := Lib.hid hK
              clear hK
              go_upto_region 43 with fail
              refine wp_region_lit ?_
              refine wv (.int .i64 0) ?_
              (try simp only [Act.put, gA, gS, gZ, sA, sZ, sS])
              refine wv (.pointer (some ⟨b61, 0, none⟩)) ?_
              (try simp only [Act.put, gA, gS, gZ, sA, sZ, sS])
              refine wv (.slice x1 0 x2) ?_ (hrun := by have q : wr.cell? ⟨b61, 0, none⟩ = some (.slice x1 0 x2) := KQ.out.cell (i := 4) rfl (by rfl); go_simp)
              (try simp only [Act.put, gA, gS, gZ, sA, sZ, sS])
              refine wv (.int .i64 0) ?_
              (try simp only [Act.put, gA, gS, gZ, sA, sZ, sS])
              refine wv (.bool false) ?_
              (try simp only [Act.put, gA, gS, gZ, sA, sZ, sS])
              refine wpList_nil ?_
              go_upto_region 47 with fail
              have HLL := Lib.hid (show l2.length ≤ 100 by have := HF1.out; have := HKK.out; omega)
              obtain ⟨nl, hnl⟩ : ∃ nl, nl = l2.length := ⟨_, rfl⟩
              have HNL := Lib.hid hnl
              have i7 : (nl : Int) ≤ 100 := by have := HLL.out; omega
              clear hnl
              refine rk (fun (s : (Option Addr × Nat) × (Option Addr × Nat)) => [.pointer (some ⟨b11, 2, none⟩), .pointer (some ⟨i.b3, 0, none⟩), .slice s.1.1 nl s.1.2, .pointer (some ⟨b21, 2, none⟩), .pointer (some ⟨j.b3, 0, none⟩), .slice s.2.1 nl s.2.2, .slice s.1.1 nl s.1.2, .slice s.2.1 nl s.2.2]) (fun s Lx w' => ((Lx 2 = true → Src w' enC (.slice s.1.1 nl s.1.2) l2) ∧ (Lx 5 = true → Src w' enC (.slice s.2.1 nl s.2.2) l2) ∧ Kx w [(b1, plA x (.slice ap np mp) (.slice az ns ms) (.slice (some ⟨g, off, none⟩) nf mf), 29), (b11, t3A i, 35), (b21, t3A j, 35), (b42, fA Y, 42), (b61, #[.slice x1 0 x2, .int .i64 (whyN c), .bool false, .bool false], 48), (b63, #[.slice none 0 0, .int .i64 (whyN c), .bool false, .bool false], 48)] ((bdT w j V T l2).and ((bdT w i V T l2).and ((PV).and (bdO w.heap.size 81 19 snC (.slice x1 0 x2) ([]))))) w')) (((none, 0), (none, 0))) [] [(1, fun s => ⟨b11, 2, none⟩), (4, fun s => ⟨b21, 2, none⟩)] [(2, fun s => [(268, .pointer (some ⟨i.b3, 0, none⟩))]), (5, fun s => [(271, .pointer (some ⟨j.b3, 0, none⟩))])] [2, 5] ?_ ?_ ?_ ?_ ?_
              · exact ⟨(fun h => by cases h), (fun h => by cases h), KQ.out.drew⟩
              · intro s L w' h; exact ⟨fun _ => Kx.cell (i := 1) h.2.2 rfl (by rfl), fun _ => Kx.cell (i := 2) h.2.2 rfl (by rfl), trivial⟩
              · intro s L1 L2 w' e h; (try dsimp only at h ⊢); rw [← e 2 (by simp), ← e 5 (by simp)]; exact h
              · refine ⟨?_, ?_, trivial⟩ <;> (rintro s Lx w' hw hL haft hdc ρ hc hf hG hs o ho; cases ho; try dsimp only [seen] at hw hs)
                · obtain ⟨e268, -⟩ := hs
                  refine stepW_call (f := 20) (args := #[.pointer (some ⟨i.b3, 0, none⟩)]) (by go_simp) ((list22 (T3.tabF (w0 := w) (show T3 w i V T l2 w' from hw.2.2.a.2.1)) HLL.out).mono ?_)
                  rintro e w9 ⟨v, q1, q2, q3⟩
                  obtain ⟨A9, c9, hv9, -⟩ := src_rows enC_len (by decide) q2
                  rw [← HNL.out] at hv9
                  subst hv9
                  have h9 : Lx 6 = false := by cases cq : Lx 6; rfl; exact absurd (hdc 6 cq 2 (by decide)) (by rw [hL]; decide)
                  exact ⟨_, q1, ((A9, c9), s.2), vs_two (i := 2) (k := 6) rfl hL h9, rfl, fun _ => q2, fun h => src_next (hw.2.1 h) q3, hw.2.2.next q3⟩
                · obtain ⟨e271, -⟩ := hs
                  refine stepW_call (f := 20) (args := #[.pointer (some ⟨j.b3, 0, none⟩)]) (by go_simp) ((list22 (T3.tabF (w0 := w) (show T3 w j V T l2 w' from hw.2.2.a.1)) HLL.out).mono ?_)
                  rintro e w9 ⟨v, q1, q2, q3⟩
                  obtain ⟨A9, c9, hv9, -⟩ := src_rows enC_len (by decide) q2
                  rw [← HNL.out] at hv9
                  subst hv9
                  have h9 : Lx 7 = false := by cases cq : Lx 7; rfl; exact absurd (hdc 7 cq 5 (by decide)) (by rw [hL]; decide)
                  exact ⟨_, q1, (s.1, (A9, c9)), vs_two (i := 5) (k := 7) rfl hL h9, rfl, fun h => src_next (hw.1 h) q3, fun _ => q2, hw.2.2.next q3⟩
              · rintro ⟨⟨za, zc⟩, ya, yc⟩ Lx w80 hw hall
                obtain ⟨h1, h2, h3⟩ := hw
                have S1 := Lib.hid (h1 (hall 2 (by decide)))
                have S2 := Lib.hid (h2 (hall 5 (by decide)))
                have K80 := Lib.hid (show Kx w [(b1, plA x (.slice ap np mp) (.slice az ns ms) (.slice (some ⟨g, off, none⟩) nf mf), 29), (b11, t3A i, 35), (b21, t3A j, 35), (b42, fA Y, 42), (b61, #[.slice x1 0 x2, .int .i64 (whyN c), .bool false, .bool false], 48), (b63, #[.slice none 0 0, .int .i64 (whyN c), .bool false, .bool false], 48)] ((bdT w j V T l2).and ((bdT w i V T l2).and ((PV).and (bdO w.heap.size 81 19 snC (.slice x1 0 x2) ([]))))) w80 from h3)
                clear h1 h2 h3 hall
                simp only [List.toList_toArray, putsZ_some, putsZ_none, putsZ_nil, List.setIfInBounds_toArray, List.set_cons_zero, List.set_cons_succ]
                go_upto_region 48 with fail
                refine wp_region_lit ?_
                refine wv (.slice za nl zc) ?_
                (try simp only [Act.put, gA, gS, gZ, sA, sZ, sS])
                refine wv (.int .i64 (nl : Nat)) ?_
                (try simp only [Act.put, gA, gS, gZ, sA, sZ, sS])
                refine wv (.slice ya nl yc) ?_
                (try simp only [Act.put, gA, gS, gZ, sA, sZ, sS])
                refine wv (.int .i64 (nl : Nat)) ?_
                (try simp only [Act.put, gA, gS, gZ, sA, sZ, sS])
                refine wv (.bool false) ?_
                (try simp only [Act.put, gA, gS, gZ, sA, sZ, sS])
                refine wpList_nil ?_
                go_upto_region 50 with fail
                refine wp_region_lit ?_
                refine wv (.int .i64 0) ?_
                (try simp only [Act.put, gA, gS, gZ, sA, sZ, sS])
                refine wpList_nil ?_
                go_upto_region 51 with fail
                go_loopw [28] (fun q wr => ∃ jj : Nat, jj ≤ nl ∧ q = .int .i64 jj ∧ Kx w [] (bdF w w80) wr) (fun q _ => nl - (intOf q).toNat)
                case atStart => exact ⟨0, Nat.zero_le _, rfl, K80.out.freeze⟩
                case round =>
                  obtain ⟨jj, hj, rfl, hK⟩ := hrel
                  have KF := Lib.hid hK
                  have HB8 := Lib.hid (K80.out.frozen hK)
                  have HJ := Lib.hid hj
                  clear hK hj
                  have e1 : (0 : Int) ≤ (jj : Int) := by omega
                  by_cases c0 : jj < nl
                  case neg =>
                    have c1 : nl ≤ jj := by omega
                    clear c0
                    go_upto_region 51 with fail
                    refine wp_region_lit ?_
                    refine wv (.int .i64 (jj : Nat)) ?_
                    (try simp only [Act.put, gA, gS, gZ, sA, sZ, sS])
                    refine wv (.slice za nl zc) ?_
                    (try simp only [Act.put, gA, gS, gZ, sA, sZ, sS])
                    refine wv (.int .i64 (nl : Nat)) ?_
                    (try simp only [Act.put, gA, gS, gZ, sA, sZ, sS])
                    refine wv (.bool false) ?_ (hrun := by go_simp <;> omega)
                    (try simp only [Act.put, gA, gS, gZ, sA, sZ, sS])
                    refine wpList_nil ?_
                    go_wp2_with fail
                    go_roundw
                    case rel => exact ⟨k + 1, l2, by have := HLT.out; omega, by have := HLT.out; omega, by have := HKK.out; have := HF1.out; omega, by go_num, by have q := (Kx.left (l := [(b1, plA x (.slice ap np mp) (.slice az ns ms) (.slice (some ⟨g, off, none⟩) nf mf), 29), (b11, t3A i, 35), (b21, t3A j, 35)]) (r := [(b42, fA Y, 42), (b61, #[.slice x1 0 x2, .int .i64 (whyN c), .bool false, .bool false], 48), (b63, #[.slice none 0 0, .int .i64 (whyN c), .bool false, .bool false], 48)]) (K80.out.next HB8.out)).turn (A' := (bdT w i V T l2).and ((PV).and (bdT w j V T l2))) (fun h => ⟨h.2.1, h.2.2.1, h.1⟩) (fun k q => by rcases q with q | q | q; exact .inr (.inl q); exact .inr (.inr (.inl q)); exact .inl q); rw [HPV.out] at q; exact q⟩
                    case measure => have := HLT.out; simp [intOf]; omega
                  case pos => as_aux_lemma =>
                    have c1 : (jj : Int) < (nl : Int) := by omega
                    obtain ⟨s, hs⟩ : ∃ s, l2[jj]? = some s := ⟨_, List.getElem?_eq_getElem (by rw [← HNL.out]; exact c0)⟩
                    obtain ⟨A1, cc1, e2, r1⟩ := src_rows enC_len (by decide) S1.out
                    obtain ⟨A2, cc2, e3, r2⟩ := src_rows enC_len (by decide) S2.out
                    injection e2 with e2 e4 e5
                    injection e3 with e3 e6 e7
                    clear e4 e5 e6 e7
                    subst e2 e3
                    obtain ⟨g1, o1, rfl, r3⟩ := rows_range r1 hs
                    obtain ⟨g2, o2, rfl, r4⟩ := rows_range r2 hs
                    have HR1 := Lib.hid r3
                    have HR2 := Lib.hid r4
                    have HEQ := Lib.hid (equal_en s)
                    have HJ2 := Lib.hid c0
                    clear hs r1 r2 r3 r4 c0
                    go_upto_region 51 with fail
                    refine wp_region_lit ?_
                    refine wv (.int .i64 (jj : Nat)) ?_
                    (try simp only [Act.put, gA, gS, gZ, sA, sZ, sS])
                    refine wv (.slice (some ⟨g1, o1, none⟩) nl zc) ?_
                    (try simp only [Act.put, gA, gS, gZ, sA, sZ, sS])
                    refine wv (.int .i64 (nl : Nat)) ?_
                    (try simp only [Act.put, gA, gS, gZ, sA, sZ, sS])
                    refine wv (.bool true) ?_
                    (try simp only [Act.put, gA, gS, gZ, sA, sZ, sS])
                    refine wpList_nil ?_
                    go_upto_region 53 with fail
                    refine wp_region_quiet (C := fun W => Kx w [] (bdF w w80) W) (by kernel_rfl) (by kernel_rfl) KF.out.drew ?_
                    refine qv (.slice (some ⟨g1, o1, none⟩) nl zc) ?_
                    (try simp only [Act.put, gA, gS, gZ, sA, sZ, sS])
                    refine qv (.int .i64 (jj : Nat)) ?_
                    (try simp only [Act.put, gA, gS, gZ, sA, sZ, sS])
                    refine qv (.pointer (some ⟨g1, o1 + jj * 9, none⟩)) ?_
                    (try simp only [Act.put, gA, gS, gZ, sA, sZ, sS])
                    refine qv (.agg (enA s)) ?_ (hv := fun wv hC => run_loadRange 67 _ rfl g1 (o1 + jj * 9) rfl (enA s) _ (HR1.out _ (K80.out.frozen (Lib.hid hC).out)) Tryd.underlying67 rfl (enSz))
                    (try simp only [Act.put, gA, gS, gZ, sA, sZ, sS])
                    refine qv (.slice (some ⟨g2, o2, none⟩) nl yc) ?_
                    (try simp only [Act.put, gA, gS, gZ, sA, sZ, sS])
                    refine qv (.int .i64 (jj : Nat)) ?_
                    (try simp only [Act.put, gA, gS, gZ, sA, sZ, sS])
                    refine qv (.pointer (some ⟨g2, o2 + jj * 9, none⟩)) ?_
                    (try simp only [Act.put, gA, gS, gZ, sA, sZ, sS])
                    refine qv (.agg (enA s)) ?_ (hv := fun wv hC => run_loadRange 67 _ rfl g2 (o2 + jj * 9) rfl (enA s) _ (HR2.out _ (K80.out.frozen (Lib.hid hC).out)) Tryd.underlying67 rfl (enSz))
                    (try simp only [Act.put, gA, gS, gZ, sA, sZ, sS])
                    refine qv (.bool false) ?_ (hv := fun wv hC => by have q := HEQ.out; go_simp)
                    (try simp only [Act.put, gA, gS, gZ, sA, sZ, sS])
                    refine wpQuiet_nil ?_
                    intro w128 hC
                    have K128 := Lib.hid (show Kx w [] (bdF w w80) w128 from hC)
                    clear hC
                    go_wp2_with fail
                    go_roundw
                    case rel => exact ⟨jj + 1, by have := HJ2.out; omega, by go_num, K128.out⟩
                    case measure => have := HJ2.out; simp [intOf]; omega
          case pos =>
            subst hc0
            refine wp_region_lit ?_
            refine wv (.agg (#[.int .i64 7, .int .i64 3, .int .i64 4, .int .i64 5])) ?_
            (try simp only [Act.put, gA, gS, gZ, sA, sZ, sS])
            refine wv (.int .i64 0) ?_
            (try simp only [Act.put, gA, gS, gZ, sA, sZ, sS])
            refine wv (.int .i64 7) ?_ (hrun := by have q := why_at0; go_simp)
            (try simp only [Act.put, gA, gS, gZ, sA, sZ, sS])
            refine wv (.pointer (some ⟨b63, 1, none⟩)) ?_
            (try simp only [Act.put, gA, gS, gZ, sA, sZ, sS])
            refine kx_set K66.out 5 rfl 3 _ _ 1 (.int .i64 7) rfl (by rfl) rfl rfl (kx_run_set K66.out (i := 5) rfl 3 1 (.int .i64 0) (.int .i64 7) (by rfl) (fun W h1 h2 => by go_simp)) (#[.slice none 0 0, .int .i64 7, .bool false, .bool false]) (by kernel_rfl) ?_
            intro w67 hk
            have K67 := Lib.hid (show Kx w [(b1, plA x (.slice ap np mp) (.slice az ns ms) (.slice (some ⟨g, off, none⟩) nf mf), 29), (b11, t3A i, 35), (b21, t3A j, 35), (b42, fA Y, 42), (b61, #[.slice x1 sl x2, .int .i64 why, .bool lb, .bool full], 48), (b63, #[.slice none 0 0, .int .i64 7, .bool false, .bool false], 48)] ((bdT w j V T lf).and ((bdT w i V T l2).and ((PV).and (bdO w.heap.size 81 19 snC (.slice x1 sl x2) (sent))))) w67 from hk)
            clear hk
            (try simp only [Act.put, gA, gS, gZ, sA, sZ, sS])
            refine wpList_nil ?_
            go_upto_region 19 with fail
            refine wp_region_lit ?_
            refine wv (.int .i64 0) ?_
            (try simp only [Act.put, gA, gS, gZ, sA, sZ, sS])
            refine wv (.bool true) ?_
            (try simp only [Act.put, gA, gS, gZ, sA, sZ, sS])
            refine wpList_nil ?_
            go_upto_region 20 with fail
            refine wp_region_lit ?_
            refine wv (.int .u16 (vd : Nat)) ?_
            (try simp only [Act.put, gA, gS, gZ, sA, sZ, sS])
            refine wv (.pointer (some ⟨b42, 6, none⟩)) ?_
            (try simp only [Act.put, gA, gS, gZ, sA, sZ, sS])
            refine wv (.agg (macA Y.s)) ?_ (hrun := kx_part K67.out 3 rfl 40 _ 6 (macA Y.s).toList rfl rfl (part_of (by kernel_rfl)) Tryd.underlying40 rfl (mcSize))
            (try simp only [Act.put, gA, gS, gZ, sA, sZ, sS])
            refine wv (.agg (kyA vd aq)) ?_ (hrun := run_build_of 63 [(0, .tmp 122), (1, .tmp 124)] rfl _ (kyA vd aq) rfl (built_ky vd aq Y.s HAQ.out.2))
            (try simp only [Act.put, gA, gS, gZ, sA, sZ, sS])
            refine kx_alloc K67.out 63 (#[.int .u16 0, .int .u8 0, .int .u8 0, .int .u8 0, .int .u8 0, .int .u8 0, .int .u8 0]) rfl zKy (by rfl) ?_
            intro b68 w68 hb68 hk
            have K68 := Lib.hid (show Kx w [(b1, plA x (.slice ap np mp) (.slice az ns ms) (.slice (some ⟨g, off, none⟩) nf mf), 29), (b11, t3A i, 35), (b21, t3A j, 35), (b42, fA Y, 42), (b61, #[.slice x1 sl x2, .int .i64 why, .bool lb, .bool full], 48), (b63, #[.slice none 0 0, .int .i64 7, .bool false, .bool false], 48), (b68, #[.int .u16 0, .int .u8 0, .int .u8 0, .int .u8 0, .int .u8 0, .int .u8 0, .int .u8 0], 63)] ((bdT w j V T lf).and ((bdT w i V T l2).and ((PV).and (bdO w.heap.size 81 19 snC (.slice x1 sl x2) (sent))))) w68 from hk)
            clear hk hb68
            (try simp only [Act.put, gA, gS, gZ, sA, sZ, sS])
            refine kx_row K68.out 6 rfl 63 _ _ (kyA vd aq) rfl rfl rfl rfl (kySizeP) (by rfl) (by kernel_rfl) ?_
            intro w69 hk
            have K69 := Lib.hid (show Kx w [(b1, plA x (.slice ap np mp) (.slice az ns ms) (.slice (some ⟨g, off, none⟩) nf mf), 29), (b11, t3A i, 35), (b21, t3A j, 35), (b42, fA Y, 42), (b61, #[.slice x1 sl x2, .int .i64 why, .bool lb, .bool full], 48), (b63, #[.slice none 0 0, .int .i64 7, .bool false, .bool false], 48), (b68, kyA vd aq, 63)] ((bdT w j V T lf).and ((bdT w i V T l2).and ((PV).and (bdO w.heap.size 81 19 snC (.slice x1 sl x2) (sent))))) w69 from hk)
            clear hk
            (try simp only [Act.put, gA, gS, gZ, sA, sZ, sS])
            refine wpList_nil ?_
            go_upto_region 21 with fail
            obtain ⟨was, hwas⟩ : ∃ b, b = (findF (keyN vd aq) lf).2 := ⟨_, rfl⟩
            obtain ⟨fp, hfp⟩ : ∃ b, b = (findF (keyN vd aq) lf).1 := ⟨_, rfl⟩
            have HFI := Lib.hid (show ∀ W, T3 w j V T lf W → Calls Tryd.prog 12 #[.pointer (some ⟨j.b3, 0, none⟩), .agg (kyA vd aq)] W fun e w' => e = .returned (.tuple #[.int .i64 fp, .bool was]) ∧ Below W.heap.size W w' from fun W hT => by rw [hwas, hfp]; exact find_f vd aq HAQ.out.1 hT.tabF)
            have HWAS := Lib.hid hwas
            clear hwas hfp
            refine wp_region_lit ?_
            refine wv (.pointer (some ⟨b21, 2, none⟩)) ?_
            (try simp only [Act.put, gA, gS, gZ, sA, sZ, sS])
            refine wv (.pointer (some ⟨j.b3, 0, none⟩)) ?_ (hrun := by have q : w69.cell? ⟨b21, 2, none⟩ = some (.pointer (some ⟨j.b3, 0, none⟩)) := K69.out.cell (i := 2) rfl (by rfl); go_simp)
            (try simp only [Act.put, gA, gS, gZ, sA, sZ, sS])
            refine wv (.agg (kyA vd aq)) ?_ (hrun := kx_all K69.out 6 rfl 63 _ rfl rfl Tryd.underlying63 rfl (kySizeP))
            (try simp only [Act.put, gA, gS, gZ, sA, sZ, sS])
            refine kx_call K69.out 12 #[.pointer (some ⟨j.b3, 0, none⟩), .agg (kyA vd aq)] (.tuple #[.int .i64 fp, .bool was]) (by rfl) (by go_simp) (HFI.out _ K69.out.a.1) ?_
            intro w70 hk
            have K70 := Lib.hid (show Kx w [(b1, plA x (.slice ap np mp) (.slice az ns ms) (.slice (some ⟨g, off, none⟩) nf mf), 29), (b11, t3A i, 35), (b21, t3A j, 35), (b42, fA Y, 42), (b61, #[.slice x1 sl x2, .int .i64 why, .bool lb, .bool full], 48), (b63, #[.slice none 0 0, .int .i64 7, .bool false, .bool false], 48), (b68, kyA vd aq, 63)] ((bdT w j V T lf).and ((bdT w i V T l2).and ((PV).and (bdO w.heap.size 81 19 snC (.slice x1 sl x2) (sent))))) w70 from hk)
            clear hk
            (try simp only [Act.put, gA, gS, gZ, sA, sZ, sS])
            refine wv (.tuple #[.int .i64 fp, .bool was]) ?_
            (try simp only [Act.put, gA, gS, gZ, sA, sZ, sS])
            refine wv (.int .i64 fp) ?_
            (try simp only [Act.put, gA, gS, gZ, sA, sZ, sS])
            refine wv (.bool was) ?_
            (try simp only [Act.put, gA, gS, gZ, sA, sZ, sS])
            refine wv (.int .i64 fp) ?_
            (try simp only [Act.put, gA, gS, gZ, sA, sZ, sS])
            refine wv (.bool was) ?_
            (try simp only [Act.put, gA, gS, gZ, sA, sZ, sS])
            refine wpList_nil ?_
            go_upto_region 22 with fail
            refine wp_region_lit ?_
            refine wv (.pointer (some ⟨b21, 2, none⟩)) ?_
            (try simp only [Act.put, gA, gS, gZ, sA, sZ, sS])
            refine wv (.pointer (some ⟨j.b3, 0, none⟩)) ?_ (hrun := by have q : w70.cell? ⟨b21, 2, none⟩ = some (.pointer (some ⟨j.b3, 0, none⟩)) := K70.out.cell (i := 2) rfl (by rfl); go_simp)
            (try simp only [Act.put, gA, gS, gZ, sA, sZ, sS])
            refine wv (.agg (kyA vd aq)) ?_ (hrun := kx_all K70.out 6 rfl 63 _ rfl rfl Tryd.underlying63 rfl (kySizeP))
            (try simp only [Act.put, gA, gS, gZ, sA, sZ, sS])
            refine wv (.int .i64 ((kk + 1 : Nat) : Int)) ?_
            (try simp only [Act.put, gA, gS, gZ, sA, sZ, sS])
            refine wl_call (R := fun v wz => ∃ l3 gv fb, LearnR j.mo j.li lf ⟨vd, aq, ((kk + 1 : Nat) : Int), 0⟩ l3 gv fb ∧ v = .tuple #[.agg gv, .bool fb] ∧ Kx w [(b1, plA x (.slice ap np mp) (.slice az ns ms) (.slice (some ⟨g, off, none⟩) nf mf), 29), (b11, t3A i, 35), (b21, t3A j, 35), (b42, fA Y, 42), (b61, #[.slice x1 sl x2, .int .i64 why, .bool lb, .bool full], 48), (b63, #[.slice none 0 0, .int .i64 7, .bool false, .bool false], 48), (b68, kyA vd aq, 63)] ((bdT w j V T l3).and ((bdT w i V T l2).and ((PV).and (bdO w.heap.size 81 19 snC (.slice x1 sl x2) (sent))))) wz) 13 #[.pointer (some ⟨j.b3, 0, none⟩), .agg (kyA vd aq), .int .i64 ((kk + 1 : Nat) : Int)] (by rfl) (by go_simp) ((kx_learn K70.out (HJD.out lf l2) vd aq _ HAQ.out.1 HMO2.out).mono fun e w2 h => by obtain ⟨l3, gv, fb, q1, q2, q3⟩ := h; exact ⟨_, q2, l3, gv, fb, q1, rfl, q3⟩) ?_
            rintro _ w90 ⟨l3, gv, fb, hL, rfl, hk⟩
            rw [show j.mo = i.mo from HMJ.out.trans HMI.out.symm, show j.li = i.li from HLJ.out.trans HLI.out.symm] at hL
            obtain ⟨rfl, rfl, e3, e4⟩ := pass_taken HPR.out HP2.out HDO.out HDZ.out HRN.out HCE.out.symm HAQ.out.1 (by have := HP8.out; have := (List.getElem?_eq_some_iff.1 HP2.out).1; omega) HLI.out HVD.out hL
            rw [← HWAS.out] at e3
            obtain ⟨gd, hgd⟩ : ∃ gd, gd = decide (byteF aq 0 % 2 = 1) := ⟨_, rfl⟩
            rw [← hgd] at e3
            have HLB := Lib.hid e3
            have HE4 := Lib.hid e4
            have HGR := Lib.hid (show ∀ W : World, Calls Tryd.prog 14 #[mac Y.s] W fun e w' => e = .returned (.bool gd) ∧ Below W.heap.size W w' from fun W => by rw [hgd, ← congrFun HAQ.out.2 0]; exact group_any Y.s W HYO.out.s)
            have K90 := Lib.hid (show Kx w [(b1, plA x (.slice ap np mp) (.slice az ns ms) (.slice (some ⟨g, off, none⟩) nf mf), 29), (b11, t3A i, 35), (b21, t3A j, 35), (b42, fA Y, 42), (b61, #[.slice x1 sl x2, .int .i64 why, .bool lb, .bool full], 48), (b63, #[.slice none 0 0, .int .i64 7, .bool false, .bool false], 48), (b68, kyA vd aq, 63)] ((bdT w j V T l2).and ((bdT w i V T l2).and ((PV).and (bdO w.heap.size 81 19 snC (.slice x1 sl x2) (sent))))) w90 from hk)
            clear hk hL e3 e4 hgd
            (try simp only [Act.put, gA, gS, gZ, sA, sZ, sS])
            refine wv (.tuple #[.agg gv, .bool full]) ?_
            (try simp only [Act.put, gA, gS, gZ, sA, sZ, sS])
            refine wv (.agg gv) ?_
            (try simp only [Act.put, gA, gS, gZ, sA, sZ, sS])
            refine wv (.bool full) ?_
            (try simp only [Act.put, gA, gS, gZ, sA, sZ, sS])
            refine wv (.pointer (some ⟨b63, 3, none⟩)) ?_
            (try simp only [Act.put, gA, gS, gZ, sA, sZ, sS])
            refine kx_set K90.out 5 rfl 4 _ _ 3 (.bool full) rfl (by rfl) rfl rfl (kx_run_set K90.out (i := 5) rfl 4 3 (.bool false) (.bool full) (by rfl) (fun W h1 h2 => by go_simp)) (#[.slice none 0 0, .int .i64 7, .bool false, .bool full]) (by kernel_rfl) ?_
            intro w91 hk
            have K91 := Lib.hid (show Kx w [(b1, plA x (.slice ap np mp) (.slice az ns ms) (.slice (some ⟨g, off, none⟩) nf mf), 29), (b11, t3A i, 35), (b21, t3A j, 35), (b42, fA Y, 42), (b61, #[.slice x1 sl x2, .int .i64 why, .bool lb, .bool full], 48), (b63, #[.slice none 0 0, .int .i64 7, .bool false, .bool full], 48), (b68, kyA vd aq, 63)] ((bdT w j V T l2).and ((bdT w i V T l2).and ((PV).and (bdO w.heap.size 81 19 snC (.slice x1 sl x2) (sent))))) w91 from hk)
            clear hk
            (try simp only [Act.put, gA, gS, gZ, sA, sZ, sS])
            refine wpList_nil ?_
            go_upto_region 23 with fail
            have hwc : was = true ∨ was = false := by cases was <;> simp
            rcases hwc with rfl | rfl
            case' inl =>
              have HLQ := Lib.hid (show lb = false from HLB.out)
              refine wp_region_lit ?_
              refine wv (.bool true) ?_
              (try simp only [Act.put, gA, gS, gZ, sA, sZ, sS])
              refine wv (.bool false) ?_
              (try simp only [Act.put, gA, gS, gZ, sA, sZ, sS])
              refine wv (.bool false) ?_
              (try simp only [Act.put, gA, gS, gZ, sA, sZ, sS])
              refine wpList_skip (by kernel_rfl) ?_
              (try simp only [Act.put, gA, gS, gZ, sA, sZ, sS])
              refine wpList_skip (by kernel_rfl) ?_
              (try simp only [Act.put, gA, gS, gZ, sA, sZ, sS])
              refine wpList_skip (by kernel_rfl) ?_
              (try simp only [Act.put, gA, gS, gZ, sA, sZ, sS])
              refine wpList_skip (by kernel_rfl) ?_
              (try simp only [Act.put, gA, gS, gZ, sA, sZ, sS])
              refine wv (.bool lb) ?_ (hrun := by have q := HLQ.out; rw [q]; go_simp)
              (try simp only [Act.put, gA, gS, gZ, sA, sZ, sS])
              refine wv (.pointer (some ⟨b63, 2, none⟩)) ?_
              (try simp only [Act.put, gA, gS, gZ, sA, sZ, sS])
              refine kx_set K91.out 5 rfl 4 _ _ 2 (.bool lb) rfl (by rfl) rfl rfl (kx_run_set K91.out (i := 5) rfl 4 2 (.bool false) (.bool lb) (by rfl) (fun W h1 h2 => by go_simp)) (#[.slice none 0 0, .int .i64 7, .bool lb, .bool full]) (by kernel_rfl) ?_
              intro w92 hk
              have K92 := Lib.hid (show Kx w [(b1, plA x (.slice ap np mp) (.slice az ns ms) (.slice (some ⟨g, off, none⟩) nf mf), 29), (b11, t3A i, 35), (b21, t3A j, 35), (b42, fA Y, 42), (b61, #[.slice x1 sl x2, .int .i64 why, .bool lb, .bool full], 48), (b63, #[.slice none 0 0, .int .i64 7, .bool lb, .bool full], 48), (b68, kyA vd aq, 63)] ((bdT w j V T l2).and ((bdT w i V T l2).and ((PV).and (bdO w.heap.size 81 19 snC (.slice x1 sl x2) (sent))))) w92 from hk)
              clear hk
              (try simp only [Act.put, gA, gS, gZ, sA, sZ, sS])
              refine wpList_nil ?_
              obtain ⟨wz, hwz⟩ : ∃ wz, wz = w92 := ⟨_, rfl⟩
              have KZ := Lib.hid (show Kx w [(b1, plA x (.slice ap np mp) (.slice az ns ms) (.slice (some ⟨g, off, none⟩) nf mf), 29), (b11, t3A i, 35), (b21, t3A j, 35), (b42, fA Y, 42), (b61, #[.slice x1 sl x2, .int .i64 why, .bool lb, .bool full], 48), (b63, #[.slice none 0 0, .int .i64 7, .bool lb, .bool full], 48), (b68, kyA vd aq, 63)] ((bdT w j V T l2).and ((bdT w i V T l2).and ((PV).and (bdO w.heap.size 81 19 snC (.slice x1 sl x2) (sent))))) wz by rw [hwz]; exact K92.out)
              rw [← hwz]
              clear hwz
              clear HLQ HLB HWAS
            case' inr =>
              have HLQ := Lib.hid (show lb = !gd from HLB.out)
              refine wp_region_lit ?_
              refine wv (.bool false) ?_
              (try simp only [Act.put, gA, gS, gZ, sA, sZ, sS])
              refine wv (.bool true) ?_
              (try simp only [Act.put, gA, gS, gZ, sA, sZ, sS])
              refine wv (.bool true) ?_
              (try simp only [Act.put, gA, gS, gZ, sA, sZ, sS])
              refine wv (.pointer (some ⟨b42, 6, none⟩)) ?_
              (try simp only [Act.put, gA, gS, gZ, sA, sZ, sS])
              refine wv (.agg (macA Y.s)) ?_ (hrun := kx_part K91.out 3 rfl 40 _ 6 (macA Y.s).toList rfl rfl (part_of (by kernel_rfl)) Tryd.underlying40 rfl (mcSize))
              (try simp only [Act.put, gA, gS, gZ, sA, sZ, sS])
              refine kx_call K91.out 14 #[.agg (macA Y.s)] (.bool gd) (by rfl) (by go_simp) (HGR.out _) ?_
              intro w92 hk
              have K92 := Lib.hid (show Kx w [(b1, plA x (.slice ap np mp) (.slice az ns ms) (.slice (some ⟨g, off, none⟩) nf mf), 29), (b11, t3A i, 35), (b21, t3A j, 35), (b42, fA Y, 42), (b61, #[.slice x1 sl x2, .int .i64 why, .bool lb, .bool full], 48), (b63, #[.slice none 0 0, .int .i64 7, .bool false, .bool full], 48), (b68, kyA vd aq, 63)] ((bdT w j V T l2).and ((bdT w i V T l2).and ((PV).and (bdO w.heap.size 81 19 snC (.slice x1 sl x2) (sent))))) w92 from hk)
              clear hk
              (try simp only [Act.put, gA, gS, gZ, sA, sZ, sS])
              refine wv (.bool lb) ?_ (hrun := by have q := HLQ.out; rw [q]; go_simp)
              (try simp only [Act.put, gA, gS, gZ, sA, sZ, sS])
              refine wv (.bool lb) ?_ (hrun := run_pick_yes (.tmp 144) (.tmp 148) (.const (.bool false)) _ rfl rfl rfl)
              (try simp only [Act.put, gA, gS, gZ, sA, sZ, sS])
              refine wv (.pointer (some ⟨b63, 2, none⟩)) ?_
              (try simp only [Act.put, gA, gS, gZ, sA, sZ, sS])
              refine kx_set K92.out 5 rfl 4 _ _ 2 (.bool lb) rfl (by rfl) rfl rfl (kx_run_set K92.out (i := 5) rfl 4 2 (.bool false) (.bool lb) (by rfl) (fun W h1 h2 => by go_simp)) (#[.slice none 0 0, .int .i64 7, .bool lb, .bool full]) (by kernel_rfl) ?_
              intro w93 hk
              have K93 := Lib.hid (show Kx w [(b1, plA x (.slice ap np mp) (.slice az ns ms) (.slice (some ⟨g, off, none⟩) nf mf), 29), (b11, t3A i, 35), (b21, t3A j, 35), (b42, fA Y, 42), (b61, #[.slice x1 sl x2, .int .i64 why, .bool lb, .bool full], 48), (b63, #[.slice none 0 0, .int .i64 7, .bool lb, .bool full], 48), (b68, kyA vd aq, 63)] ((bdT w j V T l2).and ((bdT w i V T l2).and ((PV).and (bdO w.heap.size 81 19 snC (.slice x1 sl x2) (sent))))) w93 from hk)
              clear hk
              (try simp only [Act.put, gA, gS, gZ, sA, sZ, sS])
              refine wpList_nil ?_
              obtain ⟨wz, hwz⟩ : ∃ wz, wz = w93 := ⟨_, rfl⟩
              have KZ := Lib.hid (show Kx w [(b1, plA x (.slice ap np mp) (.slice az ns ms) (.slice (some ⟨g, off, none⟩) nf mf), 29), (b11, t3A i, 35), (b21, t3A j, 35), (b42, fA Y, 42), (b61, #[.slice x1 sl x2, .int .i64 why, .bool lb, .bool full], 48), (b63, #[.slice none 0 0, .int .i64 7, .bool lb, .bool full], 48), (b68, kyA vd aq, 63)] ((bdT w j V T l2).and ((bdT w i V T l2).and ((PV).and (bdO w.heap.size 81 19 snC (.slice x1 sl x2) (sent))))) wz by rw [hwz]; exact K93.out)
              rw [← hwz]
              clear hwz
              clear HLQ HLB HWAS
            all_goals as_aux_lemma =>
              go_upto_region 24 with fail
              rcases HE4.out with ⟨c1, rfl, rfl⟩ | ⟨c1, rfl, hse⟩
              case inl =>
                have hs0 : sl = 0 := HSL.out
                subst hs0
                have HC1 := Lib.hid c1
                clear c1
                refine wp_region_lit ?_
                refine wv (.slice (some ⟨gp, 0, none⟩) n m) ?_
                (try simp only [Act.put, gA, gS, gZ, sA, sZ, sS])
                refine wv (.int .i64 ((kk + 1 : Nat) : Int)) ?_
                (try simp only [Act.put, gA, gS, gZ, sA, sZ, sS])
                refine wv (.int .i64 (kk : Nat)) ?_ (hrun := by go_simp <;> exact wr64 d6 d7)
                (try simp only [Act.put, gA, gS, gZ, sA, sZ, sS])
                refine wv (.pointer (some ⟨gp, kk * 21, none⟩)) ?_
                (try simp only [Act.put, gA, gS, gZ, sA, sZ, sS])
                refine wv (.pointer (some ⟨gp, kk * 21 + 11, none⟩)) ?_
                (try simp only [Act.put, gA, gS, gZ, sA, sZ, sS])
                refine wv (.int .i64 p.p11) ?_ (hrun := by have q : wz.cell? ⟨gp, kk * 21 + 11, none⟩ = some (.int .i64 p.p11) := range_cell (arr := poA p) (o := 11) (HPT.out _ kk _ KZ.out.a.2.2.1 HP2.out) (by rfl); go_simp)
                (try simp only [Act.put, gA, gS, gZ, sA, sZ, sS])
                refine wv (.bool true) ?_ (hrun := by have q := HC1.out; go_simp)
                (try simp only [Act.put, gA, gS, gZ, sA, sZ, sS])
                refine wpList_nil ?_
                go_upto_region 25 with fail
                refine wp_region_lit ?_
                refine wv (.pointer (some ⟨b63, 1, none⟩)) ?_
                (try simp only [Act.put, gA, gS, gZ, sA, sZ, sS])
                refine kx_set KZ.out 5 rfl 3 _ _ 1 (.int .i64 6) rfl (by rfl) rfl rfl (kx_run_set KZ.out (i := 5) rfl 3 1 (.int .i64 7) (.int .i64 6) (by rfl) (fun W h1 h2 => by go_simp)) (#[.slice none 0 0, .int .i64 6, .bool lb, .bool full]) (by kernel_rfl) ?_
                intro w101 hk
                have K101 := Lib.hid (show Kx w [(b1, plA x (.slice ap np mp) (.slice az ns ms) (.slice (some ⟨g, off, none⟩) nf mf), 29), (b11, t3A i, 35), (b21, t3A j, 35), (b42, fA Y, 42), (b61, #[.slice x1 0 x2, .int .i64 6, .bool lb, .bool full], 48), (b63, #[.slice none 0 0, .int .i64 6, .bool lb, .bool full], 48), (b68, kyA vd aq, 63)] ((bdT w j V T l2).and ((bdT w i V T l2).and ((PV).and (bdO w.heap.size 81 19 snC (.slice x1 0 x2) ([]))))) w101 from hk)
                clear hk
                (try simp only [Act.put, gA, gS, gZ, sA, sZ, sS])
                refine wpList_nil ?_
                go_upto_region 40 with fail
                refine wp_region_lit ?_
                refine wv (.pointer (some ⟨b61, 1, none⟩)) ?_
                (try simp only [Act.put, gA, gS, gZ, sA, sZ, sS])
                refine wv (.int .i64 6) ?_ (hrun := by have q : w101.cell? ⟨b61, 1, none⟩ = some (.int .i64 6) := K101.out.cell (i := 4) rfl (by rfl); go_simp)
                (try simp only [Act.put, gA, gS, gZ, sA, sZ, sS])
                refine wv (.pointer (some ⟨b63, 1, none⟩)) ?_
                (try simp only [Act.put, gA, gS, gZ, sA, sZ, sS])
                refine wv (.int .i64 6) ?_ (hrun := by have q : w101.cell? ⟨b63, 1, none⟩ = some (.int .i64 6) := K101.out.cell (i := 5) rfl (by rfl); go_simp)
                (try simp only [Act.put, gA, gS, gZ, sA, sZ, sS])
                refine wv (.bool false) ?_
                (try simp only [Act.put, gA, gS, gZ, sA, sZ, sS])
                refine wv (.bool false) ?_
                (try simp only [Act.put, gA, gS, gZ, sA, sZ, sS])
                refine wv (.pointer (some ⟨b61, 2, none⟩)) ?_
                (try simp only [Act.put, gA, gS, gZ, sA, sZ, sS])
                refine wv (.bool lb) ?_ (hrun := by have q : w101.cell? ⟨b61, 2, none⟩ = some (.bool lb) := K101.out.cell (i := 4) rfl (by rfl); go_simp)
                (try simp only [Act.put, gA, gS, gZ, sA, sZ, sS])
                refine wv (.pointer (some ⟨b63, 2, none⟩)) ?_
                (try simp only [Act.put, gA, gS, gZ, sA, sZ, sS])
                refine wv (.bool lb) ?_ (hrun := by have q : w101.cell? ⟨b63, 2, none⟩ = some (.bool lb) := K101.out.cell (i := 5) rfl (by rfl); go_simp)
                (try simp only [Act.put, gA, gS, gZ, sA, sZ, sS])
                refine wv (.bool false) ?_
                (try simp only [Act.put, gA, gS, gZ, sA, sZ, sS])
                refine wv (.bool false) ?_ (hrun := run_pick_no (.tmp 226) (.const (.bool true)) (.tmp 231) _ rfl rfl rfl)
                (try simp only [Act.put, gA, gS, gZ, sA, sZ, sS])
                refine wv (.bool false) ?_
                (try simp only [Act.put, gA, gS, gZ, sA, sZ, sS])
                refine wv (.pointer (some ⟨b61, 3, none⟩)) ?_
                (try simp only [Act.put, gA, gS, gZ, sA, sZ, sS])
                refine wv (.bool full) ?_ (hrun := by have q : w101.cell? ⟨b61, 3, none⟩ = some (.bool full) := K101.out.cell (i := 4) rfl (by rfl); go_simp)
                (try simp only [Act.put, gA, gS, gZ, sA, sZ, sS])
                refine wv (.pointer (some ⟨b63, 3, none⟩)) ?_
                (try simp only [Act.put, gA, gS, gZ, sA, sZ, sS])
                refine wv (.bool full) ?_ (hrun := by have q : w101.cell? ⟨b63, 3, none⟩ = some (.bool full) := K101.out.cell (i := 5) rfl (by rfl); go_simp)
                (try simp only [Act.put, gA, gS, gZ, sA, sZ, sS])
                refine wv (.bool false) ?_
                (try simp only [Act.put, gA, gS, gZ, sA, sZ, sS])
                refine wv (.bool false) ?_ (hrun := run_pick_no (.tmp 233) (.const (.bool true)) (.tmp 238) _ rfl rfl rfl)
                (try simp only [Act.put, gA, gS, gZ, sA, sZ, sS])
                refine wv (.bool false) ?_
                (try simp only [Act.put, gA, gS, gZ, sA, sZ, sS])
                refine wv (.pointer (some ⟨b61, 0, none⟩)) ?_
                (try simp only [Act.put, gA, gS, gZ, sA, sZ, sS])
                refine wv (.slice x1 0 x2) ?_ (hrun := by have q : w101.cell? ⟨b61, 0, none⟩ = some (.slice x1 0 x2) := K101.out.cell (i := 4) rfl (by rfl); go_simp)
                (try simp only [Act.put, gA, gS, gZ, sA, sZ, sS])
                refine wv (.int .i64 0) ?_
                (try simp only [Act.put, gA, gS, gZ, sA, sZ, sS])
                refine wv (.pointer (some ⟨b63, 0, none⟩)) ?_
                (try simp only [Act.put, gA, gS, gZ, sA, sZ, sS])
                refine wv (.slice none 0 0) ?_ (hrun := by have q : w101.cell? ⟨b63, 0, none⟩ = some (.slice none 0 0) := K101.out.cell (i := 5) rfl (by rfl); go_simp)
                (try simp only [Act.put, gA, gS, gZ, sA, sZ, sS])
                refine wv (.int .i64 0) ?_
                (try simp only [Act.put, gA, gS, gZ, sA, sZ, sS])
                refine wv (.bool false) ?_
                (try simp only [Act.put, gA, gS, gZ, sA, sZ, sS])
                refine wv (.bool false) ?_ (hrun := run_pick_no (.tmp 240) (.const (.bool true)) (.tmp 247) _ rfl rfl rfl)
                (try simp only [Act.put, gA, gS, gZ, sA, sZ, sS])
                refine wpList_nil ?_
                go_upto_region 42 with fail
                refine wp_region_lit ?_
                refine wv (.int .i64 0) ?_
                (try simp only [Act.put, gA, gS, gZ, sA, sZ, sS])
                refine wpList_nil ?_
                go_upto_region 43 with fail
                go_loopw [25] (fun q wr => q = .int .i64 0 ∧ Kx w [(b1, plA x (.slice ap np mp) (.slice az ns ms) (.slice (some ⟨g, off, none⟩) nf mf), 29), (b11, t3A i, 35), (b21, t3A j, 35), (b42, fA Y, 42), (b61, #[.slice x1 0 x2, .int .i64 6, .bool lb, .bool full], 48), (b63, #[.slice none 0 0, .int .i64 6, .bool lb, .bool full], 48), (b68, kyA vd aq, 63)] ((bdT w j V T l2).and ((bdT w i V T l2).and ((PV).and (bdO w.heap.size 81 19 snC (.slice x1 0 x2) ([]))))) wr) (fun _ _ => 0)
                case atStart => exact ⟨rfl, K101.out⟩
                case round =>
                  obtain ⟨rfl, hK⟩ := hrel
                  have KQ := Lib.hid hK
                  clear hK
                  go_upto_region 43 with fail
                  refine wp_region_lit ?_
                  refine wv (.int .i64 0) ?_
                  (try simp only [Act.put, gA, gS, gZ, sA, sZ, sS])
                  refine wv (.pointer (some ⟨b61, 0, none⟩)) ?_
                  (try simp only [Act.put, gA, gS, gZ, sA, sZ, sS])
                  refine wv (.slice x1 0 x2) ?_ (hrun := by have q : wr.cell? ⟨b61, 0, none⟩ = some (.slice x1 0 x2) := KQ.out.cell (i := 4) rfl (by rfl); go_simp)
                  (try simp only [Act.put, gA, gS, gZ, sA, sZ, sS])
                  refine wv (.int .i64 0) ?_
                  (try simp only [Act.put, gA, gS, gZ, sA, sZ, sS])
                  refine wv (.bool false) ?_
                  (try simp only [Act.put, gA, gS, gZ, sA, sZ, sS])
                  refine wpList_nil ?_
                  go_upto_region 47 with fail
                  have HLL := Lib.hid (show l2.length ≤ 100 by have := HF1.out; have := HKK.out; omega)
                  obtain ⟨nl, hnl⟩ : ∃ nl, nl = l2.length := ⟨_, rfl⟩
                  have HNL := Lib.hid hnl
                  have i7 : (nl : Int) ≤ 100 := by have := HLL.out; omega
                  clear hnl
                  refine rk (fun (s : (Option Addr × Nat) × (Option Addr × Nat)) => [.pointer (some ⟨b11, 2, none⟩), .pointer (some ⟨i.b3, 0, none⟩), .slice s.1.1 nl s.1.2, .pointer (some ⟨b21, 2, none⟩), .pointer (some ⟨j.b3, 0, none⟩), .slice s.2.1 nl s.2.2, .slice s.1.1 nl s.1.2, .slice s.2.1 nl s.2.2]) (fun s Lx w' => ((Lx 2 = true → Src w' enC (.slice s.1.1 nl s.1.2) l2) ∧ (Lx 5 = true → Src w' enC (.slice s.2.1 nl s.2.2) l2) ∧ Kx w [(b1, plA x (.slice ap np mp) (.slice az ns ms) (.slice (some ⟨g, off, none⟩) nf mf), 29), (b11, t3A i, 35), (b21, t3A j, 35), (b42, fA Y, 42), (b61, #[.slice x1 0 x2, .int .i64 6, .bool lb, .bool full], 48), (b63, #[.slice none 0 0, .int .i64 6, .bool lb, .bool full], 48), (b68, kyA vd aq, 63)] ((bdT w j V T l2).and ((bdT w i V T l2).and ((PV).and (bdO w.heap.size 81 19 snC (.slice x1 0 x2) ([]))))) w')) (((none, 0), (none, 0))) [] [(1, fun s => ⟨b11, 2, none⟩), (4, fun s => ⟨b21, 2, none⟩)] [(2, fun s => [(268, .pointer (some ⟨i.b3, 0, none⟩))]), (5, fun s => [(271, .pointer (some ⟨j.b3, 0, none⟩))])] [2, 5] ?_ ?_ ?_ ?_ ?_
                  · exact ⟨(fun h => by cases h), (fun h => by cases h), KQ.out.drew⟩
                  · intro s L w' h; exact ⟨fun _ => Kx.cell (i := 1) h.2.2 rfl (by rfl), fun _ => Kx.cell (i := 2) h.2.2 rfl (by rfl), trivial⟩
                  · intro s L1 L2 w' e h; (try dsimp only at h ⊢); rw [← e 2 (by simp), ← e 5 (by simp)]; exact h
                  · refine ⟨?_, ?_, trivial⟩ <;> (rintro s Lx w' hw hL haft hdc ρ hc hf hG hs o ho; cases ho; try dsimp only [seen] at hw hs)
                    · obtain ⟨e268, -⟩ := hs
                      refine stepW_call (f := 20) (args := #[.pointer (some ⟨i.b3, 0, none⟩)]) (by go_simp) ((list22 (T3.tabF (w0 := w) (show T3 w i V T l2 w' from hw.2.2.a.2.1)) HLL.out).mono ?_)
                      rintro e w9 ⟨v, q1, q2, q3⟩
                      obtain ⟨A9, c9, hv9, -⟩ := src_rows enC_len (by decide) q2
                      rw [← HNL.out] at hv9
                      subst hv9
                      have h9 : Lx 6 = false := by cases cq : Lx 6; rfl; exact absurd (hdc 6 cq 2 (by decide)) (by rw [hL]; decide)
                      exact ⟨_, q1, ((A9, c9), s.2), vs_two (i := 2) (k := 6) rfl hL h9, rfl, fun _ => q2, fun h => src_next (hw.2.1 h) q3, hw.2.2.next q3⟩
                    · obtain ⟨e271, -⟩ := hs
                      refine stepW_call (f := 20) (args := #[.pointer (some ⟨j.b3, 0, none⟩)]) (by go_simp) ((list22 (T3.tabF (w0 := w) (show T3 w j V T l2 w' from hw.2.2.a.1)) HLL.out).mono ?_)
                      rintro e w9 ⟨v, q1, q2, q3⟩
                      obtain ⟨A9, c9, hv9, -⟩ := src_rows enC_len (by decide) q2
                      rw [← HNL.out] at hv9
                      subst hv9
                      have h9 : Lx 7 = false := by cases cq : Lx 7; rfl; exact absurd (hdc 7 cq 5 (by decide)) (by rw [hL]; decide)
                      exact ⟨_, q1, (s.1, (A9, c9)), vs_two (i := 5) (k := 7) rfl hL h9, rfl, fun h => src_next (hw.1 h) q3, fun _ => q2, hw.2.2.next q3⟩
                  · rintro ⟨⟨za, zc⟩, ya, yc⟩ Lx w80 hw hall
                    obtain ⟨h1, h2, h3⟩ := hw
                    have S1 := Lib.hid (h1 (hall 2 (by decide)))
                    have S2 := Lib.hid (h2 (hall 5 (by decide)))
                    have K80 := Lib.hid (show Kx w [(b1, plA x (.slice ap np mp) (.slice az ns ms) (.slice (some ⟨g, off, none⟩) nf mf), 29), (b11, t3A i, 35), (b21, t3A j, 35), (b42, fA Y, 42), (b61, #[.slice x1 0 x2, .int .i64 6, .bool lb, .bool full], 48), (b63, #[.slice none 0 0, .int .i64 6, .bool lb, .bool full], 48), (b68, kyA vd aq, 63)] ((bdT w j V T l2).and ((bdT w i V T l2).and ((PV).and (bdO w.heap.size 81 19 snC (.slice x1 0 x2) ([]))))) w80 from h3)
                    clear h1 h2 h3 hall
                    simp only [List.toList_toArray, putsZ_some, putsZ_none, putsZ_nil, List.setIfInBounds_toArray, List.set_cons_zero, List.set_cons_succ]
                    go_upto_region 48 with fail
                    refine wp_region_lit ?_
                    refine wv (.slice za nl zc) ?_
                    (try simp only [Act.put, gA, gS, gZ, sA, sZ, sS])
                    refine wv (.int .i64 (nl : Nat)) ?_
                    (try simp only [Act.put, gA, gS, gZ, sA, sZ, sS])
                    refine wv (.slice ya nl yc) ?_
                    (try simp only [Act.put, gA, gS, gZ, sA, sZ, sS])
                    refine wv (.int .i64 (nl : Nat)) ?_
                    (try simp only [Act.put, gA, gS, gZ, sA, sZ, sS])
                    refine wv (.bool false) ?_
                    (try simp only [Act.put, gA, gS, gZ, sA, sZ, sS])
                    refine wpList_nil ?_
                    go_upto_region 50 with fail
                    refine wp_region_lit ?_
                    refine wv (.int .i64 0) ?_
                    (try simp only [Act.put, gA, gS, gZ, sA, sZ, sS])
                    refine wpList_nil ?_
                    go_upto_region 51 with fail
                    go_loopw [28] (fun q wr => ∃ jj : Nat, jj ≤ nl ∧ q = .int .i64 jj ∧ Kx w [] (bdF w w80) wr) (fun q _ => nl - (intOf q).toNat)
                    case atStart => exact ⟨0, Nat.zero_le _, rfl, K80.out.freeze⟩
                    case round =>
                      obtain ⟨jj, hj, rfl, hK⟩ := hrel
                      have KF := Lib.hid hK
                      have HB8 := Lib.hid (K80.out.frozen hK)
                      have HJ := Lib.hid hj
                      clear hK hj
                      have e1 : (0 : Int) ≤ (jj : Int) := by omega
                      by_cases c0 : jj < nl
                      case neg =>
                        have c1 : nl ≤ jj := by omega
                        clear c0
                        go_upto_region 51 with fail
                        refine wp_region_lit ?_
                        refine wv (.int .i64 (jj : Nat)) ?_
                        (try simp only [Act.put, gA, gS, gZ, sA, sZ, sS])
                        refine wv (.slice za nl zc) ?_
                        (try simp only [Act.put, gA, gS, gZ, sA, sZ, sS])
                        refine wv (.int .i64 (nl : Nat)) ?_
                        (try simp only [Act.put, gA, gS, gZ, sA, sZ, sS])
                        refine wv (.bool false) ?_ (hrun := by go_simp <;> omega)
                        (try simp only [Act.put, gA, gS, gZ, sA, sZ, sS])
                        refine wpList_nil ?_
                        go_wp2_with fail
                        go_roundw
                        case rel => exact ⟨k + 1, l2, by have := HLT.out; omega, by have := HLT.out; omega, by have := HKK.out; have := HF1.out; omega, by go_num, by have q := (Kx.left (l := [(b1, plA x (.slice ap np mp) (.slice az ns ms) (.slice (some ⟨g, off, none⟩) nf mf), 29), (b11, t3A i, 35), (b21, t3A j, 35)]) (r := [(b42, fA Y, 42), (b61, #[.slice x1 0 x2, .int .i64 6, .bool lb, .bool full], 48), (b63, #[.slice none 0 0, .int .i64 6, .bool lb, .bool full], 48), (b68, kyA vd aq, 63)]) (K80.out.next HB8.out)).turn (A' := (bdT w i V T l2).and ((PV).and (bdT w j V T l2))) (fun h => ⟨h.2.1, h.2.2.1, h.1⟩) (fun k q => by rcases q with q | q | q; exact .inr (.inl q); exact .inr (.inr (.inl q)); exact .inl q); rw [HPV.out] at q; exact q⟩
                        case measure => have := HLT.out; simp [intOf]; omega
                      case pos => as_aux_lemma =>
                        have c1 : (jj : Int) < (nl : Int) := by omega
                        obtain ⟨s, hs⟩ : ∃ s, l2[jj]? = some s := ⟨_, List.getElem?_eq_getElem (by rw [← HNL.out]; exact c0)⟩
                        obtain ⟨A1, cc1, e2, r1⟩ := src_rows enC_len (by decide) S1.out
                        obtain ⟨A2, cc2, e3, r2⟩ := src_rows enC_len (by decide) S2.out
                        injection e2 with e2 e4 e5
                        injection e3 with e3 e6 e7
                        clear e4 e5 e6 e7
                        subst e2 e3
                        obtain ⟨g1, o1, rfl, r3⟩ := rows_range r1 hs
                        obtain ⟨g2, o2, rfl, r4⟩ := rows_range r2 hs
                        have HR1 := Lib.hid r3
                        have HR2 := Lib.hid r4
                        have HEQ := Lib.hid (equal_en s)
                        have HJ2 := Lib.hid c0
                        clear hs r1 r2 r3 r4 c0
                        go_upto_region 51 with fail
                        refine wp_region_lit ?_
                        refine wv (.int .i64 (jj : Nat)) ?_
                        (try simp only [Act.put, gA, gS, gZ, sA, sZ, sS])
                        refine wv (.slice (some ⟨g1, o1, none⟩) nl zc) ?_
                        (try simp only [Act.put, gA, gS, gZ, sA, sZ, sS])
                        refine wv (.int .i64 (nl : Nat)) ?_
                        (try simp only [Act.put, gA, gS, gZ, sA, sZ, sS])
                        refine wv (.bool true) ?_
                        (try simp only [Act.put, gA, gS, gZ, sA, sZ, sS])
                        refine wpList_nil ?_
                        go_upto_region 53 with fail
                        refine wp_region_quiet (C := fun W => Kx w [] (bdF w w80) W) (by kernel_rfl) (by kernel_rfl) KF.out.drew ?_
                        refine qv (.slice (some ⟨g1, o1, none⟩) nl zc) ?_
                        (try simp only [Act.put, gA, gS, gZ, sA, sZ, sS])
                        refine qv (.int .i64 (jj : Nat)) ?_
                        (try simp only [Act.put, gA, gS, gZ, sA, sZ, sS])
                        refine qv (.pointer (some ⟨g1, o1 + jj * 9, none⟩)) ?_
                        (try simp only [Act.put, gA, gS, gZ, sA, sZ, sS])
                        refine qv (.agg (enA s)) ?_ (hv := fun wv hC => run_loadRange 67 _ rfl g1 (o1 + jj * 9) rfl (enA s) _ (HR1.out _ (K80.out.frozen (Lib.hid hC).out)) Tryd.underlying67 rfl (enSz))
                        (try simp only [Act.put, gA, gS, gZ, sA, sZ, sS])
                        refine qv (.slice (some ⟨g2, o2, none⟩) nl yc) ?_
                        (try simp only [Act.put, gA, gS, gZ, sA, sZ, sS])
                        refine qv (.int .i64 (jj : Nat)) ?_
                        (try simp only [Act.put, gA, gS, gZ, sA, sZ, sS])
                        refine qv (.pointer (some ⟨g2, o2 + jj * 9, none⟩)) ?_
                        (try simp only [Act.put, gA, gS, gZ, sA, sZ, sS])
                        refine qv (.agg (enA s)) ?_ (hv := fun wv hC => run_loadRange 67 _ rfl g2 (o2 + jj * 9) rfl (enA s) _ (HR2.out _ (K80.out.frozen (Lib.hid hC).out)) Tryd.underlying67 rfl (enSz))
                        (try simp only [Act.put, gA, gS, gZ, sA, sZ, sS])
                        refine qv (.bool false) ?_ (hv := fun wv hC => by have q := HEQ.out; go_simp)
                        (try simp only [Act.put, gA, gS, gZ, sA, sZ, sS])
                        refine wpQuiet_nil ?_
                        intro w162 hC
                        have K162 := Lib.hid (show Kx w [] (bdF w w80) w162 from hC)
                        clear hC
                        go_wp2_with fail
                        go_roundw
                        case rel => exact ⟨jj + 1, by have := HJ2.out; omega, by go_num, K162.out⟩
                        case measure => have := HJ2.out; simp [intOf]; omega
              case inr =>
                have HSE := Lib.hid hse
                have HC1 := Lib.hid (show decide (p.p11 = 1) = false from decide_eq_false c1)
                have HC2 := Lib.hid (show (p.p11 == 1) = false by simpa using c1)
                clear hse c1
                refine wp_region_lit ?_
                refine wv (.slice (some ⟨gp, 0, none⟩) n m) ?_
                (try simp only [Act.put, gA, gS, gZ, sA, sZ, sS])
                refine wv (.int .i64 ((kk + 1 : Nat) : Int)) ?_
                (try simp only [Act.put, gA, gS, gZ, sA, sZ, sS])
                refine wv (.int .i64 (kk : Nat)) ?_ (hrun := by go_simp <;> exact wr64 d6 d7)
                (try simp only [Act.put, gA, gS, gZ, sA, sZ, sS])
                refine wv (.pointer (some ⟨gp, kk * 21, none⟩)) ?_
                (try simp only [Act.put, gA, gS, gZ, sA, sZ, sS])
                refine wv (.pointer (some ⟨gp, kk * 21 + 11, none⟩)) ?_
                (try simp only [Act.put, gA, gS, gZ, sA, sZ, sS])
                refine wv (.int .i64 p.p11) ?_ (hrun := by have q : wz.cell? ⟨gp, kk * 21 + 11, none⟩ = some (.int .i64 p.p11) := range_cell (arr := poA p) (o := 11) (HPT.out _ kk _ KZ.out.a.2.2.1 HP2.out) (by rfl); go_simp)
                (try simp only [Act.put, gA, gS, gZ, sA, sZ, sS])
                refine wv (.bool false) ?_ (hrun := by have q := HC1.out; have q2 := HC2.out; go_simp)
                (try simp only [Act.put, gA, gS, gZ, sA, sZ, sS])
                refine wpList_nil ?_
                go_upto_region 26 with fail
                refine wp_region_lit ?_
                refine wv (.int .u32 0) ?_
                (try simp only [Act.put, gA, gS, gZ, sA, sZ, sS])
                refine wpList_nil ?_
                go_upto_region 27 with fail
                refine wp_region_lit ?_
                refine wv (.int .i64 0) ?_
                (try simp only [Act.put, gA, gS, gZ, sA, sZ, sS])
                refine wpList_nil ?_
                go_upto_region 28 with fail
                go_loopw [17, 18] (fun s9 i9 wr => ∃ kq : Nat, kq ≤ n ∧ s9 = .int .u32 (openM ps kq : Nat) ∧ i9 = .int .i64 kq ∧ Kx w [(b1, plA x (.slice ap np mp) (.slice az ns ms) (.slice (some ⟨g, off, none⟩) nf mf), 29), (b11, t3A i, 35), (b21, t3A j, 35), (b42, fA Y, 42), (b61, #[.slice x1 sl x2, .int .i64 7, .bool lb, .bool full], 48), (b63, #[.slice none 0 0, .int .i64 7, .bool lb, .bool full], 48), (b68, kyA vd aq, 63)] ((bdT w j V T l2).and ((bdT w i V T l2).and ((PV).and (bdO w.heap.size 81 19 snC (.slice x1 sl x2) (sent))))) wr) (fun _ i9 _ => n - (intOf i9).toNat)
                case atStart => exact ⟨0, Nat.zero_le _, rfl, rfl, KZ.out⟩
                case round =>
                  obtain ⟨kq, hkq, rfl, rfl, hK⟩ := hrel
                  have KQ := Lib.hid hK
                  have HKQ := Lib.hid hkq
                  have HOM := Lib.hid (openM_lt ps kq)
                  have c2 : (0 : Int) ≤ (kq : Int) := by omega
                  clear hK hkq
                  by_cases hlt : kq < n
                  case pos => as_aux_lemma =>
                    obtain ⟨py, hp⟩ : ∃ py, ps[kq]? = some py := ⟨_, List.getElem?_eq_getElem (by rw [HN.out]; exact hlt)⟩
                    have HPX := Lib.hid hp
                    have HLX := Lib.hid hlt
                    have c3 : (kq : Int) < (n : Int) := by omega
                    have c6 : (kq : Int) ≤ 9223372036854775807 := by omega
                    obtain ⟨od, hod⟩ : ∃ od, od = onP py := ⟨_, rfl⟩
                    have HO2 := Lib.hid (show ∀ W : World, Calls Tryd.prog 9 #[poV py] W fun e w' => e = .returned (.bool od) ∧ Below W.heap.size W w' from fun W => by rw [hod]; exact on_any py W)
                    have HSM := Lib.hid (show openM ps (kq + 1) = if onP py = true ∧ py.p11 = 2 then withS (openM ps kq) ((kq : Int) + 1) else openM ps kq by rw [openM, hp])
                    have HOD := Lib.hid hod
                    obtain ⟨s0, hs0⟩ : ∃ s0, s0 = openM ps kq := ⟨_, rfl⟩
                    rw [← hs0] at HSM HOM ⊢
                    clear hod hs0 hp hlt
                    go_upto_region 28 with fail
                    refine wp_region_lit ?_
                    refine wv (.int .i64 (kq : Nat)) ?_
                    (try simp only [Act.put, gA, gS, gZ, sA, sZ, sS])
                    refine wv (.slice (some ⟨gp, 0, none⟩) n m) ?_
                    (try simp only [Act.put, gA, gS, gZ, sA, sZ, sS])
                    refine wv (.int .i64 (n : Nat)) ?_
                    (try simp only [Act.put, gA, gS, gZ, sA, sZ, sS])
                    refine wv (.bool true) ?_
                    (try simp only [Act.put, gA, gS, gZ, sA, sZ, sS])
                    refine wpList_nil ?_
                    go_upto_region 30 with fail
                    cases od with
                    | false =>
                      refine wp_region_lit ?_
                      refine wv (.slice (some ⟨gp, 0, none⟩) n m) ?_
                      (try simp only [Act.put, gA, gS, gZ, sA, sZ, sS])
                      refine wv (.int .i64 (kq : Nat)) ?_
                      (try simp only [Act.put, gA, gS, gZ, sA, sZ, sS])
                      refine wv (.pointer (some ⟨gp, kq * 21, none⟩)) ?_
                      (try simp only [Act.put, gA, gS, gZ, sA, sZ, sS])
                      refine wv (.agg (poA py)) ?_ (hrun := run_loadRange 58 _ rfl gp (kq * 21) rfl (poA py) _ (HPT.out _ kq _ KQ.out.a.2.2.1 HPX.out) Tryd.underlying58 rfl (po_info _))
                      (try simp only [Act.put, gA, gS, gZ, sA, sZ, sS])
                      refine kx_call KQ.out 9 #[.agg (poA py)] (.bool false) (by rfl) (by go_simp) (HO2.out _) ?_
                      intro w121 hk
                      have K121 := Lib.hid (show Kx w [(b1, plA x (.slice ap np mp) (.slice az ns ms) (.slice (some ⟨g, off, none⟩) nf mf), 29), (b11, t3A i, 35), (b21, t3A j, 35), (b42, fA Y, 42), (b61, #[.slice x1 sl x2, .int .i64 7, .bool lb, .bool full], 48), (b63, #[.slice none 0 0, .int .i64 7, .bool lb, .bool full], 48), (b68, kyA vd aq, 63)] ((bdT w j V T l2).and ((bdT w i V T l2).and ((PV).and (bdO w.heap.size 81 19 snC (.slice x1 sl x2) (sent))))) w121 from hk)
                      clear hk
                      (try simp only [Act.put, gA, gS, gZ, sA, sZ, sS])
                      refine wv (.bool false) ?_
                      (try simp only [Act.put, gA, gS, gZ, sA, sZ, sS])
                      refine wpList_skip (by kernel_rfl) ?_
                      (try simp only [Act.put, gA, gS, gZ, sA, sZ, sS])
                      refine wpList_skip (by kernel_rfl) ?_
                      (try simp only [Act.put, gA, gS, gZ, sA, sZ, sS])
                      refine wpList_skip (by kernel_rfl) ?_
                      (try simp only [Act.put, gA, gS, gZ, sA, sZ, sS])
                      refine wpList_skip (by kernel_rfl) ?_
                      (try simp only [Act.put, gA, gS, gZ, sA, sZ, sS])
                      refine wpList_skip (by kernel_rfl) ?_
                      (try simp only [Act.put, gA, gS, gZ, sA, sZ, sS])
                      refine wpList_skip (by kernel_rfl) ?_
                      (try simp only [Act.put, gA, gS, gZ, sA, sZ, sS])
                      refine wv (.bool false) ?_ (hrun := run_pick_no (.tmp 170) (.tmp 176) (.const (.bool false)) _ rfl rfl rfl)
                      (try simp only [Act.put, gA, gS, gZ, sA, sZ, sS])
                      refine wpList_nil ?_
                      go_wp2_with fail
                      go_roundw
                      case rel => exact ⟨kq + 1, by have := HLX.out; omega, by rw [HSM.out, if_neg (fun h => by have := h.1.symm.trans HOD.out.symm; cases this)], by go_num, K121.out⟩
                      case measure => have := HLX.out; simp [intOf]; omega
                    | true =>
                      by_cases c4 : py.p11 = 2
                      · have HC4 := Lib.hid c4
                        clear c4
                        refine wp_region_lit ?_
                        refine wv (.slice (some ⟨gp, 0, none⟩) n m) ?_
                        (try simp only [Act.put, gA, gS, gZ, sA, sZ, sS])
                        refine wv (.int .i64 (kq : Nat)) ?_
                        (try simp only [Act.put, gA, gS, gZ, sA, sZ, sS])
                        refine wv (.pointer (some ⟨gp, kq * 21, none⟩)) ?_
                        (try simp only [Act.put, gA, gS, gZ, sA, sZ, sS])
                        refine wv (.agg (poA py)) ?_ (hrun := run_loadRange 58 _ rfl gp (kq * 21) rfl (poA py) _ (HPT.out _ kq _ KQ.out.a.2.2.1 HPX.out) Tryd.underlying58 rfl (po_info _))
                        (try simp only [Act.put, gA, gS, gZ, sA, sZ, sS])
                        refine kx_call KQ.out 9 #[.agg (poA py)] (.bool true) (by rfl) (by go_simp) (HO2.out _) ?_
                        intro w121 hk
                        have K121 := Lib.hid (show Kx w [(b1, plA x (.slice ap np mp) (.slice az ns ms) (.slice (some ⟨g, off, none⟩) nf mf), 29), (b11, t3A i, 35), (b21, t3A j, 35), (b42, fA Y, 42), (b61, #[.slice x1 sl x2, .int .i64 7, .bool lb, .bool full], 48), (b63, #[.slice none 0 0, .int .i64 7, .bool lb, .bool full], 48), (b68, kyA vd aq, 63)] ((bdT w j V T l2).and ((bdT w i V T l2).and ((PV).and (bdO w.heap.size 81 19 snC (.slice x1 sl x2) (sent))))) w121 from hk)
                        clear hk
                        (try simp only [Act.put, gA, gS, gZ, sA, sZ, sS])
                        refine wv (.bool true) ?_
                        (try simp only [Act.put, gA, gS, gZ, sA, sZ, sS])
                        refine wv (.slice (some ⟨gp, 0, none⟩) n m) ?_
                        (try simp only [Act.put, gA, gS, gZ, sA, sZ, sS])
                        refine wv (.int .i64 (kq : Nat)) ?_
                        (try simp only [Act.put, gA, gS, gZ, sA, sZ, sS])
                        refine wv (.pointer (some ⟨gp, kq * 21, none⟩)) ?_
                        (try simp only [Act.put, gA, gS, gZ, sA, sZ, sS])
                        refine wv (.pointer (some ⟨gp, kq * 21 + 11, none⟩)) ?_
                        (try simp only [Act.put, gA, gS, gZ, sA, sZ, sS])
                        refine wv (.int .i64 py.p11) ?_ (hrun := by have q : w121.cell? ⟨gp, kq * 21 + 11, none⟩ = some (.int .i64 py.p11) := range_cell (arr := poA py) (o := 11) (HPT.out _ kq _ K121.out.a.2.2.1 HPX.out) (by rfl); go_simp)
                        (try simp only [Act.put, gA, gS, gZ, sA, sZ, sS])
                        refine wv (.bool true) ?_ (hrun := by have q := HC4.out; go_simp)
                        (try simp only [Act.put, gA, gS, gZ, sA, sZ, sS])
                        refine wv (.bool true) ?_ (hrun := run_pick_yes (.tmp 170) (.tmp 176) (.const (.bool false)) _ rfl rfl rfl)
                        (try simp only [Act.put, gA, gS, gZ, sA, sZ, sS])
                        refine wpList_nil ?_
                        go_wp2_with (go_at_call 15; refine (pwith_any s0 _ _ HOM.out).mono ?_; rintro e w9 ⟨rfl, rfl⟩)
                        go_roundw
                        case rel => exact ⟨kq + 1, by have := HLX.out; omega, by rw [HSM.out, if_pos ⟨HOD.out.symm, HC4.out⟩], by go_num, K121.out⟩
                        case measure => have := HLX.out; simp [intOf]; omega
                      · have HC4 := Lib.hid (show decide (py.p11 = 2) = false from decide_eq_false c4)
                        have HC5 := Lib.hid (show (py.p11 == 2) = false by simpa using c4)
                        have HC6 := Lib.hid c4
                        clear c4
                        refine wp_region_lit ?_
                        refine wv (.slice (some ⟨gp, 0, none⟩) n m) ?_
                        (try simp only [Act.put, gA, gS, gZ, sA, sZ, sS])
                        refine wv (.int .i64 (kq : Nat)) ?_
                        (try simp only [Act.put, gA, gS, gZ, sA, sZ, sS])
                        refine wv (.pointer (some ⟨gp, kq * 21, none⟩)) ?_
                        (try simp only [Act.put, gA, gS, gZ, sA, sZ, sS])
                        refine wv (.agg (poA py)) ?_ (hrun := run_loadRange 58 _ rfl gp (kq * 21) rfl (poA py) _ (HPT.out _ kq _ KQ.out.a.2.2.1 HPX.out) Tryd.underlying58 rfl (po_info _))
                        (try simp only [Act.put, gA, gS, gZ, sA, sZ, sS])
                        refine kx_call KQ.out 9 #[.agg (poA py)] (.bool true) (by rfl) (by go_simp) (HO2.out _) ?_
                        intro w121 hk
                        have K121 := Lib.hid (show Kx w [(b1, plA x (.slice ap np mp) (.slice az ns ms) (.slice (some ⟨g, off, none⟩) nf mf), 29), (b11, t3A i, 35), (b21, t3A j, 35), (b42, fA Y, 42), (b61, #[.slice x1 sl x2, .int .i64 7, .bool lb, .bool full], 48), (b63, #[.slice none 0 0, .int .i64 7, .bool lb, .bool full], 48), (b68, kyA vd aq, 63)] ((bdT w j V T l2).and ((bdT w i V T l2).and ((PV).and (bdO w.heap.size 81 19 snC (.slice x1 sl x2) (sent))))) w121 from hk)
                        clear hk
                        (try simp only [Act.put, gA, gS, gZ, sA, sZ, sS])
                        refine wv (.bool true) ?_
                        (try simp only [Act.put, gA, gS, gZ, sA, sZ, sS])
                        refine wv (.slice (some ⟨gp, 0, none⟩) n m) ?_
                        (try simp only [Act.put, gA, gS, gZ, sA, sZ, sS])
                        refine wv (.int .i64 (kq : Nat)) ?_
                        (try simp only [Act.put, gA, gS, gZ, sA, sZ, sS])
                        refine wv (.pointer (some ⟨gp, kq * 21, none⟩)) ?_
                        (try simp only [Act.put, gA, gS, gZ, sA, sZ, sS])
                        refine wv (.pointer (some ⟨gp, kq * 21 + 11, none⟩)) ?_
                        (try simp only [Act.put, gA, gS, gZ, sA, sZ, sS])
                        refine wv (.int .i64 py.p11) ?_ (hrun := by have q : w121.cell? ⟨gp, kq * 21 + 11, none⟩ = some (.int .i64 py.p11) := range_cell (arr := poA py) (o := 11) (HPT.out _ kq _ K121.out.a.2.2.1 HPX.out) (by rfl); go_simp)
                        (try simp only [Act.put, gA, gS, gZ, sA, sZ, sS])
                        refine wv (.bool false) ?_ (hrun := by have q := HC4.out; have q2 := HC5.out; go_simp)
                        (try simp only [Act.put, gA, gS, gZ, sA, sZ, sS])
                        refine wv (.bool false) ?_ (hrun := run_pick_yes (.tmp 170) (.tmp 176) (.const (.bool false)) _ rfl rfl rfl)
                        (try simp only [Act.put, gA, gS, gZ, sA, sZ, sS])
                        refine wpList_nil ?_
                        go_wp2_with fail
                        go_roundw
                        case rel => exact ⟨kq + 1, by have := HLX.out; omega, by rw [HSM.out, if_neg (fun h => HC6.out h.2)], by go_num, K121.out⟩
                        case measure => have := HLX.out; simp [intOf]; omega
                  case neg =>
                    have c3 : (n : Int) ≤ (kq : Int) := by omega
                    have hop : openM ps kq = openM ps ps.length := by rw [HN.out, show kq = n by have := HKQ.out; omega]
                    obtain ⟨VV, hVV⟩ : ∃ VV, VV = (findV vd V).1 := ⟨_, rfl⟩
                    obtain ⟨fo, hfo⟩ : ∃ fo, fo = (findV vd V).2 := ⟨_, rfl⟩
                    obtain ⟨S, hS⟩ : ∃ S, S = portsN ((kk + 1 : Nat) : Int) vd ad (openM ps kq) V T l2 := ⟨_, rfl⟩
                    have HSN := Lib.hid (show sent = sendL Y VV (portsL S) by rw [HSE.out, hVV, hS, hop])
                    have HSL2 := Lib.hid (show S < 4294967296 by rw [hS]; exact portsN_lt HOM.out)
                    have HVU := Lib.hid (show VV.unt < 4294967296 by rw [hVV]; have := (findV_small KQ.out.a.1.smV vd).2; omega)
                    have HG := Lib.hid (show ∀ W, T3 w j V T l2 W → Calls Tryd.prog 16 #[.pointer (some ⟨j.b1, 0, none⟩), .int .u16 (vd : Nat)] W fun e w' => e = .returned (.tuple #[.agg (vlA VV), .bool fo]) ∧ Below W.heap.size W w' from fun W hT => by rw [hVV, hfo]; exact get_find vd hT.tabV)
                    have HPS := Lib.hid (show ∀ W, T3 w j V T l2 W → Calls Tryd.prog 17 #[.agg (t3A j), .int .i64 ((kk + 1 : Nat) : Int), .int .u16 (vd : Nat), .agg (macA Y.d), .int .u32 (openM ps kq : Nat)] W fun e w' => e = .returned (.int .u32 (S : Nat)) ∧ Below W.heap.size W w' from fun W hT => by rw [hS, HAD.out.2]; exact ports_any _ vd ad _ HAD.out.1 HOM.out hT)
                    clear hop hVV hfo hS hlt
                    go_upto_region 28 with fail
                    refine wp_region_lit ?_
                    refine wv (.int .i64 (kq : Nat)) ?_
                    (try simp only [Act.put, gA, gS, gZ, sA, sZ, sS])
                    refine wv (.slice (some ⟨gp, 0, none⟩) n m) ?_
                    (try simp only [Act.put, gA, gS, gZ, sA, sZ, sS])
                    refine wv (.int .i64 (n : Nat)) ?_
                    (try simp only [Act.put, gA, gS, gZ, sA, sZ, sS])
                    refine wv (.bool false) ?_ (hrun := by go_simp <;> omega)
                    (try simp only [Act.put, gA, gS, gZ, sA, sZ, sS])
                    refine wpList_nil ?_
                    go_upto_region 32 with fail
                    refine wp_region_lit ?_
                    refine wv (.pointer (some ⟨b21, 0, none⟩)) ?_
                    (try simp only [Act.put, gA, gS, gZ, sA, sZ, sS])
                    refine wv (.pointer (some ⟨j.b1, 0, none⟩)) ?_ (hrun := by have q : wr.cell? ⟨b21, 0, none⟩ = some (.pointer (some ⟨j.b1, 0, none⟩)) := KQ.out.cell (i := 2) rfl (by rfl); go_simp)
                    (try simp only [Act.put, gA, gS, gZ, sA, sZ, sS])
                    refine wv (.int .u16 (vd : Nat)) ?_
                    (try simp only [Act.put, gA, gS, gZ, sA, sZ, sS])
                    refine kx_call KQ.out 16 #[.pointer (some ⟨j.b1, 0, none⟩), .int .u16 (vd : Nat)] (.tuple #[.agg (vlA VV), .bool fo]) (by rfl) (by go_simp) (HG.out _ KQ.out.a.1) ?_
                    intro w121 hk
                    have K121 := Lib.hid (show Kx w [(b1, plA x (.slice ap np mp) (.slice az ns ms) (.slice (some ⟨g, off, none⟩) nf mf), 29), (b11, t3A i, 35), (b21, t3A j, 35), (b42, fA Y, 42), (b61, #[.slice x1 sl x2, .int .i64 7, .bool lb, .bool full], 48), (b63, #[.slice none 0 0, .int .i64 7, .bool lb, .bool full], 48), (b68, kyA vd aq, 63)] ((bdT w j V T l2).and ((bdT w i V T l2).and ((PV).and (bdO w.heap.size 81 19 snC (.slice x1 sl x2) (sent))))) w121 from hk)
                    clear hk
                    (try simp only [Act.put, gA, gS, gZ, sA, sZ, sS])
                    refine wv (.tuple #[.agg (vlA VV), .bool fo]) ?_
                    (try simp only [Act.put, gA, gS, gZ, sA, sZ, sS])
                    refine wv (.agg (vlA VV)) ?_
                    (try simp only [Act.put, gA, gS, gZ, sA, sZ, sS])
                    refine wv (.bool fo) ?_
                    (try simp only [Act.put, gA, gS, gZ, sA, sZ, sS])
                    refine kx_alloc K121.out 73 (#[.int .u16 0, .int .u32 0, .int .u32 0]) rfl z3 (by rfl) ?_
                    intro b122 w122 hb122 hk
                    have K122 := Lib.hid (show Kx w [(b1, plA x (.slice ap np mp) (.slice az ns ms) (.slice (some ⟨g, off, none⟩) nf mf), 29), (b11, t3A i, 35), (b21, t3A j, 35), (b42, fA Y, 42), (b61, #[.slice x1 sl x2, .int .i64 7, .bool lb, .bool full], 48), (b63, #[.slice none 0 0, .int .i64 7, .bool lb, .bool full], 48), (b68, kyA vd aq, 63), (b122, #[.int .u16 0, .int .u32 0, .int .u32 0], 73)] ((bdT w j V T l2).and ((bdT w i V T l2).and ((PV).and (bdO w.heap.size 81 19 snC (.slice x1 sl x2) (sent))))) w122 from hk)
                    clear hk hb122
                    (try simp only [Act.put, gA, gS, gZ, sA, sZ, sS])
                    refine kx_row K122.out 7 rfl 73 _ _ (vlA VV) rfl rfl rfl rfl (vlSz) (by rfl) (by kernel_rfl) ?_
                    intro w123 hk
                    have K123 := Lib.hid (show Kx w [(b1, plA x (.slice ap np mp) (.slice az ns ms) (.slice (some ⟨g, off, none⟩) nf mf), 29), (b11, t3A i, 35), (b21, t3A j, 35), (b42, fA Y, 42), (b61, #[.slice x1 sl x2, .int .i64 7, .bool lb, .bool full], 48), (b63, #[.slice none 0 0, .int .i64 7, .bool lb, .bool full], 48), (b68, kyA vd aq, 63), (b122, vlA VV, 73)] ((bdT w j V T l2).and ((bdT w i V T l2).and ((PV).and (bdO w.heap.size 81 19 snC (.slice x1 sl x2) (sent))))) w123 from hk)
                    clear hk
                    (try simp only [Act.put, gA, gS, gZ, sA, sZ, sS])
                    refine wv (.bool fo) ?_
                    (try simp only [Act.put, gA, gS, gZ, sA, sZ, sS])
                    refine wpList_nil ?_
                    go_upto_region 33 with fail
                    refine wp_region_lit ?_
                    refine wv (.agg (t3A j)) ?_ (hrun := kx_all K123.out 2 rfl 35 _ rfl rfl Tryd.underlying35 rfl (t3Size))
                    (try simp only [Act.put, gA, gS, gZ, sA, sZ, sS])
                    refine wv (.int .i64 ((kk + 1 : Nat) : Int)) ?_
                    (try simp only [Act.put, gA, gS, gZ, sA, sZ, sS])
                    refine wv (.int .u16 (vd : Nat)) ?_
                    (try simp only [Act.put, gA, gS, gZ, sA, sZ, sS])
                    refine wv (.pointer (some ⟨b42, 0, none⟩)) ?_
                    (try simp only [Act.put, gA, gS, gZ, sA, sZ, sS])
                    refine wv (.agg (macA Y.d)) ?_ (hrun := kx_part K123.out 3 rfl 40 _ 0 (macA Y.d).toList rfl rfl (part_of (by kernel_rfl)) Tryd.underlying40 rfl (mcSize))
                    (try simp only [Act.put, gA, gS, gZ, sA, sZ, sS])
                    refine wv (.int .u32 (openM ps kq : Nat)) ?_
                    (try simp only [Act.put, gA, gS, gZ, sA, sZ, sS])
                    refine kx_call K123.out 17 #[.agg (t3A j), .int .i64 ((kk + 1 : Nat) : Int), .int .u16 (vd : Nat), .agg (macA Y.d), .int .u32 (openM ps kq : Nat)] (.int .u32 (S : Nat)) (by rfl) (by go_simp) (HPS.out _ K123.out.a.1) ?_
                    intro w124 hk
                    have K124 := Lib.hid (show Kx w [(b1, plA x (.slice ap np mp) (.slice az ns ms) (.slice (some ⟨g, off, none⟩) nf mf), 29), (b11, t3A i, 35), (b21, t3A j, 35), (b42, fA Y, 42), (b61, #[.slice x1 sl x2, .int .i64 7, .bool lb, .bool full], 48), (b63, #[.slice none 0 0, .int .i64 7, .bool lb, .bool full], 48), (b68, kyA vd aq, 63), (b122, vlA VV, 73)] ((bdT w j V T l2).and ((bdT w i V T l2).and ((PV).and (bdO w.heap.size 81 19 snC (.slice x1 sl x2) (sent))))) w124 from hk)
                    clear hk
                    (try simp only [Act.put, gA, gS, gZ, sA, sZ, sS])
                    refine wv (.int .u32 (S : Nat)) ?_
                    (try simp only [Act.put, gA, gS, gZ, sA, sZ, sS])
                    refine wpList_nil ?_
                    go_upto_region 34 with fail
                    refine wp_region_lit ?_
                    refine wv (.int .i64 1) ?_
                    (try simp only [Act.put, gA, gS, gZ, sA, sZ, sS])
                    refine wpList_nil ?_
                    go_upto_region 35 with fail
                    go_loopw [22] (fun q9 wr => ∃ (pp : Nat) (sw : Value), pp ≤ 16 ∧ q9 = .int .i64 ((pp : Int) + 1) ∧ (∀ k, ((bdT w j V T l2).and ((bdT w i V T l2).and ((PV).and (bdO w.heap.size 81 19 snC (.slice x1 sl x2) (sent))))).f k → ¬ sw.ownBlock = some k) ∧ Kx w [(b1, plA x (.slice ap np mp) (.slice az ns ms) (.slice (some ⟨g, off, none⟩) nf mf), 29), (b11, t3A i, 35), (b21, t3A j, 35), (b42, fA Y, 42), (b61, #[.slice x1 sl x2, .int .i64 7, .bool lb, .bool full], 48), (b63, #[sw, .int .i64 7, .bool lb, .bool full], 48), (b68, kyA vd aq, 63), (b122, vlA VV, 73)] ((bdO w.heap.size 81 19 snC (sw) (sendL Y VV (upto S pp))).and ((bdT w j V T l2).and ((bdT w i V T l2).and ((PV).and (bdO w.heap.size 81 19 snC (.slice x1 sl x2) (sent)))))) wr) (fun q9 _ => 17 - (intOf q9).toNat)
                    case atStart => exact ⟨0, .slice none 0 0, by omega, rfl, (fun k _ h => by cases h), K124.out.turn (fun h => ⟨(show Own _ _ _ _ _ _ (sendL Y VV (upto S 0)) from Own.nil _ _ _ _ _), h⟩) (fun k q => by rcases q with q | q; exact (by cases q); exact q)⟩
                    case round =>
                      obtain ⟨pp, sw, hpp, rfl, hdj, hK⟩ := hrel
                      have KP := Lib.hid hK
                      have HPP := Lib.hid hpp
                      have HDJ := Lib.hid hdj
                      have c4 : (0 : Int) ≤ (pp : Int) := by omega
                      have c5 : (pp : Int) ≤ 16 := by omega
                      clear hK hpp hdj
                      by_cases hlt : pp < 16
                      case pos => as_aux_lemma =>
                        have c6 : (pp : Int) < 16 := by omega
                        have HLX := Lib.hid hlt
                        have HUP := Lib.hid (sendL_up Y VV S pp)
                        have HLN := Lib.hid (show (sendL Y VV (upto S pp)).length ≤ 1000 by have := sendL_len Y VV (upto S pp); have : (upto S pp).length ≤ pp := (by unfold upto; exact Nat.le_trans (List.length_filter_le _ _) (by simp)); omega)
                        obtain ⟨y, hy⟩ : ∃ y : Int, y = (pp : Int) + 1 := ⟨_, rfl⟩
                        obtain ⟨zf, hz⟩ : ∃ zf, zf = forT Y VV ((pp : Int) + 1) := ⟨_, rfl⟩
                        have HF := Lib.hid (show ∀ W, Calls Tryd.prog 18 #[.agg (fA Y), .agg (vlA VV), .int .i64 ((pp : Int) + 1)] W fun e w' => e = .returned (.tuple #[.agg (if forK Y VV ((pp : Int) + 1) = true then fA zf else nil18), .bool (forK Y VV ((pp : Int) + 1))]) ∧ Below W.heap.size W w' from fun W => by rw [hz]; exact form_any Y VV _ W HYO.out HVU.out)
                        have HHS := Lib.hid (show ∀ W, Calls Tryd.prog 19 #[.int .u32 (S : Nat), .int .i64 ((pp : Int) + 1)] W fun e w' => e = .returned (.bool (hasB S ((pp : Int) + 1))) ∧ Below W.heap.size W w' from fun W => (has_any S _ W HSL2.out).mono fun e w' hh => ⟨hh.1, hh.2 ▸ Below.refl _ _⟩)
                        rw [← hz] at HUP
                        clear hz hy hlt
                        go_upto_region 35 with fail
                        refine wp_region_lit ?_
                        refine wv (.int .i64 ((pp : Int) + 1)) ?_
                        (try simp only [Act.put, gA, gS, gZ, sA, sZ, sS])
                        refine wv (.bool true) ?_ (hrun := by go_simp <;> omega)
                        (try simp only [Act.put, gA, gS, gZ, sA, sZ, sS])
                        refine wpList_nil ?_
                        go_upto_region 37 with fail
                        cases hk : forK Y VV ((pp : Int) + 1) with
                        | false =>
                          have HF2 := Lib.hid (show ∀ W, Calls Tryd.prog 18 #[.agg (fA Y), .agg (vlA VV), .int .i64 ((pp : Int) + 1)] W fun e w' => e = .returned (.tuple #[.agg nil18, .bool false]) ∧ Below W.heap.size W w' from fun W => by have c := HF.out W; rw [hk] at c; exact c)
                          have HKF := Lib.hid hk
                          clear hk
                          refine wp_region_lit ?_
                          refine wv (.agg (fA Y)) ?_ (hrun := kx_all KP.out 3 rfl 42 _ rfl rfl Tryd.underlying42 rfl (fA_size _))
                          (try simp only [Act.put, gA, gS, gZ, sA, sZ, sS])
                          refine wv (.agg (vlA VV)) ?_ (hrun := kx_all KP.out 7 rfl 73 _ rfl rfl Tryd.underlying73 rfl (vlSz))
                          (try simp only [Act.put, gA, gS, gZ, sA, sZ, sS])
                          refine wv (.int .i64 ((pp : Int) + 1)) ?_
                          (try simp only [Act.put, gA, gS, gZ, sA, sZ, sS])
                          refine kx_call KP.out 18 #[.agg (fA Y), .agg (vlA VV), .int .i64 ((pp : Int) + 1)] (.tuple #[.agg (nil18), .bool false]) (by rfl) (by go_simp) (HF2.out _) ?_
                          intro w145 hk
                          have K145 := Lib.hid (show Kx w [(b1, plA x (.slice ap np mp) (.slice az ns ms) (.slice (some ⟨g, off, none⟩) nf mf), 29), (b11, t3A i, 35), (b21, t3A j, 35), (b42, fA Y, 42), (b61, #[.slice x1 sl x2, .int .i64 7, .bool lb, .bool full], 48), (b63, #[sw, .int .i64 7, .bool lb, .bool full], 48), (b68, kyA vd aq, 63), (b122, vlA VV, 73)] ((bdO w.heap.size 81 19 snC (sw) (sendL Y VV (upto S pp))).and ((bdT w j V T l2).and ((bdT w i V T l2).and ((PV).and (bdO w.heap.size 81 19 snC (.slice x1 sl x2) (sent)))))) w145 from hk)
                          clear hk
                          (try simp only [Act.put, gA, gS, gZ, sA, sZ, sS])
                          refine wv (.tuple #[.agg (nil18), .bool false]) ?_
                          (try simp only [Act.put, gA, gS, gZ, sA, sZ, sS])
                          refine wv (.agg (nil18)) ?_
                          (try simp only [Act.put, gA, gS, gZ, sA, sZ, sS])
                          refine wv (.bool false) ?_
                          (try simp only [Act.put, gA, gS, gZ, sA, sZ, sS])
                          refine kx_alloc K145.out 42 (nil18) rfl z18 (by rfl) ?_
                          intro b146 w146 hb146 hk
                          have K146 := Lib.hid (show Kx w [(b1, plA x (.slice ap np mp) (.slice az ns ms) (.slice (some ⟨g, off, none⟩) nf mf), 29), (b11, t3A i, 35), (b21, t3A j, 35), (b42, fA Y, 42), (b61, #[.slice x1 sl x2, .int .i64 7, .bool lb, .bool full], 48), (b63, #[sw, .int .i64 7, .bool lb, .bool full], 48), (b68, kyA vd aq, 63), (b122, vlA VV, 73), (b146, nil18, 42)] ((bdO w.heap.size 81 19 snC (sw) (sendL Y VV (upto S pp))).and ((bdT w j V T l2).and ((bdT w i V T l2).and ((PV).and (bdO w.heap.size 81 19 snC (.slice x1 sl x2) (sent)))))) w146 from hk)
                          clear hk hb146
                          (try simp only [Act.put, gA, gS, gZ, sA, sZ, sS])
                          refine kx_row K146.out 8 rfl 42 _ _ (nil18) rfl rfl rfl rfl (size52) (by rfl) (by kernel_rfl) ?_
                          intro w147 hk
                          have K147 := Lib.hid (show Kx w [(b1, plA x (.slice ap np mp) (.slice az ns ms) (.slice (some ⟨g, off, none⟩) nf mf), 29), (b11, t3A i, 35), (b21, t3A j, 35), (b42, fA Y, 42), (b61, #[.slice x1 sl x2, .int .i64 7, .bool lb, .bool full], 48), (b63, #[sw, .int .i64 7, .bool lb, .bool full], 48), (b68, kyA vd aq, 63), (b122, vlA VV, 73), (b146, nil18, 42)] ((bdO w.heap.size 81 19 snC (sw) (sendL Y VV (upto S pp))).and ((bdT w j V T l2).and ((bdT w i V T l2).and ((PV).and (bdO w.heap.size 81 19 snC (.slice x1 sl x2) (sent)))))) w147 from hk)
                          clear hk
                          (try simp only [Act.put, gA, gS, gZ, sA, sZ, sS])
                          refine wv (.bool false) ?_
                          (try simp only [Act.put, gA, gS, gZ, sA, sZ, sS])
                          refine wpList_nil ?_
                          go_upto_region 38 with fail
                          refine wp_region_lit ?_
                          refine wv (.bool false) ?_
                          (try simp only [Act.put, gA, gS, gZ, sA, sZ, sS])
                          refine wv (.bool false) ?_
                          (try simp only [Act.put, gA, gS, gZ, sA, sZ, sS])
                          refine wpList_skip (by kernel_rfl) ?_
                          (try simp only [Act.put, gA, gS, gZ, sA, sZ, sS])
                          refine wpList_skip (by kernel_rfl) ?_
                          (try simp only [Act.put, gA, gS, gZ, sA, sZ, sS])
                          refine wpList_skip (by kernel_rfl) ?_
                          (try simp only [Act.put, gA, gS, gZ, sA, sZ, sS])
                          refine wv (.bool false) ?_ (hrun := run_pick_no (.tmp 208) (.tmp 211) (.const (.bool false)) _ rfl rfl rfl)
                          (try simp only [Act.put, gA, gS, gZ, sA, sZ, sS])
                          refine wpList_nil ?_
                          go_wp2_with fail
                          go_roundw
                          case rel => exact ⟨pp + 1, sw, by have := HLX.out; omega, by go_num, HDJ.out, by rw [HUP.out, if_neg (fun h => by rw [HKF.out] at h; cases h.1), List.append_nil]; exact Kx.left (l := [(b1, plA x (.slice ap np mp) (.slice az ns ms) (.slice (some ⟨g, off, none⟩) nf mf), 29), (b11, t3A i, 35), (b21, t3A j, 35), (b42, fA Y, 42), (b61, #[.slice x1 sl x2, .int .i64 7, .bool lb, .bool full], 48), (b63, #[sw, .int .i64 7, .bool lb, .bool full], 48), (b68, kyA vd aq, 63), (b122, vlA VV, 73)]) (r := [(b146, nil18, 42)]) K147.out⟩
                          case measure => have := HLX.out; simp [intOf]; omega
                        | true =>
                          have HF2 := Lib.hid (show ∀ W, Calls Tryd.prog 18 #[.agg (fA Y), .agg (vlA VV), .int .i64 ((pp : Int) + 1)] W fun e w' => e = .returned (.tuple #[.agg (fA zf), .bool true]) ∧ Below W.heap.size W w' from fun W => by have c := HF.out W; rw [hk] at c; exact c)
                          have HKF := Lib.hid hk
                          clear hk
                          refine wp_region_lit ?_
                          refine wv (.agg (fA Y)) ?_ (hrun := kx_all KP.out 3 rfl 42 _ rfl rfl Tryd.underlying42 rfl (fA_size _))
                          (try simp only [Act.put, gA, gS, gZ, sA, sZ, sS])
                          refine wv (.agg (vlA VV)) ?_ (hrun := kx_all KP.out 7 rfl 73 _ rfl rfl Tryd.underlying73 rfl (vlSz))
                          (try simp only [Act.put, gA, gS, gZ, sA, sZ, sS])
                          refine wv (.int .i64 ((pp : Int) + 1)) ?_
                          (try simp only [Act.put, gA, gS, gZ, sA, sZ, sS])
                          refine kx_call KP.out 18 #[.agg (fA Y), .agg (vlA VV), .int .i64 ((pp : Int) + 1)] (.tuple #[.agg (fA zf), .bool true]) (by rfl) (by go_simp) (HF2.out _) ?_
                          intro w145 hk
                          have K145 := Lib.hid (show Kx w [(b1, plA x (.slice ap np mp) (.slice az ns ms) (.slice (some ⟨g, off, none⟩) nf mf), 29), (b11, t3A i, 35), (b21, t3A j, 35), (b42, fA Y, 42), (b61, #[.slice x1 sl x2, .int .i64 7, .bool lb, .bool full], 48), (b63, #[sw, .int .i64 7, .bool lb, .bool full], 48), (b68, kyA vd aq, 63), (b122, vlA VV, 73)] ((bdO w.heap.size 81 19 snC (sw) (sendL Y VV (upto S pp))).and ((bdT w j V T l2).and ((bdT w i V T l2).and ((PV).and (bdO w.heap.size 81 19 snC (.slice x1 sl x2) (sent)))))) w145 from hk)
                          clear hk
                          (try simp only [Act.put, gA, gS, gZ, sA, sZ, sS])
                          refine wv (.tuple #[.agg (fA zf), .bool true]) ?_
                          (try simp only [Act.put, gA, gS, gZ, sA, sZ, sS])
                          refine wv (.agg (fA zf)) ?_
                          (try simp only [Act.put, gA, gS, gZ, sA, sZ, sS])
                          refine wv (.bool true) ?_
                          (try simp only [Act.put, gA, gS, gZ, sA, sZ, sS])
                          refine kx_alloc K145.out 42 (nil18) rfl z18 (by rfl) ?_
                          intro b146 w146 hb146 hk
                          have K146 := Lib.hid (show Kx w [(b1, plA x (.slice ap np mp) (.slice az ns ms) (.slice (some ⟨g, off, none⟩) nf mf), 29), (b11, t3A i, 35), (b21, t3A j, 35), (b42, fA Y, 42), (b61, #[.slice x1 sl x2, .int .i64 7, .bool lb, .bool full], 48), (b63, #[sw, .int .i64 7, .bool lb, .bool full], 48), (b68, kyA vd aq, 63), (b122, vlA VV, 73), (b146, nil18, 42)] ((bdO w.heap.size 81 19 snC (sw) (sendL Y VV (upto S pp))).and ((bdT w j V T l2).and ((bdT w i V T l2).and ((PV).and (bdO w.heap.size 81 19 snC (.slice x1 sl x2) (sent)))))) w146 from hk)
                          clear hk hb146
                          (try simp only [Act.put, gA, gS, gZ, sA, sZ, sS])
                          refine kx_row K146.out 8 rfl 42 _ _ (fA zf) rfl rfl rfl rfl (fA_size _) (by rfl) (fA_one zf) ?_
                          intro w147 hk
                          have K147 := Lib.hid (show Kx w [(b1, plA x (.slice ap np mp) (.slice az ns ms) (.slice (some ⟨g, off, none⟩) nf mf), 29), (b11, t3A i, 35), (b21, t3A j, 35), (b42, fA Y, 42), (b61, #[.slice x1 sl x2, .int .i64 7, .bool lb, .bool full], 48), (b63, #[sw, .int .i64 7, .bool lb, .bool full], 48), (b68, kyA vd aq, 63), (b122, vlA VV, 73), (b146, fA zf, 42)] ((bdO w.heap.size 81 19 snC (sw) (sendL Y VV (upto S pp))).and ((bdT w j V T l2).and ((bdT w i V T l2).and ((PV).and (bdO w.heap.size 81 19 snC (.slice x1 sl x2) (sent)))))) w147 from hk)
                          clear hk
                          (try simp only [Act.put, gA, gS, gZ, sA, sZ, sS])
                          refine wv (.bool true) ?_
                          (try simp only [Act.put, gA, gS, gZ, sA, sZ, sS])
                          refine wpList_nil ?_
                          go_upto_region 38 with fail
                          cases hk : hasB S ((pp : Int) + 1) with
                          | false =>
                            have HH2 := Lib.hid (show ∀ W, Calls Tryd.prog 19 #[.int .u32 (S : Nat), .int .i64 ((pp : Int) + 1)] W fun e w' => e = .returned (.bool false) ∧ Below W.heap.size W w' from fun W => by have c := HHS.out W; rw [hk] at c; exact c)
                            have HHF := Lib.hid hk
                            clear hk
                            refine wp_region_lit ?_
                            refine wv (.bool true) ?_
                            (try simp only [Act.put, gA, gS, gZ, sA, sZ, sS])
                            refine wv (.bool true) ?_
                            (try simp only [Act.put, gA, gS, gZ, sA, sZ, sS])
                            refine wv (.int .u32 (S : Nat)) ?_
                            (try simp only [Act.put, gA, gS, gZ, sA, sZ, sS])
                            refine wv (.int .i64 ((pp : Int) + 1)) ?_
                            (try simp only [Act.put, gA, gS, gZ, sA, sZ, sS])
                            refine kx_call K147.out 19 #[.int .u32 (S : Nat), .int .i64 ((pp : Int) + 1)] (.bool false) (by rfl) (by go_simp) (HH2.out _) ?_
                            intro w148 hk
                            have K148 := Lib.hid (show Kx w [(b1, plA x (.slice ap np mp) (.slice az ns ms) (.slice (some ⟨g, off, none⟩) nf mf), 29), (b11, t3A i, 35), (b21, t3A j, 35), (b42, fA Y, 42), (b61, #[.slice x1 sl x2, .int .i64 7, .bool lb, .bool full], 48), (b63, #[sw, .int .i64 7, .bool lb, .bool full], 48), (b68, kyA vd aq, 63), (b122, vlA VV, 73), (b146, fA zf, 42)] ((bdO w.heap.size 81 19 snC (sw) (sendL Y VV (upto S pp))).and ((bdT w j V T l2).and ((bdT w i V T l2).and ((PV).and (bdO w.heap.size 81 19 snC (.slice x1 sl x2) (sent)))))) w148 from hk)
                            clear hk
                            (try simp only [Act.put, gA, gS, gZ, sA, sZ, sS])
                            refine wv (.bool false) ?_ (hrun := run_pick_yes (.tmp 208) (.tmp 211) (.const (.bool false)) _ rfl rfl rfl)
                            (try simp only [Act.put, gA, gS, gZ, sA, sZ, sS])
                            refine wpList_nil ?_
                            go_wp2_with fail
                            go_roundw
                            case rel => exact ⟨pp + 1, sw, by have := HLX.out; omega, by go_num, HDJ.out, by rw [HUP.out, if_neg (fun h => by rw [HHF.out] at h; cases h.2), List.append_nil]; exact Kx.left (l := [(b1, plA x (.slice ap np mp) (.slice az ns ms) (.slice (some ⟨g, off, none⟩) nf mf), 29), (b11, t3A i, 35), (b21, t3A j, 35), (b42, fA Y, 42), (b61, #[.slice x1 sl x2, .int .i64 7, .bool lb, .bool full], 48), (b63, #[sw, .int .i64 7, .bool lb, .bool full], 48), (b68, kyA vd aq, 63), (b122, vlA VV, 73)]) (r := [(b146, fA zf, 42)]) K148.out⟩
                            case measure => have := HLX.out; simp [intOf]; omega
                          | true =>
                            have HH2 := Lib.hid (show ∀ W, Calls Tryd.prog 19 #[.int .u32 (S : Nat), .int .i64 ((pp : Int) + 1)] W fun e w' => e = .returned (.bool true) ∧ Below W.heap.size W w' from fun W => by have c := HHS.out W; rw [hk] at c; exact c)
                            have HHF := Lib.hid hk
                            clear hk
                            refine wp_region_lit ?_
                            refine wv (.bool true) ?_
                            (try simp only [Act.put, gA, gS, gZ, sA, sZ, sS])
                            refine wv (.bool true) ?_
                            (try simp only [Act.put, gA, gS, gZ, sA, sZ, sS])
                            refine wv (.int .u32 (S : Nat)) ?_
                            (try simp only [Act.put, gA, gS, gZ, sA, sZ, sS])
                            refine wv (.int .i64 ((pp : Int) + 1)) ?_
                            (try simp only [Act.put, gA, gS, gZ, sA, sZ, sS])
                            refine kx_call K147.out 19 #[.int .u32 (S : Nat), .int .i64 ((pp : Int) + 1)] (.bool true) (by rfl) (by go_simp) (HH2.out _) ?_
                            intro w148 hk
                            have K148 := Lib.hid (show Kx w [(b1, plA x (.slice ap np mp) (.slice az ns ms) (.slice (some ⟨g, off, none⟩) nf mf), 29), (b11, t3A i, 35), (b21, t3A j, 35), (b42, fA Y, 42), (b61, #[.slice x1 sl x2, .int .i64 7, .bool lb, .bool full], 48), (b63, #[sw, .int .i64 7, .bool lb, .bool full], 48), (b68, kyA vd aq, 63), (b122, vlA VV, 73), (b146, fA zf, 42)] ((bdO w.heap.size 81 19 snC (sw) (sendL Y VV (upto S pp))).and ((bdT w j V T l2).and ((bdT w i V T l2).and ((PV).and (bdO w.heap.size 81 19 snC (.slice x1 sl x2) (sent)))))) w148 from hk)
                            clear hk
                            (try simp only [Act.put, gA, gS, gZ, sA, sZ, sS])
                            refine wv (.bool true) ?_ (hrun := run_pick_yes (.tmp 208) (.tmp 211) (.const (.bool false)) _ rfl rfl rfl)
                            (try simp only [Act.put, gA, gS, gZ, sA, sZ, sS])
                            refine wpList_nil ?_
                            go_upto_region 39 with fail
                            refine wp_region_lit ?_
                            refine wv (.pointer (some ⟨b63, 0, none⟩)) ?_
                            (try simp only [Act.put, gA, gS, gZ, sA, sZ, sS])
                            refine wv (sw) ?_ (hrun := by have q : w148.cell? ⟨b63, 0, none⟩ = some (sw) := K148.out.cell (i := 5) rfl (by rfl); go_simp)
                            (try simp only [Act.put, gA, gS, gZ, sA, sZ, sS])
                            refine wv (.int .i64 ((pp : Int) + 1)) ?_
                            (try simp only [Act.put, gA, gS, gZ, sA, sZ, sS])
                            refine wv (.agg (fA zf)) ?_ (hrun := kx_all K148.out 8 rfl 42 _ rfl rfl Tryd.underlying42 rfl (fA_size _))
                            (try simp only [Act.put, gA, gS, gZ, sA, sZ, sS])
                            refine wv (.agg (snA ⟨(pp : Int) + 1, zf⟩)) ?_ (hrun := run_build_of 81 [(0, .tmp 215), (1, .tmp 216)] rfl _ (snA ⟨(pp : Int) + 1, zf⟩) rfl (built_sn _ zf))
                            (try simp only [Act.put, gA, gS, gZ, sA, sZ, sS])
                            refine kx_one K148.out 46 81 (.tmp 217) (snA ⟨(pp : Int) + 1, zf⟩) rfl rfl (one_sn ⟨(pp : Int) + 1, zf⟩) (by rfl) ?_
                            intro bc w149 hbc hk
                            have K149 := Lib.hid (show Kx w [(b1, plA x (.slice ap np mp) (.slice az ns ms) (.slice (some ⟨g, off, none⟩) nf mf), 29), (b11, t3A i, 35), (b21, t3A j, 35), (b42, fA Y, 42), (b61, #[.slice x1 sl x2, .int .i64 7, .bool lb, .bool full], 48), (b63, #[sw, .int .i64 7, .bool lb, .bool full], 48), (b68, kyA vd aq, 63), (b122, vlA VV, 73), (b146, fA zf, 42), (bc, snA ⟨(pp : Int) + 1, zf⟩, 81)] ((bdO w.heap.size 81 19 snC (sw) (sendL Y VV (upto S pp))).and ((bdT w j V T l2).and ((bdT w i V T l2).and ((PV).and (bdO w.heap.size 81 19 snC (.slice x1 sl x2) (sent)))))) w149 from hk)
                            clear hk hbc
                            (try simp only [Act.put, gA, gS, gZ, sA, sZ, sS])
                            refine kx_append snT K149.out (i := 9) rfl (y := ⟨(pp : Int) + 1, zf⟩) rfl (Nat.le_refl _) HLN.out (.tmp 214) (.tmp 218) rfl rfl rfl rfl (fun k q1 q2 => HDJ.out k q1 q2) ?_
                            intro sv2 w150 hv2 hk
                            have HD2 := Lib.hid (show ∀ k, ((bdT w j V T l2).and ((bdT w i V T l2).and ((PV).and (bdO w.heap.size 81 19 snC (.slice x1 sl x2) (sent))))).f k → ¬ sv2.ownBlock = some k from fun k q1 q2 => by rcases hv2 k q2 with h | h; exact HDJ.out k q1 h; exact absurd (((bdT w j V T l2).and ((bdT w i V T l2).and ((PV).and (bdO w.heap.size 81 19 snC (.slice x1 sl x2) (sent))))).lt K149.out.a.2 q1) (Nat.not_lt.2 h))
                            obtain ⟨a2, c2, e2, -, -⟩ := Own.shape (show Own w150 w.heap.size 81 19 snC sv2 (sendL Y VV (upto S pp) ++ [(⟨(pp : Int) + 1, zf⟩ : Sn)]) from hk.a.1)
                            obtain ⟨n2, hn2⟩ : ∃ n2, n2 = (sendL Y VV (upto S pp) ++ [(⟨(pp : Int) + 1, zf⟩ : Sn)]).length := ⟨_, rfl⟩
                            rw [← hn2] at e2
                            subst e2
                            clear hn2 hv2
                            have K150 := Lib.hid (show Kx w [(b1, plA x (.slice ap np mp) (.slice az ns ms) (.slice (some ⟨g, off, none⟩) nf mf), 29), (b11, t3A i, 35), (b21, t3A j, 35), (b42, fA Y, 42), (b61, #[.slice x1 sl x2, .int .i64 7, .bool lb, .bool full], 48), (b63, #[sw, .int .i64 7, .bool lb, .bool full], 48), (b68, kyA vd aq, 63), (b122, vlA VV, 73), (b146, fA zf, 42), (bc, snA ⟨(pp : Int) + 1, zf⟩, 81)] ((bdO w.heap.size 81 19 snC (.slice a2 n2 c2) (sendL Y VV (upto S pp) ++ [(⟨(pp : Int) + 1, zf⟩ : Sn)])).and ((bdT w j V T l2).and ((bdT w i V T l2).and ((PV).and (bdO w.heap.size 81 19 snC (.slice x1 sl x2) (sent)))))) w150 from hk)
                            clear hk
                            (try simp only [Act.put, gA, gS, gZ, sA, sZ, sS])
                            refine wv (.pointer (some ⟨b63, 0, none⟩)) ?_
                            (try simp only [Act.put, gA, gS, gZ, sA, sZ, sS])
                            refine kx_set K150.out 5 rfl 46 _ _ 0 (.slice a2 n2 c2) rfl (by rfl) rfl rfl (kx_run_set K150.out (i := 5) rfl 46 0 (sw) (.slice a2 n2 c2) (by rfl) (fun W h1 h2 => by go_simp)) (#[.slice a2 n2 c2, .int .i64 7, .bool lb, .bool full]) (by kernel_rfl) ?_
                            intro w151 hk
                            have K151 := Lib.hid (show Kx w [(b1, plA x (.slice ap np mp) (.slice az ns ms) (.slice (some ⟨g, off, none⟩) nf mf), 29), (b11, t3A i, 35), (b21, t3A j, 35), (b42, fA Y, 42), (b61, #[.slice x1 sl x2, .int .i64 7, .bool lb, .bool full], 48), (b63, #[.slice a2 n2 c2, .int .i64 7, .bool lb, .bool full], 48), (b68, kyA vd aq, 63), (b122, vlA VV, 73), (b146, fA zf, 42), (bc, snA ⟨(pp : Int) + 1, zf⟩, 81)] ((bdO w.heap.size 81 19 snC (.slice a2 n2 c2) (sendL Y VV (upto S pp) ++ [(⟨(pp : Int) + 1, zf⟩ : Sn)])).and ((bdT w j V T l2).and ((bdT w i V T l2).and ((PV).and (bdO w.heap.size 81 19 snC (.slice x1 sl x2) (sent)))))) w151 from hk)
                            clear hk
                            (try simp only [Act.put, gA, gS, gZ, sA, sZ, sS])
                            refine wpList_nil ?_
                            go_wp2_with fail
                            go_roundw
                            case rel => exact ⟨pp + 1, .slice a2 n2 c2, by have := HLX.out; omega, by go_num, HD2.out, by rw [HUP.out, if_pos ⟨HKF.out, HHF.out⟩]; exact Kx.left (l := [(b1, plA x (.slice ap np mp) (.slice az ns ms) (.slice (some ⟨g, off, none⟩) nf mf), 29), (b11, t3A i, 35), (b21, t3A j, 35), (b42, fA Y, 42), (b61, #[.slice x1 sl x2, .int .i64 7, .bool lb, .bool full], 48), (b63, #[.slice a2 n2 c2, .int .i64 7, .bool lb, .bool full], 48), (b68, kyA vd aq, 63), (b122, vlA VV, 73)]) (r := [(b146, fA zf, 42), (bc, snA ⟨(pp : Int) + 1, zf⟩, 81)]) K151.out⟩
                            case measure => have := HLX.out; simp [intOf]; omega
                      case neg => as_aux_lemma =>
                        have c6 : (16 : Int) ≤ (pp : Int) := by omega
                        obtain ⟨y1, y2, e2, -, -⟩ := Own.shape (show Own wr w.heap.size 81 19 snC sw (sendL Y VV (upto S pp)) from KP.out.a.1)
                        have he : sendL Y VV (upto S pp) = sent := by rw [HSN.out, show pp = 16 by have := HPP.out; omega]; rfl
                        rw [he, ← HSL.out] at e2
                        subst e2
                        have KS := Lib.hid (show Kx w [(b1, plA x (.slice ap np mp) (.slice az ns ms) (.slice (some ⟨g, off, none⟩) nf mf), 29), (b11, t3A i, 35), (b21, t3A j, 35), (b42, fA Y, 42), (b61, #[.slice x1 sl x2, .int .i64 7, .bool lb, .bool full], 48), (b63, #[.slice y1 sl y2, .int .i64 7, .bool lb, .bool full], 48), (b68, kyA vd aq, 63), (b122, vlA VV, 73)] ((bdO w.heap.size 81 19 snC (.slice y1 sl y2) (sent)).and ((bdT w j V T l2).and ((bdT w i V T l2).and ((PV).and (bdO w.heap.size 81 19 snC (.slice x1 sl x2) (sent)))))) wr by have q := KP.out; rw [he] at q; exact q)
                        clear he hlt
                        go_upto_region 35 with fail
                        refine wp_region_lit ?_
                        refine wv (.int .i64 ((pp : Int) + 1)) ?_
                        (try simp only [Act.put, gA, gS, gZ, sA, sZ, sS])
                        refine wv (.bool false) ?_ (hrun := by go_simp <;> omega)
                        (try simp only [Act.put, gA, gS, gZ, sA, sZ, sS])
                        refine wpList_nil ?_
                        go_upto_region 40 with fail
                        refine wp_region_lit ?_
                        refine wv (.pointer (some ⟨b61, 1, none⟩)) ?_
                        (try simp only [Act.put, gA, gS, gZ, sA, sZ, sS])
                        refine wv (.int .i64 7) ?_ (hrun := by have q : wr.cell? ⟨b61, 1, none⟩ = some (.int .i64 7) := KS.out.cell (i := 4) rfl (by rfl); go_simp)
                        (try simp only [Act.put, gA, gS, gZ, sA, sZ, sS])
                        refine wv (.pointer (some ⟨b63, 1, none⟩)) ?_
                        (try simp only [Act.put, gA, gS, gZ, sA, sZ, sS])
                        refine wv (.int .i64 7) ?_ (hrun := by have q : wr.cell? ⟨b63, 1, none⟩ = some (.int .i64 7) := KS.out.cell (i := 5) rfl (by rfl); go_simp)
                        (try simp only [Act.put, gA, gS, gZ, sA, sZ, sS])
                        refine wv (.bool false) ?_
                        (try simp only [Act.put, gA, gS, gZ, sA, sZ, sS])
                        refine wv (.bool false) ?_
                        (try simp only [Act.put, gA, gS, gZ, sA, sZ, sS])
                        refine wv (.pointer (some ⟨b61, 2, none⟩)) ?_
                        (try simp only [Act.put, gA, gS, gZ, sA, sZ, sS])
                        refine wv (.bool lb) ?_ (hrun := by have q : wr.cell? ⟨b61, 2, none⟩ = some (.bool lb) := KS.out.cell (i := 4) rfl (by rfl); go_simp)
                        (try simp only [Act.put, gA, gS, gZ, sA, sZ, sS])
                        refine wv (.pointer (some ⟨b63, 2, none⟩)) ?_
                        (try simp only [Act.put, gA, gS, gZ, sA, sZ, sS])
                        refine wv (.bool lb) ?_ (hrun := by have q : wr.cell? ⟨b63, 2, none⟩ = some (.bool lb) := KS.out.cell (i := 5) rfl (by rfl); go_simp)
                        (try simp only [Act.put, gA, gS, gZ, sA, sZ, sS])
                        refine wv (.bool false) ?_
                        (try simp only [Act.put, gA, gS, gZ, sA, sZ, sS])
                        refine wv (.bool false) ?_ (hrun := run_pick_no (.tmp 226) (.const (.bool true)) (.tmp 231) _ rfl rfl rfl)
                        (try simp only [Act.put, gA, gS, gZ, sA, sZ, sS])
                        refine wv (.bool false) ?_
                        (try simp only [Act.put, gA, gS, gZ, sA, sZ, sS])
                        refine wv (.pointer (some ⟨b61, 3, none⟩)) ?_
                        (try simp only [Act.put, gA, gS, gZ, sA, sZ, sS])
                        refine wv (.bool full) ?_ (hrun := by have q : wr.cell? ⟨b61, 3, none⟩ = some (.bool full) := KS.out.cell (i := 4) rfl (by rfl); go_simp)
                        (try simp only [Act.put, gA, gS, gZ, sA, sZ, sS])
                        refine wv (.pointer (some ⟨b63, 3, none⟩)) ?_
                        (try simp only [Act.put, gA, gS, gZ, sA, sZ, sS])
                        refine wv (.bool full) ?_ (hrun := by have q : wr.cell? ⟨b63, 3, none⟩ = some (.bool full) := KS.out.cell (i := 5) rfl (by rfl); go_simp)
                        (try simp only [Act.put, gA, gS, gZ, sA, sZ, sS])
                        refine wv (.bool false) ?_
                        (try simp only [Act.put, gA, gS, gZ, sA, sZ, sS])
                        refine wv (.bool false) ?_ (hrun := run_pick_no (.tmp 233) (.const (.bool true)) (.tmp 238) _ rfl rfl rfl)
                        (try simp only [Act.put, gA, gS, gZ, sA, sZ, sS])
                        refine wv (.bool false) ?_
                        (try simp only [Act.put, gA, gS, gZ, sA, sZ, sS])
                        refine wv (.pointer (some ⟨b61, 0, none⟩)) ?_
                        (try simp only [Act.put, gA, gS, gZ, sA, sZ, sS])
                        refine wv (.slice x1 sl x2) ?_ (hrun := by have q : wr.cell? ⟨b61, 0, none⟩ = some (.slice x1 sl x2) := KS.out.cell (i := 4) rfl (by rfl); go_simp)
                        (try simp only [Act.put, gA, gS, gZ, sA, sZ, sS])
                        refine wv (.int .i64 (sl : Nat)) ?_
                        (try simp only [Act.put, gA, gS, gZ, sA, sZ, sS])
                        refine wv (.pointer (some ⟨b63, 0, none⟩)) ?_
                        (try simp only [Act.put, gA, gS, gZ, sA, sZ, sS])
                        refine wv (.slice y1 sl y2) ?_ (hrun := by have q : wr.cell? ⟨b63, 0, none⟩ = some (.slice y1 sl y2) := KS.out.cell (i := 5) rfl (by rfl); go_simp)
                        (try simp only [Act.put, gA, gS, gZ, sA, sZ, sS])
                        refine wv (.int .i64 (sl : Nat)) ?_
                        (try simp only [Act.put, gA, gS, gZ, sA, sZ, sS])
                        refine wv (.bool false) ?_
                        (try simp only [Act.put, gA, gS, gZ, sA, sZ, sS])
                        refine wv (.bool false) ?_ (hrun := run_pick_no (.tmp 240) (.const (.bool true)) (.tmp 247) _ rfl rfl rfl)
                        (try simp only [Act.put, gA, gS, gZ, sA, sZ, sS])
                        refine wpList_nil ?_
                        go_upto_region 42 with fail
                        refine wp_region_lit ?_
                        refine wv (.int .i64 0) ?_
                        (try simp only [Act.put, gA, gS, gZ, sA, sZ, sS])
                        refine wpList_nil ?_
                        go_upto_region 43 with fail
                        go_loopw [25] (fun q wr => ∃ jj : Nat, jj ≤ sl ∧ q = .int .i64 jj ∧ Kx w [(b1, plA x (.slice ap np mp) (.slice az ns ms) (.slice (some ⟨g, off, none⟩) nf mf), 29), (b11, t3A i, 35), (b21, t3A j, 35), (b42, fA Y, 42), (b61, #[.slice x1 sl x2, .int .i64 7, .bool lb, .bool full], 48), (b63, #[.slice y1 sl y2, .int .i64 7, .bool lb, .bool full], 48), (b68, kyA vd aq, 63), (b122, vlA VV, 73)] ((bdO w.heap.size 81 19 snC (.slice y1 sl y2) (sent)).and ((bdT w j V T l2).and ((bdT w i V T l2).and ((PV).and (bdO w.heap.size 81 19 snC (.slice x1 sl x2) (sent)))))) wr) (fun q _ => sl - (intOf q).toNat)
                        case atStart => exact ⟨0, Nat.zero_le _, rfl, KS.out⟩
                        case round =>
                          obtain ⟨jj, hj, rfl, hK⟩ := hrel
                          have KQ2 := Lib.hid hK
                          have HJ := Lib.hid hj
                          clear hK hj
                          have e1 : (0 : Int) ≤ (jj : Int) := by omega
                          by_cases c0 : jj < sl
                          case pos => as_aux_lemma =>
                            have c1 : (jj : Int) < (sl : Int) := by omega
                            have HJ2 := Lib.hid c0
                            have hx3 : (sl : Int) ≤ 9223372036854775807 := by
                              obtain ⟨a9, c9, r1, r2, r6⟩ := Own.shape (show Own wr w.heap.size 81 19 snC (.slice x1 sl x2) sent from KQ2.out.a.2.2.2.2)
                              injection r1 with r3 r4 r5
                              unfold maxLen at r6
                              omega
                            obtain ⟨s, hs⟩ : ∃ s, sent[jj]? = some s := ⟨_, List.getElem?_eq_getElem (by rw [← HSL.out]; exact c0)⟩
                            have hl := HSL.out
                            obtain ⟨gs, hgs⟩ : ∃ gs, x1 = some ⟨gs, 0, none⟩ := by
                              have hO : Own wr w.heap.size 81 19 snC (.slice x1 sl x2) sent := KQ2.out.a.2.2.2.2
                              subst hl
                              obtain ⟨gs, hg, -⟩ := hO.elem sn_len hs
                              exact ⟨gs, hg⟩
                            obtain ⟨gw, hgw⟩ : ∃ gw, y1 = some ⟨gw, 0, none⟩ := by
                              have hO : Own wr w.heap.size 81 19 snC (.slice y1 sl y2) sent := KQ2.out.a.1
                              subst hl
                              obtain ⟨gw, hg, -⟩ := hO.elem sn_len hs
                              exact ⟨gw, hg⟩
                            subst hgs hgw
                            have HR1 := Lib.hid (show ∀ W, Own W w.heap.size 81 19 snC (.slice (some ⟨gs, 0, none⟩) sl x2) sent → W.rangeAt gs (jj * 19) (snC s) from fun W h => own_at (enc := snC) sn_len h HSL.out.symm hs)
                            have HR2 := Lib.hid (show ∀ W, Own W w.heap.size 81 19 snC (.slice (some ⟨gw, 0, none⟩) sl y2) sent → W.rangeAt gw (jj * 19) (snC s) from fun W h => own_at (enc := snC) sn_len h HSL.out.symm hs)
                            have HEQ := Lib.hid (equal_sn s)
                            clear hs hl c0
                            go_upto_region 43 with fail
                            refine wp_region_lit ?_
                            refine wv (.int .i64 (jj : Nat)) ?_
                            (try simp only [Act.put, gA, gS, gZ, sA, sZ, sS])
                            refine wv (.pointer (some ⟨b61, 0, none⟩)) ?_
                            (try simp only [Act.put, gA, gS, gZ, sA, sZ, sS])
                            refine wv (.slice (some ⟨gs, 0, none⟩) sl x2) ?_ (hrun := by have q : wr.cell? ⟨b61, 0, none⟩ = some (.slice (some ⟨gs, 0, none⟩) sl x2) := KQ2.out.cell (i := 4) rfl (by rfl); go_simp)
                            (try simp only [Act.put, gA, gS, gZ, sA, sZ, sS])
                            refine wv (.int .i64 (sl : Nat)) ?_
                            (try simp only [Act.put, gA, gS, gZ, sA, sZ, sS])
                            refine wv (.bool true) ?_
                            (try simp only [Act.put, gA, gS, gZ, sA, sZ, sS])
                            refine wpList_nil ?_
                            go_upto_region 45 with fail
                            refine wp_region_quiet (C := fun W => Kx w [(b1, plA x (.slice ap np mp) (.slice az ns ms) (.slice (some ⟨g, off, none⟩) nf mf), 29), (b11, t3A i, 35), (b21, t3A j, 35), (b42, fA Y, 42), (b61, #[.slice (some ⟨gs, 0, none⟩) sl x2, .int .i64 7, .bool lb, .bool full], 48), (b63, #[.slice (some ⟨gw, 0, none⟩) sl y2, .int .i64 7, .bool lb, .bool full], 48), (b68, kyA vd aq, 63), (b122, vlA VV, 73)] ((bdO w.heap.size 81 19 snC (.slice (some ⟨gw, 0, none⟩) sl y2) (sent)).and ((bdT w j V T l2).and ((bdT w i V T l2).and ((PV).and (bdO w.heap.size 81 19 snC (.slice (some ⟨gs, 0, none⟩) sl x2) (sent)))))) W) (by kernel_rfl) (by kernel_rfl) KQ2.out.drew ?_
                            refine qv (.pointer (some ⟨b61, 0, none⟩)) ?_
                            (try simp only [Act.put, gA, gS, gZ, sA, sZ, sS])
                            refine qv (.slice (some ⟨gs, 0, none⟩) sl x2) ?_ (hv := fun wv hC => by have q : wv.cell? ⟨b61, 0, none⟩ = some (.slice (some ⟨gs, 0, none⟩) sl x2) := (Lib.hid hC).out.cell (i := 4) rfl (by rfl); go_simp)
                            (try simp only [Act.put, gA, gS, gZ, sA, sZ, sS])
                            refine qv (.int .i64 (jj : Nat)) ?_
                            (try simp only [Act.put, gA, gS, gZ, sA, sZ, sS])
                            refine qv (.pointer (some ⟨gs, jj * 19, none⟩)) ?_
                            (try simp only [Act.put, gA, gS, gZ, sA, sZ, sS])
                            refine qv (.agg (snA s)) ?_ (hv := fun wv hC => run_loadRange 81 _ rfl gs (jj * 19) rfl (snA s) _ (HR1.out _ (Lib.hid hC).out.a.2.2.2.2) Tryd.underlying81 rfl (sn_info _))
                            (try simp only [Act.put, gA, gS, gZ, sA, sZ, sS])
                            refine qv (.pointer (some ⟨b63, 0, none⟩)) ?_
                            (try simp only [Act.put, gA, gS, gZ, sA, sZ, sS])
                            refine qv (.slice (some ⟨gw, 0, none⟩) sl y2) ?_ (hv := fun wv hC => by have q : wv.cell? ⟨b63, 0, none⟩ = some (.slice (some ⟨gw, 0, none⟩) sl y2) := (Lib.hid hC).out.cell (i := 5) rfl (by rfl); go_simp)
                            (try simp only [Act.put, gA, gS, gZ, sA, sZ, sS])
                            refine qv (.int .i64 (jj : Nat)) ?_
                            (try simp only [Act.put, gA, gS, gZ, sA, sZ, sS])
                            refine qv (.pointer (some ⟨gw, jj * 19, none⟩)) ?_
                            (try simp only [Act.put, gA, gS, gZ, sA, sZ, sS])
                            refine qv (.agg (snA s)) ?_ (hv := fun wv hC => run_loadRange 81 _ rfl gw (jj * 19) rfl (snA s) _ (HR2.out _ (Lib.hid hC).out.a.1) Tryd.underlying81 rfl (sn_info _))
                            (try simp only [Act.put, gA, gS, gZ, sA, sZ, sS])
                            refine qv (.bool false) ?_ (hv := fun wv hC => by have q := HEQ.out; go_simp)
                            (try simp only [Act.put, gA, gS, gZ, sA, sZ, sS])
                            refine wpQuiet_nil ?_
                            intro w165 hC
                            have K165 := Lib.hid (show Kx w [(b1, plA x (.slice ap np mp) (.slice az ns ms) (.slice (some ⟨g, off, none⟩) nf mf), 29), (b11, t3A i, 35), (b21, t3A j, 35), (b42, fA Y, 42), (b61, #[.slice (some ⟨gs, 0, none⟩) sl x2, .int .i64 7, .bool lb, .bool full], 48), (b63, #[.slice (some ⟨gw, 0, none⟩) sl y2, .int .i64 7, .bool lb, .bool full], 48), (b68, kyA vd aq, 63), (b122, vlA VV, 73)] ((bdO w.heap.size 81 19 snC (.slice (some ⟨gw, 0, none⟩) sl y2) (sent)).and ((bdT w j V T l2).and ((bdT w i V T l2).and ((PV).and (bdO w.heap.size 81 19 snC (.slice (some ⟨gs, 0, none⟩) sl x2) (sent)))))) w165 from hC)
                            clear hC
                            go_wp2_with fail
                            go_roundw
                            case rel => exact ⟨jj + 1, by have := HJ2.out; omega, by go_num, K165.out⟩
                            case measure => have := HJ2.out; simp [intOf]; omega
                          case neg =>
                            have c1 : sl ≤ jj := by omega
                            clear c0
                            go_upto_region 43 with fail
                            refine wp_region_lit ?_
                            refine wv (.int .i64 (jj : Nat)) ?_
                            (try simp only [Act.put, gA, gS, gZ, sA, sZ, sS])
                            refine wv (.pointer (some ⟨b61, 0, none⟩)) ?_
                            (try simp only [Act.put, gA, gS, gZ, sA, sZ, sS])
                            refine wv (.slice x1 sl x2) ?_ (hrun := by have q : wr.cell? ⟨b61, 0, none⟩ = some (.slice x1 sl x2) := KQ2.out.cell (i := 4) rfl (by rfl); go_simp)
                            (try simp only [Act.put, gA, gS, gZ, sA, sZ, sS])
                            refine wv (.int .i64 (sl : Nat)) ?_
                            (try simp only [Act.put, gA, gS, gZ, sA, sZ, sS])
                            refine wv (.bool false) ?_ (hrun := by go_simp <;> omega)
                            (try simp only [Act.put, gA, gS, gZ, sA, sZ, sS])
                            refine wpList_nil ?_
                            go_upto_region 47 with fail
                            have HLL := Lib.hid (show l2.length ≤ 100 by have := HF1.out; have := HKK.out; omega)
                            obtain ⟨nl, hnl⟩ : ∃ nl, nl = l2.length := ⟨_, rfl⟩
                            have HNL := Lib.hid hnl
                            have i7 : (nl : Int) ≤ 100 := by have := HLL.out; omega
                            clear hnl
                            refine rk (fun (s : (Option Addr × Nat) × (Option Addr × Nat)) => [.pointer (some ⟨b11, 2, none⟩), .pointer (some ⟨i.b3, 0, none⟩), .slice s.1.1 nl s.1.2, .pointer (some ⟨b21, 2, none⟩), .pointer (some ⟨j.b3, 0, none⟩), .slice s.2.1 nl s.2.2, .slice s.1.1 nl s.1.2, .slice s.2.1 nl s.2.2]) (fun s Lx w' => ((Lx 2 = true → Src w' enC (.slice s.1.1 nl s.1.2) l2) ∧ (Lx 5 = true → Src w' enC (.slice s.2.1 nl s.2.2) l2) ∧ Kx w [(b1, plA x (.slice ap np mp) (.slice az ns ms) (.slice (some ⟨g, off, none⟩) nf mf), 29), (b11, t3A i, 35), (b21, t3A j, 35), (b42, fA Y, 42), (b61, #[.slice x1 sl x2, .int .i64 7, .bool lb, .bool full], 48), (b63, #[.slice y1 sl y2, .int .i64 7, .bool lb, .bool full], 48), (b68, kyA vd aq, 63), (b122, vlA VV, 73)] ((bdO w.heap.size 81 19 snC (.slice y1 sl y2) (sent)).and ((bdT w j V T l2).and ((bdT w i V T l2).and ((PV).and (bdO w.heap.size 81 19 snC (.slice x1 sl x2) (sent)))))) w')) (((none, 0), (none, 0))) [] [(1, fun s => ⟨b11, 2, none⟩), (4, fun s => ⟨b21, 2, none⟩)] [(2, fun s => [(268, .pointer (some ⟨i.b3, 0, none⟩))]), (5, fun s => [(271, .pointer (some ⟨j.b3, 0, none⟩))])] [2, 5] ?_ ?_ ?_ ?_ ?_
                            · exact ⟨(fun h => by cases h), (fun h => by cases h), KQ2.out.drew⟩
                            · intro s L w' h; exact ⟨fun _ => Kx.cell (i := 1) h.2.2 rfl (by rfl), fun _ => Kx.cell (i := 2) h.2.2 rfl (by rfl), trivial⟩
                            · intro s L1 L2 w' e h; (try dsimp only at h ⊢); rw [← e 2 (by simp), ← e 5 (by simp)]; exact h
                            · refine ⟨?_, ?_, trivial⟩ <;> (rintro s Lx w' hw hL haft hdc ρ hc hf hG hs o ho; cases ho; try dsimp only [seen] at hw hs)
                              · obtain ⟨e268, -⟩ := hs
                                refine stepW_call (f := 20) (args := #[.pointer (some ⟨i.b3, 0, none⟩)]) (by go_simp) ((list22 (T3.tabF (w0 := w) (show T3 w i V T l2 w' from hw.2.2.a.2.2.1)) HLL.out).mono ?_)
                                rintro e w9 ⟨v, q1, q2, q3⟩
                                obtain ⟨A9, c9, hv9, -⟩ := src_rows enC_len (by decide) q2
                                rw [← HNL.out] at hv9
                                subst hv9
                                have h9 : Lx 6 = false := by cases cq : Lx 6; rfl; exact absurd (hdc 6 cq 2 (by decide)) (by rw [hL]; decide)
                                exact ⟨_, q1, ((A9, c9), s.2), vs_two (i := 2) (k := 6) rfl hL h9, rfl, fun _ => q2, fun h => src_next (hw.2.1 h) q3, hw.2.2.next q3⟩
                              · obtain ⟨e271, -⟩ := hs
                                refine stepW_call (f := 20) (args := #[.pointer (some ⟨j.b3, 0, none⟩)]) (by go_simp) ((list22 (T3.tabF (w0 := w) (show T3 w j V T l2 w' from hw.2.2.a.2.1)) HLL.out).mono ?_)
                                rintro e w9 ⟨v, q1, q2, q3⟩
                                obtain ⟨A9, c9, hv9, -⟩ := src_rows enC_len (by decide) q2
                                rw [← HNL.out] at hv9
                                subst hv9
                                have h9 : Lx 7 = false := by cases cq : Lx 7; rfl; exact absurd (hdc 7 cq 5 (by decide)) (by rw [hL]; decide)
                                exact ⟨_, q1, (s.1, (A9, c9)), vs_two (i := 5) (k := 7) rfl hL h9, rfl, fun h => src_next (hw.1 h) q3, fun _ => q2, hw.2.2.next q3⟩
                            · rintro ⟨⟨za, zc⟩, ya, yc⟩ Lx w80 hw hall
                              obtain ⟨h1, h2, h3⟩ := hw
                              have S1 := Lib.hid (h1 (hall 2 (by decide)))
                              have S2 := Lib.hid (h2 (hall 5 (by decide)))
                              have K80 := Lib.hid (show Kx w [(b1, plA x (.slice ap np mp) (.slice az ns ms) (.slice (some ⟨g, off, none⟩) nf mf), 29), (b11, t3A i, 35), (b21, t3A j, 35), (b42, fA Y, 42), (b61, #[.slice x1 sl x2, .int .i64 7, .bool lb, .bool full], 48), (b63, #[.slice y1 sl y2, .int .i64 7, .bool lb, .bool full], 48), (b68, kyA vd aq, 63), (b122, vlA VV, 73)] ((bdO w.heap.size 81 19 snC (.slice y1 sl y2) (sent)).and ((bdT w j V T l2).and ((bdT w i V T l2).and ((PV).and (bdO w.heap.size 81 19 snC (.slice x1 sl x2) (sent)))))) w80 from h3)
                              clear h1 h2 h3 hall
                              simp only [List.toList_toArray, putsZ_some, putsZ_none, putsZ_nil, List.setIfInBounds_toArray, List.set_cons_zero, List.set_cons_succ]
                              go_upto_region 48 with fail
                              refine wp_region_lit ?_
                              refine wv (.slice za nl zc) ?_
                              (try simp only [Act.put, gA, gS, gZ, sA, sZ, sS])
                              refine wv (.int .i64 (nl : Nat)) ?_
                              (try simp only [Act.put, gA, gS, gZ, sA, sZ, sS])
                              refine wv (.slice ya nl yc) ?_
                              (try simp only [Act.put, gA, gS, gZ, sA, sZ, sS])
                              refine wv (.int .i64 (nl : Nat)) ?_
                              (try simp only [Act.put, gA, gS, gZ, sA, sZ, sS])
                              refine wv (.bool false) ?_
                              (try simp only [Act.put, gA, gS, gZ, sA, sZ, sS])
                              refine wpList_nil ?_
                              go_upto_region 50 with fail
                              refine wp_region_lit ?_
                              refine wv (.int .i64 0) ?_
                              (try simp only [Act.put, gA, gS, gZ, sA, sZ, sS])
                              refine wpList_nil ?_
                              go_upto_region 51 with fail
                              go_loopw [28] (fun q wr => ∃ jj : Nat, jj ≤ nl ∧ q = .int .i64 jj ∧ Kx w [] (bdF w w80) wr) (fun q _ => nl - (intOf q).toNat)
                              case atStart => exact ⟨0, Nat.zero_le _, rfl, K80.out.freeze⟩
                              case round =>
                                obtain ⟨jj, hj, rfl, hK⟩ := hrel
                                have KF := Lib.hid hK
                                have HB8 := Lib.hid (K80.out.frozen hK)
                                have HJ := Lib.hid hj
                                clear hK hj
                                have e1 : (0 : Int) ≤ (jj : Int) := by omega
                                by_cases c0 : jj < nl
                                case neg =>
                                  have c1 : nl ≤ jj := by omega
                                  clear c0
                                  go_upto_region 51 with fail
                                  refine wp_region_lit ?_
                                  refine wv (.int .i64 (jj : Nat)) ?_
                                  (try simp only [Act.put, gA, gS, gZ, sA, sZ, sS])
                                  refine wv (.slice za nl zc) ?_
                                  (try simp only [Act.put, gA, gS, gZ, sA, sZ, sS])
                                  refine wv (.int .i64 (nl : Nat)) ?_
                                  (try simp only [Act.put, gA, gS, gZ, sA, sZ, sS])
                                  refine wv (.bool false) ?_ (hrun := by go_simp <;> omega)
                                  (try simp only [Act.put, gA, gS, gZ, sA, sZ, sS])
                                  refine wpList_nil ?_
                                  go_wp2_with fail
                                  go_roundw
                                  case rel => exact ⟨k + 1, l2, by have := HLT.out; omega, by have := HLT.out; omega, by have := HKK.out; have := HF1.out; omega, by go_num, by have q := (Kx.left (l := [(b1, plA x (.slice ap np mp) (.slice az ns ms) (.slice (some ⟨g, off, none⟩) nf mf), 29), (b11, t3A i, 35), (b21, t3A j, 35)]) (r := [(b42, fA Y, 42), (b61, #[.slice x1 sl x2, .int .i64 7, .bool lb, .bool full], 48), (b63, #[.slice y1 sl y2, .int .i64 7, .bool lb, .bool full], 48), (b68, kyA vd aq, 63), (b122, vlA VV, 73)]) (K80.out.next HB8.out)).turn (A' := (bdT w i V T l2).and ((PV).and (bdT w j V T l2))) (fun h => ⟨h.2.2.1, h.2.2.2.1, h.2.1⟩) (fun k q => by rcases q with q | q | q; exact .inr (.inr (.inl q)); exact .inr (.inr (.inr (.inl q))); exact .inr (.inl q)); rw [HPV.out] at q; exact q⟩
                                  case measure => have := HLT.out; simp [intOf]; omega
                                case pos => as_aux_lemma =>
                                  have c1 : (jj : Int) < (nl : Int) := by omega
                                  obtain ⟨s, hs⟩ : ∃ s, l2[jj]? = some s := ⟨_, List.getElem?_eq_getElem (by rw [← HNL.out]; exact c0)⟩
                                  obtain ⟨A1, cc1, e2, r1⟩ := src_rows enC_len (by decide) S1.out
                                  obtain ⟨A2, cc2, e3, r2⟩ := src_rows enC_len (by decide) S2.out
                                  injection e2 with e2 e4 e5
                                  injection e3 with e3 e6 e7
                                  clear e4 e5 e6 e7
                                  subst e2 e3
                                  obtain ⟨g1, o1, rfl, r3⟩ := rows_range r1 hs
                                  obtain ⟨g2, o2, rfl, r4⟩ := rows_range r2 hs
                                  have HR1 := Lib.hid r3
                                  have HR2 := Lib.hid r4
                                  have HEQ := Lib.hid (equal_en s)
                                  have HJ2 := Lib.hid c0
                                  clear hs r1 r2 r3 r4 c0
                                  go_upto_region 51 with fail
                                  refine wp_region_lit ?_
                                  refine wv (.int .i64 (jj : Nat)) ?_
                                  (try simp only [Act.put, gA, gS, gZ, sA, sZ, sS])
                                  refine wv (.slice (some ⟨g1, o1, none⟩) nl zc) ?_
                                  (try simp only [Act.put, gA, gS, gZ, sA, sZ, sS])
                                  refine wv (.int .i64 (nl : Nat)) ?_
                                  (try simp only [Act.put, gA, gS, gZ, sA, sZ, sS])
                                  refine wv (.bool true) ?_
                                  (try simp only [Act.put, gA, gS, gZ, sA, sZ, sS])
                                  refine wpList_nil ?_
                                  go_upto_region 53 with fail
                                  refine wp_region_quiet (C := fun W => Kx w [] (bdF w w80) W) (by kernel_rfl) (by kernel_rfl) KF.out.drew ?_
                                  refine qv (.slice (some ⟨g1, o1, none⟩) nl zc) ?_
                                  (try simp only [Act.put, gA, gS, gZ, sA, sZ, sS])
                                  refine qv (.int .i64 (jj : Nat)) ?_
                                  (try simp only [Act.put, gA, gS, gZ, sA, sZ, sS])
                                  refine qv (.pointer (some ⟨g1, o1 + jj * 9, none⟩)) ?_
                                  (try simp only [Act.put, gA, gS, gZ, sA, sZ, sS])
                                  refine qv (.agg (enA s)) ?_ (hv := fun wv hC => run_loadRange 67 _ rfl g1 (o1 + jj * 9) rfl (enA s) _ (HR1.out _ (K80.out.frozen (Lib.hid hC).out)) Tryd.underlying67 rfl (enSz))
                                  (try simp only [Act.put, gA, gS, gZ, sA, sZ, sS])
                                  refine qv (.slice (some ⟨g2, o2, none⟩) nl yc) ?_
                                  (try simp only [Act.put, gA, gS, gZ, sA, sZ, sS])
                                  refine qv (.int .i64 (jj : Nat)) ?_
                                  (try simp only [Act.put, gA, gS, gZ, sA, sZ, sS])
                                  refine qv (.pointer (some ⟨g2, o2 + jj * 9, none⟩)) ?_
                                  (try simp only [Act.put, gA, gS, gZ, sA, sZ, sS])
                                  refine qv (.agg (enA s)) ?_ (hv := fun wv hC => run_loadRange 67 _ rfl g2 (o2 + jj * 9) rfl (enA s) _ (HR2.out _ (K80.out.frozen (Lib.hid hC).out)) Tryd.underlying67 rfl (enSz))
                                  (try simp only [Act.put, gA, gS, gZ, sA, sZ, sS])
                                  refine qv (.bool false) ?_ (hv := fun wv hC => by have q := HEQ.out; go_simp)
                                  (try simp only [Act.put, gA, gS, gZ, sA, sZ, sS])
                                  refine wpQuiet_nil ?_
                                  intro w205 hC
                                  have K205 := Lib.hid (show Kx w [] (bdF w w80) w205 from hC)
                                  clear hC
                                  go_wp2_with fail
                                  go_roundw
                                  case rel => exact ⟨jj + 1, by have := HJ2.out; omega, by go_num, K205.out⟩
                                  case measure => have := HJ2.out; simp [intOf]; omega
end
end Go.Proofs.YtelohoomlgjjmaaDoor
