import Derived.Test.YtelohoomlgjjmaaDoorG15
set_option linter.unusedSimpArgs false
set_option linter.unusedVariables false
namespace Go.Proofs.YtelohoomlgjjmaaDoor
section
/- The tables and the ports of the laws are made. -/
open Go.RowKit
attribute [local irreducible] wpQuiet wpList

theorem u16_and_nat (a b : Nat) (ha : a < 65536) (hb : b < 65536) : bits .and .u16 (a : Int) (b : Int) = ((a &&& b : Nat) : Int) := by
  have hx : a &&& b < 2 ^ 16 := Nat.and_lt_two_pow _ (by omega)
  show IntKind.u16.wrap ((BitVec.ofInt 16 (a : Int) &&& BitVec.ofInt 16 (b : Int)).toNat : Int) = _
  rw [BitVec.toNat_and]
  have e : ∀ c : Nat, c < 65536 → (BitVec.ofInt 16 (c : Int)).toNat = c := fun c hc => by rw [BitVec.ofInt_natCast, BitVec.toNat_ofNat]; omega
  rw [e a ha, e b hb]
  simp [IntKind.wrap, IntKind.bits, IntKind.signed]
  omega
theorem built_vl (x : Vl) : Tryd.prog.built 73 [(0, .int .u16 (x.vid : Nat)), (1, .int .u32 (x.mem : Nat)), (2, .int .u32 (x.unt : Nat))] = some (vlA x) := by kernel_rfl
theorem built_key1 (a : Nat) : Tryd.prog.built 63 [(0, .int .u16 1), (1, .agg (macA (byteF a)))] = some (kyA 1 a) := by kernel_rfl
theorem built_se (a p : Nat) : Tryd.prog.built 95 [(0, .agg (kyA 1 a)), (1, .int .u32 (p : Nat))] = some (seA ⟨1, a, p⟩) := by kernel_rfl
def poM (ra rb rc : Nat) (fi up : Bool) : Po := ⟨((1 + ra : Nat) : Int), (rb : Nat), fi, 0, 0, false, true, up, false, false, 0, (rc : Nat), 0, 0, 0, 0, 0, 0, 0, 0, 0⟩
theorem built_pm (ra rb rc : Nat) (fi up : Bool) : Tryd.prog.built 58 [(0, .agg #[.int .u16 ((1 + ra : Nat) : Int), .int .i64 (rb : Nat), .bool fi]), (5, .bool up), (4, .bool true), (9, .int .i64 (rc : Nat))] = some (poA (poM ra rb rc fi up)) := by kernel_rfl
set_option maxRecDepth 100000 in
theorem one_po (x : Po) : ∀ W : World, (Instr.buildSlice 36 1 #[(0, poV x)]).run Tryd.prog W = .ok (.slice (some ⟨W.heap.size, 0, none⟩) 1 1) (W.alloc (.cells (poA x) 58)) := fun W => by
  unfold poV poA
  have u := Tryd.underlying36
  go_simp
set_option maxRecDepth 100000 in
set_option maxHeartbeats 8000000 in
theorem made_any (x : Py) (hx : x.ok) (lp : List Lp) (lst : List (Nat × Nat)) (sf : Value) (ap az : Option Addr) (np mp ns ms : Nat) (w : World) (hp : RowsAt w ap 5 lpC lp) (hs : RowsAt w az 2 stC lst) (hlp : lp.length = np) (hls : lst.length = ns) (hmp : np ≤ mp ∧ mp ≤ maxLen) (hms : ns ≤ ms ∧ ms ≤ maxLen) (hok : ∀ y ∈ lp, y.ok) (hst : ∀ p ∈ lst, p.1 < 65536 ∧ p.2 < 65536) :
    Calls Tryd.prog 6 #[.agg (plA x (.slice ap np mp) (.slice az ns ms) sf)] w fun e w' => ∃ (i : Ix) (a : Option Addr) (n m : Nat), e = .returned (.tuple #[.agg (t3A i), .slice a n m]) ∧ i.mo = ((1 + x.room % 6 : Nat) : Int) ∧ i.li = 20 ∧ ((lp.take 8).map madeP).length = n ∧ n ≤ m ∧ m ≤ maxLen ∧
      Kx w [] ((bdT w i (madeV x 3) (madeT (lst.take 6)) []).and (bdO w.heap.size 58 21 poC (.slice a n m) ((lp.take 8).map madeP))) w' ∧ ∀ k, (Value.slice a n m).ownBlock = some k → ¬ (bdT w i (madeV x 3) (madeT (lst.take 6)) []).f k := by
  have HX := Lib.hid hx
  have HP := Lib.hid hp
  have HS := Lib.hid hs
  have HLP := Lib.hid hlp
  have HLS := Lib.hid hls
  have HMP := Lib.hid hmp
  have HMS := Lib.hid hms
  have HOK := Lib.hid hok
  have HST := Lib.hid hst
  have i1 : (np : Int) ≤ 9223372036854775807 := by unfold maxLen at hmp; omega
  have i2 : (ns : Int) ≤ 9223372036854775807 := by unfold maxLen at hms; omega
  have i3 : (np : Int) ≤ (mp : Int) := by omega
  have i4 : (ns : Int) ≤ (ms : Int) := by omega
  have K := Lib.hid (Kb.nil w)
  obtain ⟨r, h0, l0⟩ : ∃ r : Nat, r = x.room % 6 ∧ r < 6 := ⟨_, rfl, Nat.mod_lt _ (by decide)⟩
  have Hr := Lib.hid (show (x.room : Int) % 6 = (r : Int) ∧ (r : Int) < 6 by omega)
  have HRM := Lib.hid h0
  have HYI := Lib.hid (show (x.room : Int) < 256 by have := hx.2; omega)
  rw [← h0]
  clear hx hp hs hlp hls hmp hms hok hst h0 l0
  go_enter Tryd.func6, Tryd.ntmps6
  go_upto_region 0 with fail
  refine wp_region_lit ?_
  refine kb_box K.out 29 (.tmp 0) (plA x (.slice ap np mp) (.slice az ns ms) sf) rfl rfl (by rfl) ?_
  intro b1 w1 hb1 hk
  have K1 := Lib.hid (show Kb w [(b1, plA x (.slice ap np mp) (.slice az ns ms) sf, 29)] w1 from hk)
  clear hk hb1
  (try simp only [Act.put, gA, gS, gZ, sA, sZ, sS])
  refine kb_alloc K1.out 35 (#[.pointer none, .pointer none, .pointer none]) rfl zT (by rfl) ?_
  intro b2 w2 hb2 hk
  have K2 := Lib.hid (show Kb w [(b1, plA x (.slice ap np mp) (.slice az ns ms) sf, 29), (b2, #[.pointer none, .pointer none, .pointer none], 35)] w2 from hk)
  clear hk hb2
  (try simp only [Act.put, gA, gS, gZ, sA, sZ, sS])
  refine wv (.slice none 0 0) ?_
  (try simp only [Act.put, gA, gS, gZ, sA, sZ, sS])
  refine wpList_nil ?_
  go_upto_region 1 with fail
  refine rk (fun (s : Ix × Nat) => [.pointer (some ⟨s.1.b1, 0, none⟩), .pointer (some ⟨s.1.b2, 0, none⟩), .pointer (some ⟨b1, 8, none⟩), .int .u8 (x.room : Nat), .int .u8 (r : Nat), .int .i64 (r : Nat), .int .i64 ((1 + r : Nat) : Int), .pointer (some ⟨s.1.b3, 0, none⟩), .agg (t3A s.1), .pointer (some ⟨s.2, 0, none⟩), undef]) (fun s Lx w' => MkT w [(b1, plA x (.slice ap np mp) (.slice az ns ms) sf, 29), (b2, #[.pointer none, .pointer none, .pointer none], 35)] w2.heap.size ((1 + r : Nat) : Int) s.1 s.2 (Lx 0) (Lx 1) (Lx 7) (Lx 9) (Lx 10) w' ∧ s.1.mo = ((1 + r : Nat) : Int) ∧ s.1.li = 20) (⟨0, 0, 0, 0, 0, 0, 0, 0, 0, ((1 + r : Nat) : Int), 20⟩, 0) [] [(3, fun s => ⟨b1, 8, none⟩)] [(0, fun s => []), (1, fun s => []), (4, fun s => [(13, .int .u8 (x.room : Nat))]), (5, fun s => [(14, .int .u8 (r : Nat))]), (6, fun s => [(15, .int .i64 (r : Nat))]), (7, fun s => [(16, .int .i64 ((1 + r : Nat) : Int))]), (8, fun s => [(10, .pointer (some ⟨s.1.b1, 0, none⟩)), (11, .pointer (some ⟨s.1.b2, 0, none⟩)), (17, .pointer (some ⟨s.1.b3, 0, none⟩))]), (9, fun s => []), (10, fun s => [(4, .pointer (some ⟨s.2, 0, none⟩)), (18, .agg (t3A s.1))])] [0, 1, 7, 9, 10] ?_ ?_ ?_ ?_ ?_
  · exact ⟨⟨K2.out.drew, Nat.le_refl _, (fun q => by cases q), (fun q => by cases q), (fun q => by cases q), (fun q => by cases q), (fun q => by cases q), (fun q => by cases q), (fun q => by cases q)⟩, rfl, rfl⟩
  · intro s L w' hw; exact ⟨fun _ => Kb.cell (i := 0) hw.1.kb rfl (by rfl), trivial⟩
  · intro s L1 L2 w' e h; (try dsimp only at h ⊢); rw [← e 0 (by simp), ← e 1 (by simp), ← e 7 (by simp), ← e 9 (by simp), ← e 10 (by simp)]; exact h
  · refine ⟨?_, ?_, ?_, ?_, ?_, ?_, ?_, ?_, ?_, trivial⟩ <;> (rintro s Lx w' hw hL haft hdc ρ hc hf hG hs o ho; cases ho; try dsimp only [seen] at hw hs)
    · skip
      have h1 : Lx 1 = false := by cases cq : Lx 1; rfl; exact absurd (hdc 1 cq 0 (by decide)) (by rw [hL]; decide)
      have h7 : Lx 7 = false := by cases cq : Lx 7; rfl; exact absurd (hdc 1 (hdc 7 cq 1 (by decide)) 0 (by decide)) (by rw [hL]; decide)
      have h8 : Lx 8 = false := by cases cq : Lx 8; rfl; exact absurd (hdc 8 cq 0 (by decide)) (by rw [hL]; decide)
      have h10 : Lx 10 = false := by cases cq : Lx 10; rfl; exact absurd (hdc 10 cq 0 (by decide)) (by rw [hL]; decide)
      obtain ⟨hw, hmo, hli⟩ := hw
      rw [hL, h1, h7, h10] at hw
      refine stepW_call (f := 22) (args := #[]) (by go_simp) ((new_tm w').mono ?_)
      rintro e w9 ⟨bb, q1, q2, q3⟩
      refine ⟨_, q1, ({ s.1 with b1 := bb, a1 := w'.heap.size, z1 := w9.heap.size }, s.2), vs_two (i := 0) (k := 8) rfl hL h8, rfl, ?_, hmo, hli⟩
      show MkT _ _ _ _ _ _ true (Lx 1) (Lx 7) (Lx 9) (Lx 10) w9
      rw [h1, h7, h10]
      exact hw.make0 q2 q3
    · skip
      have h7 : Lx 7 = false := by cases cq : Lx 7; rfl; exact absurd (hdc 7 cq 1 (by decide)) (by rw [hL]; decide)
      have h8 : Lx 8 = false := by cases cq : Lx 8; rfl; exact absurd (hdc 8 cq 1 (by decide)) (by rw [hL]; decide)
      have h10 : Lx 10 = false := by cases cq : Lx 10; rfl; exact absurd (hdc 10 cq 1 (by decide)) (by rw [hL]; decide)
      obtain ⟨hw, hmo, hli⟩ := hw
      rw [haft 0 (by decide), hL, h7, h10] at hw
      refine stepW_call (f := 23) (args := #[]) (by go_simp) ((new_ts w').mono ?_)
      rintro e w9 ⟨bb, q1, q2, q3⟩
      refine ⟨_, q1, ({ s.1 with b2 := bb, a2 := w'.heap.size, z2 := w9.heap.size }, s.2), vs_two (i := 1) (k := 8) rfl hL h8, rfl, ?_, hmo, hli⟩
      show MkT _ _ _ _ _ _ (Lx 0) true (Lx 7) (Lx 9) (Lx 10) w9
      rw [haft 0 (by decide), h7, h10]
      exact hw.make1 q2 q3
    · obtain ⟨e13, -⟩ := hs
      exact sq (.int .u8 (r : Nat)) (by have q0 := Hr.out.1; have q2 := Hr.out.2; have q1 := HYI.out; go_simp; first | exact wrS (by omega) (by omega) | exact wrU (by simp) (by omega) (by omega) | exact tmN q0 | omega)
    · obtain ⟨e14, -⟩ := hs
      exact sq (.int .i64 (r : Nat)) (by have q0 := Hr.out.1; have q2 := Hr.out.2; have q1 := HYI.out; go_simp; first | exact wrS (by omega) (by omega) | exact wrU (by simp) (by omega) (by omega) | exact tmN q0 | omega)
    · obtain ⟨e15, -⟩ := hs
      exact sq (.int .i64 ((1 + r : Nat) : Int)) (by have q0 := Hr.out.1; have q2 := Hr.out.2; have q1 := HYI.out; go_simp; first | exact wrS (by omega) (by omega) | exact wrU (by simp) (by omega) (by omega) | exact tmN q0 | omega)
    · obtain ⟨e16, -⟩ := hs
      have h8 : Lx 8 = false := by cases cq : Lx 8; rfl; exact absurd (hdc 8 cq 7 (by decide)) (by rw [hL]; decide)
      have h10 : Lx 10 = false := by cases cq : Lx 10; rfl; exact absurd (hdc 10 cq 7 (by decide)) (by rw [hL]; decide)
      obtain ⟨hw, hmo, hli⟩ := hw
      have l0 : Lx 0 = true := hdc 1 (haft 1 (by decide)) 0 (by decide)
      rw [l0, haft 1 (by decide), hL, h10] at hw
      have hcl := new_tf ((1 + r : Nat) : Int) 20 w'
      rw [show clampD 64 ((1 + r : Nat) : Int) = ((1 + r : Nat) : Int) by have := Hr.out.2; unfold clampD; omega, show clampD 1000 20 = 20 by decide] at hcl
      refine stepW_call (f := 24) (args := #[.int .i64 ((1 + r : Nat) : Int), .int .i64 20]) (by go_simp) ((hcl).mono ?_)
      rintro e w9 ⟨bb, q1, q2, q3⟩
      refine ⟨_, q1, ({ s.1 with b3 := bb, a3 := w'.heap.size, z3 := w9.heap.size }, s.2), vs_two (i := 7) (k := 8) rfl hL h8, rfl, ?_, hmo, hli⟩
      show MkT _ _ _ _ _ _ (Lx 0) (Lx 1) true (Lx 9) (Lx 10) w9
      rw [l0, haft 1 (by decide), h10]
      exact hw.make7 q2 q3
    · obtain ⟨e10, e11, e17, -⟩ := hs
      exact sq (.agg (t3A s.1)) (l_build 35 [(0, .tmp 10), (1, .tmp 11), (2, .tmp 17)] rfl _ (t3A s.1) (by simp only [List.map_cons, List.map_nil, e10, e11, e17] <;> rfl) (by kernel_rfl))
    · skip
      have h10 : Lx 10 = false := by cases cq : Lx 10; rfl; exact absurd (hdc 10 cq 9 (by decide)) (by rw [hL]; decide)
      obtain ⟨hw, hmo, hli⟩ := hw
      rw [hL, h10] at hw
      have hz := zT w'
      exact sw (w' := w'.alloc (.cells #[.pointer none, .pointer none, .pointer none] 35)) (.pointer (some ⟨w'.heap.size, 0, none⟩)) (by go_simp) ⟨(s.1, w'.heap.size), vs_other (i := 9) rfl hL, rfl, by show MkT _ _ _ _ _ _ (Lx 0) (Lx 1) (Lx 7) true (Lx 10) _; rw [h10]; exact hw.make9, hmo, hli⟩
    · obtain ⟨e4, e18, -⟩ := hs
      obtain ⟨hw, hmo, hli⟩ := hw
      rw [haft 0 (by decide), haft 1 (by decide), haft 7 (by decide), haft 9 (by decide), hL] at hw
      exact sr 35 _ _ rfl s.2 (t3A s.1) e4 e18 35 #[.pointer none, .pointer none, .pointer none] (hw.c9 rfl).1 t3Size rfl (t3_one _) ⟨s, fun _ _ => rfl, rfl, by show MkT _ _ _ _ _ _ (Lx 0) (Lx 1) (Lx 7) (Lx 9) true _; rw [haft 0 (by decide), haft 1 (by decide), haft 7 (by decide), haft 9 (by decide)]; exact hw.make10 (fun x hx => (K2.out.all x hx).lt), hmo, hli⟩
  · rintro ⟨i, ct⟩ Lx w20 ⟨hw, hmo, hli⟩ hall
    rw [hall 0 (by decide), hall 1 (by decide), hall 7 (by decide), hall 9 (by decide), hall 10 (by decide)] at hw
    clear hall
    simp only [List.toList_toArray, putsZ_some, putsZ_none, putsZ_nil, List.setIfInBounds_toArray, List.set_cons_zero, List.set_cons_succ]
    have K20 := Lib.hid (show Kx w [(b1, plA x (.slice ap np mp) (.slice az ns ms) sf, 29), (b2, #[.pointer none, .pointer none, .pointer none], 35), (ct, t3A i, 35)] ((bdT w i (madeV x 0) [] []).and Bd.nil) w20 from (hw.kx (fun x hx => (K2.out.all x hx).lt) K2.out.below.size hmo hli).turn (fun h => ⟨h, trivial⟩) (fun k q => q.elim id False.elim))
    have HMO := Lib.hid hmo
    have HLI := Lib.hid hli
    clear hw hmo hli
    go_upto_region 2 with fail
    refine wp_region_lit ?_
    refine wv (.int .i64 0) ?_
    (try simp only [Act.put, gA, gS, gZ, sA, sZ, sS])
    refine wpList_nil ?_
    go_upto_region 3 with fail
    go_loopw [5] (fun q wr => ∃ k : Nat, k ≤ 3 ∧ q = .int .i64 k ∧ Kx w [(b1, plA x (.slice ap np mp) (.slice az ns ms) sf, 29), (b2, #[.pointer none, .pointer none, .pointer none], 35), (ct, t3A i, 35)] ((bdT w i (madeV x k) ([]) []).and Bd.nil) wr) (fun q _ => 3 - (intOf q).toNat)
    case atStart => exact ⟨0, by omega, rfl, K20.out⟩
    case round =>
      obtain ⟨k, hk, rfl, hK⟩ := hrel
      have KR := Lib.hid hK
      clear hK K20
      by_cases c0 : k < 3
      case pos =>
        have c1 : (k : Int) < 3 := by omega
        have c2 : (0 : Int) ≤ (k : Int) := by omega
        have HK3 := Lib.hid c0
        obtain ⟨m, hm⟩ : ∃ m, m = x.v (2 * k) := ⟨_, rfl⟩
        obtain ⟨u, hu⟩ : ∃ u, u = x.v (2 * k + 1) := ⟨_, rfl⟩
        have HMU := Lib.hid (show (m : Int) < 65536 ∧ (u : Int) < 65536 ∧ ((m &&& u : Nat) : Int) < 65536 by have q1 := HX.out.1 (2 * k); have q2 := HX.out.1 (2 * k + 1); have q3 : m &&& u ≤ m := Nat.and_le_left; omega)
        obtain ⟨an, han⟩ : ∃ an, an = m &&& u := ⟨_, rfl⟩
        have HV := Lib.hid (show vlM x k = ⟨1 + k, m, an⟩ by unfold vlM; rw [han, hm, hu])
        have HAN := Lib.hid han
        have hv1 : madeV x (k + 1) = setV (madeV x k) (vlM x k) := rfl
        have HV1 := Lib.hid hv1
        have HC := Lib.hid (show (plA x (.slice ap np mp) (.slice az ns ms) sf)[1 + k * 2]? = some (.int .u16 (m : Nat)) ∧ (plA x (.slice ap np mp) (.slice az ns ms) sf)[1 + k * 2 + 1]? = some (.int .u16 (u : Nat)) by rw [hm, hu]; exact pl_v x _ _ _ c0)
        obtain ⟨V0, hV0⟩ : ∃ V0, V0 = madeV x k := ⟨_, rfl⟩
        rw [← hV0] at KR HV1
        obtain ⟨se, hse⟩ : ∃ se, se = setVE V0 ⟨1 + k, m, an⟩ := ⟨_, rfl⟩
        have HSE := Lib.hid hse
        clear hm hu han hv1 c0 hV0 hse
        go_upto_region 5 with fail
        refine rk (fun (_ : Unit) => [.pointer (some ⟨ct, 0, none⟩), .pointer (some ⟨i.b1, 0, none⟩), .int .i64 (k : Nat), .int .i64 ((1 + k : Nat) : Int), .int .u16 ((1 + k : Nat) : Int), .int .i64 (k : Nat), .pointer (some ⟨b1, 1, none⟩), .pointer (some ⟨b1, 1 + k * 2, none⟩), .pointer (some ⟨b1, 1 + k * 2, none⟩), .int .u16 (m : Nat), .int .u32 (m : Nat), .int .i64 (k : Nat), .pointer (some ⟨b1, 1, none⟩), .pointer (some ⟨b1, 1 + k * 2, none⟩), .pointer (some ⟨b1, 1 + k * 2, none⟩), .int .u16 (m : Nat), .int .i64 (k : Nat), .pointer (some ⟨b1, 1, none⟩), .pointer (some ⟨b1, 1 + k * 2, none⟩), .pointer (some ⟨b1, 1 + k * 2 + 1, none⟩), .int .u16 (u : Nat), .int .u16 (an : Nat), .int .u32 (an : Nat), .agg (vlA ⟨1 + k, m, an⟩), .int .i64 se]) (fun _ Lx w' => Kx w [(b1, plA x (.slice ap np mp) (.slice az ns ms) sf, 29), (b2, #[.pointer none, .pointer none, .pointer none], 35), (ct, t3A i, 35)] ((bdT w i (bif Lx 24 then setV V0 ⟨1 + k, m, an⟩ else V0) [] []).and Bd.nil) w') (()) [] [(1, fun _ => ⟨ct, 0, none⟩), (9, fun _ => ⟨b1, 1 + k * 2, none⟩), (15, fun _ => ⟨b1, 1 + k * 2, none⟩), (20, fun _ => ⟨b1, 1 + k * 2 + 1, none⟩)] [(3, fun _ => [(25, .int .i64 (k : Nat))]), (4, fun _ => [(26, .int .i64 ((1 + k : Nat) : Int))]), (7, fun _ => [(29, .pointer (some ⟨b1, 1, none⟩)), (28, .int .i64 (k : Nat))]), (10, fun _ => [(32, .int .u16 (m : Nat))]), (13, fun _ => [(35, .pointer (some ⟨b1, 1, none⟩)), (34, .int .i64 (k : Nat))]), (18, fun _ => [(40, .pointer (some ⟨b1, 1, none⟩)), (39, .int .i64 (k : Nat))]), (21, fun _ => [(38, .int .u16 (m : Nat)), (43, .int .u16 (u : Nat))]), (22, fun _ => [(44, .int .u16 (an : Nat))]), (23, fun _ => [(27, .int .u16 ((1 + k : Nat) : Int)), (33, .int .u32 (m : Nat)), (45, .int .u32 (an : Nat))]), (24, fun _ => [(24, .pointer (some ⟨i.b1, 0, none⟩)), (46, .agg (vlA ⟨1 + k, m, an⟩))])] [24] ?_ ?_ ?_ ?_ ?_
        · exact KR.out.drew
        · intro s L w' hw; exact ⟨fun _ => Kx.cell (i := 2) hw rfl (by rfl), fun _ => Kx.cell (i := 0) hw rfl HC.out.1, fun _ => Kx.cell (i := 0) hw rfl HC.out.1, fun _ => Kx.cell (i := 0) hw rfl HC.out.2, trivial⟩
        · intro s L1 L2 w' e h; (try dsimp only at h ⊢); rw [← e 24 (by simp)]; exact h
        · refine ⟨?_, ?_, ?_, ?_, ?_, ?_, ?_, ?_, ?_, ?_, trivial⟩ <;> (rintro s Lx w' hw hL haft hdc ρ hc hf hG hs o ho; cases ho; try dsimp only [seen] at hw hs)
          · obtain ⟨e25, -⟩ := hs
            exact sq (.int .i64 ((1 + k : Nat) : Int)) (by have q0 := HMU.out.1; have q1 := HMU.out.2.1; have q2 := HK3.out; go_simp; first | exact wrS (by omega) (by omega) | exact wrU (by simp) (by omega) (by omega) | exact tmN q0 | omega)
          · obtain ⟨e26, -⟩ := hs
            exact sq (.int .u16 ((1 + k : Nat) : Int)) (by have q0 := HMU.out.1; have q1 := HMU.out.2.1; have q2 := HK3.out; go_simp; first | exact wrS (by omega) (by omega) | exact wrU (by simp) (by omega) (by omega) | exact tmN q0 | omega)
          · obtain ⟨e29, e28, -⟩ := hs
            exact sq (.pointer (some ⟨b1, 1 + k * 2, none⟩)) (by have q0 := HK3.out; go_simp)
          · obtain ⟨e32, -⟩ := hs
            exact sq (.int .u32 (m : Nat)) (by have q0 := HMU.out.1; have q1 := HMU.out.2.1; have q2 := HK3.out; go_simp; first | exact wrS (by omega) (by omega) | exact wrU (by simp) (by omega) (by omega) | exact tmN q0 | omega)
          · obtain ⟨e35, e34, -⟩ := hs
            exact sq (.pointer (some ⟨b1, 1 + k * 2, none⟩)) (by have q0 := HK3.out; go_simp)
          · obtain ⟨e40, e39, -⟩ := hs
            exact sq (.pointer (some ⟨b1, 1 + k * 2, none⟩)) (by have q0 := HK3.out; go_simp)
          · obtain ⟨e38, e43, -⟩ := hs
            exact sq (.int .u16 (an : Nat)) (by have q0 := HMU.out.1; have q1 := HMU.out.2.1; have q2 := HMU.out.2.2; have q3 := HAN.out; go_simp; rw [u16_and_nat m u (by omega) (by omega)])
          · obtain ⟨e44, -⟩ := hs
            exact sq (.int .u32 (an : Nat)) (by have q2 := HMU.out.2.2; rw [← HAN.out] at q2; go_simp; first | exact wrS (by omega) (by omega) | exact wrU (by simp) (by omega) (by omega) | exact tmN q0 | omega)
          · obtain ⟨e27, e33, e45, -⟩ := hs
            exact sq (.agg (vlA ⟨1 + k, m, an⟩)) (l_build 73 [(0, .tmp 27), (1, .tmp 33), (2, .tmp 45)] rfl _ (vlA ⟨1 + k, m, an⟩) (by simp only [List.map_cons, List.map_nil, e27, e33, e45]) (built_vl ⟨1 + k, m, an⟩))
          · obtain ⟨e24, e46, -⟩ := hs
            rw [hL] at hw
            have hw : Kx w _ ((bdT w i V0 [] []).and Bd.nil) w' := hw
            refine stepW_call (f := 25) (args := #[.pointer (some ⟨i.b1, 0, none⟩), .agg (vlA ⟨1 + k, m, an⟩)]) (by go_simp) ((kx_setV hw (fun k h => h.elim) ⟨1 + k, m, an⟩).mono ?_)
            rintro e w9 ⟨q1, q2⟩
            exact ⟨_, q1, (), fun _ _ => rfl, by rw [← HSE.out]; rfl, q2⟩
        · rintro _ Lx w31 hw hall
          rw [hall 24 (by decide)] at hw
          clear hall
          simp only [List.toList_toArray, putsZ_some, putsZ_none, putsZ_nil, List.setIfInBounds_toArray, List.set_cons_zero, List.set_cons_succ]
          have K31 := Lib.hid (show Kx w [(b1, plA x (.slice ap np mp) (.slice az ns ms) sf, 29), (b2, #[.pointer none, .pointer none, .pointer none], 35), (ct, t3A i, 35)] ((bdT w i (madeV x (k + 1)) ([]) []).and Bd.nil) w31 by rw [HV1.out, HV.out]; exact hw)
          clear hw
          go_wp2_with fail
          go_roundw
          case rel => exact ⟨k + 1, by have := HK3.out; omega, by go_num, K31.out⟩
          case measure => have := HK3.out; simp [intOf]; omega
      case neg =>
        have hk3 : k = 3 := by omega
        subst hk3
        clear c0
        have K32 := Lib.hid (show Kx w [(b1, plA x (.slice ap np mp) (.slice az ns ms) sf, 29), (b2, #[.pointer none, .pointer none, .pointer none], 35), (ct, t3A i, 35)] ((bdT w i (madeV x 3) (madeT (lst.take 0)) []).and Bd.nil) wr from KR.out)
        clear KR
        go_upto_region 6 with fail
        refine wp_region_lit ?_
        refine wv (.int .i64 0) ?_
        (try simp only [Act.put, gA, gS, gZ, sA, sZ, sS])
        refine wpList_nil ?_
        go_upto_region 7 with fail
        go_loopw [6] (fun q wr => ∃ k : Nat, k ≤ ns ∧ k ≤ 6 ∧ q = .int .i64 k ∧ Kx w [(b1, plA x (.slice ap np mp) (.slice az ns ms) sf, 29), (b2, #[.pointer none, .pointer none, .pointer none], 35), (ct, t3A i, 35)] ((bdT w i (madeV x 3) (madeT (lst.take k)) []).and Bd.nil) wr) (fun q _ => ns - (intOf q).toNat)
        case atStart => exact ⟨0, Nat.zero_le _, Nat.zero_le _, rfl, K32.out⟩
        case round =>
          obtain ⟨k, hk, hk6, rfl, hK⟩ := hrel
          have KR := Lib.hid hK
          have HKK := Lib.hid (And.intro hk hk6)
          clear hK K32
          by_cases c0 : k < ns ∧ k < 6
          case pos =>
            obtain ⟨c1, c2⟩ := c0
            have HLT := Lib.hid (And.intro c1 c2)
            obtain ⟨p, hp⟩ : ∃ p, lst[k]? = some p := ⟨_, List.getElem?_eq_getElem (by rw [HLS.out]; exact c1)⟩
            have hpo := HST.out p (List.mem_of_getElem? hp)
            obtain ⟨p1, p2⟩ := p
            obtain ⟨g, off, haz, hrow⟩ := rows_range HS.out hp
            subst haz
            have HROW := Lib.hid hrow
            have HTK := Lib.hid (madeT_take lst k (p1, p2) hp)
            obtain ⟨q8, h8, l8⟩ : ∃ r : Nat, r = p1 % 8 ∧ r < 8 := ⟨_, rfl, Nat.mod_lt _ (by decide)⟩
            have H8 := Lib.hid (show (p1 : Int) % 8 = (q8 : Int) ∧ (q8 : Int) < 8 by omega)
            have HSM := Lib.hid (show seM (p1, p2) = ⟨1, q8, p2⟩ by unfold seM; rw [h8])
            have HPO := Lib.hid (show (p1 : Int) < 65536 ∧ (p2 : Int) < 65536 by have q1 : p1 < 65536 := hpo.1; have q2 : p2 < 65536 := hpo.2; omega)
            have c4 : (k : Int) < (ns : Int) := by omega
            have c5 : (k : Int) < 6 := by omega
            have c6 : (0 : Int) ≤ (k : Int) := by omega
            have HLN := Lib.hid (show (madeT (lst.take k)).length ≤ 100 by have := madeT_len (lst.take k); rw [List.length_take] at this; omega)
            obtain ⟨T0, hT0⟩ : ∃ T0, T0 = madeT (lst.take k) := ⟨_, rfl⟩
            rw [← hT0] at KR HTK HLN
            obtain ⟨se, hse⟩ : ∃ se, se = setSE T0 ⟨1, q8, p2⟩ := ⟨_, rfl⟩
            have HSE := Lib.hid hse
            clear hp hpo hrow h8 hT0 hse
            go_upto_region 7 with fail
            refine wp_region_lit ?_
            refine wv (.int .i64 (k : Nat)) ?_
            (try simp only [Act.put, gA, gS, gZ, sA, sZ, sS])
            refine wv (.pointer (some ⟨b1, 7, none⟩)) ?_
            (try simp only [Act.put, gA, gS, gZ, sA, sZ, sS])
            refine wv (.slice (some ⟨g, off, none⟩) ns ms) ?_ (hrun := by have q : wr.cell? ⟨b1, 7, none⟩ = some (.slice (some ⟨g, off, none⟩) ns ms) := KR.out.cell (i := 0) rfl (by rfl); go_simp)
            (try simp only [Act.put, gA, gS, gZ, sA, sZ, sS])
            refine wv (.int .i64 (ns : Nat)) ?_
            (try simp only [Act.put, gA, gS, gZ, sA, sZ, sS])
            refine wv (.bool true) ?_
            (try simp only [Act.put, gA, gS, gZ, sA, sZ, sS])
            refine wv (.bool true) ?_
            (try simp only [Act.put, gA, gS, gZ, sA, sZ, sS])
            refine wv (.int .i64 (k : Nat)) ?_
            (try simp only [Act.put, gA, gS, gZ, sA, sZ, sS])
            refine wv (.bool true) ?_
            (try simp only [Act.put, gA, gS, gZ, sA, sZ, sS])
            refine wv (.bool true) ?_ (hrun := run_pick_yes (.tmp 53) (.tmp 55) (.const (.bool false)) _ rfl rfl rfl)
            (try simp only [Act.put, gA, gS, gZ, sA, sZ, sS])
            refine wpList_nil ?_
            go_upto_region 9 with fail
            refine rk (fun (_ : Unit) => [.pointer (some ⟨ct, 1, none⟩), .pointer (some ⟨i.b2, 0, none⟩), .pointer (some ⟨b1, 7, none⟩), .slice (some ⟨g, off, none⟩) ns ms, .int .i64 (k : Nat), .pointer (some ⟨g, off + k * 2, none⟩), .pointer (some ⟨g, off + k * 2, none⟩), .int .u16 (p1 : Nat), .int .u16 (q8 : Nat), .int .u64 (q8 : Nat), .agg (macA (byteF q8)), .agg (kyA 1 q8), .pointer (some ⟨b1, 7, none⟩), .slice (some ⟨g, off, none⟩) ns ms, .int .i64 (k : Nat), .pointer (some ⟨g, off + k * 2, none⟩), .pointer (some ⟨g, off + k * 2 + 1, none⟩), .int .u16 (p2 : Nat), .int .u32 (p2 : Nat), .agg (seA ⟨1, q8, p2⟩), .int .i64 se]) (fun _ Lx w' => Kx w [(b1, plA x (.slice ap np mp) (.slice (some ⟨g, off, none⟩) ns ms) sf, 29), (b2, #[.pointer none, .pointer none, .pointer none], 35), (ct, t3A i, 35)] ((bdT w i (madeV x 3) (bif Lx 20 then setS T0 ⟨1, q8, p2⟩ else T0) []).and Bd.nil) w') (()) [] [(1, fun _ => ⟨ct, 1, none⟩), (3, fun _ => ⟨b1, 7, none⟩), (7, fun _ => ⟨g, off + k * 2, none⟩), (13, fun _ => ⟨b1, 7, none⟩), (17, fun _ => ⟨g, off + k * 2 + 1, none⟩)] [(5, fun _ => [(62, .slice (some ⟨g, off, none⟩) ns ms), (63, .int .i64 (k : Nat))]), (8, fun _ => [(66, .int .u16 (p1 : Nat))]), (9, fun _ => [(67, .int .u16 (q8 : Nat))]), (10, fun _ => [(68, .int .u64 (q8 : Nat))]), (11, fun _ => [(69, .agg (macA (byteF q8)))]), (15, fun _ => [(72, .slice (some ⟨g, off, none⟩) ns ms), (73, .int .i64 (k : Nat))]), (18, fun _ => [(76, .int .u16 (p2 : Nat))]), (19, fun _ => [(70, .agg (kyA 1 q8)), (77, .int .u32 (p2 : Nat))]), (20, fun _ => [(60, .pointer (some ⟨i.b2, 0, none⟩)), (78, .agg (seA ⟨1, q8, p2⟩))])] [20] ?_ ?_ ?_ ?_ ?_
            · exact KR.out.drew
            · intro s L w' hw; exact ⟨fun _ => Kx.cell (i := 2) hw rfl (by rfl), fun _ => Kx.cell (i := 0) hw rfl (by rfl), fun _ => by have q := HROW.out w' hw.below 0 (.int .u16 (p1 : Nat)) rfl; exact q, fun _ => Kx.cell (i := 0) hw rfl (by rfl), fun _ => by have q := HROW.out w' hw.below 1 (.int .u16 (p2 : Nat)) rfl; exact q, trivial⟩
            · intro s L1 L2 w' e h; (try dsimp only at h ⊢); rw [← e 20 (by simp)]; exact h
            · refine ⟨?_, ?_, ?_, ?_, ?_, ?_, ?_, ?_, ?_, trivial⟩ <;> (rintro s Lx w' hw hL haft hdc ρ hc hf hG hs o ho; cases ho; try dsimp only [seen] at hw hs)
              · obtain ⟨e62, e63, -⟩ := hs
                exact sq (.pointer (some ⟨g, off + k * 2, none⟩)) (by have q0 := HLT.out; have q1 := HMS.out; go_simp)
              · obtain ⟨e66, -⟩ := hs
                exact sq (.int .u16 (q8 : Nat)) (by have q0 := H8.out.1; have q2 := H8.out.2; have q1 := HPO.out.1; have q3 := HPO.out.2; go_simp; first | exact wrS (by omega) (by omega) | exact wrU (by simp) (by omega) (by omega) | exact tmN q0 | omega)
              · obtain ⟨e67, -⟩ := hs
                exact sq (.int .u64 (q8 : Nat)) (by have q0 := H8.out.1; have q2 := H8.out.2; have q1 := HPO.out.1; have q3 := HPO.out.2; go_simp; first | exact wrS (by omega) (by omega) | exact wrU (by simp) (by omega) (by omega) | exact tmN q0 | omega)
              · obtain ⟨e68, -⟩ := hs
                exact sc (.agg (macA (byteF q8))) 21 #[.int .u64 (q8 : Nat)] (fromInt_any q8 w') (by go_simp) (fun w2 hb => ⟨(), fun _ _ => rfl, rfl, hw.next hb⟩)
              · obtain ⟨e69, -⟩ := hs
                exact sq (.agg (kyA 1 q8)) (l_build 63 [(0, .const (.int .u16 1)), (1, .tmp 69)] rfl _ (kyA 1 q8) (by simp only [List.map_cons, List.map_nil, e69, hc] <;> rfl) (built_key1 q8))
              · obtain ⟨e72, e73, -⟩ := hs
                exact sq (.pointer (some ⟨g, off + k * 2, none⟩)) (by have q0 := HLT.out; have q1 := HMS.out; go_simp)
              · obtain ⟨e76, -⟩ := hs
                exact sq (.int .u32 (p2 : Nat)) (by have q0 := H8.out.1; have q2 := H8.out.2; have q1 := HPO.out.1; have q3 := HPO.out.2; go_simp; first | exact wrS (by omega) (by omega) | exact wrU (by simp) (by omega) (by omega) | exact tmN q0 | omega)
              · obtain ⟨e70, e77, -⟩ := hs
                exact sq (.agg (seA ⟨1, q8, p2⟩)) (l_build 95 [(0, .tmp 70), (1, .tmp 77)] rfl _ (seA ⟨1, q8, p2⟩) (by simp only [List.map_cons, List.map_nil, e70, e77] <;> rfl) (built_se q8 p2))
              · obtain ⟨e60, e78, -⟩ := hs
                rw [hL] at hw
                have hw : Kx w _ ((bdT w i (madeV x 3) T0 []).and Bd.nil) w' := hw
                refine stepW_call (f := 26) (args := #[.pointer (some ⟨i.b2, 0, none⟩), .agg (seA ⟨1, q8, p2⟩)]) (by go_simp) ((kx_setS hw (fun k h => h.elim) ⟨1, q8, p2⟩ (show q8 < 281474976710656 by have := H8.out.2; omega) HLN.out).mono ?_)
                rintro e w9 ⟨q1, q2⟩
                exact ⟨_, q1, (), fun _ _ => rfl, by rw [← HSE.out]; rfl, q2⟩
            · rintro _ Lx w41 hw hall
              rw [hall 20 (by decide)] at hw
              clear hall
              simp only [List.toList_toArray, putsZ_some, putsZ_none, putsZ_nil, List.setIfInBounds_toArray, List.set_cons_zero, List.set_cons_succ]
              have K41 := Lib.hid (show Kx w [(b1, plA x (.slice ap np mp) (.slice (some ⟨g, off, none⟩) ns ms) sf, 29), (b2, #[.pointer none, .pointer none, .pointer none], 35), (ct, t3A i, 35)] ((bdT w i (madeV x 3) (madeT (lst.take (k + 1))) []).and Bd.nil) w41 by rw [HTK.out, HSM.out]; exact hw)
              clear hw
              go_wp2_with fail
              go_roundw
              case rel => exact ⟨k + 1, by have := HLT.out; omega, by have := HLT.out; omega, by go_num, K41.out⟩
              case measure => have := HLT.out; simp [intOf]; omega
          case neg =>
            have hex : k = ns ∨ (k < ns ∧ k = 6) := by have := HKK.out; omega
            have HEX := Lib.hid (show lst.take k = lst.take 6 by
              rcases hex with h | ⟨-, h⟩
              · rw [List.take_of_length_le (by rw [HLS.out]; omega), List.take_of_length_le (by rw [HLS.out]; have := HKK.out.2; omega)]
              · rw [h])
            rw [HEX.out] at KR
            have c6 : (0 : Int) ≤ (k : Int) := by omega
            clear c0
            rcases hex with c1 | ⟨c1, c2⟩
            case' inl =>
              have c3 : ns ≤ k := by omega
              clear c1
              go_upto_region 7 with fail
              refine wp_region_lit ?_
              refine wv (.int .i64 (k : Nat)) ?_
              (try simp only [Act.put, gA, gS, gZ, sA, sZ, sS])
              refine wv (.pointer (some ⟨b1, 7, none⟩)) ?_
              (try simp only [Act.put, gA, gS, gZ, sA, sZ, sS])
              refine wv (.slice az ns ms) ?_ (hrun := by have q : wr.cell? ⟨b1, 7, none⟩ = some (.slice az ns ms) := KR.out.cell (i := 0) rfl (by rfl); go_simp)
              (try simp only [Act.put, gA, gS, gZ, sA, sZ, sS])
              refine wv (.int .i64 (ns : Nat)) ?_
              (try simp only [Act.put, gA, gS, gZ, sA, sZ, sS])
              refine wv (.bool false) ?_ (hrun := by go_simp <;> omega)
              (try simp only [Act.put, gA, gS, gZ, sA, sZ, sS])
              refine wv (.bool false) ?_
              (try simp only [Act.put, gA, gS, gZ, sA, sZ, sS])
              refine wpList_skip (by kernel_rfl) ?_
              (try simp only [Act.put, gA, gS, gZ, sA, sZ, sS])
              refine wpList_skip (by kernel_rfl) ?_
              (try simp only [Act.put, gA, gS, gZ, sA, sZ, sS])
              refine wv (.bool false) ?_ (hrun := run_pick_no (.tmp 53) (.tmp 55) (.const (.bool false)) _ rfl rfl rfl)
              (try simp only [Act.put, gA, gS, gZ, sA, sZ, sS])
              refine wpList_nil ?_
            case' inr =>
              have c3 : (k : Int) < (ns : Int) := by omega
              have c4 : decide ((k : Int) < 6) = false := decide_eq_false (by omega)
              clear c1 c2
              go_upto_region 7 with fail
              refine wp_region_lit ?_
              refine wv (.int .i64 (k : Nat)) ?_
              (try simp only [Act.put, gA, gS, gZ, sA, sZ, sS])
              refine wv (.pointer (some ⟨b1, 7, none⟩)) ?_
              (try simp only [Act.put, gA, gS, gZ, sA, sZ, sS])
              refine wv (.slice az ns ms) ?_ (hrun := by have q : wr.cell? ⟨b1, 7, none⟩ = some (.slice az ns ms) := KR.out.cell (i := 0) rfl (by rfl); go_simp)
              (try simp only [Act.put, gA, gS, gZ, sA, sZ, sS])
              refine wv (.int .i64 (ns : Nat)) ?_
              (try simp only [Act.put, gA, gS, gZ, sA, sZ, sS])
              refine wv (.bool true) ?_
              (try simp only [Act.put, gA, gS, gZ, sA, sZ, sS])
              refine wv (.bool true) ?_
              (try simp only [Act.put, gA, gS, gZ, sA, sZ, sS])
              refine wv (.int .i64 (k : Nat)) ?_
              (try simp only [Act.put, gA, gS, gZ, sA, sZ, sS])
              refine wv (.bool false) ?_
              (try simp only [Act.put, gA, gS, gZ, sA, sZ, sS])
              refine wv (.bool false) ?_ (hrun := run_pick_yes (.tmp 53) (.tmp 55) (.const (.bool false)) _ rfl rfl rfl)
              (try simp only [Act.put, gA, gS, gZ, sA, sZ, sS])
              refine wpList_nil ?_
            all_goals
              clear c3 c6
              go_upto_region 10 with fail
              refine wp_region_lit ?_
              refine wv (.slice none 0 0) ?_
              (try simp only [Act.put, gA, gS, gZ, sA, sZ, sS])
              refine wpList_nil ?_
              go_upto_region 11 with fail
              refine wp_region_lit ?_
              refine wv (.int .i64 0) ?_
              (try simp only [Act.put, gA, gS, gZ, sA, sZ, sS])
              refine wpList_nil ?_
              go_upto_region 12 with fail
              have K60 := Lib.hid (show Kx w [(b1, plA x (.slice ap np mp) (.slice az ns ms) sf, 29), (b2, #[.pointer none, .pointer none, .pointer none], 35), (ct, t3A i, 35)] ((bdT w i (madeV x 3) (madeT (lst.take 6)) []).and (bdO w.heap.size 58 21 poC (.slice none 0 0) ((lp.take 0).map madeP))) wr from KR.out.turn (fun h => ⟨h.1, by rw [List.take_zero]; exact Own.nil _ _ _ _ _⟩) (fun k q => by rcases q with q | q; exact .inl q; cases q))
              clear KR
              go_loopw [7, 8] (fun cur q wr => ∃ k : Nat, k ≤ np ∧ k ≤ 8 ∧ q = .int .i64 k ∧ Kx w [(b1, plA x (.slice ap np mp) (.slice az ns ms) sf, 29), (b2, #[.pointer none, .pointer none, .pointer none], 35), (ct, t3A i, 35)] ((bdT w i (madeV x 3) (madeT (lst.take 6)) []).and (bdO w.heap.size 58 21 poC (cur) ((lp.take k).map madeP))) wr ∧ ∀ z, cur.ownBlock = some z → ¬ (bdT w i (madeV x 3) (madeT (lst.take 6)) []).f z) (fun _ q _ => np - (intOf q).toNat)
              case atStart => exact ⟨0, Nat.zero_le _, Nat.zero_le _, rfl, K60.out, fun z h => (by cases h)⟩
              case round =>
                obtain ⟨k, hk, hk8, rfl, hK, hdis⟩ := hrel
                obtain ⟨ca, cm, hcur, hc1, hc2⟩ := (show Own wr w.heap.size 58 21 poC u7 ((lp.take k).map madeP) from hK.a.2).shape
                obtain ⟨cn, hcn⟩ : ∃ n, n = ((lp.take k).map madeP).length := ⟨_, rfl⟩
                rw [← hcn] at hcur hc1
                subst hcur
                have KR := Lib.hid hK
                have HD := Lib.hid hdis
                have HKK := Lib.hid (And.intro hk hk8)
                have HCN := Lib.hid hcn
                have HCM := Lib.hid (And.intro hc1 hc2)
                clear hK K60 hk hk8 hdis hcn hc1 hc2
                by_cases c0 : k < np ∧ k < 8
                case pos =>
                  obtain ⟨c1, c2⟩ := c0
                  have HLT := Lib.hid (And.intro c1 c2)
                  obtain ⟨y, hp⟩ : ∃ y, lp[k]? = some y := ⟨_, List.getElem?_eq_getElem (by rw [HLP.out]; exact c1)⟩
                  have hyo := HOK.out y (List.mem_of_getElem? hp)
                  obtain ⟨g, off, haz, hrow⟩ := rows_range HP.out hp
                  subst haz
                  have HROW := Lib.hid hrow
                  have HTK := Lib.hid (show (lp.take (k + 1)).map madeP = (lp.take k).map madeP ++ [madeP y] by rw [List.take_add_one, hp]; simp)
                  obtain ⟨ra, ha, la⟩ : ∃ r : Nat, r = y.pv % 4 ∧ r < 4 := ⟨_, rfl, Nat.mod_lt _ (by decide)⟩
                  obtain ⟨rb, hb, lb⟩ : ∃ r : Nat, r = y.ac % 3 ∧ r < 3 := ⟨_, rfl, Nat.mod_lt _ (by decide)⟩
                  obtain ⟨rc, hc, lc⟩ : ∃ r : Nat, r = y.st % 3 ∧ r < 3 := ⟨_, rfl, Nat.mod_lt _ (by decide)⟩
                  have HRA := Lib.hid (show (y.pv : Int) % 4 = (ra : Int) ∧ (ra : Int) < 4 by omega)
                  have HRB := Lib.hid (show (y.ac : Int) % 3 = (rb : Int) ∧ (rb : Int) < 3 by omega)
                  have HRC := Lib.hid (show (y.st : Int) % 3 = (rc : Int) ∧ (rc : Int) < 3 by omega)
                  have HYY := Lib.hid (show (y.pv : Int) < 256 ∧ (y.ac : Int) < 256 ∧ (y.st : Int) < 256 by obtain ⟨q1, q2, q3⟩ := hyo; omega)
                  have HPM := Lib.hid (show madeP y = poM ra rb rc y.fi (!y.off) by unfold madeP poM; rw [ha, hb, hc])
                  have HLN := Lib.hid (show ((lp.take k).map madeP).length ≤ 1000 by rw [List.length_map, List.length_take]; omega)
                  have c4 : (k : Int) < (np : Int) := by omega
                  have c5 : (k : Int) < 8 := by omega
                  have c6 : (0 : Int) ≤ (k : Int) := by omega
                  clear hp hyo hrow ha hb hc la lb lc
                  go_upto_region 12 with fail
                  refine wp_region_lit ?_
                  refine wv (.int .i64 (k : Nat)) ?_
                  (try simp only [Act.put, gA, gS, gZ, sA, sZ, sS])
                  refine wv (.pointer (some ⟨b1, 0, none⟩)) ?_
                  (try simp only [Act.put, gA, gS, gZ, sA, sZ, sS])
                  refine wv (.slice (some ⟨g, off, none⟩) np mp) ?_ (hrun := by have q : wr.cell? ⟨b1, 0, none⟩ = some (.slice (some ⟨g, off, none⟩) np mp) := KR.out.cell (i := 0) rfl (by rfl); go_simp)
                  (try simp only [Act.put, gA, gS, gZ, sA, sZ, sS])
                  refine wv (.int .i64 (np : Nat)) ?_
                  (try simp only [Act.put, gA, gS, gZ, sA, sZ, sS])
                  refine wv (.bool true) ?_
                  (try simp only [Act.put, gA, gS, gZ, sA, sZ, sS])
                  refine wv (.bool true) ?_
                  (try simp only [Act.put, gA, gS, gZ, sA, sZ, sS])
                  refine wv (.int .i64 (k : Nat)) ?_
                  (try simp only [Act.put, gA, gS, gZ, sA, sZ, sS])
                  refine wv (.bool true) ?_
                  (try simp only [Act.put, gA, gS, gZ, sA, sZ, sS])
                  refine wv (.bool true) ?_ (hrun := run_pick_yes (.tmp 85) (.tmp 87) (.const (.bool false)) _ rfl rfl rfl)
                  (try simp only [Act.put, gA, gS, gZ, sA, sZ, sS])
                  refine wpList_nil ?_
                  go_upto_region 14 with fail
                  refine wp_region_lit ?_
                  refine wv (.pointer (some ⟨b1, 0, none⟩)) ?_
                  (try simp only [Act.put, gA, gS, gZ, sA, sZ, sS])
                  refine wv (.slice (some ⟨g, off, none⟩) np mp) ?_ (hrun := by have q : wr.cell? ⟨b1, 0, none⟩ = some (.slice (some ⟨g, off, none⟩) np mp) := KR.out.cell (i := 0) rfl (by rfl); go_simp)
                  (try simp only [Act.put, gA, gS, gZ, sA, sZ, sS])
                  refine wv (.int .i64 (k : Nat)) ?_
                  (try simp only [Act.put, gA, gS, gZ, sA, sZ, sS])
                  refine wv (.pointer (some ⟨g, off + k * 5, none⟩)) ?_ (hrun := by have q0 := HLT.out; have q1 := HMP.out; go_simp)
                  (try simp only [Act.put, gA, gS, gZ, sA, sZ, sS])
                  refine wv (.agg (lpA y)) ?_ (hrun := run_loadRange 86 _ rfl g (off + k * 5) rfl (lpA y) _ (HROW.out _ KR.out.below) Tryd.underlying86 rfl (lpSize))
                  (try simp only [Act.put, gA, gS, gZ, sA, sZ, sS])
                  refine kx_alloc KR.out 86 (#[.bool false, .int .u8 0, .int .u8 0, .bool false, .int .u8 0]) rfl zLp (by rfl) ?_
                  intro b71 w71 hb71 hk
                  have K71 := Lib.hid (show Kx w [(b1, plA x (.slice (some ⟨g, off, none⟩) np mp) (.slice az ns ms) sf, 29), (b2, #[.pointer none, .pointer none, .pointer none], 35), (ct, t3A i, 35), (b71, #[.bool false, .int .u8 0, .int .u8 0, .bool false, .int .u8 0], 86)] ((bdT w i (madeV x 3) (madeT (lst.take 6)) []).and (bdO w.heap.size 58 21 poC (.slice ca cn cm) ((lp.take k).map madeP))) w71 from hk)
                  clear hk hb71
                  (try simp only [Act.put, gA, gS, gZ, sA, sZ, sS])
                  refine kx_row K71.out 3 rfl 86 _ _ (lpA y) rfl rfl rfl rfl (lpSize) (by rfl) (lp_all y) ?_
                  intro w72 hk
                  have K72 := Lib.hid (show Kx w [(b1, plA x (.slice (some ⟨g, off, none⟩) np mp) (.slice az ns ms) sf, 29), (b2, #[.pointer none, .pointer none, .pointer none], 35), (ct, t3A i, 35), (b71, lpA y, 86)] ((bdT w i (madeV x 3) (madeT (lst.take 6)) []).and (bdO w.heap.size 58 21 poC (.slice ca cn cm) ((lp.take k).map madeP))) w72 from hk)
                  clear hk
                  (try simp only [Act.put, gA, gS, gZ, sA, sZ, sS])
                  refine wpList_nil ?_
                  go_upto_region 15 with fail
                  refine wp_region_lit ?_
                  refine wv (.slice ca cn cm) ?_
                  (try simp only [Act.put, gA, gS, gZ, sA, sZ, sS])
                  refine wv (.pointer (some ⟨b71, 4, none⟩)) ?_
                  (try simp only [Act.put, gA, gS, gZ, sA, sZ, sS])
                  refine wv (.int .u8 (y.pv : Nat)) ?_ (hrun := by have q : w72.cell? ⟨b71, 4, none⟩ = some (.int .u8 (y.pv : Nat)) := K72.out.cell (i := 3) rfl (by rfl); go_simp)
                  (try simp only [Act.put, gA, gS, gZ, sA, sZ, sS])
                  refine wv (.int .u8 (ra : Nat)) ?_ (hrun := by have q0 := HRA.out.1; have q2 := HRA.out.2; have q1 := HYY.out.1; have q3 := HYY.out.2.1; have q4 := HYY.out.2.2; go_simp; first | exact wrS (by omega) (by omega) | exact wrU (by simp) (by omega) (by omega) | exact tmN q0 | omega)
                  (try simp only [Act.put, gA, gS, gZ, sA, sZ, sS])
                  refine wv (.int .u16 (ra : Nat)) ?_ (hrun := by have q0 := HRA.out.1; have q2 := HRA.out.2; have q1 := HYY.out.1; have q3 := HYY.out.2.1; have q4 := HYY.out.2.2; go_simp; first | exact wrS (by omega) (by omega) | exact wrU (by simp) (by omega) (by omega) | exact tmN q0 | omega)
                  (try simp only [Act.put, gA, gS, gZ, sA, sZ, sS])
                  refine wv (.int .u16 ((1 + ra : Nat) : Int)) ?_ (hrun := by have q0 := HRA.out.1; have q2 := HRA.out.2; have q1 := HYY.out.1; have q3 := HYY.out.2.1; have q4 := HYY.out.2.2; go_simp; first | exact wrS (by omega) (by omega) | exact wrU (by simp) (by omega) (by omega) | exact tmN q0 | omega)
                  (try simp only [Act.put, gA, gS, gZ, sA, sZ, sS])
                  refine wv (.pointer (some ⟨b71, 2, none⟩)) ?_
                  (try simp only [Act.put, gA, gS, gZ, sA, sZ, sS])
                  refine wv (.int .u8 (y.ac : Nat)) ?_ (hrun := by have q : w72.cell? ⟨b71, 2, none⟩ = some (.int .u8 (y.ac : Nat)) := K72.out.cell (i := 3) rfl (by rfl); go_simp)
                  (try simp only [Act.put, gA, gS, gZ, sA, sZ, sS])
                  refine wv (.int .u8 (rb : Nat)) ?_ (hrun := by have q0 := HRB.out.1; have q2 := HRB.out.2; have q1 := HYY.out.1; have q3 := HYY.out.2.1; have q4 := HYY.out.2.2; go_simp; first | exact wrS (by omega) (by omega) | exact wrU (by simp) (by omega) (by omega) | exact tmN q0 | omega)
                  (try simp only [Act.put, gA, gS, gZ, sA, sZ, sS])
                  refine wv (.int .i64 (rb : Nat)) ?_ (hrun := by have q0 := HRB.out.1; have q2 := HRB.out.2; have q1 := HYY.out.1; have q3 := HYY.out.2.1; have q4 := HYY.out.2.2; go_simp; first | exact wrS (by omega) (by omega) | exact wrU (by simp) (by omega) (by omega) | exact tmN q0 | omega)
                  (try simp only [Act.put, gA, gS, gZ, sA, sZ, sS])
                  refine wv (.pointer (some ⟨b71, 3, none⟩)) ?_
                  (try simp only [Act.put, gA, gS, gZ, sA, sZ, sS])
                  refine wv (.bool y.fi) ?_ (hrun := by have q : w72.cell? ⟨b71, 3, none⟩ = some (.bool y.fi) := K72.out.cell (i := 3) rfl (by rfl); go_simp)
                  (try simp only [Act.put, gA, gS, gZ, sA, sZ, sS])
                  refine wv (.agg (#[.int .u16 ((1 + ra : Nat) : Int), .int .i64 (rb : Nat), .bool y.fi])) ?_ (hrun := run_build_of 51 [(0, .tmp 101), (1, .tmp 105), (2, .tmp 107)] rfl _ (#[.int .u16 ((1 + ra : Nat) : Int), .int .i64 (rb : Nat), .bool y.fi]) rfl (by kernel_rfl))
                  (try simp only [Act.put, gA, gS, gZ, sA, sZ, sS])
                  refine wv (.pointer (some ⟨b71, 0, none⟩)) ?_
                  (try simp only [Act.put, gA, gS, gZ, sA, sZ, sS])
                  refine wv (.bool y.off) ?_ (hrun := by have q : w72.cell? ⟨b71, 0, none⟩ = some (.bool y.off) := K72.out.cell (i := 3) rfl (by rfl); go_simp)
                  (try simp only [Act.put, gA, gS, gZ, sA, sZ, sS])
                  refine wv (.bool (!y.off)) ?_
                  (try simp only [Act.put, gA, gS, gZ, sA, sZ, sS])
                  refine wv (.pointer (some ⟨b71, 1, none⟩)) ?_
                  (try simp only [Act.put, gA, gS, gZ, sA, sZ, sS])
                  refine wv (.int .u8 (y.st : Nat)) ?_ (hrun := by have q : w72.cell? ⟨b71, 1, none⟩ = some (.int .u8 (y.st : Nat)) := K72.out.cell (i := 3) rfl (by rfl); go_simp)
                  (try simp only [Act.put, gA, gS, gZ, sA, sZ, sS])
                  refine wv (.int .u8 (rc : Nat)) ?_ (hrun := by have q0 := HRC.out.1; have q2 := HRC.out.2; have q1 := HYY.out.1; have q3 := HYY.out.2.1; have q4 := HYY.out.2.2; go_simp; first | exact wrS (by omega) (by omega) | exact wrU (by simp) (by omega) (by omega) | exact tmN q0 | omega)
                  (try simp only [Act.put, gA, gS, gZ, sA, sZ, sS])
                  refine wv (.int .i64 (rc : Nat)) ?_ (hrun := by have q0 := HRC.out.1; have q2 := HRC.out.2; have q1 := HYY.out.1; have q3 := HYY.out.2.1; have q4 := HYY.out.2.2; go_simp; first | exact wrS (by omega) (by omega) | exact wrU (by simp) (by omega) (by omega) | exact tmN q0 | omega)
                  (try simp only [Act.put, gA, gS, gZ, sA, sZ, sS])
                  refine wv (.agg (poA (poM ra rb rc y.fi (!y.off)))) ?_ (hrun := run_build_of 58 [(0, .tmp 108), (5, .tmp 111), (4, .const (.bool true)), (9, .tmp 115)] rfl _ (poA (poM ra rb rc y.fi (!y.off))) rfl (built_pm ra rb rc y.fi (!y.off)))
                  (try simp only [Act.put, gA, gS, gZ, sA, sZ, sS])
                  refine kx_one K72.out.swap 36 58 (.tmp 116) (poA (poM ra rb rc y.fi (!y.off))) rfl rfl (one_po (poM ra rb rc y.fi (!y.off))) (by rfl) ?_
                  intro bc w73 hbc hk
                  have K73 := Lib.hid (show Kx w [(b1, plA x (.slice (some ⟨g, off, none⟩) np mp) (.slice az ns ms) sf, 29), (b2, #[.pointer none, .pointer none, .pointer none], 35), (ct, t3A i, 35), (b71, lpA y, 86), (bc, poA (poM ra rb rc y.fi (!y.off)), 58)] ((bdO w.heap.size 58 21 poC (.slice ca cn cm) ((lp.take k).map madeP)).and (bdT w i (madeV x 3) (madeT (lst.take 6)) [])) w73 from hk)
                  clear hk hbc
                  (try simp only [Act.put, gA, gS, gZ, sA, sZ, sS])
                  have HDD := Lib.hid (show ∀ k, (bdT w i (madeV x 3) (madeT (lst.take 6)) []).f k → ¬ (Value.slice ca cn cm).ownBlock = some k from fun k q1 q2 => HD.out k q2 q1)
                  refine kx_append poT K73.out (i := 4) rfl (y := poM ra rb rc y.fi (!y.off)) rfl (Nat.le_refl _) HLN.out (.tmp 96) (.tmp 117) rfl rfl rfl rfl HDD.out ?_
                  intro sv2 w74 hfr hk
                  obtain ⟨a2, m2, e2, -, -⟩ := Own.shape (show Own w74 w.heap.size 58 21 poC sv2 ((lp.take k).map madeP ++ [poM ra rb rc y.fi (!y.off)]) from hk.a.1)
                  obtain ⟨n2, hn2⟩ : ∃ n2, n2 = ((lp.take k).map madeP ++ [poM ra rb rc y.fi (!y.off)]).length := ⟨_, rfl⟩
                  rw [← hn2] at e2
                  subst e2
                  clear hn2
                  have K74 := Lib.hid (show Kx w [(b1, plA x (.slice (some ⟨g, off, none⟩) np mp) (.slice az ns ms) sf, 29), (b2, #[.pointer none, .pointer none, .pointer none], 35), (ct, t3A i, 35), (b71, lpA y, 86), (bc, poA (poM ra rb rc y.fi (!y.off)), 58)] ((bdO w.heap.size 58 21 poC (.slice a2 n2 m2) ((lp.take k).map madeP ++ [poM ra rb rc y.fi (!y.off)])).and (bdT w i (madeV x 3) (madeT (lst.take 6)) [])) w74 from hk)
                  have HDN := Lib.hid (show ∀ z, (Value.slice a2 n2 m2).ownBlock = some z → ¬ (bdT w i (madeV x 3) (madeT (lst.take 6)) []).f z from fun z q1 q2 => by rcases hfr z q1 with q3 | q3; exact HD.out z q3 q2; have := (bdT w i (madeV x 3) (madeT (lst.take 6)) []).lt K73.out.a.2 q2; omega)
                  clear hk hfr
                  (try simp only [Act.put, gA, gS, gZ, sA, sZ, sS])
                  refine wv (.slice a2 n2 m2) ?_
                  (try simp only [Act.put, gA, gS, gZ, sA, sZ, sS])
                  refine wpList_nil ?_
                  have KE := Lib.hid (show Kx w [(b1, plA x (.slice (some ⟨g, off, none⟩) np mp) (.slice az ns ms) sf, 29), (b2, #[.pointer none, .pointer none, .pointer none], 35), (ct, t3A i, 35)] ((bdT w i (madeV x 3) (madeT (lst.take 6)) []).and (bdO w.heap.size 58 21 poC (.slice a2 n2 m2) ((lp.take (k + 1)).map madeP))) w74 by rw [HTK.out, HPM.out]; exact (Kx.left (l := [(b1, plA x (.slice (some ⟨g, off, none⟩) np mp) (.slice az ns ms) sf, 29), (b2, #[.pointer none, .pointer none, .pointer none], 35), (ct, t3A i, 35)]) (r := [(b71, lpA y, 86), (bc, poA (poM ra rb rc y.fi (!y.off)), 58)]) K74.out).swap)
                  go_wp2_with fail
                  go_roundw
                  case rel => exact ⟨k + 1, by have := HLT.out; omega, by have := HLT.out; omega, by go_num, KE.out, HDN.out⟩
                  case measure => have := HLT.out; simp [intOf]; omega
                case neg =>
                  have hex : k = np ∨ (k < np ∧ k = 8) := by have := HKK.out; omega
                  have HEX := Lib.hid (show lp.take k = lp.take 8 by
                    rcases hex with h | ⟨-, h⟩
                    · rw [List.take_of_length_le (by rw [HLP.out]; omega), List.take_of_length_le (by rw [HLP.out]; have := HKK.out.2; omega)]
                    · rw [h])
                  rw [HEX.out] at KR HCN
                  have c6 : (0 : Int) ≤ (k : Int) := by omega
                  clear c0
                  rcases hex with c1 | ⟨c1, c2⟩
                  case' inl =>
                    have c3 : np ≤ k := by omega
                    clear c1
                    go_upto_region 12 with fail
                    refine wp_region_lit ?_
                    refine wv (.int .i64 (k : Nat)) ?_
                    (try simp only [Act.put, gA, gS, gZ, sA, sZ, sS])
                    refine wv (.pointer (some ⟨b1, 0, none⟩)) ?_
                    (try simp only [Act.put, gA, gS, gZ, sA, sZ, sS])
                    refine wv (.slice ap np mp) ?_ (hrun := by have q : wr.cell? ⟨b1, 0, none⟩ = some (.slice ap np mp) := KR.out.cell (i := 0) rfl (by rfl); go_simp)
                    (try simp only [Act.put, gA, gS, gZ, sA, sZ, sS])
                    refine wv (.int .i64 (np : Nat)) ?_
                    (try simp only [Act.put, gA, gS, gZ, sA, sZ, sS])
                    refine wv (.bool false) ?_ (hrun := by go_simp <;> omega)
                    (try simp only [Act.put, gA, gS, gZ, sA, sZ, sS])
                    refine wv (.bool false) ?_
                    (try simp only [Act.put, gA, gS, gZ, sA, sZ, sS])
                    refine wpList_skip (by kernel_rfl) ?_
                    (try simp only [Act.put, gA, gS, gZ, sA, sZ, sS])
                    refine wpList_skip (by kernel_rfl) ?_
                    (try simp only [Act.put, gA, gS, gZ, sA, sZ, sS])
                    refine wv (.bool false) ?_ (hrun := run_pick_no (.tmp 85) (.tmp 87) (.const (.bool false)) _ rfl rfl rfl)
                    (try simp only [Act.put, gA, gS, gZ, sA, sZ, sS])
                    refine wpList_nil ?_
                  case' inr =>
                    have c3 : (k : Int) < (np : Int) := by omega
                    have c4 : decide ((k : Int) < 8) = false := decide_eq_false (by omega)
                    clear c1 c2
                    go_upto_region 12 with fail
                    refine wp_region_lit ?_
                    refine wv (.int .i64 (k : Nat)) ?_
                    (try simp only [Act.put, gA, gS, gZ, sA, sZ, sS])
                    refine wv (.pointer (some ⟨b1, 0, none⟩)) ?_
                    (try simp only [Act.put, gA, gS, gZ, sA, sZ, sS])
                    refine wv (.slice ap np mp) ?_ (hrun := by have q : wr.cell? ⟨b1, 0, none⟩ = some (.slice ap np mp) := KR.out.cell (i := 0) rfl (by rfl); go_simp)
                    (try simp only [Act.put, gA, gS, gZ, sA, sZ, sS])
                    refine wv (.int .i64 (np : Nat)) ?_
                    (try simp only [Act.put, gA, gS, gZ, sA, sZ, sS])
                    refine wv (.bool true) ?_
                    (try simp only [Act.put, gA, gS, gZ, sA, sZ, sS])
                    refine wv (.bool true) ?_
                    (try simp only [Act.put, gA, gS, gZ, sA, sZ, sS])
                    refine wv (.int .i64 (k : Nat)) ?_
                    (try simp only [Act.put, gA, gS, gZ, sA, sZ, sS])
                    refine wv (.bool false) ?_
                    (try simp only [Act.put, gA, gS, gZ, sA, sZ, sS])
                    refine wv (.bool false) ?_ (hrun := run_pick_yes (.tmp 85) (.tmp 87) (.const (.bool false)) _ rfl rfl rfl)
                    (try simp only [Act.put, gA, gS, gZ, sA, sZ, sS])
                    refine wpList_nil ?_
                  all_goals
                    go_upto_region 16 with fail
                    refine wp_region_lit ?_
                    refine wv (.agg (t3A i)) ?_ (hrun := kx_all KR.out 2 rfl 35 _ rfl rfl Tryd.underlying35 rfl (t3Size))
                    (try simp only [Act.put, gA, gS, gZ, sA, sZ, sS])
                    refine wv (.slice ca cn cm) ?_
                    (try simp only [Act.put, gA, gS, gZ, sA, sZ, sS])
                    refine kx_row KR.out 1 rfl 35 _ _ (t3A i) rfl rfl rfl rfl (t3Size) (by rfl) (t3_one i) ?_
                    intro w96 hk
                    have K96 := Lib.hid (show Kx w [(b1, plA x (.slice ap np mp) (.slice az ns ms) sf, 29), (b2, t3A i, 35), (ct, t3A i, 35)] ((bdT w i (madeV x 3) (madeT (lst.take 6)) []).and (bdO w.heap.size 58 21 poC (.slice ca cn cm) ((lp.take 8).map madeP))) w96 from hk)
                    clear hk
                    (try simp only [Act.put, gA, gS, gZ, sA, sZ, sS])
                    refine wv (.slice ca cn cm) ?_
                    (try simp only [Act.put, gA, gS, gZ, sA, sZ, sS])
                    refine wpList_nil ?_
                    go_wp2_with fail
                    refine bodyPost_ret (v := .tuple #[.agg (t3A i), .slice ca cn cm]) (results_row_tmp Tryd.results6 _ _ b2 35 (t3A i) (.slice ca cn cm) _ rfl rfl (K96.out.at (i := 1) rfl) Tryd.underlying35 rfl t3Size) rfl ?_
                    exact ⟨i, ca, cn, cm, rfl, HMO.out, HLI.out, HCN.out.symm, HCM.out.1, HCM.out.2, Kx.left (l := []) K96.out, HD.out⟩
end
end Go.Proofs.YtelohoomlgjjmaaDoor
