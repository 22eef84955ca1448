/- The statement TlvBuilds, walked. -/
import Derived.Test.YtmbafeemiclmeaaTv10
namespace Go.Proofs.Ytmbafeemiclmeaa
open Go.RowKit
set_option linter.unusedSimpArgs false
set_option linter.unusedVariables false

theorem both_len (l : List Sec) : (bothL l).length ≤ 8 := by unfold bothL; rw [List.length_map, List.length_take]; omega
theorem cut_len (s : Sec) : (cutS s).d.size ≤ 40 := by
  show (s.d.extract 0 (min s.d.size 40)).size ≤ 40
  rw [ext_size _ _ _ (by omega)]
  omega
theorem body_bound (l : List Sec) (h : ∀ s ∈ l, s.d.size ≤ 40) : (bodyL l).length ≤ 45 * l.length := by
  induction l with
  | nil => simp [bodyL]
  | cons s l ih =>
    have : bodyL (s :: l) = s.bytes ++ bodyL l := rfl
    have a := ih fun x hx => h x (by simp [hx])
    have b := h s (by simp)
    rw [this, List.length_append, bytes_len, List.length_cons]
    omega
theorem both_each (l : List Sec) : ∀ s ∈ bothL l, s.d.size ≤ 40 := by
  intro s hs
  obtain ⟨x, -, rfl⟩ := List.mem_map.1 hs
  exact cut_len x
theorem both_body (l : List Sec) : (bodyL (bothL l)).length ≤ 360 := by
  have a := body_bound (bothL l) (both_each l)
  have b := both_len l
  omega
theorem build_size (v : UInt8) (l : List Sec) : (buildS v l).size ≤ 13 + (bodyL l).length := by
  unfold buildS
  split
  · rw [mk_size, wholeL_len]; exact Nat.le_refl _
  · exact Nat.zero_le _
theorem isArg_next {w w' : World} {a : Option Addr} {len cap : Nat} {l : List Sec} (h : IsArg53 w a len cap l) (hb : Below w.heap.size w w') : IsArg53 w' a len cap l := by
  obtain ⟨h1, h2, h3, h4, h5⟩ := h
  refine ⟨h1, h2, h3, h4, ?_⟩
  rcases h5 with q | ⟨x, q1, q2⟩
  · exact .inl q
  · refine .inr ⟨x, q1, fun i y hy => ?_⟩
    obtain ⟨c0, c1⟩ := q2 i y hy
    have l0 := World.block_lt_of_cell? (h := c0)
    exact ⟨by rw [hb.cell l0]; exact c0, by rw [hb.cell (p := ⟨(x.add (i * 2)).block, (x.add (i * 2)).off + 1, none⟩) l0]; exact c1⟩
set_option maxRecDepth 100000 in
set_option maxHeartbeats 4000000 in
theorem speaks_any (w : World) : Calls Try.prog 6 #[] w fun e w' => e = .returned (.bool true) ∧ Below w.heap.size w w' := by
  have n0 : buildN 1 [] = 0 := by decide
  have hp := parse_build n0 (by decide) (by simp)
  have hz : (buildS 1 []).size = 13 := by
    rw [← size_list]
    unfold buildS
    rw [if_pos n0]
    show (wholeL (bareL 1 [])).length = 13
    rw [wholeL_len]
    rfl
  have hb := Lib.hid (build_any 1 (.inl ⟨rfl, rfl⟩ : SL w (.slice none 0 0) []) (by decide) (by decide))
  rw [n0] at hb
  obtain ⟨S, hS⟩ : ∃ S, S = buildS 1 [] := ⟨_, rfl⟩
  rw [← hS] at hp hz hb
  have HP := Lib.hid hp
  clear hS hp n0
  go_enter Try.func6, Try.ntmps6
  go_upto_region 2 with (go_at_call 8; refine hb.out.mono ?_; rintro e w1 ⟨rfl, hb1⟩)
  have hq := Lib.hid (parse_any S w1 (by omega))
  rw [HP.out.1, HP.out.2.1, HP.out.2.2, show bv 1 = .int .u8 1 from rfl] at hq
  have HB := Lib.hid hb1
  clear hb1
  go_wp2_with (fail)
  refine hq.out.mono ?_
  rintro e w2 ⟨sv, rfl, hown, hb2⟩
  have HB2 := Lib.hid (HB.out.trans (hb2.mono HB.out.size))
  clear hq hb2
  rcases hown.cases with ⟨rfl, -⟩ | ⟨g, cap, rfl, -⟩
  · clear hown
    go_wp2
    go_ret
    exact ⟨rfl, HB2.out⟩
  · clear hown
    go_wp2
    go_ret
    exact ⟨rfl, HB2.out⟩
set_option maxRecDepth 100000 in
set_option maxHeartbeats 4000000 in
theorem builds_walk (v : UInt8) {a : Option Addr} {len cap : Nat} {l : List Sec} (w : World) (h : IsArg53 w a len cap l) :
    Calls Try.prog 3 #[bv v, .slice a len cap] w fun e w' => e = .returned (.bool true) ∧ Below w.heap.size w w' := by
  have HA := Lib.hid h
  obtain ⟨v0, hv0⟩ : ∃ v0, v0 = bv v := ⟨_, rfl⟩
  have hvi : v0 = .int .u8 (v.toNat : Int) := hv0
  obtain ⟨sl, hsl⟩ : ∃ s, s = Value.slice a len cap := ⟨_, rfl⟩
  obtain ⟨m, hm⟩ : ∃ m, m = bothL l := ⟨_, rfl⟩
  obtain ⟨S, hS⟩ : ∃ S, S = buildS v m := ⟨_, rfl⟩
  obtain ⟨N, hN⟩ : ∃ N, N = buildN v m := ⟨_, rfl⟩
  have hmb : (bodyL m).length ≤ 360 := by rw [hm]; exact both_body l
  have hml : m.length ≤ 8 := by rw [hm]; exact both_len l
  have hSs : S.size ≤ 1000000 := by rw [hS]; have := build_size v m; omega
  have hpar : N = 0 → parseN S = 0 ∧ parseV S = v ∧ parseL S = m := fun h0 => by
    rw [hS]
    exact parse_build (by rw [← hN]; exact h0) (by omega) (fun s hs => by rw [hm] at hs; have := both_each l s hs; omega)
  have HSP := Lib.hid fun w => speaks_any w
  have HBO := Lib.hid fun w (h : IsArg53 w a len cap l) => both_any h
  have HBU := Lib.hid fun w sv (h : SL w sv m) => build_any v h (by omega) (by omega)
  have HRB := Lib.hid fun w sv (h : SL w sv m) => rbuild_any v h (by omega) (by omega)
  rw [← hm, ← hsl] at HBO
  rw [← hS, ← hN] at HBU HRB
  have HPA := Lib.hid hpar
  rw [← hv0] at HBU HRB ⊢
  rw [← hsl]
  have HV := Lib.hid hv0
  have HSL := Lib.hid hsl
  clear hpar hS hN hm h hv0 hsl
  subst hvi
  go_enter Try.func3, Try.ntmps3
  go_upto_region 3 with (go_at_call 6; refine (HSP.out _).mono ?_; rintro e w1 ⟨rfl, hb1⟩)
  have HB1 := Lib.hid hb1
  clear hb1
  go_wp2_with (fail)
  refine (HBO.out _ (isArg_next HA.out HB1.out)).mono ?_
  rintro e w2 ⟨sv, tv, rfl, ho1, ho2, hb2⟩
  have HO1 := Lib.hid ho1.sl
  have HO2 := Lib.hid ho2.sl
  have HB2 := Lib.hid (HB1.out.trans (hb2.mono HB1.out.size))
  clear ho1 ho2 hb2 HB1
  go_wp2_with (fail)
  refine (HBU.out _ _ HO1.out).mono ?_
  rintro e w3 ⟨rfl, hb3⟩
  have HB3 := Lib.hid (HB2.out.trans (hb3.mono HB2.out.size))
  have HO3 := Lib.hid (HO2.out.below hb3)
  clear hb3 HB2 HO1 HO2
  go_wp2_with (fail)
  refine (HRB.out _ _ HO3.out).mono ?_
  rintro e w4 ⟨rfl, hb4⟩
  have HB4 := Lib.hid (HB3.out.trans (hb4.mono HB3.out.size))
  have HO4 := Lib.hid (HO3.out.below hb4)
  clear hb4 HB3 HO3
  by_cases c0 : N = 0
  case neg =>
    have c1 : ¬ (N : Int) = 0 := by omega
    go_wp2
    go_ret
    exact ⟨rfl, HB4.out⟩
  subst c0
  obtain ⟨p1, p2, p3⟩ := HPA.out rfl
  have HQ := Lib.hid (parse_any S w4 hSs)
  rw [p1, p2, p3] at HQ
  clear p1 p2 p3
  unfold bv at HQ
  go_upto_region 10 with fail
  go_wp2_with (fail)
  refine HQ.out.mono ?_
  rintro e w5 ⟨cv, rfl, ho5, hb5⟩
  have HO5 := Lib.hid ho5.sl
  have HO6 := Lib.hid (HO4.out.below hb5)
  have HB5 := Lib.hid (HB4.out.trans (hb5.mono HB4.out.size))
  clear ho5 hb5
  go_wp2_with (go_at_call 11; refine (same_yes HO5.out HO6.out (by omega)).mono ?_; rintro e w6 ⟨rfl, hb6⟩)
  go_ret
  exact ⟨rfl, HB5.out.trans (hb6.mono HB5.out.size)⟩
end Go.Proofs.Ytmbafeemiclmeaa
