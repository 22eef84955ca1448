/- Sections of the law, in both shapes. -/
import Derived.Test.YtmbafeemiclmeaaTv9
namespace Go.Proofs.Ytmbafeemiclmeaa
open Go.RowKit
attribute [local irreducible] wpQuiet
set_option linter.unusedSimpArgs false
set_option linter.unusedVariables false

set_option maxRecDepth 100000 in
set_option maxHeartbeats 4000000 in
theorem same_yes {w : World} {sv tv : Value} {l : List Sec} (hs : SL w sv l) (ht : SL w tv l) (hl : l.length ≤ 1000000) :
    Calls Try.prog 11 #[sv, tv] w fun e w' => e = .returned (.bool true) ∧ Below w.heap.size w w' := by
  rcases hs.cases with ⟨rfl, rfl⟩ | ⟨g, cap, rfl, hg, hc, hm⟩
  · have htv : tv = .slice none 0 0 ∨ ∃ g cap, tv = .slice (some ⟨g, 0, none⟩) 0 cap := by
      rcases ht.cases with ⟨h, -⟩ | ⟨g, cap, h, -⟩
      · exact .inl h
      · exact .inr ⟨g, cap, h⟩
    clear ht hs
    rcases htv with rfl | ⟨g, cap, rfl⟩
    all_goals
      go_enter Try.func11, Try.ntmps11
      go_upto_region 2 with fail
      go_loop [5] (fun i => i = .int .i64 0) (fun _ => 0)
      case atStart => rfl
      case round =>
        subst hrel
        go_wp2
        go_ret
        exact ⟨rfl, Below.refl _ _⟩
  · obtain ⟨m, hmm⟩ : ∃ m, m = l.length := ⟨_, rfl⟩
    have htv : (m = 0 ∧ tv = .slice none 0 0) ∨ ∃ g2 cap2, tv = .slice (some ⟨g2, 0, none⟩) m cap2 ∧ m ≤ cap2 ∧ cap2 ≤ 9223372036854775807 := by
      rcases ht.cases with ⟨h, h2⟩ | ⟨g, cap, h, h1, h2, h3⟩
      · exact .inl ⟨by rw [hmm, h2]; rfl, h⟩
      · exact .inr ⟨g, cap, by rw [hmm]; exact h, by omega, h3⟩
    rw [← hmm] at hs hc hl ⊢
    have HM := Lib.hid hmm
    have HS := Lib.hid hs
    have HT := Lib.hid ht
    unfold maxLen at hm
    have hm2 : cap ≤ 9223372036854775807 := hm
    clear hm hmm hs ht
    rcases htv with ⟨hm0, rfl⟩ | ⟨g2, cap2, rfl, hc2, hm3⟩
    · subst hm0
      go_enter Try.func11, Try.ntmps11
      go_upto_region 2 with fail
      go_loop [5] (fun i => i = .int .i64 0) (fun _ => 0)
      case atStart => rfl
      case round =>
        subst hrel
        go_wp2
        go_ret
        exact ⟨rfl, Below.refl _ _⟩
    · go_enter Try.func11, Try.ntmps11
      go_upto_region 2 with fail
      go_loopw [5] (fun i wr => ∃ k : Nat, i = .int .i64 (k : Int) ∧ k ≤ m ∧ Below w.heap.size w wr) (fun i _ => m - (intOf i).toNat)
      case atStart => exact ⟨0, rfl, by omega, Below.refl _ _⟩
      case round =>
        obtain ⟨k, rfl, hk, hB⟩ := hrel
        have HB := Lib.hid hB
        clear hB
        by_cases c : k < m
        · obtain ⟨x, hx⟩ : ∃ x, l[k]? = some x := ⟨_, List.getElem?_eq_getElem (by rw [← HM.out]; omega)⟩
          have HX := Lib.hid hx
          clear hx
          have d0 := ((HS.out.below HB.out).cell HX.out).1
          have d1 := ((HT.out.below HB.out).cell HX.out).1
          have d2 := ((HS.out.below HB.out).cell HX.out).2
          have d3 := ((HT.out.below HB.out).cell HX.out).2
          unfold bv at d0 d1
          obtain ⟨a, ha⟩ : ∃ a, a = x.k.toNat := ⟨_, rfl⟩
          rw [← ha] at d0 d1
          clear ha
          generalize x.d = xd at *
          go_upto_region 4 with fail
          go_quiet (fail)
          clear d0 d1 d2 d3
          go_wp2
          go_roundw
          case rel => exact ⟨k + 1, by go_num, by omega, below_drewN HB.out _⟩
          case measure => simp [intOf]; omega
        · have : k = m := by omega
          subst this
          go_wp2
          go_ret
          exact ⟨rfl, HB.out⟩
theorem app_blk {w : World} {B G : Nat} {v : Value} {l : List Sec} {t e ty : TypeId} (x : Sec) (h : Own w B e 2 secC v l) (hb : Blk w G #[bv x.k, .string x.d] e) (hl : l.length ≤ 1000000) (hB : B ≤ w.heap.size) (ht : Try.prog.underlying t = some (.slice e)) (hi : (Try.prog.info? e).map (fun i => (i.zero, i.size, i.bytes)) = some (some (.agg #[.int .u8 0, .string ⟨#[]⟩]), 2, 24)) :
    ∃ v' w', (Builtin.append_ #[t, t] ty #[v, .slice (some ⟨G, 0, none⟩) 1 1]).run Try.prog w = .ok v' w' ∧ Own w' B e 2 secC v' (l ++ [x]) ∧ w.grownBy w' v.ownBlock := by
  obtain ⟨i, h1, h2, h3, h4⟩ := info_three hi
  have hs : Src w secC (.slice (some ⟨G, 0, none⟩) 1 1) [x] := by
    refine .inr ⟨⟨G, 0, none⟩, 1, rfl, fun j u hu => ?_⟩
    rw [cellsL_one] at hu
    have e2 : (⟨G, 0, none⟩ : Addr).add j = ⟨G, j, none⟩ := by cases j <;> simp [Addr.add]
    rw [e2, hb.cell]
    simpa [secC] using hu
  obtain ⟨v', w', q1, q2, q3, -⟩ := h.app (P := Try.prog) (t := t) (ty := ty) hs ht h1 h2 h3 h4 rfl (by omega) secC_len secC_one (by unfold maxLen; simp; omega) (by simp; omega) hB
  exact ⟨v', w', q1, q2, q3⟩
theorem own_row {w : World} {B e : Nat} {v : Value} {l : List Sec} (h : Own w B e 2 secC v l) {k : Nat} (hk : v.ownBlock = some k) : ∃ cur fz, w.heap[k]? = some (.cells cur e fz) := by
  rcases h.2 with ⟨rfl, -⟩ | ⟨g, cap, cur, rfl, h2, h3, -⟩
  · cases hk
  · cases hk
    exact ⟨cur, _, h3⟩
theorem blk_kept {w w' : World} {B e e2 G : Nat} {v : Value} {l : List Sec} {cs : Array Value} (hb : Blk w G cs e) (h : Own w B e2 2 secC v l) (hg : w.grownBy w' v.ownBlock) (hne : e ≠ e2) : Blk w' G cs e :=
  hb.grown hg fun q => by
    obtain ⟨cur, fz, r⟩ := own_row h q.symm
    have r2 : w.heap[G]? = some (.cells cs e (0, 0)) := hb
    rw [r2] at r
    cases r
    exact hne rfl
theorem own_kept {w w' : World} {B e e2 : Nat} {v u : Value} {l m : List Sec} (ho : Own w B e 2 secC u m) (h : Own w B e2 2 secC v l) (hg : w.grownBy w' v.ownBlock) (hne : e ≠ e2) : Own w' B e 2 secC u m :=
  ho.kept hg (by
    cases c : u.ownBlock with
    | none => exact .inl rfl
    | some k =>
      refine .inr fun q => ?_
      obtain ⟨cur, fz, r⟩ := own_row h q.symm
      obtain ⟨cur2, fz2, r2⟩ := own_row ho c
      rw [r2] at r
      cases r
      exact hne rfl)
def OI : Bool → Prop → Prop → Prop | true, p, _ => p | false, _, q => q
theorem OI.map {b : Bool} {p q p' q' : Prop} (h : OI b p q) (f : p → p') (g : q → q') : OI b p' q' := by cases b; exact g h; exact f h
theorem OI.no {p q : Prop} (h : OI false p q) : q := h
theorem OI.yes {b : Bool} {p q : Prop} (e : b = true) (h : p) : OI b p q := by subst e; exact h
theorem OI.not {b : Bool} {p q : Prop} (e : b = false) (h : q) : OI b p q := by subst e; exact h
theorem own_drewN {w : World} {B e : Nat} {v : Value} {l : List Sec} (h : Own w B e 2 secC v l) : ∀ n, Own (w.drewN n) B e 2 secC v l
  | 0 => h
  | n + 1 => (own_drewN h n).drew
/-- Sections that came in. -/
def IsArg53 (w : World) (a : Option Addr) (len cap : Nat) (l : List Sec) : Prop :=
  l.length = len ∧ len ≤ cap ∧ cap ≤ maxLen ∧ (∀ y ∈ l, y.d.size ≤ maxLen) ∧ ((a = none ∧ len = 0) ∨ ∃ x, a = some x ∧ ∀ i y, l[i]? = some y → w.cell? (x.add (i * 2)) = some (bv y.k) ∧ w.cell? ⟨(x.add (i * 2)).block, (x.add (i * 2)).off + 1, none⟩ = some (.string y.d))
def cutS (s : Sec) : Sec := ⟨s.k, s.d.extract 0 (min s.d.size 40)⟩
def bothL (l : List Sec) : List Sec := (l.take 8).map cutS
set_option maxRecDepth 100000 in
set_option maxHeartbeats 4000000 in
theorem both_any {w : World} {a : Option Addr} {len cap : Nat} {l : List Sec} (h : IsArg53 w a len cap l) :
    Calls Try.prog 7 #[.slice a len cap] w fun e w' => ∃ sv tv, e = .returned (.tuple #[sv, tv]) ∧ Own w' w.heap.size 54 2 secC sv (bothL l) ∧ Own w' w.heap.size 55 2 secC tv (bothL l) ∧ Below w.heap.size w w' := by
  obtain ⟨hl, hc, hm, hd, hcell⟩ := h
  unfold maxLen at hm
  have hm2 : cap ≤ 9223372036854775807 := hm
  have HL := Lib.hid hl
  have HD := Lib.hid hd
  clear hl hd hm
  rcases hcell with ⟨rfl, rfl⟩ | ⟨x, rfl, hcell⟩
  · have e : bothL l = [] := by rw [List.eq_nil_of_length_eq_zero HL.out]; rfl
    rw [e]
    go_enter Try.func7, Try.ntmps7
    go_upto_region 4 with fail
    go_loopw [4, 5, 6] (fun s t i wr => s = .slice none 0 0 ∧ t = .slice none 0 0 ∧ i = .int .i64 0 ∧ w = wr) (fun _ _ _ _ => 0)
    case atStart => exact ⟨rfl, rfl, rfl, rfl⟩
    case round =>
      obtain ⟨rfl, rfl, rfl, rfl⟩ := hrel
      go_wp2
      go_ret2
      exact ⟨_, _, rfl, Own.nil _ _ _ _ _, Own.nil _ _ _ _ _, Below.refl _ _⟩
  · obtain ⟨B, hB⟩ : ∃ B, B = w.heap.size := ⟨_, rfl⟩
    have HBB := Lib.hid hB
    rw [← hB]
    have HCE := Lib.hid hcell
    clear hB hcell
    go_enter Try.func7, Try.ntmps7
    go_upto_region 4 with fail
    go_loopw [4, 5, 6] (fun s t i wr => ∃ k : Nat, i = .int .i64 (k : Int) ∧ k ≤ len ∧ k ≤ 8 ∧ Own wr B 54 2 secC s ((l.take k).map cutS) ∧ Own wr B 55 2 secC t ((l.take k).map cutS) ∧ Below B w wr) (fun _ _ i _ => 8 - (intOf i).toNat)
    case atStart => exact ⟨0, rfl, by omega, by omega, by simpa using Own.nil _ _ _ _ _, by simpa using Own.nil _ _ _ _ _, Below.refl _ _⟩
    case round =>
      obtain ⟨k, rfl, hk, hk8, ho1, ho2, hB⟩ := hrel
      have HO1 := Lib.hid ho1
      have HO2 := Lib.hid ho2
      have HB := Lib.hid hB
      clear ho1 ho2 hB
      by_cases c : k < len
      case neg =>
        have : k = len := by omega
        subst this
        have e : (l.take k).map cutS = bothL l := by unfold bothL; rw [List.take_of_length_le (by rw [HL.out]; omega), List.take_of_length_le (by rw [HL.out]; omega)]
        rw [e] at HO1 HO2
        go_wp2
        go_ret2
        exact ⟨u4, u5, rfl, HO1.out, HO2.out, HB.out⟩
      by_cases c8 : k < 8
      case neg =>
        have : k = 8 := by omega
        subst this
        go_wp2
        go_ret2
        exact ⟨u4, u5, rfl, HO1.out, HO2.out, HB.out⟩
      obtain ⟨y, hy⟩ : ∃ y, l[k]? = some y := ⟨_, List.getElem?_eq_getElem (by rw [HL.out]; omega)⟩
      have HY := Lib.hid hy
      obtain ⟨hc0, hc1⟩ := HCE.out k y hy
      have hdm : y.d.size ≤ 9223372036854775807 := HD.out y (List.mem_of_getElem? hy)
      have hlt : (x.add (k * 2)).block < B := by
        have := World.block_lt_of_cell? (h := hc0)
        rw [HBB.out]
        exact this
      obtain ⟨A, hA⟩ : ∃ A, A = x.add (k * 2) := ⟨_, rfl⟩
      have HA := Lib.hid hA
      have e0 : wr.cell? (x.add (k * 2)) = some (bv y.k) := by rw [HB.out.cell hlt]; exact hc0
      have e1 : wr.cell? ⟨(x.add (k * 2)).block, (x.add (k * 2)).off + 1, none⟩ = some (.string y.d) := by rw [HB.out.cell (p := ⟨(x.add (k * 2)).block, (x.add (k * 2)).off + 1, none⟩) hlt]; exact hc1
      have HE0 := Lib.hid hc0
      clear hy hc0 hc1 hA
      go_upto_region 6 with fail
      go_quiet (fail)
      go_upto_region 7 with fail
      obtain ⟨D, hD⟩ : ∃ D, D = y.d.extract 0 (min y.d.size 40) := ⟨_, rfl⟩
      rw [show (min (y.d.size : Int) 40).toNat = min y.d.size 40 by omega, ← hD]
      obtain ⟨acc, hacc⟩ : ∃ acc, acc = (l.take k).map cutS := ⟨_, rfl⟩
      have HAL := Lib.hid (show acc.length ≤ 8 by rw [hacc, List.length_map, List.length_take]; omega)
      have HACC := Lib.hid (show acc ++ [⟨y.k, D⟩] = (l.take (k + 1)).map cutS by
        have q := List.getElem?_eq_some_iff.1 HY.out
        obtain ⟨q1, q2⟩ := q
        rw [List.take_succ_eq_append_getElem q1, List.map_append, q2, ← hacc]
        show _ = acc ++ [cutS y]
        unfold cutS
        rw [← hD])
      rw [← hacc] at HO1 HO2
      have HLT := Lib.hid hlt
      clear hD hacc hlt e0 e1
      refine rg (fun s => [u4, .slice (some x) len cap, .int .i64 (k : Int), .pointer (some (x.add (k * 2))), .pointer (some (x.add (k * 2))), .int .u8 (y.k.toNat : Int), .string D, .agg #[.int .u8 (y.k.toNat : Int), .string D], .slice (some ⟨s.1, 0, none⟩) 1 1, s.2.1, u5, .slice (some x) len cap, .int .i64 (k : Int), .pointer (some (x.add (k * 2))), .pointer (some (x.add (k * 2))), .int .u8 (y.k.toNat : Int), .string D, .agg #[.int .u8 (y.k.toNat : Int), .string D], .slice (some ⟨s.2.2.1, 0, none⟩) 1 1, s.2.2.2, s.2.1, s.2.2.2]) (fun s L W => Below B w W ∧ OI (L 9) (Own W B 54 2 secC s.2.1 (acc ++ [⟨y.k, D⟩])) (Own W B 54 2 secC u4 acc) ∧ OI (L 19) (Own W B 55 2 secC s.2.2.2 (acc ++ [⟨y.k, D⟩])) (Own W B 55 2 secC u5 acc) ∧ (L 8 = true → L 9 = false → Blk W s.1 #[.int .u8 (y.k.toNat : Int), .string D] 54) ∧ (L 18 = true → L 19 = false → Blk W s.2.2.1 #[.int .u8 (y.k.toNat : Int), .string D] 55)) (((0, undef, 0, undef) : Nat × Value × Nat × Value)) [0, 1, 2, 4, 6, 10, 11, 12, 14, 16, 20, 21] [] [(5, fun s => x.add (k * 2)), (15, fun s => x.add (k * 2))] [3, 7, 8, 9, 13, 17, 18, 19] (by kernel_rfl) (fun _ => rfl) (by kernel_rfl) (fun _ => by kernel_rfl) (fun _ _ => by kernel_rfl) (fun _ => by kernel_rfl) (fun _ => by kernel_rfl) (fun _ => by kernel_rfl) (fun _ => by kernel_rfl) (⟨(below_drewN HB.out _).drew, OI.not rfl (own_drewN HO1.out _).drew, OI.not rfl (own_drewN HO2.out _).drew, fun h => Bool.noConfusion h, fun h => Bool.noConfusion h⟩) (fun s L W hC => ⟨fun _ => by rw [hC.1.cell HLT.out]; exact HE0.out, fun _ => by rw [hC.1.cell HLT.out]; exact HE0.out, trivial⟩) (fun i hi s L W hC => ⟨hC.1, by rcases hi with hi | hi | hi <;> simp at hi; (rcases hi with rfl | rfl | rfl | rfl | rfl | rfl | rfl | rfl | rfl | rfl | rfl | rfl <;> simpa [upd] using hC.2); (rcases hi with rfl | rfl <;> simpa [upd] using hC.2)⟩) ?_ ?_
      · intro i hi s L w1 hC hL ha hdc
        simp only [List.mem_cons, List.not_mem_nil, or_false] at hi
        rcases hi with rfl | rfl | rfl | rfl | rfl | rfl | rfl | rfl
        · refine ⟨by kernel_rfl, fun o ho => ?_⟩
          cases ho
          refine stepW_see [(32, .slice (some x) len cap), (33, .int .i64 (k : Int))] (by kernel_rfl) (fun _ => rfl) (fun _ => rfl) ?_
          rintro ρ hc hf ⟨e32, e33, -⟩
          exact stepW_val (w' := w1) (v := .pointer (some (x.add (k * 2)))) (by go_simp) ⟨s, fun _ _ => rfl, rfl, ⟨hC.1, by simpa [upd] using hC.2⟩⟩
        · refine ⟨by kernel_rfl, fun o ho => ?_⟩
          cases ho
          refine stepW_see [(36, .int .u8 (y.k.toNat : Int)), (37, .string D)] (by kernel_rfl) (fun _ => rfl) (fun _ => rfl) ?_
          rintro ρ hc hf ⟨e36, e37, -⟩
          exact stepW_val (w' := w1) (v := .agg #[.int .u8 (y.k.toNat : Int), .string D]) (by go_simp) ⟨s, fun _ _ => rfl, rfl, ⟨hC.1, by simpa [upd] using hC.2⟩⟩
        · refine ⟨by kernel_rfl, fun o ho => ?_⟩
          cases ho
          refine stepW_see [(38, .agg #[.int .u8 (y.k.toNat : Int), .string D])] (by kernel_rfl) (fun _ => rfl) (fun _ => rfl) ?_
          rintro ρ hc hf ⟨e38, -⟩
          have hBw : B ≤ w1.heap.size := by rw [HBB.out]; exact hC.1.size
          refine stepW_val (w' := w1.alloc (.cells #[.int .u8 (y.k.toNat : Int), .string D] 54)) (v := .slice (some ⟨w1.heap.size, 0, none⟩) 1 1) (by go_simp) ⟨(w1.heap.size, s.2), vs_other (i := 8) rfl hL, rfl, hC.1.alloc hBw _, hC.2.1.map (fun q => q.alloc _) (fun q => q.alloc _), hC.2.2.1.map (fun q => q.alloc _) (fun q => q.alloc _), fun _ _ => Blk.new w1 _ _, fun h1 h2 => (hC.2.2.2.2 (by simpa [upd] using h1) (by simpa [upd] using h2)).alloc _⟩
        · refine ⟨by kernel_rfl, fun o ho => ?_⟩
          cases ho
          refine stepW_see [(31, u4), (39, .slice (some ⟨s.1, 0, none⟩) 1 1)] (by kernel_rfl) (fun _ => rfl) (fun _ => rfl) ?_
          rintro ρ hc hf ⟨e31, e39, -⟩
          have hBw : B ≤ w1.heap.size := by rw [HBB.out]; exact hC.1.size
          have hown0 := hC.2.1
          rw [hL] at hown0
          replace hown0 := hown0.no
          obtain ⟨v', w2, hrun, hown, hg⟩ := app_blk (t := 24) (e := 54) (ty := 24) ⟨y.k, D⟩ hown0 (hC.2.2.2.1 (ha 8 (by decide)) hL) (by have := HAL.out; omega) hBw Try.underlying24 info54
          have hL20 : L 20 = false := by
            cases c : L 20 with
            | false => rfl
            | true => exact absurd (hdc 20 c 9 (by decide)) (by rw [hL]; decide)
          refine stepW_app _ _ 24 rfl _ _ v' e31 e39 hrun ⟨(s.1, v', s.2.2), vs_two (i := 9) (k := 20) rfl hL hL20, rfl, hC.1.trans (grown_below hg (fun k e => (hown0.lt k e).1) hBw), OI.yes (by simp [upd]) hown, hC.2.2.1.map (fun q => own_kept q hown0 hg (by decide)) (fun q => own_kept q hown0 hg (by decide)), fun h1 h2 => by simp [upd] at h2, fun h1 h2 => blk_kept (hC.2.2.2.2 (by simpa [upd] using h1) (by simpa [upd] using h2)) hown0 hg (by decide)⟩
        · refine ⟨by kernel_rfl, fun o ho => ?_⟩
          cases ho
          refine stepW_see [(42, .slice (some x) len cap), (43, .int .i64 (k : Int))] (by kernel_rfl) (fun _ => rfl) (fun _ => rfl) ?_
          rintro ρ hc hf ⟨e42, e43, -⟩
          exact stepW_val (w' := w1) (v := .pointer (some (x.add (k * 2)))) (by go_simp) ⟨s, fun _ _ => rfl, rfl, ⟨hC.1, by simpa [upd] using hC.2⟩⟩
        · refine ⟨by kernel_rfl, fun o ho => ?_⟩
          cases ho
          refine stepW_see [(46, .int .u8 (y.k.toNat : Int)), (47, .string D)] (by kernel_rfl) (fun _ => rfl) (fun _ => rfl) ?_
          rintro ρ hc hf ⟨e46, e47, -⟩
          exact stepW_val (w' := w1) (v := .agg #[.int .u8 (y.k.toNat : Int), .string D]) (by go_simp) ⟨s, fun _ _ => rfl, rfl, ⟨hC.1, by simpa [upd] using hC.2⟩⟩
        · refine ⟨by kernel_rfl, fun o ho => ?_⟩
          cases ho
          refine stepW_see [(48, .agg #[.int .u8 (y.k.toNat : Int), .string D])] (by kernel_rfl) (fun _ => rfl) (fun _ => rfl) ?_
          rintro ρ hc hf ⟨e48, -⟩
          have hBw : B ≤ w1.heap.size := by rw [HBB.out]; exact hC.1.size
          refine stepW_val (w' := w1.alloc (.cells #[.int .u8 (y.k.toNat : Int), .string D] 55)) (v := .slice (some ⟨w1.heap.size, 0, none⟩) 1 1) (by go_simp) ⟨(s.1, s.2.1, w1.heap.size, s.2.2.2), vs_other (i := 18) rfl hL, rfl, hC.1.alloc hBw _, hC.2.1.map (fun q => q.alloc _) (fun q => q.alloc _), hC.2.2.1.map (fun q => q.alloc _) (fun q => q.alloc _), fun h1 h2 => (hC.2.2.2.1 (by simpa [upd] using h1) (by simpa [upd] using h2)).alloc _, fun _ _ => Blk.new w1 _ _⟩
        · refine ⟨by kernel_rfl, fun o ho => ?_⟩
          cases ho
          refine stepW_see [(41, u5), (49, .slice (some ⟨s.2.2.1, 0, none⟩) 1 1)] (by kernel_rfl) (fun _ => rfl) (fun _ => rfl) ?_
          rintro ρ hc hf ⟨e41, e49, -⟩
          have hBw : B ≤ w1.heap.size := by rw [HBB.out]; exact hC.1.size
          have hown0 := hC.2.2.1
          rw [hL] at hown0
          replace hown0 := hown0.no
          obtain ⟨v', w2, hrun, hown, hg⟩ := app_blk (t := 25) (e := 55) (ty := 25) ⟨y.k, D⟩ hown0 (hC.2.2.2.2 (ha 18 (by decide)) hL) (by have := HAL.out; omega) hBw Try.underlying25 info55
          have hL21 : L 21 = false := by
            cases c : L 21 with
            | false => rfl
            | true => exact absurd (hdc 21 c 19 (by decide)) (by rw [hL]; decide)
          refine stepW_app _ _ 25 rfl _ _ v' e41 e49 hrun ⟨(s.1, s.2.1, s.2.2.1, v'), vs_two (i := 19) (k := 21) rfl hL hL21, rfl, hC.1.trans (grown_below hg (fun k e => (hown0.lt k e).1) hBw), hC.2.1.map (fun q => own_kept q hown0 hg (by decide)) (fun q => own_kept q hown0 hg (by decide)), OI.yes (by simp [upd]) hown, fun h1 h2 => blk_kept (hC.2.2.2.1 (by simpa [upd] using h1) (by simpa [upd] using h2)) hown0 hg (by decide), fun h1 h2 => by simp [upd] at h2⟩
      · rintro ⟨G1, v1, G2, v2⟩ L w8 ⟨hC1, hC2, hC3, -⟩ hall
        simp only [List.toList_toArray, putsZ_some, putsZ_none, putsZ_nil, List.setIfInBounds_toArray, List.set_cons_zero, List.set_cons_succ]
        rw [hall 9 (by decide)] at hC2
        rw [hall 19 (by decide)] at hC3
        have HO8 := Lib.hid hC2
        have HO9 := Lib.hid hC3
        have HB8 := Lib.hid hC1
        clear hC1 hC2 hC3 hall
        go_wp2
        go_roundw
        case rel => exact ⟨k + 1, by go_num, by omega, by omega, by rw [← HACC.out]; exact HO8.out, by rw [← HACC.out]; exact HO9.out, HB8.out⟩
        case measure => simp [intOf]; omega
end Go.Proofs.Ytmbafeemiclmeaa
