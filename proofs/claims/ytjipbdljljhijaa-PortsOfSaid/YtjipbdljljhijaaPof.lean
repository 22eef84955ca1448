/- PortsOf, walked: for every list of numbers it returns true. -/
import Derived.Test.YtjipbdljljhijaaOf
import Derived.Test.YtjipbdljljhijaaHold
import Derived.Deep.RegionHeld3
namespace Go.Proofs.Ytjipbdljljhijaa
open Go.RowKit Go.Shelf
set_option linter.unusedSimpArgs false
set_option linter.unusedVariables false
attribute [local go_sem] Oper.semAt_some
attribute [local irreducible] wpQuiet

theorem IntsAt.next {w w' : World} {A : Option Addr} {zs : List Int} (h : IntsAt w A zs) (hb : Below w.heap.size w w') : IntsAt w' A zs := by
  rcases h with h | ⟨b, off, hA, hc⟩
  · exact .inl h
  · refine .inr ⟨b, off, hA, fun j z hz => ?_⟩
    have := hc j z hz
    rw [hb.cell (p := ⟨b, off + j, none⟩) (block_lt_of_cell this)]
    exact this
theorem IntsAt.take {w : World} {A : Option Addr} {zs : List Int} (h : IntsAt w A zs) (n : Nat) : IntsAt w A (zs.take n) := by
  rcases h with h | ⟨b, off, hA, hc⟩
  · exact .inl (by rw [h]; simp)
  · refine .inr ⟨b, off, hA, fun j z hz => hc j z ?_⟩
    rw [List.getElem?_take] at hz
    split at hz
    · exact hz
    · cases hz

theorem IntsAt.own {β : Type} (B : Nat) (A : Option Addr) (zs : List Int) : OwnFrom B (fun (_ : β) W => IntsAt W A zs) := by
  intro s W W' row h hg hr
  rcases h with h | ⟨b, off, hA, hc⟩
  · exact .inl h
  · exact .inr ⟨b, off, hA, fun j z hz => cell_kept (hc j z hz) hg (fun r e => (hr r e).2)⟩
theorem IntsAt.setCell {W : World} {A : Option Addr} {zs : List Int} (h : IntsAt W A zs) {B : Nat} (hB : zs ≠ [] → ∀ a, A = some a → a.block < B) {a : Addr} (ha : B ≤ a.block) (v : Value) : IntsAt (W.setCell a v) A zs := by
  by_cases hne : zs = []
  · exact .inl hne
  rcases h with h | ⟨b, off, hA, hc⟩
  · exact .inl h
  · refine .inr ⟨b, off, hA, fun j z hz => ?_⟩
    have := hB hne _ hA
    rw [World.cell?_setCell_other W a _ v (fun e => by rw [e] at ha; simp at this ha; omega)]
    exact hc j z hz

theorem upto_pos (s : Nat) : ∀ k, ∀ x ∈ upto s k, 1 ≤ x := by
  intro k x hx
  unfold upto at hx
  obtain ⟨j, -, rfl⟩ := List.mem_map.1 (List.mem_filter.1 hx).1
  omega
theorem first_zero (S : Nat) : (((portsL S).length : Int) == 0) = ((portsL S).headD 0 == 0) := by
  cases h : portsL S with
  | nil => rfl
  | cons x l =>
    have := upto_pos S 16 x (by show x ∈ portsL S; rw [h]; simp)
    rw [Bool.eq_iff_iff]
    simp
    omega
/-- What is known behind the ranges. -/
structure Hp (w0 : World) (l : List (Nat × Array Value × TypeId)) (Ds : List Nat) (A : Option Addr) (ys : List Int) (W : World) : Prop where
  kn : Kn w0 l W
  ints : IntsAt W A ys
  dfr : ∀ D ∈ Ds, W.heap[D]? = some (.deferred (some []))
theorem Hp.drew {w0 w : World} {l : List (Nat × Array Value × TypeId)} {Ds : List Nat} {A : Option Addr} {ys : List Int} (h : Hp w0 l Ds A ys w) : Hp w0 l Ds A ys w.drew := ⟨h.kn.drew, h.ints, h.dfr⟩
theorem Hp.next {w0 w w' : World} {l : List (Nat × Array Value × TypeId)} {Ds : List Nat} {A : Option Addr} {ys : List Int} (h : Hp w0 l Ds A ys w) (hb : Below w.heap.size w w') : Hp w0 l Ds A ys w' :=
  ⟨h.kn.next hb, h.ints.next hb, fun D hD => (hb.block D (Array.getElem?_eq_some_iff.1 (h.dfr D hD)).1).trans (h.dfr D hD)⟩

set_option maxRecDepth 100000 in
set_option maxHeartbeats 8000000 in
theorem of_walk (A : Option Addr) (len cap : Nat) (zs : List Int) (w : World) (h : IntsAt w A zs) (hl : zs.length = len) (hc : len ≤ cap ∧ cap ≤ maxLen) (hn : A = none → len = 0 ∧ cap = 0) :
    Calls Try.prog 4 #[.slice A len cap] w fun e w' => e = .returned (.bool true) ∧ Below w.heap.size w w' := by
  obtain ⟨n, hn1, hn2⟩ : ∃ n : Nat, n ≤ len ∧ (len ≤ 30 ∧ n = len ∨ 30 < len ∧ n = 30) := by
    by_cases c : len ≤ 30
    · exact ⟨len, Nat.le_refl _, .inl ⟨c, rfl⟩⟩
    · exact ⟨30, by omega, .inr ⟨by omega, rfl⟩⟩
  have h30 : n ≤ 30 := by omega
  have HN2 := Lib.hid hn2
  have HN1 := Lib.hid hn1
  have HC := Lib.hid hc
  have HNIL := Lib.hid hn
  have hcm : (cap : Int) ≤ 9223372036854775807 := by unfold maxLen at hc; omega
  have hlc : (len : Int) ≤ cap := by omega
  obtain ⟨ys, hys⟩ : ∃ ys, ys = zs.take n := ⟨_, rfl⟩
  have HI := Lib.hid (show IntsAt w A ys by rw [hys]; exact h.take n)
  have HY := Lib.hid (show ys.length = n by rw [hys, List.length_take, hl]; exact Nat.min_eq_left hn1)
  clear hn1 hn2 hc hn h hl hys
  refine calls_marks Try.func4 rfl ?_
  simp only [Try.ntmps4, List.size_toArray, List.length_cons, List.length_nil, Nat.reduceAdd, Nat.reduceSub, Array.replicate_succ, Array.replicate_zero, List.push_toArray, List.append_toArray, List.nil_append, List.cons_append]
  go_upto_region 3 with (go_at_call 7; refine (speaks7_any _).mono ?_; rintro e w1 ⟨rfl, hb1⟩)
  have HB1 := Lib.hid hb1
  clear hb1
  go_cut [0] from 13 to 17 (fun s2 wx => s2 = .slice A n cap ∧ wx = w1)
  case first =>
    rcases HN2.out with ⟨h1, h2⟩ | ⟨h1, h2⟩
    · have h1' : (len : Int) ≤ 30 := by omega
      have HD2 := Lib.hid h2
      have hcl : len ≤ cap := HC.out.1
      clear h1 h2
      cases A with
      | none =>
        obtain ⟨q1, q2⟩ := HNIL.out rfl
        subst q1 q2
        go_wp2_with fail
        go_meet
        rw [HD2.out]
        exact ⟨rfl, rfl⟩
      | some a =>
        go_wp2_with fail
        go_meet
        rw [HD2.out]
        exact ⟨rfl, rfl⟩
    · have h1' : (30 : Int) < (len : Int) := by omega
      have HD2 := Lib.hid h2
      have hcl : 30 ≤ cap := by have := HC.out.1; omega
      cases A with
      | none =>
        obtain ⟨q1, q2⟩ := HNIL.out rfl
        omega
      | some a =>
        clear h1 h2
        go_wp2_with fail
        go_meet
        rw [HD2.out]
        exact ⟨rfl, rfl⟩
  case rest =>
    obtain ⟨rfl, rfl⟩ := hcut
    clear HN2 HC HNIL hcm hlc HN1
    have HI1 := Lib.hid (HI.out.next HB1.out)
    have ho := of_any A cap ys _ HI1.out (by rw [HY.out]; omega)
    rw [HY.out] at ho
    obtain ⟨S, hS⟩ : ∃ S, S = ofS ys := ⟨_, rfl⟩
    rw [← hS] at ho
    have HS := Lib.hid hS
    have hSl : S < 65536 := by rw [hS]; exact ofS_lt ys
    have HSL := Lib.hid hSl
    clear hS HI
    go_wp2_with (go_at_call 15; ((with_reducible refine ho.mono ?_); rintro e w2 ⟨rfl, rfl⟩))
    clear ho
    go_loop [4] (fun p => ∃ k : Nat, k ≤ 16 ∧ p = .int .i64 ((k : Int) + 1)) (fun p => 17 - (intOf p).toNat)
    case atStart => exact ⟨0, by omega, rfl⟩
    case round =>
      obtain ⟨k, hk, rfl⟩ := hrel
      by_cases hlt : k < 16
      · have hk2 : (k : Int) + 1 ≤ 16 := by omega
        have HP := Lib.hid (show hasB S ((k : Int) + 1) = ys.contains ((k : Int) + 1) by rw [HS.out, has_ofS, isPort_at k hlt, Bool.and_true])
        go_wp2
        go_loop [5, 6] (fun b j => ∃ m : Nat, m ≤ n ∧ j = .int .i64 m ∧ b = .bool ((ys.take m).contains ((k : Int) + 1))) (fun _ j => n - (intOf j).toNat)
        case atStart => exact ⟨0, Nat.zero_le _, rfl, by simp⟩
        case round =>
          obtain ⟨m, hm, rfl, rfl⟩ := hrel
          by_cases hlm : m < n
          · obtain ⟨z, hz⟩ : ∃ z, ys[m]? = some z := ⟨_, List.getElem?_eq_getElem (show m < ys.length by rw [HY.out]; exact hlm)⟩
            rcases HI1.out with h0 | ⟨b, off, rfl, hc⟩
            · rw [h0] at hz; simp at hz
            have c := hc m z hz
            have hlm' : (m : Int) < n := by omega
            have HT := Lib.hid (show (ys.take (m + 1)).contains ((k : Int) + 1) = ((ys.take m).contains ((k : Int) + 1) || (z == ((k : Int) + 1))) by
              rw [List.take_add_one, hz, Bool.eq_iff_iff]
              simp
              exact or_congr Iff.rfl eq_comm)
            clear hc hz
            cases hb : (ys.take m).contains ((k : Int) + 1) with
            | true =>
              have HB := Lib.hid hb
              clear hb
              go_wp2
              go_round
              case rel => exact ⟨m + 1, by omega, by go_num, by rw [HT.out, HB.out]; rfl⟩
              case measure => simp [intOf]; omega
            | false =>
              have HB := Lib.hid hb
              clear hb
              go_wp2
              go_round
              case rel => exact ⟨m + 1, by omega, by go_num, by rw [HT.out, HB.out]; rfl⟩
              case measure => simp [intOf]; omega
          · have hmn : m = n := by omega
            subst hmn
            have HT := Lib.hid (show (ys.take m).contains ((k : Int) + 1) = hasB S ((k : Int) + 1) by rw [HP.out, List.take_of_length_le (by rw [HY.out]; exact Nat.le_refl _)])
            rw [HT.out]
            go_wp2_with (go_at_call 10; ((with_reducible refine (has_any S _ _ (by have := HSL.out; omega)).mono ?_); rintro e w' ⟨rfl, rfl⟩))
            go_round
            case rel => exact ⟨k + 1, by omega, by go_num⟩
            case measure => simp [intOf]; omega
      · have hk16 : k = 16 := by omega
        subst hk16
        go_wp2_with (go_at_call 8; refine (all_any S _).mono ?_; rintro e w' ⟨rfl, rfl⟩)
        obtain ⟨W0, hW0⟩ : ∃ W0, W0 = (wc.alloc (.cells #[.int .i64 0] 3)).alloc (.cells #[.int .u32 (S : Nat)] 24) := ⟨_, rfl⟩
        have k0 : Kn w [(wc.heap.size + 1, #[.int .u32 (S : Nat)], 24), (wc.heap.size, #[.int .i64 0], 3)] W0 := by
          rw [hW0]; have := ((show Kn w [] wc from ⟨fun _ h => (by cases h), HB1.out⟩).alloc #[.int .i64 0] 3).alloc #[.int .u32 (S : Nat)] 24; simpa using this
        have i0 : IntsAt W0 A ys := by rw [hW0]; exact HI1.out.next (((Below.refl _ _).alloc (Nat.le_refl _) _).alloc (by simp) _)
        have hz0 : W0.heap.size = wc.heap.size + 2 := by rw [hW0]; simp
        have hAb : ys ≠ [] → ∀ a, A = some a → a.block < wc.heap.size := by
          intro hne a ha
          rcases HI1.out with h | ⟨b, off, hA, hc⟩
          · exact absurd h hne
          · rw [hA] at ha
            cases ha
            cases hy : ys with
            | nil => exact absurd hy hne
            | cons y l => exact block_lt_of_cell (hc 0 y (by rw [hy]; rfl))
        have hwc := HB1.out.size
        rw [← hW0]
        clear hW0
        obtain ⟨b7, hb7⟩ : ∃ b, wc.heap.size = b := ⟨_, rfl⟩
        simp only [hb7] at k0 hz0 hAb hwc ⊢
        have HAB := Lib.hid hAb
        clear hb7 hAb
        obtain ⟨F, hF⟩ : ∃ F, F = (portsL S).headD 0 := ⟨_, rfl⟩
        have HF := Lib.hid hF
        clear hF
        rename_i KK hKK hXX
        have rest : ∀ (D : Nat) (W : World), W0.heap.size ≤ D → Kn w [(b7, #[.int .i64 F], 3)] W → IntsAt W A ys → W.heap[D]? = some (.deferred (some [])) → KK { tmps := #[.slice A n cap, undef, u2, .int .u32 (S : Nat), .int .i64 17, u5, u6, .pointer (some ⟨b7, 0, none⟩), undef, undef, undef, .bool true, .bool false, u13, u14, u15, u16, u17, .slice A n cap, .int .u32 (S : Nat), .int .i64 17, .bool false, u22, u23, u24, u25, u26, u27, u28, u29, u30, u31, u32, u33, u34, u35, u36, u37, u38, u39, u40, u41, u42, u43, .int .u32 (S : Nat), .func (.func 25) #[] #[.pointer (some ⟨b7 + 1, 0, none⟩)], undef, undef, undef, undef, undef, undef, undef, undef, undef, undef, undef, undef, undef, undef, undef, undef, undef, undef, undef, undef, undef, undef, undef, undef, undef, undef, undef], defers := [{ target := .collected D, args := #[] }] } W := by
          intro D W hD hk7 hi7 hK
          refine hKK _ _ ?_
          go_wp2_with (go_at_call 8; refine (all_any S _).mono ?_; rintro e w' ⟨rfl, rfl⟩)
          obtain ⟨W2, hW2⟩ : ∃ W2, W2 = (W.alloc (.cells #[.int .i64 0] 3)).alloc (.cells #[.int .u32 (S : Nat)] 24) := ⟨_, rfl⟩
          have hbW : Below W.heap.size W W2 := by rw [hW2]; exact ((Below.refl _ _).alloc (Nat.le_refl _) _).alloc (by simp) _
          have k2 : Kn w [(W.heap.size + 1, #[.int .u32 (S : Nat)], 24), (W.heap.size, #[.int .i64 0], 3), (b7, #[.int .i64 F], 3)] W2 := by
            rw [hW2]; have := (hk7.alloc #[.int .i64 0] 3).alloc #[.int .u32 (S : Nat)] 24; simpa using this
          have i2 : IntsAt W2 A ys := hi7.next hbW
          have hz2 : W2.heap.size = W.heap.size + 2 := by rw [hW2]; simp
          have hDlt : D < W.heap.size := (Array.getElem?_eq_some_iff.1 hK).1
          have hK2 : W2.heap[D]? = some (.deferred (some [])) := (hbW.block D hDlt).trans hK
          have h79 : b7 < W.heap.size := (hk7.at 0 rfl).lt
          have hwW := hk7.below.size
          rw [← hW2]
          clear hW2 hbW
          obtain ⟨b9, hb9⟩ : ∃ b, W.heap.size = b := ⟨_, rfl⟩
          simp only [hb9] at k2 hz2 hDlt h79 hwW ⊢
          clear hb9
          refine wp_range 25 #[.pointer (some ⟨b9 + 1, 0, none⟩)] (b9 + 1) rfl (enters_of Try.func25 (by kernel_rfl) rfl) (fun p : Int => #[.int .i64 p]) _ _ 16 (all_stops S (b9 + 1) W2 (by have := HSL.out; omega) (k2.at 0 rfl)) (fun _ => rfl)
            (fun pre W => pre = [] ∧ Kn w [(b9, #[.int .i64 0], 3), (b7, #[.int .i64 F], 3)] W ∧ IntsAt W A ys ∧ W.heap[D]? = some (.deferred (some []))) (fun c pre W => ∃ x, c = .exit 6 ∧ pre = [x] ∧ Kn w [(b9, #[.int .i64 x], 3), (b7, #[.int .i64 F], 3)] W ∧ IntsAt W A ys ∧ W.heap[D]? = some (.deferred (some [])))
            (fun p W W' row h2 hg2 hr => ⟨h2.1, kn_own (by omega) (fun _ => _) p W W' row h2.2.1 hg2 hr, IntsAt.own W2.heap.size A ys p W W' row h2.2.2.1 hg2 hr, (hg2.block D (Array.getElem?_eq_some_iff.1 h2.2.2.2).1 (fun e => by have := (hr D e.symm).1; omega)).trans h2.2.2.2⟩)
            (fun c p W W' row h2 hg2 hr => by
              obtain ⟨x, e1, e2, h3, h4, h5⟩ := h2
              exact ⟨x, e1, e2, kn_own (by omega) (fun _ => _) p W W' row h3 hg2 hr, IntsAt.own W2.heap.size A ys p W W' row h4 hg2 hr, (hg2.block D (Array.getElem?_eq_some_iff.1 h5).1 (fun e => by have := (hr D e.symm).1; omega)).trans h5⟩)
            ⟨rfl, k2.sub (fun x hx => by simp only [List.mem_cons, List.not_mem_nil, or_false] at hx ⊢; rcases hx with h | h <;> simp [h]), i2, hK2⟩
            (fun x => { tmps := #[.slice A n cap, undef, u2, .int .u32 (S : Nat), .int .i64 17, u5, u6, .pointer (some ⟨b7, 0, none⟩), undef, .pointer (some ⟨b9, 0, none⟩), .int .i64 x, .bool true, .bool false, u13, u14, u15, u16, u17, .slice A n cap, .int .u32 (S : Nat), .int .i64 17, .bool false, u22, u23, u24, u25, u26, u27, u28, u29, u30, u31, u32, u33, u34, u35, u36, u37, u38, u39, u40, u41, u42, u43, .int .u32 (S : Nat), .func (.func 25) #[] #[.pointer (some ⟨b7 + 1, 0, none⟩)], undef, undef, .int .u32 (S : Nat), .func (.func 25) #[] #[.pointer (some ⟨b9 + 1, 0, none⟩)], .int .i64 x, undef, undef, undef, undef, undef, undef, undef, undef, undef, undef, undef, undef, undef, undef, undef, undef, undef, undef, undef, undef, undef, undef], defers := [] }) ?assign ?body ?done ?stop
          case assign =>
            intro l x W K hK
            gi_wp2
            simpa using hK
          case body =>
            rintro l pre x W ⟨rfl, hk9, hi9, hd9⟩ hN
            have c9 := (hk9.at 0 rfl).cell 0
            simp only [List.getElem?_toArray, List.getElem?_cons_zero] at c9
            have f9 := (hk9.at 0 rfl).free 0
            gi_wp2
            refine ⟨KeepsOthers.setCell _ _ _, x, rfl, rfl, ?_, hi9.setCell HAB.out (by show b7 ≤ b9; omega) _, (KeepsOthers.setCell _ _ _).same D _ hd9 rfl⟩
            have := hk9.upd 0 rfl (fun y hy => by simp only [List.eraseIdx_cons_zero, List.mem_cons, List.not_mem_nil, or_false] at hy; subst hy; intro e; dsimp only at e; omega) (by omega) 0 (.int .i64 x)
            simpa using this
          case done =>
            rintro D2 xs W hD2 rfl ⟨hx0, hk9, hi9, hd9⟩ hK3
            have e0 : F = 0 := by rw [HF.out, hx0]; rfl
            have hp : Hp w [(b9, #[.int .i64 F], 3), (b7, #[.int .i64 F], 3)] [D2, D] A ys W := ⟨by rw [e0] at hk9 ⊢; exact hk9, hi9, fun y hy => by simp only [List.mem_cons, List.not_mem_nil, or_false] at hy; rcases hy with rfl | rfl <;> assumption⟩
            clear e0 hx0
            obtain ⟨fb, hfb⟩ : ∃ fb, (F == 0) = fb := ⟨_, rfl⟩
            have FB := Lib.hid hfb
            have CB := Lib.hid (show (((portsL S).length : Int) == 0) = fb by rw [← hfb, HF.out]; exact first_zero S)
            have WS := Lib.hid (show withinB S S = true by unfold withinB; rw [List.all_eq_true]; intro x hx; unfold portsL upto at hx; exact (List.mem_filter.1 hx).2)
            have SD := Lib.hid (show decide ((S : Int) < 65536) = true by have := HSL.out; simp; omega)
            clear hfb
            have HPP := Lib.hid hp.drew
            clear hp
            go_upto_region 23 with fail
            refine wp_region_quiet (C := Hp w [(b9, #[.int .i64 F], 3), (b7, #[.int .i64 F], 3)] [D2, D] A ys) (by kernel_rfl) (by kernel_rfl) HPP.out ?_
            (refine q_val (v := ?_) (by rfl) ?_ ?_; rotate_left; (· (intro w hC; have c := (hC.kn.at 1 rfl).cell 0; simp only [List.getElem?_toArray, List.getElem?_cons_zero] at c; go_simp; try with_reducible rfl)); (try simp only [Act.put, List.getElem_toArray, List.getElem_cons_succ, List.getElem_cons_zero, List.setIfInBounds_toArray, List.set_cons_zero, List.set_cons_succ]))
            (refine q_val (v := ?_) (by rfl) ?_ ?_; rotate_left; (· (intro w hC; have c := (hC.kn.at 0 rfl).cell 0; simp only [List.getElem?_toArray, List.getElem?_cons_zero] at c; go_simp; try with_reducible rfl)); (try simp only [Act.put, List.getElem_toArray, List.getElem_cons_succ, List.getElem_cons_zero, List.setIfInBounds_toArray, List.set_cons_zero, List.set_cons_succ]))
            (refine q_val (v := ?_) (by rfl) ?_ ?_; rotate_left; (· (intro w hC; go_simp; try with_reducible rfl)); (try simp only [Act.put, List.getElem_toArray, List.getElem_cons_succ, List.getElem_cons_zero, List.setIfInBounds_toArray, List.set_cons_zero, List.set_cons_succ]))
            (refine q_val (v := ?_) (by rfl) ?_ ?_; rotate_left; (· (intro w hC; go_simp; try with_reducible rfl)); (try simp only [Act.put, List.getElem_toArray, List.getElem_cons_succ, List.getElem_cons_zero, List.setIfInBounds_toArray, List.set_cons_zero, List.set_cons_succ]))
            (refine q_val (v := ?_) (by rfl) ?_ ?_; rotate_left; (· (intro w hC; have c := (hC.kn.at 1 rfl).cell 0; simp only [List.getElem?_toArray, List.getElem?_cons_zero] at c; go_simp; try with_reducible rfl)); (try simp only [Act.put, List.getElem_toArray, List.getElem_cons_succ, List.getElem_cons_zero, List.setIfInBounds_toArray, List.set_cons_zero, List.set_cons_succ]))
            (refine q_val (v := ?_) (by rfl) ?_ ?_; rotate_left; (· (intro w hC; have e := FB.out; go_simp; try with_reducible rfl)); (try simp only [Act.put, List.getElem_toArray, List.getElem_cons_succ, List.getElem_cons_zero, List.setIfInBounds_toArray, List.set_cons_zero, List.set_cons_succ]))
            (refine q_val (v := ?_) (by rfl) ?_ ?_; rotate_left; (· (intro w hC; go_simp; try with_reducible rfl)); (try simp only [Act.put, List.getElem_toArray, List.getElem_cons_succ, List.getElem_cons_zero, List.setIfInBounds_toArray, List.set_cons_zero, List.set_cons_succ]))
            (refine q_call (v := .int .i64 ((portsL S).length : Nat)) 13 #[.int .u32 (S : Nat)] (by rfl) (fun w hC => by go_simp; try with_reducible rfl) (fun w hC => calls_in (count_any S w (by have := HSL.out; omega)) (fun w2 hb => hC.next hb)) ?_; (try simp only [Act.put, List.getElem_toArray, List.getElem_cons_succ, List.getElem_cons_zero, List.setIfInBounds_toArray, List.set_cons_zero, List.set_cons_succ]))
            (refine q_val (v := ?_) (by rfl) ?_ ?_; rotate_left; (· (intro w hC; have e := CB.out; go_simp; try with_reducible rfl)); (try simp only [Act.put, List.getElem_toArray, List.getElem_cons_succ, List.getElem_cons_zero, List.setIfInBounds_toArray, List.set_cons_zero, List.set_cons_succ]))
            (refine q_val (v := ?_) (by rfl) ?_ ?_; rotate_left; (· (intro w hC; go_simp; try with_reducible rfl)); (try simp only [Act.put, List.getElem_toArray, List.getElem_cons_succ, List.getElem_cons_zero, List.setIfInBounds_toArray, List.set_cons_zero, List.set_cons_succ]))
            (refine q_val (v := ?_) (by rfl) ?_ ?_; rotate_left; (· (intro w hC; go_simp; try with_reducible rfl)); (try simp only [Act.put, List.getElem_toArray, List.getElem_cons_succ, List.getElem_cons_zero, List.setIfInBounds_toArray, List.set_cons_zero, List.set_cons_succ]))
            (refine q_val (v := ?_) (by rfl) ?_ ?_; rotate_left; (· (intro w hC; go_simp; try with_reducible rfl)); (try simp only [Act.put, List.getElem_toArray, List.getElem_cons_succ, List.getElem_cons_zero, List.setIfInBounds_toArray, List.set_cons_zero, List.set_cons_succ]))
            (refine q_val (v := ?_) (by rfl) ?_ ?_; rotate_left; (· (intro w hC; go_simp; try with_reducible rfl)); (try simp only [Act.put, List.getElem_toArray, List.getElem_cons_succ, List.getElem_cons_zero, List.setIfInBounds_toArray, List.set_cons_zero, List.set_cons_succ]))
            (refine q_val (v := ?_) (by rfl) ?_ ?_; rotate_left; (· (intro w hC; go_simp; try with_reducible rfl)); (try simp only [Act.put, List.getElem_toArray, List.getElem_cons_succ, List.getElem_cons_zero, List.setIfInBounds_toArray, List.set_cons_zero, List.set_cons_succ]))
            (refine q_call (v := .int .u32 (S : Nat)) 15 #[.slice A n cap] (by rfl) (fun w hC => by go_simp; try with_reducible rfl) (fun w hC => calls_in (calls_same (by have c := of_any A cap ys w hC.ints (by rw [HY.out]; omega); rw [HY.out, ← HS.out] at c; exact c)) (fun w2 hb => hC.next hb)) ?_; (try simp only [Act.put, List.getElem_toArray, List.getElem_cons_succ, List.getElem_cons_zero, List.setIfInBounds_toArray, List.set_cons_zero, List.set_cons_succ]))
            (refine q_call (v := .bool true) 14 #[.int .u32 (S : Nat), .int .u32 (S : Nat)] (by rfl) (fun w hC => by go_simp; try with_reducible rfl) (fun w hC => calls_in ((by have c := within_any S S w (by have := HSL.out; omega) (by have := HSL.out; omega); rw [WS.out] at c; exact c)) (fun w2 hb => hC.next hb)) ?_; (try simp only [Act.put, List.getElem_toArray, List.getElem_cons_succ, List.getElem_cons_zero, List.setIfInBounds_toArray, List.set_cons_zero, List.set_cons_succ]))
            (refine q_val (v := ?_) (by rfl) ?_ ?_; rotate_left; (· (intro w hC; go_simp; try with_reducible rfl)); (try simp only [Act.put, List.getElem_toArray, List.getElem_cons_succ, List.getElem_cons_zero, List.setIfInBounds_toArray, List.set_cons_zero, List.set_cons_succ]))
            (refine q_val (v := ?_) (by rfl) ?_ ?_; rotate_left; (· (intro w hC; go_simp; try with_reducible rfl)); (try simp only [Act.put, List.getElem_toArray, List.getElem_cons_succ, List.getElem_cons_zero, List.setIfInBounds_toArray, List.set_cons_zero, List.set_cons_succ]))
            (refine q_val (v := ?_) (by rfl) ?_ ?_; rotate_left; (· (intro w hC; go_simp; try with_reducible rfl)); (try simp only [Act.put, List.getElem_toArray, List.getElem_cons_succ, List.getElem_cons_zero, List.setIfInBounds_toArray, List.set_cons_zero, List.set_cons_succ]))
            (refine q_val (v := ?_) (by rfl) ?_ ?_; rotate_left; (· (intro w hC; have e := SD.out; go_simp; try with_reducible rfl)); (try simp only [Act.put, List.getElem_toArray, List.getElem_cons_succ, List.getElem_cons_zero, List.setIfInBounds_toArray, List.set_cons_zero, List.set_cons_succ]))
            (refine q_val (v := ?_) (by rfl) ?_ ?_; rotate_left; (· (intro w hC; go_simp; try with_reducible rfl)); (try simp only [Act.put, List.getElem_toArray, List.getElem_cons_succ, List.getElem_cons_zero, List.setIfInBounds_toArray, List.set_cons_zero, List.set_cons_succ]))
            (refine q_val (v := ?_) (by rfl) ?_ ?_; rotate_left; (· (intro w hC; go_simp; try with_reducible rfl)); (try simp only [Act.put, List.getElem_toArray, List.getElem_cons_succ, List.getElem_cons_zero, List.setIfInBounds_toArray, List.set_cons_zero, List.set_cons_succ]))
            refine wpQuiet_nil ?_
            intro w5 hC5
            go_wp2_with fail
            have d2 := hC5.dfr D2 (by simp)
            have d1 := hC5.dfr D (by simp)
            have hne : D ≠ D2 := by omega
            refine ⟨by simp, .inl ⟨_, _, rfl, run_takeDeferred d2, ?_⟩⟩
            have d1' : (w5.putObj D2 (.deferred none)).heap[D]? = some (.deferred (some [])) := (World.putObj_heap_other hne).trans d1
            refine ⟨by simp, .inl ⟨_, _, rfl, run_takeDeferred d1', ?_⟩⟩
            refine ⟨_, results_tmp rfl _ _ _, rfl, ?_⟩
            have B5 := hC5.kn.below.grown (grownBy_putObj' w5 D2 (.deferred none)) hC5.kn.below.size (fun i e => by cases e; omega)
            exact B5.grown (grownBy_putObj' _ D (.deferred none)) B5.size (fun i e => by cases e; omega)
          case stop =>
            rintro D2 c pre W hD2 hpre ⟨x, rfl, rfl, hk9, hi9, hd9⟩ hK3
            have e0 : F = x := by
              obtain ⟨l', hl'⟩ := hpre
              rw [HF.out, ← hl']; rfl
            have hp : Hp w [(b9, #[.int .i64 F], 3), (b7, #[.int .i64 F], 3)] [D2, D] A ys W := ⟨by rw [e0] at hk9 ⊢; exact hk9, hi9, fun y hy => by simp only [List.mem_cons, List.not_mem_nil, or_false] at hy; rcases hy with rfl | rfl <;> assumption⟩
            clear e0
            obtain ⟨fb, hfb⟩ : ∃ fb, (F == 0) = fb := ⟨_, rfl⟩
            have FB := Lib.hid hfb
            have CB := Lib.hid (show (((portsL S).length : Int) == 0) = fb by rw [← hfb, HF.out]; exact first_zero S)
            have WS := Lib.hid (show withinB S S = true by unfold withinB; rw [List.all_eq_true]; intro x hx; unfold portsL upto at hx; exact (List.mem_filter.1 hx).2)
            have SD := Lib.hid (show decide ((S : Int) < 65536) = true by have := HSL.out; simp; omega)
            clear hfb
            have HPP := Lib.hid hp.drew
            clear hp
            go_upto_region 23 with fail
            refine wp_region_quiet (C := Hp w [(b9, #[.int .i64 F], 3), (b7, #[.int .i64 F], 3)] [D2, D] A ys) (by kernel_rfl) (by kernel_rfl) HPP.out ?_
            (refine q_val (v := ?_) (by rfl) ?_ ?_; rotate_left; (· (intro w hC; have c := (hC.kn.at 1 rfl).cell 0; simp only [List.getElem?_toArray, List.getElem?_cons_zero] at c; go_simp; try with_reducible rfl)); (try simp only [Act.put, List.getElem_toArray, List.getElem_cons_succ, List.getElem_cons_zero, List.setIfInBounds_toArray, List.set_cons_zero, List.set_cons_succ]))
            (refine q_val (v := ?_) (by rfl) ?_ ?_; rotate_left; (· (intro w hC; have c := (hC.kn.at 0 rfl).cell 0; simp only [List.getElem?_toArray, List.getElem?_cons_zero] at c; go_simp; try with_reducible rfl)); (try simp only [Act.put, List.getElem_toArray, List.getElem_cons_succ, List.getElem_cons_zero, List.setIfInBounds_toArray, List.set_cons_zero, List.set_cons_succ]))
            (refine q_val (v := ?_) (by rfl) ?_ ?_; rotate_left; (· (intro w hC; go_simp; try with_reducible rfl)); (try simp only [Act.put, List.getElem_toArray, List.getElem_cons_succ, List.getElem_cons_zero, List.setIfInBounds_toArray, List.set_cons_zero, List.set_cons_succ]))
            (refine q_val (v := ?_) (by rfl) ?_ ?_; rotate_left; (· (intro w hC; go_simp; try with_reducible rfl)); (try simp only [Act.put, List.getElem_toArray, List.getElem_cons_succ, List.getElem_cons_zero, List.setIfInBounds_toArray, List.set_cons_zero, List.set_cons_succ]))
            (refine q_val (v := ?_) (by rfl) ?_ ?_; rotate_left; (· (intro w hC; have c := (hC.kn.at 1 rfl).cell 0; simp only [List.getElem?_toArray, List.getElem?_cons_zero] at c; go_simp; try with_reducible rfl)); (try simp only [Act.put, List.getElem_toArray, List.getElem_cons_succ, List.getElem_cons_zero, List.setIfInBounds_toArray, List.set_cons_zero, List.set_cons_succ]))
            (refine q_val (v := ?_) (by rfl) ?_ ?_; rotate_left; (· (intro w hC; have e := FB.out; go_simp; try with_reducible rfl)); (try simp only [Act.put, List.getElem_toArray, List.getElem_cons_succ, List.getElem_cons_zero, List.setIfInBounds_toArray, List.set_cons_zero, List.set_cons_succ]))
            (refine q_val (v := ?_) (by rfl) ?_ ?_; rotate_left; (· (intro w hC; go_simp; try with_reducible rfl)); (try simp only [Act.put, List.getElem_toArray, List.getElem_cons_succ, List.getElem_cons_zero, List.setIfInBounds_toArray, List.set_cons_zero, List.set_cons_succ]))
            (refine q_call (v := .int .i64 ((portsL S).length : Nat)) 13 #[.int .u32 (S : Nat)] (by rfl) (fun w hC => by go_simp; try with_reducible rfl) (fun w hC => calls_in (count_any S w (by have := HSL.out; omega)) (fun w2 hb => hC.next hb)) ?_; (try simp only [Act.put, List.getElem_toArray, List.getElem_cons_succ, List.getElem_cons_zero, List.setIfInBounds_toArray, List.set_cons_zero, List.set_cons_succ]))
            (refine q_val (v := ?_) (by rfl) ?_ ?_; rotate_left; (· (intro w hC; have e := CB.out; go_simp; try with_reducible rfl)); (try simp only [Act.put, List.getElem_toArray, List.getElem_cons_succ, List.getElem_cons_zero, List.setIfInBounds_toArray, List.set_cons_zero, List.set_cons_succ]))
            (refine q_val (v := ?_) (by rfl) ?_ ?_; rotate_left; (· (intro w hC; go_simp; try with_reducible rfl)); (try simp only [Act.put, List.getElem_toArray, List.getElem_cons_succ, List.getElem_cons_zero, List.setIfInBounds_toArray, List.set_cons_zero, List.set_cons_succ]))
            (refine q_val (v := ?_) (by rfl) ?_ ?_; rotate_left; (· (intro w hC; go_simp; try with_reducible rfl)); (try simp only [Act.put, List.getElem_toArray, List.getElem_cons_succ, List.getElem_cons_zero, List.setIfInBounds_toArray, List.set_cons_zero, List.set_cons_succ]))
            (refine q_val (v := ?_) (by rfl) ?_ ?_; rotate_left; (· (intro w hC; go_simp; try with_reducible rfl)); (try simp only [Act.put, List.getElem_toArray, List.getElem_cons_succ, List.getElem_cons_zero, List.setIfInBounds_toArray, List.set_cons_zero, List.set_cons_succ]))
            (refine q_val (v := ?_) (by rfl) ?_ ?_; rotate_left; (· (intro w hC; go_simp; try with_reducible rfl)); (try simp only [Act.put, List.getElem_toArray, List.getElem_cons_succ, List.getElem_cons_zero, List.setIfInBounds_toArray, List.set_cons_zero, List.set_cons_succ]))
            (refine q_val (v := ?_) (by rfl) ?_ ?_; rotate_left; (· (intro w hC; go_simp; try with_reducible rfl)); (try simp only [Act.put, List.getElem_toArray, List.getElem_cons_succ, List.getElem_cons_zero, List.setIfInBounds_toArray, List.set_cons_zero, List.set_cons_succ]))
            (refine q_call (v := .int .u32 (S : Nat)) 15 #[.slice A n cap] (by rfl) (fun w hC => by go_simp; try with_reducible rfl) (fun w hC => calls_in (calls_same (by have c := of_any A cap ys w hC.ints (by rw [HY.out]; omega); rw [HY.out, ← HS.out] at c; exact c)) (fun w2 hb => hC.next hb)) ?_; (try simp only [Act.put, List.getElem_toArray, List.getElem_cons_succ, List.getElem_cons_zero, List.setIfInBounds_toArray, List.set_cons_zero, List.set_cons_succ]))
            (refine q_call (v := .bool true) 14 #[.int .u32 (S : Nat), .int .u32 (S : Nat)] (by rfl) (fun w hC => by go_simp; try with_reducible rfl) (fun w hC => calls_in ((by have c := within_any S S w (by have := HSL.out; omega) (by have := HSL.out; omega); rw [WS.out] at c; exact c)) (fun w2 hb => hC.next hb)) ?_; (try simp only [Act.put, List.getElem_toArray, List.getElem_cons_succ, List.getElem_cons_zero, List.setIfInBounds_toArray, List.set_cons_zero, List.set_cons_succ]))
            (refine q_val (v := ?_) (by rfl) ?_ ?_; rotate_left; (· (intro w hC; go_simp; try with_reducible rfl)); (try simp only [Act.put, List.getElem_toArray, List.getElem_cons_succ, List.getElem_cons_zero, List.setIfInBounds_toArray, List.set_cons_zero, List.set_cons_succ]))
            (refine q_val (v := ?_) (by rfl) ?_ ?_; rotate_left; (· (intro w hC; go_simp; try with_reducible rfl)); (try simp only [Act.put, List.getElem_toArray, List.getElem_cons_succ, List.getElem_cons_zero, List.setIfInBounds_toArray, List.set_cons_zero, List.set_cons_succ]))
            (refine q_val (v := ?_) (by rfl) ?_ ?_; rotate_left; (· (intro w hC; go_simp; try with_reducible rfl)); (try simp only [Act.put, List.getElem_toArray, List.getElem_cons_succ, List.getElem_cons_zero, List.setIfInBounds_toArray, List.set_cons_zero, List.set_cons_succ]))
            (refine q_val (v := ?_) (by rfl) ?_ ?_; rotate_left; (· (intro w hC; have e := SD.out; go_simp; try with_reducible rfl)); (try simp only [Act.put, List.getElem_toArray, List.getElem_cons_succ, List.getElem_cons_zero, List.setIfInBounds_toArray, List.set_cons_zero, List.set_cons_succ]))
            (refine q_val (v := ?_) (by rfl) ?_ ?_; rotate_left; (· (intro w hC; go_simp; try with_reducible rfl)); (try simp only [Act.put, List.getElem_toArray, List.getElem_cons_succ, List.getElem_cons_zero, List.setIfInBounds_toArray, List.set_cons_zero, List.set_cons_succ]))
            (refine q_val (v := ?_) (by rfl) ?_ ?_; rotate_left; (· (intro w hC; go_simp; try with_reducible rfl)); (try simp only [Act.put, List.getElem_toArray, List.getElem_cons_succ, List.getElem_cons_zero, List.setIfInBounds_toArray, List.set_cons_zero, List.set_cons_succ]))
            refine wpQuiet_nil ?_
            intro w5 hC5
            go_wp2_with fail
            have d2 := hC5.dfr D2 (by simp)
            have d1 := hC5.dfr D (by simp)
            have hne : D ≠ D2 := by omega
            refine ⟨by simp, .inl ⟨_, _, rfl, run_takeDeferred d2, ?_⟩⟩
            have d1' : (w5.putObj D2 (.deferred none)).heap[D]? = some (.deferred (some [])) := (World.putObj_heap_other hne).trans d1
            refine ⟨by simp, .inl ⟨_, _, rfl, run_takeDeferred d1', ?_⟩⟩
            refine ⟨_, results_tmp rfl _ _ _, rfl, ?_⟩
            have B5 := hC5.kn.below.grown (grownBy_putObj' w5 D2 (.deferred none)) hC5.kn.below.size (fun i e => by cases e; omega)
            exact B5.grown (grownBy_putObj' _ D (.deferred none)) B5.size (fun i e => by cases e; omega)
        refine wp_range 25 #[.pointer (some ⟨b7 + 1, 0, none⟩)] (b7 + 1) rfl (enters_of Try.func25 (by kernel_rfl) rfl) (fun p : Int => #[.int .i64 p]) _ _ 16 (all_stops S (b7 + 1) W0 (by have := HSL.out; omega) (k0.at 0 rfl)) (fun _ => rfl)
          (fun pre W => pre = [] ∧ Kn w [(b7, #[.int .i64 0], 3)] W ∧ IntsAt W A ys) (fun c pre W => ∃ x, c = .exit 4 ∧ pre = [x] ∧ Kn w [(b7, #[.int .i64 x], 3)] W ∧ IntsAt W A ys)
          (fun p W W' row h2 hg2 hr => ⟨h2.1, kn_own (by omega) (fun _ => _) p W W' row h2.2.1 hg2 hr, IntsAt.own W0.heap.size A ys p W W' row h2.2.2 hg2 hr⟩)
          (fun c p W W' row h2 hg2 hr => by
            obtain ⟨x, e1, e2, h3, h4⟩ := h2
            exact ⟨x, e1, e2, kn_own (by omega) (fun _ => _) p W W' row h3 hg2 hr, IntsAt.own W0.heap.size A ys p W W' row h4 hg2 hr⟩)
          ⟨rfl, k0.sub (fun x hx => by simp only [List.mem_cons, List.not_mem_nil, or_false] at hx ⊢; simp [hx]), i0⟩
          (fun x => { tmps := #[.slice A n cap, undef, u2, .int .u32 (S : Nat), .int .i64 17, u5, u6, .pointer (some ⟨b7, 0, none⟩), .int .i64 x, undef, undef, .bool true, .bool false, u13, u14, u15, u16, u17, .slice A n cap, .int .u32 (S : Nat), .int .i64 17, .bool false, u22, u23, u24, u25, u26, u27, u28, u29, u30, u31, u32, u33, u34, u35, u36, u37, u38, u39, u40, u41, u42, u43, .int .u32 (S : Nat), .func (.func 25) #[] #[.pointer (some ⟨b7 + 1, 0, none⟩)], .int .i64 x, undef, undef, undef, undef, undef, undef, undef, undef, undef, undef, undef, undef, undef, undef, undef, undef, undef, undef, undef, undef, undef, undef, undef, undef, undef, undef], defers := [] }) ?assign ?body ?done ?stop
        case assign =>
          intro l x W K hK
          gi_wp2
          simpa using hK
        case body =>
          rintro l pre x W ⟨rfl, hk7, hi7⟩ hN
          have c7 := (hk7.at 0 rfl).cell 0
          simp only [List.getElem?_toArray, List.getElem?_cons_zero] at c7
          have f7 := (hk7.at 0 rfl).free 0
          gi_wp2
          refine ⟨KeepsOthers.setCell _ _ _, rfl, x, rfl, ?_, hi7.setCell HAB.out (Nat.le_refl _) _⟩
          have := hk7.upd 0 rfl (fun y hy => by cases hy) (by omega) 0 (.int .i64 x)
          simpa using this
        case done =>
          rintro D xs W hD rfl ⟨hx0, hk7, hi7⟩ hK
          have e0 : F = 0 := by rw [HF.out, hx0]; rfl
          go_wp2
          exact rest D W hD (by rw [e0]; exact hk7) hi7 hK
        case stop =>
          rintro D c pre W hD hpre ⟨x, rfl, rfl, hk7, hi7⟩ hK
          have e0 : F = x := by
            obtain ⟨l', hl'⟩ := hpre
            rw [HF.out, ← hl']; rfl
          go_wp2
          exact rest D W hD (by rw [e0]; exact hk7) hi7 hK
end Go.Proofs.Ytjipbdljljhijaa
