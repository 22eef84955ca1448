/- VlanFull's walk over any table that keeps its contract. -/
import Derived.Test.YtjipbdljljhijaaSpeaks8
import Derived.Test.YtjipbdljljhijaaFull8
namespace Go.Proofs.Ytjipbdljljhijaa
open Go.RowKit
set_option linter.unusedSimpArgs false
set_option linter.unusedVariables false

/-- The table alone. -/
structure One8 (T : World → Nat → Nat → Nat → List Vl → Prop) (w0 : World) (b A B : Nat) (l : List Vl) (w : World) : Prop where
  tab : T w b A B l
  low : w0.heap.size ≤ A ∧ A ≤ B ∧ B ≤ w.heap.size
  below : Below w0.heap.size w0 w
variable {T : World → Nat → Nat → Nat → List Vl → Prop} {w0 w w' : World} {b A B : Nat} {l l' : List Vl}
theorem One8.next (h : One8 T w0 b A B l w) (ok : TabOk T) (hb : Below w.heap.size w w') : One8 T w0 b A B l w' :=
  ⟨ok.keep h.tab (fun k _ hk => hb.block k (by have := h.low; omega)), ⟨h.low.1, h.low.2.1, by have := h.low; have := hb.size; omega⟩, h.below.trans (hb.mono (by have := h.low; omega))⟩
theorem One8.after (h : One8 T w0 b A B l w) (ht : T w' b A B l') (hk : KeptO A B w w') : One8 T w0 b A B l' w' := by
  have h1 := h.low
  have h2 := hk.size
  exact ⟨ht, ⟨h1.1, h1.2.1, by omega⟩, h.below.trans ((hk.below (by omega)).mono h1.1)⟩

theorem ints_any (W : World) (n : Nat) (hn : n = W.heap.size) (zs : List Int) (m : Nat) (hm : zs.length = m) (hz : m ≤ 1000) (cs : Array Value) (hc : cs = (zs.map fun z => Value.int .i64 z).toArray) :
    Calls Try.prog 15 #[.slice (some ⟨n, 0, none⟩) m m] (W.alloc (.cells cs 3)) fun e w' => e = .returned (.int .u32 (ofS zs : Nat)) ∧ W.alloc (.cells cs 3) = w' := by
  rw [hn, hc, ← hm]
  exact of_any _ zs.length zs _ (ints_new W zs) (by omega)

set_option maxHeartbeats 8000000 in
theorem full_walk (ok : TabOk T) (first n : Nat) (w0 : World) (hf : first < 65536) (hn : n < 256) :
    Calls Try.prog 6 #[.int .u16 (first : Nat), .int .u8 (n : Nat)] w0 fun e w' => e = .returned (.bool true) ∧ Below w0.heap.size w0 w' := by
  obtain ⟨count, hcount⟩ : ∃ c, c = n % 30 := ⟨_, rfl⟩
  obtain ⟨from', hfrom⟩ : ∃ f, f = 1 + first % 4000 := ⟨_, rfl⟩
  have hc30 : count < 30 := by omega
  have hf1 : 1 ≤ from' := by omega
  have hf2 : from' ≤ 4000 := by omega
  have e1 : (n : Int) % 30 = (count : Int) := by omega
  have e2 : (1 + (first : Int) % 4000) % 65536 = (from' : Int) := by omega
  have e3 : 1 + (first : Int) % 4000 = (from' : Int) := by omega
  clear hcount hfrom
  go_enter Try.func6, Try.ntmps6
  go_upto_region 7 with (first
    | (go_at_call 16; refine (speaks8_any ok _).mono ?_; rintro e w1 ⟨rfl, hb1⟩)
    | (go_at_call 17; refine (ok.new _).mono ?_; rintro e w2 ⟨b, rfl, ht, hb2⟩))
  rw [e1]
  obtain ⟨A, hA⟩ : ∃ A, w1.heap.size = A := ⟨_, rfl⟩
  obtain ⟨B, hB⟩ : ∃ B, w2.heap.size = B := ⟨_, rfl⟩
  have I0 := Lib.hid (show One8 T w0 b A B (flL from' 0) w2 by
    have s1 := hb1.size
    have s2 := hb2.size
    rw [hA] at s1 s2 ht hb2
    rw [hB] at s2 ht
    exact ⟨ht, ⟨s1, s2, by omega⟩, hb1.trans (hb2.mono s1)⟩)
  clear hb1 hb2 ht hA hB e1 e2 e3
  go_loopw [8] (fun i wr => ∃ k : Nat, k ≤ count ∧ i = .int .i64 k ∧ One8 T w0 b A B (flL from' (min k 16)) wr) (fun i _ => (count - (intOf i).toNat))
  case atStart => exact ⟨0, Nat.zero_le _, rfl, I0.out⟩
  case round =>
    obtain ⟨k, hk, rfl, hI⟩ := hrel
    have HI := Lib.hid hI
    clear hI I0
    by_cases hkc : k < count
    · have g1 : (k : Int) < (count : Int) := by omega
      obtain ⟨q, hq⟩ : ∃ q, q = k % 16 := ⟨_, rfl⟩
      have hq16 : q < 16 := by omega
      have e5 : (k : Int) % 16 = (q : Int) := by omega
      have e7 : ((from' : Int) + (k : Int)) % 65536 = ((from' + k : Nat) : Int) := by omega
      have HQ := Lib.hid hq
      have OF1 := Lib.hid (show ∀ W : World, Calls Try.prog 15 #[.slice (some ⟨W.heap.size, 0, none⟩) 1 1] (W.alloc (.cells #[.int .i64 (1 + (q : Int))] 3)) fun e w' => e = .returned (.int .u32 (2 ^ (k % 16) : Nat)) ∧ W.alloc (.cells #[.int .i64 (1 + (q : Int))] 3) = w' from fun W => by
        have := ints_any W _ rfl [1 + ((k % 16 : Nat) : Int)] 1 rfl (by omega) #[.int .i64 (1 + (q : Int))] (by rw [← hq]; rfl)
        rw [of_one] at this
        exact this)
      obtain ⟨p2, hp2⟩ : ∃ p2, p2 = 2 ^ (k % 16) := ⟨_, rfl⟩
      rw [← hp2] at OF1
      have HP2 := Lib.hid hp2
      obtain ⟨fk, hfk⟩ : ∃ fk, fk = from' + k := ⟨_, rfl⟩
      rw [← hfk] at e7
      have HFK := Lib.hid hfk
      have e8 : (from' : Int) + (k : Int) = (fk : Int) := by omega
      clear hq hp2 hfk
      by_cases h16 : k < 16
      · have HS := Lib.hid (show ∀ W, One8 T w0 b A B (flL from' (min k 16)) W → Calls Try.prog 22 #[.pointer (some ⟨b, 0, none⟩), vlV ⟨fk, p2, 0⟩] W fun e w' => e = .returned (.int .i64 0) ∧ One8 T w0 b A B (flL from' (min (k + 1) 16)) w' from fun W hW => by
          have z := set_fl from' k hf1 (by omega) h16
          rw [← HFK.out, ← HP2.out] at z
          have hm : min k 16 = k := by omega
          rw [hm] at hW
          rw [show min (k + 1) 16 = k + 1 by omega]
          refine (ok.set ⟨fk, p2, 0⟩ hW.tab hW.low.2.1 hW.low.2.2).mono ?_
          rintro e w' ⟨he, ht, hk⟩
          rw [z.2] at he
          rw [z.1] at ht
          exact ⟨he, hW.after ht hk⟩)
        have g16 : (k : Int) < 16 := by omega
        clear h16
        go_wp2_with (first
          | (go_at_call 15; refine (OF1.out _).mono ?_; rintro e w3 ⟨rfl, rfl⟩)
          | (go_at_call 22; refine (HS.out _ (HI.out.next ok ((Below.refl _ _).alloc (Nat.le_refl _) _))).mono ?_; rintro e w4 ⟨rfl, hI4⟩))
        go_roundw
        case rel => exact ⟨k + 1, by omega, by go_num, hI4⟩
        case measure => simp [intOf]; omega
      · have HS := Lib.hid (show ∀ W, One8 T w0 b A B (flL from' (min k 16)) W → Calls Try.prog 22 #[.pointer (some ⟨b, 0, none⟩), vlV ⟨fk, p2, 0⟩] W fun e w' => e = .returned (.int .i64 13) ∧ One8 T w0 b A B (flL from' (min (k + 1) 16)) w' from fun W hW => by
          have z := set_fl_full from' k hf1 (by omega) (by omega)
          rw [← HFK.out, ← HP2.out] at z
          have hm : min k 16 = 16 := by omega
          rw [hm] at hW
          rw [show min (k + 1) 16 = 16 by omega]
          refine (ok.set ⟨fk, p2, 0⟩ hW.tab hW.low.2.1 hW.low.2.2).mono ?_
          rintro e w' ⟨he, ht, hk⟩
          rw [z.2] at he
          rw [z.1] at ht
          exact ⟨he, hW.after ht hk⟩)
        have g16 : ¬ (k : Int) < 16 := by omega
        clear h16
        go_wp2_with (first
          | (go_at_call 15; refine (OF1.out _).mono ?_; rintro e w3 ⟨rfl, rfl⟩)
          | (go_at_call 22; refine (HS.out _ (HI.out.next ok ((Below.refl _ _).alloc (Nat.le_refl _) _))).mono ?_; rintro e w4 ⟨rfl, hI4⟩))
        go_roundw
        case rel => exact ⟨k + 1, by omega, by go_num, hI4⟩
        case measure => simp [intOf]; omega
    · have hkk : k = count := by omega
      subst hkk
      have g1 : ¬ (k : Int) < (k : Int) := by omega
      clear hkc
      by_cases h0 : k = 0
      · subst h0
        have LST := Lib.hid (ok.list HI.out.tab)
        have HB := Lib.hid HI.out.below
        go_wp2_with (go_at_call 24; refine LST.out.mono ?_; rintro e w6 ⟨A6, c6, rfl, -, hb6⟩)
        go_ret
        exact ⟨rfl, HB.out.trans (hb6.mono HB.out.size)⟩
      · have hpos : (0 : Int) < (k : Int) := by omega
        obtain ⟨y, tl, hfl, hy, hne, hlen⟩ := fl_head from' (min k 16) (by omega)
        rw [hfl] at HI
        have S1 := set_head (tl := tl) hy hf1 (by omega)
        have D1 := drop_head (f := from') (tl := tl) 12 8
        have D2 := drop_gone hne
        have HS := Lib.hid (show ∀ W, One8 T w0 b A B (y :: tl) W → Calls Try.prog 22 #[.pointer (some ⟨b, 0, none⟩), vlV ⟨from', 12, 8⟩] W fun e w' => e = .returned (.int .i64 0) ∧ One8 T w0 b A B (⟨from', 12, 8⟩ :: tl) w' from fun W hW => by
          refine (ok.set ⟨from', 12, 8⟩ hW.tab hW.low.2.1 hW.low.2.2).mono ?_
          rintro e w' ⟨he, ht, hk⟩
          rw [S1.2] at he
          rw [S1.1] at ht
          exact ⟨he, hW.after ht hk⟩)
        have HD1 := Lib.hid (show ∀ W, One8 T w0 b A B (⟨from', 12, 8⟩ :: tl) W → Calls Try.prog 18 #[.pointer (some ⟨b, 0, none⟩), .int .u16 (from' : Nat)] W fun e w' => e = .returned (.int .i64 0) ∧ One8 T w0 b A B tl w' from fun W hW => by
          refine (ok.drop from' hW.tab hW.low.2.1 hW.low.2.2).mono ?_
          rintro e w' ⟨he, ht, hk⟩
          rw [D1.2] at he
          rw [D1.1] at ht
          exact ⟨he, hW.after ht hk⟩)
        have HD2 := Lib.hid (show ∀ W, One8 T w0 b A B tl W → Calls Try.prog 18 #[.pointer (some ⟨b, 0, none⟩), .int .u16 (from' : Nat)] W fun e w' => e = .returned (.int .i64 11) ∧ One8 T w0 b A B tl w' from fun W hW => by
          refine (ok.drop from' hW.tab hW.low.2.1 hW.low.2.2).mono ?_
          rintro e w' ⟨he, ht, hk⟩
          rw [D2.2] at he
          rw [D2.1] at ht
          exact ⟨he, hW.after ht hk⟩)
        have O1 := Lib.hid (show ∀ W : World, Calls Try.prog 15 #[.slice (some ⟨W.heap.size, 0, none⟩) 2 2] (W.alloc (.cells #[.int .i64 3, .int .i64 4] 3)) fun e w' => e = .returned (.int .u32 (ofS [3, 4] : Nat)) ∧ W.alloc (.cells #[.int .i64 3, .int .i64 4] 3) = w' from fun W => ints_any W _ rfl [3, 4] 2 rfl (by omega) _ rfl)
        have O2 := Lib.hid (show ∀ (W : World) (n : Nat), n = W.heap.size → Calls Try.prog 15 #[.slice (some ⟨n, 0, none⟩) 1 1] (W.alloc (.cells #[.int .i64 4] 3)) fun e w' => e = .returned (.int .u32 (ofS [4] : Nat)) ∧ W.alloc (.cells #[.int .i64 4] 3) = w' from fun W n hn => ints_any W n hn [4] 1 rfl (by omega) _ rfl)
        obtain ⟨t1, ht1⟩ : ∃ t1, tl.length = t1 := ⟨_, rfl⟩
        have HT1 := Lib.hid ht1
        have LST := Lib.hid (show ∀ W, One8 T w0 b A B tl W → Calls Try.prog 24 #[.pointer (some ⟨b, 0, none⟩)] W fun e w' => ∃ (A : Option Addr) (c : Nat), e = .returned (.slice A t1 c) ∧ Below W.heap.size W w' from fun W hW => by
          rw [← ht1]
          refine (ok.list hW.tab).mono ?_
          rintro e w' ⟨A, c, he, -, hb⟩
          exact ⟨A, c, he, hb⟩)
        have ht2 : t1 = min k 16 - 1 := by rw [← ht1]; exact hlen
        clear hfl hy hne hlen S1 D1 D2 ht1 h0
        go_upto_region 14 with (first
          | (go_at_call 15; first | (with_reducible refine (O1.out _).mono ?_; rintro e w3 ⟨rfl, rfl⟩; rw [o34]) | (with_reducible refine (O2.out (wr.alloc (.cells #[.int .i64 3, .int .i64 4] 3)) _ ?_).mono ?_; (· simp); rintro e w4 ⟨rfl, rfl⟩; rw [o4]))
          | (go_at_call 22; refine (HS.out _ (HI.out.next ok (((Below.refl _ _).alloc (Nat.le_refl _) _).alloc (by simp) _))).mono ?_; rintro e w5 ⟨rfl, hI5⟩))
        go_upto_region 16 with (first
          | (go_at_call 18; first | (with_reducible refine (HD1.out _ hI5).mono ?_; rintro e w6 ⟨rfl, hI6⟩) | (with_reducible refine (HD2.out _ hI6).mono ?_; rintro e w7 ⟨rfl, hI7⟩)))
        have HB := Lib.hid hI7.below
        have HL := Lib.hid (LST.out _ hI7)
        clear hI5 hI6 hI7
        by_cases hk16 : k ≤ 16
        · have m1 : min (k : Int) 16 = (k : Int) := by omega
          have m2 : max ((k : Int) - 1) 0 = (t1 : Int) := by omega
          have m3 : (k : Int) - 1 = (t1 : Int) := by omega
          clear ht2
          go_wp2_with (go_at_call 24; refine HL.out.mono ?_; rintro e w8 ⟨A8, c8, rfl, hb8⟩)
          go_ret
          exact ⟨rfl, HB.out.trans (hb8.mono HB.out.size)⟩
        · have m1 : min (k : Int) 16 = 16 := by omega
          have ht15 : t1 = 15 := by omega
          subst ht15
          clear ht2
          go_wp2_with (go_at_call 24; refine HL.out.mono ?_; rintro e w8 ⟨A8, c8, rfl, hb8⟩)
          go_ret
          exact ⟨rfl, HB.out.trans (hb8.mono HB.out.size)⟩
end Go.Proofs.Ytjipbdljljhijaa
