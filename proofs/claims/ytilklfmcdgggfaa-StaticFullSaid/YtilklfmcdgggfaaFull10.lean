/- The first line of layer 10's statements, and StaticFull's walk, over any table that keeps its contract. -/
import Derived.Test.YtilklfmcdgggfaaPlays10
import Derived.Test.YtilklfmcdgggfaaPrt
namespace Go.Proofs.Ytilklfmcdgggfaa
open Go.RowKit
set_option linter.unusedSimpArgs false
set_option linter.unusedVariables false

/-- The table alone. -/
structure One10 (T : World → Nat → Nat → Nat → List Se → Prop) (w0 : World) (b A B : Nat) (l : List Se) (w : World) : Prop where
  tab : T w b A B l
  low : w0.heap.size ≤ A ∧ A ≤ B ∧ B ≤ w.heap.size
  below : Below w0.heap.size w0 w
variable {T : World → Nat → Nat → Nat → List Se → Prop} {w0 w w' : World} {b A B : Nat} {l l' : List Se}
theorem One10.next (h : One10 T w0 b A B l w) (ok : TabS T) (hb : Below w.heap.size w w') : One10 T w0 b A B l w' :=
  ⟨ok.keep h.tab (fun k _ hk => hb.block k (by have := h.low; omega)), ⟨h.low.1, h.low.2.1, by have := h.low; have := hb.size; omega⟩, h.below.trans (hb.mono (by have := h.low; omega))⟩
theorem One10.after (h : One10 T w0 b A B l w) (ht : T w' b A B l') (hk : KeptO A B w w') : One10 T w0 b A B l' w' := by
  have h1 := h.low
  have h2 := hk.size
  exact ⟨ht, ⟨h1.1, h1.2.1, by omega⟩, h.below.trans ((hk.below (by omega)).mono h1.1)⟩
theorem One10.start {w1 w2 : World} (hb1 : Below w0.heap.size w0 w1) (ht : T w2 b w1.heap.size w2.heap.size l) (hb2 : Below w1.heap.size w1 w2) : One10 T w0 b w1.heap.size w2.heap.size l w2 :=
  ⟨ht, ⟨hb1.size, hb2.size, Nat.le_refl _⟩, hb1.trans (hb2.mono hb1.size)⟩

theorem p8a : setSE [] ⟨5, 8, 0⟩ = 0 := by decide
theorem p8b : setS [] ⟨5, 8, 0⟩ = [⟨5, 8, 0⟩] := by decide
theorem p8c : atK seK (keyN 5 8) [⟨5, 8, 0⟩] = 0 := by decide
theorem p8d : dropSE [⟨5, 8, 0⟩] (keyN 5 8) = 0 := by decide
theorem p8e : cutK seK (keyN 5 8) [⟨5, 8, 0⟩] = [] := by decide
theorem p8g : seOk ⟨5, 8, 0⟩ := by show (8 : Nat) < 281474976710656; omega
theorem p8f : dropSE [] (keyN 5 8) = 11 := by decide

theorem key_cells {W : World} {c : Nat} {c0 c1 c2 c3 c4 c5 c6 : Value} (h : Blk W c #[c0, c1, c2, c3, c4, c5, c6] 36) :
    W.cell? ⟨c, 0, none⟩ = some c0 ∧ W.cell? ⟨c, 1, none⟩ = some c1 ∧ W.cell? ⟨c, 2, none⟩ = some c2 ∧ W.cell? ⟨c, 3, none⟩ = some c3 ∧ W.cell? ⟨c, 4, none⟩ = some c4 ∧ W.cell? ⟨c, 5, none⟩ = some c5 ∧ W.cell? ⟨c, 6, none⟩ = some c6 :=
  ⟨h.cell 0, h.cell 1, h.cell 2, h.cell 3, h.cell 4, h.cell 5, h.cell 6⟩

set_option maxRecDepth 100000 in
set_option maxHeartbeats 8000000 in
theorem speaks10_any (ok : TabS T) (w : World) : Calls Try.prog 27 #[] w fun e w' => e = .returned (.bool true) ∧ Below w.heap.size w w' := by
  go_enter Try.func27, Try.ntmps27
  go_upto_region 2 with (go_at_call 28; refine (ok.new _).mono ?_; rintro e w1 ⟨b, rfl, ht, hb1⟩)
  have O1 := Lib.hid (One10.start (Below.refl w.heap.size w) ht hb1)
  generalize w.heap.size = A at O1
  have HB1 := Lib.hid hb1
  clear ht hb1
  generalize hB : w1.heap.size = B at O1
  have HB := Lib.hid hB
  clear hB
  go_upto_region 3 with (go_at_call 26; refine (fromInt_any 8 _).mono ?_; rintro e w2 ⟨rfl, hb2⟩)
  have O2 := Lib.hid (O1.out.next ok hb2)
  obtain ⟨ka, hka⟩ : ∃ ka : Array Value, ka = #[.int .u16 5, .int .u8 (byteF 8 0 : Nat), .int .u8 (byteF 8 1 : Nat), .int .u8 (byteF 8 2 : Nat), .int .u8 (byteF 8 3 : Nat), .int .u8 (byteF 8 4 : Nat), .int .u8 (byteF 8 5 : Nat)] := ⟨_, rfl⟩
  have HKA := Lib.hid hka
  obtain ⟨W3, hW3⟩ : ∃ W3, W3 = w2.alloc (.cells ka 36) := ⟨_, rfl⟩
  have b3 : Below w2.heap.size w2 W3 := by rw [hW3]; exact (Below.refl _ _).alloc (Nat.le_refl _) _
  have O3 := Lib.hid (O2.out.next ok b3)
  have k3 : Blk W3 w2.heap.size ka 36 := by rw [hW3]; exact Blk.new _ _ _
  have hcB : B ≤ w2.heap.size := O2.out.low.2.2
  rw [hka] at hW3
  rw [← hW3]
  clear hW3 b3 hb2
  generalize w2.heap.size = c at *
  have HCB := Lib.hid hcB
  have K3 := Lib.hid k3
  rw [hka] at k3
  obtain ⟨q0, q1, q2, q3, q4, q5, q6⟩ := key_cells k3
  clear k3 hcB hka
  go_upto_region 4 with (go_at_call 33; refine (ok.set ⟨5, 8, 0⟩ p8g O3.out.tab O3.out.low.2.1 O3.out.low.2.2).mono ?_; rintro e w4 ⟨rfl, ht4, hk4⟩; rw [p8a])
  rw [p8b] at ht4
  have O4 := Lib.hid (O3.out.after ht4 hk4)
  have k4 : Blk w4 c ka 36 := (hk4.block c (.inr HCB.out) K3.out.lt).trans K3.out
  have K4 := Lib.hid k4
  rw [HKA.out] at k4
  clear ht4 hk4 q0 q1 q2 q3 q4 q5 q6
  obtain ⟨q0, q1, q2, q3, q4, q5, q6⟩ := key_cells k4
  clear k4
  have HGET := Lib.hid (show Calls Try.prog 31 #[.pointer (some ⟨b, 0, none⟩), keyV 5 8] w4 fun e w' => e = .returned (.tuple #[.int .u32 0, .bool true]) ∧ Below w4.heap.size w4 w' from (ok.get 5 8 (by omega) O4.out.tab).mono fun e w' ⟨hb, hr⟩ => by
    rcases hr with ⟨q, -⟩ | ⟨k, x, z1, z2, z3⟩
    · rw [p8c] at q; cases q
    · rw [p8c] at z1
      have hk0 : k = 0 := by omega
      subst hk0
      have hx : x = ⟨5, 8, 0⟩ := (Option.some.inj z2).symm
      subst hx
      exact ⟨z3, hb⟩)
  go_upto_region 5 with (go_at_call 31; refine HGET.out.mono ?_; rintro e w5 ⟨rfl, hb5⟩)
  have O5 := Lib.hid (O4.out.next ok hb5)
  have k5 := K4.out.below hb5 K4.out.lt
  have K5 := Lib.hid k5
  clear hb5 q0 q1 q2 q3 q4 q5 q6 k5 HGET
  go_wp2_with (first
    | (go_at_call 35; refine (ok.list O5.out.tab).mono ?_; rintro e w6 ⟨A6, c6, rfl, -, hb6⟩
       have O6 := Lib.hid (O5.out.next ok hb6)
       have k6 := K5.out.below hb6 K5.out.lt
       have K6 := Lib.hid k6
       rw [HKA.out] at k6
       obtain ⟨q0, q1, q2, q3, q4, q5, q6⟩ := key_cells k6)
    | (go_at_call 29; first
       | (refine (ok.drop 5 8 (by omega) O6.out.tab O6.out.low.2.1 O6.out.low.2.2).mono ?_; rintro e w7 ⟨rfl, ht7, hk7⟩; rw [p8d]
          rw [p8e] at ht7
          have O7 := Lib.hid (O6.out.after ht7 hk7)
          have k7 : Blk w7 c ka 36 := (hk7.block c (.inr HCB.out) K6.out.lt).trans K6.out
          rw [HKA.out] at k7
          obtain ⟨r0, r1, r2, r3, r4, r5, r6⟩ := key_cells k7)
       | (refine (ok.drop 5 8 (by omega) O7.out.tab O7.out.low.2.1 O7.out.low.2.2).mono ?_; rintro e w8 ⟨rfl, ht8, hk8⟩; rw [p8f]
          have O8 := Lib.hid (O7.out.after ht8 hk8))))
  go_ret
  exact ⟨rfl, O8.out.below⟩
theorem ints_any (W : World) (n : Nat) (hn : n = W.heap.size) (zs : List Int) (m : Nat) (hm : zs.length = m) (hz : m ≤ 1000) (cs : Array Value) (hc : cs = (zs.map fun z => Value.int .i64 z).toArray) :
    Calls Try.prog 36 #[.slice (some ⟨n, 0, none⟩) m m] (W.alloc (.cells cs 3)) fun e w' => e = .returned (.int .u32 (ofS zs : Nat)) ∧ W.alloc (.cells cs 3) = w' := by
  rw [hn, hc, ← hm]
  exact of_any _ zs.length zs _ (ints_new W zs) (by omega)
theorem of_one (j : Nat) : ofS [1 + ((j % 16 : Nat) : Int)] = 2 ^ (j % 16) := by
  have hj : j % 16 < 16 := Nat.mod_lt _ (by omega)
  generalize j % 16 = q at *
  unfold ofS
  simp only [List.foldl_cons, List.foldl_nil]
  unfold withS
  rw [show (1 : Int) + (q : Int) = (q : Int) + 1 by omega, isPort_at q hj, if_pos rfl, show ((q : Int) + 1 - 1).toNat = q by omega, Nat.zero_or]
theorem of_two : ofS [2] = 2 := by decide

set_option maxRecDepth 100000 in
set_option maxHeartbeats 16000000 in
theorem full10_walk (ok : TabS T) (n z : Nat) (w0 : World) (hn : n < 256) (hz : z < 256) :
    Calls Try.prog 7 #[.int .u8 (n : Nat), .int .u8 (z : Nat)] w0 fun e w' => e = .returned (.bool true) ∧ Below w0.heap.size w0 w' := by
  obtain ⟨count, hcount⟩ : ∃ c, c = n % 30 := ⟨_, rfl⟩
  have hc30 : count < 30 := by omega
  have e1 : (n : Int) % 30 = (count : Int) := by omega
  have hz8 := Lib.hid hz
  clear hcount hz
  go_enter Try.func7, Try.ntmps7
  go_upto_region 6 with (first
    | (go_at_call 27; refine (speaks10_any ok _).mono ?_; rintro e w1 ⟨rfl, hb1⟩)
    | (go_at_call 28; refine (ok.new _).mono ?_; rintro e w2 ⟨b, rfl, ht, hb2⟩))
  rw [e1]
  have I0 := Lib.hid (One10.start hb1 ht hb2)
  generalize w1.heap.size = A at I0
  generalize w2.heap.size = B at I0
  clear hb1 hb2 ht e1
  go_loopw [7] (fun i wr => ∃ (k : Nat) (l : List Se), k ≤ count ∧ i = .int .i64 k ∧ FS k l ∧ One10 T w0 b A B l wr) (fun i _ => (count - (intOf i).toNat))
  case atStart => exact ⟨0, [], Nat.zero_le _, rfl, FS.nil, I0.out⟩
  case round =>
    obtain ⟨k, l, hk, rfl, hF, hI⟩ := hrel
    have HI := Lib.hid hI
    have HF := Lib.hid hF
    clear hI I0 hF
    by_cases hkc : k < count
    · have g1 : (k : Int) < (count : Int) := by omega
      obtain ⟨q, hq⟩ : ∃ q, q = k % 16 := ⟨_, rfl⟩
      obtain ⟨t, ht⟩ : ∃ t, t = k % 3 := ⟨_, rfl⟩
      have e3 : (k : Int) % 3 = (t : Int) := by omega
      have e5 : (k : Int) % 16 = (q : Int) := by omega
      obtain ⟨a2, ha2⟩ : ∃ a2, a2 = 2 * k := ⟨_, rfl⟩
      have e6 : 2 * (k : Int) = (a2 : Int) := by omega
      obtain ⟨v, hv⟩ : ∃ v, v = 1 + t := ⟨_, rfl⟩
      have e7 : 1 + (t : Int) = (v : Int) := by omega
      have OF1 := Lib.hid (show ∀ W : World, Calls Try.prog 36 #[.slice (some ⟨W.heap.size, 0, none⟩) 1 1] (W.alloc (.cells #[.int .i64 (1 + (q : Int))] 3)) fun e w' => e = .returned (.int .u32 (2 ^ (k % 16) : Nat)) ∧ W.alloc (.cells #[.int .i64 (1 + (q : Int))] 3) = w' from fun W => by
        have := ints_any W _ rfl [1 + ((k % 16 : Nat) : Int)] 1 rfl (by omega) #[.int .i64 (1 + (q : Int))] (by rw [← hq]; rfl)
        rw [of_one] at this
        exact this)
      obtain ⟨p2, hp2⟩ : ∃ p2, p2 = 2 ^ (k % 16) := ⟨_, rfl⟩
      rw [← hp2] at OF1
      have HP2 := Lib.hid hp2
      have HA2 := Lib.hid ha2
      have HV := Lib.hid (show v = 1 + k % 3 by omega)
      have FI := Lib.hid (show ∀ W, Calls Try.prog 26 #[.int .u64 (a2 : Nat)] W fun e w' => e = .returned (mac (byteF a2)) ∧ Below W.heap.size W w' from fun W => fromInt_any a2 W)
      have hq16 : q < 16 := by omega
      have ht3 : t < 3 := by omega
      have ha60 : a2 < 60 := by omega
      have hv4 : v < 4 := by omega
      clear hq hp2 ha2 ht hv
      by_cases h16 : k < 16
      · have HS := Lib.hid (show ∀ W l, FS k l → One10 T w0 b A B l W → Calls Try.prog 33 #[.pointer (some ⟨b, 0, none⟩), .agg #[.int .u16 (v : Nat), .int .u8 (byteF a2 0 : Nat), .int .u8 (byteF a2 1 : Nat), .int .u8 (byteF a2 2 : Nat), .int .u8 (byteF a2 3 : Nat), .int .u8 (byteF a2 4 : Nat), .int .u8 (byteF a2 5 : Nat), .int .u32 (p2 : Nat)]] W fun e w' => e = .returned (.int .i64 0) ∧ ∃ l', FS (k + 1) l' ∧ One10 T w0 b A B l' w' from fun W l hF hW => by
          rw [HV.out, HA2.out, HP2.out]
          have z := hF.step h16
          refine (ok.set (flS k) (ok_flS k (by omega)) hW.tab hW.low.2.1 hW.low.2.2).mono ?_
          rintro e w' ⟨he, ht, hk⟩
          rw [z.2] at he
          exact ⟨he, _, z.1, hW.after ht hk⟩)
        have g16 : (k : Int) < 16 := by omega
        clear h16
        go_wp2_with (first
          | (go_at_call 26; refine (FI.out _).mono ?_; rintro e w2 ⟨rfl, hb2⟩)
          | (go_at_call 36; refine (OF1.out _).mono ?_; rintro e w3 ⟨rfl, rfl⟩)
          | (go_at_call 33; refine (HS.out _ l HF.out ((HI.out.next ok hb2).next ok ((Below.refl _ _).alloc (Nat.le_refl _) _))).mono ?_; rintro e w4 ⟨rfl, l4, hF4, hI4⟩))
        go_roundw
        case rel => exact ⟨k + 1, l4, by omega, by go_num, hF4, hI4⟩
        case measure => simp [intOf]; omega
      · have HS := Lib.hid (show ∀ W l, FS k l → One10 T w0 b A B l W → Calls Try.prog 33 #[.pointer (some ⟨b, 0, none⟩), .agg #[.int .u16 (v : Nat), .int .u8 (byteF a2 0 : Nat), .int .u8 (byteF a2 1 : Nat), .int .u8 (byteF a2 2 : Nat), .int .u8 (byteF a2 3 : Nat), .int .u8 (byteF a2 4 : Nat), .int .u8 (byteF a2 5 : Nat), .int .u32 (p2 : Nat)]] W fun e w' => e = .returned (.int .i64 13) ∧ ∃ l', FS (k + 1) l' ∧ One10 T w0 b A B l' w' from fun W l hF hW => by
          rw [HV.out, HA2.out, HP2.out]
          have z := hF.full (by omega) (by omega)
          refine (ok.set (flS k) (ok_flS k (by omega)) hW.tab hW.low.2.1 hW.low.2.2).mono ?_
          rintro e w' ⟨he, ht, hk⟩
          rw [z.2] at he
          exact ⟨he, _, z.1, hW.after ht hk⟩)
        have g16 : ¬ (k : Int) < 16 := by omega
        clear h16
        go_wp2_with (first
          | (go_at_call 26; refine (FI.out _).mono ?_; rintro e w2 ⟨rfl, hb2⟩)
          | (go_at_call 36; refine (OF1.out _).mono ?_; rintro e w3 ⟨rfl, rfl⟩)
          | (go_at_call 33; refine (HS.out _ l HF.out ((HI.out.next ok hb2).next ok ((Below.refl _ _).alloc (Nat.le_refl _) _))).mono ?_; rintro e w4 ⟨rfl, l4, hF4, hI4⟩))
        go_roundw
        case rel => exact ⟨k + 1, l4, by omega, by go_num, hF4, hI4⟩
        case measure => simp [intOf]; omega
    · have hkk : k = count := by omega
      subst hkk
      have g1 : ¬ (k : Int) < (k : Int) := by omega
      clear hkc
      by_cases h0 : k = 0
      · obtain ⟨l9, hl9⟩ : ∃ l9, l9 = l := ⟨_, rfl⟩
        obtain ⟨n9, hn9⟩ : ∃ n9, n9 = min k 16 := ⟨_, rfl⟩
        have HN9 := Lib.hid hn9
        have FT9 := Lib.hid (show FT n9 l9 by rw [hn9, hl9]; exact HF.out.ft (by omega))
        have g0 : ¬ (0 : Int) < (k : Int) := by omega
        have gm : min (k : Int) 16 = (n9 : Int) := by omega
        go_upto_region 13 with fail
        have O9 := Lib.hid (show One10 T w0 b A B l9 wr by rw [hl9]; exact HI.out)
        clear hl9 hn9
        by_cases hz : z < 16
        · have e16 : (z : Int) < 16 := by omega
          have HS9 := Lib.hid (show ∀ W, One10 T w0 b A B l9 W → Calls Try.prog 33 #[.pointer (some ⟨b, 0, none⟩), .agg #[.int .u16 4000, .int .u8 1, .int .u8 128, .int .u8 194, .int .u8 0, .int .u8 0, .int .u8 (z : Nat), .int .u32 0]] W fun e w' => e = .returned (.int .i64 6) ∧ One10 T w0 b A B l9 w' from fun W hW => by
            have q := FT9.out.last hz8.out
            rw [if_pos hz] at q
            have q2 := FT9.out.kept (z := z) hz
            obtain ⟨e0, e1, e2, e3, e4, e5⟩ := last_bytes z hz8.out
            have := (ok.set ⟨4000, lastN z, 0⟩ (by show lastN z < 281474976710656; have := hz8.out; simp only [lastN]; omega) hW.tab hW.low.2.1 hW.low.2.2)
            simp only [seV, seA, e0, e1, e2, e3, e4, e5] at this
            refine this.mono ?_
            rintro e w' ⟨he, ht, hk⟩
            rw [q] at he
            rw [q2] at ht
            exact ⟨he, hW.after ht hk⟩)
          have HLS := Lib.hid (show ∀ W, One10 T w0 b A B l9 W → Calls Try.prog 35 #[.pointer (some ⟨b, 0, none⟩)] W fun e w' => ∃ (A : Option Addr) (c : Nat), e = .returned (.slice A n9 c) ∧ Below W.heap.size W w' from fun W hW => by
            rw [← FT9.out.len]
            refine (ok.list hW.tab).mono ?_
            rintro e w' ⟨A, c, he, -, hb⟩
            exact ⟨A, c, he, hb⟩)
          clear hz
          go_wp2_with (first
            | (go_at_call 33; refine (HS9.out _ O9.out).mono ?_; rintro e w7 ⟨rfl, hI7⟩)
            | (go_at_call 35; refine (HLS.out _ hI7).mono ?_; rintro e w8 ⟨A8, c8, rfl, hb8⟩))
          all_goals
            go_ret
            refine ⟨ret_bool (b := true) ?_, hI7.below.trans (hb8.mono hI7.below.size)⟩
            first | rfl | (simp; have := HN9.out; omega)
        · have e16 : ¬ (z : Int) < 16 := by omega
          by_cases h9 : 16 ≤ n9
          · exfalso
            have := HN9.out
            omega
          · have HS9 := Lib.hid (show ∀ W, One10 T w0 b A B l9 W → Calls Try.prog 33 #[.pointer (some ⟨b, 0, none⟩), .agg #[.int .u16 4000, .int .u8 1, .int .u8 128, .int .u8 194, .int .u8 0, .int .u8 0, .int .u8 (z : Nat), .int .u32 0]] W fun e w' => e = .returned (.int .i64 0) ∧ Below w0.heap.size w0 w' from fun W hW => by
              have q := FT9.out.last hz8.out
              rw [if_neg hz, if_neg h9] at q
              obtain ⟨e0, e1, e2, e3, e4, e5⟩ := last_bytes z hz8.out
              have := (ok.set ⟨4000, lastN z, 0⟩ (by show lastN z < 281474976710656; have := hz8.out; simp only [lastN]; omega) hW.tab hW.low.2.1 hW.low.2.2)
              simp only [seV, seA, e0, e1, e2, e3, e4, e5] at this
              refine this.mono ?_
              rintro e w' ⟨he, ht, hk⟩
              rw [q] at he
              exact ⟨he, (hW.after ht hk).below⟩)
            have g9 : ¬ (16 : Int) ≤ (k : Int) := by have := HN9.out; omega
            have g99 : (k : Int) < 16 := by omega
            clear hz h9
            go_wp2_with (go_at_call 33; refine (HS9.out _ O9.out).mono ?_; rintro e w7 ⟨rfl, hI7⟩)
            go_ret
            refine ⟨ret_bool (b := true) ?_, hI7⟩
            first | rfl | (simp; omega)
      · have g0 : (0 : Int) < (k : Int) := by omega
        obtain ⟨n9, hn9⟩ : ∃ n9, n9 = min k 16 := ⟨_, rfl⟩
        have HN9 := Lib.hid hn9
        have gm : min (k : Int) 16 = (n9 : Int) := by omega
        obtain ⟨l9, hl9⟩ : ∃ l9, l9 = setS l ⟨1, 0, 2⟩ := ⟨_, rfl⟩
        have zz := HF.out.again (by omega) (by omega)
        rw [← hl9, ← hn9] at zz
        have FT9 := Lib.hid zz.1
        have HS := Lib.hid (show ∀ W, One10 T w0 b A B l W → Calls Try.prog 33 #[.pointer (some ⟨b, 0, none⟩), .agg #[.int .u16 1, .int .u8 0, .int .u8 0, .int .u8 0, .int .u8 0, .int .u8 0, .int .u8 0, .int .u32 2]] W fun e w' => e = .returned (.int .i64 0) ∧ One10 T w0 b A B l9 w' from fun W hW => by
          have := ok.set ⟨1, 0, 2⟩ (by show (0 : Nat) < 281474976710656; omega) hW.tab hW.low.2.1 hW.low.2.2
          rw [zz.2, ← hl9] at this
          exact this.mono fun e w' ⟨he, ht, hk⟩ => ⟨he, hW.after ht hk⟩)
        have O2 := Lib.hid (show ∀ (W : World), Calls Try.prog 36 #[.slice (some ⟨W.heap.size, 0, none⟩) 1 1] (W.alloc (.cells #[.int .i64 2] 3)) fun e w' => e = .returned (.int .u32 (ofS [2] : Nat)) ∧ W.alloc (.cells #[.int .i64 2] 3) = w' from fun W => ints_any W _ rfl [2] 1 rfl (by omega) _ rfl)
        clear hn9 hl9 zz h0
        go_upto_region 13 with (first
          | (go_at_call 36; refine (O2.out _).mono ?_; rintro e w3 ⟨rfl, rfl⟩; rw [of_two])
          | (go_at_call 33; refine (HS.out _ (HI.out.next ok ((Below.refl _ _).alloc (Nat.le_refl _) _))).mono ?_; rintro e w4 ⟨rfl, hI4⟩))
        have O9 := Lib.hid hI4
        clear hI4
        by_cases hz : z < 16
        · have e16 : (z : Int) < 16 := by omega
          have HS9 := Lib.hid (show ∀ W, One10 T w0 b A B l9 W → Calls Try.prog 33 #[.pointer (some ⟨b, 0, none⟩), .agg #[.int .u16 4000, .int .u8 1, .int .u8 128, .int .u8 194, .int .u8 0, .int .u8 0, .int .u8 (z : Nat), .int .u32 0]] W fun e w' => e = .returned (.int .i64 6) ∧ One10 T w0 b A B l9 w' from fun W hW => by
            have q := FT9.out.last hz8.out
            rw [if_pos hz] at q
            have q2 := FT9.out.kept (z := z) hz
            obtain ⟨e0, e1, e2, e3, e4, e5⟩ := last_bytes z hz8.out
            have := (ok.set ⟨4000, lastN z, 0⟩ (by show lastN z < 281474976710656; have := hz8.out; simp only [lastN]; omega) hW.tab hW.low.2.1 hW.low.2.2)
            simp only [seV, seA, e0, e1, e2, e3, e4, e5] at this
            refine this.mono ?_
            rintro e w' ⟨he, ht, hk⟩
            rw [q] at he
            rw [q2] at ht
            exact ⟨he, hW.after ht hk⟩)
          have HLS := Lib.hid (show ∀ W, One10 T w0 b A B l9 W → Calls Try.prog 35 #[.pointer (some ⟨b, 0, none⟩)] W fun e w' => ∃ (A : Option Addr) (c : Nat), e = .returned (.slice A n9 c) ∧ Below W.heap.size W w' from fun W hW => by
            rw [← FT9.out.len]
            refine (ok.list hW.tab).mono ?_
            rintro e w' ⟨A, c, he, -, hb⟩
            exact ⟨A, c, he, hb⟩)
          clear hz
          go_wp2_with (first
            | (go_at_call 33; refine (HS9.out _ O9.out).mono ?_; rintro e w7 ⟨rfl, hI7⟩)
            | (go_at_call 35; refine (HLS.out _ hI7).mono ?_; rintro e w8 ⟨A8, c8, rfl, hb8⟩))
          all_goals
            go_ret
            refine ⟨ret_bool (b := true) ?_, hI7.below.trans (hb8.mono hI7.below.size)⟩
            first | rfl | (simp; have := HN9.out; omega)
        · have e16 : ¬ (z : Int) < 16 := by omega
          by_cases h9 : 16 ≤ n9
          · have HS9 := Lib.hid (show ∀ W, One10 T w0 b A B l9 W → Calls Try.prog 33 #[.pointer (some ⟨b, 0, none⟩), .agg #[.int .u16 4000, .int .u8 1, .int .u8 128, .int .u8 194, .int .u8 0, .int .u8 0, .int .u8 (z : Nat), .int .u32 0]] W fun e w' => e = .returned (.int .i64 13) ∧ Below w0.heap.size w0 w' from fun W hW => by
              have q := FT9.out.last hz8.out
              rw [if_neg hz, if_pos h9] at q
              obtain ⟨e0, e1, e2, e3, e4, e5⟩ := last_bytes z hz8.out
              have := (ok.set ⟨4000, lastN z, 0⟩ (by show lastN z < 281474976710656; have := hz8.out; simp only [lastN]; omega) hW.tab hW.low.2.1 hW.low.2.2)
              simp only [seV, seA, e0, e1, e2, e3, e4, e5] at this
              refine this.mono ?_
              rintro e w' ⟨he, ht, hk⟩
              rw [q] at he
              exact ⟨he, (hW.after ht hk).below⟩)
            have g9 : (16 : Int) ≤ (k : Int) := by have := HN9.out; omega
            have g99 : ¬ (k : Int) < 16 := by omega
            clear hz h9
            go_wp2_with (go_at_call 33; refine (HS9.out _ O9.out).mono ?_; rintro e w7 ⟨rfl, hI7⟩)
            go_ret
            refine ⟨ret_bool (b := true) ?_, hI7⟩
            first | rfl | (simp; omega)
          · have HS9 := Lib.hid (show ∀ W, One10 T w0 b A B l9 W → Calls Try.prog 33 #[.pointer (some ⟨b, 0, none⟩), .agg #[.int .u16 4000, .int .u8 1, .int .u8 128, .int .u8 194, .int .u8 0, .int .u8 0, .int .u8 (z : Nat), .int .u32 0]] W fun e w' => e = .returned (.int .i64 0) ∧ Below w0.heap.size w0 w' from fun W hW => by
              have q := FT9.out.last hz8.out
              rw [if_neg hz, if_neg h9] at q
              obtain ⟨e0, e1, e2, e3, e4, e5⟩ := last_bytes z hz8.out
              have := (ok.set ⟨4000, lastN z, 0⟩ (by show lastN z < 281474976710656; have := hz8.out; simp only [lastN]; omega) hW.tab hW.low.2.1 hW.low.2.2)
              simp only [seV, seA, e0, e1, e2, e3, e4, e5] at this
              refine this.mono ?_
              rintro e w' ⟨he, ht, hk⟩
              rw [q] at he
              exact ⟨he, (hW.after ht hk).below⟩)
            have g9 : ¬ (16 : Int) ≤ (k : Int) := by have := HN9.out; omega
            have g99 : (k : Int) < 16 := by omega
            clear hz h9
            go_wp2_with (go_at_call 33; refine (HS9.out _ O9.out).mono ?_; rintro e w7 ⟨rfl, hI7⟩)
            go_ret
            refine ⟨ret_bool (b := true) ?_, hI7⟩
            first | rfl | (simp; omega)
end Go.Proofs.Ytilklfmcdgggfaa
