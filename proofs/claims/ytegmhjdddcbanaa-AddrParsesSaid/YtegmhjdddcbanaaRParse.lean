/- The document's own answer to a text as an address. -/
import Derived.Test.YtegmhjdddcbanaaLow
import Derived.Test.YtegmhjdddcbanaaRShow
import Derived.Deep.QuietTactic
import Derived.BigQuiet
namespace Go.Proofs.Ytegmhjdddcbanaa
open Go.RowKit

/-- The first letters are small. -/
def lowK (l : List UInt8) (k : Nat) : List UInt8 := (l.take k).map low ++ l.drop k

theorem lowK_len (l : List UInt8) (k : Nat) : (lowK l k).length = l.length := by
  simp [lowK]
  omega

theorem lowK_at (l : List UInt8) (k : Nat) (h : k < l.length) (h' : k < (lowK l k).length) : (lowK l k)[k] = l[k] := by
  simp only [lowK]
  rw [List.getElem_append_right (by simp; omega)]
  simp [Nat.min_eq_left (Nat.le_of_lt h)]

theorem lowK_step (l : List UInt8) (k : Nat) (h : k < l.length) : (lowK l k).set k (low l[k]) = lowK l (k + 1) := by
  simp only [lowK]
  rw [List.set_append_right _ _ (by simp; omega)]
  have e : k - ((l.take k).map low).length = 0 := by simp; omega
  rw [e, List.take_succ_eq_append_getElem h, List.drop_eq_getElem_cons h]
  simp only [List.set_cons_zero, List.map_append, List.map_cons, List.map_nil, List.append_assoc, List.cons_append, List.nil_append]

theorem lowK_all (l : List UInt8) (k : Nat) (h : l.length ≤ k) : lowK l k = l.map low := by
  simp [lowK, List.take_of_length_le h, List.drop_eq_nil_of_le h]

theorem lowK_same (l : List UInt8) (k : Nat) (h : k < l.length) (hc : ¬ (65 ≤ l[k].toNat ∧ l[k].toNat ≤ 70)) : lowK l k = lowK l (k + 1) := by
  rw [← lowK_step l k h]
  have e : low l[k] = l[k] := by
    unfold low lowN
    rw [if_neg hc]
    simp
  rw [e]
  apply List.ext_getElem
  · simp
  · intro i h1 h2
    rw [List.getElem_set]
    by_cases c : k = i
    · subst c
      rw [if_pos rfl, lowK_at l k h]
    · rw [if_neg c]

/-- What the digits below k tell. -/
def part (c k : Nat) : Nat := if hexN c < k then hexN c else 0
def partV (s : ByteArray) (i k : Nat) : Nat := 16 * part (atN s (i * 3)) k + part (atN s (i * 3 + 1)) k

theorem part_le (c k : Nat) (h : k ≤ 16) : part c k ≤ 15 := by unfold part; split <;> omega
theorem part_zero (c : Nat) : part c 0 = 0 := by simp [part]
theorem part_all (c : Nat) : part c 16 = hexV c := rfl
theorem part_yes (c k : Nat) (h : hexN c = k) : part c k = 0 ∧ part c (k + 1) = k := by unfold part; rw [if_neg (by omega), if_pos (by omega)]; exact ⟨rfl, h⟩
theorem part_no (c k : Nat) (h : hexN c ≠ k) : part c (k + 1) = part c k := by
  unfold part
  by_cases g : hexN c < k
  · rw [if_pos g, if_pos (by omega)]
  · rw [if_neg g, if_neg (by omega)]

/-- All places so far, and this one with the digits below k. -/
def mid (s : ByteArray) (i k j : Nat) : Nat := if j = i then partV s i k else soFar s i j

theorem mid_zero (s : ByteArray) (i : Nat) : mid s i 0 = soFar s i := by
  funext j
  unfold mid
  by_cases c : j = i
  · subst c
    rw [if_pos rfl]
    simp [partV, part_zero, soFar]
  · rw [if_neg c]
theorem mid_all (s : ByteArray) (i : Nat) : mid s i 16 = soFar s (i + 1) := by
  funext j
  unfold mid soFar
  by_cases c : j = i
  · subst c
    rw [if_pos rfl, if_pos (by omega)]
    rfl
  · rw [if_neg c]
    by_cases d : j < i
    · rw [if_pos d, if_pos (by omega)]
    · rw [if_neg d, if_neg (by omega)]
theorem mid_set (s : ByteArray) (i k v : Nat) (h : v = partV s i (k + 1)) : (fun j => if j = i then v else mid s i k j) = mid s i (k + 1) := by
  funext j
  unfold mid
  by_cases c : j = i
  · rw [if_pos c, if_pos c, h]
  · rw [if_neg c, if_neg c, if_neg c]
theorem mid_set2 (s : ByteArray) (i k u v : Nat) (h : v = partV s i (k + 1)) : (fun j => if j = i then v else (if j = i then u else mid s i k j)) = mid s i (k + 1) := by
  funext j
  unfold mid
  by_cases c : j = i
  · rw [if_pos c, if_pos c, h]
  · rw [if_neg c, if_neg c, if_neg c, if_neg c]
theorem mid_same (s : ByteArray) (i k : Nat) (h : partV s i k = partV s i (k + 1)) : mid s i k = mid s i (k + 1) := by
  funext j
  unfold mid
  rw [h]

theorem partV_le (s : ByteArray) (i k : Nat) (h : k ≤ 16) : partV s i k ≤ 255 := by
  have h1 := part_le (atN s (i * 3)) k h
  have h2 := part_le (atN s (i * 3 + 1)) k h
  unfold partV
  omega
theorem partV_yes (s : ByteArray) (i k : Nat) (h : k ≤ 15) (a : hexN (atN s (i * 3)) = k) : partV s i k ≤ 15 := by
  have h2 := part_le (atN s (i * 3 + 1)) k (by omega)
  unfold partV
  rw [(part_yes _ _ a).1]
  omega
theorem partV_no (s : ByteArray) (i k : Nat) (h : k ≤ 15) (b : hexN (atN s (i * 3 + 1)) = k) : partV s i k ≤ 240 := by
  have h2 := part_le (atN s (i * 3)) k (by omega)
  unfold partV
  rw [(part_yes _ _ b).1]
  omega
theorem partV_TT (s : ByteArray) (i k : Nat) (a : hexN (atN s (i * 3)) = k) (b : hexN (atN s (i * 3 + 1)) = k) : partV s i k + 16 * k + k = partV s i (k + 1) ∧ partV s i k = 0 := by
  unfold partV
  rw [(part_yes _ _ a).1, (part_yes _ _ b).1, (part_yes _ _ a).2, (part_yes _ _ b).2]
  omega
theorem partV_TF (s : ByteArray) (i k : Nat) (a : hexN (atN s (i * 3)) = k) (b : hexN (atN s (i * 3 + 1)) ≠ k) : partV s i k + 16 * k = partV s i (k + 1) := by
  unfold partV
  rw [(part_yes _ _ a).1, (part_yes _ _ a).2, part_no _ _ b]
  omega
theorem partV_FT (s : ByteArray) (i k : Nat) (a : hexN (atN s (i * 3)) ≠ k) (b : hexN (atN s (i * 3 + 1)) = k) : partV s i k + k = partV s i (k + 1) := by
  unfold partV
  rw [(part_yes _ _ b).1, (part_yes _ _ b).2, part_no _ _ a]
  omega
theorem partV_FF (s : ByteArray) (i k : Nat) (a : hexN (atN s (i * 3)) ≠ k) (b : hexN (atN s (i * 3 + 1)) ≠ k) : partV s i k = partV s i (k + 1) := by
  unfold partV
  rw [part_no _ _ a, part_no _ _ b]

/-- What holds of the world all through: the text's bytes, the result, the address so far. -/
structure St (B : Nat) (w wr : World) (L : List UInt8) (f : Nat → Nat) : Prop where
  has : Has wr (B + 2) (L.map bv)
  below : Below B w wr
  r0 : Blk wr B nil6 22
  r1 : Blk wr (B + 1) (macA f) 22
  size : wr.heap.size = B + 3

theorem St.drewN {B : Nat} {w wr : World} {L : List UInt8} {f : Nat → Nat} (h : St B w wr L f) (n : Nat) : St B w (wr.drewN n) L f := by
  have hq := below_drewN (Below.refl (B + 3) wr) n
  refine ⟨h.has.below hq (by omega), below_drewN h.below n, h.r0.below hq (by omega), h.r1.below hq (by omega), ?_⟩
  have := h.size
  simpa using this

theorem St.set {B : Nat} {w wr : World} {L : List UInt8} {f : Nat → Nat} (h : St B w wr L f) (j v : Nat) (hj : j < 6) : St B w (wr.setCell ⟨B + 1, j, none⟩ (.int .u8 (v : Nat))) L (fun i => if i = j then v else f i) := by
  refine ⟨h.has.other (by simp) _, h.below.setCell (by simp) _, h.r0.other (by simp) _, ?_, by simp [h.size]⟩
  rw [← macA_set f j v hj]
  exact h.r1.set j _

theorem St.cell {B : Nat} {w wr : World} {L : List UInt8} {f : Nat → Nat} (h : St B w wr L f) (j v : Nat) (hj : j < 6) (hv : f j = v) : wr.cell? ⟨B + 1, j, none⟩ = some (.int .u8 (v : Nat)) ∧ wr.frozen? ⟨B + 1, j, none⟩ = false := by
  subst hv
  exact ⟨by rw [h.r1.cell]; exact mac_at _ _ hj, h.r1.free j⟩

theorem St.byte {B : Nat} {w wr : World} {L : List UInt8} {f : Nat → Nat} (h : St B w wr L f) (s : ByteArray) (hL : L = s.data.toList.map low) (q v i : Nat) (hi : i < s.size) (hq : q = i) (hv : v = lowN (atN s i)) : wr.cell? ⟨B + 2, q, none⟩ = some (.int .u8 (v : Nat)) := by
  subst hq
  have hl : q < (L.map bv).length := by rw [hL]; simpa using hi
  rw [h.has.cellAt q hl]
  have hl2 : q < s.data.toList.length := by rw [Array.length_toList]; exact hi
  simp only [hL, List.getElem_map]
  unfold bv
  rw [low_nat, hv]
  unfold atN
  rw [List.getD_eq_getElem?_getD, List.getElem?_eq_getElem hl2]
  rfl

theorem low_val (c : UInt8) (h : 65 ≤ c.toNat ∧ c.toNat ≤ 70) : Value.int .u8 ((c.toNat : Int) + 32) = bv (low c) := by
  unfold bv
  rw [low_nat]
  unfold lowN
  rw [if_pos h]
  rfl

theorem turned {P : Program} {f : FuncId} {args : Array Value} {w : World} {v : Value} (h : Calls P f args w fun e w' => e = .returned v ∧ w = w') : Calls P f args w fun e w' => e = .returned v ∧ w' = w :=
  h.mono fun _ _ ⟨he, hm⟩ => ⟨he, hm.symm⟩

set_option maxRecDepth 100000 in
set_option maxHeartbeats 2000000 in
theorem rparse_17 (s : ByteArray) (w : World) (h : s.size ≤ 17) : Calls Try.prog 19 #[.string s] w fun e w' => e = .returned (.tuple #[mac (parseV s), .int .i64 (parseE s)]) ∧ Below w.heap.size w w' := by
  obtain ⟨W, hW⟩ : ∃ W, W = (w.alloc (Obj.cells nil6 22)).alloc (Obj.cells nil6 22) := ⟨_, rfl⟩
  have hB : Below w.heap.size w W := by rw [hW]; exact ((Below.refl _ _).alloc (Nat.le_refl _) _).alloc (by simp) _
  have hS : W.heap.size = w.heap.size + 2 := by rw [hW]; simp
  have r0 : Blk W w.heap.size nil6 22 := by rw [hW]; exact (Blk.new _ _ _).alloc _
  have r1 : Blk W (w.heap.size + 1) nil6 22 := by
    rw [hW]
    have := Blk.new (w.alloc (Obj.cells nil6 22)) nil6 22
    rwa [show (w.alloc (Obj.cells nil6 22)).heap.size = w.heap.size + 1 by simp] at this
  have HW := Lib.hid hW
  have hl' : ¬ (17 : Int) < (s.size : Int) := by omega
  have HS := Lib.hid hS
  obtain ⟨cap, w2, hrun, hh, hg2, hsz⟩ := bytes_of_text (P := Try.prog) W 9 64 5 s Try.underlying9 Try.underlying64 Try.underlying5
  have hB2 := hB.grown hg2 (by omega) (by simp)
  have q0 := r0.grown hg2 (by simp)
  have q1 := r1.grown hg2 (by simp)
  rw [hS] at hh
  have Hsz := Lib.hid (show w2.heap.size = w.heap.size + 3 by omega)
  have hi := Lib.hid size22
  have hone := Lib.hid nil6_one
  obtain ⟨l, hl⟩ : ∃ l, l = s.data.toList := ⟨_, rfl⟩
  have hll : l.length = s.size := by rw [hl, Array.length_toList]; rfl
  rw [← hl] at hh
  have HL := Lib.hid hl
  have HLL := Lib.hid hll
  have hsm := Lib.hid h
  rw [hS, hW] at hrun
  simp only [nil6] at hrun
  have hsL : (s.size : Int) ≤ 17 := by omega
  clear hW hS hB r0 r1 hg2 hsz hl hll h HW
  go_enter Try.func19, Try.ntmps19
  go_wp2_with (fail)
  clear hrun
  generalize hBe : w.heap.size = B at *
  have HB := Lib.hid hBe
  clear hBe
  go_loopw [6] (fun i wr => ∃ k : Nat, k ≤ s.size ∧ i = .int .i64 (k : Int) ∧ Has wr (B + 2) ((lowK l k).map bv) ∧ Below B w wr ∧ Blk wr B nil6 22 ∧ Blk wr (B + 1) nil6 22 ∧ wr.heap.size = B + 3) (fun i _ => s.size - (intOf i).toNat)
  case atStart => exact ⟨0, by omega, rfl, hh, hB2, q0, q1, Hsz.out⟩
  case round =>
    obtain ⟨k, hk, rfl, hh', hb, h0, h1, hz⟩ := hrel
    have HH := Lib.hid hh'
    have R0 := Lib.hid h0
    have R1 := Lib.hid h1
    have HZ := Lib.hid hz
    clear hh hB2 q0 q1 hh' h0 h1 hz
    by_cases hlt : k < s.size
    · have hkl : k < l.length := by rw [HLL.out]; exact hlt
      have hkl' : k < ((lowK l k).map bv).length := by rw [List.length_map, lowK_len]; exact hkl
      have hc := HH.out.cellAt k hkl'
      rw [List.getElem_map, lowK_at l k hkl] at hc
      have hf := HH.out.freeAt k hkl'
      by_cases g : 65 ≤ l[k].toNat ∧ l[k].toNat ≤ 70
      · have hst := Lib.hid (HH.out.set k (bv (low l[k])))
        have hv := Lib.hid (low_val l[k] g)
        obtain ⟨g1, g2⟩ := g
        have hs := Lib.hid (lowK_step l k hkl)
        generalize l[k] = c at *
        unfold bv at hc
        go_wp2_with fail
        go_roundw
        case rel =>
          refine ⟨k + 1, by omega, by go_num, ?_, hb.setCell (by simp) _, R0.out.other (by simp) _, R1.out.other (by simp) _, by simp [HZ.out]⟩
          rw [hv.out, ← hs.out, List.map_set]
          exact hst.out
        case measure => simp [intOf]; omega
      · have hs := Lib.hid (lowK_same l k hkl g)
        generalize l[k] = c at *
        unfold bv at hc
        rcases (show c.toNat < 65 ∨ (65 ≤ c.toNat ∧ 70 < c.toNat) by omega) with g1 | ⟨g1, g2⟩
        all_goals
          clear g
          go_wp2_with fail
          go_roundw
          case rel => exact ⟨k + 1, by omega, by go_num, by rw [← hs.out]; exact HH.out, hb, R0.out, R1.out, HZ.out⟩
          case measure => simp [intOf]; omega
    · have hkk : k = s.size := by omega
      subst hkk
      by_cases h17 : s.size = 17
      · obtain ⟨L, hL⟩ : ∃ L, L = l.map low := ⟨_, rfl⟩
        have hh3 := HH.out
        rw [lowK_all l s.size (by rw [HLL.out]; exact Nat.le_refl _), ← hL] at hh3
        have HH3 := Lib.hid hh3
        have H17 := Lib.hid h17
        have HLo := Lib.hid hL
        have h17' : (17 : Int) ≤ (s.size : Int) := by omega
        have hLs := Lib.hid (show L = s.data.toList.map low by rw [hL, HL.out])
        have ST := Lib.hid (St.mk (f := soFar s 0) HH3.out hb R0.out R1.out HZ.out)
        clear h17 hh3 hL hsL hl' hlt hk HH HH3 HLo R0 R1 HZ hb
        go_wp2_with fail
        go_loopw [7] (fun i wr => ∃ j : Nat, j ≤ 6 ∧ i = .int .i64 (j : Int) ∧ St B w wr L (soFar s j)) (fun i _ => 6 - (intOf i).toNat)
        case atStart => exact ⟨0, by omega, rfl, ST.out⟩
        case round =>
          obtain ⟨j, hj, rfl, st⟩ := hrel
          clear ST
          have ST := Lib.hid st
          clear st
          by_cases hlt : j < 6
          · have SM := Lib.hid (show St B w wr L (mid s j 0) by rw [mid_zero]; exact ST.out)
            clear ST
            go_wp2_with fail
            go_loopw [8] (fun c wr => ∃ k : Nat, k ≤ 16 ∧ c = .int .u8 (k : Int) ∧ St B w wr L (mid s j k)) (fun c _ => 16 - (intOf c).toNat)
            case atStart => exact ⟨0, by omega, rfl, SM.out⟩
            case round =>
              obtain ⟨k, hk, rfl, st⟩ := hrel
              clear SM
              have SM := Lib.hid st
              clear st
              by_cases hlk : k < 16
              · have hi1 : j * 3 < s.size := by rw [H17.out]; omega
                have hi2 : j * 3 + 1 < s.size := by rw [H17.out]; omega
                obtain ⟨a, ha⟩ : ∃ a, a = lowN (atN s (j * 3)) := ⟨_, rfl⟩
                obtain ⟨b, hb'⟩ : ∃ b, b = lowN (atN s (j * 3 + 1)) := ⟨_, rfl⟩
                obtain ⟨p, hp⟩ : ∃ p, partV s j k = p := ⟨_, rfl⟩
                have HA := Lib.hid ha
                have HB' := Lib.hid hb'
                have HP := Lib.hid hp
                clear ha hb' hp
                have hca := SM.out.byte s hLs.out (3 * j) a (j * 3) hi1 (by omega) HA.out
                have h17j : 3 * (j : Int) + 1 < (s.size : Int) := by omega
                by_cases ea : digN k = a
                · have ea' : ((digN k : Int) == (a : Int)) = true := by rw [ea]; simp
                  have xa := Lib.hid (show hexN (atN s (j * 3)) = k from (dig_iff _ _ hlk).1 (by rw [ea, HA.out]))
                  clear ea
                  go_wp2_with fail
                  go_quiet ((go_at_call 32; exact Calls.quiet_of_same (turned (digit_any k _ (by omega)))))
                  have S1 := Lib.hid (SM.out.drewN nq)
                  clear SM hca ea'
                  generalize wr.drewN nq = w3 at *
                  have hpk : p ≤ 15 := by rw [← HP.out]; exact partV_yes s j k (by omega) xa.out
                  obtain ⟨hcm, hfm⟩ := S1.out.cell j p hlt (by unfold mid; rw [if_pos rfl]; exact HP.out)
                  go_wp2_with fail
                  obtain ⟨p2, hp2⟩ : ∃ p2, p2 = p + 16 * k := ⟨_, rfl⟩
                  rw [show Value.int .u8 ((p : Int) + 16 * (k : Int)) = .int .u8 ((p2 : Nat) : Int) by rw [hp2]; simp]
                  have S2 := Lib.hid (S1.out.set j p2 hlt)
                  have P2 := Lib.hid hp2
                  clear S1 hcm hfm hp2
                  generalize w3.setCell ⟨B + 1, j, none⟩ (.int .u8 ((p2 : Nat) : Int)) = w4 at *
                  have hcb := S2.out.byte s hLs.out (3 * j + 1) b (j * 3 + 1) hi2 (by omega) HB'.out
                  by_cases eb : digN k = b
                  · have eb' : ((digN k : Int) == (b : Int)) = true := by rw [eb]; simp
                    have xb := Lib.hid (show hexN (atN s (j * 3 + 1)) = k from (dig_iff _ _ hlk).1 (by rw [eb, HB'.out]))
                    clear eb
                    have hbound : p2 + k ≤ 255 := by have h := (partV_TT s j k xa.out xb.out).2; rw [HP.out] at h; have := P2.out; omega
                    go_quiet ((go_at_call 32; exact Calls.quiet_of_same (turned (digit_any k _ (by omega)))))
                    have S3 := Lib.hid (S2.out.drewN nq)
                    clear S2 hcb
                    generalize w4.drewN nq = w5 at *
                    obtain ⟨hcm, hfm⟩ := S3.out.cell j p2 hlt (by rw [if_pos rfl])
                    go_wp2_with fail
                    go_roundw
                    case rel =>
                      refine ⟨k + 1, by omega, by go_num, ?_⟩
                      have h := S3.out.set j (p2 + k) hlt
                      rw [mid_set2 s j k p2 (p2 + k) (by rw [P2.out, ← HP.out]; exact (partV_TT s j k xa.out xb.out).1)] at h
                      exact h
                    case measure => simp [intOf]; omega
                  · have eb' : ((digN k : Int) == (b : Int)) = false := by simp; omega
                    have xb := Lib.hid (show hexN (atN s (j * 3 + 1)) ≠ k from fun c => eb (by rw [(dig_iff _ _ hlk).2 c, HB'.out]))
                    clear eb
                    go_quiet ((go_at_call 32; exact Calls.quiet_of_same (turned (digit_any k _ (by omega)))))
                    have S3 := Lib.hid (S2.out.drewN nq)
                    clear S2 hcb
                    generalize w4.drewN nq = w5 at *
                    go_wp2_with fail
                    go_roundw
                    case rel =>
                      refine ⟨k + 1, by omega, by go_num, ?_⟩
                      have h := S3.out
                      rw [mid_set s j k p2 (by rw [P2.out, ← HP.out]; exact partV_TF s j k xa.out xb.out)] at h
                      exact h
                    case measure => simp [intOf]; omega
                · have ea' : ((digN k : Int) == (a : Int)) = false := by simp; omega
                  have xa := Lib.hid (show hexN (atN s (j * 3)) ≠ k from fun c => ea (by rw [(dig_iff _ _ hlk).2 c, HA.out]))
                  clear ea
                  go_wp2_with fail
                  go_quiet ((go_at_call 32; exact Calls.quiet_of_same (turned (digit_any k _ (by omega)))))
                  have S2 := Lib.hid (SM.out.drewN nq)
                  clear SM hca ea'
                  generalize wr.drewN nq = w4 at *
                  obtain ⟨p2, hp2⟩ : ∃ p2, p2 = p := ⟨_, rfl⟩
                  have P2 := Lib.hid hp2
                  clear hp2
                  go_wp2_with fail
                  have hcb := S2.out.byte s hLs.out (3 * j + 1) b (j * 3 + 1) hi2 (by omega) HB'.out
                  by_cases eb : digN k = b
                  · have eb' : ((digN k : Int) == (b : Int)) = true := by rw [eb]; simp
                    have xb := Lib.hid (show hexN (atN s (j * 3 + 1)) = k from (dig_iff _ _ hlk).1 (by rw [eb, HB'.out]))
                    clear eb
                    have hbound : p2 + k ≤ 255 := by have h := partV_no s j k (by omega) xb.out; rw [HP.out] at h; have := P2.out; omega
                    go_quiet ((go_at_call 32; exact Calls.quiet_of_same (turned (digit_any k _ (by omega)))))
                    have S3 := Lib.hid (S2.out.drewN nq)
                    clear S2 hcb
                    generalize w4.drewN nq = w5 at *
                    obtain ⟨hcm, hfm⟩ := S3.out.cell j p2 hlt (by unfold mid; rw [if_pos rfl, HP.out, P2.out])
                    go_wp2_with fail
                    go_roundw
                    case rel =>
                      refine ⟨k + 1, by omega, by go_num, ?_⟩
                      have h := S3.out.set j (p2 + k) hlt
                      rw [mid_set s j k (p2 + k) (by rw [P2.out, ← HP.out]; exact partV_FT s j k xa.out xb.out)] at h
                      exact h
                    case measure => simp [intOf]; omega
                  · have eb' : ((digN k : Int) == (b : Int)) = false := by simp; omega
                    have xb := Lib.hid (show hexN (atN s (j * 3 + 1)) ≠ k from fun c => eb (by rw [(dig_iff _ _ hlk).2 c, HB'.out]))
                    clear eb
                    go_quiet ((go_at_call 32; exact Calls.quiet_of_same (turned (digit_any k _ (by omega)))))
                    have S3 := Lib.hid (S2.out.drewN nq)
                    clear S2 hcb
                    generalize w4.drewN nq = w5 at *
                    go_wp2_with fail
                    go_roundw
                    case rel =>
                      refine ⟨k + 1, by omega, by go_num, ?_⟩
                      have h := S3.out
                      rw [mid_same s j k (partV_FF s j k xa.out xb.out)] at h
                      exact h
                    case measure => simp [intOf]; omega
              · have hk16 : k = 16 := by omega
                subst hk16
                go_wp2_with fail
                go_roundw
                case rel => exact ⟨j + 1, by omega, by go_num, by rw [← mid_all]; exact SM.out⟩
                case measure => simp [intOf]; omega
          · have hj6 : j = 6 := by omega
            subst hj6
            obtain ⟨m, hm⟩ : ∃ m, m = soFar s 6 := ⟨_, rfl⟩
            have st := ST.out
            rw [← hm] at st
            have hsix : Six m := by
              rw [hm]
              refine ⟨?_, ?_, ?_, ?_, ?_, ?_⟩ <;> exact pair_lt _ _
            have hcv := st.has.drew.text (P := Try.prog) (cap := cap) 64 9 5 Try.underlying64 Try.underlying5 Try.underlying9 s.size (by rw [hLs.out]; simp)
            obtain ⟨c0, c1, c2, c3, c4, c5⟩ := st.r1.six
            have S1 := Lib.hid st
            have HM := Lib.hid hm
            clear ST st hm
            have hsz4 : B + 3 ≤ wr.heap.size := by have := S1.out.size; omega
            have H6 := Lib.hid hsix
            clear hsix
            have hsh : showT m 6 = showT (valAt s) 6 := by
              have e : ∀ i, i < 6 → m i = valAt s i := fun i hi => by rw [HM.out]; unfold soFar; rw [if_pos hi]
              simp only [showT]
              rw [e 0 (by omega), e 1 (by omega), e 2 (by omega), e 3 (by omega), e 4 (by omega), e 5 (by omega)]
            have hiff : (showT m 6 = L) ↔ allOk s = true := by rw [hsh, hLs.out]; exact shown_iff s H17.out
            have HI := Lib.hid hiff
            clear hsh hiff
            cases hall : allOk s with
            | true =>
              have hbool : (showT m 6 == L) = true := by rw [HI.out.2 hall]; exact beq_self_eq_true L
              obtain ⟨e1, e2⟩ := parse_good s ((allOk_iff s).1 hall) H17.out
              have E1 := Lib.hid (show mac m = mac (parseV s) by rw [HM.out]; exact e1)
              have E2 := Lib.hid e2
              have hon := Lib.hid (macA_one m)
              clear hall e1 e2
              go_wp2_with fail
              go_region_with (first
                | (go_at_call 18; refine (rshow_any m _ H6.out).mono ?_; rintro e w5 ⟨rfl, hb5⟩
                   have hcv5 := (S1.out.has.drew.below hb5 (by simp; omega)).text (P := Try.prog) (cap := cap) 64 9 5 Try.underlying64 Try.underlying5 Try.underlying9 s.size (by rw [hLs.out]; simp)))
              all_goals
                have R0 := Lib.hid (S1.out.r0.drew.below hb5 (by simp; omega))
                have R1 := Lib.hid (S1.out.r1.drew.below hb5 (by simp; omega))
                have hB5 := S1.out.below.drew.trans (hb5.mono (by simp; omega))
                clear hb5 hcv5 hcv c0 c1 c2 c3 c4 c5
                go_wp2_with (first
                  | (refine wpList_load_row rfl 22 _ rfl (B + 1) rfl 22 _ (0, 0) _ R1.out Try.underlying22 rfl hi.out ?_)
                  | (refine wpList_store_row rfl 22 _ _ rfl B (macA m) rfl rfl 22 nil6 R0.out hi.out rfl hon.out ?_))
                exact bodyPost_ret (v := .tuple #[.agg (macA m), .int .i64 0]) (results_row_tmp Try.results19 _ _ B 22 (macA m) _ _ rfl rfl (R0.out.row _) Try.underlying22 rfl hi.out) rfl ⟨by rw [E2.out, ← E1.out], by rw [HB.out]; exact below_setRow hB5 (Nat.le_refl _) _⟩
            | false =>
              have hbool : (showT m 6 == L) = false := by
                rw [beq_eq_false_iff_ne]
                intro c
                have := HI.out.1 c
                rw [hall] at this
                cases this
              have hex : ∃ k, k < 6 ∧ okAt s k = false := by
                by_cases c : ∀ k, k < 6 → okAt s k = true
                · have := (allOk_iff s).2 c
                  rw [hall] at this
                  cases this
                · simp only [Classical.not_forall] at c
                  obtain ⟨k, hk, h⟩ := c
                  exact ⟨k, hk, by simpa using h⟩
              obtain ⟨k, hk, hkk⟩ := hex
              obtain ⟨e1, e2⟩ := parse_bad s k hk hkk H17.out
              have E1 := Lib.hid e1.symm
              have E2 := Lib.hid e2
              have hon := Lib.hid nil6_one
              clear hall e1 e2 hkk
              go_wp2_with fail
              go_region_with (first
                | (go_at_call 18; refine (rshow_any m _ H6.out).mono ?_; rintro e w5 ⟨rfl, hb5⟩
                   have hcv5 := (S1.out.has.drew.below hb5 (by simp; omega)).text (P := Try.prog) (cap := cap) 64 9 5 Try.underlying64 Try.underlying5 Try.underlying9 s.size (by rw [hLs.out]; simp)))
              all_goals
                have R0 := Lib.hid (S1.out.r0.drew.below hb5 (by simp; omega))
                have R1 := Lib.hid (S1.out.r1.drew.below hb5 (by simp; omega))
                have hB5 := S1.out.below.drew.trans (hb5.mono (by simp; omega))
                clear hb5 hcv5 hcv c0 c1 c2 c3 c4 c5
                go_wp2_with (first
                  | (refine wpList_load_row rfl 22 _ rfl (B + 1) rfl 22 _ (0, 0) _ R1.out Try.underlying22 rfl hi.out ?_)
                  | (refine wpList_store_row rfl 22 _ _ rfl B (nil6) rfl rfl 22 nil6 R0.out hi.out rfl hon.out ?_))
                exact bodyPost_ret (v := .tuple #[.agg (nil6), .int .i64 4]) (results_row_tmp Try.results19 _ _ B 22 (nil6) _ _ rfl rfl (R0.out.row _) Try.underlying22 rfl hi.out) rfl ⟨by rw [E2.out, ← E1.out], by rw [HB.out]; exact below_setRow hB5 (Nat.le_refl _) _⟩
      · have h17' : (s.size : Int) < 17 := by omega
        obtain ⟨e1, e2⟩ := parse_size s h17
        have E1 := Lib.hid e1
        have E2 := Lib.hid (show parseE s = 4 by rw [e2, if_neg (by have := hsm.out; omega)])
        clear h17 e1 e2
        go_wp2_with (first
          | (refine wpList_load_row rfl 22 _ rfl (B + 1) rfl 22 _ (0, 0) _ R1.out Try.underlying22 rfl hi.out ?_)
          | (refine wpList_store_row rfl 22 _ _ rfl B nil6 rfl rfl 22 nil6 R0.out hi.out rfl hone.out ?_))
        exact bodyPost_ret (v := .tuple #[.agg nil6, .int .i64 4]) (results_row_tmp Try.results19 _ _ B 22 nil6 _ _ rfl rfl (R0.out.row _) Try.underlying22 rfl hi.out) rfl ⟨by rw [E1.out, E2.out], by rw [HB.out]; exact below_setRow hb (Nat.le_refl _) _⟩

set_option maxHeartbeats 1000000 in
theorem rparse_any (s : ByteArray) (w : World) : Calls Try.prog 19 #[.string s] w fun e w' => e = .returned (.tuple #[mac (parseV s), .int .i64 (parseE s)]) ∧ Below w.heap.size w w' := by
  by_cases h : s.size ≤ 17
  · exact rparse_17 s w h
  · obtain ⟨e1, e2⟩ := parse_size s (by omega)
    obtain ⟨W, hW⟩ : ∃ W, W = (w.alloc (Obj.cells nil6 22)).alloc (Obj.cells nil6 22) := ⟨_, rfl⟩
    have hB : Below w.heap.size w W := by rw [hW]; exact ((Below.refl _ _).alloc (Nat.le_refl _) _).alloc (by simp) _
    have r0 : Blk W w.heap.size nil6 22 := by rw [hW]; exact (Blk.new _ _ _).alloc _
    have r1 : Blk W (w.heap.size + 1) nil6 22 := by
      rw [hW]
      have := Blk.new (w.alloc (Obj.cells nil6 22)) nil6 22
      rwa [show (w.alloc (Obj.cells nil6 22)).heap.size = w.heap.size + 1 by simp] at this
    have hi := Lib.hid size22
    have hone := Lib.hid nil6_one
    have E1 := Lib.hid e1
    have E2 := Lib.hid (show parseE s = 3 by rw [e2, if_pos (by omega)])
    have c' : (17 : Int) < (s.size : Int) := by omega
    rw [hW] at r0 r1 hB
    have R0 := Lib.hid r0
    have R1 := Lib.hid r1
    have RB := Lib.hid hB
    clear h e1 e2 hW r0 r1 hB
    go_enter Try.func19, Try.ntmps19
    go_wp2_with (first
      | (refine wpList_load_row rfl 22 _ rfl (w.heap.size + 1) rfl 22 _ (0, 0) _ R1.out Try.underlying22 rfl hi.out ?_)
      | (refine wpList_store_row rfl 22 _ _ rfl w.heap.size nil6 rfl rfl 22 nil6 R0.out hi.out rfl hone.out ?_))
    exact bodyPost_ret (v := .tuple #[.agg nil6, .int .i64 3]) (results_row_tmp Try.results19 _ _ w.heap.size 22 nil6 _ _ rfl rfl (R0.out.row _) Try.underlying22 rfl hi.out) rfl ⟨by rw [E1.out, E2.out], below_setRow RB.out (Nat.le_refl _) _⟩

end Go.Proofs.Ytegmhjdddcbanaa
