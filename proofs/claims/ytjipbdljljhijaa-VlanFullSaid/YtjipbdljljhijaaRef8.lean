/- The document's own answers for VLANs. -/
import Derived.Test.YtjipbdljljhijaaLst
import Derived.Test.YtjipbdljljhijaaProg
import Derived.Deep.QuietTactic
import Derived.BigQuiet
import Derived.Deep.DeepCutAuto
import Derived.Deep.RegionHeld3
namespace Go.Proofs.Ytjipbdljljhijaa
open Go.RowKit
set_option linter.unusedSimpArgs false

/-- A VLAN: its number, its members, those without a tag. -/
structure Vl where
  vid : Nat
  mem : Nat
  unt : Nat
deriving DecidableEq
def vlC (x : Vl) : List Value := [.int .u16 (x.vid : Nat), .int .u32 (x.mem : Nat), .int .u32 (x.unt : Nat)]
theorem vlC_len (x : Vl) : (vlC x).length = 3 := rfl
theorem vlC_one (x : Vl) : ∀ u ∈ vlC x, u.oneCell' = true := by
  intro u hu
  simp only [vlC, List.mem_cons, List.not_mem_nil, or_false] at hu
  rcases hu with rfl | rfl | rfl <;> rfl
abbrev vlV (x : Vl) : Value := .agg #[.int .u16 (x.vid : Nat), .int .u32 (x.mem : Nat), .int .u32 (x.unt : Nat)]

/-- The place of the first one that has a number, or -1. -/
def atV (vid : Nat) : List Vl → Int
  | [] => -1
  | x :: l => if x.vid = vid then 0 else if atV vid l < 0 then -1 else atV vid l + 1

theorem atV_none (vid : Nat) : ∀ l : List Vl, (∀ (i : Nat) (x : Vl), l[i]? = some x → x.vid ≠ vid) → atV vid l = -1
  | [], _ => rfl
  | y :: l, h => by
    have h0 := h 0 y rfl
    have ih := atV_none vid l (fun i x hx => h (i + 1) x (by simpa using hx))
    simp [atV, h0, ih]
theorem atV_some (vid : Nat) : ∀ (l : List Vl) (k : Nat) (x : Vl), l[k]? = some x → x.vid = vid → (∀ (i : Nat) (y : Vl), i < k → l[i]? = some y → y.vid ≠ vid) → atV vid l = k
  | [], _, _, h, _, _ => by simp at h
  | y :: l, 0, x, h, hx, _ => by
    simp only [List.getElem?_cons_zero, Option.some.injEq] at h
    subst h
    simp [atV, hx]
  | y :: l, k + 1, x, h, hx, hb => by
    have h0 := hb 0 y (by omega) rfl
    have ih := atV_some vid l k x (by simpa using h) hx (fun i z hi hz => hb (i + 1) z (by omega) (by simpa using hz))
    have : ¬ ((k : Int) < 0) := by omega
    simp [atV, h0, ih, this]

set_option maxHeartbeats 1000000 in
theorem rat_nil (vid : Nat) (w : World) : Calls Try.prog 21 #[.slice none 0 0, .int .u16 (vid : Nat)] w fun e w' => e = .returned (.int .i64 (-1)) ∧ w = w' := by
  go_enter Try.func21, Try.ntmps21
  go_wp2
  refine wp_loop_rounds 1 ?_
  rw [rounds_succ]
  go_wp2
  go_ret
  exact ⟨rfl, rfl⟩

theorem ret_int {k : IntKind} {a b : Int} (h : a = b) : Ending.returned (.int k a) = .returned (.int k b) := by rw [h]

set_option maxHeartbeats 4000000 in
theorem rat_own (base g cap vid : Nat) (l : List Vl) (w : World) (h : Own w base 53 3 vlC (.slice (some ⟨g, 0, none⟩) l.length cap) l) (hl : l.length ≤ 100) :
    Calls Try.prog 21 #[.slice (some ⟨g, 0, none⟩) l.length cap, .int .u16 (vid : Nat)] w fun e w' => e = .returned (.int .i64 (atV vid l)) ∧ w = w' := by
  obtain ⟨n, hn⟩ : ∃ n, l.length = n := ⟨_, rfl⟩
  rw [hn] at h ⊢
  have hn2 : (n : Int) ≤ 100 := by omega
  have H := Lib.hid h
  have HN := Lib.hid hn
  clear h hn hl
  go_enter Try.func21, Try.ntmps21
  go_wp2
  go_loop [5] (fun i => ∃ k : Nat, k ≤ n ∧ i = .int .i64 k ∧ ∀ j y, j < k → l[j]? = some y → y.vid ≠ vid) (fun i => n - (intOf i).toNat)
  case atStart => exact ⟨0, Nat.zero_le _, rfl, fun j y hj => absurd hj (Nat.not_lt_zero _)⟩
  case round =>
    obtain ⟨k, hk, rfl, hbe⟩ := hrel
    have HBE := Lib.hid hbe
    clear hbe
    by_cases hlt : k < n
    · obtain ⟨x, hx⟩ : ∃ x, l[k]? = some x := ⟨_, List.getElem?_eq_getElem (show k < l.length by rw [HN.out]; exact hlt)⟩
      have hc : w.cell? ⟨g, k * 3, none⟩ = some (.int .u16 (x.vid : Nat)) := by
        have := Own.at vlC_len (by rw [HN.out]; exact H.out) k 0 x hx (by omega)
        simpa [vlC] using this
      have HX := Lib.hid hx
      clear hx
      by_cases hv : x.vid = vid
      · have e : ((x.vid : Int) == (vid : Int)) = true := by rw [hv]; simp
        have R := Lib.hid (show (k : Int) = atV vid l from (atV_some vid l k x HX.out hv HBE.out).symm)
        clear hv
        go_wp2
        go_ret
        exact ⟨ret_int R.out, rfl⟩
      · have e : ((x.vid : Int) == (vid : Int)) = false := by simp; omega
        have HV := Lib.hid hv
        clear hv
        go_wp2
        go_round
        case rel => exact ⟨k + 1, by omega, by go_num, fun j y hj hy => by
          by_cases c : j = k
          · subst c
            rw [HX.out] at hy
            cases hy
            exact HV.out
          · exact HBE.out j y (by omega) hy⟩
        case measure => simp [intOf]; omega
    · have R := Lib.hid (show (-1 : Int) = atV vid l from (atV_none vid l (fun i x hx => HBE.out i x (by have := (List.getElem?_eq_some_iff.1 hx).1; have := HN.out; omega) hx)).symm)
      go_wp2
      go_ret
      exact ⟨ret_int R.out, rfl⟩

theorem rat_any (base vid : Nat) (v : Value) (l : List Vl) (w : World) (h : Own w base 53 3 vlC v l) (hl : l.length ≤ 100) :
    Calls Try.prog 21 #[v, .int .u16 (vid : Nat)] w fun e w' => e = .returned (.int .i64 (atV vid l)) ∧ w = w' := by
  rcases h.cases with ⟨rfl, rfl⟩ | ⟨g, cap, rfl, -⟩
  · exact rat_nil vid w
  · exact rat_own base g cap vid l w h hl

/-- Is each of the lowest 16 bits of u one of m, too? -/
def subB (m u : Nat) : Bool := (List.range 16).all fun i => !(decide (u / 2 ^ i % 2 = 1)) || decide (m / 2 ^ i % 2 = 1)
theorem subB_true {m u : Nat} (h : ∀ i, i < 16 → u / 2 ^ i % 2 = 1 → m / 2 ^ i % 2 = 1) : subB m u = true := by
  unfold subB
  rw [List.all_eq_true]
  intro i hi
  have := h i (List.mem_range.1 hi)
  by_cases c : u / 2 ^ i % 2 = 1 <;> simp [c, this]
theorem subB_false {m u i : Nat} (hi : i < 16) (h1 : u / 2 ^ i % 2 = 1) (h2 : ¬ m / 2 ^ i % 2 = 1) : subB m u = false := by
  unfold subB
  rw [List.all_eq_false]
  exact ⟨i, List.mem_range.2 hi, by simp [h1, h2]⟩
/-- May it be? The error's number. -/
def goodV (x : Vl) : Int := if x.vid < 1 ∨ 4094 < x.vid then 15 else if 65535 < x.mem ∨ 65535 < x.unt then 14 else if subB x.mem x.unt = true then 0 else 14

theorem half_next (n k m : Nat) (h : n = m / 2 ^ k) : n / 2 = m / 2 ^ (k + 1) := by rw [h, Nat.div_div_eq_div_mul, Nat.pow_succ]

theorem below_drewN {B : Nat} {w0 w : World} (h : Below B w0 w) (n : Nat) : Below B w0 (w.drewN n) := h.trans ⟨rfl, rfl, rfl, Nat.le_refl _, fun _ _ => rfl⟩
theorem vinfo53 : (Try.prog.info? 53).map (·.size) = some 3 := by kernel_rfl

set_option maxHeartbeats 4000000 in
theorem rgood_vl (x : Vl) (w : World) : Calls Try.prog 30 #[vlV x] w fun e w' => e = .returned (.int .i64 (goodV x)) ∧ Below w.heap.size w w' := by
  obtain ⟨vid, mem, unt⟩ := x
  have hb := (Below.refl w.heap.size w).alloc (Nat.le_refl _) (Obj.cells #[.int .u16 (vid : Nat), .int .u32 (mem : Nat), .int .u32 (unt : Nat)] 53)
  have HB := Lib.hid hb
  clear hb
  by_cases h1 : vid < 1
  · have R := Lib.hid (show (15 : Int) = goodV ⟨vid, mem, unt⟩ by unfold goodV; rw [if_pos (.inl h1)])
    have e1 : decide ((vid : Int) < 1) = true := by simp; omega
    clear h1
    go_enter Try.func30, Try.ntmps30
    go_wp2
    go_ret
    exact ⟨ret_int R.out, HB.out⟩
  have e1 : decide ((vid : Int) < 1) = false := by simp; omega
  by_cases h2 : 4094 < vid
  · have R := Lib.hid (show (15 : Int) = goodV ⟨vid, mem, unt⟩ by unfold goodV; rw [if_pos (.inr h2)])
    have e2 : decide ((4094 : Int) < vid) = true := by simp; omega
    clear h1 h2
    go_enter Try.func30, Try.ntmps30
    go_wp2
    go_ret
    exact ⟨ret_int R.out, HB.out⟩
  have e2 : decide ((4094 : Int) < vid) = false := by simp; omega
  by_cases h3 : 65535 < mem
  · have R := Lib.hid (show (14 : Int) = goodV ⟨vid, mem, unt⟩ by unfold goodV; rw [if_neg (by simp only; omega), if_pos (.inl h3)])
    have e3 : decide ((65535 : Int) < mem) = true := by simp; omega
    clear h1 h2 h3
    go_enter Try.func30, Try.ntmps30
    go_wp2
    go_ret
    exact ⟨ret_int R.out, HB.out⟩
  have e3 : decide ((65535 : Int) < mem) = false := by simp; omega
  by_cases h4 : 65535 < unt
  · have R := Lib.hid (show (14 : Int) = goodV ⟨vid, mem, unt⟩ by unfold goodV; rw [if_neg (by simp only; omega), if_pos (.inr h4)])
    have e4 : decide ((65535 : Int) < unt) = true := by simp; omega
    clear h1 h2 h3 h4
    go_enter Try.func30, Try.ntmps30
    go_wp2
    go_ret
    exact ⟨ret_int R.out, HB.out⟩
  have e4 : decide ((65535 : Int) < unt) = false := by simp; omega
  have R0 := Lib.hid (show goodV ⟨vid, mem, unt⟩ = if subB mem unt = true then 0 else 14 by unfold goodV; rw [if_neg (by simp only; omega), if_neg (by simp only; omega)])
  have hm5 : mem ≤ 65535 := by omega
  have hu5 : unt ≤ 65535 := by omega
  clear h1 h2 h3 h4
  go_enter Try.func30, Try.ntmps30
  go_upto_region 5 with fail
  clear e1 e2 e3 e4
  go_quiet (fail)
  obtain ⟨w1, hw1⟩ : ∃ w1, w1 = (w.alloc (Obj.cells #[.int .u16 (vid : Nat), .int .u32 (mem : Nat), .int .u32 (unt : Nat)] 53)).drewN nq := ⟨_, rfl⟩
  have HB1 := Lib.hid (show Below w.heap.size w w1 by rw [hw1]; exact below_drewN HB.out nq)
  rw [← hw1]
  clear hw1 HB
  go_wp2
  go_loop [3, 4, 5] (fun m u i => ∃ k m' u' : Nat, k ≤ 16 ∧ i = .int .i64 k ∧ m = .int .u32 m' ∧ u = .int .u32 u' ∧ m' = mem / 2 ^ k ∧ u' = unt / 2 ^ k ∧ m' ≤ 65535 ∧ u' ≤ 65535 ∧ ∀ j, j < k → unt / 2 ^ j % 2 = 1 → mem / 2 ^ j % 2 = 1) (fun _ _ i => 16 - (intOf i).toNat)
  case atStart => exact ⟨0, mem, unt, by omega, rfl, rfl, rfl, by simp, by simp, hm5, hu5, fun j hj => absurd hj (Nat.not_lt_zero _)⟩
  case round =>
    obtain ⟨k, m', u', hk, rfl, rfl, rfl, hm, hu, hm6, hu6, hbe⟩ := hrel
    have HM := Lib.hid hm
    have HU := Lib.hid hu
    have HBE := Lib.hid hbe
    clear hm hu hbe
    by_cases hlt : k < 16
    · by_cases q1 : u' % 2 = 1
      · have e1 : ((u' : Int) % 2 == 1) = true := by simp; omega
        by_cases q2 : m' % 2 = 1
        · have e2 : ((m' : Int) % 2 == 0) = false := by simp; omega
          have Q := Lib.hid q2
          clear q1 q2
          go_wp2
          go_round
          case rel => exact ⟨k + 1, m' / 2, u' / 2, by omega, by go_num, by go_num, by go_num, half_next _ _ _ HM.out, half_next _ _ _ HU.out, by omega, by omega, fun j hj h => by
            by_cases c : j = k
            · subst c; rw [← HM.out]; exact Q.out
            · exact HBE.out j (by omega) h⟩
          case measure => simp [intOf]; omega
        · have e2 : ((m' : Int) % 2 == 0) = true := by simp; omega
          have R := Lib.hid (show (14 : Int) = goodV ⟨vid, mem, unt⟩ by rw [R0.out, subB_false hlt (by rw [← HU.out]; exact q1) (by rw [← HM.out]; exact q2)]; rfl)
          clear q1 q2
          go_wp2
          go_ret
          exact ⟨ret_int R.out, HB1.out⟩
      · have e1 : ((u' : Int) % 2 == 1) = false := by simp; omega
        have Q := Lib.hid q1
        clear q1
        go_wp2
        go_round
        case rel => exact ⟨k + 1, m' / 2, u' / 2, by omega, by go_num, by go_num, by go_num, half_next _ _ _ HM.out, half_next _ _ _ HU.out, by omega, by omega, fun j hj h => by
          by_cases c : j = k
          · subst c; exact absurd (by rw [HU.out]; exact h) Q.out
          · exact HBE.out j (by omega) h⟩
        case measure => simp [intOf]; omega
    · have R := Lib.hid (show (0 : Int) = goodV ⟨vid, mem, unt⟩ by rw [R0.out, subB_true (fun i hi => HBE.out i (by omega))]; rfl)
      go_wp2
      go_ret
      exact ⟨ret_int R.out, HB1.out⟩

theorem atV_lt (vid : Nat) : ∀ l : List Vl, -1 ≤ atV vid l ∧ atV vid l < l.length
  | [] => by simp [atV]
  | x :: l => by
    have := atV_lt vid l
    unfold atV
    split
    · simp only [List.length_cons]; omega
    · split <;> (simp only [List.length_cons]; omega)

theorem vlinfo : (Try.prog.info? 53).map (fun i => (i.zero, i.size, i.bytes)) = some (some (.agg #[.int .u16 0, .int .u32 0, .int .u32 0]), 3, 12) := by kernel_rfl

/-- A list of one's own, and an error's number. -/
def OwnRes (w : World) (base : Nat) (l : List Vl) (err : Int) (e : Ending) (w' : World) : Prop :=
  ∃ v', e = .returned (.tuple #[v', .int .i64 err]) ∧ Own w' base 53 3 vlC v' l ∧ Below w.heap.size w w'

theorem ret_own {v : Value} {a b : Int} (h : a = b) : Ending.returned (.tuple #[v, .int .i64 a]) = .returned (.tuple #[v, .int .i64 b]) := by rw [h]

/-- Without the one of a number. -/
def dropV (l : List Vl) (vid : Nat) : List Vl := if atV vid l < 0 then l else l.eraseIdx (atV vid l).toNat
def dropE (l : List Vl) (vid : Nat) : Int := if atV vid l < 0 then 11 else 0

theorem rdrop_none (base vid : Nat) (v : Value) (l : List Vl) (w : World) (h : Own w base 53 3 vlC v l) (hl : l.length ≤ 100) (hn : atV vid l < 0) :
    Calls Try.prog 19 #[v, .int .u16 (vid : Nat)] w (OwnRes w base (dropV l vid) (dropE l vid)) := by
  have R1 := Lib.hid (show dropV l vid = l by unfold dropV; rw [if_pos hn])
  have R2 := Lib.hid (show (11 : Int) = dropE l vid by unfold dropE; rw [if_pos hn])
  have H := Lib.hid h
  have hn2 : decide (atV vid l < 0) = true := by simpa using hn
  clear h hn
  go_enter Try.func19, Try.ntmps19
  go_wp2_with (go_at_call 21; refine (rat_any base vid v l _ H.out hl).mono ?_; rintro e w1 ⟨rfl, rfl⟩)
  go_ret2
  exact ⟨_, ret_own R2.out, by rw [R1.out]; exact H.out, Below.refl _ _⟩

set_option maxRecDepth 100000 in
set_option maxHeartbeats 4000000 in
theorem rdrop_own (base g cap vid k : Nat) (l : List Vl) (w : World) (h : Own w base 53 3 vlC (.slice (some ⟨g, 0, none⟩) l.length cap) l) (hcap : l.length ≤ cap ∧ cap ≤ maxLen) (hb : base ≤ w.heap.size) (hl : l.length ≤ 100) (hk : atV vid l = k) :
    Calls Try.prog 19 #[.slice (some ⟨g, 0, none⟩) l.length cap, .int .u16 (vid : Nat)] w (OwnRes w base (dropV l vid) (dropE l vid)) := by
  have R1 := Lib.hid (show dropV l vid = l.eraseIdx k by unfold dropV; rw [hk, if_neg (by omega)]; simp)
  have R2 := Lib.hid (show (0 : Int) = dropE l vid by unfold dropE; rw [hk, if_neg (by omega)])
  have hkl : k < l.length := by have := (atV_lt vid l).2; omega
  obtain ⟨i, hi, hz, hsz, hby⟩ := info_parts vlinfo
  have HZ := Lib.hid hz
  have HS := Lib.hid hsz
  have HBY := Lib.hid hby
  have HI := Lib.hid hi
  obtain ⟨n, hn⟩ : ∃ n, l.length = n := ⟨_, rfl⟩
  rw [hn] at h hkl hcap hl ⊢
  have H := Lib.hid h
  have HN := Lib.hid hn
  have HK := Lib.hid hk
  have hkn : (k : Int) < n := by omega
  have hnc : (n : Int) ≤ cap := by omega
  have hcm : (cap : Int) ≤ 9223372036854775807 := by unfold maxLen at hcap; omega
  have HCAP := Lib.hid hcap
  have HB := Lib.hid hb
  have HL := Lib.hid hl
  clear hz hsz hby hi h hn hk hcap hkl hb hl
  go_enter Try.func19, Try.ntmps19
  go_upto_region 4 with (go_at_call 21; ((with_reducible refine (rat_any base vid _ l _ H.out (by rw [HN.out]; exact HL.out)).mono ?_); rintro e w1 ⟨rfl, rfl⟩; rw [HK.out]))
  generalize decide ((k : Int) < 0) = bb at *
  have KC := Lib.hid (show k ≤ cap by omega)
  have KW := Lib.hid (show IntKind.i64.wrap ((k : Int) + 1) = (k : Int) + 1 from IntWalk.i64_in _ (by omega))
  have K1 := Lib.hid (show (0 : Int) ≤ (k : Int) + 1 by omega)
  have K2 := Lib.hid (show (k : Int) + 1 ≤ n by omega)
  have K3 := Lib.hid (show ((k : Int) + 1).toNat = k + 1 by omega)
  have KN := Lib.hid (show k < n by omega)
  clear hkn hnc hcm
  refine wp_region_held_drew (S := fun _ => True) (by kernel_rfl) trivial (fun hHeld => ?_)
  clear hHeld
  (refine wpAnyH_take (i := 1) (v := ?_) rfl (by kernel_rfl) (by kernel_rfl) (by kernel_rfl) (fun _ _ _ h => h) (Or.inl ⟨by rfl, ?_⟩) trivial ?_; rotate_left; (· (intro w hSw; go_simp; try with_reducible rfl)); (try simp only [Act.put, List.getElem_toArray, List.getElem_cons_succ, List.getElem_cons_zero, List.setIfInBounds_toArray, List.set_cons_zero, List.set_cons_succ]))
  (refine wpAnyH_take (i := 2) (v := ?_) rfl (by kernel_rfl) (by kernel_rfl) (by kernel_rfl) (fun _ _ _ h => h) (Or.inl ⟨by rfl, ?_⟩) trivial ?_; rotate_left; (· (intro w hSw; go_simp; try with_reducible rfl)); (try simp only [Act.put, List.getElem_toArray, List.getElem_cons_succ, List.getElem_cons_zero, List.setIfInBounds_toArray, List.set_cons_zero, List.set_cons_succ]))
  (refine wpAnyH_take (i := 3) (v := ?_) rfl (by kernel_rfl) (by kernel_rfl) (by kernel_rfl) (fun _ _ _ h => h) (Or.inl ⟨by rfl, ?_⟩) trivial ?_; rotate_left; (· (intro w hSw; have e := KC.out; go_simp; try with_reducible rfl)); (try simp only [Act.put, List.getElem_toArray, List.getElem_cons_succ, List.getElem_cons_zero, List.setIfInBounds_toArray, List.set_cons_zero, List.set_cons_succ]))
  (refine wpAnyH_take (i := 5) (v := ?_) rfl (by kernel_rfl) (by kernel_rfl) (by kernel_rfl) (fun _ _ _ h => h) (Or.inl ⟨by rfl, ?_⟩) trivial ?_; rotate_left; (· (intro w hSw; go_simp; try with_reducible rfl)); (try simp only [Act.put, List.getElem_toArray, List.getElem_cons_succ, List.getElem_cons_zero, List.setIfInBounds_toArray, List.set_cons_zero, List.set_cons_succ]))
  (refine wpAnyH_take (i := 6) (v := ?_) rfl (by kernel_rfl) (by kernel_rfl) (by kernel_rfl) (fun _ _ _ h => h) (Or.inl ⟨by rfl, ?_⟩) trivial ?_; rotate_left; (· (intro w hSw; go_simp; try with_reducible rfl)); (try simp only [Act.put, List.getElem_toArray, List.getElem_cons_succ, List.getElem_cons_zero, List.setIfInBounds_toArray, List.set_cons_zero, List.set_cons_succ]))
  (refine wpAnyH_take (i := 7) (v := ?_) rfl (by kernel_rfl) (by kernel_rfl) (by kernel_rfl) (fun _ _ _ h => h) (Or.inl ⟨by rfl, ?_⟩) trivial ?_; rotate_left; (· (intro w hSw; have e := KW.out; go_simp; try with_reducible rfl)); (try simp only [Act.put, List.getElem_toArray, List.getElem_cons_succ, List.getElem_cons_zero, List.setIfInBounds_toArray, List.set_cons_zero, List.set_cons_succ]))
  (refine wpAnyH_take (i := 8) (v := ?_) rfl (by kernel_rfl) (by kernel_rfl) (by kernel_rfl) (fun _ _ _ h => h) (Or.inl ⟨by rfl, ?_⟩) trivial ?_; rotate_left; (· (intro w hSw; have e1 := K1.out; have e2 := K2.out; have e3 := K3.out; go_simp; try with_reducible rfl)); (try simp only [Act.put, List.getElem_toArray, List.getElem_cons_succ, List.getElem_cons_zero, List.setIfInBounds_toArray, List.set_cons_zero, List.set_cons_succ]))
  refine wpAnyH_ready (rs := [0]) (by kernel_rfl) (by simp) ?_
  refine AllReadyH.cons rfl (fun K hK => ?_) AllReadyH.nil
  go_simp
  refine hK.out _ _ trivial (fun hHeld => ?_)
  clear hK K hHeld
  (try simp only [Act.put, List.getElem_toArray, List.getElem_cons_succ, List.getElem_cons_zero, List.setIfInBounds_toArray, List.set_cons_zero, List.set_cons_succ])
  have O1 := Lib.hid (show Own (w.alloc (Obj.cells #[] 53)).drew w.heap.size 53 3 vlC (.slice (some ⟨w.heap.size, 0, none⟩) 0 0) [] from (Own.made w (Nat.le_refl _) vlC).drew)
  have H1 := Lib.hid (show Own (w.alloc (Obj.cells #[] 53)).drew base 53 3 vlC (.slice (some ⟨g, 0, none⟩) l.length cap) l by have := (H.out.alloc (.cells #[] 53)).drew; rw [← HN.out] at this; exact this)
  have B1 := Lib.hid (show Below w.heap.size w (w.alloc (Obj.cells #[] 53)).drew from ((Below.refl _ _).alloc (Nat.le_refl _) _).drew)
  have z1 : w.heap.size ≤ (w.alloc (Obj.cells #[] 53)).drew.heap.size := B1.out.size
  have gl := Lib.hid (H.out.lt g rfl).2
  generalize (w.alloc (Obj.cells #[] 53)).drew = w1 at *
  obtain ⟨v2, w2, hrun, o2, hg2, hv2⟩ := O1.out.app (P := Try.prog) (t := 39) (ty := 39) (H1.out.head (k := k) (c := cap) vlC_len (by have := KN.out; have := HN.out; omega)) Try.underlying39 HI.out HZ.out HS.out HBY.out rfl (by omega) vlC_len vlC_one
    (by unfold maxLen; rw [List.length_take]; have := KN.out; have := HL.out; simp; omega) (by rw [List.length_take]; have := KN.out; have := HL.out; simp; omega) z1
  refine wpAnyH_ready (rs := [4]) (by kernel_rfl) (by simp) ?_
  refine AllReadyH.cons rfl (fun K hK => ?_) AllReadyH.nil
  rw [if_pos (by rfl)]
  refine wp_append_lst _ _ 39 rfl v2 w2 hrun ?_
  refine hK.out _ _ trivial (fun hHeld => ?_)
  clear hK K hHeld hrun
  (try simp only [Act.put, List.getElem_toArray, List.getElem_cons_succ, List.getElem_cons_zero, List.setIfInBounds_toArray, List.set_cons_zero, List.set_cons_succ])
  have H2 := Lib.hid (H1.out.kept hg2 (.inr (fun q => by have := gl.out; simp [Value.ownBlock] at q; omega)))
  have O2 := Lib.hid o2
  have b2 := B1.out.trans (grown_below hg2 (fun i hi => by simp [Value.ownBlock] at hi; omega) z1)
  have B2 := Lib.hid b2
  have z2 := b2.size
  clear b2 o2 hv2 hg2 H1 O1 B1 z1
  obtain ⟨v3, w3, hrun, o3, hg3, hv3⟩ := O2.out.app (P := Try.prog) (t := 39) (ty := 39) (H2.out.tail (k := k + 1) (c := cap - (k + 1)) vlC_len (by have := KN.out; have := HN.out; omega) (by have := HCAP.out; have := HN.out; omega)) Try.underlying39 HI.out HZ.out HS.out HBY.out rfl (by omega) vlC_len vlC_one
    (by unfold maxLen; have := HN.out; have := HL.out; simp; omega) (by have := HN.out; have := HL.out; simp; omega) z2
  rw [HN.out] at hrun
  refine wpAnyH_ready (rs := [9]) (by kernel_rfl) (by simp) ?_
  refine AllReadyH.cons rfl (fun K hK => ?_) AllReadyH.nil
  rw [if_pos (by rfl)]
  refine wp_append_lst _ _ 39 rfl v3 w3 hrun ?_
  refine hK.out _ _ trivial (fun hHeld => ?_)
  clear hK K hHeld hrun
  (try simp only [Act.put, List.getElem_toArray, List.getElem_cons_succ, List.getElem_cons_zero, List.setIfInBounds_toArray, List.set_cons_zero, List.set_cons_succ])
  have O3 := Lib.hid o3
  have b3 := B2.out.trans (grown_below hg3 (fun i hi => (O2.out.lt i hi).1) z2)
  have B3 := Lib.hid b3
  clear b3 o3 hv3 hg3 H2 O2 B2 z2
  (refine wpAnyH_take (i := 10) (v := ?_) rfl (by kernel_rfl) (by kernel_rfl) (by kernel_rfl) (fun _ _ _ h => h) (Or.inl ⟨by rfl, ?_⟩) trivial ?_; rotate_left; (· (intro w hSw; go_simp; try with_reducible rfl)); (try simp only [Act.put, List.getElem_toArray, List.getElem_cons_succ, List.getElem_cons_zero, List.setIfInBounds_toArray, List.set_cons_zero, List.set_cons_succ]))
  (refine wpAnyH_take (i := 11) (v := ?_) rfl (by kernel_rfl) (by kernel_rfl) (by kernel_rfl) (fun _ _ _ h => h) (Or.inl ⟨by rfl, ?_⟩) trivial ?_; rotate_left; (· (intro w hSw; go_simp; try with_reducible rfl)); (try simp only [Act.put, List.getElem_toArray, List.getElem_cons_succ, List.getElem_cons_zero, List.setIfInBounds_toArray, List.set_cons_zero, List.set_cons_succ]))
  refine wpAnyH_done (by kernel_rfl) ?_ _
  generalize (if cap = k + 1 then _ else _ : Option Addr) = az
  go_wp2_with fail
  go_ret2
  exact ⟨v3, ret_own R2.out, by rw [R1.out]; have := O3.out.mono HB.out; rw [List.nil_append, ← List.eraseIdx_eq_take_drop_succ] at this; exact this, B3.out⟩
end Go.Proofs.Ytjipbdljljhijaa
