/- The statement WireBack, walked: for every list of numbers and every list of sizes it returns true. -/
import Derived.Test.YtglkghieghideaaSpeaks1
import Derived.Deep.QuietTactic
import Derived.BigQuiet
import Derived.Deep.DeepCutAuto
import Derived.Deep.CutBlock
import Derived.StillTailTactics
import Derived.Deep.RegionHeld3
import Derived.Deep.RegionWith
import Derived.Test.YtglkghieghideaaRowAt
namespace Go.Proofs.Ytglkghieghideaa
open Go.RowKit

/-- Some numbers' bytes, one behind the other. -/
def catN (f g : Nat → Nat) : Nat → List UInt8
  | 0 => []
  | k + 1 => catN f g k ++ Nums.bytesN (f k) (g k)

theorem catN_le (f g : Nat → Nat) (hg : ∀ i, g i ≤ 8) (k : Nat) : (catN f g k).length ≤ 8 * k := by
  induction k with
  | zero => simp [catN]
  | succ k ih =>
    have := hg k
    simp only [catN, List.length_append, Nums.bytesN_length]
    omega

theorem catN_split (f g : Nat → Nat) (k K : Nat) (h : k ≤ K) : ∃ t, catN f g K = catN f g k ++ t := by
  induction K with
  | zero => exact ⟨[], by simp [show k = 0 by omega]⟩
  | succ K ih =>
    by_cases c : k = K + 1
    · exact ⟨[], by simp [c]⟩
    · obtain ⟨t, ht⟩ := ih (by omega)
      exact ⟨t ++ Nums.bytesN (f K) (g K), by simp [catN, ht]⟩

/-- One step of reading back. -/
theorem catN_step (f g : Nat → Nat) (k K : Nat) (h : k < K) (rest : ByteArray) (hr : catN f g k ++ rest.data.toList = catN f g K) :
    g k ≤ rest.size ∧ (rest.extract 0 (g k)).data.toList = Nums.bytesN (f k) (g k) ∧ catN f g (k + 1) ++ (rest.extract (g k) rest.size).data.toList = catN f g K := by
  obtain ⟨t, ht⟩ := catN_split f g (k + 1) K (by omega)
  rw [ht, catN, List.append_assoc] at hr
  have e := List.append_cancel_left hr
  have hs : rest.size = rest.data.toList.length := by rw [Array.length_toList]; rfl
  have hl : rest.data.toList.length = g k + t.length := by rw [e]; simp [Nums.bytesN_length]
  refine ⟨by omega, ?_, ?_⟩
  · have : (rest.extract 0 (g k)).data.toList = rest.data.toList.take (g k) := by simp
    rw [this, e, List.take_left' (Nums.bytesN_length _ _)]
  · have : (rest.extract (g k) rest.size).data.toList = rest.data.toList.drop (g k) := by
      have hx : rest.size = rest.data.size := rfl
      simp only [ByteArray.data_extract, Array.toList_extract, List.extract_eq_take_drop]
      exact List.take_of_length_le (by rw [hx]; simp)
    rw [this, e, List.drop_left' (Nums.bytesN_length _ _), ht]

theorem cat_snoc (f g : Nat → Nat) (k x : Nat) (h : f k = x) : Value.string ((⟨(catN f g k).toArray⟩ : ByteArray) ++ ⟨(Nums.bytesN x (g k)).toArray⟩) = Value.string ⟨(catN f g (k + 1)).toArray⟩ := by
  subst h
  congr 1

theorem back_eq (x n : Nat) (h1 : 1 ≤ n) (h8 : n ≤ 8) : Nums.numL (Nums.bytesN x n) = Nums.fieldN x 0 (8 * (n : Int)) := by
  unfold Nums.fieldN
  rw [if_pos ⟨by omega, by omega, by omega, by omega⟩, Nums.numL_bytesN]
  have e : (8 * (n : Int)).toNat = 8 * n := by omega
  rw [e, Nat.pow_mul]
  simp

theorem grown_cell {w w' : World} {g : Nat} (h : w.grownBy w' (some g)) {a : Addr} {v : Value} (hc : w.cell? a = some v) (hne : a.block ≠ g) : w'.cell? a = some v :=
  h.cell hc (fun e => hne (by simpa using e))

set_option maxRecDepth 100000 in
set_option maxHeartbeats 1000000 in
theorem back_walk (a a' : Option Addr) (len cap len' cap' : Nat) (z z' : List Int) (w : World) (hz : IsRow .u64 w a len cap z) (hz' : IsRow .u8 w a' len' cap' z') :
    Calls Try.prog 5 #[.slice a len cap, .slice a' len' cap'] w fun e w' => e = .returned (.bool true) ∧ Below w.heap.size w w' := by
  have hr1 := hz.at
  have hr2 := hz'.at
  obtain ⟨f, hf⟩ : ∃ f : Nat → Nat, ∀ i, f i = (z.getD i 0).toNat := ⟨_, fun _ => rfl⟩
  obtain ⟨g, hg⟩ : ∃ g : Nat → Nat, ∀ i, g i = 1 + (z'.getD i 0).toNat % 8 := ⟨_, fun _ => rfl⟩
  have hg8 : ∀ i, g i ≤ 8 := fun i => by rw [hg]; omega
  have H8 := Lib.hid hg8
  have HF := Lib.hid hf
  have HG := Lib.hid hg
  clear hf hg hg8 hz hz'
  go_enter Try.func5, Try.ntmps5
  go_upto_block 0 with (first
    | (go_at_call 8; refine (speaks_any _).mono ?_; rintro e w1 ⟨rfl, hb1⟩))
  go_cut [5] (fun s wx => ∃ (k : Nat), k ≤ len ∧ k ≤ len' ∧ k ≤ 20 ∧ ¬ (k < len ∧ k < len' ∧ k < 20) ∧ s = .string ⟨(catN f g k).toArray⟩ ∧ Below w.heap.size w wx)
  case first =>
    go_wp2_with (fail)
    go_loopw [5, 6] (fun s i wr => ∃ (k : Nat), i = .int .i64 k ∧ k ≤ len ∧ k ≤ len' ∧ k ≤ 20 ∧ s = .string ⟨(catN f g k).toArray⟩ ∧ Below w.heap.size w wr) (fun _ i _ => 20 - (intOf i).toNat)
    case atStart => exact ⟨0, rfl, by omega, by omega, by omega, rfl, hb1⟩
    case round =>
      obtain ⟨k, rfl, hk1, hk2, hk3, rfl, hb⟩ := hrel
      by_cases hlt : k < len ∧ k < len' ∧ k < 20
      · obtain ⟨h1, h2, h3⟩ := hlt
        rcases hr1 with hr1 | ⟨b, off, rfl, hbw, hr1⟩
        · omega
        · rcases hr2 with hr2 | ⟨b', off', rfl, hbw', hr2⟩
          · omega
          · obtain ⟨hc, hwf⟩ := hr1 k h1
            obtain ⟨hc', hwf'⟩ := hr2 k h2
            clear hr1 hr2
            rw [← hb.cell (p := ⟨b, off + k, none⟩) hbw] at hc
            rw [← hb.cell (p := ⟨b', off' + k, none⟩) hbw'] at hc'
            have hkl : (k : Int) < (len : Int) := by omega
            have hkl' : (k : Int) < (len' : Int) := by omega
            have hk20 : (k : Int) < 20 := by omega
            have e1 := Lib.hid (HF.out k)
            have e2 := Lib.hid (HG.out k)
            generalize z.getD k 0 = x at *
            generalize z'.getD k 0 = y at *
            have hx := bounds_u64 hwf
            have hy := bounds_u8 hwf'
            obtain ⟨x, rfl⟩ := Int.eq_ofNat_of_zero_le hx.1
            obtain ⟨y, rfl⟩ := Int.eq_ofNat_of_zero_le hy.1
            have hf1 := Lib.hid (show f k = x by rw [e1.out]; simp)
            have hg1 := Lib.hid (show IntKind.i64.wrap (1 + IntKind.i64.wrap (Int.tmod (y : Int) 8)) = ((g k : Nat) : Int) by
              have e := e2.out
              rw [Int.toNat_natCast] at e
              rw [Int.tmod_eq_emod_of_nonneg (by omega), IntWalk.i64_in ((y : Int) % 8) (by omega), IntWalk.i64_in (1 + (y : Int) % 8) (by omega), e]
              omega)
            have hg2 : 1 ≤ g k := by rw [e2.out]; omega
            have hg3 := H8.out k
            have hcat : (catN f g k).length + (Nums.bytesN x (g k)).length ≤ 9223372036854775807 := by
              have := catN_le f g H8.out k
              rw [Nums.bytesN_length]
              omega
            have hadd : ∀ W, (Op.stringOp .add (⟨(catN f g k).toArray⟩ : ByteArray) ⟨(Nums.bytesN x (g k)).toArray⟩).run Try.prog W = .ok (.string ((⟨(catN f g k).toArray⟩ : ByteArray) ++ ⟨(Nums.bytesN x (g k)).toArray⟩)) W :=
              fun W => run_string_add_sum _ _ _ (by simpa [ByteArray.size] using hcat)
            clear e1 e2
            go_upto_region 7 with (fail)
            have hbs := hb.size
            have hl1 : b < wr.heap.size := by omega
            have hl2 : b' < wr.heap.size := by omega
            go_region_held3 (fun w' => w'.cell? ⟨b, off + k, none⟩ = some (.int .u64 (x : Int)) ∧ w'.cell? ⟨b', off' + k, none⟩ = some (.int .u8 (y : Int)))
              (first
                | go_keep
                | (go_split_ands
                   refine ⟨?_, ?_⟩
                   · (rw [hb2.cell (by simp; omega)]; assumption)
                   · (rw [hb2.cell (by simp; omega)]; assumption)))
              (first
                | (go_at_call 9; rw [hg1.out]; refine (bytes_yes x (g k) _ hg2 hg3).mono ?_; rintro e w2 ⟨rfl, hb2⟩))

            have hB := hb.drew.trans (hb2.mono hb.size)
            have hcatk := Lib.hid (cat_snoc f g k x hf1.out)
            clear hb2 hb hcat
            go_wp2
            go_roundw
            case rel => exact ⟨k + 1, by go_num, by omega, by omega, by omega, hcatk.out, hB⟩
            case measure => simp [intOf]; omega
      · rcases (show ¬ (k : Int) < len ∨ ((k : Int) < len ∧ ¬ (k : Int) < len') ∨ ((k : Int) < len ∧ (k : Int) < len' ∧ ¬ (k : Int) < 20) by omega) with c | ⟨c, d⟩ | ⟨c, d, e⟩
        all_goals
          go_wp2_with (fail)
          go_meet
          exact ⟨k, hk1, hk2, hk3, hlt, rfl, hb⟩
  case rest =>
    obtain ⟨K, hK1, hK2, hK3, hK, rfl, hB⟩ := hcut
    go_wp2_with (fail)
    refine (read_any _ _).mono ?_
    rintro e w1 ⟨rfl, hr, hb2, _⟩
    go_wp2_with (fail)
    have hB1 := hB.trans (hb2.mono hB.size)
    have hs0 : w.heap.size ≤ wc.heap.size := hB.size
    generalize wc.heap.size = G at *
    clear hb2 hB
    go_loopw [8, 9] (fun i _ wr => ∃ (k : Nat) (rest : ByteArray), i = .int .i64 k ∧ k ≤ K ∧ catN f g k ++ rest.data.toList = catN f g K ∧ Rd wr G rest false ∧ Below w.heap.size w wr) (fun i _ _ => 20 - (intOf i).toNat)
    case atStart => exact ⟨0, _, rfl, by omega, by simp [catN], hr, hB1⟩
    case round =>
      obtain ⟨k, rest, rfl, hkK, hcat, hrd, hb⟩ := hrel
      have HC := Lib.hid hcat
      clear hcat
      by_cases hlt : k < K
      · rcases hr1 with hr1 | ⟨b, off, rfl, hbw, hr1⟩
        · omega
        · rcases hr2 with hr2 | ⟨b', off', rfl, hbw', hr2⟩
          · omega
          · obtain ⟨hc, hwf⟩ := hr1 k (by omega)
            obtain ⟨hc', hwf'⟩ := hr2 k (by omega)
            clear hr1 hr2
            rw [← hb.cell (p := ⟨b, off + k, none⟩) hbw] at hc
            rw [← hb.cell (p := ⟨b', off' + k, none⟩) hbw'] at hc'
            have hkl : (k : Int) < (len : Int) := by omega
            have hkl' : (k : Int) < (len' : Int) := by omega
            have hk20 : (k : Int) < 20 := by omega
            have e1 := Lib.hid (HF.out k)
            have e2 := Lib.hid (HG.out k)
            generalize z.getD k 0 = x at *
            generalize z'.getD k 0 = y at *
            have hx := bounds_u64 hwf
            have hy := bounds_u8 hwf'
            obtain ⟨x, rfl⟩ := Int.eq_ofNat_of_zero_le hx.1
            obtain ⟨y, rfl⟩ := Int.eq_ofNat_of_zero_le hy.1
            have hf1 := Lib.hid (show f k = x by rw [e1.out]; simp)
            have hg1 := Lib.hid (show (1 : Int) + (y : Int) % 8 = ((g k : Nat) : Int) by
              have e := e2.out
              rw [Int.toNat_natCast] at e
              omega)
            have hg2 : 1 ≤ g k := by rw [e2.out]; omega
            have hg3 := H8.out k
            obtain ⟨s1, s2, s3⟩ := catN_step f g k K hlt rest HC.out
            have S2 := Lib.hid s2
            have S3 := Lib.hid s3
            clear e1 e2 s2 s3 hK
            go_upto_region 13 with (fail)
            rw [hg1.out]
            have hw8 : IntKind.i64.wrap (8 * ((g k : Nat) : Int)) = 8 * ((g k : Nat) : Int) := IntWalk.i64_in _ (by omega)
            have heq : (((Nums.numL (rest.data.toList.take (g k)) : Nat) : Int) != ((Nums.fieldN x 0 (8 * ((g k : Nat) : Int)) : Nat) : Int)) = false := by
              have e := S2.out
              rw [show (rest.extract 0 (g k)).data.toList = rest.data.toList.take (g k) by simp] at e
              rw [e, hf1.out, back_eq x (g k) hg2 hg3]
              simp
            have hbs := hb.size
            have hl1 : b < wr.heap.size := by omega
            have hbG : b ≠ G := by omega
            have hx' : x < 18446744073709551616 := by omega
            clear hc' hwf hwf' hx hy hg1
            go_region_held3 (fun w' => w'.cell? ⟨b, off + k, none⟩ = some (.int .u64 (x : Int)))
              (first
                | go_keep
                | (exact grown_cell hgr (by simpa using hc) hbG)
                | (exact grown_cell hgr (by assumption) hbG))
              (first
                | (go_at_call 16; refine (num_good G (g k) rest _ (Has.drew hrd) hg2 hg3 s1).mono ?_; rintro e w2 ⟨rfl, hrd2, hgr⟩)
                | (go_at_call 11; refine (field_any x 0 (8 * ((g k : Nat) : Int)) _ hx').mono ?_; rintro e w3 ⟨rfl, rfl⟩))
            have hB2 := hb.drew.grown hgr hb.size (by simp; omega)
            clear hgr hb hc hrd
            go_wp2
            go_roundw
            case rel => exact ⟨k + 1, _, by go_num, by omega, S3.out, hrd2, hB2⟩
            case measure => simp [intOf]; omega
      · have hkk : k = K := by omega
        subst hkk
        have hrest : rest.data.toList = [] := by
          have h := HC.out
          exact List.append_cancel_left (by rw [h, List.append_nil])
        have he : endN rest false = 0 := by
          have : rest.size = 0 := by
            have h2 := congrArg List.length hrest
            rw [Array.length_toList] at h2
            exact h2
          simp only [endN]
          rw [if_neg (by simp), if_pos this]
        have HE := Lib.hid he
        clear hrest he hr1 hr2 hlt
        rcases (show ¬ (k : Int) < len ∨ ((k : Int) < len ∧ ¬ (k : Int) < len') ∨ ((k : Int) < len ∧ (k : Int) < len' ∧ ¬ (k : Int) < 20) by omega) with c | ⟨c, d⟩ | ⟨c, d, e⟩
        all_goals
          clear hK
          go_wp2_with (fail)
          refine (end_any _ _ _ _ hrd).mono ?_
          rintro e w4 ⟨rfl, rfl⟩
          rw [HE.out]
          go_wp2_with (fail)
          go_ret
          exact ⟨rfl, hb⟩

theorem back_law (a : Option Addr) (len cap : Nat) (z : List Int) (a' : Option Addr) (len' cap' : Nat) (z' : List Int) (w : World) (hz : IsRow .u64 w a len cap z) (hz' : IsRow .u8 w a' len' cap' z') :
    Calls Try.prog 5 #[.slice a len cap, .slice a' len' cap'] w fun e w' => e = .returned (.bool true) ∧ Below w.heap.size w w' :=
  back_walk a a' len cap len' cap' z z' w hz hz'
end Go.Proofs.Ytglkghieghideaa
