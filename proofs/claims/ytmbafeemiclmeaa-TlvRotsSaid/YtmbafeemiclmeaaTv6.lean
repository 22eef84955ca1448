/- Images, as the document builds them. -/
import Derived.Test.YtmbafeemiclmeaaTv5
import Derived.Test.YtmbafeemiclmeaaRg8
namespace Go.Proofs.Ytmbafeemiclmeaa
open Go.RowKit
set_option linter.unusedSimpArgs false
set_option linter.unusedVariables false

theorem one_run (b : UInt8) {w : World} {g : Nat} (h : Blk w g #[bv b] 5) : (convert 43 9 (.slice (some ⟨g, 0, none⟩) 1 1)).run Try.prog w = .ok (.string ⟨#[b]⟩) w := by
  have h1 : Has w g ([b].map bv) := by
    intro j hj
    have : j = 0 := by simpa using hj
    subst this
    exact ⟨by rw [h.cell]; rfl, h.free 0⟩
  exact h1.text 43 9 5 Try.underlying43 Try.underlying5 Try.underlying9 1 rfl
set_option maxRecDepth 100000 in
set_option maxHeartbeats 4000000 in
theorem rbuild_any {w : World} {sv : Value} {l : List Sec} (v : UInt8) (hs : SL w sv l) (hl : (bodyL l).length ≤ 1000000) (hll : l.length ≤ 1000000) :
    Calls Try.prog 9 #[bv v, sv] w fun e w' => e = .returned (.tuple #[.string (buildS v l), .int .i64 (buildN v l : Nat)]) ∧ Below w.heap.size w w' := by
  obtain ⟨n, hn⟩ : ∃ n, n = (bodyL l).length := ⟨_, rfl⟩
  obtain ⟨m, hm⟩ : ∃ m, m = l.length := ⟨_, rfl⟩
  have hsv : sv = .slice none 0 0 ∧ m = 0 ∨ ∃ g cap, sv = .slice (some ⟨g, 0, none⟩) m cap ∧ m ≤ cap ∧ cap ≤ 9223372036854775807 ∧ g < w.heap.size := by
    rcases hs.cases with ⟨h, rfl⟩ | ⟨g, cap, h, h1, h2, h3⟩
    · exact .inl ⟨h, hm⟩
    · refine .inr ⟨g, cap, by rw [hm]; exact h, by omega, h3, h1⟩
  rw [← hn] at hl
  rw [← hm] at hll
  have HN := Lib.hid hn
  have HM := Lib.hid hm
  have HS := Lib.hid hs
  clear hn hm hs
  rcases hsv with ⟨rfl, hm0⟩ | ⟨g, cap, rfl, hmc, hcap, hg⟩
  · by_cases cg : goodV v = true
    · have cg1 := (goodV_iff v).1 cg
      have HG := Lib.hid cg
      clear cg
      unfold bv
      obtain ⟨vn, hv⟩ : ∃ vn, vn = v.toNat := ⟨_, rfl⟩
      rw [← hv] at cg1 ⊢
      have HV := Lib.hid hv
      clear hv
      go_enter Try.func9, Try.ntmps9
      go_upto_region 4 with fail
      go_loopw [6] (fun i wr => ∃ j : Nat, i = .int .i64 (j : Int) ∧ 1 ≤ j ∧ j ≤ m + 1 ∧ Below w.heap.size w wr ∧ (∀ i a b, i + 1 ≤ j - 1 → l[i]? = some a → l[i + 1]? = some b → a.k.toNat < b.k.toNat)) (fun i _ => m + 1 - (intOf i).toNat)
      case atStart => exact ⟨1, rfl, by omega, by omega, Below.refl _ _, fun i a b h => by omega⟩
      case round =>
        obtain ⟨j, rfl, hj, hjn, hB, hr⟩ := hrel
        have HR := Lib.hid hr
        have HB := Lib.hid hB
        clear hr hB
        · have HRI := Lib.hid (rises_take l (j - 1) HR.out (by rw [← HM.out]; omega))
          have HB1 := Lib.hid HB.out
          clear HR HB
          go_upto_region 10 with fail
          go_loopw [7, 8] (fun s i wr => ∃ (k : Nat) (T : ByteArray), i = .int .i64 (k : Int) ∧ s = .string T ∧ T.data.toList = bodyL (l.take k) ∧ k ≤ m ∧ Below w.heap.size w wr) (fun _ i _ => m - (intOf i).toNat)
          case atStart => exact ⟨0, ⟨#[]⟩, rfl, rfl, rfl, by omega, HB1.out⟩
          case round =>
          obtain ⟨k, T, rfl, rfl, hT, hk, hB⟩ := hrel
          have HB := Lib.hid hB
          have HT := Lib.hid hT
          clear hB HB1 hT
          have : k = 0 := by omega
          subst this
          have hT := HT.out
          rw [List.take_of_length_le (by rw [← HM.out]; omega)] at hT
          have hTn : T.size = n := by rw [← size_list, hT, ← HN.out]
          have HTL := Lib.hid hT
          clear hT HT
          have n0 := Lib.hid (show buildN v l = 0 by unfold buildN; rw [if_neg (by rw [HG.out]; decide), if_neg (by rw [HRI.out]; decide)])
          obtain ⟨S1, hS1⟩ : ∃ S : ByteArray, S = ⟨#[v]⟩ := ⟨_, rfl⟩
          obtain ⟨S4, hS4⟩ : ∃ S : ByteArray, S = ⟨(Nums.bytesN n 4).toArray⟩ := ⟨_, rfl⟩
          have z1 : S1.size = 1 := by rw [hS1]; rfl
          have z4 : S4.size = 4 := by rw [hS4]; rfl
          have HS1 := Lib.hid hS1
          have HS4 := Lib.hid hS4
          have zg : (⟨#[71, 82, 68, 82]⟩ : ByteArray).size = 4 := rfl
          have HU := Lib.hid (show IntKind.u64.wrap (n : Int) = (n : Int) by rw [IntKind.wrap_u64]; omega)
          clear hS1 hS4
          go_upto_region 15 with fail
          refine rg (fun G => [.int .u8 (vn : Int), .slice (some ⟨G, 0, none⟩) 1 1, .string S1, .string (⟨#[71, 82, 68, 82]⟩ ++ S1), .string T, .int .i64 (n : Int), .int .u64 (n : Int), .string S4, .string (⟨#[71, 82, 68, 82]⟩ ++ S1 ++ S4), .string T, .string (⟨#[71, 82, 68, 82]⟩ ++ S1 ++ S4 ++ T), .string (⟨#[71, 82, 68, 82]⟩ ++ S1 ++ S4 ++ T)]) (fun G L W => Below wr.heap.size wr W ∧ (L 1 = true → Blk W G #[.int .u8 (vn : Int)] 5)) (0) [0, 4, 9, 11] [] [] [1, 2, 3, 5, 6, 7, 8, 10] (by kernel_rfl) (fun _ => rfl) (by kernel_rfl) (fun _ => by kernel_rfl) (fun _ _ => by kernel_rfl) (fun _ => by kernel_rfl) (fun _ => by kernel_rfl) (fun _ => by kernel_rfl) (fun _ => by kernel_rfl) (⟨(Below.refl _ _).drew, fun h => Bool.noConfusion h⟩) (fun s L W hC => trivial) (fun i hi s L W hC => ⟨hC.1, fun h => hC.2 (by unfold upd at h; split at h; (next e => subst e; exact absurd hi (by simp)); exact h)⟩) ?_ ?_
          · intro i hi s L w1 hC hL ha hdc
            simp only [List.mem_cons, List.not_mem_nil, or_false] at hi
            rcases hi with rfl | rfl | rfl | rfl | rfl | rfl | rfl | rfl
            · refine ⟨by kernel_rfl, fun o ho => ?_⟩
              cases ho
              refine stepW_see [(67, .int .u8 (vn : Int))] (by kernel_rfl) (fun _ => rfl) (fun _ => rfl) ?_
              rintro ρ hc hf ⟨e67, -⟩
              have hb1 := hC.1.alloc (Nat.le_trans (Nat.le_refl _) hC.1.size) (.cells #[.int .u8 (vn : Int)] 5)
              exact stepW_val (w' := w1.alloc (.cells #[.int .u8 (vn : Int)] 5)) (v := .slice (some ⟨w1.heap.size, 0, none⟩) 1 1) (by go_simp) ⟨w1.heap.size, vs_other (i := 1) rfl hL, rfl, hb1, fun _ => Blk.new w1 _ _⟩
            · refine ⟨by kernel_rfl, fun o ho => ?_⟩
              cases ho
              refine stepW_see [(68, .slice (some ⟨s, 0, none⟩) 1 1)] (by kernel_rfl) (fun _ => rfl) (fun _ => rfl) ?_
              rintro ρ hc hf ⟨e68, -⟩
              have hrun := one_run v (by have q := hC.2 (ha 1 (by decide)); rw [HV.out] at q; exact q)
              rw [← HS1.out] at hrun
              exact stepW_val (w' := w1) (v := .string S1) (by go_simp) ⟨s, fun _ _ => rfl, rfl, ⟨hC.1, fun h => hC.2 (by simpa [upd] using h)⟩⟩
            · refine ⟨by kernel_rfl, fun o ho => ?_⟩
              cases ho
              refine stepW_see [(69, .string S1)] (by kernel_rfl) (fun _ => rfl) (fun _ => rfl) ?_
              rintro ρ hc hf ⟨e69, -⟩
              exact stepW_val (w' := w1) (v := .string (⟨#[71, 82, 68, 82]⟩ ++ S1)) (by go_simp) ⟨s, fun _ _ => rfl, rfl, ⟨hC.1, fun h => hC.2 (by simpa [upd] using h)⟩⟩
            · refine ⟨by kernel_rfl, fun o ho => ?_⟩
              cases ho
              refine stepW_see [(71, .string T)] (by kernel_rfl) (fun _ => rfl) (fun _ => rfl) ?_
              rintro ρ hc hf ⟨e71, -⟩
              exact stepW_val (w' := w1) (v := .int .i64 (n : Int)) (by go_simp) ⟨s, fun _ _ => rfl, rfl, ⟨hC.1, fun h => hC.2 (by simpa [upd] using h)⟩⟩
            · refine ⟨by kernel_rfl, fun o ho => ?_⟩
              cases ho
              refine stepW_see [(72, .int .i64 (n : Int))] (by kernel_rfl) (fun _ => rfl) (fun _ => rfl) ?_
              rintro ρ hc hf ⟨e72, -⟩
              have q := HU.out
              exact stepW_val (w' := w1) (v := .int .u64 (n : Int)) (by go_simp) ⟨s, fun _ _ => rfl, rfl, ⟨hC.1, fun h => hC.2 (by simpa [upd] using h)⟩⟩
            · refine ⟨by kernel_rfl, fun o ho => ?_⟩
              cases ho
              refine stepW_see [(73, .int .u64 (n : Int))] (by kernel_rfl) (fun _ => rfl) (fun _ => rfl) ?_
              rintro ρ hc hf ⟨e73, -⟩
              refine stepW_call (f := 22) (args := _) (by go_simp; try with_reducible rfl) ((rbytes_yes n 4 w1 (by omega) (by omega) (by omega)).mono fun e w2 ⟨q1, hb⟩ => ⟨_, q1, s, fun _ _ => rfl, ?_, hC.1.trans (hb.mono hC.1.size), fun h => ?_⟩)
              · rw [← HS4.out]; rfl
              · have q := hC.2 (by simpa [upd] using h)
                exact q.below hb q.lt
            · refine ⟨by kernel_rfl, fun o ho => ?_⟩
              cases ho
              refine stepW_see [(70, .string (⟨#[71, 82, 68, 82]⟩ ++ S1)), (74, .string S4)] (by kernel_rfl) (fun _ => rfl) (fun _ => rfl) ?_
              rintro ρ hc hf ⟨e70, e74, -⟩
              exact stepW_val (w' := w1) (v := .string (⟨#[71, 82, 68, 82]⟩ ++ S1 ++ S4)) (by go_simp) ⟨s, fun _ _ => rfl, rfl, ⟨hC.1, fun h => hC.2 (by simpa [upd] using h)⟩⟩
            · refine ⟨by kernel_rfl, fun o ho => ?_⟩
              cases ho
              refine stepW_see [(75, .string (⟨#[71, 82, 68, 82]⟩ ++ S1 ++ S4)), (76, .string T)] (by kernel_rfl) (fun _ => rfl) (fun _ => rfl) ?_
              rintro ρ hc hf ⟨e75, e76, -⟩
              have q : 9 + n ≤ 9223372036854775807 := by omega
              exact stepW_val (w' := w1) (v := .string (⟨#[71, 82, 68, 82]⟩ ++ S1 ++ S4 ++ T)) (by go_simp) ⟨s, fun _ _ => rfl, rfl, ⟨hC.1, fun h => hC.2 (by simpa [upd] using h)⟩⟩
          · intro s L w2 hC hall
            simp only [List.toList_toArray, putsZ_some, putsZ_none, putsZ_nil, List.setIfInBounds_toArray, List.set_cons_zero, List.set_cons_succ]
            have HB2 := Lib.hid (HB.out.trans (hC.1.mono HB.out.size))
            clear hC hall
            obtain ⟨X, hX⟩ : ∃ X : ByteArray, X = ⟨#[71, 82, 68, 82]⟩ ++ S1 ++ S4 ++ T := ⟨_, rfl⟩
            have eX : X.data.toList = bareL v l := by
              rw [hX, HS1.out, HS4.out]
              unfold bareL headL
              rw [← HN.out, ← HTL.out]
              simp
            have hXs : X.size ≤ 1000009 := by rw [← size_list, eX]; unfold bareL; rw [List.length_append, headL_len, ← HN.out]; omega
            rw [← hX]
            have EQ := Lib.hid (show X ++ (⟨(Crc.le4 (Crc.sum X.data.toList)).toArray⟩ : ByteArray) = buildS v l by
              unfold buildS
              rw [if_pos n0.out]
              refine bytes_ext ?_
              show (X ++ (⟨(Crc.le4 (Crc.sum X.data.toList)).toArray⟩ : ByteArray)).data.toList = wholeL (bareL v l)
              rw [wholeL, ← eX]
              simp)
            have HL := Lib.hid (show ∀ N, (⟨(Crc.le4 N).toArray⟩ : ByteArray).size = 4 from fun N => rfl)
            have hc := Lib.hid (rsum_text X w2 (by omega))
            clear eX hX zg z1 z4 hTn
            go_wp2_with (go_at_call 23; with_reducible refine hc.out.mono ?_; rintro e w3 ⟨rfl, hb3⟩; have hs4 := HL.out (Crc.sum X.data.toList); generalize (⟨(Crc.le4 (Crc.sum X.data.toList)).toArray⟩ : ByteArray) = S9 at *)
            go_ret2
            refine ⟨?_, HB2.out.trans (hb3.mono HB2.out.size)⟩
            rw [n0.out, ← EQ.out]
            rfl
    · have HG := Lib.hid (show goodV v = false by simpa using cg)
      have cg1 : ¬ (1 ≤ v.toNat ∧ v.toNat ≤ 3) := fun h => cg ((goodV_iff v).2 h)
      clear cg
      unfold bv
      have n8 := Lib.hid (show buildN v l = 8 by unfold buildN; rw [if_pos HG.out])
      have s8 := Lib.hid (show buildS v l = ⟨#[]⟩ by unfold buildS; rw [n8.out]; rfl)
      generalize v.toNat = vn at *
      by_cases c1 : vn < 1
      · go_enter Try.func9, Try.ntmps9
        go_wp2
        go_ret2
        exact ⟨by rw [n8.out, s8.out]; rfl, Below.refl _ _⟩
      · have c2 : 3 < vn := by omega
        go_enter Try.func9, Try.ntmps9
        go_wp2
        go_ret2
        exact ⟨by rw [n8.out, s8.out]; rfl, Below.refl _ _⟩
  · by_cases cg : goodV v = true
    · have cg1 := (goodV_iff v).1 cg
      have HG := Lib.hid cg
      clear cg
      unfold bv
      obtain ⟨vn, hv⟩ : ∃ vn, vn = v.toNat := ⟨_, rfl⟩
      rw [← hv] at cg1 ⊢
      have HV := Lib.hid hv
      clear hv
      go_enter Try.func9, Try.ntmps9
      go_upto_region 4 with fail
      go_loopw [6] (fun i wr => ∃ j : Nat, i = .int .i64 (j : Int) ∧ 1 ≤ j ∧ j ≤ m + 1 ∧ Below w.heap.size w wr ∧ (∀ i a b, i + 1 ≤ j - 1 → l[i]? = some a → l[i + 1]? = some b → a.k.toNat < b.k.toNat)) (fun i _ => m + 1 - (intOf i).toNat)
      case atStart => exact ⟨1, rfl, by omega, by omega, Below.refl _ _, fun i a b h => by omega⟩
      case round =>
        obtain ⟨j, rfl, hj, hjn, hB, hr⟩ := hrel
        have HR := Lib.hid hr
        have HB := Lib.hid hB
        clear hr hB
        by_cases c : j < m
        · obtain ⟨k, hk⟩ : ∃ k, k = j - 1 := ⟨_, rfl⟩
          obtain ⟨x, hx⟩ : ∃ x, l[k]? = some x := ⟨_, List.getElem?_eq_getElem (by rw [← HM.out]; omega)⟩
          obtain ⟨y, hy⟩ : ∃ y, l[j]? = some y := ⟨_, List.getElem?_eq_getElem (by rw [← HM.out]; omega)⟩
          have HX := Lib.hid hx
          have HY := Lib.hid hy
          have c2 : (j : Int) - 1 = (k : Int) := by omega
          have c4 : k < m := by omega
          have hk2 : j = k + 1 := by omega
          have HK := Lib.hid hk2
          clear hx hy hk hk2
          have d0 := ((HS.out.below HB.out).cell HX.out).1
          have d1 := ((HS.out.below HB.out).cell HY.out).1
          unfold bv at d0 d1
          obtain ⟨a, ha⟩ : ∃ a, a = x.k.toNat := ⟨_, rfl⟩
          obtain ⟨b, hb⟩ : ∃ b, b = y.k.toNat := ⟨_, rfl⟩
          rw [← ha] at d0
          rw [← hb] at d1
          have HA := Lib.hid ha
          have HBy := Lib.hid hb
          clear ha hb
          go_upto_region 6 with fail
          go_quiet (fail)
          by_cases cab : a < b
          · have HAB := Lib.hid cab
            have cab2 : ¬ b ≤ a := by omega
            clear d0 d1 cab
            go_wp2
            go_roundw
            case rel =>
              refine ⟨j + 1, by go_num, by omega, by omega, below_drewN HB.out _, fun i a b h ha hb => ?_⟩
              by_cases q : i + 1 ≤ j - 1
              · exact HR.out i a b q ha hb
              · have e : i = k := by have := HK.out; omega
                subst e
                rw [HX.out] at ha
                rw [← HK.out, HY.out] at hb
                cases ha
                cases hb
                rw [← HA.out, ← HBy.out]
                exact HAB.out
            case measure => simp [intOf]; omega
          · have HAB := Lib.hid (rises_not l k x y HX.out (by rw [← HK.out]; exact HY.out) (by rw [← HA.out, ← HBy.out]; exact cab))
            have cab2 : b ≤ a := by omega
            clear d0 d1 cab
            have n9 := Lib.hid (show buildN v l = 9 by unfold buildN; rw [if_neg (by rw [HG.out]; decide), if_pos HAB.out])
            have s9 := Lib.hid (show buildS v l = ⟨#[]⟩ by unfold buildS; rw [n9.out]; rfl)
            go_wp2
            go_ret2
            exact ⟨by rw [n9.out, s9.out]; rfl, below_drewN HB.out _⟩
        · have HRI := Lib.hid (rises_take l (j - 1) HR.out (by rw [← HM.out]; omega))
          have HB1 := Lib.hid HB.out
          clear HR HB
          go_upto_region 10 with fail
          go_loopw [7, 8] (fun s i wr => ∃ (k : Nat) (T : ByteArray), i = .int .i64 (k : Int) ∧ s = .string T ∧ T.data.toList = bodyL (l.take k) ∧ k ≤ m ∧ Below w.heap.size w wr) (fun _ i _ => m - (intOf i).toNat)
          case atStart => exact ⟨0, ⟨#[]⟩, rfl, rfl, rfl, by omega, HB1.out⟩
          case round =>
          obtain ⟨k, T, rfl, rfl, hT, hk, hB⟩ := hrel
          have HB := Lib.hid hB
          have HT := Lib.hid hT
          clear hB HB1 hT
          by_cases c : k < m
          · obtain ⟨x, hx⟩ : ∃ x, l[k]? = some x := ⟨_, List.getElem?_eq_getElem (by rw [← HM.out]; omega)⟩
            have HX := Lib.hid hx
            have hbt := body_take hx
            clear hx
            have c4 := c
            have HC0 := Lib.hid ((HS.out.below HB.out).cell HX.out).1
            have HC1 := Lib.hid ((HS.out.below HB.out).cell HX.out).2
            have HGL := Lib.hid (show g < wr.heap.size from Nat.lt_of_lt_of_le hg HB.out.size)
            have hxd : x.d.size ≤ 1000000 := by have := sec_le HX.out; have := HN.out; omega
            have hTz : T.size ≤ 1000000 := by have q := body_le l k; have := HN.out; rw [← HT.out, size_list] at q; omega
            obtain ⟨S1, hS1⟩ : ∃ S : ByteArray, S = ⟨#[x.k]⟩ := ⟨_, rfl⟩
            obtain ⟨S4, hS4⟩ : ∃ S : ByteArray, S = ⟨(Nums.bytesN x.d.size 4).toArray⟩ := ⟨_, rfl⟩
            have HN2 := Lib.hid (show (T ++ (S1 ++ S4 ++ x.d)).data.toList = bodyL (l.take (k + 1)) by rw [hbt, ← HT.out, hS1, hS4]; simp [Sec.bytes])
            have z1 : S1.size = 1 := by rw [hS1]; rfl
            have z4 : S4.size = 4 := by rw [hS4]; rfl
            have HS1 := Lib.hid hS1
            have HS4 := Lib.hid hS4
            have HU := Lib.hid (show IntKind.u64.wrap (x.d.size : Int) = (x.d.size : Int) by rw [IntKind.wrap_u64]; omega)
            clear hS1 hS4 hbt
            go_upto_region 12 with fail
            refine rg (fun G => [.string T, .slice (some ⟨g, 0, none⟩) m cap, .int .i64 (k : Int), .pointer (some ⟨g, k * 2, none⟩), .pointer (some ⟨g, k * 2, none⟩), bv x.k, .slice (some ⟨G, 0, none⟩) 1 1, .string S1, .slice (some ⟨g, 0, none⟩) m cap, .int .i64 (k : Int), .pointer (some ⟨g, k * 2, none⟩), .pointer (some ⟨g, k * 2 + 1, none⟩), .string x.d, .int .i64 (x.d.size : Int), .int .u64 (x.d.size : Int), .string S4, .string (S1 ++ S4), .slice (some ⟨g, 0, none⟩) m cap, .int .i64 (k : Int), .pointer (some ⟨g, k * 2, none⟩), .pointer (some ⟨g, k * 2 + 1, none⟩), .string x.d, .string (S1 ++ S4 ++ x.d), .string (T ++ (S1 ++ S4 ++ x.d)), .string (T ++ (S1 ++ S4 ++ x.d))]) (fun G L W => Below wr.heap.size wr W ∧ (L 6 = true → Blk W G #[bv x.k] 5)) (0) [0, 1, 2, 4, 8, 9, 11, 13, 17, 18, 20, 24] [] [(5, fun G => ⟨g, k * 2, none⟩), (12, fun G => ⟨g, k * 2 + 1, none⟩), (21, fun G => ⟨g, k * 2 + 1, none⟩)] [3, 6, 7, 10, 14, 15, 16, 19, 22, 23] (by kernel_rfl) (fun _ => rfl) (by kernel_rfl) (fun _ => by kernel_rfl) (fun _ _ => by kernel_rfl) (fun _ => by kernel_rfl) (fun _ => by kernel_rfl) (fun _ => by kernel_rfl) (fun _ => by kernel_rfl) (⟨(Below.refl _ _).drew, fun h => Bool.noConfusion h⟩) (fun s L W hC => ⟨fun _ => by rw [hC.1.cell (p := ⟨g, k * 2, none⟩) HGL.out]; exact HC0.out, fun _ => by rw [hC.1.cell (p := ⟨g, k * 2 + 1, none⟩) HGL.out]; exact HC1.out, fun _ => by rw [hC.1.cell (p := ⟨g, k * 2 + 1, none⟩) HGL.out]; exact HC1.out, trivial⟩) (fun i hi s L W hC => ⟨hC.1, fun h => hC.2 (by unfold upd at h; split at h; (next e => subst e; exact absurd hi (by simp)); exact h)⟩) ?_ ?_
            · intro i hi s L w1 hC hL ha hdc
              simp only [List.mem_cons, List.not_mem_nil, or_false] at hi
              rcases hi with rfl | rfl | rfl | rfl | rfl | rfl | rfl | rfl | rfl | rfl
              · refine ⟨by kernel_rfl, fun o ho => ?_⟩
                cases ho
                refine stepW_see [(41, .slice (some ⟨g, 0, none⟩) m cap), (42, .int .i64 (k : Int))] (by kernel_rfl) (fun _ => rfl) (fun _ => rfl) ?_
                rintro ρ hc hf ⟨e41, e42, -⟩
                exact stepW_val (w' := w1) (v := .pointer (some ⟨g, k * 2, none⟩)) (by go_simp) ⟨s, fun _ _ => rfl, rfl, ⟨hC.1, fun h => hC.2 (by simpa [upd] using h)⟩⟩
              · refine ⟨by kernel_rfl, fun o ho => ?_⟩
                cases ho
                refine stepW_see [(45, bv x.k)] (by kernel_rfl) (fun _ => rfl) (fun _ => rfl) ?_
                rintro ρ hc hf ⟨e45, -⟩
                have hb1 := hC.1.alloc (Nat.le_trans (Nat.le_refl _) hC.1.size) (.cells #[bv x.k] 5)
                exact stepW_val (w' := w1.alloc (.cells #[bv x.k] 5)) (v := .slice (some ⟨w1.heap.size, 0, none⟩) 1 1) (by have q : bv x.k = .int .u8 (x.k.toNat : Int) := rfl; go_simp) ⟨w1.heap.size, vs_other (i := 6) rfl hL, rfl, hb1, fun _ => Blk.new w1 _ _⟩
              · refine ⟨by kernel_rfl, fun o ho => ?_⟩
                cases ho
                refine stepW_see [(46, .slice (some ⟨s, 0, none⟩) 1 1)] (by kernel_rfl) (fun _ => rfl) (fun _ => rfl) ?_
                rintro ρ hc hf ⟨e46, -⟩
                have hrun := one_run x.k (hC.2 (ha 6 (by decide)))
                rw [← HS1.out] at hrun
                exact stepW_val (w' := w1) (v := .string S1) (by go_simp) ⟨s, fun _ _ => rfl, rfl, ⟨hC.1, fun h => hC.2 (by simpa [upd] using h)⟩⟩
              · refine ⟨by kernel_rfl, fun o ho => ?_⟩
                cases ho
                refine stepW_see [(48, .slice (some ⟨g, 0, none⟩) m cap), (49, .int .i64 (k : Int))] (by kernel_rfl) (fun _ => rfl) (fun _ => rfl) ?_
                rintro ρ hc hf ⟨e48, e49, -⟩
                exact stepW_val (w' := w1) (v := .pointer (some ⟨g, k * 2, none⟩)) (by go_simp) ⟨s, fun _ _ => rfl, rfl, ⟨hC.1, fun h => hC.2 (by simpa [upd] using h)⟩⟩
              · refine ⟨by kernel_rfl, fun o ho => ?_⟩
                cases ho
                refine stepW_see [(53, .int .i64 (x.d.size : Int))] (by kernel_rfl) (fun _ => rfl) (fun _ => rfl) ?_
                rintro ρ hc hf ⟨e53, -⟩
                have q := HU.out
                exact stepW_val (w' := w1) (v := .int .u64 (x.d.size : Int)) (by go_simp) ⟨s, fun _ _ => rfl, rfl, ⟨hC.1, fun h => hC.2 (by simpa [upd] using h)⟩⟩
              · refine ⟨by kernel_rfl, fun o ho => ?_⟩
                cases ho
                refine stepW_see [(54, .int .u64 (x.d.size : Int))] (by kernel_rfl) (fun _ => rfl) (fun _ => rfl) ?_
                rintro ρ hc hf ⟨e54, -⟩
                refine stepW_call (f := 22) (args := _) (by go_simp; try with_reducible rfl) ((rbytes_yes x.d.size 4 w1 (by omega) (by omega) (by omega)).mono fun e w2 ⟨q1, hb⟩ => ⟨_, q1, s, fun _ _ => rfl, ?_, hC.1.trans (hb.mono hC.1.size), fun h => ?_⟩)
                · rw [← HS4.out]; rfl
                · have q := hC.2 (by simpa [upd] using h)
                  exact q.below hb q.lt
              · refine ⟨by kernel_rfl, fun o ho => ?_⟩
                cases ho
                refine stepW_see [(47, .string S1), (55, .string S4)] (by kernel_rfl) (fun _ => rfl) (fun _ => rfl) ?_
                rintro ρ hc hf ⟨e47, e55, -⟩
                exact stepW_val (w' := w1) (v := .string (S1 ++ S4)) (by go_simp) ⟨s, fun _ _ => rfl, rfl, ⟨hC.1, fun h => hC.2 (by simpa [upd] using h)⟩⟩
              · refine ⟨by kernel_rfl, fun o ho => ?_⟩
                cases ho
                refine stepW_see [(57, .slice (some ⟨g, 0, none⟩) m cap), (58, .int .i64 (k : Int))] (by kernel_rfl) (fun _ => rfl) (fun _ => rfl) ?_
                rintro ρ hc hf ⟨e57, e58, -⟩
                exact stepW_val (w' := w1) (v := .pointer (some ⟨g, k * 2, none⟩)) (by go_simp) ⟨s, fun _ _ => rfl, rfl, ⟨hC.1, fun h => hC.2 (by simpa [upd] using h)⟩⟩
              · refine ⟨by kernel_rfl, fun o ho => ?_⟩
                cases ho
                refine stepW_see [(56, .string (S1 ++ S4)), (61, .string x.d)] (by kernel_rfl) (fun _ => rfl) (fun _ => rfl) ?_
                rintro ρ hc hf ⟨e56, e61, -⟩
                have q : 5 + x.d.size ≤ 9223372036854775807 := by omega
                exact stepW_val (w' := w1) (v := .string (S1 ++ S4 ++ x.d)) (by go_simp) ⟨s, fun _ _ => rfl, rfl, ⟨hC.1, fun h => hC.2 (by simpa [upd] using h)⟩⟩
              · refine ⟨by kernel_rfl, fun o ho => ?_⟩
                cases ho
                refine stepW_see [(40, .string T), (62, .string (S1 ++ S4 ++ x.d))] (by kernel_rfl) (fun _ => rfl) (fun _ => rfl) ?_
                rintro ρ hc hf ⟨e40, e62, -⟩
                have q : T.size + (5 + x.d.size) ≤ 9223372036854775807 := by omega
                exact stepW_val (w' := w1) (v := .string (T ++ (S1 ++ S4 ++ x.d))) (by go_simp) ⟨s, fun _ _ => rfl, rfl, ⟨hC.1, fun h => hC.2 (by simpa [upd] using h)⟩⟩
            · intro s L w1 hC hall
              simp only [List.toList_toArray, putsZ_some, putsZ_none, putsZ_nil, List.setIfInBounds_toArray, List.set_cons_zero, List.set_cons_succ]
              have HB2 := Lib.hid (HB.out.trans (hC.1.mono HB.out.size))
              clear hC hall
              go_wp2
              go_roundw
              case rel => exact ⟨k + 1, _, by go_num, rfl, HN2.out, by omega, HB2.out⟩
              case measure => simp [intOf]; omega
          · have : k = m := by omega
            subst this
            have hT := HT.out
            rw [List.take_of_length_le (by rw [← HM.out]; omega)] at hT
            have hTn : T.size = n := by rw [← size_list, hT, ← HN.out]
            have HTL := Lib.hid hT
            clear hT HT
            have n0 := Lib.hid (show buildN v l = 0 by unfold buildN; rw [if_neg (by rw [HG.out]; decide), if_neg (by rw [HRI.out]; decide)])
            obtain ⟨S1, hS1⟩ : ∃ S : ByteArray, S = ⟨#[v]⟩ := ⟨_, rfl⟩
            obtain ⟨S4, hS4⟩ : ∃ S : ByteArray, S = ⟨(Nums.bytesN n 4).toArray⟩ := ⟨_, rfl⟩
            have z1 : S1.size = 1 := by rw [hS1]; rfl
            have z4 : S4.size = 4 := by rw [hS4]; rfl
            have HS1 := Lib.hid hS1
            have HS4 := Lib.hid hS4
            have zg : (⟨#[71, 82, 68, 82]⟩ : ByteArray).size = 4 := rfl
            have HU := Lib.hid (show IntKind.u64.wrap (n : Int) = (n : Int) by rw [IntKind.wrap_u64]; omega)
            clear hS1 hS4
            go_upto_region 15 with fail
            refine rg (fun G => [.int .u8 (vn : Int), .slice (some ⟨G, 0, none⟩) 1 1, .string S1, .string (⟨#[71, 82, 68, 82]⟩ ++ S1), .string T, .int .i64 (n : Int), .int .u64 (n : Int), .string S4, .string (⟨#[71, 82, 68, 82]⟩ ++ S1 ++ S4), .string T, .string (⟨#[71, 82, 68, 82]⟩ ++ S1 ++ S4 ++ T), .string (⟨#[71, 82, 68, 82]⟩ ++ S1 ++ S4 ++ T)]) (fun G L W => Below wr.heap.size wr W ∧ (L 1 = true → Blk W G #[.int .u8 (vn : Int)] 5)) (0) [0, 4, 9, 11] [] [] [1, 2, 3, 5, 6, 7, 8, 10] (by kernel_rfl) (fun _ => rfl) (by kernel_rfl) (fun _ => by kernel_rfl) (fun _ _ => by kernel_rfl) (fun _ => by kernel_rfl) (fun _ => by kernel_rfl) (fun _ => by kernel_rfl) (fun _ => by kernel_rfl) (⟨(Below.refl _ _).drew, fun h => Bool.noConfusion h⟩) (fun s L W hC => trivial) (fun i hi s L W hC => ⟨hC.1, fun h => hC.2 (by unfold upd at h; split at h; (next e => subst e; exact absurd hi (by simp)); exact h)⟩) ?_ ?_
            · intro i hi s L w1 hC hL ha hdc
              simp only [List.mem_cons, List.not_mem_nil, or_false] at hi
              rcases hi with rfl | rfl | rfl | rfl | rfl | rfl | rfl | rfl
              · refine ⟨by kernel_rfl, fun o ho => ?_⟩
                cases ho
                refine stepW_see [(67, .int .u8 (vn : Int))] (by kernel_rfl) (fun _ => rfl) (fun _ => rfl) ?_
                rintro ρ hc hf ⟨e67, -⟩
                have hb1 := hC.1.alloc (Nat.le_trans (Nat.le_refl _) hC.1.size) (.cells #[.int .u8 (vn : Int)] 5)
                exact stepW_val (w' := w1.alloc (.cells #[.int .u8 (vn : Int)] 5)) (v := .slice (some ⟨w1.heap.size, 0, none⟩) 1 1) (by go_simp) ⟨w1.heap.size, vs_other (i := 1) rfl hL, rfl, hb1, fun _ => Blk.new w1 _ _⟩
              · refine ⟨by kernel_rfl, fun o ho => ?_⟩
                cases ho
                refine stepW_see [(68, .slice (some ⟨s, 0, none⟩) 1 1)] (by kernel_rfl) (fun _ => rfl) (fun _ => rfl) ?_
                rintro ρ hc hf ⟨e68, -⟩
                have hrun := one_run v (by have q := hC.2 (ha 1 (by decide)); rw [HV.out] at q; exact q)
                rw [← HS1.out] at hrun
                exact stepW_val (w' := w1) (v := .string S1) (by go_simp) ⟨s, fun _ _ => rfl, rfl, ⟨hC.1, fun h => hC.2 (by simpa [upd] using h)⟩⟩
              · refine ⟨by kernel_rfl, fun o ho => ?_⟩
                cases ho
                refine stepW_see [(69, .string S1)] (by kernel_rfl) (fun _ => rfl) (fun _ => rfl) ?_
                rintro ρ hc hf ⟨e69, -⟩
                exact stepW_val (w' := w1) (v := .string (⟨#[71, 82, 68, 82]⟩ ++ S1)) (by go_simp) ⟨s, fun _ _ => rfl, rfl, ⟨hC.1, fun h => hC.2 (by simpa [upd] using h)⟩⟩
              · refine ⟨by kernel_rfl, fun o ho => ?_⟩
                cases ho
                refine stepW_see [(71, .string T)] (by kernel_rfl) (fun _ => rfl) (fun _ => rfl) ?_
                rintro ρ hc hf ⟨e71, -⟩
                exact stepW_val (w' := w1) (v := .int .i64 (n : Int)) (by go_simp) ⟨s, fun _ _ => rfl, rfl, ⟨hC.1, fun h => hC.2 (by simpa [upd] using h)⟩⟩
              · refine ⟨by kernel_rfl, fun o ho => ?_⟩
                cases ho
                refine stepW_see [(72, .int .i64 (n : Int))] (by kernel_rfl) (fun _ => rfl) (fun _ => rfl) ?_
                rintro ρ hc hf ⟨e72, -⟩
                have q := HU.out
                exact stepW_val (w' := w1) (v := .int .u64 (n : Int)) (by go_simp) ⟨s, fun _ _ => rfl, rfl, ⟨hC.1, fun h => hC.2 (by simpa [upd] using h)⟩⟩
              · refine ⟨by kernel_rfl, fun o ho => ?_⟩
                cases ho
                refine stepW_see [(73, .int .u64 (n : Int))] (by kernel_rfl) (fun _ => rfl) (fun _ => rfl) ?_
                rintro ρ hc hf ⟨e73, -⟩
                refine stepW_call (f := 22) (args := _) (by go_simp; try with_reducible rfl) ((rbytes_yes n 4 w1 (by omega) (by omega) (by omega)).mono fun e w2 ⟨q1, hb⟩ => ⟨_, q1, s, fun _ _ => rfl, ?_, hC.1.trans (hb.mono hC.1.size), fun h => ?_⟩)
                · rw [← HS4.out]; rfl
                · have q := hC.2 (by simpa [upd] using h)
                  exact q.below hb q.lt
              · refine ⟨by kernel_rfl, fun o ho => ?_⟩
                cases ho
                refine stepW_see [(70, .string (⟨#[71, 82, 68, 82]⟩ ++ S1)), (74, .string S4)] (by kernel_rfl) (fun _ => rfl) (fun _ => rfl) ?_
                rintro ρ hc hf ⟨e70, e74, -⟩
                exact stepW_val (w' := w1) (v := .string (⟨#[71, 82, 68, 82]⟩ ++ S1 ++ S4)) (by go_simp) ⟨s, fun _ _ => rfl, rfl, ⟨hC.1, fun h => hC.2 (by simpa [upd] using h)⟩⟩
              · refine ⟨by kernel_rfl, fun o ho => ?_⟩
                cases ho
                refine stepW_see [(75, .string (⟨#[71, 82, 68, 82]⟩ ++ S1 ++ S4)), (76, .string T)] (by kernel_rfl) (fun _ => rfl) (fun _ => rfl) ?_
                rintro ρ hc hf ⟨e75, e76, -⟩
                have q : 9 + n ≤ 9223372036854775807 := by omega
                exact stepW_val (w' := w1) (v := .string (⟨#[71, 82, 68, 82]⟩ ++ S1 ++ S4 ++ T)) (by go_simp) ⟨s, fun _ _ => rfl, rfl, ⟨hC.1, fun h => hC.2 (by simpa [upd] using h)⟩⟩
            · intro s L w2 hC hall
              simp only [List.toList_toArray, putsZ_some, putsZ_none, putsZ_nil, List.setIfInBounds_toArray, List.set_cons_zero, List.set_cons_succ]
              have HB2 := Lib.hid (HB.out.trans (hC.1.mono HB.out.size))
              clear hC hall
              obtain ⟨X, hX⟩ : ∃ X : ByteArray, X = ⟨#[71, 82, 68, 82]⟩ ++ S1 ++ S4 ++ T := ⟨_, rfl⟩
              have eX : X.data.toList = bareL v l := by
                rw [hX, HS1.out, HS4.out]
                unfold bareL headL
                rw [← HN.out, ← HTL.out]
                simp
              have hXs : X.size ≤ 1000009 := by rw [← size_list, eX]; unfold bareL; rw [List.length_append, headL_len, ← HN.out]; omega
              rw [← hX]
              have EQ := Lib.hid (show X ++ (⟨(Crc.le4 (Crc.sum X.data.toList)).toArray⟩ : ByteArray) = buildS v l by
                unfold buildS
                rw [if_pos n0.out]
                refine bytes_ext ?_
                show (X ++ (⟨(Crc.le4 (Crc.sum X.data.toList)).toArray⟩ : ByteArray)).data.toList = wholeL (bareL v l)
                rw [wholeL, ← eX]
                simp)
              have HL := Lib.hid (show ∀ N, (⟨(Crc.le4 N).toArray⟩ : ByteArray).size = 4 from fun N => rfl)
              have hc := Lib.hid (rsum_text X w2 (by omega))
              clear eX hX zg z1 z4 hTn
              go_wp2_with (go_at_call 23; with_reducible refine hc.out.mono ?_; rintro e w3 ⟨rfl, hb3⟩; have hs4 := HL.out (Crc.sum X.data.toList); generalize (⟨(Crc.le4 (Crc.sum X.data.toList)).toArray⟩ : ByteArray) = S9 at *)
              go_ret2
              refine ⟨?_, HB2.out.trans (hb3.mono HB2.out.size)⟩
              rw [n0.out, ← EQ.out]
              rfl
    · have HG := Lib.hid (show goodV v = false by simpa using cg)
      have cg1 : ¬ (1 ≤ v.toNat ∧ v.toNat ≤ 3) := fun h => cg ((goodV_iff v).2 h)
      clear cg
      unfold bv
      have n8 := Lib.hid (show buildN v l = 8 by unfold buildN; rw [if_pos HG.out])
      have s8 := Lib.hid (show buildS v l = ⟨#[]⟩ by unfold buildS; rw [n8.out]; rfl)
      generalize v.toNat = vn at *
      by_cases c1 : vn < 1
      · go_enter Try.func9, Try.ntmps9
        go_wp2
        go_ret2
        exact ⟨by rw [n8.out, s8.out]; rfl, Below.refl _ _⟩
      · have c2 : 3 < vn := by omega
        go_enter Try.func9, Try.ntmps9
        go_wp2
        go_ret2
        exact ⟨by rw [n8.out, s8.out]; rfl, Below.refl _ _⟩
end Go.Proofs.Ytmbafeemiclmeaa
