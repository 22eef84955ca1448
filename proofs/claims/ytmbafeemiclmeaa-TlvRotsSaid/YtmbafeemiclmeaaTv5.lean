/- Images, as they are built. -/
import Derived.Test.YtmbafeemiclmeaaTv4
namespace Go.Proofs.Ytmbafeemiclmeaa
open Go.RowKit
set_option linter.unusedSimpArgs false
set_option linter.unusedVariables false

set_option maxRecDepth 100000 in
set_option maxHeartbeats 4000000 in
theorem build_any {w : World} {sv : Value} {l : List Sec} (v : UInt8) (hs : SL w sv l) (hl : (bodyL l).length ≤ 1000000) (hll : l.length ≤ 1000000) :
    Calls Try.prog 8 #[bv v, sv] w fun e w' => e = .returned (.tuple #[.string (buildS v l), .int .i64 (buildN v l : Nat)]) ∧ Below w.heap.size w w' := by
  have EG := Lib.hid (show ∀ (args : Array Value) (w : World), (callFunc 18 args).run Try.prog w = .ok (.enter 18 args) w from fun args w => by kernel_rfl)
  obtain ⟨n, hn⟩ : ∃ n, n = (bodyL l).length := ⟨_, rfl⟩
  obtain ⟨m, hm⟩ : ∃ m, m = l.length := ⟨_, rfl⟩
  have hsv : sv = .slice none 0 0 ∧ m = 0 ∨ ∃ g cap, sv = .slice (some ⟨g, 0, none⟩) m cap ∧ m ≤ cap ∧ cap ≤ 9223372036854775807 := by
    rcases hs.cases with ⟨h, rfl⟩ | ⟨g, cap, h, h1, h2, h3⟩
    · exact .inl ⟨h, hm⟩
    · refine .inr ⟨g, cap, by rw [hm]; exact h, by omega, h3⟩
  rw [← hn] at hl
  rw [← hm] at hll
  have HN := Lib.hid hn
  have HM := Lib.hid hm
  have HS := Lib.hid hs
  have HZ := Lib.hid zero54
  clear hn hm hs
  rcases hsv with ⟨rfl, hm0⟩ | ⟨g, cap, rfl, hmc, hcap⟩
  · by_cases cg : goodV v = true
    · have HG := Lib.hid cg
      by_cases cr : risesL l = true
      · have HR := Lib.hid cr
        clear cg cr
        go_enter Try.func8, Try.ntmps8
        go_upto_region 3 with (go_at_call 16; refine (goodV_any v _).mono ?_; rintro e w1 ⟨rfl, rfl⟩; rw [HG.out])
        go_upto_region 7 with (go_at_call 17; refine (rises_any HS.out (by rw [← HM.out]; omega) EG.out).mono ?_; rintro e w1 ⟨rfl, hb1⟩; rw [HR.out])
        have HB1 := Lib.hid hb1
        clear hb1
        go_loopw [6, 20] (fun s i wr => ∃ k : Nat, i = .int .i64 (k : Int) ∧ s = .int .i64 ((bodyL (l.take k)).length : Nat) ∧ k ≤ m ∧ Below w.heap.size w wr) (fun _ i _ => m - (intOf i).toNat)
        case atStart => exact ⟨0, rfl, by simp [bodyL], by omega, HB1.out⟩
        case round =>
          obtain ⟨k, rfl, rfl, hk, hB⟩ := hrel
          have HB := Lib.hid hB
          clear hB HB1
          have : k = 0 := by omega
          subst this
          · rw [List.take_of_length_le (by rw [← HM.out]; omega), ← HN.out]
            have n0 := Lib.hid (show buildN v l = 0 by unfold buildN; rw [if_neg (by rw [HG.out]; decide), if_neg (by rw [HR.out]; decide)])
            have hbl : (⟨(bareL v l).toArray⟩ : ByteArray).size ≤ 1000009 := by rw [mk_size]; unfold bareL; rw [List.length_append, headL_len, ← HN.out]; omega
            have l4 : (⟨(Crc.le4 (Crc.sum (bareL v l))).toArray⟩ : ByteArray).size = 4 := rfl
            obtain ⟨T, hT⟩ : ∃ T : ByteArray, T = ⟨(bareL v l).toArray⟩ := ⟨_, rfl⟩
            have eT : T.data.toList = bareL v l := by rw [hT]
            rw [← hT] at hbl
            have HT := Lib.hid hT
            have EQ := Lib.hid (show T ++ (⟨(Crc.le4 (Crc.sum T.data.toList)).toArray⟩ : ByteArray) = buildS v l by
              unfold buildS
              rw [if_pos n0.out]
              refine bytes_ext ?_
              show (T ++ (⟨(Crc.le4 (Crc.sum T.data.toList)).toArray⟩ : ByteArray)).data.toList = wholeL (bareL v l)
              rw [wholeL, ← eT]
              simp)
            have l5 : ∀ N, (⟨(Crc.le4 N).toArray⟩ : ByteArray).size = 4 := fun N => rfl
            have HL := Lib.hid l5
            clear l4 l5 hT eT
            have hw := Lib.hid (write_any v (HS.out.below HB.out) (by rw [← HN.out]; exact hl) (by rw [← HM.out]; exact hll))
            go_upto_region 14 with (go_at_call 20; have h20 := hw.out; rw [← HN.out] at h20; with_reducible refine h20.mono ?_; rintro e w2 ⟨rfl, hb2⟩)
            have HB2 := Lib.hid (HB.out.trans (hb2.mono HB.out.size))
            clear hb2 hw
            rw [← HT.out]
            have hc := Lib.hid (sum_text T w2 (by omega))
            go_wp2_with (go_at_call 21; with_reducible refine hc.out.mono ?_; rintro e w3 ⟨rfl, hb3⟩; have hs4 := HL.out (Crc.sum T.data.toList); generalize (⟨(Crc.le4 (Crc.sum T.data.toList)).toArray⟩ : ByteArray) = S4 at *)
            go_ret2
            refine ⟨?_, HB2.out.trans (hb3.mono HB2.out.size)⟩
            rw [n0.out, ← EQ.out]
            rfl
      · have HR := Lib.hid (show risesL l = false by simpa using cr)
        clear cr
        have n9 := Lib.hid (show buildN v l = 9 by unfold buildN; rw [if_neg (by rw [HG.out]; decide), if_pos HR.out])
        have s9 := Lib.hid (show buildS v l = ⟨#[]⟩ by unfold buildS; rw [n9.out]; rfl)
        clear cg
        go_enter Try.func8, Try.ntmps8
        go_upto_region 3 with (go_at_call 16; refine (goodV_any v _).mono ?_; rintro e w1 ⟨rfl, rfl⟩; rw [HG.out])
        go_wp2_with (go_at_call 17; refine (rises_any HS.out (by rw [← HM.out]; omega) EG.out).mono ?_; rintro e w1 ⟨rfl, hb1⟩; rw [HR.out])
        go_ret2
        exact ⟨by rw [n9.out, s9.out]; rfl, hb1⟩
    · have HG := Lib.hid (show goodV v = false by simpa using cg)
      clear cg
      have n8 := Lib.hid (show buildN v l = 8 by unfold buildN; rw [if_pos HG.out])
      have s8 := Lib.hid (show buildS v l = ⟨#[]⟩ by unfold buildS; rw [n8.out]; rfl)
      go_enter Try.func8, Try.ntmps8
      go_wp2_with (go_at_call 16; refine (goodV_any v _).mono ?_; rintro e w1 ⟨rfl, rfl⟩; rw [HG.out])
      go_ret2
      exact ⟨by rw [n8.out, s8.out]; rfl, Below.refl _ _⟩
  · by_cases cg : goodV v = true
    · have HG := Lib.hid cg
      by_cases cr : risesL l = true
      · have HR := Lib.hid cr
        clear cg cr
        go_enter Try.func8, Try.ntmps8
        go_upto_region 3 with (go_at_call 16; refine (goodV_any v _).mono ?_; rintro e w1 ⟨rfl, rfl⟩; rw [HG.out])
        go_upto_region 7 with (go_at_call 17; refine (rises_any HS.out (by rw [← HM.out]; omega) EG.out).mono ?_; rintro e w1 ⟨rfl, hb1⟩; rw [HR.out])
        have HB1 := Lib.hid hb1
        clear hb1
        go_loopw [6, 20] (fun s i wr => ∃ k : Nat, i = .int .i64 (k : Int) ∧ s = .int .i64 ((bodyL (l.take k)).length : Nat) ∧ k ≤ m ∧ Below w.heap.size w wr) (fun _ i _ => m - (intOf i).toNat)
        case atStart => exact ⟨0, rfl, by simp [bodyL], by omega, HB1.out⟩
        case round =>
          obtain ⟨k, rfl, rfl, hk, hB⟩ := hrel
          have HB := Lib.hid hB
          clear hB HB1
          by_cases c : k < m
          · obtain ⟨x, hx⟩ : ∃ x, l[k]? = some x := ⟨_, List.getElem?_eq_getElem (by rw [← HM.out]; omega)⟩
            have HX := Lib.hid hx
            clear hx
            have c0 : (0 : Int) ≤ (k : Int) := by omega
            have c1 : (k : Int) < (m : Int) := by omega
            have hR := Lib.hid (((HS.out.below HB.out).range HX.out) : wr.rangeAt g (k * 2) (secC x))
            have HL := Lib.hid (laid54 wr x)
            have hz := HZ.out
            have HBL := Lib.hid (Blk.new wr #[.int .u8 0, .string ⟨#[]⟩] 54)
            have hbt := body_take HX.out
            have hbl := congrArg List.length hbt
            rw [List.length_append] at hbl
            have hbm := body_le l (k + 1)
            have hxd : x.d.size ≤ 1000000 := by have := sec_le HX.out; have := HN.out; omega
            rw [← HN.out] at hbm
            generalize (bodyL (l.take k)).length = s at *
            generalize hbs : (bodyL (l.take (k + 1))).length = s2 at *
            have HBS := Lib.hid hbs
            obtain ⟨xb, hxb⟩ : ∃ xb, xb = x.bytes.length := ⟨_, rfl⟩
            have HXB := Lib.hid hxb
            rw [← hxb] at hbl
            have HBLn := Lib.hid hbl
            have c3 : (s : Int) + (xb : Int) ≤ 1000000 := by omega
            clear hbt hbl hbm hbs hxb
            go_upto_region 8 with fail
            refine wp_region_lit ?_
            refine wpList_val (.pointer (some ⟨g, k * 2, none⟩)) (by rfl) (by go_simp) ?_
            (try simp only [Act.put, List.getElem_toArray, List.getElem_cons_succ, List.getElem_cons_zero, List.setIfInBounds_toArray, List.set_cons_zero, List.set_cons_succ])
            refine wpList_val (secV x) (by rfl) (run_loadRow 54 _ rfl g (k * 2) (by rfl) #[bv x.k, .string x.d] _ hR.out Try.underlying54 rfl size54) ?_
            (try simp only [Act.put, List.getElem_toArray, List.getElem_cons_succ, List.getElem_cons_zero, List.setIfInBounds_toArray, List.set_cons_zero, List.set_cons_succ])
            go_upto_region 9 with (refine wpList_store_row rfl 54 _ _ rfl wr.heap.size #[bv x.k, .string x.d] rfl rfl 54 #[.int .u8 0, .string ⟨#[]⟩] HBL.out size54 rfl (all54 x) ?_)
            obtain ⟨hbk, hb6⟩ := HL.out
            generalize ((wr.alloc (Obj.cells #[Value.int IntKind.u8 0, Value.string ⟨#[]⟩] 54)).setRow wr.heap.size #[bv x.k, Value.string x.d]) = w6 at *
            have HB6 := Lib.hid (HB.out.trans (hb6.mono HB.out.size))
            generalize wr.heap.size = G at *
            have hsz := Lib.hid (size_any x w6 hxd)
            clear HBL HL hb6 HB hR
            refine wp_region_lit ?_
            refine wpList_val (.int .i64 (s : Int)) (by rfl) (by go_simp) ?_
            (try simp only [Act.put, List.getElem_toArray, List.getElem_cons_succ, List.getElem_cons_zero, List.setIfInBounds_toArray, List.set_cons_zero, List.set_cons_succ])
            refine wpList_val (secV x) (by rfl) (run_loadRow 54 _ rfl G 0 (by rfl) #[bv x.k, .string x.d] _ (fun j u hu => by rw [hbk.cell]; simpa using hu) Try.underlying54 rfl size54) ?_
            (try simp only [Act.put, List.getElem_toArray, List.getElem_cons_succ, List.getElem_cons_zero, List.setIfInBounds_toArray, List.set_cons_zero, List.set_cons_succ])
            go_wp2_with (go_at_call 19; have h19 := hsz.out; rw [← HXB.out] at h19; with_reducible refine h19.mono ?_; rintro e w7 ⟨rfl, hb7⟩)
            go_roundw
            case rel => exact ⟨k + 1, by go_num, by rw [HBS.out, HBLn.out]; go_num, by omega, HB6.out.trans (hb7.mono HB6.out.size)⟩
            case measure => simp [intOf]; omega
          · have : k = m := by omega
            subst this
            rw [List.take_of_length_le (by rw [← HM.out]; omega), ← HN.out]
            have n0 := Lib.hid (show buildN v l = 0 by unfold buildN; rw [if_neg (by rw [HG.out]; decide), if_neg (by rw [HR.out]; decide)])
            have hbl : (⟨(bareL v l).toArray⟩ : ByteArray).size ≤ 1000009 := by rw [mk_size]; unfold bareL; rw [List.length_append, headL_len, ← HN.out]; omega
            have l4 : (⟨(Crc.le4 (Crc.sum (bareL v l))).toArray⟩ : ByteArray).size = 4 := rfl
            obtain ⟨T, hT⟩ : ∃ T : ByteArray, T = ⟨(bareL v l).toArray⟩ := ⟨_, rfl⟩
            have eT : T.data.toList = bareL v l := by rw [hT]
            rw [← hT] at hbl
            have HT := Lib.hid hT
            have EQ := Lib.hid (show T ++ (⟨(Crc.le4 (Crc.sum T.data.toList)).toArray⟩ : ByteArray) = buildS v l by
              unfold buildS
              rw [if_pos n0.out]
              refine bytes_ext ?_
              show (T ++ (⟨(Crc.le4 (Crc.sum T.data.toList)).toArray⟩ : ByteArray)).data.toList = wholeL (bareL v l)
              rw [wholeL, ← eT]
              simp)
            have l5 : ∀ N, (⟨(Crc.le4 N).toArray⟩ : ByteArray).size = 4 := fun N => rfl
            have HL := Lib.hid l5
            clear l4 l5 hT eT
            have hw := Lib.hid (write_any v (HS.out.below HB.out) (by rw [← HN.out]; exact hl) (by rw [← HM.out]; exact hll))
            go_upto_region 14 with (go_at_call 20; have h20 := hw.out; rw [← HN.out] at h20; with_reducible refine h20.mono ?_; rintro e w2 ⟨rfl, hb2⟩)
            have HB2 := Lib.hid (HB.out.trans (hb2.mono HB.out.size))
            clear hb2 hw
            rw [← HT.out]
            have hc := Lib.hid (sum_text T w2 (by omega))
            go_wp2_with (go_at_call 21; with_reducible refine hc.out.mono ?_; rintro e w3 ⟨rfl, hb3⟩; have hs4 := HL.out (Crc.sum T.data.toList); generalize (⟨(Crc.le4 (Crc.sum T.data.toList)).toArray⟩ : ByteArray) = S4 at *)
            go_ret2
            refine ⟨?_, HB2.out.trans (hb3.mono HB2.out.size)⟩
            rw [n0.out, ← EQ.out]
            rfl
      · have HR := Lib.hid (show risesL l = false by simpa using cr)
        clear cr
        have n9 := Lib.hid (show buildN v l = 9 by unfold buildN; rw [if_neg (by rw [HG.out]; decide), if_pos HR.out])
        have s9 := Lib.hid (show buildS v l = ⟨#[]⟩ by unfold buildS; rw [n9.out]; rfl)
        clear cg
        go_enter Try.func8, Try.ntmps8
        go_upto_region 3 with (go_at_call 16; refine (goodV_any v _).mono ?_; rintro e w1 ⟨rfl, rfl⟩; rw [HG.out])
        go_wp2_with (go_at_call 17; refine (rises_any HS.out (by rw [← HM.out]; omega) EG.out).mono ?_; rintro e w1 ⟨rfl, hb1⟩; rw [HR.out])
        go_ret2
        exact ⟨by rw [n9.out, s9.out]; rfl, hb1⟩
    · have HG := Lib.hid (show goodV v = false by simpa using cg)
      clear cg
      have n8 := Lib.hid (show buildN v l = 8 by unfold buildN; rw [if_pos HG.out])
      have s8 := Lib.hid (show buildS v l = ⟨#[]⟩ by unfold buildS; rw [n8.out]; rfl)
      go_enter Try.func8, Try.ntmps8
      go_wp2_with (go_at_call 16; refine (goodV_any v _).mono ?_; rintro e w1 ⟨rfl, rfl⟩; rw [HG.out])
      go_ret2
      exact ⟨by rw [n8.out, s8.out]; rfl, Below.refl _ _⟩
end Go.Proofs.Ytmbafeemiclmeaa
