/- BpduCodes, walked: for every PDU, source and text it returns true. -/
import Derived.Test.YtkohnleeiajiiaaWrap
import Derived.Test.YtkohnleeiajiiaaKn
import Derived.Test.YtkohnleeiajiiaaShow
import Derived.Test.YtkohnleeiajiiaaReads
import Derived.Test.YtkohnleeiajiiaaOpens
namespace Go.Proofs.Ytkohnleeiajiiaa
open Go.RowKit
set_option linter.unusedSimpArgs false
set_option linter.unusedVariables false
attribute [local irreducible] wpQuiet

theorem wrA_size (m : Nat → Nat) (p : Pd) : (wrA m p).size = 18 := by unfold wrA; split <;> rfl
theorem wrA_one (m : Nat → Nat) (p : Pd) : (wrA m p).all (·.oneCell') = true := by
  unfold wrA
  split
  · exact frA_one _ _ _ _ _ _ _ _
  · exact nil18_one
theorem part_dst {d s : Nat → Nat} {tg : Bool} {pc : Nat} {de : Bool} {vi ty : Nat} {da : ByteArray} (i : Nat) (v : Value) (hv : (macA d).toList[i]? = some v) : (frA d s tg pc de vi ty da)[0 + i]? = some v := by
  match i with
  | 0 => exact hv
  | 1 => exact hv
  | 2 => exact hv
  | 3 => exact hv
  | 4 => exact hv
  | 5 => exact hv
  | n + 6 => cases hv
theorem rencode_of {p : Pd} {arr : Array Value} (h : arr = pdA p) (w : World) (hok : p.ok) : Calls Try.prog 12 #[.agg arr] w fun e w' => e = .returned (.tuple #[.string (encP p), .int .i64 (encE p)]) ∧ Below w.heap.size w w' := by subst h; exact rencode_any p w hok
theorem wrap_of {p : Pd} {arr : Array Value} (h : arr = pdA p) (m : Nat → Nat) (w : World) (hok : p.ok) : Calls Try.prog 13 #[mac m, .agg arr] w fun e w' => e = .returned (.tuple #[.agg (wrA m p), .int .i64 (encE p)]) ∧ Below w.heap.size w w' := by subst h; exact wrap_any m p w hok
theorem open_of {arr : Array Value} {d s : Nat → Nat} {tg : Bool} {pc : Nat} {de : Bool} {vi ty : Nat} {da : ByteArray} (h : arr = frA d s tg pc de vi ty da) (w : World) (hty : ty < 65536) (hda : da.size ≤ maxLen) :
    Calls Try.prog 16 #[.agg arr] w fun e w' => e = .returned (.tuple #[.agg (pdA (opP d tg ty da)), .int .i64 (opE d tg ty da)]) ∧ Below w.heap.size w w' := by subst h; exact open_any d s tg pc de vi ty da w hty hda
theorem ext_app (a b : ByteArray) : (a ++ b).extract 0 a.size = a := by
  apply ByteArray.ext
  apply Array.ext'
  rw [ext_list, app_list, List.drop_zero, Nat.sub_zero]
  exact List.take_left' (by rw [Array.length_toList]; rfl)
theorem shown : (⟨(showT gF 6).toArray⟩ : ByteArray) = ⟨#[48, 49, 58, 56, 48, 58, 99, 50, 58, 48, 48, 58, 48, 48, 58, 48, 48]⟩ := by kernel_rfl
theorem show_group (w : World) : Calls Try.prog 17 #[mac gF] w fun e w' => e = .returned (.string ⟨#[48, 49, 58, 56, 48, 58, 99, 50, 58, 48, 48, 58, 48, 48, 58, 48, 48]⟩) ∧ Below w.heap.size w w' := by
  have h := show_any gF w gF_six
  rw [shown] at h
  exact h

theorem opened (p : Pd) (hok : p.ok) (hg : goodP p = true) (more : ByteArray) : opE gF false (rawS p).size (rawS p ++ more) = 0 ∧ opP gF false (rawS p).size (rawS p ++ more) = p := by
  have hl := raw_size p hg
  have hb : opBad gF false (rawS p).size = false := by
    unfold opBad
    rw [eqMac_self, decide_eq_false (by omega)]
    rfl
  have hz : ¬ (rawS p ++ more).size < (rawS p).size := by rw [app_size]; omega
  obtain ⟨h1, h2⟩ := dec_enc p hok hg ⟨#[]⟩
  rw [app_nil] at h1 h2
  unfold opE opP
  rw [hb, if_neg (by simp), if_neg hz, ext_app, if_neg (by simp), if_neg hz]
  exact ⟨h1, h2⟩

set_option maxRecDepth 100000 in
set_option maxHeartbeats 8000000 in
theorem codes_walk (p : Pd) (m : Nat → Nat) (m0 : ByteArray) (w : World) (hok : p.ok) (hm : m0.size ≤ maxLen) :
    Calls Try.prog 3 #[pdV p, mac m, .string m0] w fun e w' => e = .returned (.bool true) ∧ Below w.heap.size w w' := by
  obtain ⟨n, hn, hn2⟩ : ∃ n : Nat, n ≤ m0.size ∧ (m0.size ≤ 40 ∧ n = m0.size ∨ 40 < m0.size ∧ n = 40) := by
    by_cases c : m0.size ≤ 40
    · exact ⟨m0.size, Nat.le_refl _, .inl ⟨c, rfl⟩⟩
    · exact ⟨40, by omega, .inr ⟨by omega, rfl⟩⟩
  obtain ⟨mo, hmo⟩ : ∃ s, s = m0.extract 0 n := ⟨_, rfl⟩
  have hmm : mo.size ≤ 40 := by rw [hmo]; simp; omega
  have HMM := Lib.hid hmm
  have HN := Lib.hid hn2
  have HS := Lib.hid hmo
  have hml : (m0.size : Int) ≤ 9223372036854775807 := by unfold maxLen at hm; omega
  obtain ⟨arr, harr⟩ : ∃ arr, arr = pdA p := ⟨_, rfl⟩
  have hz31 := Lib.hid (show (Try.prog.info? 31).map (·.size) = some arr.size by rw [harr]; exact size31)
  have hz38 := Lib.hid (show (Try.prog.info? 38).map (·.size) = some arr.size by rw [harr]; exact size38)
  have hz26 := Lib.hid (show (Try.prog.info? 26).map (·.size) = some arr.size by rw [harr]; exact size26)
  have hone := Lib.hid (show arr.all (·.oneCell') = true by rw [harr]; exact pdA_one p)
  have hzz := Lib.hid (show (16 : Nat) = arr.size by rw [harr]; rfl)
  have HEQ := Lib.hid (show ∀ W, (Op.equalIn 10000 31 (.agg arr) (.agg arr)).run Try.prog W = .ok true W from fun W => by rw [harr, ← eqP_self p]; exact equal_pd31 p p W)
  show Calls Try.prog 3 #[.agg (pdA p), mac m, .string m0] w _
  rw [← harr]
  have HA := Lib.hid harr
  have OK := Lib.hid hok
  have h39 := Lib.hid size25
  have h41 := Lib.hid size52
  clear hn hn2 hmo hm hmm harr hok
  obtain ⟨W, hW⟩ : ∃ W, W = (w.alloc (Obj.cells arr 26)).alloc (Obj.cells (macA m) 27) := ⟨_, rfl⟩
  have K0 := Lib.hid (show Kn w [(w.heap.size + 1, macA m, 27), (w.heap.size, arr, 26)] W by
    rw [hW]; have := ((Kn.nil w).alloc arr 26).alloc (macA m) 27; simpa using this)
  have HW := Lib.hid hW
  clear hW
  go_enter Try.func3, Try.ntmps3
  go_upto_region 1 with fail
  simp only [macA] at HW
  rw [← HW.out]
  clear HW
  generalize hg : w.heap.size = g at *
  have HG := Lib.hid hg
  clear hg
  go_upto_region 3 with (go_at_call 9; refine (speaks5_any _).mono ?_; rintro e w1 ⟨rfl, hb1⟩)
  have K1 := Lib.hid (K0.out.next hb1)
  clear K0 hb1
  go_cut [2] (fun s2 wx => s2 = .string mo ∧ wx = w1)
  case first =>
    rcases HN.out with ⟨h1, h2⟩ | ⟨h1, h2⟩
    · have h1' : (m0.size : Int) ≤ 40 := by omega
      have HD2 := Lib.hid (show m0.extract 0 m0.size = mo by rw [HS.out, h2])
      clear h1 h2
      go_wp2_with fail
      go_meet
      have e : mo = m0 := by rw [← HD2.out]; simp
      rw [e]
      exact ⟨rfl, rfl⟩
    · have h1' : (40 : Int) < (m0.size : Int) := by omega
      have HD2 := Lib.hid (show m0.extract 0 40 = mo by rw [HS.out, h2])
      clear h1 h2
      go_wp2_with fail
      go_meet
      rw [HD2.out]
      exact ⟨rfl, rfl⟩
  case rest =>
    obtain ⟨rfl, rfl⟩ := hcut
    clear HN HS hml
    obtain ⟨s, hs⟩ : ∃ s, s = encP p := ⟨_, rfl⟩
    obtain ⟨E, hE⟩ : ∃ E, E = encE p := ⟨_, rfl⟩
    obtain ⟨fa, hfa⟩ : ∃ fa, fa = wrA m p := ⟨_, rfl⟩
    have ES := Lib.hid hs
    have EE := Lib.hid hE
    have FA := Lib.hid hfa
    have fz : (Try.prog.info? 41).map (·.size) = some fa.size := by rw [hfa, wrA_size, size52]
    have fz2 : (18 : Nat) = fa.size := by rw [hfa, wrA_size]
    have fo : fa.all (·.oneCell') = true := by rw [hfa]; exact wrA_one m p
    have FZ := Lib.hid fz
    have FZ2 := Lib.hid fz2
    have FO := Lib.hid fo
    clear hs hE hfa fz fz2 fo
    go_upto_region 5 with (first
      | (refine wpList_load_row rfl 26 _ rfl g rfl 26 _ (0, 0) _ (K1.out.at 1 rfl) Try.underlying26 rfl hz26.out ?_)
      | (go_at_call 10; refine (ptold_of HA.out _).mono ?_; rintro e w2 ⟨rfl, hb2⟩
         have K2 := Lib.hid (K1.out.next hb2)
         have R2 := Lib.hid (Blk.new w2 nil16 31))
      | (refine wpList_store_row rfl 31 _ _ rfl w2.heap.size arr rfl rfl 31 nil16 R2.out hz31.out hzz.out hone.out ?_))
    obtain ⟨w3, hw3⟩ : ∃ w3, w3 = (w2.alloc (Obj.cells nil16 31)).setRow w2.heap.size arr := ⟨_, rfl⟩
    have K3 := Lib.hid (show Kn w ((w2.heap.size, arr, 31) :: [(g + 1, macA m, 27), (g, arr, 26)]) w3 by rw [hw3]; exact K2.out.laid arr nil16 31)
    simp only [nil16] at hw3
    rw [← hw3]
    clear hw3 K2 R2 hb2 K1
    generalize w2.heap.size = c7 at *
    go_upto_region 6 with (first
      | (refine wpList_load_row rfl 31 _ rfl c7 rfl 31 _ (0, 0) _ (K3.out.at 0 rfl) Try.underlying31 rfl hz31.out ?_)
      | (go_at_call 11; refine (pencode_of HA.out _ OK.out).mono ?_; rintro e w4 ⟨rfl, hb4⟩; rw [← ES.out, ← EE.out]
         have K4 := Lib.hid (K3.out.next hb4)))
    clear hb4 K3
    go_upto_region 7 with (first
      | (refine wpList_load_row rfl 26 _ rfl g rfl 26 _ (0, 0) _ (K4.out.at 2 rfl) Try.underlying26 rfl hz26.out ?_)
      | (go_at_call 12; refine (rencode_of HA.out _ OK.out).mono ?_; rintro e w5 ⟨rfl, hb5⟩; rw [← ES.out, ← EE.out]
         have K5 := Lib.hid (K4.out.next hb5)))
    clear hb5 K4
    go_upto_region 8 with (first
      | (refine wpList_load_row rfl 27 _ rfl (g + 1) rfl 27 _ (0, 0) _ (K5.out.at 1 rfl) Try.underlying27 rfl size27 ?_)
      | (refine wpList_load_row rfl 31 _ rfl c7 rfl 31 _ (0, 0) _ (K5.out.at 0 rfl) Try.underlying31 rfl hz31.out ?_)
      | (go_at_call 13; refine (wrap_of HA.out m _ OK.out).mono ?_; rintro e w6 ⟨rfl, hb6⟩; rw [← FA.out, ← EE.out]
         have K6 := Lib.hid (K5.out.next hb6)
         have R6 := Lib.hid (Blk.new w6 nil18 41))
      | (refine wpList_store_row rfl 41 _ _ rfl w6.heap.size fa rfl rfl 41 nil18 R6.out FZ.out FZ2.out FO.out ?_))
    obtain ⟨w7, hw7⟩ : ∃ w7, w7 = (w6.alloc (Obj.cells nil18 41)).setRow w6.heap.size fa := ⟨_, rfl⟩
    have K7 := Lib.hid (show Kn w ((w6.heap.size, fa, 41) :: (c7, arr, 31) :: [(g + 1, macA m, 27), (g, arr, 26)]) w7 by rw [hw7]; exact K6.out.laid fa nil18 41)
    have H7 := Lib.hid (show (∀ x ∈ [(c7, arr, 31), (g + 1, macA m, 27), (g, arr, 26)], x.1 ≠ w6.heap.size) ∧ w.heap.size ≤ w6.heap.size from ⟨K6.out.fresh, K6.out.size⟩)
    simp only [nil18] at hw7
    rw [← hw7]
    clear hw7 K6 R6 hb6 K5
    generalize w6.heap.size = c12 at *
    by_cases hgd : goodP p = true
    case neg =>
      have e8 : E = 8 := by rw [EE.out]; unfold encE; rw [if_neg hgd]
      have F18 := Lib.hid (show fa = nil18 by rw [FA.out]; unfold wrA; rw [if_neg hgd])
      have fq : ∀ W, (Op.equalIn 10000 41 (.agg nil18) (.agg nil18)).run Try.prog W = .ok true W := fun W => equal_frame (fun _ => 0) (fun _ => 0) false 0 false 0 0 ⟨#[]⟩ W
      clear EE
      subst e8
      clear hgd
      go_wp2_with (first
        | (refine wpList_load_row rfl 41 _ rfl c12 rfl 41 _ (0, 0) _ (K7.out.at 0 rfl) Try.underlying41 rfl FZ.out ?_; rw [F18.out]))
      go_ret
      exact ⟨rfl, HG.out ▸ K7.out.below⟩
    case pos =>
      have e0 : E = 0 := by rw [EE.out]; unfold encE; rw [if_pos hgd]
      have hsr : s = rawS p := by rw [ES.out]; unfold encP; rw [if_pos hgd]
      have sl : s.size ≤ 39 := by rw [hsr]; exact raw_size p hgd
      have FX := Lib.hid (show fa = frA gF m false 0 false 0 s.size s by rw [FA.out, hsr]; unfold wrA; rw [if_pos hgd])
      obtain ⟨d1, d2⟩ := dec_enc p OK.out hgd mo
      obtain ⟨o1, o2⟩ := opened p OK.out hgd mo
      rw [← hsr] at d1 d2 o1 o2
      have D1 := Lib.hid d1
      have D2 := Lib.hid (show pdA (decP (s ++ mo)) = arr by rw [d2]; exact HA.out.symm)
      have O1 := Lib.hid o1
      have O2 := Lib.hid (show pdA (opP gF false s.size (s ++ mo)) = arr by rw [o2]; exact HA.out.symm)
      have AD := hadd s mo (by have := HMM.out; omega)
      have sli : (s.size : Int) ≤ 39 := by omega
      have SL := Lib.hid sl
      have KW := Lib.hid (show IntKind.u16.wrap (s.size : Int) = (s.size : Int) by rw [IntKind.wrap_u16]; omega)
      have KM := Lib.hid (show (s.size : Int) % 65536 = (s.size : Int) by omega)
      clear EE ES hsr d1 d2 o1 o2 sl
      subst e0
      clear hgd
      go_upto_region 13 with (first
        | (go_at_call 14; refine (pdecode_any (s ++ mo) _).mono ?_; rintro e w8 ⟨rfl, hb8⟩; rw [D1.out, D2.out]
           have K8 := Lib.hid (K7.out.next hb8)
           have R8 := Lib.hid (Blk.new w8 nil16 31))
        | (refine wpList_store_row rfl 31 _ _ rfl w8.heap.size arr rfl rfl 31 nil16 R8.out hz31.out hzz.out hone.out ?_))
      obtain ⟨w9, hw9⟩ : ∃ w9, w9 = (w8.alloc (Obj.cells nil16 31)).setRow w8.heap.size arr := ⟨_, rfl⟩
      have K9 := Lib.hid (show Kn w ((w8.heap.size, arr, 31) :: (c12, fa, 41) :: (c7, arr, 31) :: [(g + 1, macA m, 27), (g, arr, 26)]) w9 by rw [hw9]; exact K8.out.laid arr nil16 31)
      have H9 := Lib.hid (K8.out.fresh (c12, fa, 41) (by simp))
      simp only [nil16] at hw9
      rw [← hw9]
      clear hw9 K8 R8 hb8 K7
      generalize w8.heap.size = c14 at *
      have HFQ := Lib.hid (show ∀ W, (Op.equalIn 10000 41 (.agg fa) (.agg fa)).run Try.prog W = .ok true W from fun W => by rw [FX.out]; exact equal_frame gF m false 0 false 0 s.size s W)
      refine wp_region_quiet (C := Kn w ((c14, arr, 31) :: (c12, fa, 41) :: (c7, arr, 31) :: [(g + 1, macA m, 27), (g, arr, 26)])) (by kernel_rfl) (by kernel_rfl) K9.out.drew ?_
      (refine q_val (v := ?_) (by rfl) ?_ ?_; rotate_left; (· (intro w hC; go_simp; try with_reducible rfl)); (try simp only [Act.put, List.getElem_toArray, List.getElem_cons_succ, List.getElem_cons_zero, List.setIfInBounds_toArray, List.set_cons_zero, List.set_cons_succ]))
      (refine q_val (v := ?_) (by rfl) ?_ ?_; rotate_left; (· (intro w hC; go_simp; try with_reducible rfl)); (try simp only [Act.put, List.getElem_toArray, List.getElem_cons_succ, List.getElem_cons_zero, List.setIfInBounds_toArray, List.set_cons_zero, List.set_cons_succ]))
      (refine q_val (v := ?_) (by rfl) ?_ ?_; rotate_left; (· (intro w hC; go_simp; try with_reducible rfl)); (try simp only [Act.put, List.getElem_toArray, List.getElem_cons_succ, List.getElem_cons_zero, List.setIfInBounds_toArray, List.set_cons_zero, List.set_cons_succ]))
      (refine q_val (v := .agg arr) (by rfl) (fun w hC => run_loadVar_of 31 _ rfl c14 rfl _ arr _ (hC.at 0 rfl) Try.underlying31 rfl hz31.out) ?_; (try simp only [Act.put, List.getElem_toArray, List.getElem_cons_succ, List.getElem_cons_zero, List.setIfInBounds_toArray, List.set_cons_zero, List.set_cons_succ]))
      (refine q_val (v := .agg arr) (by rfl) (fun w hC => run_loadVar_of 31 _ rfl c7 rfl _ arr _ (hC.at 2 rfl) Try.underlying31 rfl hz31.out) ?_; (try simp only [Act.put, List.getElem_toArray, List.getElem_cons_succ, List.getElem_cons_zero, List.setIfInBounds_toArray, List.set_cons_zero, List.set_cons_succ]))
      (refine q_val (v := ?_) (by rfl) ?_ ?_; rotate_left; (· (intro w hC; have e := HEQ.out; go_simp; try with_reducible rfl)); (try simp only [Act.put, List.getElem_toArray, List.getElem_cons_succ, List.getElem_cons_zero, List.setIfInBounds_toArray, List.set_cons_zero, List.set_cons_succ]))
      (refine q_val (v := ?_) (by rfl) ?_ ?_; rotate_left; (· (intro w hC; go_simp; try with_reducible rfl)); (try simp only [Act.put, List.getElem_toArray, List.getElem_cons_succ, List.getElem_cons_zero, List.setIfInBounds_toArray, List.set_cons_zero, List.set_cons_succ]))
      (refine q_val (v := ?_) (by rfl) ?_ ?_; rotate_left; (· (intro w hC; go_simp; try with_reducible rfl)); (try simp only [Act.put, List.getElem_toArray, List.getElem_cons_succ, List.getElem_cons_zero, List.setIfInBounds_toArray, List.set_cons_zero, List.set_cons_succ]))
      (refine q_val (v := .agg fa) (by rfl) (fun w hC => run_loadVar_of 41 _ rfl c12 rfl _ fa _ (hC.at 1 rfl) Try.underlying41 rfl FZ.out) ?_; (try simp only [Act.put, List.getElem_toArray, List.getElem_cons_succ, List.getElem_cons_zero, List.setIfInBounds_toArray, List.set_cons_zero, List.set_cons_succ]))
      refine q_call (v := mac gF) 15 #[] (by rfl) (fun w hC => by go_simp; try with_reducible rfl) (fun w' hC => calls_in (group_any w') (fun _ hb => hC.next hb)) ?_
      (try simp only [Act.put, List.getElem_toArray, List.getElem_cons_succ, List.getElem_cons_zero, List.setIfInBounds_toArray, List.set_cons_zero, List.set_cons_succ])
      (refine q_val (v := .agg (macA m)) (by rfl) (fun w hC => run_loadVar_of 27 _ rfl (g + 1) rfl _ (macA m) _ (hC.at 3 rfl) Try.underlying27 rfl size27) ?_; (try simp only [Act.put, List.getElem_toArray, List.getElem_cons_succ, List.getElem_cons_zero, List.setIfInBounds_toArray, List.set_cons_zero, List.set_cons_succ]))
      (refine q_val (v := ?_) (by rfl) ?_ ?_; rotate_left; (· (intro w hC; go_simp; try with_reducible rfl)); (try simp only [Act.put, List.getElem_toArray, List.getElem_cons_succ, List.getElem_cons_zero, List.setIfInBounds_toArray, List.set_cons_zero, List.set_cons_succ]))
      (refine q_val (v := ?_) (by rfl) ?_ ?_; rotate_left; (· (intro w hC; go_simp; try with_reducible rfl)); (try simp only [Act.put, List.getElem_toArray, List.getElem_cons_succ, List.getElem_cons_zero, List.setIfInBounds_toArray, List.set_cons_zero, List.set_cons_succ]))
      (refine q_val (v := ?_) (by rfl) ?_ ?_; rotate_left; (· (intro w hC; have e := KW.out; have e2 := KM.out; go_simp; try with_reducible rfl)); (try simp only [Act.put, List.getElem_toArray, List.getElem_cons_succ, List.getElem_cons_zero, List.setIfInBounds_toArray, List.set_cons_zero, List.set_cons_succ]))
      (refine q_val (v := ?_) (by rfl) ?_ ?_; rotate_left; (· (intro w hC; go_simp; try with_reducible rfl)); (try simp only [Act.put, List.getElem_toArray, List.getElem_cons_succ, List.getElem_cons_zero, List.setIfInBounds_toArray, List.set_cons_zero, List.set_cons_succ]))
      (refine q_val (v := .agg fa) (by rfl) (fun w hC => by rw [FX.out]; go_simp; try with_reducible rfl) ?_; (try simp only [Act.put, List.getElem_toArray, List.getElem_cons_succ, List.getElem_cons_zero, List.setIfInBounds_toArray, List.set_cons_zero, List.set_cons_succ]))
      (refine q_val (v := ?_) (by rfl) ?_ ?_; rotate_left; (· (intro w hC; have e := HFQ.out; go_simp; try with_reducible rfl)); (try simp only [Act.put, List.getElem_toArray, List.getElem_cons_succ, List.getElem_cons_zero, List.setIfInBounds_toArray, List.set_cons_zero, List.set_cons_succ]))
      (refine q_val (v := ?_) (by rfl) ?_ ?_; rotate_left; (· (intro w hC; go_simp; try with_reducible rfl)); (try simp only [Act.put, List.getElem_toArray, List.getElem_cons_succ, List.getElem_cons_zero, List.setIfInBounds_toArray, List.set_cons_zero, List.set_cons_succ]))
      refine wpQuiet_nil ?_
      intro w10 hC
      have K10 := Lib.hid hC
      clear hC K9
      have c17 : w10.cell? ⟨c12, 17, none⟩ = some (.string s) := by rw [(K10.out.at 1 rfl).cell 17, FX.out]; rfl
      have f17 := (K10.out.at 1 rfl).free 17
      go_upto_region 16 with fail
      clear c17 f17
      obtain ⟨fb, hfb⟩ : ∃ fb, fb = frA gF m false 0 false 0 s.size (s ++ mo) := ⟨_, rfl⟩
      have FB := Lib.hid hfb
      have FBZ := Lib.hid (show (Try.prog.info? 41).map (·.size) = some fb.size by rw [hfb]; exact size52)
      obtain ⟨w11, hw11⟩ : ∃ w11, w11 = w10.setCell ⟨c12, 17, none⟩ (.string (s ++ mo)) := ⟨_, rfl⟩
      have K11 := Lib.hid (show Kn w ((c12, fb, 41) :: (c14, arr, 31) :: (c7, arr, 31) :: [(g + 1, macA m, 27), (g, arr, 26)]) w11 by
        have e : fa.setIfInBounds 17 (.string (s ++ mo)) = fb := by rw [FX.out, hfb]; rfl
        rw [hw11, ← e]
        refine Kn.set (Kn.sub K10.out (fun x hx => by simp only [List.mem_cons, List.not_mem_nil, or_false] at hx ⊢; rcases hx with h | h | h | h | h <;> simp [h])) (fun x hx => ?_) (HG.out ▸ H7.out.2) _ _
        rcases List.mem_cons.1 hx with rfl | hx
        · exact fun h => H9.out h.symm
        · exact H7.out.1 x hx)
      rw [← hw11]
      clear hw11 K10 H7 H9 hfb
      go_upto_region 17 with (first
        | (refine wpList_load_row rfl 41 _ rfl c12 rfl 41 _ (0, 0) _ (K11.out.at 0 rfl) Try.underlying41 rfl FBZ.out ?_)
        | (go_at_call 16; refine (open_of FB.out _ (by have := SL.out; omega) (by have := SL.out; have := HMM.out; unfold maxLen; rw [app_size]; omega)).mono ?_; rintro e w12 ⟨rfl, hb12⟩; rw [O1.out, O2.out]
           have K12 := Lib.hid (K11.out.next hb12)
           have R12 := Lib.hid (Blk.new w12 nil16 31))
        | (refine wpList_store_row rfl 31 _ _ rfl w12.heap.size arr rfl rfl 31 nil16 R12.out hz31.out hzz.out hone.out ?_))
      obtain ⟨w13, hw13⟩ : ∃ w13, w13 = (w12.alloc (Obj.cells nil16 31)).setRow w12.heap.size arr := ⟨_, rfl⟩
      have K13 := Lib.hid (show Kn w ((w12.heap.size, arr, 31) :: (c12, fb, 41) :: (c14, arr, 31) :: (c7, arr, 31) :: [(g + 1, macA m, 27), (g, arr, 26)]) w13 by rw [hw13]; exact K12.out.laid arr nil16 31)
      simp only [nil16] at hw13
      rw [← hw13]
      clear hw13 K12 R12 hb12 K11
      generalize w12.heap.size = c16 at *
      have heq := HEQ.out
      go_wp2_with (first
        | (refine wpList_val (.agg arr) (by rfl) (run_loadVar_of 31 _ rfl c16 rfl _ arr _ (K13.out.at 0 rfl) Try.underlying31 rfl hz31.out) ?_)
        | (refine wpList_val (.agg arr) (by rfl) (run_loadVar_of 31 _ rfl c7 rfl _ arr _ (K13.out.at 3 rfl) Try.underlying31 rfl hz31.out) ?_)
        | (refine wpList_val (mac gF) (by rfl) (run_loadPart_of 39 _ rfl c12 0 rfl _ fb (macA gF).toList _ (K13.out.at 1 rfl) (fun i v hv => by rw [FB.out]; exact part_dst i v hv) Try.underlying39 rfl size25) ?_)
        | (go_at_call 17; refine (show_group _).mono ?_; rintro e w14 ⟨rfl, hb14⟩
           have K14 := Lib.hid (K13.out.next hb14)))
      go_ret
      exact ⟨rfl, HG.out ▸ K14.out.below⟩
end Go.Proofs.Ytkohnleeiajiiaa
