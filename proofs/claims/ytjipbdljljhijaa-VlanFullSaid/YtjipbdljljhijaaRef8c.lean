/- The document's own Set of a VLAN: a new one. -/
import Derived.Test.YtjipbdljljhijaaRef8b
namespace Go.Proofs.Ytjipbdljljhijaa
open Go.RowKit
set_option linter.unusedSimpArgs false
set_option linter.unusedVariables false

theorem posV_spec (vid : Nat) : ∀ l : List Vl, posV vid l ≤ l.length ∧ (∀ (j : Nat) (y : Vl), j < posV vid l → l[j]? = some y → y.vid < vid) ∧ (∀ y, l[posV vid l]? = some y → ¬ y.vid < vid)
  | [] => ⟨by simp [posV], fun j y hj => by simp [posV] at hj, fun y hy => by simp at hy⟩
  | z :: l => by
    obtain ⟨h1, h2, h3⟩ := posV_spec vid l
    by_cases c : z.vid < vid
    · have e : posV vid (z :: l) = posV vid l + 1 := by simp [posV, c]
      rw [e]
      refine ⟨by simp only [List.length_cons]; omega, fun j y hj hy => ?_, fun y hy => h3 y (by simpa using hy)⟩
      cases j with
      | zero =>
        simp only [List.getElem?_cons_zero, Option.some.injEq] at hy
        subst hy
        exact c
      | succ j => exact h2 j y (by omega) (by simpa using hy)
    · have e : posV vid (z :: l) = 0 := by simp [posV, c]
      rw [e]
      refine ⟨by omega, fun j y hj => absurd hj (Nat.not_lt_zero _), fun y hy => ?_⟩
      simp only [List.getElem?_cons_zero, Option.some.injEq] at hy
      subst hy
      exact c

set_option maxRecDepth 100000 in
set_option maxHeartbeats 4000000 in
theorem rset_new (base g cap : Nat) (l : List Vl) (x : Vl) (w : World) (h : Own w base 53 3 vlC (.slice (some ⟨g, 0, none⟩) l.length cap) l) (hgd : ¬ goodV x ≠ 0) (hb : base ≤ w.heap.size) (hcap : l.length ≤ cap ∧ cap ≤ maxLen) (h16 : l.length < 16) (hat : atV x.vid l = -1) :
    Calls Try.prog 23 #[.slice (some ⟨g, 0, none⟩) l.length cap, vlV x] w (OwnRes w base (setV l x) (setVE l x)) := by
  have hl : l.length ≤ 100 := by omega
  obtain ⟨k, hk⟩ : ∃ k, posV x.vid l = k := ⟨_, rfl⟩
  have R1 := Lib.hid (show setV l x = l.take k ++ [x] ++ l.drop k by unfold setV; rw [if_neg hgd, hat, if_neg (by omega), if_neg (by omega), hk])
  have R2 := Lib.hid (show (0 : Int) = setVE l x by unfold setVE; rw [if_neg hgd, hat, if_neg (by omega), if_neg (by omega)])
  have AT := Lib.hid hat
  have PK := Lib.hid hk
  clear hat hk
  obtain ⟨n, hn⟩ : ∃ n, l.length = n := ⟨_, rfl⟩
  rw [hn] at h h16 hcap ⊢
  have HN := Lib.hid hn
  have H16 := Lib.hid h16
  have hn16 : (n : Int) < 16 := by omega
  have HCAP := Lib.hid hcap
  have hnc : (n : Int) ≤ cap := by omega
  have hcm : (cap : Int) ≤ 9223372036854775807 := by unfold maxLen at hcap; omega
  clear hn h16 hcap
  have HBW := Lib.hid hb
  clear hb
  obtain ⟨i, hi, hz, hsz, hby⟩ := info_parts vlinfo
  have HZ := Lib.hid hz
  have HS := Lib.hid hsz
  have HBY := Lib.hid hby
  have HI := Lib.hid hi
  clear hi hz hsz hby
  obtain ⟨arr, harr⟩ : ∃ arr, arr = vlA x := ⟨_, rfl⟩
  have hz53 := Lib.hid (show (Try.prog.info? 53).map (·.size) = some arr.size by rw [harr]; exact vinfo53)
  have A0 := Lib.hid (show arr[0]? = some (.int .u16 (x.vid : Nat)) by rw [harr]; rfl)
  show Calls Try.prog 23 #[.slice (some ⟨g, 0, none⟩) n cap, .agg (vlA x)] w _
  rw [← harr]
  have HA := Lib.hid harr
  clear harr
  have H := Lib.hid h
  clear h
  have K0 := Lib.hid (show Kn w [(w.heap.size, arr, 53)] (w.alloc (Obj.cells arr 53)) from (Kn.nil w).alloc arr 53)
  obtain ⟨G, hG⟩ : ∃ G, G = goodV x := ⟨_, rfl⟩
  rw [← hG] at hgd
  have HG := Lib.hid hG
  clear hG
  have G0 : G = 0 := by simpa using hgd
  subst G0
  clear hgd
  go_enter Try.func23, Try.ntmps23
  go_upto_region 4 with (first
    | (refine wpList_load_row rfl 53 _ rfl w.heap.size rfl 53 _ (0, 0) _ (K0.out.at 0 rfl) Try.underlying53 rfl hz53.out ?_)
    | (go_at_call 30; ((with_reducible refine (rgood_of HA.out _).mono ?_); rintro e w1 ⟨rfl, hb1⟩; rw [← HG.out]); have K1 := Lib.hid (K0.out.next hb1); clear hb1))
  have cx : w1.cell? ⟨w.heap.size, 0, none⟩ = some (.int .u16 (x.vid : Nat)) := by rw [(K1.out.at 0 rfl).cell 0]; exact A0.out
  have H1 := Lib.hid (H.out.next K1.out.below)
  clear H K0 HG
  go_upto_region 5 with (go_at_call 21; ((with_reducible refine (rat_any base x.vid _ l _ H1.out hl).mono ?_); rintro e w2 ⟨rfl, rfl⟩; rw [AT.out]))
  clear cx
  obtain ⟨hp1, hp2, hp3⟩ := posV_spec x.vid l
  rw [PK.out] at hp1 hp2 hp3
  rw [HN.out] at hp1
  have KN := Lib.hid hp1
  have P2 := Lib.hid hp2
  have P3 := Lib.hid hp3
  clear hp1 hp2 hp3
  obtain rfl : arr = vlA x := HA.out
  clear HA A0
  generalize hbx : w.heap.size = bx at *
  have HBX := Lib.hid hbx
  clear hbx
  go_upto_region 12 with fail
  go_loopw [9] (fun i wr => ∃ j : Nat, i = .int .i64 j ∧ j ≤ k ∧ Kn w [(bx, vlA x, 53)] wr ∧ Own wr base 53 3 vlC (.slice (some ⟨g, 0, none⟩) n cap) l) (fun i _ => n - (intOf i).toNat)
  case atStart => exact ⟨0, rfl, Nat.zero_le _, K1.out, H1.out⟩
  case round =>
    obtain ⟨j, rfl, hj, hk1, ho1⟩ := hrel
    clear K1 H1
    have cx := (hk1.at 0 rfl).cell 0
    simp only [vlA, List.getElem?_toArray, List.getElem?_cons_zero] at cx
    have K2 := Lib.hid hk1
    have H2 := Lib.hid ho1
    clear hk1 ho1
    by_cases hlt : j < k
    · have hjn : j < n := by have := KN.out; omega
      obtain ⟨y, hy⟩ : ∃ y, l[j]? = some y := ⟨_, List.getElem?_eq_getElem (show j < l.length by rw [HN.out]; exact hjn)⟩
      have hyv := P2.out j y hlt hy
      have hc := Own.at vlC_len (by rw [HN.out]; exact H2.out) j 0 y hy (by omega)
      simp only [vlC, List.getElem?_cons_zero, Nat.add_zero] at hc
      have e1 : decide (j < n) = true := by simpa using hjn
      have e2 : decide (y.vid < x.vid) = true := by simpa using hyv
      have hjn' : (j : Int) < n := by omega
      clear hy hyv
      go_wp2_with fail
      go_quiet (fail)
      go_wp2_with fail
      go_roundw
      case rel => exact ⟨j + 1, by go_num, by omega, ⟨fun x hx => K2.out.all x hx, below_drewN K2.out.below nq⟩, H2.out⟩
      case measure => simp [intOf]; omega
    · obtain rfl : k = j := by omega
      by_cases hjn : k < n
      · obtain ⟨y, hy⟩ : ∃ y, l[k]? = some y := ⟨_, List.getElem?_eq_getElem (show k < l.length by rw [HN.out]; exact hjn)⟩
        have hyv := P3.out y hy
        have hc := Own.at vlC_len (by rw [HN.out]; exact H2.out) k 0 y hy (by omega)
        simp only [vlC, List.getElem?_cons_zero, Nat.add_zero] at hc
        have e1 : decide (k < n) = true := by simpa using hjn
        have e2 : decide (y.vid < x.vid) = false := by simpa using hyv
        have hjn' : (k : Int) < n := by omega
        clear hy hyv hlt hj hjn
        go_wp2_with fail
        go_quiet (fail)
        clear hc cx e1 e2 hjn'
        go_upto_region 14 with fail
        refine wp_region_held_drew (S := fun w' => Blk w' bx (vlA x) 53) (by kernel_rfl) (K2.out.at 0 rfl) (fun hHeld => ?_)
        have X3 := Lib.hid hHeld
        clear hHeld
        have H3 := Lib.hid (show Own (wr.drewN nq).drew base 53 3 vlC (.slice (some ⟨g, 0, none⟩) l.length cap) l by rw [HN.out]; exact H2.out)
        have BW := Lib.hid (show Below w.heap.size w (wr.drewN nq).drew from (below_drewN K2.out.below nq).drew)
        clear H2 K2
        generalize (wr.drewN nq).drew = w3 at *
        have ZG := Lib.hid (H3.out.lt g rfl).2
        have KC := Lib.hid (show k ≤ cap by have := KN.out; have := HCAP.out; omega)
        have K1 := Lib.hid (show (0 : Int) ≤ (k : Int) by omega)
        have K4 := Lib.hid (show (k : Int) ≤ n by have := KN.out; omega)
        have K5 := Lib.hid (show ((k : Int)).toNat = k by omega)
        have ZX := Lib.hid X3.out.lt
        have ZW := Lib.hid BW.out.size
        obtain ⟨Z, hZ⟩ : ∃ Z, Z = w3.heap.size := ⟨_, rfl⟩
        have HBASE := Lib.hid (show base ≤ Z by rw [hZ]; exact Nat.le_trans HBW.out (by rw [← HBX.out]; exact ZW.out))
        rw [← hZ] at ZX ZW ZG
        have ZE := Lib.hid hZ.symm
        have B3 := Lib.hid (Below.refl Z w3)
        clear hZ
        (refine wpAnyH_take (i := 1) (v := ?_) rfl (by kernel_rfl) (by kernel_rfl) (by kernel_rfl) (fun _ _ _ h => h) (Or.inl ⟨by rfl, ?_⟩) X3.out ?_; rotate_left; (· (intro w hSw; go_simp; try with_reducible rfl)); (try simp only [Act.put, List.getElem_toArray, List.getElem_cons_succ, List.getElem_cons_zero, List.setIfInBounds_toArray, List.set_cons_zero, List.set_cons_succ]))
        (refine wpAnyH_take (i := 2) (v := ?_) rfl (by kernel_rfl) (by kernel_rfl) (by kernel_rfl) (fun _ _ _ h => h) (Or.inl ⟨by rfl, ?_⟩) X3.out ?_; rotate_left; (· (intro w hSw; go_simp; try with_reducible rfl)); (try simp only [Act.put, List.getElem_toArray, List.getElem_cons_succ, List.getElem_cons_zero, List.setIfInBounds_toArray, List.set_cons_zero, List.set_cons_succ]))
        (refine wpAnyH_take (i := 3) (v := ?_) rfl (by kernel_rfl) (by kernel_rfl) (by kernel_rfl) (fun _ _ _ h => h) (Or.inl ⟨by rfl, ?_⟩) X3.out ?_; rotate_left; (· (intro w hSw; have e := KC.out; go_simp; try with_reducible rfl)); (try simp only [Act.put, List.getElem_toArray, List.getElem_cons_succ, List.getElem_cons_zero, List.setIfInBounds_toArray, List.set_cons_zero, List.set_cons_succ]))
        (refine wpAnyH_take (i := 5) (v := ?_) rfl (by kernel_rfl) (by kernel_rfl) (by kernel_rfl) (fun _ _ _ h => h) (Or.inl ⟨by rfl, ?_⟩) X3.out ?_; rotate_left; (· (intro w hSw; have c0 := hSw.cell 0; have c1 := hSw.cell 1; have c2 := hSw.cell 2; simp only [vlA, List.getElem?_toArray, List.getElem?_cons_zero, List.getElem?_cons_succ] at c0 c1 c2; go_simp; try with_reducible rfl)); (try simp only [Act.put, List.getElem_toArray, List.getElem_cons_succ, List.getElem_cons_zero, List.setIfInBounds_toArray, List.set_cons_zero, List.set_cons_succ]))
        (refine wpAnyH_take (i := 8) (v := ?_) rfl (by kernel_rfl) (by kernel_rfl) (by kernel_rfl) (fun _ _ _ h => h) (Or.inl ⟨by rfl, ?_⟩) X3.out ?_; rotate_left; (· (intro w hSw; go_simp; try with_reducible rfl)); (try simp only [Act.put, List.getElem_toArray, List.getElem_cons_succ, List.getElem_cons_zero, List.setIfInBounds_toArray, List.set_cons_zero, List.set_cons_succ]))
        (refine wpAnyH_take (i := 9) (v := ?_) rfl (by kernel_rfl) (by kernel_rfl) (by kernel_rfl) (fun _ _ _ h => h) (Or.inl ⟨by rfl, ?_⟩) X3.out ?_; rotate_left; (· (intro w hSw; go_simp; try with_reducible rfl)); (try simp only [Act.put, List.getElem_toArray, List.getElem_cons_succ, List.getElem_cons_zero, List.setIfInBounds_toArray, List.set_cons_zero, List.set_cons_succ]))
        (refine wpAnyH_take (i := 10) (v := ?_) rfl (by kernel_rfl) (by kernel_rfl) (by kernel_rfl) (fun _ _ _ h => h) (Or.inl ⟨by rfl, ?_⟩) X3.out ?_; rotate_left; (· (intro w hSw; have e1 := K1.out; have e2 := K4.out; have e3 := K5.out; go_simp; try with_reducible rfl)); (try simp only [Act.put, List.getElem_toArray, List.getElem_cons_succ, List.getElem_cons_zero, List.setIfInBounds_toArray, List.set_cons_zero, List.set_cons_succ]))
        refine wpAnyH_ready (rs := [0, 6]) (by kernel_rfl) (by simp) ?_
        refine AllReadyH.cons rfl (fun K hK => ?_) (AllReadyH.cons rfl (fun K hK => ?_) AllReadyH.nil)
        · go_simp
          have HS4 := Lib.hid (show Blk (w3.alloc (Obj.cells #[] 53)) bx (vlA x) 53 from X3.out.alloc _)
          refine hK.out _ _ HS4.out (fun hHeld => ?_)
          clear hK K hHeld HS4
          (try simp only [Act.put, List.getElem_toArray, List.getElem_cons_succ, List.getElem_cons_zero, List.setIfInBounds_toArray, List.set_cons_zero, List.set_cons_succ])
          have X4 := Lib.hid (X3.out.alloc (Obj.cells #[] 53))
          have H4 := Lib.hid (H3.out.alloc (Obj.cells #[] 53))
          have B4 := Lib.hid (B3.out.alloc (Nat.le_trans (Nat.le_of_eq ZE.out.symm) B3.out.size) (Obj.cells #[] 53))
          have L4 := Lib.hid (show Own (w3.alloc (Obj.cells #[] 53)) Z 53 3 vlC (.slice (some ⟨w3.heap.size, 0, none⟩) 0 0) [] from Own.made w3 (Nat.le_trans (Nat.le_of_eq ZE.out.symm) B3.out.size) vlC)
          generalize ha4 : w3.alloc (Obj.cells #[] 53) = w4 at *
          clear ha4
          generalize Value.slice (some ⟨w3.heap.size, 0, none⟩) 0 0 = v4 at *
          refine wpAnyH_ready (rs := [4, 6]) (by kernel_rfl) (by simp) ?_
          refine AllReadyH.cons rfl (fun K hK => ?_) (AllReadyH.cons rfl (fun K hK => ?_) AllReadyH.nil)
          · obtain ⟨v5, w5, hrun, ol, hg, hv⟩ := L4.out.app (P := Try.prog) (t := 39) (ty := 39) (H4.out.head (k := k) (c := cap) vlC_len (by have := KN.out; have := HN.out; omega)) Try.underlying39 HI.out HZ.out HS.out HBY.out rfl (by omega) vlC_len vlC_one
              (by unfold maxLen; simp; have := HN.out; have := KN.out; omega) (by simp; have := HN.out; have := KN.out; omega) (Nat.le_trans (Nat.le_of_eq ZE.out.symm) B4.out.size)
            rw [if_pos (by rfl)]
            refine wp_append_lst _ _ 39 rfl v5 w5 hrun ?_
            have hb := grown_below hg (fun i hi => (L4.out.lt i hi).1) (Nat.le_trans (Nat.le_of_eq ZE.out.symm) B4.out.size)
            have X5 := Lib.hid (X4.out.below hb ZX.out)
            refine hK.out _ _ X5.out (fun hHeld => ?_)
            clear hK K hHeld hrun
            (try simp only [Act.put, List.getElem_toArray, List.getElem_cons_succ, List.getElem_cons_zero, List.setIfInBounds_toArray, List.set_cons_zero, List.set_cons_succ])
            have H5 := Lib.hid (H4.out.below hb (fun i hi => by have := ZG.out; simp [Value.ownBlock] at hi; omega))
            have B5 := Lib.hid (B4.out.trans hb)
            have L5 := Lib.hid ol
            clear hb hg hv ol
            refine wpAnyH_ready (rs := [6]) (by kernel_rfl) (by simp) ?_
            refine AllReadyH.cons rfl (fun K hK => ?_) AllReadyH.nil
            go_simp
            have HS6 := Lib.hid (show Blk (w5.alloc (Obj.cells #[.int .u16 (x.vid : Nat), .int .u32 (x.mem : Nat), .int .u32 (x.unt : Nat)] 53)) bx (vlA x) 53 from X5.out.alloc _)
            refine hK.out _ _ HS6.out (fun hHeld => ?_)
            clear hK K hHeld HS6
            (try simp only [Act.put, List.getElem_toArray, List.getElem_cons_succ, List.getElem_cons_zero, List.setIfInBounds_toArray, List.set_cons_zero, List.set_cons_succ])
            have X6 := Lib.hid (X5.out.alloc (Obj.cells #[.int .u16 (x.vid : Nat), .int .u32 (x.mem : Nat), .int .u32 (x.unt : Nat)] 53))
            have H6 := Lib.hid (H5.out.alloc (Obj.cells #[.int .u16 (x.vid : Nat), .int .u32 (x.mem : Nat), .int .u32 (x.unt : Nat)] 53))
            have B6 := Lib.hid (B5.out.alloc (Nat.le_trans (Nat.le_of_eq ZE.out.symm) B5.out.size) (Obj.cells #[.int .u16 (x.vid : Nat), .int .u32 (x.mem : Nat), .int .u32 (x.unt : Nat)] 53))
            have M6 := Lib.hid (show Own (w5.alloc (Obj.cells #[.int .u16 (x.vid : Nat), .int .u32 (x.mem : Nat), .int .u32 (x.unt : Nat)] 53)) Z 53 3 vlC (.slice (some ⟨w5.heap.size, 0, none⟩) 1 1) [x] from Own.lit w5 (Nat.le_trans (Nat.le_of_eq ZE.out.symm) B5.out.size) vlC_len [x] (by unfold maxLen; simp))
            have L6 := Lib.hid (L5.out.alloc (Obj.cells #[.int .u16 (x.vid : Nat), .int .u32 (x.mem : Nat), .int .u32 (x.unt : Nat)] 53))
            have N6 := Lib.hid (show v5.ownBlock ≠ some w5.heap.size from fun q => by have := (L5.out.lt _ q).2; omega)
            generalize ha6 : w5.alloc (Obj.cells #[.int .u16 (x.vid : Nat), .int .u32 (x.mem : Nat), .int .u32 (x.unt : Nat)] 53) = w6 at *
            clear ha6
            generalize w5.heap.size = gm at M6 N6 ⊢
            obtain ⟨v6, hv6⟩ : ∃ u, u = v5 := ⟨_, rfl⟩
            rw [← hv6] at L6 N6 ⊢
            clear hv6
            refine wpAnyH_ready (rs := [7]) (by kernel_rfl) (by simp) ?_
            refine AllReadyH.cons rfl (fun K hK => ?_) AllReadyH.nil
            obtain ⟨v7, w7, hrun, ol, hg, hv⟩ := L6.out.app (P := Try.prog) (t := 39) (ty := 39) M6.out.src Try.underlying39 HI.out HZ.out HS.out HBY.out rfl (by omega) vlC_len vlC_one
              (by unfold maxLen; simp; have := HN.out; have := KN.out; omega) (by simp; have := HN.out; have := KN.out; omega) (Nat.le_trans (Nat.le_of_eq ZE.out.symm) B6.out.size)
            rw [if_pos (by rfl)]
            refine wp_append_lst _ _ 39 rfl v7 w7 hrun ?_
            have hb := grown_below hg (fun i hi => (L6.out.lt i hi).1) (Nat.le_trans (Nat.le_of_eq ZE.out.symm) B6.out.size)
            have X7 := Lib.hid (X6.out.below hb ZX.out)
            refine hK.out _ _ X7.out (fun hHeld => ?_)
            clear hK K hHeld hrun
            (try simp only [Act.put, List.getElem_toArray, List.getElem_cons_succ, List.getElem_cons_zero, List.setIfInBounds_toArray, List.set_cons_zero, List.set_cons_succ])
            have H7 := Lib.hid (H6.out.below hb (fun i hi => by have := ZG.out; simp [Value.ownBlock] at hi; omega))
            have B7 := Lib.hid (B6.out.trans hb)
            have L7 := Lib.hid ol
            have M7 := Lib.hid (M6.out.kept hg (.inr (fun q => N6.out q.symm)))
            have N7 := Lib.hid (show v7.ownBlock ≠ some gm from fun q => by
              rcases hv with c | c
              · exact N6.out (c ▸ q)
              · have := (M6.out.lt gm rfl).2
                rw [c] at q
                injection q with q
                omega)
            clear hb hg hv ol
            refine wpAnyH_ready (rs := [11]) (by kernel_rfl) (by simp) ?_
            refine AllReadyH.cons rfl (fun K hK => ?_) AllReadyH.nil
            obtain ⟨v8, w8, hrun, ol, hg, hv⟩ := L7.out.app (P := Try.prog) (t := 39) (ty := 39) (H7.out.tail (k := k) (c := cap - k) vlC_len (by have := KN.out; have := HN.out; omega) (by have := HCAP.out; have := HN.out; omega)) Try.underlying39 HI.out HZ.out HS.out HBY.out rfl (by omega) vlC_len vlC_one
              (by unfold maxLen; simp; have := HN.out; have := KN.out; omega) (by simp; have := HN.out; have := KN.out; omega) (Nat.le_trans (Nat.le_of_eq ZE.out.symm) B7.out.size)
            rw [HN.out] at hrun
            rw [if_pos (by rfl)]
            refine wp_append_lst _ _ 39 rfl v8 w8 hrun ?_
            have hb := grown_below hg (fun i hi => (L7.out.lt i hi).1) (Nat.le_trans (Nat.le_of_eq ZE.out.symm) B7.out.size)
            have X8 := Lib.hid (X7.out.below hb ZX.out)
            refine hK.out _ _ X8.out (fun hHeld => ?_)
            clear hK K hHeld hrun
            (try simp only [Act.put, List.getElem_toArray, List.getElem_cons_succ, List.getElem_cons_zero, List.setIfInBounds_toArray, List.set_cons_zero, List.set_cons_succ])
            have H8 := Lib.hid (H7.out.below hb (fun i hi => by have := ZG.out; simp [Value.ownBlock] at hi; omega))
            have B8 := Lib.hid (B7.out.trans hb)
            have L8 := Lib.hid ol
            clear hb hg hv ol
            (refine wpAnyH_take (i := 12) (v := ?_) rfl (by kernel_rfl) (by kernel_rfl) (by kernel_rfl) (fun _ _ _ h => h) (Or.inl ⟨by rfl, ?_⟩) X8.out ?_; rotate_left; (· (intro w hSw; go_simp; try with_reducible rfl)); (try simp only [Act.put, List.getElem_toArray, List.getElem_cons_succ, List.getElem_cons_zero, List.setIfInBounds_toArray, List.set_cons_zero, List.set_cons_succ]))
            (refine wpAnyH_take (i := 13) (v := ?_) rfl (by kernel_rfl) (by kernel_rfl) (by kernel_rfl) (fun _ _ _ h => h) (Or.inl ⟨by rfl, ?_⟩) X8.out ?_; rotate_left; (· (intro w hSw; go_simp; try with_reducible rfl)); (try simp only [Act.put, List.getElem_toArray, List.getElem_cons_succ, List.getElem_cons_zero, List.setIfInBounds_toArray, List.set_cons_zero, List.set_cons_succ]))
            refine wpAnyH_done (by kernel_rfl) ?_ _
            generalize (if cap = k then _ else _ : Option Addr) = az
            go_wp2_with fail
            go_ret2
            exact ⟨_, ret_own R2.out, by rw [R1.out]; have := L8.out.mono HBASE.out; simpa using this, BW.out.trans (B8.out.mono ZW.out)⟩
          · go_simp
            have HS5 := Lib.hid (show Blk (w4.alloc (Obj.cells #[.int .u16 (x.vid : Nat), .int .u32 (x.mem : Nat), .int .u32 (x.unt : Nat)] 53)) bx (vlA x) 53 from X4.out.alloc _)
            refine hK.out _ _ HS5.out (fun hHeld => ?_)
            clear hK K hHeld HS5
            (try simp only [Act.put, List.getElem_toArray, List.getElem_cons_succ, List.getElem_cons_zero, List.setIfInBounds_toArray, List.set_cons_zero, List.set_cons_succ])
            have X5 := Lib.hid (X4.out.alloc (Obj.cells #[.int .u16 (x.vid : Nat), .int .u32 (x.mem : Nat), .int .u32 (x.unt : Nat)] 53))
            have H5 := Lib.hid (H4.out.alloc (Obj.cells #[.int .u16 (x.vid : Nat), .int .u32 (x.mem : Nat), .int .u32 (x.unt : Nat)] 53))
            have B5 := Lib.hid (B4.out.alloc (Nat.le_trans (Nat.le_of_eq ZE.out.symm) B4.out.size) (Obj.cells #[.int .u16 (x.vid : Nat), .int .u32 (x.mem : Nat), .int .u32 (x.unt : Nat)] 53))
            have M5 := Lib.hid (show Own (w4.alloc (Obj.cells #[.int .u16 (x.vid : Nat), .int .u32 (x.mem : Nat), .int .u32 (x.unt : Nat)] 53)) Z 53 3 vlC (.slice (some ⟨w4.heap.size, 0, none⟩) 1 1) [x] from Own.lit w4 (Nat.le_trans (Nat.le_of_eq ZE.out.symm) B4.out.size) vlC_len [x] (by unfold maxLen; simp))
            have L5 := Lib.hid (L4.out.alloc (Obj.cells #[.int .u16 (x.vid : Nat), .int .u32 (x.mem : Nat), .int .u32 (x.unt : Nat)] 53))
            have N5 := Lib.hid (show v4.ownBlock ≠ some w4.heap.size from fun q => by have := (L4.out.lt _ q).2; omega)
            generalize ha5 : w4.alloc (Obj.cells #[.int .u16 (x.vid : Nat), .int .u32 (x.mem : Nat), .int .u32 (x.unt : Nat)] 53) = w5 at *
            clear ha5
            generalize w4.heap.size = gm at M5 N5 ⊢
            obtain ⟨v5, hv5⟩ : ∃ u, u = v4 := ⟨_, rfl⟩
            rw [← hv5] at L5 N5 ⊢
            clear hv5
            refine wpAnyH_ready (rs := [4]) (by kernel_rfl) (by simp) ?_
            refine AllReadyH.cons rfl (fun K hK => ?_) AllReadyH.nil
            obtain ⟨v6, w6, hrun, ol, hg, hv⟩ := L5.out.app (P := Try.prog) (t := 39) (ty := 39) (H5.out.head (k := k) (c := cap) vlC_len (by have := KN.out; have := HN.out; omega)) Try.underlying39 HI.out HZ.out HS.out HBY.out rfl (by omega) vlC_len vlC_one
              (by unfold maxLen; simp; have := HN.out; have := KN.out; omega) (by simp; have := HN.out; have := KN.out; omega) (Nat.le_trans (Nat.le_of_eq ZE.out.symm) B5.out.size)
            rw [if_pos (by rfl)]
            refine wp_append_lst _ _ 39 rfl v6 w6 hrun ?_
            have hb := grown_below hg (fun i hi => (L5.out.lt i hi).1) (Nat.le_trans (Nat.le_of_eq ZE.out.symm) B5.out.size)
            have X6 := Lib.hid (X5.out.below hb ZX.out)
            refine hK.out _ _ X6.out (fun hHeld => ?_)
            clear hK K hHeld hrun
            (try simp only [Act.put, List.getElem_toArray, List.getElem_cons_succ, List.getElem_cons_zero, List.setIfInBounds_toArray, List.set_cons_zero, List.set_cons_succ])
            have H6 := Lib.hid (H5.out.below hb (fun i hi => by have := ZG.out; simp [Value.ownBlock] at hi; omega))
            have B6 := Lib.hid (B5.out.trans hb)
            have L6 := Lib.hid ol
            have M6 := Lib.hid (M5.out.kept hg (.inr (fun q => N5.out q.symm)))
            have N6 := Lib.hid (show v6.ownBlock ≠ some gm from fun q => by
              rcases hv with c | c
              · exact N5.out (c ▸ q)
              · have := (M5.out.lt gm rfl).2
                rw [c] at q
                injection q with q
                omega)
            clear hb hg hv ol
            refine wpAnyH_ready (rs := [7]) (by kernel_rfl) (by simp) ?_
            refine AllReadyH.cons rfl (fun K hK => ?_) AllReadyH.nil
            obtain ⟨v7, w7, hrun, ol, hg, hv⟩ := L6.out.app (P := Try.prog) (t := 39) (ty := 39) M6.out.src Try.underlying39 HI.out HZ.out HS.out HBY.out rfl (by omega) vlC_len vlC_one
              (by unfold maxLen; simp; have := HN.out; have := KN.out; omega) (by simp; have := HN.out; have := KN.out; omega) (Nat.le_trans (Nat.le_of_eq ZE.out.symm) B6.out.size)
            rw [if_pos (by rfl)]
            refine wp_append_lst _ _ 39 rfl v7 w7 hrun ?_
            have hb := grown_below hg (fun i hi => (L6.out.lt i hi).1) (Nat.le_trans (Nat.le_of_eq ZE.out.symm) B6.out.size)
            have X7 := Lib.hid (X6.out.below hb ZX.out)
            refine hK.out _ _ X7.out (fun hHeld => ?_)
            clear hK K hHeld hrun
            (try simp only [Act.put, List.getElem_toArray, List.getElem_cons_succ, List.getElem_cons_zero, List.setIfInBounds_toArray, List.set_cons_zero, List.set_cons_succ])
            have H7 := Lib.hid (H6.out.below hb (fun i hi => by have := ZG.out; simp [Value.ownBlock] at hi; omega))
            have B7 := Lib.hid (B6.out.trans hb)
            have L7 := Lib.hid ol
            have M7 := Lib.hid (M6.out.kept hg (.inr (fun q => N6.out q.symm)))
            have N7 := Lib.hid (show v7.ownBlock ≠ some gm from fun q => by
              rcases hv with c | c
              · exact N6.out (c ▸ q)
              · have := (M6.out.lt gm rfl).2
                rw [c] at q
                injection q with q
                omega)
            clear hb hg hv ol
            refine wpAnyH_ready (rs := [11]) (by kernel_rfl) (by simp) ?_
            refine AllReadyH.cons rfl (fun K hK => ?_) AllReadyH.nil
            obtain ⟨v8, w8, hrun, ol, hg, hv⟩ := L7.out.app (P := Try.prog) (t := 39) (ty := 39) (H7.out.tail (k := k) (c := cap - k) vlC_len (by have := KN.out; have := HN.out; omega) (by have := HCAP.out; have := HN.out; omega)) Try.underlying39 HI.out HZ.out HS.out HBY.out rfl (by omega) vlC_len vlC_one
              (by unfold maxLen; simp; have := HN.out; have := KN.out; omega) (by simp; have := HN.out; have := KN.out; omega) (Nat.le_trans (Nat.le_of_eq ZE.out.symm) B7.out.size)
            rw [HN.out] at hrun
            rw [if_pos (by rfl)]
            refine wp_append_lst _ _ 39 rfl v8 w8 hrun ?_
            have hb := grown_below hg (fun i hi => (L7.out.lt i hi).1) (Nat.le_trans (Nat.le_of_eq ZE.out.symm) B7.out.size)
            have X8 := Lib.hid (X7.out.below hb ZX.out)
            refine hK.out _ _ X8.out (fun hHeld => ?_)
            clear hK K hHeld hrun
            (try simp only [Act.put, List.getElem_toArray, List.getElem_cons_succ, List.getElem_cons_zero, List.setIfInBounds_toArray, List.set_cons_zero, List.set_cons_succ])
            have H8 := Lib.hid (H7.out.below hb (fun i hi => by have := ZG.out; simp [Value.ownBlock] at hi; omega))
            have B8 := Lib.hid (B7.out.trans hb)
            have L8 := Lib.hid ol
            clear hb hg hv ol
            (refine wpAnyH_take (i := 12) (v := ?_) rfl (by kernel_rfl) (by kernel_rfl) (by kernel_rfl) (fun _ _ _ h => h) (Or.inl ⟨by rfl, ?_⟩) X8.out ?_; rotate_left; (· (intro w hSw; go_simp; try with_reducible rfl)); (try simp only [Act.put, List.getElem_toArray, List.getElem_cons_succ, List.getElem_cons_zero, List.setIfInBounds_toArray, List.set_cons_zero, List.set_cons_succ]))
            (refine wpAnyH_take (i := 13) (v := ?_) rfl (by kernel_rfl) (by kernel_rfl) (by kernel_rfl) (fun _ _ _ h => h) (Or.inl ⟨by rfl, ?_⟩) X8.out ?_; rotate_left; (· (intro w hSw; go_simp; try with_reducible rfl)); (try simp only [Act.put, List.getElem_toArray, List.getElem_cons_succ, List.getElem_cons_zero, List.setIfInBounds_toArray, List.set_cons_zero, List.set_cons_succ]))
            refine wpAnyH_done (by kernel_rfl) ?_ _
            generalize (if cap = k then _ else _ : Option Addr) = az
            go_wp2_with fail
            go_ret2
            exact ⟨_, ret_own R2.out, by rw [R1.out]; have := L8.out.mono HBASE.out; simpa using this, BW.out.trans (B8.out.mono ZW.out)⟩
        · go_simp
          have HS4 := Lib.hid (show Blk (w3.alloc (Obj.cells #[.int .u16 (x.vid : Nat), .int .u32 (x.mem : Nat), .int .u32 (x.unt : Nat)] 53)) bx (vlA x) 53 from X3.out.alloc _)
          refine hK.out _ _ HS4.out (fun hHeld => ?_)
          clear hK K hHeld HS4
          (try simp only [Act.put, List.getElem_toArray, List.getElem_cons_succ, List.getElem_cons_zero, List.setIfInBounds_toArray, List.set_cons_zero, List.set_cons_succ])
          have X4 := Lib.hid (X3.out.alloc (Obj.cells #[.int .u16 (x.vid : Nat), .int .u32 (x.mem : Nat), .int .u32 (x.unt : Nat)] 53))
          have H4 := Lib.hid (H3.out.alloc (Obj.cells #[.int .u16 (x.vid : Nat), .int .u32 (x.mem : Nat), .int .u32 (x.unt : Nat)] 53))
          have B4 := Lib.hid (B3.out.alloc (Nat.le_trans (Nat.le_of_eq ZE.out.symm) B3.out.size) (Obj.cells #[.int .u16 (x.vid : Nat), .int .u32 (x.mem : Nat), .int .u32 (x.unt : Nat)] 53))
          have M4 := Lib.hid (show Own (w3.alloc (Obj.cells #[.int .u16 (x.vid : Nat), .int .u32 (x.mem : Nat), .int .u32 (x.unt : Nat)] 53)) Z 53 3 vlC (.slice (some ⟨w3.heap.size, 0, none⟩) 1 1) [x] from Own.lit w3 (Nat.le_trans (Nat.le_of_eq ZE.out.symm) B3.out.size) vlC_len [x] (by unfold maxLen; simp))
          generalize ha4 : w3.alloc (Obj.cells #[.int .u16 (x.vid : Nat), .int .u32 (x.mem : Nat), .int .u32 (x.unt : Nat)] 53) = w4 at *
          clear ha4
          generalize w3.heap.size = gm at M4 ⊢
          refine wpAnyH_ready (rs := [0]) (by kernel_rfl) (by simp) ?_
          refine AllReadyH.cons rfl (fun K hK => ?_) AllReadyH.nil
          go_simp
          have HS5 := Lib.hid (show Blk (w4.alloc (Obj.cells #[] 53)) bx (vlA x) 53 from X4.out.alloc _)
          refine hK.out _ _ HS5.out (fun hHeld => ?_)
          clear hK K hHeld HS5
          (try simp only [Act.put, List.getElem_toArray, List.getElem_cons_succ, List.getElem_cons_zero, List.setIfInBounds_toArray, List.set_cons_zero, List.set_cons_succ])
          have X5 := Lib.hid (X4.out.alloc (Obj.cells #[] 53))
          have H5 := Lib.hid (H4.out.alloc (Obj.cells #[] 53))
          have B5 := Lib.hid (B4.out.alloc (Nat.le_trans (Nat.le_of_eq ZE.out.symm) B4.out.size) (Obj.cells #[] 53))
          have L5 := Lib.hid (show Own (w4.alloc (Obj.cells #[] 53)) Z 53 3 vlC (.slice (some ⟨w4.heap.size, 0, none⟩) 0 0) [] from Own.made w4 (Nat.le_trans (Nat.le_of_eq ZE.out.symm) B4.out.size) vlC)
          have M5 := Lib.hid (M4.out.alloc (Obj.cells #[] 53))
          have N5 := Lib.hid (show (Value.slice (some ⟨w4.heap.size, 0, none⟩) 0 0).ownBlock ≠ some gm from fun q => by have := (M4.out.lt gm rfl).2; simp [Value.ownBlock] at q; omega)
          generalize ha5 : w4.alloc (Obj.cells #[] 53) = w5 at *
          clear ha5
          generalize Value.slice (some ⟨w4.heap.size, 0, none⟩) 0 0 = v5 at *
          refine wpAnyH_ready (rs := [4]) (by kernel_rfl) (by simp) ?_
          refine AllReadyH.cons rfl (fun K hK => ?_) AllReadyH.nil
          obtain ⟨v6, w6, hrun, ol, hg, hv⟩ := L5.out.app (P := Try.prog) (t := 39) (ty := 39) (H5.out.head (k := k) (c := cap) vlC_len (by have := KN.out; have := HN.out; omega)) Try.underlying39 HI.out HZ.out HS.out HBY.out rfl (by omega) vlC_len vlC_one
            (by unfold maxLen; simp; have := HN.out; have := KN.out; omega) (by simp; have := HN.out; have := KN.out; omega) (Nat.le_trans (Nat.le_of_eq ZE.out.symm) B5.out.size)
          rw [if_pos (by rfl)]
          refine wp_append_lst _ _ 39 rfl v6 w6 hrun ?_
          have hb := grown_below hg (fun i hi => (L5.out.lt i hi).1) (Nat.le_trans (Nat.le_of_eq ZE.out.symm) B5.out.size)
          have X6 := Lib.hid (X5.out.below hb ZX.out)
          refine hK.out _ _ X6.out (fun hHeld => ?_)
          clear hK K hHeld hrun
          (try simp only [Act.put, List.getElem_toArray, List.getElem_cons_succ, List.getElem_cons_zero, List.setIfInBounds_toArray, List.set_cons_zero, List.set_cons_succ])
          have H6 := Lib.hid (H5.out.below hb (fun i hi => by have := ZG.out; simp [Value.ownBlock] at hi; omega))
          have B6 := Lib.hid (B5.out.trans hb)
          have L6 := Lib.hid ol
          have M6 := Lib.hid (M5.out.kept hg (.inr (fun q => N5.out q.symm)))
          have N6 := Lib.hid (show v6.ownBlock ≠ some gm from fun q => by
            rcases hv with c | c
            · exact N5.out (c ▸ q)
            · have := (M5.out.lt gm rfl).2
              rw [c] at q
              injection q with q
              omega)
          clear hb hg hv ol
          refine wpAnyH_ready (rs := [7]) (by kernel_rfl) (by simp) ?_
          refine AllReadyH.cons rfl (fun K hK => ?_) AllReadyH.nil
          obtain ⟨v7, w7, hrun, ol, hg, hv⟩ := L6.out.app (P := Try.prog) (t := 39) (ty := 39) M6.out.src Try.underlying39 HI.out HZ.out HS.out HBY.out rfl (by omega) vlC_len vlC_one
            (by unfold maxLen; simp; have := HN.out; have := KN.out; omega) (by simp; have := HN.out; have := KN.out; omega) (Nat.le_trans (Nat.le_of_eq ZE.out.symm) B6.out.size)
          rw [if_pos (by rfl)]
          refine wp_append_lst _ _ 39 rfl v7 w7 hrun ?_
          have hb := grown_below hg (fun i hi => (L6.out.lt i hi).1) (Nat.le_trans (Nat.le_of_eq ZE.out.symm) B6.out.size)
          have X7 := Lib.hid (X6.out.below hb ZX.out)
          refine hK.out _ _ X7.out (fun hHeld => ?_)
          clear hK K hHeld hrun
          (try simp only [Act.put, List.getElem_toArray, List.getElem_cons_succ, List.getElem_cons_zero, List.setIfInBounds_toArray, List.set_cons_zero, List.set_cons_succ])
          have H7 := Lib.hid (H6.out.below hb (fun i hi => by have := ZG.out; simp [Value.ownBlock] at hi; omega))
          have B7 := Lib.hid (B6.out.trans hb)
          have L7 := Lib.hid ol
          have M7 := Lib.hid (M6.out.kept hg (.inr (fun q => N6.out q.symm)))
          have N7 := Lib.hid (show v7.ownBlock ≠ some gm from fun q => by
            rcases hv with c | c
            · exact N6.out (c ▸ q)
            · have := (M6.out.lt gm rfl).2
              rw [c] at q
              injection q with q
              omega)
          clear hb hg hv ol
          refine wpAnyH_ready (rs := [11]) (by kernel_rfl) (by simp) ?_
          refine AllReadyH.cons rfl (fun K hK => ?_) AllReadyH.nil
          obtain ⟨v8, w8, hrun, ol, hg, hv⟩ := L7.out.app (P := Try.prog) (t := 39) (ty := 39) (H7.out.tail (k := k) (c := cap - k) vlC_len (by have := KN.out; have := HN.out; omega) (by have := HCAP.out; have := HN.out; omega)) Try.underlying39 HI.out HZ.out HS.out HBY.out rfl (by omega) vlC_len vlC_one
            (by unfold maxLen; simp; have := HN.out; have := KN.out; omega) (by simp; have := HN.out; have := KN.out; omega) (Nat.le_trans (Nat.le_of_eq ZE.out.symm) B7.out.size)
          rw [HN.out] at hrun
          rw [if_pos (by rfl)]
          refine wp_append_lst _ _ 39 rfl v8 w8 hrun ?_
          have hb := grown_below hg (fun i hi => (L7.out.lt i hi).1) (Nat.le_trans (Nat.le_of_eq ZE.out.symm) B7.out.size)
          have X8 := Lib.hid (X7.out.below hb ZX.out)
          refine hK.out _ _ X8.out (fun hHeld => ?_)
          clear hK K hHeld hrun
          (try simp only [Act.put, List.getElem_toArray, List.getElem_cons_succ, List.getElem_cons_zero, List.setIfInBounds_toArray, List.set_cons_zero, List.set_cons_succ])
          have H8 := Lib.hid (H7.out.below hb (fun i hi => by have := ZG.out; simp [Value.ownBlock] at hi; omega))
          have B8 := Lib.hid (B7.out.trans hb)
          have L8 := Lib.hid ol
          clear hb hg hv ol
          (refine wpAnyH_take (i := 12) (v := ?_) rfl (by kernel_rfl) (by kernel_rfl) (by kernel_rfl) (fun _ _ _ h => h) (Or.inl ⟨by rfl, ?_⟩) X8.out ?_; rotate_left; (· (intro w hSw; go_simp; try with_reducible rfl)); (try simp only [Act.put, List.getElem_toArray, List.getElem_cons_succ, List.getElem_cons_zero, List.setIfInBounds_toArray, List.set_cons_zero, List.set_cons_succ]))
          (refine wpAnyH_take (i := 13) (v := ?_) rfl (by kernel_rfl) (by kernel_rfl) (by kernel_rfl) (fun _ _ _ h => h) (Or.inl ⟨by rfl, ?_⟩) X8.out ?_; rotate_left; (· (intro w hSw; go_simp; try with_reducible rfl)); (try simp only [Act.put, List.getElem_toArray, List.getElem_cons_succ, List.getElem_cons_zero, List.setIfInBounds_toArray, List.set_cons_zero, List.set_cons_succ]))
          refine wpAnyH_done (by kernel_rfl) ?_ _
          generalize (if cap = k then _ else _ : Option Addr) = az
          go_wp2_with fail
          go_ret2
          exact ⟨_, ret_own R2.out, by rw [R1.out]; have := L8.out.mono HBASE.out; simpa using this, BW.out.trans (B8.out.mono ZW.out)⟩
      · have e1 : decide (k < n) = false := by simpa using hjn
        clear hlt hj hjn cx
        go_wp2_with fail
        go_quiet (fail)
        clear e1
        go_upto_region 14 with fail
        refine wp_region_held_drew (S := fun w' => Blk w' bx (vlA x) 53) (by kernel_rfl) (K2.out.at 0 rfl) (fun hHeld => ?_)
        have X3 := Lib.hid hHeld
        clear hHeld
        have H3 := Lib.hid (show Own (wr.drewN nq).drew base 53 3 vlC (.slice (some ⟨g, 0, none⟩) l.length cap) l by rw [HN.out]; exact H2.out)
        have BW := Lib.hid (show Below w.heap.size w (wr.drewN nq).drew from (below_drewN K2.out.below nq).drew)
        clear H2 K2
        generalize (wr.drewN nq).drew = w3 at *
        have ZG := Lib.hid (H3.out.lt g rfl).2
        have KC := Lib.hid (show k ≤ cap by have := KN.out; have := HCAP.out; omega)
        have K1 := Lib.hid (show (0 : Int) ≤ (k : Int) by omega)
        have K4 := Lib.hid (show (k : Int) ≤ n by have := KN.out; omega)
        have K5 := Lib.hid (show ((k : Int)).toNat = k by omega)
        have ZX := Lib.hid X3.out.lt
        have ZW := Lib.hid BW.out.size
        obtain ⟨Z, hZ⟩ : ∃ Z, Z = w3.heap.size := ⟨_, rfl⟩
        have HBASE := Lib.hid (show base ≤ Z by rw [hZ]; exact Nat.le_trans HBW.out (by rw [← HBX.out]; exact ZW.out))
        rw [← hZ] at ZX ZW ZG
        have ZE := Lib.hid hZ.symm
        have B3 := Lib.hid (Below.refl Z w3)
        clear hZ
        (refine wpAnyH_take (i := 1) (v := ?_) rfl (by kernel_rfl) (by kernel_rfl) (by kernel_rfl) (fun _ _ _ h => h) (Or.inl ⟨by rfl, ?_⟩) X3.out ?_; rotate_left; (· (intro w hSw; go_simp; try with_reducible rfl)); (try simp only [Act.put, List.getElem_toArray, List.getElem_cons_succ, List.getElem_cons_zero, List.setIfInBounds_toArray, List.set_cons_zero, List.set_cons_succ]))
        (refine wpAnyH_take (i := 2) (v := ?_) rfl (by kernel_rfl) (by kernel_rfl) (by kernel_rfl) (fun _ _ _ h => h) (Or.inl ⟨by rfl, ?_⟩) X3.out ?_; rotate_left; (· (intro w hSw; go_simp; try with_reducible rfl)); (try simp only [Act.put, List.getElem_toArray, List.getElem_cons_succ, List.getElem_cons_zero, List.setIfInBounds_toArray, List.set_cons_zero, List.set_cons_succ]))
        (refine wpAnyH_take (i := 3) (v := ?_) rfl (by kernel_rfl) (by kernel_rfl) (by kernel_rfl) (fun _ _ _ h => h) (Or.inl ⟨by rfl, ?_⟩) X3.out ?_; rotate_left; (· (intro w hSw; have e := KC.out; go_simp; try with_reducible rfl)); (try simp only [Act.put, List.getElem_toArray, List.getElem_cons_succ, List.getElem_cons_zero, List.setIfInBounds_toArray, List.set_cons_zero, List.set_cons_succ]))
        (refine wpAnyH_take (i := 5) (v := ?_) rfl (by kernel_rfl) (by kernel_rfl) (by kernel_rfl) (fun _ _ _ h => h) (Or.inl ⟨by rfl, ?_⟩) X3.out ?_; rotate_left; (· (intro w hSw; have c0 := hSw.cell 0; have c1 := hSw.cell 1; have c2 := hSw.cell 2; simp only [vlA, List.getElem?_toArray, List.getElem?_cons_zero, List.getElem?_cons_succ] at c0 c1 c2; go_simp; try with_reducible rfl)); (try simp only [Act.put, List.getElem_toArray, List.getElem_cons_succ, List.getElem_cons_zero, List.setIfInBounds_toArray, List.set_cons_zero, List.set_cons_succ]))
        (refine wpAnyH_take (i := 8) (v := ?_) rfl (by kernel_rfl) (by kernel_rfl) (by kernel_rfl) (fun _ _ _ h => h) (Or.inl ⟨by rfl, ?_⟩) X3.out ?_; rotate_left; (· (intro w hSw; go_simp; try with_reducible rfl)); (try simp only [Act.put, List.getElem_toArray, List.getElem_cons_succ, List.getElem_cons_zero, List.setIfInBounds_toArray, List.set_cons_zero, List.set_cons_succ]))
        (refine wpAnyH_take (i := 9) (v := ?_) rfl (by kernel_rfl) (by kernel_rfl) (by kernel_rfl) (fun _ _ _ h => h) (Or.inl ⟨by rfl, ?_⟩) X3.out ?_; rotate_left; (· (intro w hSw; go_simp; try with_reducible rfl)); (try simp only [Act.put, List.getElem_toArray, List.getElem_cons_succ, List.getElem_cons_zero, List.setIfInBounds_toArray, List.set_cons_zero, List.set_cons_succ]))
        (refine wpAnyH_take (i := 10) (v := ?_) rfl (by kernel_rfl) (by kernel_rfl) (by kernel_rfl) (fun _ _ _ h => h) (Or.inl ⟨by rfl, ?_⟩) X3.out ?_; rotate_left; (· (intro w hSw; have e1 := K1.out; have e2 := K4.out; have e3 := K5.out; go_simp; try with_reducible rfl)); (try simp only [Act.put, List.getElem_toArray, List.getElem_cons_succ, List.getElem_cons_zero, List.setIfInBounds_toArray, List.set_cons_zero, List.set_cons_succ]))
        refine wpAnyH_ready (rs := [0, 6]) (by kernel_rfl) (by simp) ?_
        refine AllReadyH.cons rfl (fun K hK => ?_) (AllReadyH.cons rfl (fun K hK => ?_) AllReadyH.nil)
        · go_simp
          have HS4 := Lib.hid (show Blk (w3.alloc (Obj.cells #[] 53)) bx (vlA x) 53 from X3.out.alloc _)
          refine hK.out _ _ HS4.out (fun hHeld => ?_)
          clear hK K hHeld HS4
          (try simp only [Act.put, List.getElem_toArray, List.getElem_cons_succ, List.getElem_cons_zero, List.setIfInBounds_toArray, List.set_cons_zero, List.set_cons_succ])
          have X4 := Lib.hid (X3.out.alloc (Obj.cells #[] 53))
          have H4 := Lib.hid (H3.out.alloc (Obj.cells #[] 53))
          have B4 := Lib.hid (B3.out.alloc (Nat.le_trans (Nat.le_of_eq ZE.out.symm) B3.out.size) (Obj.cells #[] 53))
          have L4 := Lib.hid (show Own (w3.alloc (Obj.cells #[] 53)) Z 53 3 vlC (.slice (some ⟨w3.heap.size, 0, none⟩) 0 0) [] from Own.made w3 (Nat.le_trans (Nat.le_of_eq ZE.out.symm) B3.out.size) vlC)
          generalize ha4 : w3.alloc (Obj.cells #[] 53) = w4 at *
          clear ha4
          generalize Value.slice (some ⟨w3.heap.size, 0, none⟩) 0 0 = v4 at *
          refine wpAnyH_ready (rs := [4, 6]) (by kernel_rfl) (by simp) ?_
          refine AllReadyH.cons rfl (fun K hK => ?_) (AllReadyH.cons rfl (fun K hK => ?_) AllReadyH.nil)
          · obtain ⟨v5, w5, hrun, ol, hg, hv⟩ := L4.out.app (P := Try.prog) (t := 39) (ty := 39) (H4.out.head (k := k) (c := cap) vlC_len (by have := KN.out; have := HN.out; omega)) Try.underlying39 HI.out HZ.out HS.out HBY.out rfl (by omega) vlC_len vlC_one
              (by unfold maxLen; simp; have := HN.out; have := KN.out; omega) (by simp; have := HN.out; have := KN.out; omega) (Nat.le_trans (Nat.le_of_eq ZE.out.symm) B4.out.size)
            rw [if_pos (by rfl)]
            refine wp_append_lst _ _ 39 rfl v5 w5 hrun ?_
            have hb := grown_below hg (fun i hi => (L4.out.lt i hi).1) (Nat.le_trans (Nat.le_of_eq ZE.out.symm) B4.out.size)
            have X5 := Lib.hid (X4.out.below hb ZX.out)
            refine hK.out _ _ X5.out (fun hHeld => ?_)
            clear hK K hHeld hrun
            (try simp only [Act.put, List.getElem_toArray, List.getElem_cons_succ, List.getElem_cons_zero, List.setIfInBounds_toArray, List.set_cons_zero, List.set_cons_succ])
            have H5 := Lib.hid (H4.out.below hb (fun i hi => by have := ZG.out; simp [Value.ownBlock] at hi; omega))
            have B5 := Lib.hid (B4.out.trans hb)
            have L5 := Lib.hid ol
            clear hb hg hv ol
            refine wpAnyH_ready (rs := [6]) (by kernel_rfl) (by simp) ?_
            refine AllReadyH.cons rfl (fun K hK => ?_) AllReadyH.nil
            go_simp
            have HS6 := Lib.hid (show Blk (w5.alloc (Obj.cells #[.int .u16 (x.vid : Nat), .int .u32 (x.mem : Nat), .int .u32 (x.unt : Nat)] 53)) bx (vlA x) 53 from X5.out.alloc _)
            refine hK.out _ _ HS6.out (fun hHeld => ?_)
            clear hK K hHeld HS6
            (try simp only [Act.put, List.getElem_toArray, List.getElem_cons_succ, List.getElem_cons_zero, List.setIfInBounds_toArray, List.set_cons_zero, List.set_cons_succ])
            have X6 := Lib.hid (X5.out.alloc (Obj.cells #[.int .u16 (x.vid : Nat), .int .u32 (x.mem : Nat), .int .u32 (x.unt : Nat)] 53))
            have H6 := Lib.hid (H5.out.alloc (Obj.cells #[.int .u16 (x.vid : Nat), .int .u32 (x.mem : Nat), .int .u32 (x.unt : Nat)] 53))
            have B6 := Lib.hid (B5.out.alloc (Nat.le_trans (Nat.le_of_eq ZE.out.symm) B5.out.size) (Obj.cells #[.int .u16 (x.vid : Nat), .int .u32 (x.mem : Nat), .int .u32 (x.unt : Nat)] 53))
            have M6 := Lib.hid (show Own (w5.alloc (Obj.cells #[.int .u16 (x.vid : Nat), .int .u32 (x.mem : Nat), .int .u32 (x.unt : Nat)] 53)) Z 53 3 vlC (.slice (some ⟨w5.heap.size, 0, none⟩) 1 1) [x] from Own.lit w5 (Nat.le_trans (Nat.le_of_eq ZE.out.symm) B5.out.size) vlC_len [x] (by unfold maxLen; simp))
            have L6 := Lib.hid (L5.out.alloc (Obj.cells #[.int .u16 (x.vid : Nat), .int .u32 (x.mem : Nat), .int .u32 (x.unt : Nat)] 53))
            have N6 := Lib.hid (show v5.ownBlock ≠ some w5.heap.size from fun q => by have := (L5.out.lt _ q).2; omega)
            generalize ha6 : w5.alloc (Obj.cells #[.int .u16 (x.vid : Nat), .int .u32 (x.mem : Nat), .int .u32 (x.unt : Nat)] 53) = w6 at *
            clear ha6
            generalize w5.heap.size = gm at M6 N6 ⊢
            obtain ⟨v6, hv6⟩ : ∃ u, u = v5 := ⟨_, rfl⟩
            rw [← hv6] at L6 N6 ⊢
            clear hv6
            refine wpAnyH_ready (rs := [7]) (by kernel_rfl) (by simp) ?_
            refine AllReadyH.cons rfl (fun K hK => ?_) AllReadyH.nil
            obtain ⟨v7, w7, hrun, ol, hg, hv⟩ := L6.out.app (P := Try.prog) (t := 39) (ty := 39) M6.out.src Try.underlying39 HI.out HZ.out HS.out HBY.out rfl (by omega) vlC_len vlC_one
              (by unfold maxLen; simp; have := HN.out; have := KN.out; omega) (by simp; have := HN.out; have := KN.out; omega) (Nat.le_trans (Nat.le_of_eq ZE.out.symm) B6.out.size)
            rw [if_pos (by rfl)]
            refine wp_append_lst _ _ 39 rfl v7 w7 hrun ?_
            have hb := grown_below hg (fun i hi => (L6.out.lt i hi).1) (Nat.le_trans (Nat.le_of_eq ZE.out.symm) B6.out.size)
            have X7 := Lib.hid (X6.out.below hb ZX.out)
            refine hK.out _ _ X7.out (fun hHeld => ?_)
            clear hK K hHeld hrun
            (try simp only [Act.put, List.getElem_toArray, List.getElem_cons_succ, List.getElem_cons_zero, List.setIfInBounds_toArray, List.set_cons_zero, List.set_cons_succ])
            have H7 := Lib.hid (H6.out.below hb (fun i hi => by have := ZG.out; simp [Value.ownBlock] at hi; omega))
            have B7 := Lib.hid (B6.out.trans hb)
            have L7 := Lib.hid ol
            have M7 := Lib.hid (M6.out.kept hg (.inr (fun q => N6.out q.symm)))
            have N7 := Lib.hid (show v7.ownBlock ≠ some gm from fun q => by
              rcases hv with c | c
              · exact N6.out (c ▸ q)
              · have := (M6.out.lt gm rfl).2
                rw [c] at q
                injection q with q
                omega)
            clear hb hg hv ol
            refine wpAnyH_ready (rs := [11]) (by kernel_rfl) (by simp) ?_
            refine AllReadyH.cons rfl (fun K hK => ?_) AllReadyH.nil
            obtain ⟨v8, w8, hrun, ol, hg, hv⟩ := L7.out.app (P := Try.prog) (t := 39) (ty := 39) (H7.out.tail (k := k) (c := cap - k) vlC_len (by have := KN.out; have := HN.out; omega) (by have := HCAP.out; have := HN.out; omega)) Try.underlying39 HI.out HZ.out HS.out HBY.out rfl (by omega) vlC_len vlC_one
              (by unfold maxLen; simp; have := HN.out; have := KN.out; omega) (by simp; have := HN.out; have := KN.out; omega) (Nat.le_trans (Nat.le_of_eq ZE.out.symm) B7.out.size)
            rw [HN.out] at hrun
            rw [if_pos (by rfl)]
            refine wp_append_lst _ _ 39 rfl v8 w8 hrun ?_
            have hb := grown_below hg (fun i hi => (L7.out.lt i hi).1) (Nat.le_trans (Nat.le_of_eq ZE.out.symm) B7.out.size)
            have X8 := Lib.hid (X7.out.below hb ZX.out)
            refine hK.out _ _ X8.out (fun hHeld => ?_)
            clear hK K hHeld hrun
            (try simp only [Act.put, List.getElem_toArray, List.getElem_cons_succ, List.getElem_cons_zero, List.setIfInBounds_toArray, List.set_cons_zero, List.set_cons_succ])
            have H8 := Lib.hid (H7.out.below hb (fun i hi => by have := ZG.out; simp [Value.ownBlock] at hi; omega))
            have B8 := Lib.hid (B7.out.trans hb)
            have L8 := Lib.hid ol
            clear hb hg hv ol
            (refine wpAnyH_take (i := 12) (v := ?_) rfl (by kernel_rfl) (by kernel_rfl) (by kernel_rfl) (fun _ _ _ h => h) (Or.inl ⟨by rfl, ?_⟩) X8.out ?_; rotate_left; (· (intro w hSw; go_simp; try with_reducible rfl)); (try simp only [Act.put, List.getElem_toArray, List.getElem_cons_succ, List.getElem_cons_zero, List.setIfInBounds_toArray, List.set_cons_zero, List.set_cons_succ]))
            (refine wpAnyH_take (i := 13) (v := ?_) rfl (by kernel_rfl) (by kernel_rfl) (by kernel_rfl) (fun _ _ _ h => h) (Or.inl ⟨by rfl, ?_⟩) X8.out ?_; rotate_left; (· (intro w hSw; go_simp; try with_reducible rfl)); (try simp only [Act.put, List.getElem_toArray, List.getElem_cons_succ, List.getElem_cons_zero, List.setIfInBounds_toArray, List.set_cons_zero, List.set_cons_succ]))
            refine wpAnyH_done (by kernel_rfl) ?_ _
            generalize (if cap = k then _ else _ : Option Addr) = az
            go_wp2_with fail
            go_ret2
            exact ⟨_, ret_own R2.out, by rw [R1.out]; have := L8.out.mono HBASE.out; simpa using this, BW.out.trans (B8.out.mono ZW.out)⟩
          · go_simp
            have HS5 := Lib.hid (show Blk (w4.alloc (Obj.cells #[.int .u16 (x.vid : Nat), .int .u32 (x.mem : Nat), .int .u32 (x.unt : Nat)] 53)) bx (vlA x) 53 from X4.out.alloc _)
            refine hK.out _ _ HS5.out (fun hHeld => ?_)
            clear hK K hHeld HS5
            (try simp only [Act.put, List.getElem_toArray, List.getElem_cons_succ, List.getElem_cons_zero, List.setIfInBounds_toArray, List.set_cons_zero, List.set_cons_succ])
            have X5 := Lib.hid (X4.out.alloc (Obj.cells #[.int .u16 (x.vid : Nat), .int .u32 (x.mem : Nat), .int .u32 (x.unt : Nat)] 53))
            have H5 := Lib.hid (H4.out.alloc (Obj.cells #[.int .u16 (x.vid : Nat), .int .u32 (x.mem : Nat), .int .u32 (x.unt : Nat)] 53))
            have B5 := Lib.hid (B4.out.alloc (Nat.le_trans (Nat.le_of_eq ZE.out.symm) B4.out.size) (Obj.cells #[.int .u16 (x.vid : Nat), .int .u32 (x.mem : Nat), .int .u32 (x.unt : Nat)] 53))
            have M5 := Lib.hid (show Own (w4.alloc (Obj.cells #[.int .u16 (x.vid : Nat), .int .u32 (x.mem : Nat), .int .u32 (x.unt : Nat)] 53)) Z 53 3 vlC (.slice (some ⟨w4.heap.size, 0, none⟩) 1 1) [x] from Own.lit w4 (Nat.le_trans (Nat.le_of_eq ZE.out.symm) B4.out.size) vlC_len [x] (by unfold maxLen; simp))
            have L5 := Lib.hid (L4.out.alloc (Obj.cells #[.int .u16 (x.vid : Nat), .int .u32 (x.mem : Nat), .int .u32 (x.unt : Nat)] 53))
            have N5 := Lib.hid (show v4.ownBlock ≠ some w4.heap.size from fun q => by have := (L4.out.lt _ q).2; omega)
            generalize ha5 : w4.alloc (Obj.cells #[.int .u16 (x.vid : Nat), .int .u32 (x.mem : Nat), .int .u32 (x.unt : Nat)] 53) = w5 at *
            clear ha5
            generalize w4.heap.size = gm at M5 N5 ⊢
            obtain ⟨v5, hv5⟩ : ∃ u, u = v4 := ⟨_, rfl⟩
            rw [← hv5] at L5 N5 ⊢
            clear hv5
            refine wpAnyH_ready (rs := [4]) (by kernel_rfl) (by simp) ?_
            refine AllReadyH.cons rfl (fun K hK => ?_) AllReadyH.nil
            obtain ⟨v6, w6, hrun, ol, hg, hv⟩ := L5.out.app (P := Try.prog) (t := 39) (ty := 39) (H5.out.head (k := k) (c := cap) vlC_len (by have := KN.out; have := HN.out; omega)) Try.underlying39 HI.out HZ.out HS.out HBY.out rfl (by omega) vlC_len vlC_one
              (by unfold maxLen; simp; have := HN.out; have := KN.out; omega) (by simp; have := HN.out; have := KN.out; omega) (Nat.le_trans (Nat.le_of_eq ZE.out.symm) B5.out.size)
            rw [if_pos (by rfl)]
            refine wp_append_lst _ _ 39 rfl v6 w6 hrun ?_
            have hb := grown_below hg (fun i hi => (L5.out.lt i hi).1) (Nat.le_trans (Nat.le_of_eq ZE.out.symm) B5.out.size)
            have X6 := Lib.hid (X5.out.below hb ZX.out)
            refine hK.out _ _ X6.out (fun hHeld => ?_)
            clear hK K hHeld hrun
            (try simp only [Act.put, List.getElem_toArray, List.getElem_cons_succ, List.getElem_cons_zero, List.setIfInBounds_toArray, List.set_cons_zero, List.set_cons_succ])
            have H6 := Lib.hid (H5.out.below hb (fun i hi => by have := ZG.out; simp [Value.ownBlock] at hi; omega))
            have B6 := Lib.hid (B5.out.trans hb)
            have L6 := Lib.hid ol
            have M6 := Lib.hid (M5.out.kept hg (.inr (fun q => N5.out q.symm)))
            have N6 := Lib.hid (show v6.ownBlock ≠ some gm from fun q => by
              rcases hv with c | c
              · exact N5.out (c ▸ q)
              · have := (M5.out.lt gm rfl).2
                rw [c] at q
                injection q with q
                omega)
            clear hb hg hv ol
            refine wpAnyH_ready (rs := [7]) (by kernel_rfl) (by simp) ?_
            refine AllReadyH.cons rfl (fun K hK => ?_) AllReadyH.nil
            obtain ⟨v7, w7, hrun, ol, hg, hv⟩ := L6.out.app (P := Try.prog) (t := 39) (ty := 39) M6.out.src Try.underlying39 HI.out HZ.out HS.out HBY.out rfl (by omega) vlC_len vlC_one
              (by unfold maxLen; simp; have := HN.out; have := KN.out; omega) (by simp; have := HN.out; have := KN.out; omega) (Nat.le_trans (Nat.le_of_eq ZE.out.symm) B6.out.size)
            rw [if_pos (by rfl)]
            refine wp_append_lst _ _ 39 rfl v7 w7 hrun ?_
            have hb := grown_below hg (fun i hi => (L6.out.lt i hi).1) (Nat.le_trans (Nat.le_of_eq ZE.out.symm) B6.out.size)
            have X7 := Lib.hid (X6.out.below hb ZX.out)
            refine hK.out _ _ X7.out (fun hHeld => ?_)
            clear hK K hHeld hrun
            (try simp only [Act.put, List.getElem_toArray, List.getElem_cons_succ, List.getElem_cons_zero, List.setIfInBounds_toArray, List.set_cons_zero, List.set_cons_succ])
            have H7 := Lib.hid (H6.out.below hb (fun i hi => by have := ZG.out; simp [Value.ownBlock] at hi; omega))
            have B7 := Lib.hid (B6.out.trans hb)
            have L7 := Lib.hid ol
            have M7 := Lib.hid (M6.out.kept hg (.inr (fun q => N6.out q.symm)))
            have N7 := Lib.hid (show v7.ownBlock ≠ some gm from fun q => by
              rcases hv with c | c
              · exact N6.out (c ▸ q)
              · have := (M6.out.lt gm rfl).2
                rw [c] at q
                injection q with q
                omega)
            clear hb hg hv ol
            refine wpAnyH_ready (rs := [11]) (by kernel_rfl) (by simp) ?_
            refine AllReadyH.cons rfl (fun K hK => ?_) AllReadyH.nil
            obtain ⟨v8, w8, hrun, ol, hg, hv⟩ := L7.out.app (P := Try.prog) (t := 39) (ty := 39) (H7.out.tail (k := k) (c := cap - k) vlC_len (by have := KN.out; have := HN.out; omega) (by have := HCAP.out; have := HN.out; omega)) Try.underlying39 HI.out HZ.out HS.out HBY.out rfl (by omega) vlC_len vlC_one
              (by unfold maxLen; simp; have := HN.out; have := KN.out; omega) (by simp; have := HN.out; have := KN.out; omega) (Nat.le_trans (Nat.le_of_eq ZE.out.symm) B7.out.size)
            rw [HN.out] at hrun
            rw [if_pos (by rfl)]
            refine wp_append_lst _ _ 39 rfl v8 w8 hrun ?_
            have hb := grown_below hg (fun i hi => (L7.out.lt i hi).1) (Nat.le_trans (Nat.le_of_eq ZE.out.symm) B7.out.size)
            have X8 := Lib.hid (X7.out.below hb ZX.out)
            refine hK.out _ _ X8.out (fun hHeld => ?_)
            clear hK K hHeld hrun
            (try simp only [Act.put, List.getElem_toArray, List.getElem_cons_succ, List.getElem_cons_zero, List.setIfInBounds_toArray, List.set_cons_zero, List.set_cons_succ])
            have H8 := Lib.hid (H7.out.below hb (fun i hi => by have := ZG.out; simp [Value.ownBlock] at hi; omega))
            have B8 := Lib.hid (B7.out.trans hb)
            have L8 := Lib.hid ol
            clear hb hg hv ol
            (refine wpAnyH_take (i := 12) (v := ?_) rfl (by kernel_rfl) (by kernel_rfl) (by kernel_rfl) (fun _ _ _ h => h) (Or.inl ⟨by rfl, ?_⟩) X8.out ?_; rotate_left; (· (intro w hSw; go_simp; try with_reducible rfl)); (try simp only [Act.put, List.getElem_toArray, List.getElem_cons_succ, List.getElem_cons_zero, List.setIfInBounds_toArray, List.set_cons_zero, List.set_cons_succ]))
            (refine wpAnyH_take (i := 13) (v := ?_) rfl (by kernel_rfl) (by kernel_rfl) (by kernel_rfl) (fun _ _ _ h => h) (Or.inl ⟨by rfl, ?_⟩) X8.out ?_; rotate_left; (· (intro w hSw; go_simp; try with_reducible rfl)); (try simp only [Act.put, List.getElem_toArray, List.getElem_cons_succ, List.getElem_cons_zero, List.setIfInBounds_toArray, List.set_cons_zero, List.set_cons_succ]))
            refine wpAnyH_done (by kernel_rfl) ?_ _
            generalize (if cap = k then _ else _ : Option Addr) = az
            go_wp2_with fail
            go_ret2
            exact ⟨_, ret_own R2.out, by rw [R1.out]; have := L8.out.mono HBASE.out; simpa using this, BW.out.trans (B8.out.mono ZW.out)⟩
        · go_simp
          have HS4 := Lib.hid (show Blk (w3.alloc (Obj.cells #[.int .u16 (x.vid : Nat), .int .u32 (x.mem : Nat), .int .u32 (x.unt : Nat)] 53)) bx (vlA x) 53 from X3.out.alloc _)
          refine hK.out _ _ HS4.out (fun hHeld => ?_)
          clear hK K hHeld HS4
          (try simp only [Act.put, List.getElem_toArray, List.getElem_cons_succ, List.getElem_cons_zero, List.setIfInBounds_toArray, List.set_cons_zero, List.set_cons_succ])
          have X4 := Lib.hid (X3.out.alloc (Obj.cells #[.int .u16 (x.vid : Nat), .int .u32 (x.mem : Nat), .int .u32 (x.unt : Nat)] 53))
          have H4 := Lib.hid (H3.out.alloc (Obj.cells #[.int .u16 (x.vid : Nat), .int .u32 (x.mem : Nat), .int .u32 (x.unt : Nat)] 53))
          have B4 := Lib.hid (B3.out.alloc (Nat.le_trans (Nat.le_of_eq ZE.out.symm) B3.out.size) (Obj.cells #[.int .u16 (x.vid : Nat), .int .u32 (x.mem : Nat), .int .u32 (x.unt : Nat)] 53))
          have M4 := Lib.hid (show Own (w3.alloc (Obj.cells #[.int .u16 (x.vid : Nat), .int .u32 (x.mem : Nat), .int .u32 (x.unt : Nat)] 53)) Z 53 3 vlC (.slice (some ⟨w3.heap.size, 0, none⟩) 1 1) [x] from Own.lit w3 (Nat.le_trans (Nat.le_of_eq ZE.out.symm) B3.out.size) vlC_len [x] (by unfold maxLen; simp))
          generalize ha4 : w3.alloc (Obj.cells #[.int .u16 (x.vid : Nat), .int .u32 (x.mem : Nat), .int .u32 (x.unt : Nat)] 53) = w4 at *
          clear ha4
          generalize w3.heap.size = gm at M4 ⊢
          refine wpAnyH_ready (rs := [0]) (by kernel_rfl) (by simp) ?_
          refine AllReadyH.cons rfl (fun K hK => ?_) AllReadyH.nil
          go_simp
          have HS5 := Lib.hid (show Blk (w4.alloc (Obj.cells #[] 53)) bx (vlA x) 53 from X4.out.alloc _)
          refine hK.out _ _ HS5.out (fun hHeld => ?_)
          clear hK K hHeld HS5
          (try simp only [Act.put, List.getElem_toArray, List.getElem_cons_succ, List.getElem_cons_zero, List.setIfInBounds_toArray, List.set_cons_zero, List.set_cons_succ])
          have X5 := Lib.hid (X4.out.alloc (Obj.cells #[] 53))
          have H5 := Lib.hid (H4.out.alloc (Obj.cells #[] 53))
          have B5 := Lib.hid (B4.out.alloc (Nat.le_trans (Nat.le_of_eq ZE.out.symm) B4.out.size) (Obj.cells #[] 53))
          have L5 := Lib.hid (show Own (w4.alloc (Obj.cells #[] 53)) Z 53 3 vlC (.slice (some ⟨w4.heap.size, 0, none⟩) 0 0) [] from Own.made w4 (Nat.le_trans (Nat.le_of_eq ZE.out.symm) B4.out.size) vlC)
          have M5 := Lib.hid (M4.out.alloc (Obj.cells #[] 53))
          have N5 := Lib.hid (show (Value.slice (some ⟨w4.heap.size, 0, none⟩) 0 0).ownBlock ≠ some gm from fun q => by have := (M4.out.lt gm rfl).2; simp [Value.ownBlock] at q; omega)
          generalize ha5 : w4.alloc (Obj.cells #[] 53) = w5 at *
          clear ha5
          generalize Value.slice (some ⟨w4.heap.size, 0, none⟩) 0 0 = v5 at *
          refine wpAnyH_ready (rs := [4]) (by kernel_rfl) (by simp) ?_
          refine AllReadyH.cons rfl (fun K hK => ?_) AllReadyH.nil
          obtain ⟨v6, w6, hrun, ol, hg, hv⟩ := L5.out.app (P := Try.prog) (t := 39) (ty := 39) (H5.out.head (k := k) (c := cap) vlC_len (by have := KN.out; have := HN.out; omega)) Try.underlying39 HI.out HZ.out HS.out HBY.out rfl (by omega) vlC_len vlC_one
            (by unfold maxLen; simp; have := HN.out; have := KN.out; omega) (by simp; have := HN.out; have := KN.out; omega) (Nat.le_trans (Nat.le_of_eq ZE.out.symm) B5.out.size)
          rw [if_pos (by rfl)]
          refine wp_append_lst _ _ 39 rfl v6 w6 hrun ?_
          have hb := grown_below hg (fun i hi => (L5.out.lt i hi).1) (Nat.le_trans (Nat.le_of_eq ZE.out.symm) B5.out.size)
          have X6 := Lib.hid (X5.out.below hb ZX.out)
          refine hK.out _ _ X6.out (fun hHeld => ?_)
          clear hK K hHeld hrun
          (try simp only [Act.put, List.getElem_toArray, List.getElem_cons_succ, List.getElem_cons_zero, List.setIfInBounds_toArray, List.set_cons_zero, List.set_cons_succ])
          have H6 := Lib.hid (H5.out.below hb (fun i hi => by have := ZG.out; simp [Value.ownBlock] at hi; omega))
          have B6 := Lib.hid (B5.out.trans hb)
          have L6 := Lib.hid ol
          have M6 := Lib.hid (M5.out.kept hg (.inr (fun q => N5.out q.symm)))
          have N6 := Lib.hid (show v6.ownBlock ≠ some gm from fun q => by
            rcases hv with c | c
            · exact N5.out (c ▸ q)
            · have := (M5.out.lt gm rfl).2
              rw [c] at q
              injection q with q
              omega)
          clear hb hg hv ol
          refine wpAnyH_ready (rs := [7]) (by kernel_rfl) (by simp) ?_
          refine AllReadyH.cons rfl (fun K hK => ?_) AllReadyH.nil
          obtain ⟨v7, w7, hrun, ol, hg, hv⟩ := L6.out.app (P := Try.prog) (t := 39) (ty := 39) M6.out.src Try.underlying39 HI.out HZ.out HS.out HBY.out rfl (by omega) vlC_len vlC_one
            (by unfold maxLen; simp; have := HN.out; have := KN.out; omega) (by simp; have := HN.out; have := KN.out; omega) (Nat.le_trans (Nat.le_of_eq ZE.out.symm) B6.out.size)
          rw [if_pos (by rfl)]
          refine wp_append_lst _ _ 39 rfl v7 w7 hrun ?_
          have hb := grown_below hg (fun i hi => (L6.out.lt i hi).1) (Nat.le_trans (Nat.le_of_eq ZE.out.symm) B6.out.size)
          have X7 := Lib.hid (X6.out.below hb ZX.out)
          refine hK.out _ _ X7.out (fun hHeld => ?_)
          clear hK K hHeld hrun
          (try simp only [Act.put, List.getElem_toArray, List.getElem_cons_succ, List.getElem_cons_zero, List.setIfInBounds_toArray, List.set_cons_zero, List.set_cons_succ])
          have H7 := Lib.hid (H6.out.below hb (fun i hi => by have := ZG.out; simp [Value.ownBlock] at hi; omega))
          have B7 := Lib.hid (B6.out.trans hb)
          have L7 := Lib.hid ol
          have M7 := Lib.hid (M6.out.kept hg (.inr (fun q => N6.out q.symm)))
          have N7 := Lib.hid (show v7.ownBlock ≠ some gm from fun q => by
            rcases hv with c | c
            · exact N6.out (c ▸ q)
            · have := (M6.out.lt gm rfl).2
              rw [c] at q
              injection q with q
              omega)
          clear hb hg hv ol
          refine wpAnyH_ready (rs := [11]) (by kernel_rfl) (by simp) ?_
          refine AllReadyH.cons rfl (fun K hK => ?_) AllReadyH.nil
          obtain ⟨v8, w8, hrun, ol, hg, hv⟩ := L7.out.app (P := Try.prog) (t := 39) (ty := 39) (H7.out.tail (k := k) (c := cap - k) vlC_len (by have := KN.out; have := HN.out; omega) (by have := HCAP.out; have := HN.out; omega)) Try.underlying39 HI.out HZ.out HS.out HBY.out rfl (by omega) vlC_len vlC_one
            (by unfold maxLen; simp; have := HN.out; have := KN.out; omega) (by simp; have := HN.out; have := KN.out; omega) (Nat.le_trans (Nat.le_of_eq ZE.out.symm) B7.out.size)
          rw [HN.out] at hrun
          rw [if_pos (by rfl)]
          refine wp_append_lst _ _ 39 rfl v8 w8 hrun ?_
          have hb := grown_below hg (fun i hi => (L7.out.lt i hi).1) (Nat.le_trans (Nat.le_of_eq ZE.out.symm) B7.out.size)
          have X8 := Lib.hid (X7.out.below hb ZX.out)
          refine hK.out _ _ X8.out (fun hHeld => ?_)
          clear hK K hHeld hrun
          (try simp only [Act.put, List.getElem_toArray, List.getElem_cons_succ, List.getElem_cons_zero, List.setIfInBounds_toArray, List.set_cons_zero, List.set_cons_succ])
          have H8 := Lib.hid (H7.out.below hb (fun i hi => by have := ZG.out; simp [Value.ownBlock] at hi; omega))
          have B8 := Lib.hid (B7.out.trans hb)
          have L8 := Lib.hid ol
          clear hb hg hv ol
          (refine wpAnyH_take (i := 12) (v := ?_) rfl (by kernel_rfl) (by kernel_rfl) (by kernel_rfl) (fun _ _ _ h => h) (Or.inl ⟨by rfl, ?_⟩) X8.out ?_; rotate_left; (· (intro w hSw; go_simp; try with_reducible rfl)); (try simp only [Act.put, List.getElem_toArray, List.getElem_cons_succ, List.getElem_cons_zero, List.setIfInBounds_toArray, List.set_cons_zero, List.set_cons_succ]))
          (refine wpAnyH_take (i := 13) (v := ?_) rfl (by kernel_rfl) (by kernel_rfl) (by kernel_rfl) (fun _ _ _ h => h) (Or.inl ⟨by rfl, ?_⟩) X8.out ?_; rotate_left; (· (intro w hSw; go_simp; try with_reducible rfl)); (try simp only [Act.put, List.getElem_toArray, List.getElem_cons_succ, List.getElem_cons_zero, List.setIfInBounds_toArray, List.set_cons_zero, List.set_cons_succ]))
          refine wpAnyH_done (by kernel_rfl) ?_ _
          generalize (if cap = k then _ else _ : Option Addr) = az
          go_wp2_with fail
          go_ret2
          exact ⟨_, ret_own R2.out, by rw [R1.out]; have := L8.out.mono HBASE.out; simpa using this, BW.out.trans (B8.out.mono ZW.out)⟩

set_option maxRecDepth 100000 in
set_option maxHeartbeats 4000000 in
theorem rset_nil (base : Nat) (x : Vl) (w : World) (hgd : ¬ goodV x ≠ 0) (hb : base ≤ w.heap.size) :
    Calls Try.prog 23 #[.slice none 0 0, vlV x] w (OwnRes w base (setV [] x) (setVE [] x)) := by
  obtain ⟨l, hl0⟩ : ∃ l : List Vl, l = [] := ⟨_, rfl⟩
  have h : Own w base 53 3 vlC (.slice none 0 0) l := by rw [hl0]; exact Own.nil w base 53 3 vlC
  have h16 : l.length < 16 := by rw [hl0]; simp
  have hat : atV x.vid l = -1 := by rw [hl0]; rfl
  rw [← hl0]
  have HL0 := Lib.hid hl0
  clear hl0
  have hl : l.length ≤ 100 := by omega
  obtain ⟨k, hk⟩ : ∃ k, posV x.vid l = k := ⟨_, rfl⟩
  have R1 := Lib.hid (show setV l x = l.take k ++ [x] ++ l.drop k by unfold setV; rw [if_neg hgd, hat, if_neg (by omega), if_neg (by omega), hk])
  have R2 := Lib.hid (show (0 : Int) = setVE l x by unfold setVE; rw [if_neg hgd, hat, if_neg (by omega), if_neg (by omega)])
  have AT := Lib.hid hat
  have PK := Lib.hid hk
  clear hat hk
  have HBW := Lib.hid hb
  clear hb
  obtain ⟨i, hi, hz, hsz, hby⟩ := info_parts vlinfo
  have HZ := Lib.hid hz
  have HS := Lib.hid hsz
  have HBY := Lib.hid hby
  have HI := Lib.hid hi
  clear hi hz hsz hby
  obtain ⟨arr, harr⟩ : ∃ arr, arr = vlA x := ⟨_, rfl⟩
  have hz53 := Lib.hid (show (Try.prog.info? 53).map (·.size) = some arr.size by rw [harr]; exact vinfo53)
  have A0 := Lib.hid (show arr[0]? = some (.int .u16 (x.vid : Nat)) by rw [harr]; rfl)
  show Calls Try.prog 23 #[.slice none 0 0, .agg (vlA x)] w _
  rw [← harr]
  have HA := Lib.hid harr
  clear harr
  have H := Lib.hid h
  clear h
  have K0 := Lib.hid (show Kn w [(w.heap.size, arr, 53)] (w.alloc (Obj.cells arr 53)) from (Kn.nil w).alloc arr 53)
  obtain ⟨G, hG⟩ : ∃ G, G = goodV x := ⟨_, rfl⟩
  rw [← hG] at hgd
  have HG := Lib.hid hG
  clear hG
  have G0 : G = 0 := by simpa using hgd
  subst G0
  clear hgd
  go_enter Try.func23, Try.ntmps23
  go_upto_region 4 with (first
    | (refine wpList_load_row rfl 53 _ rfl w.heap.size rfl 53 _ (0, 0) _ (K0.out.at 0 rfl) Try.underlying53 rfl hz53.out ?_)
    | (go_at_call 30; ((with_reducible refine (rgood_of HA.out _).mono ?_); rintro e w1 ⟨rfl, hb1⟩; rw [← HG.out]); have K1 := Lib.hid (K0.out.next hb1); clear hb1))
  have cx : w1.cell? ⟨w.heap.size, 0, none⟩ = some (.int .u16 (x.vid : Nat)) := by rw [(K1.out.at 0 rfl).cell 0]; exact A0.out
  have H1 := Lib.hid (H.out.next K1.out.below)
  clear H K0 HG
  go_upto_region 5 with (go_at_call 21; ((with_reducible refine (rat_any base x.vid _ l _ H1.out hl).mono ?_); rintro e w2 ⟨rfl, rfl⟩; rw [AT.out]))
  clear cx
  obtain ⟨hp1, hp2, hp3⟩ := posV_spec x.vid l
  rw [PK.out] at hp1 hp2 hp3
  have P2 := Lib.hid hp2
  have P3 := Lib.hid hp3
  clear hp1 hp2 hp3
  obtain rfl : arr = vlA x := HA.out
  clear HA A0
  generalize hbx : w.heap.size = bx at *
  have HBX := Lib.hid hbx
  clear hbx
  clear P2 P3
  have cx := (K1.out.at 0 rfl).cell 0
  simp only [vlA, List.getElem?_toArray, List.getElem?_cons_zero] at cx
  go_upto_region 12 with fail
  refine wp_loop_rounds 1 ?_
  rw [rounds_succ]
  go_wp2_with fail
  go_quiet (fail)
  clear cx
  go_upto_region 14 with fail
  refine wp_region_held_drew (S := fun w' => Blk w' bx (vlA x) 53) (by kernel_rfl) (K1.out.at 0 rfl) (fun hHeld => ?_)
  have X3 := Lib.hid hHeld
  clear hHeld
  have BW := Lib.hid (show Below w.heap.size w (w1.drewN nq).drew from (below_drewN K1.out.below nq).drew)
  clear H1 K1
  generalize (w1.drewN nq).drew = w3 at *
  have ZX := Lib.hid X3.out.lt
  have ZW := Lib.hid BW.out.size
  obtain ⟨Z, hZ⟩ : ∃ Z, Z = w3.heap.size := ⟨_, rfl⟩
  have HBASE := Lib.hid (show base ≤ Z by rw [hZ]; exact Nat.le_trans HBW.out (by rw [← HBX.out]; exact ZW.out))
  rw [← hZ] at ZX ZW
  have ZE := Lib.hid hZ.symm
  have B3 := Lib.hid (Below.refl Z w3)
  clear hZ
  (refine wpAnyH_take (i := 1) (v := ?_) rfl (by kernel_rfl) (by kernel_rfl) (by kernel_rfl) (fun _ _ _ h => h) (Or.inl ⟨by rfl, ?_⟩) X3.out ?_; rotate_left; (· (intro w hSw; go_simp; try with_reducible rfl)); (try simp only [Act.put, List.getElem_toArray, List.getElem_cons_succ, List.getElem_cons_zero, List.setIfInBounds_toArray, List.set_cons_zero, List.set_cons_succ]))
  (refine wpAnyH_take (i := 2) (v := ?_) rfl (by kernel_rfl) (by kernel_rfl) (by kernel_rfl) (fun _ _ _ h => h) (Or.inl ⟨by rfl, ?_⟩) X3.out ?_; rotate_left; (· (intro w hSw; go_simp; try with_reducible rfl)); (try simp only [Act.put, List.getElem_toArray, List.getElem_cons_succ, List.getElem_cons_zero, List.setIfInBounds_toArray, List.set_cons_zero, List.set_cons_succ]))
  (refine wpAnyH_take (i := 3) (v := ?_) rfl (by kernel_rfl) (by kernel_rfl) (by kernel_rfl) (fun _ _ _ h => h) (Or.inl ⟨by rfl, ?_⟩) X3.out ?_; rotate_left; (· (intro w hSw; go_simp; try with_reducible rfl)); (try simp only [Act.put, List.getElem_toArray, List.getElem_cons_succ, List.getElem_cons_zero, List.setIfInBounds_toArray, List.set_cons_zero, List.set_cons_succ]))
  (refine wpAnyH_take (i := 5) (v := ?_) rfl (by kernel_rfl) (by kernel_rfl) (by kernel_rfl) (fun _ _ _ h => h) (Or.inl ⟨by rfl, ?_⟩) X3.out ?_; rotate_left; (· (intro w hSw; have c0 := hSw.cell 0; have c1 := hSw.cell 1; have c2 := hSw.cell 2; simp only [vlA, List.getElem?_toArray, List.getElem?_cons_zero, List.getElem?_cons_succ] at c0 c1 c2; go_simp; try with_reducible rfl)); (try simp only [Act.put, List.getElem_toArray, List.getElem_cons_succ, List.getElem_cons_zero, List.setIfInBounds_toArray, List.set_cons_zero, List.set_cons_succ]))
  (refine wpAnyH_take (i := 8) (v := ?_) rfl (by kernel_rfl) (by kernel_rfl) (by kernel_rfl) (fun _ _ _ h => h) (Or.inl ⟨by rfl, ?_⟩) X3.out ?_; rotate_left; (· (intro w hSw; go_simp; try with_reducible rfl)); (try simp only [Act.put, List.getElem_toArray, List.getElem_cons_succ, List.getElem_cons_zero, List.setIfInBounds_toArray, List.set_cons_zero, List.set_cons_succ]))
  (refine wpAnyH_take (i := 9) (v := ?_) rfl (by kernel_rfl) (by kernel_rfl) (by kernel_rfl) (fun _ _ _ h => h) (Or.inl ⟨by rfl, ?_⟩) X3.out ?_; rotate_left; (· (intro w hSw; go_simp; try with_reducible rfl)); (try simp only [Act.put, List.getElem_toArray, List.getElem_cons_succ, List.getElem_cons_zero, List.setIfInBounds_toArray, List.set_cons_zero, List.set_cons_succ]))
  (refine wpAnyH_take (i := 10) (v := ?_) rfl (by kernel_rfl) (by kernel_rfl) (by kernel_rfl) (fun _ _ _ h => h) (Or.inl ⟨by rfl, ?_⟩) X3.out ?_; rotate_left; (· (intro w hSw; go_simp; try with_reducible rfl)); (try simp only [Act.put, List.getElem_toArray, List.getElem_cons_succ, List.getElem_cons_zero, List.setIfInBounds_toArray, List.set_cons_zero, List.set_cons_succ]))
  refine wpAnyH_ready (rs := [0, 6]) (by kernel_rfl) (by simp) ?_
  refine AllReadyH.cons rfl (fun K hK => ?_) (AllReadyH.cons rfl (fun K hK => ?_) AllReadyH.nil)
  · go_simp
    have HS4 := Lib.hid (show Blk (w3.alloc (Obj.cells #[] 53)) bx (vlA x) 53 from X3.out.alloc _)
    refine hK.out _ _ HS4.out (fun hHeld => ?_)
    clear hK K hHeld HS4
    (try simp only [Act.put, List.getElem_toArray, List.getElem_cons_succ, List.getElem_cons_zero, List.setIfInBounds_toArray, List.set_cons_zero, List.set_cons_succ])
    have X4 := Lib.hid (X3.out.alloc (Obj.cells #[] 53))
    have B4 := Lib.hid (B3.out.alloc (Nat.le_trans (Nat.le_of_eq ZE.out.symm) B3.out.size) (Obj.cells #[] 53))
    have L4 := Lib.hid (show Own (w3.alloc (Obj.cells #[] 53)) Z 53 3 vlC (.slice (some ⟨w3.heap.size, 0, none⟩) 0 0) [] from Own.made w3 (Nat.le_trans (Nat.le_of_eq ZE.out.symm) B3.out.size) vlC)
    generalize ha4 : w3.alloc (Obj.cells #[] 53) = w4 at *
    clear ha4
    generalize Value.slice (some ⟨w3.heap.size, 0, none⟩) 0 0 = v4 at *
    refine wpAnyH_ready (rs := [4, 6]) (by kernel_rfl) (by simp) ?_
    refine AllReadyH.cons rfl (fun K hK => ?_) (AllReadyH.cons rfl (fun K hK => ?_) AllReadyH.nil)
    · obtain ⟨v5, w5, hrun, ol, hg, hv⟩ := L4.out.app (P := Try.prog) (t := 39) (ty := 39) (show Src w4 vlC (.slice none 0 0) [] from .inl ⟨rfl, rfl⟩) Try.underlying39 HI.out HZ.out HS.out HBY.out rfl (by omega) vlC_len vlC_one
        (by unfold maxLen; simp) (by simp) (Nat.le_trans (Nat.le_of_eq ZE.out.symm) B4.out.size)
      rw [if_pos (by rfl)]
      refine wp_append_lst _ _ 39 rfl v5 w5 hrun ?_
      have hb := grown_below hg (fun i hi => (L4.out.lt i hi).1) (Nat.le_trans (Nat.le_of_eq ZE.out.symm) B4.out.size)
      have X5 := Lib.hid (X4.out.below hb ZX.out)
      refine hK.out _ _ X5.out (fun hHeld => ?_)
      clear hK K hHeld hrun
      (try simp only [Act.put, List.getElem_toArray, List.getElem_cons_succ, List.getElem_cons_zero, List.setIfInBounds_toArray, List.set_cons_zero, List.set_cons_succ])
      have B5 := Lib.hid (B4.out.trans hb)
      have L5 := Lib.hid ol
      clear hb hg hv ol
      refine wpAnyH_ready (rs := [6]) (by kernel_rfl) (by simp) ?_
      refine AllReadyH.cons rfl (fun K hK => ?_) AllReadyH.nil
      go_simp
      have HS6 := Lib.hid (show Blk (w5.alloc (Obj.cells #[.int .u16 (x.vid : Nat), .int .u32 (x.mem : Nat), .int .u32 (x.unt : Nat)] 53)) bx (vlA x) 53 from X5.out.alloc _)
      refine hK.out _ _ HS6.out (fun hHeld => ?_)
      clear hK K hHeld HS6
      (try simp only [Act.put, List.getElem_toArray, List.getElem_cons_succ, List.getElem_cons_zero, List.setIfInBounds_toArray, List.set_cons_zero, List.set_cons_succ])
      have X6 := Lib.hid (X5.out.alloc (Obj.cells #[.int .u16 (x.vid : Nat), .int .u32 (x.mem : Nat), .int .u32 (x.unt : Nat)] 53))
      have B6 := Lib.hid (B5.out.alloc (Nat.le_trans (Nat.le_of_eq ZE.out.symm) B5.out.size) (Obj.cells #[.int .u16 (x.vid : Nat), .int .u32 (x.mem : Nat), .int .u32 (x.unt : Nat)] 53))
      have M6 := Lib.hid (show Own (w5.alloc (Obj.cells #[.int .u16 (x.vid : Nat), .int .u32 (x.mem : Nat), .int .u32 (x.unt : Nat)] 53)) Z 53 3 vlC (.slice (some ⟨w5.heap.size, 0, none⟩) 1 1) [x] from Own.lit w5 (Nat.le_trans (Nat.le_of_eq ZE.out.symm) B5.out.size) vlC_len [x] (by unfold maxLen; simp))
      have L6 := Lib.hid (L5.out.alloc (Obj.cells #[.int .u16 (x.vid : Nat), .int .u32 (x.mem : Nat), .int .u32 (x.unt : Nat)] 53))
      have N6 := Lib.hid (show v5.ownBlock ≠ some w5.heap.size from fun q => by have := (L5.out.lt _ q).2; omega)
      generalize ha6 : w5.alloc (Obj.cells #[.int .u16 (x.vid : Nat), .int .u32 (x.mem : Nat), .int .u32 (x.unt : Nat)] 53) = w6 at *
      clear ha6
      generalize w5.heap.size = gm at M6 N6 ⊢
      obtain ⟨v6, hv6⟩ : ∃ u, u = v5 := ⟨_, rfl⟩
      rw [← hv6] at L6 N6 ⊢
      clear hv6
      refine wpAnyH_ready (rs := [7]) (by kernel_rfl) (by simp) ?_
      refine AllReadyH.cons rfl (fun K hK => ?_) AllReadyH.nil
      obtain ⟨v7, w7, hrun, ol, hg, hv⟩ := L6.out.app (P := Try.prog) (t := 39) (ty := 39) M6.out.src Try.underlying39 HI.out HZ.out HS.out HBY.out rfl (by omega) vlC_len vlC_one
        (by unfold maxLen; simp) (by simp) (Nat.le_trans (Nat.le_of_eq ZE.out.symm) B6.out.size)
      rw [if_pos (by rfl)]
      refine wp_append_lst _ _ 39 rfl v7 w7 hrun ?_
      have hb := grown_below hg (fun i hi => (L6.out.lt i hi).1) (Nat.le_trans (Nat.le_of_eq ZE.out.symm) B6.out.size)
      have X7 := Lib.hid (X6.out.below hb ZX.out)
      refine hK.out _ _ X7.out (fun hHeld => ?_)
      clear hK K hHeld hrun
      (try simp only [Act.put, List.getElem_toArray, List.getElem_cons_succ, List.getElem_cons_zero, List.setIfInBounds_toArray, List.set_cons_zero, List.set_cons_succ])
      have B7 := Lib.hid (B6.out.trans hb)
      have L7 := Lib.hid ol
      have M7 := Lib.hid (M6.out.kept hg (.inr (fun q => N6.out q.symm)))
      have N7 := Lib.hid (show v7.ownBlock ≠ some gm from fun q => by
        rcases hv with c | c
        · exact N6.out (c ▸ q)
        · have := (M6.out.lt gm rfl).2
          rw [c] at q
          injection q with q
          omega)
      clear hb hg hv ol
      refine wpAnyH_ready (rs := [11]) (by kernel_rfl) (by simp) ?_
      refine AllReadyH.cons rfl (fun K hK => ?_) AllReadyH.nil
      obtain ⟨v8, w8, hrun, ol, hg, hv⟩ := L7.out.app (P := Try.prog) (t := 39) (ty := 39) (show Src w7 vlC (.slice none 0 0) [] from .inl ⟨rfl, rfl⟩) Try.underlying39 HI.out HZ.out HS.out HBY.out rfl (by omega) vlC_len vlC_one
        (by unfold maxLen; simp) (by simp) (Nat.le_trans (Nat.le_of_eq ZE.out.symm) B7.out.size)
      rw [if_pos (by rfl)]
      refine wp_append_lst _ _ 39 rfl v8 w8 hrun ?_
      have hb := grown_below hg (fun i hi => (L7.out.lt i hi).1) (Nat.le_trans (Nat.le_of_eq ZE.out.symm) B7.out.size)
      have X8 := Lib.hid (X7.out.below hb ZX.out)
      refine hK.out _ _ X8.out (fun hHeld => ?_)
      clear hK K hHeld hrun
      (try simp only [Act.put, List.getElem_toArray, List.getElem_cons_succ, List.getElem_cons_zero, List.setIfInBounds_toArray, List.set_cons_zero, List.set_cons_succ])
      have B8 := Lib.hid (B7.out.trans hb)
      have L8 := Lib.hid ol
      clear hb hg hv ol
      (refine wpAnyH_take (i := 12) (v := ?_) rfl (by kernel_rfl) (by kernel_rfl) (by kernel_rfl) (fun _ _ _ h => h) (Or.inl ⟨by rfl, ?_⟩) X8.out ?_; rotate_left; (· (intro w hSw; go_simp; try with_reducible rfl)); (try simp only [Act.put, List.getElem_toArray, List.getElem_cons_succ, List.getElem_cons_zero, List.setIfInBounds_toArray, List.set_cons_zero, List.set_cons_succ]))
      (refine wpAnyH_take (i := 13) (v := ?_) rfl (by kernel_rfl) (by kernel_rfl) (by kernel_rfl) (fun _ _ _ h => h) (Or.inl ⟨by rfl, ?_⟩) X8.out ?_; rotate_left; (· (intro w hSw; go_simp; try with_reducible rfl)); (try simp only [Act.put, List.getElem_toArray, List.getElem_cons_succ, List.getElem_cons_zero, List.setIfInBounds_toArray, List.set_cons_zero, List.set_cons_succ]))
      refine wpAnyH_done (by kernel_rfl) ?_ _
      go_wp2_with fail
      go_ret2
      exact ⟨_, ret_own R2.out, by rw [R1.out, HL0.out]; have := L8.out.mono HBASE.out; simpa using this, BW.out.trans (B8.out.mono ZW.out)⟩
    · go_simp
      have HS5 := Lib.hid (show Blk (w4.alloc (Obj.cells #[.int .u16 (x.vid : Nat), .int .u32 (x.mem : Nat), .int .u32 (x.unt : Nat)] 53)) bx (vlA x) 53 from X4.out.alloc _)
      refine hK.out _ _ HS5.out (fun hHeld => ?_)
      clear hK K hHeld HS5
      (try simp only [Act.put, List.getElem_toArray, List.getElem_cons_succ, List.getElem_cons_zero, List.setIfInBounds_toArray, List.set_cons_zero, List.set_cons_succ])
      have X5 := Lib.hid (X4.out.alloc (Obj.cells #[.int .u16 (x.vid : Nat), .int .u32 (x.mem : Nat), .int .u32 (x.unt : Nat)] 53))
      have B5 := Lib.hid (B4.out.alloc (Nat.le_trans (Nat.le_of_eq ZE.out.symm) B4.out.size) (Obj.cells #[.int .u16 (x.vid : Nat), .int .u32 (x.mem : Nat), .int .u32 (x.unt : Nat)] 53))
      have M5 := Lib.hid (show Own (w4.alloc (Obj.cells #[.int .u16 (x.vid : Nat), .int .u32 (x.mem : Nat), .int .u32 (x.unt : Nat)] 53)) Z 53 3 vlC (.slice (some ⟨w4.heap.size, 0, none⟩) 1 1) [x] from Own.lit w4 (Nat.le_trans (Nat.le_of_eq ZE.out.symm) B4.out.size) vlC_len [x] (by unfold maxLen; simp))
      have L5 := Lib.hid (L4.out.alloc (Obj.cells #[.int .u16 (x.vid : Nat), .int .u32 (x.mem : Nat), .int .u32 (x.unt : Nat)] 53))
      have N5 := Lib.hid (show v4.ownBlock ≠ some w4.heap.size from fun q => by have := (L4.out.lt _ q).2; omega)
      generalize ha5 : w4.alloc (Obj.cells #[.int .u16 (x.vid : Nat), .int .u32 (x.mem : Nat), .int .u32 (x.unt : Nat)] 53) = w5 at *
      clear ha5
      generalize w4.heap.size = gm at M5 N5 ⊢
      obtain ⟨v5, hv5⟩ : ∃ u, u = v4 := ⟨_, rfl⟩
      rw [← hv5] at L5 N5 ⊢
      clear hv5
      refine wpAnyH_ready (rs := [4]) (by kernel_rfl) (by simp) ?_
      refine AllReadyH.cons rfl (fun K hK => ?_) AllReadyH.nil
      obtain ⟨v6, w6, hrun, ol, hg, hv⟩ := L5.out.app (P := Try.prog) (t := 39) (ty := 39) (show Src w5 vlC (.slice none 0 0) [] from .inl ⟨rfl, rfl⟩) Try.underlying39 HI.out HZ.out HS.out HBY.out rfl (by omega) vlC_len vlC_one
        (by unfold maxLen; simp) (by simp) (Nat.le_trans (Nat.le_of_eq ZE.out.symm) B5.out.size)
      rw [if_pos (by rfl)]
      refine wp_append_lst _ _ 39 rfl v6 w6 hrun ?_
      have hb := grown_below hg (fun i hi => (L5.out.lt i hi).1) (Nat.le_trans (Nat.le_of_eq ZE.out.symm) B5.out.size)
      have X6 := Lib.hid (X5.out.below hb ZX.out)
      refine hK.out _ _ X6.out (fun hHeld => ?_)
      clear hK K hHeld hrun
      (try simp only [Act.put, List.getElem_toArray, List.getElem_cons_succ, List.getElem_cons_zero, List.setIfInBounds_toArray, List.set_cons_zero, List.set_cons_succ])
      have B6 := Lib.hid (B5.out.trans hb)
      have L6 := Lib.hid ol
      have M6 := Lib.hid (M5.out.kept hg (.inr (fun q => N5.out q.symm)))
      have N6 := Lib.hid (show v6.ownBlock ≠ some gm from fun q => by
        rcases hv with c | c
        · exact N5.out (c ▸ q)
        · have := (M5.out.lt gm rfl).2
          rw [c] at q
          injection q with q
          omega)
      clear hb hg hv ol
      refine wpAnyH_ready (rs := [7]) (by kernel_rfl) (by simp) ?_
      refine AllReadyH.cons rfl (fun K hK => ?_) AllReadyH.nil
      obtain ⟨v7, w7, hrun, ol, hg, hv⟩ := L6.out.app (P := Try.prog) (t := 39) (ty := 39) M6.out.src Try.underlying39 HI.out HZ.out HS.out HBY.out rfl (by omega) vlC_len vlC_one
        (by unfold maxLen; simp) (by simp) (Nat.le_trans (Nat.le_of_eq ZE.out.symm) B6.out.size)
      rw [if_pos (by rfl)]
      refine wp_append_lst _ _ 39 rfl v7 w7 hrun ?_
      have hb := grown_below hg (fun i hi => (L6.out.lt i hi).1) (Nat.le_trans (Nat.le_of_eq ZE.out.symm) B6.out.size)
      have X7 := Lib.hid (X6.out.below hb ZX.out)
      refine hK.out _ _ X7.out (fun hHeld => ?_)
      clear hK K hHeld hrun
      (try simp only [Act.put, List.getElem_toArray, List.getElem_cons_succ, List.getElem_cons_zero, List.setIfInBounds_toArray, List.set_cons_zero, List.set_cons_succ])
      have B7 := Lib.hid (B6.out.trans hb)
      have L7 := Lib.hid ol
      have M7 := Lib.hid (M6.out.kept hg (.inr (fun q => N6.out q.symm)))
      have N7 := Lib.hid (show v7.ownBlock ≠ some gm from fun q => by
        rcases hv with c | c
        · exact N6.out (c ▸ q)
        · have := (M6.out.lt gm rfl).2
          rw [c] at q
          injection q with q
          omega)
      clear hb hg hv ol
      refine wpAnyH_ready (rs := [11]) (by kernel_rfl) (by simp) ?_
      refine AllReadyH.cons rfl (fun K hK => ?_) AllReadyH.nil
      obtain ⟨v8, w8, hrun, ol, hg, hv⟩ := L7.out.app (P := Try.prog) (t := 39) (ty := 39) (show Src w7 vlC (.slice none 0 0) [] from .inl ⟨rfl, rfl⟩) Try.underlying39 HI.out HZ.out HS.out HBY.out rfl (by omega) vlC_len vlC_one
        (by unfold maxLen; simp) (by simp) (Nat.le_trans (Nat.le_of_eq ZE.out.symm) B7.out.size)
      rw [if_pos (by rfl)]
      refine wp_append_lst _ _ 39 rfl v8 w8 hrun ?_
      have hb := grown_below hg (fun i hi => (L7.out.lt i hi).1) (Nat.le_trans (Nat.le_of_eq ZE.out.symm) B7.out.size)
      have X8 := Lib.hid (X7.out.below hb ZX.out)
      refine hK.out _ _ X8.out (fun hHeld => ?_)
      clear hK K hHeld hrun
      (try simp only [Act.put, List.getElem_toArray, List.getElem_cons_succ, List.getElem_cons_zero, List.setIfInBounds_toArray, List.set_cons_zero, List.set_cons_succ])
      have B8 := Lib.hid (B7.out.trans hb)
      have L8 := Lib.hid ol
      clear hb hg hv ol
      (refine wpAnyH_take (i := 12) (v := ?_) rfl (by kernel_rfl) (by kernel_rfl) (by kernel_rfl) (fun _ _ _ h => h) (Or.inl ⟨by rfl, ?_⟩) X8.out ?_; rotate_left; (· (intro w hSw; go_simp; try with_reducible rfl)); (try simp only [Act.put, List.getElem_toArray, List.getElem_cons_succ, List.getElem_cons_zero, List.setIfInBounds_toArray, List.set_cons_zero, List.set_cons_succ]))
      (refine wpAnyH_take (i := 13) (v := ?_) rfl (by kernel_rfl) (by kernel_rfl) (by kernel_rfl) (fun _ _ _ h => h) (Or.inl ⟨by rfl, ?_⟩) X8.out ?_; rotate_left; (· (intro w hSw; go_simp; try with_reducible rfl)); (try simp only [Act.put, List.getElem_toArray, List.getElem_cons_succ, List.getElem_cons_zero, List.setIfInBounds_toArray, List.set_cons_zero, List.set_cons_succ]))
      refine wpAnyH_done (by kernel_rfl) ?_ _
      go_wp2_with fail
      go_ret2
      exact ⟨_, ret_own R2.out, by rw [R1.out, HL0.out]; have := L8.out.mono HBASE.out; simpa using this, BW.out.trans (B8.out.mono ZW.out)⟩
  · go_simp
    have HS4 := Lib.hid (show Blk (w3.alloc (Obj.cells #[.int .u16 (x.vid : Nat), .int .u32 (x.mem : Nat), .int .u32 (x.unt : Nat)] 53)) bx (vlA x) 53 from X3.out.alloc _)
    refine hK.out _ _ HS4.out (fun hHeld => ?_)
    clear hK K hHeld HS4
    (try simp only [Act.put, List.getElem_toArray, List.getElem_cons_succ, List.getElem_cons_zero, List.setIfInBounds_toArray, List.set_cons_zero, List.set_cons_succ])
    have X4 := Lib.hid (X3.out.alloc (Obj.cells #[.int .u16 (x.vid : Nat), .int .u32 (x.mem : Nat), .int .u32 (x.unt : Nat)] 53))
    have B4 := Lib.hid (B3.out.alloc (Nat.le_trans (Nat.le_of_eq ZE.out.symm) B3.out.size) (Obj.cells #[.int .u16 (x.vid : Nat), .int .u32 (x.mem : Nat), .int .u32 (x.unt : Nat)] 53))
    have M4 := Lib.hid (show Own (w3.alloc (Obj.cells #[.int .u16 (x.vid : Nat), .int .u32 (x.mem : Nat), .int .u32 (x.unt : Nat)] 53)) Z 53 3 vlC (.slice (some ⟨w3.heap.size, 0, none⟩) 1 1) [x] from Own.lit w3 (Nat.le_trans (Nat.le_of_eq ZE.out.symm) B3.out.size) vlC_len [x] (by unfold maxLen; simp))
    generalize ha4 : w3.alloc (Obj.cells #[.int .u16 (x.vid : Nat), .int .u32 (x.mem : Nat), .int .u32 (x.unt : Nat)] 53) = w4 at *
    clear ha4
    generalize w3.heap.size = gm at M4 ⊢
    refine wpAnyH_ready (rs := [0]) (by kernel_rfl) (by simp) ?_
    refine AllReadyH.cons rfl (fun K hK => ?_) AllReadyH.nil
    go_simp
    have HS5 := Lib.hid (show Blk (w4.alloc (Obj.cells #[] 53)) bx (vlA x) 53 from X4.out.alloc _)
    refine hK.out _ _ HS5.out (fun hHeld => ?_)
    clear hK K hHeld HS5
    (try simp only [Act.put, List.getElem_toArray, List.getElem_cons_succ, List.getElem_cons_zero, List.setIfInBounds_toArray, List.set_cons_zero, List.set_cons_succ])
    have X5 := Lib.hid (X4.out.alloc (Obj.cells #[] 53))
    have B5 := Lib.hid (B4.out.alloc (Nat.le_trans (Nat.le_of_eq ZE.out.symm) B4.out.size) (Obj.cells #[] 53))
    have L5 := Lib.hid (show Own (w4.alloc (Obj.cells #[] 53)) Z 53 3 vlC (.slice (some ⟨w4.heap.size, 0, none⟩) 0 0) [] from Own.made w4 (Nat.le_trans (Nat.le_of_eq ZE.out.symm) B4.out.size) vlC)
    have M5 := Lib.hid (M4.out.alloc (Obj.cells #[] 53))
    have N5 := Lib.hid (show (Value.slice (some ⟨w4.heap.size, 0, none⟩) 0 0).ownBlock ≠ some gm from fun q => by have := (M4.out.lt gm rfl).2; simp [Value.ownBlock] at q; omega)
    generalize ha5 : w4.alloc (Obj.cells #[] 53) = w5 at *
    clear ha5
    generalize Value.slice (some ⟨w4.heap.size, 0, none⟩) 0 0 = v5 at *
    refine wpAnyH_ready (rs := [4]) (by kernel_rfl) (by simp) ?_
    refine AllReadyH.cons rfl (fun K hK => ?_) AllReadyH.nil
    obtain ⟨v6, w6, hrun, ol, hg, hv⟩ := L5.out.app (P := Try.prog) (t := 39) (ty := 39) (show Src w5 vlC (.slice none 0 0) [] from .inl ⟨rfl, rfl⟩) Try.underlying39 HI.out HZ.out HS.out HBY.out rfl (by omega) vlC_len vlC_one
      (by unfold maxLen; simp) (by simp) (Nat.le_trans (Nat.le_of_eq ZE.out.symm) B5.out.size)
    rw [if_pos (by rfl)]
    refine wp_append_lst _ _ 39 rfl v6 w6 hrun ?_
    have hb := grown_below hg (fun i hi => (L5.out.lt i hi).1) (Nat.le_trans (Nat.le_of_eq ZE.out.symm) B5.out.size)
    have X6 := Lib.hid (X5.out.below hb ZX.out)
    refine hK.out _ _ X6.out (fun hHeld => ?_)
    clear hK K hHeld hrun
    (try simp only [Act.put, List.getElem_toArray, List.getElem_cons_succ, List.getElem_cons_zero, List.setIfInBounds_toArray, List.set_cons_zero, List.set_cons_succ])
    have B6 := Lib.hid (B5.out.trans hb)
    have L6 := Lib.hid ol
    have M6 := Lib.hid (M5.out.kept hg (.inr (fun q => N5.out q.symm)))
    have N6 := Lib.hid (show v6.ownBlock ≠ some gm from fun q => by
      rcases hv with c | c
      · exact N5.out (c ▸ q)
      · have := (M5.out.lt gm rfl).2
        rw [c] at q
        injection q with q
        omega)
    clear hb hg hv ol
    refine wpAnyH_ready (rs := [7]) (by kernel_rfl) (by simp) ?_
    refine AllReadyH.cons rfl (fun K hK => ?_) AllReadyH.nil
    obtain ⟨v7, w7, hrun, ol, hg, hv⟩ := L6.out.app (P := Try.prog) (t := 39) (ty := 39) M6.out.src Try.underlying39 HI.out HZ.out HS.out HBY.out rfl (by omega) vlC_len vlC_one
      (by unfold maxLen; simp) (by simp) (Nat.le_trans (Nat.le_of_eq ZE.out.symm) B6.out.size)
    rw [if_pos (by rfl)]
    refine wp_append_lst _ _ 39 rfl v7 w7 hrun ?_
    have hb := grown_below hg (fun i hi => (L6.out.lt i hi).1) (Nat.le_trans (Nat.le_of_eq ZE.out.symm) B6.out.size)
    have X7 := Lib.hid (X6.out.below hb ZX.out)
    refine hK.out _ _ X7.out (fun hHeld => ?_)
    clear hK K hHeld hrun
    (try simp only [Act.put, List.getElem_toArray, List.getElem_cons_succ, List.getElem_cons_zero, List.setIfInBounds_toArray, List.set_cons_zero, List.set_cons_succ])
    have B7 := Lib.hid (B6.out.trans hb)
    have L7 := Lib.hid ol
    have M7 := Lib.hid (M6.out.kept hg (.inr (fun q => N6.out q.symm)))
    have N7 := Lib.hid (show v7.ownBlock ≠ some gm from fun q => by
      rcases hv with c | c
      · exact N6.out (c ▸ q)
      · have := (M6.out.lt gm rfl).2
        rw [c] at q
        injection q with q
        omega)
    clear hb hg hv ol
    refine wpAnyH_ready (rs := [11]) (by kernel_rfl) (by simp) ?_
    refine AllReadyH.cons rfl (fun K hK => ?_) AllReadyH.nil
    obtain ⟨v8, w8, hrun, ol, hg, hv⟩ := L7.out.app (P := Try.prog) (t := 39) (ty := 39) (show Src w7 vlC (.slice none 0 0) [] from .inl ⟨rfl, rfl⟩) Try.underlying39 HI.out HZ.out HS.out HBY.out rfl (by omega) vlC_len vlC_one
      (by unfold maxLen; simp) (by simp) (Nat.le_trans (Nat.le_of_eq ZE.out.symm) B7.out.size)
    rw [if_pos (by rfl)]
    refine wp_append_lst _ _ 39 rfl v8 w8 hrun ?_
    have hb := grown_below hg (fun i hi => (L7.out.lt i hi).1) (Nat.le_trans (Nat.le_of_eq ZE.out.symm) B7.out.size)
    have X8 := Lib.hid (X7.out.below hb ZX.out)
    refine hK.out _ _ X8.out (fun hHeld => ?_)
    clear hK K hHeld hrun
    (try simp only [Act.put, List.getElem_toArray, List.getElem_cons_succ, List.getElem_cons_zero, List.setIfInBounds_toArray, List.set_cons_zero, List.set_cons_succ])
    have B8 := Lib.hid (B7.out.trans hb)
    have L8 := Lib.hid ol
    clear hb hg hv ol
    (refine wpAnyH_take (i := 12) (v := ?_) rfl (by kernel_rfl) (by kernel_rfl) (by kernel_rfl) (fun _ _ _ h => h) (Or.inl ⟨by rfl, ?_⟩) X8.out ?_; rotate_left; (· (intro w hSw; go_simp; try with_reducible rfl)); (try simp only [Act.put, List.getElem_toArray, List.getElem_cons_succ, List.getElem_cons_zero, List.setIfInBounds_toArray, List.set_cons_zero, List.set_cons_succ]))
    (refine wpAnyH_take (i := 13) (v := ?_) rfl (by kernel_rfl) (by kernel_rfl) (by kernel_rfl) (fun _ _ _ h => h) (Or.inl ⟨by rfl, ?_⟩) X8.out ?_; rotate_left; (· (intro w hSw; go_simp; try with_reducible rfl)); (try simp only [Act.put, List.getElem_toArray, List.getElem_cons_succ, List.getElem_cons_zero, List.setIfInBounds_toArray, List.set_cons_zero, List.set_cons_succ]))
    refine wpAnyH_done (by kernel_rfl) ?_ _
    go_wp2_with fail
    go_ret2
    exact ⟨_, ret_own R2.out, by rw [R1.out, HL0.out]; have := L8.out.mono HBASE.out; simpa using this, BW.out.trans (B8.out.mono ZW.out)⟩

theorem atV_neg {vid : Nat} {l : List Vl} (h : ¬ 0 ≤ atV vid l) : atV vid l = -1 := by have := (atV_lt vid l).1; omega
theorem rset_any (base : Nat) (v : Value) (l : List Vl) (x : Vl) (w : World) (h : Own w base 53 3 vlC v l) (hb : base ≤ w.heap.size) (hl : l.length ≤ 100) :
    Calls Try.prog 23 #[v, vlV x] w (OwnRes w base (setV l x) (setVE l x)) := by
  by_cases hg : goodV x ≠ 0
  · exact rset_bad base v l x w h hg
  by_cases ha : 0 ≤ atV x.vid l
  · exact rset_at base v l x w h hg hb hl (atV x.vid l).toNat (by omega)
  by_cases h16 : 16 ≤ l.length
  · exact rset_full base v l x w h hg hl (atV_neg ha) h16
  rcases h.cases with ⟨rfl, rfl⟩ | ⟨g, cap, rfl, -, -, hc⟩
  · exact rset_nil base x w hg hb
  · exact rset_new base g cap l x w h hg hb hc (by omega) (atV_neg ha)
theorem rdrop_any (base vid : Nat) (v : Value) (l : List Vl) (w : World) (h : Own w base 53 3 vlC v l) (hb : base ≤ w.heap.size) (hl : l.length ≤ 100) :
    Calls Try.prog 19 #[v, .int .u16 (vid : Nat)] w (OwnRes w base (dropV l vid) (dropE l vid)) := by
  by_cases ha : atV vid l < 0
  · exact rdrop_none base vid v l w h hl ha
  rcases h.cases with ⟨rfl, rfl⟩ | ⟨g, cap, rfl, -, -, hc⟩
  · exact absurd (show atV vid [] < 0 from (by show (-1 : Int) < 0; decide)) ha
  · exact rdrop_own base g cap vid (atV vid l).toNat l w h hc hb hl (by omega)
end Go.Proofs.Ytjipbdljljhijaa
