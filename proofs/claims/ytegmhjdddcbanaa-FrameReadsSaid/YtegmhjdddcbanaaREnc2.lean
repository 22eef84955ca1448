/- The document's own answer: the bytes of a frame that may be. -/
import Derived.Test.YtegmhjdddcbanaaREnc
namespace Go.Proofs.Ytegmhjdddcbanaa
open Go.RowKit

theorem rbytes2_is {v : Int} (t : Nat) (h : v = (t : Int)) (w : World) (ht : t < 65536) : Calls Try.prog 38 #[.int .u64 v, .int .i64 2] w fun e w' => e = .returned (.string ⟨(Nums.bytesN t 2).toArray⟩) ∧ Below w.heap.size w w' := by
  subst h
  exact rbytes_yes t 2 w (by omega) (by omega) (by omega)

set_option maxRecDepth 100000 in
set_option maxHeartbeats 8000000 in
theorem rencode_td (d s : Nat → Nat) (pc vi ty : Nat) (da : ByteArray) (w : World) (hd : Six d) (hs : Six s) (ht : ty < 65536) (hz : da.size ≤ 1600) (hp : pc ≤ 7) (hv : vi ≤ 4094) (hok : okF true pc true vi ty = true) :
    Calls Try.prog 26 #[.agg (frA d s true pc true vi ty da)] w fun e w' => e = .returned (.tuple #[.string (encS d s true pc true vi ty da), .int .i64 (encE true pc true vi ty da)]) ∧ Below w.heap.size w w' := by
  obtain ⟨arr, harr⟩ : ∃ arr, arr = frA d s true pc true vi ty da := ⟨_, rfl⟩
  obtain ⟨W, hW⟩ : ∃ W, W = w.alloc (Obj.cells arr 56) := ⟨_, rfl⟩
  have fq : Gq w w.heap.size d s true pc true vi ty da W := ⟨by rw [hW, ← harr]; exact Blk.new _ _ _, by rw [hW]; exact (Below.refl _ _).alloc (Nat.le_refl _) _⟩
  have HA := Lib.hid harr
  have HW := Lib.hid hW
  have HOK := Lib.hid hok
  have a12 : arr[12]? = some (.bool true) := by rw [harr]; rfl
  have a13 : arr[13]? = some (.int .u8 (pc : Nat)) := by rw [harr]; rfl
  have a14 : arr[14]? = some (.bool true) := by rw [harr]; rfl
  have a15 : arr[15]? = some (.int .u16 (vi : Nat)) := by rw [harr]; rfl
  have a16 : arr[16]? = some (.int .u16 (ty : Nat)) := by rw [harr]; rfl
  have p1 : (pc : Int) ≤ 7 := by omega
  have p2 : (vi : Int) ≤ 4094 := by omega
  rw [← harr]
  clear harr hW
  obtain ⟨bd, hbd⟩ : ∃ bd : ByteArray, bd = ⟨(six6 d).toArray⟩ := ⟨_, rfl⟩
  obtain ⟨bs, hbs⟩ : ∃ bs : ByteArray, bs = ⟨(six6 s).toArray⟩ := ⟨_, rfl⟩
  have zd : bd.size = 6 := by rw [hbd]; rfl
  have zs : bs.size = 6 := by rw [hbs]; rfl
  have BD := Lib.hid hbd
  have BS := Lib.hid hbs
  have add1 := hadd bd bs (by omega)
  have ZD := Lib.hid zd
  have ZS := Lib.hid zs
  have H6 := Lib.hid hd
  have K6 := Lib.hid hs
  clear hbd hbs zd zs hd hs hok
  go_enter Try.func26, Try.ntmps26
  go_upto_region 3 with fail
  rw [← HW.out]
  clear HW a12 a13 a14 a15 a16
  generalize hge : w.heap.size = g at *
  have HG := Lib.hid hge
  clear hge
  go_cut [4] (fun s4 wx => s4 = .string (bd ++ bs) ∧ Gq w g d s true pc true vi ty da wx)
  case first =>
    have hq := fq.drew.macs
    go_region_held3 (fun w' => w'.cell? ⟨g, 0, none⟩ = some (.int .u8 (d 0 : Nat)) ∧ w'.cell? ⟨g, 1, none⟩ = some (.int .u8 (d 1 : Nat)) ∧ w'.cell? ⟨g, 2, none⟩ = some (.int .u8 (d 2 : Nat)) ∧ w'.cell? ⟨g, 3, none⟩ = some (.int .u8 (d 3 : Nat)) ∧ w'.cell? ⟨g, 4, none⟩ = some (.int .u8 (d 4 : Nat)) ∧ w'.cell? ⟨g, 5, none⟩ = some (.int .u8 (d 5 : Nat)) ∧ w'.cell? ⟨g, 6, none⟩ = some (.int .u8 (s 0 : Nat)) ∧ w'.cell? ⟨g, 7, none⟩ = some (.int .u8 (s 1 : Nat)) ∧ w'.cell? ⟨g, 8, none⟩ = some (.int .u8 (s 2 : Nat)) ∧ w'.cell? ⟨g, 9, none⟩ = some (.int .u8 (s 3 : Nat)) ∧ w'.cell? ⟨g, 10, none⟩ = some (.int .u8 (s 4 : Nat)) ∧ w'.cell? ⟨g, 11, none⟩ = some (.int .u8 (s 5 : Nat)) ∧ Gq w g d s true pc true vi ty da w')
      (first | (exact hq) | (go_split_ands; exact (Gq.next (by assumption) hbx).macs))
      (first
        | (go_at_call 37; (with_reducible refine (text_any d _ H6.out).mono ?_); rintro e wx ⟨rfl, hbx⟩; rw [← BD.out])
        | (go_at_call 37; (with_reducible refine (text_any s _ K6.out).mono ?_); rintro e wx ⟨rfl, hbx⟩; rw [← BS.out]))
    all_goals
      go_split_ands
      go_wp2_with fail
      go_meet
      exact ⟨rfl, by assumption⟩
  case rest =>
      obtain ⟨rfl, fq3⟩ := hcut
      obtain ⟨c12, c13, c14, c15, c16, c17⟩ := fq3.six
      clear fq add1
      obtain ⟨t, hte⟩ : ∃ t, t = tagN pc true vi := ⟨_, rfl⟩
      have hte2 : t = 8192 * pc + vi + 4096 := by rw [hte]; simp [tagN]
      have ht6 : t < 65536 := by omega
      obtain ⟨bt, hbt⟩ : ∃ bt : ByteArray, bt = ⟨(Nums.bytesN t 2).toArray⟩ := ⟨_, rfl⟩
      obtain ⟨bm, hbm⟩ : ∃ bm : ByteArray, bm = ⟨#[129, 0]⟩ := ⟨_, rfl⟩
      have zt : bt.size = 2 := by rw [hbt]; exact sz2 t
      have zm : bm.size = 2 := by rw [hbm]; rfl
      have BT := Lib.hid hbt
      have BM := Lib.hid hbm
      have HT := Lib.hid hte
      have add2 := hadd ⟨#[129, 0]⟩ bt (by rw [← hbm]; omega)
      have add3 := hadd (bd ++ bs) (⟨#[129, 0]⟩ ++ bt) (by rw [← hbm]; have := ZD.out; have := ZS.out; simp only [ByteArray.size_append]; omega)
      have ZT := Lib.hid zt
      have ZM := Lib.hid (show (⟨#[129, 0]⟩ : ByteArray).size = 2 from rfl)
      have hpI : (pc : Int) ≤ 7 := by omega
      have hvI : (vi : Int) ≤ 4094 := by omega
      have HT2 := Lib.hid hte2
      have HTI : (t : Int) = 8192 * (pc : Int) + (vi : Int) + 4096 := by omega
      have HTI' := Lib.hid HTI
      clear hte hte2 hbt hbm zt zm HTI
      obtain ⟨bY, hby⟩ : ∃ bY : ByteArray, bY = ⟨(Nums.bytesN ty 2).toArray⟩ := ⟨_, rfl⟩
      have zy : bY.size = 2 := by rw [hby]; exact sz2 ty
      obtain ⟨out, hout⟩ : ∃ out : ByteArray, out = (bd ++ bs ++ (⟨#[129, 0]⟩ ++ bt)) ++ (bY ++ da) := ⟨_, rfl⟩
      have zo : out.size = lenF true da := by rw [hout]; simp only [ByteArray.size_append, lenF, if_true]; have := ZD.out; have := ZS.out; have := ZT.out; have := ZM.out; omega
      have hEnc := Lib.hid (show out = (⟨(encL d s true pc true vi ty da).toArray⟩ : ByteArray) by rw [hout, ← ByteArray.append_assoc]; exact (enc_true (pc := pc) (de := true) (vi := vi) BD.out BS.out rfl (by rw [BT.out, HT.out]) hby))
      have BYY := Lib.hid hby
      have OUT := Lib.hid hout
      have add4 := hadd bY da (by omega)
      have add5 := hadd ((bd ++ bs ++ (⟨#[129, 0]⟩ ++ bt))) (bY ++ da) (by simp only [ByteArray.size_append]; have := ZD.out; have := ZS.out; have := ZT.out; have := ZM.out; omega)
      have ZO := Lib.hid zo
      have HWT := Lib.hid (show IntKind.u64.wrap (ty : Int) = (ty : Int) by rw [IntKind.wrap_u64]; omega)
      have hty : (ty : Int) < 65536 := by omega
      clear hby zy hout zo
      go_upto_region 9 with (first
        | (go_at_call 38; refine (rbytes2_is t (by have := HTI'.out; omega) _ ht6).mono ?_; rintro e w4 ⟨rfl, hb4⟩; rw [← BT.out]
           have fq3 := fq3.next hb4))
      have hq := fq3.drew.tail
      go_cut [4] (fun s4 wx => s4 = .string out ∧ Gq w g d s true pc true vi ty da wx)
      case first =>
        go_region_held3 (fun w' => w'.cell? ⟨g, 16, none⟩ = some (.int .u16 (ty : Nat)) ∧ w'.cell? ⟨g, 17, none⟩ = some (.string da) ∧ Gq w g d s true pc true vi ty da w')
          (first | (exact hq) | (go_split_ands; exact (Gq.next (by assumption) hbx).tail))
          (first
            | (go_at_call 38; (try rw [HWT.out]); refine (rbytes2_is ty rfl _ ht).mono ?_; rintro e wx ⟨rfl, hbx⟩; rw [← BYY.out]))
        all_goals
          go_split_ands
          go_wp2_with fail
          go_meet
          exact ⟨by rw [OUT.out], by assumption⟩
      case rest =>
        obtain ⟨rfl, fq4⟩ := hcut
        have FE := Lib.hid fq4.below
        clear fq3 fq4 hq add4 add5
        by_cases hlen : 1518 < lenF true da
        · have E1 := Lib.hid (show encE true pc true vi ty da = 3 by unfold encE; rw [if_pos HOK.out, if_pos hlen])
          have E2 := Lib.hid (show encS d s true pc true vi ty da = ⟨#[]⟩ by unfold encS; rw [if_neg (by rw [E1.out]; omega)])
          have hl : (1518 : Int) < (out.size : Int) := by have := ZO.out; omega
          clear hlen
          go_wp2_with fail
          go_ret2
          exact ⟨ret_str E2.out.symm E1.out.symm, by rw [HG.out]; exact FE.out⟩
        · have E1 := Lib.hid (show encE true pc true vi ty da = 0 by unfold encE; rw [if_pos HOK.out, if_neg hlen])
          have E2 := Lib.hid (show encS d s true pc true vi ty da = out by unfold encS; rw [if_pos E1.out, hEnc.out])
          have hl : ¬ (1518 : Int) < (out.size : Int) := by have := ZO.out; omega
          clear hlen
          go_wp2_with fail
          go_ret2
          exact ⟨ret_str E2.out.symm E1.out.symm, by rw [HG.out]; exact FE.out⟩

set_option maxRecDepth 100000 in
set_option maxHeartbeats 8000000 in
theorem rencode_t (d s : Nat → Nat) (pc vi ty : Nat) (da : ByteArray) (w : World) (hd : Six d) (hs : Six s) (ht : ty < 65536) (hz : da.size ≤ 1600) (hp : pc ≤ 7) (hv : vi ≤ 4094) (hok : okF true pc false vi ty = true) :
    Calls Try.prog 26 #[.agg (frA d s true pc false vi ty da)] w fun e w' => e = .returned (.tuple #[.string (encS d s true pc false vi ty da), .int .i64 (encE true pc false vi ty da)]) ∧ Below w.heap.size w w' := by
  obtain ⟨arr, harr⟩ : ∃ arr, arr = frA d s true pc false vi ty da := ⟨_, rfl⟩
  obtain ⟨W, hW⟩ : ∃ W, W = w.alloc (Obj.cells arr 56) := ⟨_, rfl⟩
  have fq : Gq w w.heap.size d s true pc false vi ty da W := ⟨by rw [hW, ← harr]; exact Blk.new _ _ _, by rw [hW]; exact (Below.refl _ _).alloc (Nat.le_refl _) _⟩
  have HA := Lib.hid harr
  have HW := Lib.hid hW
  have HOK := Lib.hid hok
  have a12 : arr[12]? = some (.bool true) := by rw [harr]; rfl
  have a13 : arr[13]? = some (.int .u8 (pc : Nat)) := by rw [harr]; rfl
  have a14 : arr[14]? = some (.bool false) := by rw [harr]; rfl
  have a15 : arr[15]? = some (.int .u16 (vi : Nat)) := by rw [harr]; rfl
  have a16 : arr[16]? = some (.int .u16 (ty : Nat)) := by rw [harr]; rfl
  have p1 : (pc : Int) ≤ 7 := by omega
  have p2 : (vi : Int) ≤ 4094 := by omega
  rw [← harr]
  clear harr hW
  obtain ⟨bd, hbd⟩ : ∃ bd : ByteArray, bd = ⟨(six6 d).toArray⟩ := ⟨_, rfl⟩
  obtain ⟨bs, hbs⟩ : ∃ bs : ByteArray, bs = ⟨(six6 s).toArray⟩ := ⟨_, rfl⟩
  have zd : bd.size = 6 := by rw [hbd]; rfl
  have zs : bs.size = 6 := by rw [hbs]; rfl
  have BD := Lib.hid hbd
  have BS := Lib.hid hbs
  have add1 := hadd bd bs (by omega)
  have ZD := Lib.hid zd
  have ZS := Lib.hid zs
  have H6 := Lib.hid hd
  have K6 := Lib.hid hs
  clear hbd hbs zd zs hd hs hok
  go_enter Try.func26, Try.ntmps26
  go_upto_region 3 with fail
  rw [← HW.out]
  clear HW a12 a13 a14 a15 a16
  generalize hge : w.heap.size = g at *
  have HG := Lib.hid hge
  clear hge
  go_cut [4] (fun s4 wx => s4 = .string (bd ++ bs) ∧ Gq w g d s true pc false vi ty da wx)
  case first =>
    have hq := fq.drew.macs
    go_region_held3 (fun w' => w'.cell? ⟨g, 0, none⟩ = some (.int .u8 (d 0 : Nat)) ∧ w'.cell? ⟨g, 1, none⟩ = some (.int .u8 (d 1 : Nat)) ∧ w'.cell? ⟨g, 2, none⟩ = some (.int .u8 (d 2 : Nat)) ∧ w'.cell? ⟨g, 3, none⟩ = some (.int .u8 (d 3 : Nat)) ∧ w'.cell? ⟨g, 4, none⟩ = some (.int .u8 (d 4 : Nat)) ∧ w'.cell? ⟨g, 5, none⟩ = some (.int .u8 (d 5 : Nat)) ∧ w'.cell? ⟨g, 6, none⟩ = some (.int .u8 (s 0 : Nat)) ∧ w'.cell? ⟨g, 7, none⟩ = some (.int .u8 (s 1 : Nat)) ∧ w'.cell? ⟨g, 8, none⟩ = some (.int .u8 (s 2 : Nat)) ∧ w'.cell? ⟨g, 9, none⟩ = some (.int .u8 (s 3 : Nat)) ∧ w'.cell? ⟨g, 10, none⟩ = some (.int .u8 (s 4 : Nat)) ∧ w'.cell? ⟨g, 11, none⟩ = some (.int .u8 (s 5 : Nat)) ∧ Gq w g d s true pc false vi ty da w')
      (first | (exact hq) | (go_split_ands; exact (Gq.next (by assumption) hbx).macs))
      (first
        | (go_at_call 37; (with_reducible refine (text_any d _ H6.out).mono ?_); rintro e wx ⟨rfl, hbx⟩; rw [← BD.out])
        | (go_at_call 37; (with_reducible refine (text_any s _ K6.out).mono ?_); rintro e wx ⟨rfl, hbx⟩; rw [← BS.out]))
    all_goals
      go_split_ands
      go_wp2_with fail
      go_meet
      exact ⟨rfl, by assumption⟩
  case rest =>
      obtain ⟨rfl, fq3⟩ := hcut
      obtain ⟨c12, c13, c14, c15, c16, c17⟩ := fq3.six
      clear fq add1
      obtain ⟨t, hte⟩ : ∃ t, t = tagN pc false vi := ⟨_, rfl⟩
      have hte2 : t = 8192 * pc + vi + 0 := by rw [hte]; simp [tagN]
      have ht6 : t < 65536 := by omega
      obtain ⟨bt, hbt⟩ : ∃ bt : ByteArray, bt = ⟨(Nums.bytesN t 2).toArray⟩ := ⟨_, rfl⟩
      obtain ⟨bm, hbm⟩ : ∃ bm : ByteArray, bm = ⟨#[129, 0]⟩ := ⟨_, rfl⟩
      have zt : bt.size = 2 := by rw [hbt]; exact sz2 t
      have zm : bm.size = 2 := by rw [hbm]; rfl
      have BT := Lib.hid hbt
      have BM := Lib.hid hbm
      have HT := Lib.hid hte
      have add2 := hadd ⟨#[129, 0]⟩ bt (by rw [← hbm]; omega)
      have add3 := hadd (bd ++ bs) (⟨#[129, 0]⟩ ++ bt) (by rw [← hbm]; have := ZD.out; have := ZS.out; simp only [ByteArray.size_append]; omega)
      have ZT := Lib.hid zt
      have ZM := Lib.hid (show (⟨#[129, 0]⟩ : ByteArray).size = 2 from rfl)
      have hpI : (pc : Int) ≤ 7 := by omega
      have hvI : (vi : Int) ≤ 4094 := by omega
      have HT2 := Lib.hid hte2
      have HTI : (t : Int) = 8192 * (pc : Int) + (vi : Int) + 0 := by omega
      have HTI' := Lib.hid HTI
      clear hte hte2 hbt hbm zt zm HTI
      obtain ⟨bY, hby⟩ : ∃ bY : ByteArray, bY = ⟨(Nums.bytesN ty 2).toArray⟩ := ⟨_, rfl⟩
      have zy : bY.size = 2 := by rw [hby]; exact sz2 ty
      obtain ⟨out, hout⟩ : ∃ out : ByteArray, out = (bd ++ bs ++ (⟨#[129, 0]⟩ ++ bt)) ++ (bY ++ da) := ⟨_, rfl⟩
      have zo : out.size = lenF true da := by rw [hout]; simp only [ByteArray.size_append, lenF, if_true]; have := ZD.out; have := ZS.out; have := ZT.out; have := ZM.out; omega
      have hEnc := Lib.hid (show out = (⟨(encL d s true pc false vi ty da).toArray⟩ : ByteArray) by rw [hout, ← ByteArray.append_assoc]; exact (enc_true (pc := pc) (de := false) (vi := vi) BD.out BS.out rfl (by rw [BT.out, HT.out]) hby))
      have BYY := Lib.hid hby
      have OUT := Lib.hid hout
      have add4 := hadd bY da (by omega)
      have add5 := hadd ((bd ++ bs ++ (⟨#[129, 0]⟩ ++ bt))) (bY ++ da) (by simp only [ByteArray.size_append]; have := ZD.out; have := ZS.out; have := ZT.out; have := ZM.out; omega)
      have ZO := Lib.hid zo
      have HWT := Lib.hid (show IntKind.u64.wrap (ty : Int) = (ty : Int) by rw [IntKind.wrap_u64]; omega)
      have hty : (ty : Int) < 65536 := by omega
      clear hby zy hout zo
      go_upto_region 9 with (first
        | (go_at_call 38; refine (rbytes2_is t (by have := HTI'.out; omega) _ ht6).mono ?_; rintro e w4 ⟨rfl, hb4⟩; rw [← BT.out]
           have fq3 := fq3.next hb4))
      have hq := fq3.drew.tail
      go_cut [4] (fun s4 wx => s4 = .string out ∧ Gq w g d s true pc false vi ty da wx)
      case first =>
        go_region_held3 (fun w' => w'.cell? ⟨g, 16, none⟩ = some (.int .u16 (ty : Nat)) ∧ w'.cell? ⟨g, 17, none⟩ = some (.string da) ∧ Gq w g d s true pc false vi ty da w')
          (first | (exact hq) | (go_split_ands; exact (Gq.next (by assumption) hbx).tail))
          (first
            | (go_at_call 38; (try rw [HWT.out]); refine (rbytes2_is ty rfl _ ht).mono ?_; rintro e wx ⟨rfl, hbx⟩; rw [← BYY.out]))
        all_goals
          go_split_ands
          go_wp2_with fail
          go_meet
          exact ⟨by rw [OUT.out], by assumption⟩
      case rest =>
        obtain ⟨rfl, fq4⟩ := hcut
        have FE := Lib.hid fq4.below
        clear fq3 fq4 hq add4 add5
        by_cases hlen : 1518 < lenF true da
        · have E1 := Lib.hid (show encE true pc false vi ty da = 3 by unfold encE; rw [if_pos HOK.out, if_pos hlen])
          have E2 := Lib.hid (show encS d s true pc false vi ty da = ⟨#[]⟩ by unfold encS; rw [if_neg (by rw [E1.out]; omega)])
          have hl : (1518 : Int) < (out.size : Int) := by have := ZO.out; omega
          clear hlen
          go_wp2_with fail
          go_ret2
          exact ⟨ret_str E2.out.symm E1.out.symm, by rw [HG.out]; exact FE.out⟩
        · have E1 := Lib.hid (show encE true pc false vi ty da = 0 by unfold encE; rw [if_pos HOK.out, if_neg hlen])
          have E2 := Lib.hid (show encS d s true pc false vi ty da = out by unfold encS; rw [if_pos E1.out, hEnc.out])
          have hl : ¬ (1518 : Int) < (out.size : Int) := by have := ZO.out; omega
          clear hlen
          go_wp2_with fail
          go_ret2
          exact ⟨ret_str E2.out.symm E1.out.symm, by rw [HG.out]; exact FE.out⟩

set_option maxRecDepth 100000 in
set_option maxHeartbeats 8000000 in
theorem rencode_f (d s : Nat → Nat) (ty : Nat) (da : ByteArray) (w : World) (hd : Six d) (hs : Six s) (ht : ty < 65536) (hz : da.size ≤ 1600)  (hok : okF false 0 false 0 ty = true) :
    Calls Try.prog 26 #[.agg (frA d s false 0 false 0 ty da)] w fun e w' => e = .returned (.tuple #[.string (encS d s false 0 false 0 ty da), .int .i64 (encE false 0 false 0 ty da)]) ∧ Below w.heap.size w w' := by
  obtain ⟨arr, harr⟩ : ∃ arr, arr = frA d s false 0 false 0 ty da := ⟨_, rfl⟩
  obtain ⟨W, hW⟩ : ∃ W, W = w.alloc (Obj.cells arr 56) := ⟨_, rfl⟩
  have fq : Gq w w.heap.size d s false 0 false 0 ty da W := ⟨by rw [hW, ← harr]; exact Blk.new _ _ _, by rw [hW]; exact (Below.refl _ _).alloc (Nat.le_refl _) _⟩
  have HA := Lib.hid harr
  have HW := Lib.hid hW
  have HOK := Lib.hid hok
  have a12 : arr[12]? = some (.bool false) := by rw [harr]; rfl
  have a13 : arr[13]? = some (.int .u8 (0 : Nat)) := by rw [harr]; rfl
  have a14 : arr[14]? = some (.bool false) := by rw [harr]; rfl
  have a15 : arr[15]? = some (.int .u16 (0 : Nat)) := by rw [harr]; rfl
  have a16 : arr[16]? = some (.int .u16 (ty : Nat)) := by rw [harr]; rfl
  have f3 : ((ty : Int) == 33024) = false := by unfold okF at hok; simp at hok; simp; omega
  rw [← harr]
  clear harr hW
  obtain ⟨bd, hbd⟩ : ∃ bd : ByteArray, bd = ⟨(six6 d).toArray⟩ := ⟨_, rfl⟩
  obtain ⟨bs, hbs⟩ : ∃ bs : ByteArray, bs = ⟨(six6 s).toArray⟩ := ⟨_, rfl⟩
  have zd : bd.size = 6 := by rw [hbd]; rfl
  have zs : bs.size = 6 := by rw [hbs]; rfl
  have BD := Lib.hid hbd
  have BS := Lib.hid hbs
  have add1 := hadd bd bs (by omega)
  have ZD := Lib.hid zd
  have ZS := Lib.hid zs
  have H6 := Lib.hid hd
  have K6 := Lib.hid hs
  clear hbd hbs zd zs hd hs hok
  go_enter Try.func26, Try.ntmps26
  go_upto_region 3 with fail
  rw [← HW.out]
  clear HW a12 a13 a14 a15 a16
  generalize hge : w.heap.size = g at *
  have HG := Lib.hid hge
  clear hge
  go_cut [4] (fun s4 wx => s4 = .string (bd ++ bs) ∧ Gq w g d s false 0 false 0 ty da wx)
  case first =>
    have hq := fq.drew.macs
    go_region_held3 (fun w' => w'.cell? ⟨g, 0, none⟩ = some (.int .u8 (d 0 : Nat)) ∧ w'.cell? ⟨g, 1, none⟩ = some (.int .u8 (d 1 : Nat)) ∧ w'.cell? ⟨g, 2, none⟩ = some (.int .u8 (d 2 : Nat)) ∧ w'.cell? ⟨g, 3, none⟩ = some (.int .u8 (d 3 : Nat)) ∧ w'.cell? ⟨g, 4, none⟩ = some (.int .u8 (d 4 : Nat)) ∧ w'.cell? ⟨g, 5, none⟩ = some (.int .u8 (d 5 : Nat)) ∧ w'.cell? ⟨g, 6, none⟩ = some (.int .u8 (s 0 : Nat)) ∧ w'.cell? ⟨g, 7, none⟩ = some (.int .u8 (s 1 : Nat)) ∧ w'.cell? ⟨g, 8, none⟩ = some (.int .u8 (s 2 : Nat)) ∧ w'.cell? ⟨g, 9, none⟩ = some (.int .u8 (s 3 : Nat)) ∧ w'.cell? ⟨g, 10, none⟩ = some (.int .u8 (s 4 : Nat)) ∧ w'.cell? ⟨g, 11, none⟩ = some (.int .u8 (s 5 : Nat)) ∧ Gq w g d s false 0 false 0 ty da w')
      (first | (exact hq) | (go_split_ands; exact (Gq.next (by assumption) hbx).macs))
      (first
        | (go_at_call 37; (with_reducible refine (text_any d _ H6.out).mono ?_); rintro e wx ⟨rfl, hbx⟩; rw [← BD.out])
        | (go_at_call 37; (with_reducible refine (text_any s _ K6.out).mono ?_); rintro e wx ⟨rfl, hbx⟩; rw [← BS.out]))
    all_goals
      go_split_ands
      go_wp2_with fail
      go_meet
      exact ⟨rfl, by assumption⟩
  case rest =>
      obtain ⟨rfl, fq3⟩ := hcut
      obtain ⟨c12, c13, c14, c15, c16, c17⟩ := fq3.six
      clear fq add1
      obtain ⟨bY, hby⟩ : ∃ bY : ByteArray, bY = ⟨(Nums.bytesN ty 2).toArray⟩ := ⟨_, rfl⟩
      have zy : bY.size = 2 := by rw [hby]; exact sz2 ty
      obtain ⟨out, hout⟩ : ∃ out : ByteArray, out = (bd ++ bs) ++ (bY ++ da) := ⟨_, rfl⟩
      have zo : out.size = lenF false da := by rw [hout]; simp only [ByteArray.size_append, lenF]; have := ZD.out; have := ZS.out; simp; omega
      have hEnc := Lib.hid (show out = (⟨(encL d s false 0 false 0 ty da).toArray⟩ : ByteArray) by rw [hout, ← ByteArray.append_assoc]; exact (enc_false BD.out BS.out hby))
      have BYY := Lib.hid hby
      have OUT := Lib.hid hout
      have add4 := hadd bY da (by omega)
      have add5 := hadd ((bd ++ bs)) (bY ++ da) (by simp only [ByteArray.size_append]; have := ZD.out; have := ZS.out; omega)
      have ZO := Lib.hid zo
      have HWT := Lib.hid (show IntKind.u64.wrap (ty : Int) = (ty : Int) by rw [IntKind.wrap_u64]; omega)
      have hty : (ty : Int) < 65536 := by omega
      clear hby zy hout zo
      go_upto_region 9 with fail
      have hq := fq3.drew.tail
      go_cut [4] (fun s4 wx => s4 = .string out ∧ Gq w g d s false 0 false 0 ty da wx)
      case first =>
        go_region_held3 (fun w' => w'.cell? ⟨g, 16, none⟩ = some (.int .u16 (ty : Nat)) ∧ w'.cell? ⟨g, 17, none⟩ = some (.string da) ∧ Gq w g d s false 0 false 0 ty da w')
          (first | (exact hq) | (go_split_ands; exact (Gq.next (by assumption) hbx).tail))
          (first
            | (go_at_call 38; (try rw [HWT.out]); refine (rbytes2_is ty rfl _ ht).mono ?_; rintro e wx ⟨rfl, hbx⟩; rw [← BYY.out]))
        all_goals
          go_split_ands
          go_wp2_with fail
          go_meet
          exact ⟨by rw [OUT.out], by assumption⟩
      case rest =>
        obtain ⟨rfl, fq4⟩ := hcut
        have FE := Lib.hid fq4.below
        clear fq3 fq4 hq add4 add5
        by_cases hlen : 1518 < lenF false da
        · have E1 := Lib.hid (show encE false 0 false 0 ty da = 3 by unfold encE; rw [if_pos HOK.out, if_pos hlen])
          have E2 := Lib.hid (show encS d s false 0 false 0 ty da = ⟨#[]⟩ by unfold encS; rw [if_neg (by rw [E1.out]; omega)])
          have hl : (1518 : Int) < (out.size : Int) := by have := ZO.out; omega
          clear hlen
          go_wp2_with fail
          go_ret2
          exact ⟨ret_str E2.out.symm E1.out.symm, by rw [HG.out]; exact FE.out⟩
        · have E1 := Lib.hid (show encE false 0 false 0 ty da = 0 by unfold encE; rw [if_pos HOK.out, if_neg hlen])
          have E2 := Lib.hid (show encS d s false 0 false 0 ty da = out by unfold encS; rw [if_pos E1.out, hEnc.out])
          have hl : ¬ (1518 : Int) < (out.size : Int) := by have := ZO.out; omega
          clear hlen
          go_wp2_with fail
          go_ret2
          exact ⟨ret_str E2.out.symm E1.out.symm, by rw [HG.out]; exact FE.out⟩

end Go.Proofs.Ytegmhjdddcbanaa
