/- frame.Encode of a frame that has bytes. -/
import Derived.Test.YtpjfpcebjneblaaEnc
namespace Go.Proofs.Ytpjfpcebjneblaa
open Go.RowKit

theorem bytes6_of (x : Nat) (w : World) : Calls Try.prog 37 #[.int .u64 x, .int .i64 6] w fun e w' => e = .returned (.string ⟨(Nums.bytesN x 6).toArray⟩) ∧ Below w.heap.size w w' := bytes_yes x 6 w (by omega) (by omega)
theorem bytes2_of (x : Nat) (w : World) : Calls Try.prog 37 #[.int .u64 x, .int .i64 2] w fun e w' => e = .returned (.string ⟨(Nums.bytesN x 2).toArray⟩) ∧ Below w.heap.size w w' := bytes_yes x 2 w (by omega) (by omega)
theorem bytesM_of (w : World) : Calls Try.prog 37 #[.int .u64 33024, .int .i64 2] w fun e w' => e = .returned (.string ⟨#[129, 0]⟩) ∧ Below w.heap.size w w' := by
  have := bytes_yes 33024 2 w (by omega) (by omega)
  rwa [show Nums.bytesN 33024 2 = [129, 0] by decide] at this

theorem hadd (a b : ByteArray) (h : a.size + b.size ≤ 9223372036854775807) : ∀ W, (Op.stringOp .add a b).run Try.prog W = .ok (.string (a ++ b)) W := fun _ => run_string_add_sum _ _ _ h

theorem tag_of {d s : Nat → Nat} {pc : Nat} {de : Bool} {vi ty : Nat} {da : ByteArray} (w : World) (hp : pc ≤ 7) (hv : vi ≤ 4094) :
    Calls Try.prog 46 #[.agg (frA d s true pc de vi ty da)] w fun e w' => e = .returned (.int .u64 (tagN pc de vi : Nat)) ∧ Below w.heap.size w w' := tag_any d s pc de vi ty da w hp hv

theorem sz2 (x : Nat) : (⟨(Nums.bytesN x 2).toArray⟩ : ByteArray).size = 2 := by show (Nums.bytesN x 2).toArray.size = 2; simp [Nums.bytesN_length]

theorem app_list (a b : ByteArray) : (a ++ b).data.toList = a.data.toList ++ b.data.toList := by simp

theorem enc_true {d s : Nat → Nat} {pc : Nat} {de : Bool} {vi ty : Nat} {da bd bs bm bt bY : ByteArray} (h1 : bd = ⟨(six6 d).toArray⟩) (h2 : bs = ⟨(six6 s).toArray⟩) (h3 : bm = ⟨#[129, 0]⟩) (h4 : bt = ⟨(Nums.bytesN (tagN pc de vi) 2).toArray⟩) (h5 : bY = ⟨(Nums.bytesN ty 2).toArray⟩) :
    (bd ++ bs) ++ (bm ++ bt) ++ bY ++ da = (⟨(encL d s true pc de vi ty da).toArray⟩ : ByteArray) := by
  apply ByteArray.ext
  apply Array.ext'
  rw [app_list, app_list, app_list, app_list, app_list, h1, h2, h3, h4, h5]
  simp [encL]

theorem enc_false {d s : Nat → Nat} {pc : Nat} {de : Bool} {vi ty : Nat} {da bd bs bY : ByteArray} (h1 : bd = ⟨(six6 d).toArray⟩) (h2 : bs = ⟨(six6 s).toArray⟩) (h5 : bY = ⟨(Nums.bytesN ty 2).toArray⟩) :
    (bd ++ bs) ++ bY ++ da = (⟨(encL d s false pc de vi ty da).toArray⟩ : ByteArray) := by
  apply ByteArray.ext
  apply Array.ext'
  rw [app_list, app_list, app_list, h1, h2, h5]
  simp [encL]

set_option maxRecDepth 100000 in
set_option maxHeartbeats 8000000 in
theorem encode_ok (d s : Nat → Nat) (tg : Bool) (pc : Nat) (de : Bool) (vi ty : Nat) (da : ByteArray) (w : World) (hd : Six d) (hs : Six s) (ht : ty < 65536) (hz : da.size ≤ 1600) (hok : okF tg pc de vi ty = true) (hlen : ¬ 1518 < lenF tg da) :
    Calls Try.prog 24 #[.agg (frA d s tg pc de vi ty da)] w fun e w' => e = .returned (.tuple #[.string (encS d s tg pc de vi ty da), .int .i64 (encE tg pc de vi ty da)]) ∧ Below w.heap.size w w' := by
  obtain ⟨arr, harr⟩ : ∃ arr, arr = frA d s tg pc de vi ty da := ⟨_, rfl⟩
  have HA := Lib.hid harr
  have R := Lib.hid (Blk.new w arr 46)
  have hb := (Below.refl w.heap.size w).alloc (Nat.le_refl _) (Obj.cells arr 46)
  have hsz : (Try.prog.info? 46).map (·.size) = some arr.size := by rw [harr]; exact size52
  have HSZ := Lib.hid hsz
  rw [← harr]
  clear harr hsz
  have HWT := Lib.hid (show IntKind.u64.wrap (ty : Int) = (ty : Int) by rw [IntKind.wrap_u64]; omega)
  have E1 := Lib.hid (show encE tg pc de vi ty da = 0 by unfold encE; rw [if_pos hok, if_neg hlen])
  have E2 := Lib.hid (show encS d s tg pc de vi ty da = ⟨(encL d s tg pc de vi ty da).toArray⟩ by unfold encS; rw [if_pos E1.out])
  have HOK := Lib.hid hok
  obtain ⟨n, hn⟩ : ∃ n, n = lenF tg da := ⟨_, rfl⟩
  have HN := Lib.hid hn
  have hnl : ¬ (1518 : Int) < (n : Int) := by omega
  obtain ⟨x, hx⟩ : ∃ x, x = numF d 6 := ⟨_, rfl⟩
  obtain ⟨y, hy⟩ : ∃ y, y = numF s 6 := ⟨_, rfl⟩
  obtain ⟨bd, hbd⟩ : ∃ bd : ByteArray, bd = ⟨(six6 d).toArray⟩ := ⟨_, rfl⟩
  obtain ⟨bs, hbs⟩ : ∃ bs : ByteArray, bs = ⟨(six6 s).toArray⟩ := ⟨_, rfl⟩
  have zd : bd.size = 6 := by rw [hbd]; rfl
  have zs : bs.size = 6 := by rw [hbs]; rfl
  have X := Lib.hid hx.symm
  have Y := Lib.hid hy.symm
  have BX := Lib.hid (show (⟨(Nums.bytesN x 6).toArray⟩ : ByteArray) = bd by rw [hx, bytes_six d hd, hbd])
  have BY := Lib.hid (show (⟨(Nums.bytesN y 6).toArray⟩ : ByteArray) = bs by rw [hy, bytes_six s hs, hbs])
  have BD := Lib.hid hbd
  have BS := Lib.hid hbs
  have add1 := hadd bd bs (by omega)
  have ZD := Lib.hid zd
  have ZS := Lib.hid zs
  have H6 := Lib.hid hd
  have K6 := Lib.hid hs
  clear hok hlen hn hx hy hbd hbs zd zs hd hs
  go_enter Try.func24, Try.ntmps24
  go_upto_region 5 with (first
    | (refine wpList_load_row rfl 46 _ rfl w.heap.size rfl 46 _ (0, 0) _ R.out Try.underlying46 rfl HSZ.out ?_)
    | (go_at_call 43; refine (mayBe_of HA.out _).mono ?_; rintro e w1 ⟨rfl, hb1⟩; rw [HOK.out]
       have R := Lib.hid (R.out.below hb1 (by simp)))
    | (go_at_call 44; refine (size_of HA.out _ hz).mono ?_; rintro e w2 ⟨rfl, hb2⟩; rw [← HN.out]))
  have fq : Fq w w.heap.size d s tg pc de vi ty da w2 := ⟨by rw [← HA.out]; exact R.out.below hb2 R.out.lt, (hb.trans (hb1.mono hb.size)).trans (hb2.mono (Nat.le_trans hb.size hb1.size))⟩
  clear hb hb1 hb2 R
  generalize hge : w.heap.size = g at *
  have HG := Lib.hid hge
  clear hge
  go_cut [4] (fun s4 wx => s4 = .string (bd ++ bs) ∧ Fq w g d s tg pc de vi ty da wx)
  case first =>
    have hq := fq.drew.macs
    go_region_held3 (fun w' => w'.cell? ⟨g, 0, none⟩ = some (.int .u8 (d 0 : Nat)) ∧ w'.cell? ⟨g, 1, none⟩ = some (.int .u8 (d 1 : Nat)) ∧ w'.cell? ⟨g, 2, none⟩ = some (.int .u8 (d 2 : Nat)) ∧ w'.cell? ⟨g, 3, none⟩ = some (.int .u8 (d 3 : Nat)) ∧ w'.cell? ⟨g, 4, none⟩ = some (.int .u8 (d 4 : Nat)) ∧ w'.cell? ⟨g, 5, none⟩ = some (.int .u8 (d 5 : Nat)) ∧ w'.cell? ⟨g, 6, none⟩ = some (.int .u8 (s 0 : Nat)) ∧ w'.cell? ⟨g, 7, none⟩ = some (.int .u8 (s 1 : Nat)) ∧ w'.cell? ⟨g, 8, none⟩ = some (.int .u8 (s 2 : Nat)) ∧ w'.cell? ⟨g, 9, none⟩ = some (.int .u8 (s 3 : Nat)) ∧ w'.cell? ⟨g, 10, none⟩ = some (.int .u8 (s 4 : Nat)) ∧ w'.cell? ⟨g, 11, none⟩ = some (.int .u8 (s 5 : Nat)) ∧ Fq w g d s tg pc de vi ty da w')
      (first | (exact hq) | (go_split_ands; exact (Fq.next (by assumption) hbx).macs))
      (first
        | (go_at_call 45; (with_reducible refine (int_any d _ H6.out).mono ?_); rintro e wx ⟨rfl, hbx⟩; rw [X.out])
        | (go_at_call 45; (with_reducible refine (int_any s _ K6.out).mono ?_); rintro e wx ⟨rfl, hbx⟩; rw [Y.out])
        | (go_at_call 37; (with_reducible refine (bytes6_of x _).mono ?_); rintro e wx ⟨rfl, hbx⟩; rw [BX.out])
        | (go_at_call 37; (with_reducible refine (bytes6_of y _).mono ?_); rintro e wx ⟨rfl, hbx⟩; rw [BY.out]))
    all_goals
      go_split_ands
      go_wp2_with fail
      go_meet
      exact ⟨rfl, by assumption⟩
  case rest =>
    obtain ⟨rfl, fq2⟩ := hcut
    clear fq
    cases tg with
    | true =>
      have hpv : pc ≤ 7 ∧ vi ≤ 4094 := by have h := HOK.out; unfold okF at h; simpa using h
      obtain ⟨hp7, hv4⟩ := hpv
      obtain ⟨t, hte⟩ : ∃ t, t = tagN pc de vi := ⟨_, rfl⟩
      obtain ⟨bt, hbt⟩ : ∃ bt : ByteArray, bt = ⟨(Nums.bytesN t 2).toArray⟩ := ⟨_, rfl⟩
      obtain ⟨bm, hbm⟩ : ∃ bm : ByteArray, bm = ⟨#[129, 0]⟩ := ⟨_, rfl⟩
      have zt : bt.size = 2 := by rw [hbt]; exact sz2 t
      have zm : bm.size = 2 := by rw [hbm]; rfl
      have BT := Lib.hid hbt
      have BM := Lib.hid hbm
      have HT := Lib.hid hte.symm
      have add2 := hadd bm bt (by omega)
      have add3 := hadd (bd ++ bs) (bm ++ bt) (by have := ZD.out; have := ZS.out; simp only [ByteArray.size_append]; omega)
      have ZT := Lib.hid zt
      have ZM := Lib.hid zm
      have hq := fq2.drew.whole
      have c12 : wc.cell? ⟨g, 12, none⟩ = some (.bool true) := fq2.row.cell 12
      clear hte hbt hbm zt zm
      go_upto_region 7 with fail
      go_cut [4] (fun s4 wx => s4 = .string ((bd ++ bs) ++ (bm ++ bt)) ∧ Fq w g d s true pc de vi ty da wx)
      case first =>
        go_region_held3 (fun w' => w'.cell? ⟨g, 0, none⟩ = some (.int .u8 (d 0 : Nat)) ∧ w'.cell? ⟨g, 1, none⟩ = some (.int .u8 (d 1 : Nat)) ∧ w'.cell? ⟨g, 2, none⟩ = some (.int .u8 (d 2 : Nat)) ∧ w'.cell? ⟨g, 3, none⟩ = some (.int .u8 (d 3 : Nat)) ∧ w'.cell? ⟨g, 4, none⟩ = some (.int .u8 (d 4 : Nat)) ∧ w'.cell? ⟨g, 5, none⟩ = some (.int .u8 (d 5 : Nat)) ∧ w'.cell? ⟨g, 6, none⟩ = some (.int .u8 (s 0 : Nat)) ∧ w'.cell? ⟨g, 7, none⟩ = some (.int .u8 (s 1 : Nat)) ∧ w'.cell? ⟨g, 8, none⟩ = some (.int .u8 (s 2 : Nat)) ∧ w'.cell? ⟨g, 9, none⟩ = some (.int .u8 (s 3 : Nat)) ∧ w'.cell? ⟨g, 10, none⟩ = some (.int .u8 (s 4 : Nat)) ∧ w'.cell? ⟨g, 11, none⟩ = some (.int .u8 (s 5 : Nat)) ∧ w'.cell? ⟨g, 12, none⟩ = some (.bool true) ∧ w'.cell? ⟨g, 13, none⟩ = some (.int .u8 (pc : Nat)) ∧ w'.cell? ⟨g, 14, none⟩ = some (.bool de) ∧ w'.cell? ⟨g, 15, none⟩ = some (.int .u16 (vi : Nat)) ∧ w'.cell? ⟨g, 16, none⟩ = some (.int .u16 (ty : Nat)) ∧ w'.cell? ⟨g, 17, none⟩ = some (.string da) ∧ Fq w g d s true pc de vi ty da w')
          (first | (exact hq) | (go_split_ands; exact (Fq.next (by assumption) hbx).whole))
          (first
            | (go_at_call 46; refine (tag_of _ hp7 hv4).mono ?_; rintro e wx ⟨rfl, hbx⟩; rw [HT.out])
            | (go_at_call 37; (with_reducible refine (bytesM_of _).mono ?_); rintro e wx ⟨rfl, hbx⟩; rw [← BM.out])
            | (go_at_call 37; (with_reducible refine (bytes2_of t _).mono ?_); rintro e wx ⟨rfl, hbx⟩; rw [← BT.out]))
        all_goals
          go_split_ands
          go_wp2_with fail
          go_meet
          exact ⟨rfl, by assumption⟩
      case rest =>
        obtain ⟨rfl, fq3⟩ := hcut
        clear fq2 hq add1 add2 add3
        obtain ⟨bY, hby⟩ : ∃ bY : ByteArray, bY = ⟨(Nums.bytesN ty 2).toArray⟩ := ⟨_, rfl⟩
        have BYY := Lib.hid hby
        have zy : bY.size = 2 := by rw [hby]; exact sz2 ty
        have z1 : (bd ++ bs ++ (bm ++ bt)).size ≤ 40 := by simp only [ByteArray.size_append]; have := ZD.out; have := ZS.out; have := ZT.out; have := ZM.out; omega
        generalize hfr : bd ++ bs ++ (bm ++ bt) = fr at *
        have FR := Lib.hid hfr.symm
        have add4 := hadd fr bY (by omega)
        have add5 := hadd (fr ++ bY) da (by rw [ByteArray.size_append]; omega)
        have ZR := Lib.hid E1.out
        clear hby zy z1 hfr
        have hq := fq3.drew.tail
        have hty : (ty : Int) < 65536 := by omega
        clear fq3
        go_wp2_with fail
        go_region_held3 (fun w' => w'.cell? ⟨g, 16, none⟩ = some (.int .u16 (ty : Nat)) ∧ w'.cell? ⟨g, 17, none⟩ = some (.string da) ∧ Fq w g d s true pc de vi ty da w')
          (first | (exact hq) | (go_split_ands; exact (Fq.next (by assumption) hbx).tail))
          (first
            | (go_at_call 37; (try rw [HWT.out]); (with_reducible refine (bytes2_of ty _).mono ?_); rintro e wx ⟨rfl, hbx⟩; rw [← BYY.out]))
        all_goals
          go_split_ands
          go_wp2_with fail
          go_ret2
          exact ⟨ret_str (by rw [E2.out, FR.out]; exact enc_true BD.out BS.out BM.out (by rw [BT.out, HT.out]) BYY.out) E1.out.symm, by rw [HG.out]; exact (show Fq w g d s true pc de vi ty da wx by assumption).below⟩
    | false =>
      have fq3 := fq2
      have c12 : wc.cell? ⟨g, 12, none⟩ = some (.bool false) := fq2.row.cell 12
      clear fq2 add1
      obtain ⟨bY, hby⟩ : ∃ bY : ByteArray, bY = ⟨(Nums.bytesN ty 2).toArray⟩ := ⟨_, rfl⟩
      have BYY := Lib.hid hby
      have zy : bY.size = 2 := by rw [hby]; exact sz2 ty
      have z1 : (bd ++ bs).size ≤ 40 := by simp only [ByteArray.size_append]; have := ZD.out; have := ZS.out; omega
      generalize hfr : bd ++ bs = fr at *
      have FR := Lib.hid hfr.symm
      have add4 := hadd fr bY (by omega)
      have add5 := hadd (fr ++ bY) da (by rw [ByteArray.size_append]; omega)
      have ZR := Lib.hid E1.out
      clear hby zy z1 hfr
      have hq := fq3.drew.tail
      have hty : (ty : Int) < 65536 := by omega
      clear fq3
      go_wp2_with fail
      go_region_held3 (fun w' => w'.cell? ⟨g, 16, none⟩ = some (.int .u16 (ty : Nat)) ∧ w'.cell? ⟨g, 17, none⟩ = some (.string da) ∧ Fq w g d s false pc de vi ty da w')
        (first | (exact hq) | (go_split_ands; exact (Fq.next (by assumption) hbx).tail))
        (first
          | (go_at_call 37; (try rw [HWT.out]); (with_reducible refine (bytes2_of ty _).mono ?_); rintro e wx ⟨rfl, hbx⟩; rw [← BYY.out]))
      all_goals
        go_split_ands
        go_wp2_with fail
        go_ret2
        exact ⟨ret_str (by rw [E2.out, FR.out]; exact enc_false BD.out BS.out BYY.out) E1.out.symm, by rw [HG.out]; exact (show Fq w g d s false pc de vi ty da wx by assumption).below⟩

theorem encode_any (d s : Nat → Nat) (tg : Bool) (pc : Nat) (de : Bool) (vi ty : Nat) (da : ByteArray) (w : World) (hd : Six d) (hs : Six s) (ht : ty < 65536) (hz : da.size ≤ 1600) :
    Calls Try.prog 24 #[.agg (frA d s tg pc de vi ty da)] w fun e w' => e = .returned (.tuple #[.string (encS d s tg pc de vi ty da), .int .i64 (encE tg pc de vi ty da)]) ∧ Below w.heap.size w w' := by
  by_cases h : okF tg pc de vi ty = true ∧ ¬ 1518 < lenF tg da
  · exact encode_ok d s tg pc de vi ty da w hd hs ht hz h.1 h.2
  · refine encode_no d s tg pc de vi ty da w hz ?_
    cases ho : okF tg pc de vi ty with
    | false => exact .inl rfl
    | true =>
      right
      rw [ho] at h
      simp at h
      exact h
end Go.Proofs.Ytpjfpcebjneblaa
