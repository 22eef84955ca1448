/- What is encoded is decoded again. -/
import Derived.Test.YtegmhjdddcbanaaDec2
import Derived.Test.YtegmhjdddcbanaaREnc2
namespace Go.Proofs.Ytegmhjdddcbanaa
open Go.RowKit

theorem two_bytes (x : Nat) : Nums.bytesN x 2 = [UInt8.ofNat (x / 256 % 256), UInt8.ofNat (x % 256)] := by simp [Nums.bytesN]

theorem enc_t (d s : Nat → Nat) (pc : Nat) (de : Bool) (vi ty : Nat) (da : ByteArray) : encL d s true pc de vi ty da =
    [UInt8.ofNat (d 0), UInt8.ofNat (d 1), UInt8.ofNat (d 2), UInt8.ofNat (d 3), UInt8.ofNat (d 4), UInt8.ofNat (d 5), UInt8.ofNat (s 0), UInt8.ofNat (s 1), UInt8.ofNat (s 2), UInt8.ofNat (s 3), UInt8.ofNat (s 4), UInt8.ofNat (s 5), 129, 0,
      UInt8.ofNat (tagN pc de vi / 256 % 256), UInt8.ofNat (tagN pc de vi % 256), UInt8.ofNat (ty / 256 % 256), UInt8.ofNat (ty % 256)] ++ da.data.toList := by
  simp [encL, six6, two_bytes]

theorem enc_f (d s : Nat → Nat) (pc : Nat) (de : Bool) (vi ty : Nat) (da : ByteArray) : encL d s false pc de vi ty da =
    [UInt8.ofNat (d 0), UInt8.ofNat (d 1), UInt8.ofNat (d 2), UInt8.ofNat (d 3), UInt8.ofNat (d 4), UInt8.ofNat (d 5), UInt8.ofNat (s 0), UInt8.ofNat (s 1), UInt8.ofNat (s 2), UInt8.ofNat (s 3), UInt8.ofNat (s 4), UInt8.ofNat (s 5),
      UInt8.ofNat (ty / 256 % 256), UInt8.ofNat (ty % 256)] ++ da.data.toList := by
  simp [encL, six6, two_bytes]

theorem at_list (l : List UInt8) (i n : Nat) (h : n < 256) (e : l[i]? = some (UInt8.ofNat n)) : byteAt' ⟨l.toArray⟩ i = n := by
  unfold byteAt'
  show (l.getD i 0).toNat = n
  rw [List.getD_eq_getElem?_getD, e]
  exact ofNat_nat n h

theorem back_t (d s : Nat → Nat) (pc : Nat) (de : Bool) (vi ty : Nat) (da : ByteArray) (hd : Six d) (hs : Six s) (hp : pc ≤ 7) (hv : vi ≤ 4094) (ht : ty < 65536) (hl : 18 + da.size ≤ 1518) :
    decE ⟨(encL d s true pc de vi ty da).toArray⟩ = 0 ∧ decA ⟨(encL d s true pc de vi ty da).toArray⟩ = frA d s true pc de vi ty da := by
  rw [enc_t]
  obtain ⟨x, hx⟩ : ∃ x, x = tagN pc de vi := ⟨_, rfl⟩
  have hxl : x < 65536 ∧ x / 8192 = pc ∧ decide (x / 4096 % 2 = 1) = de ∧ x % 4096 = vi := by
    rw [hx]
    unfold tagN
    cases de
    · refine ⟨by simp; omega, by simp; omega, by simp; omega, by simp; omega⟩
    · refine ⟨by simp; omega, by simp; omega, by simp; omega, by simp; omega⟩
  rw [← hx]
  clear hx
  obtain ⟨x1, x2, x3, x4⟩ := hxl
  have hsz : (⟨([UInt8.ofNat (d 0), UInt8.ofNat (d 1), UInt8.ofNat (d 2), UInt8.ofNat (d 3), UInt8.ofNat (d 4), UInt8.ofNat (d 5), UInt8.ofNat (s 0), UInt8.ofNat (s 1), UInt8.ofNat (s 2), UInt8.ofNat (s 3), UInt8.ofNat (s 4), UInt8.ofNat (s 5), 129, 0, UInt8.ofNat (x / 256 % 256), UInt8.ofNat (x % 256), UInt8.ofNat (ty / 256 % 256), UInt8.ofNat (ty % 256)] ++ da.data.toList).toArray⟩ : ByteArray).size = 18 + da.size := by
    show (List.toArray _).size = _
    rw [List.size_toArray, List.length_append, Array.length_toList]
    rfl
  obtain ⟨l, hle⟩ : ∃ l, l = [UInt8.ofNat (d 0), UInt8.ofNat (d 1), UInt8.ofNat (d 2), UInt8.ofNat (d 3), UInt8.ofNat (d 4), UInt8.ofNat (d 5), UInt8.ofNat (s 0), UInt8.ofNat (s 1), UInt8.ofNat (s 2), UInt8.ofNat (s 3), UInt8.ofNat (s 4), UInt8.ofNat (s 5), 129, 0, UInt8.ofNat (x / 256 % 256), UInt8.ofNat (x % 256), UInt8.ofNat (ty / 256 % 256), UInt8.ofNat (ty % 256)] ++ da.data.toList := ⟨_, rfl⟩
  rw [← hle] at hsz ⊢
  have w12 : wordAt ⟨l.toArray⟩ 12 = 33024 := by
    unfold wordAt
    rw [at_list l 12 129 (by omega) (by rw [hle]; rfl), at_list l 13 0 (by omega) (by rw [hle]; rfl)]
  have w14 : wordAt ⟨l.toArray⟩ 14 = x := by
    unfold wordAt
    rw [at_list l 14 (x / 256 % 256) (by omega) (by rw [hle]; rfl), at_list l 15 (x % 256) (by omega) (by rw [hle]; rfl)]
    omega
  have w16 : wordAt ⟨l.toArray⟩ 16 = ty := by
    unfold wordAt
    rw [at_list l 16 (ty / 256 % 256) (by omega) (by rw [hle]; rfl), at_list l 17 (ty % 256) (by omega) (by rw [hle]; rfl)]
    omega
  have htg : tgB ⟨l.toArray⟩ = true := by unfold tgB; rw [w12]; rfl
  have hE : decE ⟨l.toArray⟩ = 0 := by
    unfold decE
    rw [hsz, if_neg (by omega), if_neg (by omega), if_pos htg, if_neg (by omega), w14, x4, if_neg (by omega)]
  refine ⟨hE, ?_⟩
  unfold decA
  rw [if_pos hE, if_pos htg, w14, w16, x2, x3, x4]
  have hex : (⟨l.toArray⟩ : ByteArray).extract 18 (⟨l.toArray⟩ : ByteArray).size = da := by
    apply ByteArray.ext
    apply Array.ext'
    rw [ext_list, hsz]
    show (l.drop 18).take _ = _
    rw [hle]
    show (da.data.toList).take _ = _
    rw [List.take_of_length_le (by rw [Array.length_toList]; show da.size ≤ _; omega)]
  rw [hex]
  refine frA_congr ?_ ?_
  · obtain ⟨h0, h1, h2, h3, h4, h5⟩ := hd
    apply mac_congr
    intro i hi
    match i, hi with
    | 0, _ => exact at_list l 0 (d 0) h0 (by rw [hle]; rfl)
    | 1, _ => exact at_list l 1 (d 1) h1 (by rw [hle]; rfl)
    | 2, _ => exact at_list l 2 (d 2) h2 (by rw [hle]; rfl)
    | 3, _ => exact at_list l 3 (d 3) h3 (by rw [hle]; rfl)
    | 4, _ => exact at_list l 4 (d 4) h4 (by rw [hle]; rfl)
    | 5, _ => exact at_list l 5 (d 5) h5 (by rw [hle]; rfl)
  · obtain ⟨h0, h1, h2, h3, h4, h5⟩ := hs
    apply mac_congr
    intro i hi
    match i, hi with
    | 0, _ => exact at_list l 6 (s 0) h0 (by rw [hle]; rfl)
    | 1, _ => exact at_list l 7 (s 1) h1 (by rw [hle]; rfl)
    | 2, _ => exact at_list l 8 (s 2) h2 (by rw [hle]; rfl)
    | 3, _ => exact at_list l 9 (s 3) h3 (by rw [hle]; rfl)
    | 4, _ => exact at_list l 10 (s 4) h4 (by rw [hle]; rfl)
    | 5, _ => exact at_list l 11 (s 5) h5 (by rw [hle]; rfl)

theorem back_f (d s : Nat → Nat) (ty : Nat) (da : ByteArray) (hd : Six d) (hs : Six s) (ht : ty < 65536) (hne : ty ≠ 33024) (hl : 14 + da.size ≤ 1518) :
    decE ⟨(encL d s false 0 false 0 ty da).toArray⟩ = 0 ∧ decA ⟨(encL d s false 0 false 0 ty da).toArray⟩ = frA d s false 0 false 0 ty da := by
  rw [enc_f]
  have hsz : (⟨([UInt8.ofNat (d 0), UInt8.ofNat (d 1), UInt8.ofNat (d 2), UInt8.ofNat (d 3), UInt8.ofNat (d 4), UInt8.ofNat (d 5), UInt8.ofNat (s 0), UInt8.ofNat (s 1), UInt8.ofNat (s 2), UInt8.ofNat (s 3), UInt8.ofNat (s 4), UInt8.ofNat (s 5), UInt8.ofNat (ty / 256 % 256), UInt8.ofNat (ty % 256)] ++ da.data.toList).toArray⟩ : ByteArray).size = 14 + da.size := by
    show (List.toArray _).size = _
    rw [List.size_toArray, List.length_append, Array.length_toList]
    rfl
  obtain ⟨l, hle⟩ : ∃ l, l = [UInt8.ofNat (d 0), UInt8.ofNat (d 1), UInt8.ofNat (d 2), UInt8.ofNat (d 3), UInt8.ofNat (d 4), UInt8.ofNat (d 5), UInt8.ofNat (s 0), UInt8.ofNat (s 1), UInt8.ofNat (s 2), UInt8.ofNat (s 3), UInt8.ofNat (s 4), UInt8.ofNat (s 5), UInt8.ofNat (ty / 256 % 256), UInt8.ofNat (ty % 256)] ++ da.data.toList := ⟨_, rfl⟩
  rw [← hle] at hsz ⊢
  have w12 : wordAt ⟨l.toArray⟩ 12 = ty := by
    unfold wordAt
    rw [at_list l 12 (ty / 256 % 256) (by omega) (by rw [hle]; rfl), at_list l 13 (ty % 256) (by omega) (by rw [hle]; rfl)]
    omega
  have htg : ¬ tgB ⟨l.toArray⟩ = true := by unfold tgB; rw [w12]; simpa using hne
  have hE : decE ⟨l.toArray⟩ = 0 := by
    unfold decE
    rw [hsz, if_neg (by omega), if_neg (by omega), if_neg htg]
  refine ⟨hE, ?_⟩
  unfold decA
  rw [if_pos hE, if_neg htg, w12]
  have hex : (⟨l.toArray⟩ : ByteArray).extract 14 (⟨l.toArray⟩ : ByteArray).size = da := by
    apply ByteArray.ext
    apply Array.ext'
    rw [ext_list, hsz]
    show (l.drop 14).take _ = _
    rw [hle]
    show (da.data.toList).take _ = _
    rw [List.take_of_length_le (by rw [Array.length_toList]; show da.size ≤ _; omega)]
  rw [hex]
  refine frA_congr ?_ ?_
  · obtain ⟨h0, h1, h2, h3, h4, h5⟩ := hd
    apply mac_congr
    intro i hi
    match i, hi with
    | 0, _ => exact at_list l 0 (d 0) h0 (by rw [hle]; rfl)
    | 1, _ => exact at_list l 1 (d 1) h1 (by rw [hle]; rfl)
    | 2, _ => exact at_list l 2 (d 2) h2 (by rw [hle]; rfl)
    | 3, _ => exact at_list l 3 (d 3) h3 (by rw [hle]; rfl)
    | 4, _ => exact at_list l 4 (d 4) h4 (by rw [hle]; rfl)
    | 5, _ => exact at_list l 5 (d 5) h5 (by rw [hle]; rfl)
  · obtain ⟨h0, h1, h2, h3, h4, h5⟩ := hs
    apply mac_congr
    intro i hi
    match i, hi with
    | 0, _ => exact at_list l 6 (s 0) h0 (by rw [hle]; rfl)
    | 1, _ => exact at_list l 7 (s 1) h1 (by rw [hle]; rfl)
    | 2, _ => exact at_list l 8 (s 2) h2 (by rw [hle]; rfl)
    | 3, _ => exact at_list l 9 (s 3) h3 (by rw [hle]; rfl)
    | 4, _ => exact at_list l 10 (s 4) h4 (by rw [hle]; rfl)
    | 5, _ => exact at_list l 11 (s 5) h5 (by rw [hle]; rfl)

theorem okF_true {pc : Nat} {de : Bool} {vi ty : Nat} (h : okF true pc de vi ty = true) : pc ≤ 7 ∧ vi ≤ 4094 := by unfold okF at h; simpa using h
theorem okF_false {pc : Nat} {de : Bool} {vi ty : Nat} (h : okF false pc de vi ty = true) : pc = 0 ∧ de = false ∧ vi = 0 ∧ ty ≠ 33024 := by
  unfold okF at h
  simp at h
  exact ⟨h.1.1.1, h.1.1.2, h.1.2, h.2⟩

/-- What is encoded is decoded again. -/
theorem dec_enc (d s : Nat → Nat) (tg : Bool) (pc : Nat) (de : Bool) (vi ty : Nat) (da : ByteArray) (hd : Six d) (hs : Six s) (ht : ty < 65536) (he : encE tg pc de vi ty da = 0) :
    decE (encS d s tg pc de vi ty da) = 0 ∧ decA (encS d s tg pc de vi ty da) = frA d s tg pc de vi ty da := by
  have hS : encS d s tg pc de vi ty da = ⟨(encL d s tg pc de vi ty da).toArray⟩ := by unfold encS; rw [if_pos he]
  rw [hS]
  unfold encE at he
  split at he
  · rename_i hok
    split at he
    · omega
    · rename_i hlen
      cases tg with
      | true =>
        obtain ⟨h1, h2⟩ := okF_true hok
        simp only [lenF, if_true] at hlen
        exact back_t d s pc de vi ty da hd hs h1 h2 ht (by omega)
      | false =>
        obtain ⟨rfl, rfl, rfl, h4⟩ := okF_false hok
        simp [lenF] at hlen
        exact back_f d s ty da hd hs ht h4 (by omega)
  · omega

theorem rencode_any (d s : Nat → Nat) (tg : Bool) (pc : Nat) (de : Bool) (vi ty : Nat) (da : ByteArray) (w : World) (hd : Six d) (hs : Six s) (ht : ty < 65536) (hz : da.size ≤ 1600) :
    Calls Try.prog 26 #[.agg (frA d s tg pc de vi ty da)] w fun e w' => e = .returned (.tuple #[.string (encS d s tg pc de vi ty da), .int .i64 (encE tg pc de vi ty da)]) ∧ Below w.heap.size w w' := by
  cases hok : okF tg pc de vi ty with
  | false => exact rencode_no d s tg pc de vi ty da w hok
  | true =>
    cases tg with
    | true =>
      obtain ⟨h1, h2⟩ := okF_true hok
      cases de with
      | true => exact rencode_td d s pc vi ty da w hd hs ht hz h1 h2 hok
      | false => exact rencode_t d s pc vi ty da w hd hs ht hz h1 h2 hok
    | false =>
      obtain ⟨rfl, rfl, rfl, _⟩ := okF_false hok
      exact rencode_f d s ty da w hd hs ht hz hok
end Go.Proofs.Ytegmhjdddcbanaa
