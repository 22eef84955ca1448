/- Sections, as they are read. -/
import Derived.Test.YtmbafeemiclmeaaTv6
namespace Go.Proofs.Ytmbafeemiclmeaa
open Go.RowKit
set_option linter.unusedSimpArgs false
set_option linter.unusedVariables false

theorem info54 : (Try.prog.info? 54).map (fun i => (i.zero, i.size, i.bytes)) = some (some (.agg #[.int .u8 0, .string ⟨#[]⟩]), 2, 24) := by kernel_rfl
theorem info55 : (Try.prog.info? 55).map (fun i => (i.zero, i.size, i.bytes)) = some (some (.agg #[.int .u8 0, .string ⟨#[]⟩]), 2, 24) := by kernel_rfl
theorem info_three {t : TypeId} {z : Option Value} {s b : Nat} (h : (Try.prog.info? t).map (fun i => (i.zero, i.size, i.bytes)) = some (z, s, b)) : ∃ i, Try.prog.info? t = some i ∧ i.zero = z ∧ i.size = s ∧ i.bytes = b := by
  cases c : Try.prog.info? t with
  | none => rw [c] at h; cases h
  | some i =>
    rw [c] at h
    simp only [Option.map_some, Option.some.injEq, Prod.mk.injEq] at h
    exact ⟨i, rfl, h.1, h.2.1, h.2.2⟩
/-- One more section behind a list. -/
theorem app_sec {w : World} {B : Nat} {v : Value} {l : List Sec} {t e ty : TypeId} (x : Sec) (h : Own w B e 2 secC v l) (hl : l.length ≤ 1000000) (hB : B ≤ w.heap.size) (ht : Try.prog.underlying t = some (.slice e)) (hi : (Try.prog.info? e).map (fun i => (i.zero, i.size, i.bytes)) = some (some (.agg #[.int .u8 0, .string ⟨#[]⟩]), 2, 24)) :
    ∃ v' w', (Builtin.append_ #[t, t] ty #[v, .slice (some ⟨w.heap.size, 0, none⟩) 1 1]).run Try.prog (w.alloc (.cells #[bv x.k, .string x.d] e)) = .ok v' w' ∧ Own w' B e 2 secC v' (l ++ [x]) ∧ w.grownBy w' v.ownBlock := by
  obtain ⟨i, h1, h2, h3, h4⟩ := info_three hi
  have hs : Src (w.alloc (.cells #[bv x.k, .string x.d] e)) secC (.slice (some ⟨w.heap.size, 0, none⟩) 1 1) [x] := by
    refine .inr ⟨⟨w.heap.size, 0, none⟩, 1, rfl, fun j u hu => ?_⟩
    rw [cellsL_one] at hu
    have hb := (Blk.new w #[bv x.k, .string x.d] e).cell j
    have e2 : (⟨w.heap.size, 0, none⟩ : Addr).add j = ⟨w.heap.size, j, none⟩ := by cases j <;> simp [Addr.add]
    rw [e2, hb]
    simpa [secC] using hu
  obtain ⟨v', w', q1, q2, q3, -⟩ := (h.alloc (.cells #[bv x.k, .string x.d] e)).app (P := Try.prog) (t := t) (ty := ty) hs ht h1 h2 h3 h4 rfl (by omega) secC_len secC_one (by unfold maxLen; simp; omega) (by simp; omega) (by simp; omega)
  exact ⟨v', w', q1, q2, grown_trans (World.grownBy_alloc _ _ _) q3⟩
theorem ext_ext (b : ByteArray) (i j k : Nat) : (b.extract i b.size).extract j k = b.extract (i + j) (i + k) := by
  refine bytes_ext ?_
  have e : (b.data.toList.drop i).take (b.size - i) = b.data.toList.drop i := List.take_of_length_le (by rw [List.length_drop, size_list]; exact Nat.le_refl _)
  rw [ext_list, ext_list, ext_list, e, List.drop_drop, show i + k - (i + j) = k - j by omega]
theorem ext_size (b : ByteArray) (i j : Nat) (h : j ≤ b.size) : (b.extract i j).size = j - i := by rw [← size_list, ext_list, List.length_take, List.length_drop, size_list]; omega
theorem ext_rest (b : ByteArray) (i j : Nat) (h : i ≤ b.size) : (b.extract i b.size).extract j (b.extract i b.size).size = b.extract (i + j) b.size := by
  rw [ext_ext, ext_size _ _ _ (Nat.le_refl _), show i + (b.size - i) = b.size by omega]
theorem head_num (b : ByteArray) (h : 0 < b.size) : Nums.numL (b.extract 0 1).data.toList = (b.data.toList.headD 0).toNat := by
  rw [ext_list]
  have := size_list b
  cases c : b.data.toList with
  | nil => rw [c] at this; simp at this; omega
  | cons x l => simp [Nums.numL]
def spR (o : Option (List Sec)) (n : Int) (P : List Sec → Prop) : Prop := match o with | some l => n = 0 ∧ P l | none => n = 4
def restSize (w : World) (g : Nat) : Nat := match w.cell? ⟨g, 0, none⟩ with | some (.string r) => r.size | _ => 0
theorem Rd.restSize {w : World} {g : Nat} {rest : ByteArray} {b : Bool} (h : Rd w g rest b) : restSize w g = rest.size := by
  have := h.cellAt 0 (by simp)
  unfold Go.Proofs.Ytmbafeemiclmeaa.restSize
  rw [this]
  rfl
theorem numL4 (b : ByteArray) (i : Nat) : Nums.numL (b.extract i (i + 4)).data.toList < 4294967296 := by
  have h := Nums.numL_lt (b.extract i (i + 4)).data.toList
  have : (b.extract i (i + 4)).data.toList.length ≤ 4 := by rw [ext_list, List.length_take]; omega
  have : 256 ^ (b.extract i (i + 4)).data.toList.length ≤ 256 ^ 4 := Nat.pow_le_pow_right (by omega) this
  omega
theorem endN_ne (r : ByteArray) : endN r false ≠ 2 := by
  unfold endN
  split
  · contradiction
  · split <;> decide
theorem own_ne {w : World} {B : Nat} {e : TypeId} {v : Value} {l : List Sec} (h : Own w (B + 1) e 2 secC v l) : some B ≠ v.ownBlock := fun q => by
  have := (h.lt B q.symm).1
  omega
theorem step_app {w w5 : World} {B : Nat} {v : Value} {l : List Sec} (x : Sec) (h : Own w (B + 1) 54 2 secC v l) (hg : w.grownBy w5 (some B)) (hl : l.length ≤ 1000000) (hB : B + 1 ≤ w.heap.size) :
    ∃ v' w', (Builtin.append_ #[24, 24] 24 #[v, .slice (some ⟨w5.heap.size, 0, none⟩) 1 1]).run Try.prog (w5.alloc (.cells #[bv x.k, .string x.d] 54)) = .ok v' w' ∧ Own w' (B + 1) 54 2 secC v' (l ++ [x]) ∧ w5.grownBy w' v.ownBlock :=
  app_sec x (h.kept hg (.inr fun q => own_ne h q.symm)) hl (Nat.le_trans hB hg.size) Try.underlying24 info54
theorem grown_low {w w' : World} {B : Nat} {r : Option Nat} (h : w.grownBy w' r) (hr : ∀ k, r = some k → B ≤ k) (hB : B ≤ w.heap.size) : Below B w w' := grown_below h hr hB
set_option maxRecDepth 100000 in
set_option maxHeartbeats 4000000 in
theorem split_any (s : ByteArray) (w : World) (hs : s.size ≤ 1000000) :
    Calls Try.prog 25 #[.string s] w fun e w' => ∃ sv n, e = .returned (.tuple #[sv, .int .i64 n]) ∧ spR (splitB (s.size + 1) s) n (Own w' w.heap.size 54 2 secC sv) ∧ Below w.heap.size w w' := by
  go_enter Try.func25, Try.ntmps25
  go_upto_region 3 with (go_at_call 34; refine (read_any s w).mono ?_; rintro e w1 ⟨rfl, hR, hb, hsz⟩)
  obtain ⟨B, hB⟩ : ∃ B, B = w.heap.size := ⟨_, rfl⟩
  rw [← hB] at hR hb hsz ⊢
  have HBB := Lib.hid hB
  have HR := Lib.hid hR
  have HB := Lib.hid hb
  have HSZ := Lib.hid (show B + 1 ≤ w1.heap.size by omega)
  clear hB hR hb hsz
  go_loopw [4] (fun v wr => ∃ (acc : List Sec) (rest : ByteArray) (f : Nat), Own wr (B + 1) 54 2 secC v acc ∧ Rd wr B rest false ∧ Below B w wr ∧ B + 1 ≤ wr.heap.size ∧ splitB (s.size + 1) s = (splitB f rest).map (acc ++ ·) ∧ rest.size < f ∧ acc.length + rest.size ≤ s.size) (fun _ wr => restSize wr B)
  case atStart => exact ⟨[], s, s.size + 1, Own.nil _ _ _ _ _, HR.out, HB.out, HSZ.out, by simp, by omega, by simp⟩
  case round =>
    obtain ⟨acc, rest, f, hown, hR, hB, hsz, hsp, hf, hal⟩ := hrel
    have HO := Lib.hid hown
    have HR1 := Lib.hid hR
    have HB1 := Lib.hid hB
    have HSP := Lib.hid hsp
    have HM := Lib.hid hR.restSize
    clear hown hR hB hsp HR HB HSZ
    obtain ⟨f, rfl⟩ : ∃ g, f = g + 1 := ⟨f - 1, by omega⟩
    by_cases c0 : rest.size = 0
    · have hsp := HSP.out
      have e : splitB (f + 1) rest = some [] := by simp [splitB, c0]
      rw [e] at hsp
      have HSP2 := Lib.hid hsp
      clear hsp e HSP
      go_wp2_with (go_at_call 37; refine (left_any B rest false _ HR1.out).mono ?_; rintro e w2 ⟨rfl, rfl⟩)
      go_ret2
      refine ⟨_, _, rfl, ?_, by rw [← HBB.out]; exact HB1.out⟩
      rw [HSP2.out]
      simp only [Option.map_some, List.append_nil]
      exact ⟨rfl, HO.out.mono (by have := HBB.out; omega)⟩
    · have c1 : (0 : Int) < (rest.size : Int) := by omega
      have hk := Lib.hid (head_num rest (by omega))
      obtain ⟨kb, hkb⟩ : ∃ kb, kb = rest.data.toList.headD 0 := ⟨_, rfl⟩
      rw [← hkb] at hk
      have HKB := Lib.hid hkb
      have hk256 := kb.toNat_lt
      have q1 : (kb.toNat : Int) % 256 = (kb.toNat : Int) := by omega
      have z1 := ext_size rest 1 rest.size (Nat.le_refl _)
      obtain ⟨r1, hr1⟩ : ∃ r, r = rest.extract 1 rest.size := ⟨_, rfl⟩
      have HR1E := Lib.hid hr1
      rw [← hr1] at z1
      clear hkb hr1
      by_cases c5 : rest.size < 5
      · have e : splitB (f + 1) rest = none := by unfold splitB; rw [if_neg c0, if_pos c5]
        have hsp := HSP.out
        rw [e] at hsp
        have HSP2 := Lib.hid hsp
        clear hsp e HSP
        go_upto_region 4 with (go_at_call 37; refine (left_any B rest false _ HR1.out).mono ?_; rintro e w2 ⟨rfl, rfl⟩)
        go_wp2_with (fail)
        refine (num_good B 1 rest _ HR1.out (by omega) (by omega) (by omega)).mono ?_
        rintro e w3 ⟨rfl, hR3, hg3⟩
        rw [hk.out]
        rw [← HR1E.out] at hR3
        go_wp2_with (fail)
        refine (num_bad B 4 r1 false _ hR3 (by omega) (by omega) (by omega)).mono ?_
        rintro e w4 ⟨rfl, hR4, hg4⟩
        go_upto_region 5 with fail
        go_wp2_with (fail)
        refine (raw_bad B 0 r1 true _ hR4 (.inl rfl)).mono ?_
        rintro e w5 ⟨rfl, hR5, hg⟩
        have hg5 := grown_trans (grown_trans hg3 hg4) hg
        clear hg3 hg4 hg hR3 hR4
        obtain ⟨v', w6, hrun, hown6, hg6⟩ := step_app ⟨kb, ⟨#[]⟩⟩ HO.out hg5 (by omega) hsz
        have hR6 := Has.grown hR5 hg6 (own_ne HO.out)
        have HO6 := Lib.hid hown6
        have HB6 := Lib.hid ((HB1.out.trans (grown_low hg5 (fun k e => by cases e; exact Nat.le_refl _) (by omega))).trans (grown_low hg6 (fun k e => by have := (HO.out.lt k e).1; omega) (by have := hg5.size; omega)))
        have hsz6 : B + 1 ≤ w6.heap.size := by have := hg5.size; have := hg6.size; omega
        clear hown6 hg6 hR5 hg5
        go_upto_region 6 with (at_builtin; refine wpList_append_lst rfl _ _ 24 rfl v' w6 hrun ?_)
        clear hrun
        go_wp2_with (go_at_call 38; refine (end_any B r1 true _ hR6).mono ?_; rintro e w7 ⟨rfl, rfl⟩)
        go_ret2
        refine ⟨_, _, rfl, ?_, by rw [← HBB.out]; exact HB6.out⟩
        rw [HSP2.out]
        rfl
      · have z5 : 5 ≤ rest.size := by omega
        obtain ⟨N, hN⟩ : ∃ N, N = Nums.numL (rest.extract 1 5).data.toList := ⟨_, rfl⟩
        have hN4 : N < 4294967296 := by rw [hN]; exact numL4 rest 1
        have e14 : r1.extract 0 4 = rest.extract 1 5 := by rw [HR1E.out, ext_ext]
        have e5 : r1.extract 4 r1.size = rest.extract 5 rest.size := by rw [HR1E.out, ext_rest _ _ _ (by omega)]
        obtain ⟨r2, hr2⟩ : ∃ r, r = rest.extract 5 rest.size := ⟨_, rfl⟩
        have z2 : r2.size = rest.size - 5 := by rw [hr2]; exact ext_size rest 5 rest.size (Nat.le_refl _)
        have HE14 := Lib.hid e14
        have HE5 := Lib.hid (e5.trans hr2.symm)
        have HR2E := Lib.hid hr2
        have HN := Lib.hid hN
        have HN64 := Lib.hid (show IntKind.i64.wrap (N : Int) = (N : Int) by rw [IntKind.wrap_i64]; omega)
        clear hN e14 e5 hr2
        go_upto_region 4 with (go_at_call 37; refine (left_any B rest false _ HR1.out).mono ?_; rintro e w2 ⟨rfl, rfl⟩)
        go_wp2_with (fail)
        refine (num_good B 1 rest _ HR1.out (by omega) (by omega) (by omega)).mono ?_
        rintro e w3 ⟨rfl, hR3, hg3⟩
        rw [hk.out]
        rw [← HR1E.out] at hR3
        go_wp2_with (fail)
        refine (num_good B 4 r1 _ hR3 (by omega) (by omega) (by omega)).mono ?_
        rintro e w4 ⟨rfl, hR4, hg4⟩
        rw [HE14.out, ← HN.out]
        rw [HE5.out] at hR4
        go_upto_region 5 with fail
        by_cases cn : rest.size - 5 < N
        · have e : splitB (f + 1) rest = none := by unfold splitB; rw [if_neg c0, if_neg c5, ← HN.out, if_pos cn]
          have hsp := HSP.out
          rw [e] at hsp
          have HSP2 := Lib.hid hsp
          clear hsp e HSP
          go_wp2_with (fail)
          refine (raw_bad B N r2 false _ hR4 (.inr (.inr (by omega)))).mono ?_
          rintro e w5 ⟨rfl, hR5, hg⟩
          have hg5 := grown_trans (grown_trans hg3 hg4) hg
          clear hg3 hg4 hg hR3 hR4
          obtain ⟨v', w6, hrun, hown6, hg6⟩ := step_app ⟨kb, ⟨#[]⟩⟩ HO.out hg5 (by omega) hsz
          have hR6 := Has.grown hR5 hg6 (own_ne HO.out)
          have HO6 := Lib.hid hown6
          have HB6 := Lib.hid ((HB1.out.trans (grown_low hg5 (fun k e => by cases e; exact Nat.le_refl _) (by omega))).trans (grown_low hg6 (fun k e => by have := (HO.out.lt k e).1; omega) (by have := hg5.size; omega)))
          have hsz6 : B + 1 ≤ w6.heap.size := by have := hg5.size; have := hg6.size; omega
          clear hown6 hg6 hR5 hg5
          go_upto_region 6 with (at_builtin; refine wpList_append_lst rfl _ _ 24 rfl v' w6 hrun ?_)
          clear hrun
          go_wp2_with (go_at_call 38; refine (end_any B r2 true _ hR6).mono ?_; rintro e w7 ⟨rfl, rfl⟩)
          go_ret2
          refine ⟨_, _, rfl, ?_, by rw [← HBB.out]; exact HB6.out⟩
          rw [HSP2.out]
          rfl
        · obtain ⟨D, hD⟩ : ∃ D, D = rest.extract 5 (5 + N) := ⟨_, rfl⟩
          obtain ⟨r3, hr3⟩ : ∃ r, r = rest.extract (5 + N) rest.size := ⟨_, rfl⟩
          have HD := Lib.hid (show r2.extract 0 N = D by rw [HR2E.out, ext_ext, hD])
          have HR3E := Lib.hid (show r2.extract N r2.size = r3 by rw [HR2E.out, ext_rest _ _ _ (by omega), hr3])
          have z3 : r3.size = rest.size - (5 + N) := by rw [hr3]; exact ext_size rest (5 + N) rest.size (Nat.le_refl _)
          have HSP2 := Lib.hid (show splitB (f + 1) rest = match splitB f r3 with | none => none | some l => some (⟨kb, D⟩ :: l) by
            conv => lhs; unfold splitB
            rw [if_neg c0, if_neg c5, ← HN.out, if_neg cn, ← hD, ← hr3, ← HKB.out]
            cases splitB f r3 <;> rfl)
          clear hD hr3
          go_wp2_with (fail)
          refine (raw_good B N r2 _ hR4 (by omega)).mono ?_
          rintro e w5 ⟨rfl, hR5, hg⟩
          rw [HD.out]
          rw [HR3E.out] at hR5
          have hg5 := grown_trans (grown_trans hg3 hg4) hg
          clear hg3 hg4 hg hR3 hR4
          obtain ⟨v', w6, hrun, hown6, hg6⟩ := step_app ⟨kb, D⟩ HO.out hg5 (by omega) hsz
          have hR6 := Has.grown hR5 hg6 (own_ne HO.out)
          have HO6 := Lib.hid hown6
          have HB6 := Lib.hid ((HB1.out.trans (grown_low hg5 (fun k e => by cases e; exact Nat.le_refl _) (by omega))).trans (grown_low hg6 (fun k e => by have := (HO.out.lt k e).1; omega) (by have := hg5.size; omega)))
          have hsz6 : B + 1 ≤ w6.heap.size := by have := hg5.size; have := hg6.size; omega
          clear hown6 hg6 hR5 hg5
          go_upto_region 6 with (at_builtin; refine wpList_append_lst rfl _ _ 24 rfl v' w6 hrun ?_)
          clear hrun
          have he := endN_ne r3
          have HR6 := Lib.hid (Rd.restSize (rest := r3) (b := false) hR6)
          go_wp2_with (go_at_call 38; refine (end_any B r3 false _ hR6).mono ?_; rintro e w7 ⟨rfl, rfl⟩)
          go_roundw
          case rel =>
            refine ⟨acc ++ [⟨kb, D⟩], r3, f, HO6.out, hR6, HB6.out, hsz6, ?_, by omega, by rw [List.length_append]; simp; omega⟩
            rw [HSP.out, HSP2.out]
            cases splitB f r3 with
            | none => rfl
            | some l => simp
          case measure => rw [HR6.out, HM.out]; omega
end Go.Proofs.Ytmbafeemiclmeaa
