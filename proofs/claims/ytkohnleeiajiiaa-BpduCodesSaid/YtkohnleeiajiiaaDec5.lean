/- bpdu.Decode, walked. -/
import Derived.Test.YtkohnleeiajiiaaSteps
namespace Go.Proofs.Ytkohnleeiajiiaa
open Go.RowKit
set_option linter.unusedSimpArgs false

theorem ret_dec {a a' : Array Value} {b b' : Int} (h : a = a') (g : b = b') : Ending.returned (.tuple #[.agg a, .int .i64 b]) = .returned (.tuple #[.agg a', .int .i64 b']) := by rw [h, g]
theorem text_eq (a : ByteArray) (l : List UInt8) : (a.toList == l) = decide (a = ⟨l.toArray⟩) := by
  rw [Bool.eq_iff_iff, beq_iff_eq, decide_eq_true_eq, ByteArray.toList_eq]
  constructor
  · intro h
    apply ByteArray.ext
    apply Array.ext'
    exact h
  · intro h
    rw [h]

theorem nil16_one : nil16.all (·.oneCell') = true := by simp [Value.oneCell']

/-- The result, the PDU so far, the reader. -/
structure Dc (w0 : World) (B gr g : Nat) (q : Pd) (rest : ByteArray) (sh : Bool) (w : World) : Prop where
  r0 : Blk w B nil16 31
  rd : Rd w gr rest sh
  blk : Blk w g (pdA q) 31
  below : Below B w0 w
  l1 : B < gr
  l2 : gr < g

theorem Dc.grown {w0 w w' : World} {B gr g : Nat} {q : Pd} {rest rest' : ByteArray} {sh sh' : Bool} (h : Dc w0 B gr g q rest sh w) (hr : Rd w' gr rest' sh') (hg : w.grownBy w' (some gr)) : Dc w0 B gr g q rest' sh' w' := by
  have l1 := h.l1
  have l2 := h.l2
  have h1 := h.r0.lt
  exact ⟨h.r0.grown hg (by simp; omega), hr, h.blk.grown hg (by simp; omega), h.below.grown hg (by omega) (fun j hj => by cases hj; omega), l1, l2⟩
theorem Dc.next {w0 w w' : World} {B gr g : Nat} {q : Pd} {rest : ByteArray} {sh : Bool} (h : Dc w0 B gr g q rest sh w) (hb : Below w.heap.size w w') : Dc w0 B gr g q rest sh w' := by
  have l := h.blk.lt
  have l1 := h.l1
  have l2 := h.l2
  exact ⟨h.r0.below hb h.r0.lt, Has.below h.rd hb (by omega), h.blk.below hb l, h.below.trans (hb.mono (by omega)), l1, l2⟩
theorem Dc.two {w0 w w' : World} {B gr g : Nat} {q q' : Pd} {rest rest' : ByteArray} {sh sh' : Bool} (h : Dc w0 B gr g q rest sh w) (hk : Blk w' g (pdA q') 31) (hr : Rd w' gr rest' sh') (ht : Two w w' g gr) : Dc w0 B gr g q' rest' sh' w' := by
  have l := h.blk.lt
  have l1 := h.l1
  have l2 := h.l2
  exact ⟨ht.blk h.r0 (by omega) (by omega), hr, hk, ht.below h.below (by omega) (by omega) (by omega), l1, l2⟩

/-- What is answered behind the fields. -/
def tailE (k : Nat) (q : Pd) (x : ByteArray × Bool) : Int := if (st1 x (endS k).size).2 = true then 2 else if goodP q = true ∧ rV x.1 x.2 (endS k).size = endS k then 0 else 4
def tailOk (s : ByteArray) (k : Nat) (q : Pd) (x : ByteArray × Bool) : Prop := decE s = tailE k q x ∧ decP s = if tailE k q x = 0 then q else kindP 0

theorem tail_128 (s : ByteArray) (k : Nat) (x : ByteArray × Bool) (h7 : 7 ≤ s.size) (hf : s.extract 0 5 = frontS) (hk : k = kB s) (hko : kindOk k = true) {t : Nat} (hv : t = vB s) (htv : t = verN k) (h : k = 128) (hx : x = (s.extract 7 s.size, false)) : tailOk s k (kindP k) x := by
  subst h
  have he : enough (s.extract 7 s.size) false 0 := ⟨rfl, Nat.zero_le _⟩
  have hT : tailE 128 (kindP 128) x = 0 := by
    unfold tailE
    rw [hx, show (endS 128).size = 0 from rfl, if_neg (by unfold st1 nS; rw [if_pos he]; simp), if_pos]
    refine ⟨by rw [good_kindP]; exact hko, ?_⟩
    unfold rV
    rw [if_pos he]
    apply ByteArray.ext
    apply Array.ext'
    simp [endS]
  have hE : decE s = 0 := by unfold decE; rw [if_neg (by omega), if_neg (by rw [hf]; simp), if_neg (by rw [← hk]; exact fun c => c ⟨hko, by rw [← hv, htv]⟩), if_pos hk.symm]
  refine ⟨by rw [hE, hT], ?_⟩
  rw [hT, if_pos rfl]
  unfold decP
  rw [if_pos hE, if_pos hk.symm]

theorem end_one (s : ByteArray) (h : 39 ≤ s.size) : rV (s.extract 38 s.size) false 1 = ⟨#[UInt8.ofNat (byteAt' s 38)]⟩ := by
  have he : enough (s.extract 38 s.size) false 1 := ⟨rfl, by simp; omega⟩
  unfold rV
  rw [if_pos he]
  apply ByteArray.ext
  apply Array.ext'
  rw [ext_front s 38 1 (by omega), take1 s 38 (by omega)]

theorem tail_02 (s : ByteArray) (k : Nat) (x : ByteArray × Bool) (h7 : 7 ≤ s.size) (hf : s.extract 0 5 = frontS) (hk : k = kB s) (hko : kindOk k = true) {t : Nat} (hv : t = vB s) (htv : t = verN k) (h : ¬ k = 128) (hx : x = (s.extract 7 s.size, false)) : tailOk s k (rdQ (kindP k) x) (stX x 9) := by
  have hq : rdQ (kindP k) x = decQ s := by rw [hk, hx]; rfl
  have hE0 : decE s = if s.size < needN k then 2 else if ¬ (goodP (decQ s) = true ∧ (k = 2 → byteAt' s 38 = 0)) then 4 else 0 := by
    unfold decE
    rw [if_neg (by omega), if_neg (by rw [hf]; simp), if_neg (by rw [← hk]; exact fun c => c ⟨hko, by rw [← hv, htv]⟩), if_neg (by rw [← hk]; exact h), ← hk]
  have hT : tailE k (decQ s) (stX x 9) = decE s := by
    rw [hE0]
    unfold tailE
    by_cases h38 : 38 ≤ s.size
    · rw [hx, body_yes s h38]
      by_cases k2 : k = 2
      · subst k2
        rw [show (endS 2).size = 1 from rfl, show needN 2 = 39 from rfl]
        by_cases h39 : 39 ≤ s.size
        · have a1 : ¬ (st1 (s.extract 38 s.size, false) 1).2 = true := by rw [(st1_yes s 38 1 (by omega)).2]; simp
          have a2 : ¬ s.size < 39 := by omega
          rw [if_neg a1, if_neg a2, end_one s h39]
          have e : (⟨#[UInt8.ofNat (byteAt' s 38)]⟩ : ByteArray) = endS 2 ↔ byteAt' s 38 = 0 := by
            have hl := byteAt_lt s 38
            constructor
            · intro h
              have h2 := congrArg (fun b : ByteArray => b.data.toList) h
              simp [endS] at h2
              have h3 := congrArg UInt8.toNat h2
              rw [ofNat_nat _ hl] at h3
              simpa using h3
            · intro h
              rw [h]
              rfl
          by_cases hg : goodP (decQ s) = true ∧ byteAt' s 38 = 0
          · rw [if_pos ⟨hg.1, e.2 hg.2⟩, if_neg (by simp [hg.1, hg.2])]
          · rw [if_neg (fun c => hg ⟨c.1, e.1 c.2⟩), if_pos (by simpa using hg)]
        · rw [if_pos (st1_no s 38 1 h38 (by omega)), if_pos (by omega)]
      · have hez : endS k = ⟨#[]⟩ := by unfold endS; rw [if_neg k2]
        have he : enough (s.extract 38 s.size) false 0 := ⟨rfl, Nat.zero_le _⟩
        rw [hez, show (⟨#[]⟩ : ByteArray).size = 0 from rfl, show needN k = 38 by unfold needN; rw [if_neg k2]]
        have a1 : ¬ (st1 (s.extract 38 s.size, false) 0).2 = true := by unfold st1 nS; rw [if_pos he]; simp
        have a2 : ¬ s.size < 38 := by omega
        rw [if_neg a1, if_neg a2]
        have er : rV (s.extract 38 s.size) false 0 = ⟨#[]⟩ := by
          unfold rV
          rw [if_pos he]
          apply ByteArray.ext
          apply Array.ext'
          simp
        rw [er]
        by_cases hg : goodP (decQ s) = true
        · rw [if_pos ⟨hg, rfl⟩, if_neg (by simp [hg, k2])]
        · rw [if_neg (fun c => hg c.1), if_pos (fun c => hg c.1)]
    · have hs := body_no s h7 (by omega)
      rw [hx, if_pos (st1_short _ _ hs), if_pos (by unfold needN; split <;> omega)]
  refine ⟨by rw [hq, hT], ?_⟩
  rw [hq, hT]
  unfold decP
  rw [← hk, if_neg h]

set_option maxRecDepth 100000 in
set_option maxHeartbeats 8000000 in
theorem pdecode_any (s : ByteArray) (w : World) : Calls Try.prog 14 #[.string s] w fun e w' => e = .returned (.tuple #[.agg (pdA (decP s)), .int .i64 (decE s)]) ∧ Below w.heap.size w w' := by
  have hi := Lib.hid size31
  have ho := Lib.hid nil16_one
  obtain ⟨W, hW⟩ : ∃ W, W = w.alloc (Obj.cells nil16 31) := ⟨_, rfl⟩
  have r0 : Blk W w.heap.size nil16 31 := by rw [hW]; exact Blk.new _ _ _
  have hB : Below w.heap.size w W := by rw [hW]; exact (Below.refl _ _).alloc (Nat.le_refl _) _
  have HW := Lib.hid hW
  obtain ⟨h5, hh5⟩ : ∃ h, h = rV s false 5 := ⟨_, rfl⟩
  obtain ⟨x1, hx1⟩ : ∃ x, x = X1 s := ⟨_, rfl⟩
  obtain ⟨t, ht⟩ : ∃ t, t = nV x1.1 x1.2 1 := ⟨_, rfl⟩
  obtain ⟨x2, hx2⟩ : ∃ x, x = st1 x1 1 := ⟨_, rfl⟩
  obtain ⟨k, hk⟩ : ∃ t, t = nV x2.1 x2.2 1 := ⟨_, rfl⟩
  obtain ⟨x3, hx3⟩ : ∃ x, x = X3 s := ⟨_, rfl⟩
  have kl : k < 256 := by rw [hk]; exact nV_lt _ _ _
  have KW := Lib.hid (show (k : Int) % 256 = (k : Int) by omega)
  have HY := Lib.hid (show 7 ≤ s.size → h5 = s.extract 0 5 ∧ t = vB s ∧ k = kB s ∧ x3 = (s.extract 7 s.size, false) from fun h => by
    obtain ⟨a, b, c, d⟩ := head_yes s h
    exact ⟨hh5.trans a, by rw [ht, hx1]; exact b, by rw [hk, hx2, hx1]; exact c, hx3.trans d⟩)
  have HN := Lib.hid (show s.size < 7 → x3.2 = true from fun h => by rw [hx3]; exact head_no s h)
  have H5 := Lib.hid hh5.symm
  have E1 := Lib.hid (show (nR s false 5, nS s false 5) = x1 from hx1.symm)
  have ET := Lib.hid ht.symm
  have E2 := Lib.hid hx2.symm
  have EK := Lib.hid hk.symm
  have E3 := Lib.hid (show st1 x2 1 = x3 by rw [hx3, hx2, hx1]; rfl)
  clear hW hh5 hx1 ht hx2 hk hx3 kl
  go_enter Try.func14, Try.ntmps14
  go_wp2_with fail
  simp only [nil16] at HW
  rw [← HW.out]
  refine (read_any s W).mono ?_
  rintro e w1 ⟨rfl, hr1, hb1, hz1⟩
  have q0 := r0.below hb1 r0.lt
  have hB1 := hB.trans (hb1.mono hB.size)
  have hgl : w.heap.size < W.heap.size := r0.lt
  clear r0 hB hb1 HW
  generalize hBe : w.heap.size = B at *
  have HB := Lib.hid hBe
  clear hBe
  generalize hgr : W.heap.size = gr at *
  clear hgr
  go_wp2_with fail
  refine (raw_any gr 5 s false _ hr1).mono ?_
  rintro e w2 ⟨rfl, hr2, hg2⟩
  rw [H5.out]
  have hr2' : Rd w2 gr x1.1 x1.2 := by rw [← E1.out]; exact hr2
  have q2 := q0.grown hg2 (by simp; omega)
  have hB2 := hB1.grown hg2 (by have := hz1; omega) (fun j hj => by cases hj; omega)
  have hz2 := hg2.size
  clear hr1 hr2 hg2 q0 hB1
  go_wp2_with fail
  refine (num_any gr 1 x1.1 x1.2 _ hr2' (by omega) (by omega)).mono ?_
  rintro e w3 ⟨rfl, hr3, hg3⟩
  rw [ET.out]
  have hr3' : Rd w3 gr x2.1 x2.2 := by rw [← E2.out]; exact hr3
  have q3 := q2.grown hg3 (by simp; omega)
  have hB3 := hB2.grown hg3 (by omega) (fun j hj => by cases hj; omega)
  have hz3 := hg3.size
  clear hr2' hr3 hg3 q2 hB2
  go_wp2_with fail
  refine (num_any gr 1 x2.1 x2.2 _ hr3' (by omega) (by omega)).mono ?_
  rintro e w4 ⟨rfl, hr4, hg4⟩
  rw [EK.out]
  have hr4' : Rd w4 gr x3.1 x3.2 := by rw [← E3.out]; exact hr4
  have q4 := q3.grown hg4 (by simp; omega)
  have hB4 := hB3.grown hg4 (by omega) (fun j hj => by cases hj; omega)
  have hz4 := hg4.size
  have kw := KW.out
  have D0 := Lib.hid (show Dc w B gr w4.heap.size (kindP k) x3.1 x3.2 (w4.alloc (Obj.cells (pdA (kindP k)) 31)) from
    ⟨q4.alloc _, Has.grown hr4' (World.grownBy_alloc w4 (Obj.cells (pdA (kindP k)) 31) none) (by simp), Blk.new _ _ _, hB4.alloc (by omega) _, hgl, by omega⟩)
  clear hr3' hr4 hg4 q3 hB3 hr4' q4 hB4
  go_upto_region 5 with fail
  obtain ⟨w5, hw5⟩ : ∃ w5, w5 = w4.alloc (Obj.cells #[.int .u8 (k : Nat), .bool false, .bool false, .bool false, .bool false, .bool false, .bool false, .int .u8 0, .int .u64 0, .int .u32 0, .int .u64 0, .int .u16 0, .int .u16 0, .int .u16 0, .int .u16 0, .int .u16 0] 31) := ⟨_, rfl⟩
  have D := Lib.hid (show Dc w B gr w4.heap.size (kindP k) x3.1 x3.2 w5 by rw [hw5]; exact D0.out)
  rw [← hw5]
  clear hw5 D0 kw hz1 hz2 hz3 hz4 hgl
  generalize w4.heap.size = g at *
  by_cases h7 : s.size < 7
  · have EE := Lib.hid (show decE s = 2 by unfold decE; rw [if_pos h7])
    have PP := Lib.hid (show decP s = kindP 0 by unfold decP; rw [if_neg (by rw [EE.out]; omega)])
    have he : endN x3.1 x3.2 = 2 := by unfold endN; rw [HN.out h7]; rfl
    have HE := Lib.hid he
    clear he h7 HY HN
    go_wp2_with (first
      | (go_at_call 37; refine (end_any gr x3.1 x3.2 _ D.out.rd).mono ?_; rintro e w6 ⟨rfl, rfl⟩; rw [HE.out])
      | (refine wpList_store_row rfl 31 _ _ rfl B nil16 rfl rfl 31 nil16 D.out.r0 hi.out rfl ho.out ?_))
    exact bodyPost_ret (v := .tuple #[.agg (nil16), .int .i64 2]) (results_row_tmp Try.results14 _ _ B 31 (nil16) _ _ rfl rfl (D.out.r0.row _) Try.underlying31 rfl hi.out) rfl ⟨ret_dec (by rw [PP.out]; rfl) (EE.out.symm), by rw [HB.out]; exact below_setRow D.out.below (Nat.le_refl _) _⟩
  · obtain ⟨e1, e2, e3, e4⟩ := HY.out (by omega)
    have h7' : 7 ≤ s.size := by omega
    have HE := Lib.hid (show (endN x3.1 x3.2 == 2) = false by rw [e4]; unfold endN; split <;> first | contradiction | (split <;> decide))
    have he := HE.out
    have hx3 := Lib.hid e4
    clear HY HN h7 e4
    by_cases hf : h5 = frontS
    · have HF := Lib.hid (show (h5.toList == [66, 66, 3, 0, 0]) = true by rw [text_eq, decide_eq_true_eq]; exact hf)
      have hfs : s.extract 0 5 = frontS := by rw [← e1]; exact hf
      have hff := HF.out
      have GK := Lib.hid (good_kindP k)
      clear hf e1
      by_cases hkv : kindOk k = true ∧ t = verN k
      · obtain ⟨hko, htv⟩ := hkv
        have KO := Lib.hid hko
        have htv' : ((t : Int) != (verN k : Int)) = false := by rw [htv]; simp
        have TV := Lib.hid htv
        have TV2 := Lib.hid htv
        have KB := Lib.hid e3
        have VB := Lib.hid e2
        have FS := Lib.hid hfs
        clear hko htv e2 e3 hfs
        go_upto_region 11 with (first
          | (go_at_call 37; refine (end_any gr x3.1 x3.2 _ D.out.rd).mono ?_; rintro e w6 ⟨rfl, rfl⟩)
          | (refine wpList_load_row rfl 31 _ rfl g rfl 31 _ (0, 0) _ D.out.blk Try.underlying31 rfl hi.out ?_)
          | (go_at_call 26; refine (mayBe_any (kindP k) _).mono ?_; rintro e w7 ⟨rfl, hb⟩; rw [GK.out, KO.out]
             have D2 := Lib.hid (D.out.next hb)
             have c0 : w7.cell? ⟨g, 0, none⟩ = some (.int .u8 (k : Nat)) := D2.out.blk.cell 0)
          | (go_at_call 28; refine (version_any k _).mono ?_; rintro e w8 ⟨rfl, rfl⟩))
        clear hb D he htv' hff HE HF TV
        go_upto_if 42 with fail
        go_cut [] (fun wx => ∃ q x, q.kind = k ∧ tailOk s k q x ∧ Dc w B gr g q x.1 x.2 wx)
        case first =>
          by_cases h128 : k = 128
          · have hk' : ((k : Int) != 128) = false := by rw [h128]; rfl
            have HD := Lib.hid (show ∃ q x, q.kind = k ∧ tailOk s k q x ∧ Dc w B gr g q x.1 x.2 _ from ⟨kindP k, x3, rfl, tail_128 s k x3 h7' FS.out KB.out KO.out VB.out TV2.out h128 hx3.out, D2.out⟩)
            clear h128 D2
            go_wp2_with fail
            go_meet
            exact HD.out
          · have hk' : ((k : Int) != 128) = true := by simp; omega
            have HT := Lib.hid (tail_02 s k x3 h7' FS.out KB.out KO.out VB.out TV2.out h128 hx3.out)
            clear h128
            have l2 := D2.out.l2
            go_wp2_with (go_at_call 38; refine (readFields_any g gr (kindP k) x3 _ D2.out.blk D2.out.rd (by omega)).mono ?_; rintro e wc ⟨rfl, h1, h2, h3⟩)
            have HD := Lib.hid (show ∃ q x, q.kind = k ∧ tailOk s k q x ∧ Dc w B gr g q x.1 x.2 wc from ⟨rdQ (kindP k) x3, stX x3 9, rfl, HT.out, D2.out.two h1 h2 h3⟩)
            clear h1 h2 h3 D2
            go_meet
            exact HD.out
        case rest =>
          obtain ⟨q, x, hqk, hto, hD⟩ := hcut
          have TO := Lib.hid hto
          have D := Lib.hid hD
          have QK := Lib.hid hqk
          have c0 : wc.cell? ⟨g, 0, none⟩ = some (.int .u8 (k : Nat)) := by rw [← QK.out]; exact D.out.blk.cell 0
          clear hto hD hqk D2
          obtain ⟨en, hen⟩ : ∃ e, e = endS k := ⟨_, rfl⟩
          obtain ⟨z, hz⟩ : ∃ z, z = rV x.1 x.2 en.size := ⟨_, rfl⟩
          obtain ⟨y1, hy1⟩ : ∃ z, z = nR x.1 x.2 en.size := ⟨_, rfl⟩
          obtain ⟨y2, hy2⟩ : ∃ z, z = nS x.1 x.2 en.size := ⟨_, rfl⟩
          have TE := Lib.hid (show tailE k q x = if y2 = true then 2 else if goodP q = true ∧ z = en then 0 else 4 by unfold tailE st1; rw [hz, hy2, hen])
          have EN := Lib.hid hen.symm
          have ZZ := Lib.hid hz.symm
          have Y1 := Lib.hid hy1.symm
          have Y2 := Lib.hid hy2.symm
          clear hen hz hy1 hy2
          go_upto_region 14 with (first
            | (go_at_call 30; refine (end5_any k _).mono ?_; rintro e w8 ⟨rfl, rfl⟩; rw [EN.out])
            | (go_at_call 35; refine (raw_any gr en.size x.1 x.2 _ D.out.rd).mono ?_; rintro e w9 ⟨rfl, hr, hg⟩; rw [ZZ.out]; rw [Y1.out, Y2.out] at hr))
          have D9 := Lib.hid (D.out.grown hr hg)
          have c0 : w9.cell? ⟨g, 0, none⟩ = some (.int .u8 (k : Nat)) := by rw [← QK.out]; exact D9.out.blk.cell 0
          clear hr hg D
          cases hy2 : y2 with
          | true =>
            have T2 := Lib.hid (show tailE k q x = 2 by rw [TE.out, hy2]; rfl)
            have EE := Lib.hid (show decE s = 2 by rw [TO.out.1]; exact T2.out)
            have PP := Lib.hid (show decP s = kindP 0 by rw [TO.out.2, T2.out]; rfl)
            have HE := Lib.hid (show endN y1 y2 = 2 by unfold endN; rw [hy2]; rfl)
            clear hy2 TE T2
            go_wp2_with (first
              | (go_at_call 37; refine (end_any gr y1 y2 _ D9.out.rd).mono ?_; rintro e w10 ⟨rfl, rfl⟩; rw [HE.out])
              | (refine wpList_store_row rfl 31 _ _ rfl B nil16 rfl rfl 31 nil16 D9.out.r0 hi.out rfl ho.out ?_))
            exact bodyPost_ret (v := .tuple #[.agg (nil16), .int .i64 2]) (results_row_tmp Try.results14 _ _ B 31 (nil16) _ _ rfl rfl (D9.out.r0.row _) Try.underlying31 rfl hi.out) rfl ⟨ret_dec (by rw [PP.out]; rfl) (EE.out.symm), by rw [HB.out]; exact below_setRow D9.out.below (Nat.le_refl _) _⟩
          | false =>
            have HE := Lib.hid (show (endN y1 y2 == 2) = false by rw [hy2]; unfold endN; split <;> first | contradiction | (split <;> decide))
            have he := HE.out
            have T1 := Lib.hid (show tailE k q x = if goodP q = true ∧ z = en then 0 else 4 by rw [TE.out, hy2]; rfl)
            clear hy2 TE
            cases hgd : goodP q with
            | false =>
              have T2 := Lib.hid (show tailE k q x = 4 by rw [T1.out, hgd]; rfl)
              have EE := Lib.hid (show decE s = 4 by rw [TO.out.1]; exact T2.out)
              have PP := Lib.hid (show decP s = kindP 0 by rw [TO.out.2, T2.out]; rfl)
              have GD := Lib.hid hgd
              clear hgd T1 T2
              go_wp2_with (first
                | (go_at_call 37; refine (end_any gr y1 y2 _ D9.out.rd).mono ?_; rintro e w10 ⟨rfl, rfl⟩)
                | (refine wpList_load_row rfl 31 _ rfl g rfl 31 _ (0, 0) _ D9.out.blk Try.underlying31 rfl hi.out ?_)
                | (go_at_call 26; refine (mayBe_any q _).mono ?_; rintro e w11 ⟨rfl, hb⟩; rw [GD.out]
                   have D2 := Lib.hid (D9.out.next hb))
                | (refine wpList_store_row rfl 31 _ _ rfl B nil16 rfl rfl 31 nil16 D2.out.r0 hi.out rfl ho.out ?_))
              exact bodyPost_ret (v := .tuple #[.agg (nil16), .int .i64 4]) (results_row_tmp Try.results14 _ _ B 31 (nil16) _ _ rfl rfl (D2.out.r0.row _) Try.underlying31 rfl hi.out) rfl ⟨ret_dec (by rw [PP.out]; rfl) (EE.out.symm), by rw [HB.out]; exact below_setRow D2.out.below (Nat.le_refl _) _⟩
            | true =>
              have GD := Lib.hid hgd
              by_cases hze : z = en
              · have T2 := Lib.hid (show tailE k q x = 0 by rw [T1.out, if_pos ⟨hgd, hze⟩])
                have EE := Lib.hid (show decE s = 0 by rw [TO.out.1]; exact T2.out)
                have PP := Lib.hid (show decP s = q by rw [TO.out.2, T2.out]; rfl)
                subst hze
                clear hgd T1 T2
                go_wp2_with (first
                  | (go_at_call 37; refine (end_any gr y1 y2 _ D9.out.rd).mono ?_; rintro e w10 ⟨rfl, rfl⟩)
                  | (refine wpList_load_row rfl 31 _ rfl g rfl 31 _ (0, 0) _ D9.out.blk Try.underlying31 rfl hi.out ?_)
                  | (go_at_call 26; refine (mayBe_any q _).mono ?_; rintro e w11 ⟨rfl, hb⟩; rw [GD.out]
                     have D2 := Lib.hid (D9.out.next hb)
                     have c1 : w11.cell? ⟨g, 0, none⟩ = some (.int .u8 (k : Nat)) := by rw [← QK.out]; exact D2.out.blk.cell 0)
                  | (go_at_call 30; refine (end5_any k _).mono ?_; rintro e w12 ⟨rfl, rfl⟩; rw [EN.out])
                  | (refine wpList_load_row rfl 31 _ rfl g rfl 31 _ (0, 0) _ D2.out.blk Try.underlying31 rfl hi.out ?_)
                  | (refine wpList_store_row rfl 31 _ _ rfl B (pdA q) rfl rfl 31 nil16 D2.out.r0 hi.out rfl (pdA_one q) ?_))
                exact bodyPost_ret (v := .tuple #[.agg (pdA q), .int .i64 0]) (results_row_tmp Try.results14 _ _ B 31 (pdA q) _ _ rfl rfl (D2.out.r0.row _) Try.underlying31 rfl hi.out) rfl ⟨ret_dec (by rw [PP.out]) (EE.out.symm), by rw [HB.out]; exact below_setRow D2.out.below (Nat.le_refl _) _⟩
              · have T2 := Lib.hid (show tailE k q x = 4 by rw [T1.out, if_neg (fun c => hze c.2)])
                have EE := Lib.hid (show decE s = 4 by rw [TO.out.1]; exact T2.out)
                have PP := Lib.hid (show decP s = kindP 0 by rw [TO.out.2, T2.out]; rfl)
                have hzl : (z.toList == en.toList) = false := by
                  rw [text_eq, decide_eq_false_iff_not]
                  intro c
                  apply hze
                  rw [c, ByteArray.toList_eq]
                clear hgd T1 T2
                go_wp2_with (first
                  | (go_at_call 37; refine (end_any gr y1 y2 _ D9.out.rd).mono ?_; rintro e w10 ⟨rfl, rfl⟩)
                  | (refine wpList_load_row rfl 31 _ rfl g rfl 31 _ (0, 0) _ D9.out.blk Try.underlying31 rfl hi.out ?_)
                  | (go_at_call 26; refine (mayBe_any q _).mono ?_; rintro e w11 ⟨rfl, hb⟩; rw [GD.out]
                     have D2 := Lib.hid (D9.out.next hb)
                     have c1 : w11.cell? ⟨g, 0, none⟩ = some (.int .u8 (k : Nat)) := by rw [← QK.out]; exact D2.out.blk.cell 0)
                  | (go_at_call 30; refine (end5_any k _).mono ?_; rintro e w12 ⟨rfl, rfl⟩; rw [EN.out])
                  | (refine wpList_store_row rfl 31 _ _ rfl B nil16 rfl rfl 31 nil16 D2.out.r0 hi.out rfl ho.out ?_))
                exact bodyPost_ret (v := .tuple #[.agg (nil16), .int .i64 4]) (results_row_tmp Try.results14 _ _ B 31 (nil16) _ _ rfl rfl (D2.out.r0.row _) Try.underlying31 rfl hi.out) rfl ⟨ret_dec (by rw [PP.out]; rfl) (EE.out.symm), by rw [HB.out]; exact below_setRow D2.out.below (Nat.le_refl _) _⟩
      · have EE := Lib.hid (show decE s = 8 by unfold decE; rw [if_neg (by omega), if_neg (by rw [hfs]; simp), if_pos (by rw [← e2, ← e3]; exact hkv)])
        have PP := Lib.hid (show decP s = kindP 0 by unfold decP; rw [if_neg (by rw [EE.out]; omega)])
        by_cases hko : kindOk k = true
        · have hne : ((t : Int) != (verN k : Int)) = true := by
            have : ¬ t = verN k := fun h => hkv ⟨hko, h⟩
            simp; omega
          have KO := Lib.hid hko
          clear hkv hko e2 e3 hfs
          go_wp2_with (first
            | (go_at_call 37; refine (end_any gr x3.1 x3.2 _ D.out.rd).mono ?_; rintro e w6 ⟨rfl, rfl⟩)
            | (refine wpList_load_row rfl 31 _ rfl g rfl 31 _ (0, 0) _ D.out.blk Try.underlying31 rfl hi.out ?_)
            | (go_at_call 26; refine (mayBe_any (kindP k) _).mono ?_; rintro e w7 ⟨rfl, hb⟩; rw [GK.out, KO.out]
               have D2 := Lib.hid (D.out.next hb)
               have c0 : w7.cell? ⟨g, 0, none⟩ = some (.int .u8 (k : Nat)) := D2.out.blk.cell 0)
            | (go_at_call 28; refine (version_any k _).mono ?_; rintro e w8 ⟨rfl, rfl⟩)
            | (refine wpList_store_row rfl 31 _ _ rfl B nil16 rfl rfl 31 nil16 D2.out.r0 hi.out rfl ho.out ?_))
          exact bodyPost_ret (v := .tuple #[.agg (nil16), .int .i64 8]) (results_row_tmp Try.results14 _ _ B 31 (nil16) _ _ rfl rfl (D2.out.r0.row _) Try.underlying31 rfl hi.out) rfl ⟨ret_dec (by rw [PP.out]; rfl) (EE.out.symm), by rw [HB.out]; exact below_setRow D2.out.below (Nat.le_refl _) _⟩
        · have hko' : kindOk k = false := by simpa using hko
          have KO := Lib.hid hko'
          clear hkv hko hko' e2 e3 hfs
          go_wp2_with (first
            | (go_at_call 37; refine (end_any gr x3.1 x3.2 _ D.out.rd).mono ?_; rintro e w6 ⟨rfl, rfl⟩)
            | (refine wpList_load_row rfl 31 _ rfl g rfl 31 _ (0, 0) _ D.out.blk Try.underlying31 rfl hi.out ?_)
            | (go_at_call 26; refine (mayBe_any (kindP k) _).mono ?_; rintro e w7 ⟨rfl, hb⟩; rw [GK.out, KO.out]
               have D2 := Lib.hid (D.out.next hb))
            | (refine wpList_store_row rfl 31 _ _ rfl B nil16 rfl rfl 31 nil16 D2.out.r0 hi.out rfl ho.out ?_))
          exact bodyPost_ret (v := .tuple #[.agg (nil16), .int .i64 8]) (results_row_tmp Try.results14 _ _ B 31 (nil16) _ _ rfl rfl (D2.out.r0.row _) Try.underlying31 rfl hi.out) rfl ⟨ret_dec (by rw [PP.out]; rfl) (EE.out.symm), by rw [HB.out]; exact below_setRow D2.out.below (Nat.le_refl _) _⟩
    · have EE := Lib.hid (show decE s = 4 by unfold decE; rw [if_neg (by omega), if_pos (by rw [← e1]; exact hf)])
      have PP := Lib.hid (show decP s = kindP 0 by unfold decP; rw [if_neg (by rw [EE.out]; omega)])
      have hff : (h5.toList == [66, 66, 3, 0, 0]) = false := by rw [text_eq, decide_eq_false_iff_not]; exact hf
      clear hf e1 e2 e3
      go_wp2_with (first
        | (go_at_call 37; refine (end_any gr x3.1 x3.2 _ D.out.rd).mono ?_; rintro e w6 ⟨rfl, rfl⟩)
        | (refine wpList_store_row rfl 31 _ _ rfl B nil16 rfl rfl 31 nil16 D.out.r0 hi.out rfl ho.out ?_))
      exact bodyPost_ret (v := .tuple #[.agg (nil16), .int .i64 4]) (results_row_tmp Try.results14 _ _ B 31 (nil16) _ _ rfl rfl (D.out.r0.row _) Try.underlying31 rfl hi.out) rfl ⟨ret_dec (by rw [PP.out]; rfl) (EE.out.symm), by rw [HB.out]; exact below_setRow D.out.below (Nat.le_refl _) _⟩
end Go.Proofs.Ytkohnleeiajiiaa
