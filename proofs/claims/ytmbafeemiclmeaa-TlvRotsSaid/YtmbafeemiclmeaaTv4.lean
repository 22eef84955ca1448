/- Images, as they are written. -/
import Derived.Test.YtmbafeemiclmeaaTv3
import Derived.Test.YtmbafeemiclmeaaTv2
namespace Go.Proofs.Ytmbafeemiclmeaa
open Go.RowKit
set_option linter.unusedSimpArgs false
set_option linter.unusedVariables false

theorem bld_next {B b : Nat} {bs : List Value} {w w' : World} (h : Lib.IsBuilderF 74 5 B b bs w) (hb : Below w.heap.size w w') : Lib.IsBuilderF 74 5 B b bs w' := by
  have key : ∀ p, Lib.BuilderAtF 74 5 B b p bs w → Lib.BuilderAtF 74 5 B b p bs w' := by
    rintro p ⟨h1, v, h2, h3, h4⟩
    have lt : ∀ g o, w.heap[g]? = some o → w'.heap[g]? = some o := fun g o q => (hb.block g (Array.getElem?_eq_some_iff.1 q).1).trans q
    refine ⟨h1, v, lt _ _ h2, ⟨h3.1, ?_⟩, h4⟩
    rcases h3.2 with q | ⟨g, cap, cur, fz, q1, q2, q3, q4⟩
    · exact .inl q
    · exact .inr ⟨g, cap, cur, fz, q1, q2, lt _ _ q3, q4⟩
  exact h.elim (fun x => .inl (key _ x)) fun x => .inr (key _ x)
theorem str_app (l : List UInt8) (s : ByteArray) : Lib.byteCells l ++ Lib.strCells s = Lib.byteCells (l ++ s.data.toList) := by rw [Lib.byteCells_append]; rfl
theorem byte_app (l : List UInt8) (c : UInt8) : Lib.byteCells l ++ [.int .u8 (c.toNat : Int)] = Lib.byteCells (l ++ [c]) := by rw [Lib.byteCells_append]; rfl
theorem body_take {l : List Sec} {k : Nat} {x : Sec} (h : l[k]? = some x) : bodyL (l.take (k + 1)) = bodyL (l.take k) ++ x.bytes := by
  obtain ⟨hk, rfl⟩ := List.getElem?_eq_some_iff.1 h
  unfold bodyL
  rw [List.take_succ_eq_append_getElem hk, List.flatMap_append]
  simp
theorem body_le (l : List Sec) (k : Nat) : (bodyL (l.take k)).length ≤ (bodyL l).length := by
  have e : bodyL l = bodyL (l.take k) ++ bodyL (l.drop k) := by unfold bodyL; rw [← List.flatMap_append, List.take_append_drop]
  rw [e]
  simp
theorem sec_le {l : List Sec} {k : Nat} {x : Sec} (h : l[k]? = some x) : 5 + x.d.size ≤ (bodyL l).length := by
  have := body_le l (k + 1)
  rw [body_take h, List.length_append, bytes_len] at this
  omega
theorem zero54 (W : World) : (zeroValue 54).run Try.prog W = .ok (.agg #[.int .u8 0, .string ⟨#[]⟩]) W := by kernel_rfl
theorem zero74 (W : World) : (zeroValue 74).run Try.prog W = .ok (.agg #[.pointer none, .slice none 0 0]) W := by kernel_rfl
/-- A new variable that a section is stored in. -/
theorem laid54 (w : World) (x : Sec) : Blk ((w.alloc (.cells #[.int .u8 0, .string ⟨#[]⟩] 54)).setRow w.heap.size #[bv x.k, .string x.d]) w.heap.size #[bv x.k, .string x.d] 54 ∧ Below w.heap.size w ((w.alloc (.cells #[.int .u8 0, .string ⟨#[]⟩] 54)).setRow w.heap.size #[bv x.k, .string x.d]) := by
  have h := (Blk.new w #[.int .u8 0, .string ⟨#[]⟩] 54).row #[bv x.k, .string x.d]
  refine ⟨h, ⟨rfl, rfl, rfl, by simp, fun k hk => ?_⟩⟩
  rw [setRow_other _ _ _ _ (by omega)]
  exact Below.heap_alloc w _ k hk
theorem all54 (x : Sec) : (#[bv x.k, .string x.d] : Array Value).all (·.oneCell') = true := by
  rw [Array.all_eq_true_iff_forall_mem]
  intro u hu
  exact secC_one x u (by simpa [secC] using hu)
/-- A builder that the call has made, in block B, and what it holds. -/
structure WrI (w0 : World) (B : Nat) (L : List UInt8) (w : World) : Prop where
  b : Lib.IsBuilderF 74 5 B B (Lib.byteCells L) w
  below : Below w0.heap.size w0 w
  le : w0.heap.size ≤ B
theorem WrI.at {w0 w : World} {B : Nat} {L : List UInt8} (h : WrI w0 B L w) : B < w.heap.size := by
  rcases h.b with q | q
  · exact q.lt
  · exact q.lt
theorem WrI.ne {w0 w : World} {B : Nat} {L : List UInt8} (h : WrI w0 B L w) : B ≠ w.heap.size := by have := h.at; omega
theorem WrI.next {w0 w w' : World} {B : Nat} {L : List UInt8} (h : WrI w0 B L w) (hb : Below w.heap.size w w') : WrI w0 B L w' := ⟨bld_next h.b hb, h.below.trans (hb.mono h.below.size), h.le⟩
theorem wr_str {w0 w : World} {B : Nat} {L : List UInt8} (s : ByteArray) (h : WrI w0 B L w) (hl : L.length + s.size ≤ 100000000) : Calls Try.prog 28 #[.pointer (some ⟨B, 0, none⟩), .string s] w fun e w' => e = .returned (.tuple #[.int .i64 s.size, .nilIface]) ∧ WrI w0 B (L ++ s.data.toList) w' ∧ Lib.OthersKept 5 (some B) w w' :=
  (sh_Builder_WriteString_k B B _ s w h.b (by rw [Lib.byteCells_length]; omega) (Nat.le_of_lt h.at)).mono fun e w' ⟨q1, q2, q3, q4⟩ => ⟨q1, ⟨.inr (by rw [← str_app]; exact q2), h.below.trans (q3.mono h.le), h.le⟩, q4⟩
theorem wr_byte {w0 w : World} {B : Nat} {L : List UInt8} (c : UInt8) (h : WrI w0 B L w) (hl : L.length ≤ 100000000) : Calls Try.prog 29 #[.pointer (some ⟨B, 0, none⟩), bv c] w fun e w' => e = .returned .nilIface ∧ WrI w0 B (L ++ [c]) w' ∧ Lib.OthersKept 5 (some B) w w' :=
  (sh_Builder_WriteByte_k B B _ _ w h.b (by rw [Lib.byteCells_length]; omega) (Nat.le_of_lt h.at)).mono fun e w' ⟨q1, q2, q3, q4⟩ => ⟨q1, ⟨.inr (by rw [← byte_app]; exact q2), h.below.trans (q3.mono h.le), h.le⟩, q4⟩
theorem blk_others {w w' : World} {B g : Nat} {cs : Array Value} (h : Blk w g cs 54) (k : Lib.OthersKept 5 (some B) w w') (hg : B ≠ g) : Blk w' g cs 54 :=
  k g _ h (fun e => hg (Option.some.inj e).symm) fun c fz e => by cases e
set_option maxRecDepth 100000 in
set_option maxHeartbeats 4000000 in
theorem write_any {w : World} {sv : Value} {l : List Sec} (v : UInt8) (hs : SL w sv l) (hl : (bodyL l).length ≤ 1000000) (hll : l.length ≤ 1000000) :
    Calls Try.prog 20 #[bv v, .int .i64 ((bodyL l).length : Nat), sv] w fun e w' => e = .returned (.string ⟨(bareL v l).toArray⟩) ∧ Below w.heap.size w w' := by
  obtain ⟨n, hn⟩ : ∃ n, n = (bodyL l).length := ⟨_, rfl⟩
  obtain ⟨m, hm⟩ : ∃ m, m = l.length := ⟨_, rfl⟩
  have hsv : sv = .slice none 0 0 ∧ m = 0 ∨ ∃ g cap, sv = .slice (some ⟨g, 0, none⟩) m cap ∧ m ≤ cap ∧ cap ≤ 9223372036854775807 := by
    rcases hs.cases with ⟨h, rfl⟩ | ⟨g, cap, h, h1, h2, h3⟩
    · exact .inl ⟨h, hm⟩
    · refine .inr ⟨g, cap, by rw [hm]; exact h, by omega, h3⟩
  rw [← hn] at hl ⊢
  rw [← hm] at hll
  have HN := Lib.hid hn
  have HM := Lib.hid hm
  have HS := Lib.hid hs
  have HZ := Lib.hid zero54
  have q1 : (n : Int) % 18446744073709551616 = (n : Int) := by omega
  have s4 : ([] : List UInt8).length + (⟨#[71, 82, 68, 82]⟩ : ByteArray).size ≤ 100000000 := by decide
  clear hn hm hs
  rcases hsv with ⟨rfl, hm0⟩ | ⟨g, cap, rfl, hmc, hcap⟩
  · go_enter Try.func20, Try.ntmps20
    go_upto_region 2 with fail
    have hI : WrI w w.heap.size [] _ := ⟨Lib.IsBuilderF.of (Lib.fresh_isBuilder 74 5 w), (Below.refl w.heap.size w).alloc (Nat.le_refl _) (.cells #[.pointer none, .slice none 0 0] 74), Nat.le_refl _⟩
    generalize (w.alloc (.cells #[.pointer none, .slice none 0 0] 74)) = w1 at *
    obtain ⟨B, hBB⟩ : ∃ B, B = w.heap.size := ⟨_, rfl⟩
    rw [← hBB] at hI ⊢
    have HBB := Lib.hid hBB
    clear hBB
    go_upto_region 3 with (go_at_call 28; refine (wr_str _ hI s4).mono ?_; rintro e w2 ⟨rfl, hI2, -⟩)
    clear hI
    go_upto_region 4 with (go_at_call 29; refine (wr_byte v hI2 (by simp)).mono ?_; rintro e w3 ⟨rfl, hI3, -⟩)
    clear hI2
    go_upto_region 5 with (first
      | (go_at_call 30; refine (bytes_yes n 4 _ (by omega) (by omega)).mono ?_; rintro e w4 ⟨rfl, hb4⟩; have hI4 := hI3.next hb4)
      | (go_at_call 28; refine (wr_str _ hI4 (by rw [mk_size, Nums.bytesN_length]; simp)).mono ?_; rintro e w5 ⟨rfl, hI5, -⟩))
    clear hI3 hb4 hI4
    have hI6 : WrI w B (headL v n) w5 := by simpa [headL] using hI5
    have HI6 := Lib.hid hI6
    clear hI5 hI6 s4
    go_upto_region 6 with fail
    go_loopw [19] (fun i wr => ∃ k : Nat, i = .int .i64 (k : Int) ∧ k ≤ m ∧ WrI w B (headL v n ++ bodyL (l.take k)) wr) (fun i _ => m - (intOf i).toNat)
    case atStart => exact ⟨0, rfl, by omega, by simpa [bodyL] using HI6.out⟩
    case round =>
      obtain ⟨k, rfl, hk, hI⟩ := hrel
      have HI := Lib.hid hI
      clear hI HI6
      have e : headL v n ++ bodyL (l.take k) = bareL v l := by
        rw [List.take_of_length_le (by rw [← HM.out]; omega)]
        unfold bareL
        rw [← HN.out]
      rw [e] at HI
      have q := Lib.hid (HI.out.below)
      have : k = 0 := by omega
      subst this
      go_wp2_with (go_at_call 31; refine (sh_Builder_String_any_k B B _ _ HI.out.b (Nat.le_of_lt HI.out.at)).mono ?_; rintro e w6 ⟨rfl, -, hb6, -⟩)
      go_ret
      exact ⟨rfl, q.out.trans (hb6.mono HI.out.le)⟩
  · go_enter Try.func20, Try.ntmps20
    go_upto_region 2 with fail
    have hI : WrI w w.heap.size [] _ := ⟨Lib.IsBuilderF.of (Lib.fresh_isBuilder 74 5 w), (Below.refl w.heap.size w).alloc (Nat.le_refl _) (.cells #[.pointer none, .slice none 0 0] 74), Nat.le_refl _⟩
    generalize (w.alloc (.cells #[.pointer none, .slice none 0 0] 74)) = w1 at *
    obtain ⟨B, hBB⟩ : ∃ B, B = w.heap.size := ⟨_, rfl⟩
    rw [← hBB] at hI ⊢
    have HBB := Lib.hid hBB
    clear hBB
    go_upto_region 3 with (go_at_call 28; refine (wr_str _ hI s4).mono ?_; rintro e w2 ⟨rfl, hI2, -⟩)
    clear hI
    go_upto_region 4 with (go_at_call 29; refine (wr_byte v hI2 (by simp)).mono ?_; rintro e w3 ⟨rfl, hI3, -⟩)
    clear hI2
    go_upto_region 5 with (first
      | (go_at_call 30; refine (bytes_yes n 4 _ (by omega) (by omega)).mono ?_; rintro e w4 ⟨rfl, hb4⟩; have hI4 := hI3.next hb4)
      | (go_at_call 28; refine (wr_str _ hI4 (by rw [mk_size, Nums.bytesN_length]; simp)).mono ?_; rintro e w5 ⟨rfl, hI5, -⟩))
    clear hI3 hb4 hI4
    have hI6 : WrI w B (headL v n) w5 := by simpa [headL] using hI5
    have HI6 := Lib.hid hI6
    clear hI5 hI6 s4
    go_upto_region 6 with fail
    go_loopw [19] (fun i wr => ∃ k : Nat, i = .int .i64 (k : Int) ∧ k ≤ m ∧ WrI w B (headL v n ++ bodyL (l.take k)) wr) (fun i _ => m - (intOf i).toNat)
    case atStart => exact ⟨0, rfl, by omega, by simpa [bodyL] using HI6.out⟩
    case round =>
      obtain ⟨k, rfl, hk, hI⟩ := hrel
      have HI := Lib.hid hI
      clear hI HI6
      by_cases c : k < m
      · obtain ⟨x, hx⟩ : ∃ x, l[k]? = some x := ⟨_, List.getElem?_eq_getElem (by rw [← HM.out]; omega)⟩
        have HX := Lib.hid hx
        clear hx
        have c0 : (0 : Int) ≤ (k : Int) := by omega
        have c1 : (k : Int) < (m : Int) := by omega
        have hR := Lib.hid (((HS.out.below HI.out.below).range HX.out) : wr.rangeAt g (k * 2) (secC x))
        have HL := Lib.hid (laid54 wr x)
        have hz := HZ.out
        have HBL := Lib.hid (Blk.new wr #[.int .u8 0, .string ⟨#[]⟩] 54)
        have HNB := Lib.hid (show B ≠ wr.heap.size from HI.out.ne)
        go_upto_region 7 with fail
        refine wp_region_lit ?_
        refine wpList_val (.pointer (some ⟨g, k * 2, none⟩)) (by rfl) (by go_simp) ?_
        (try simp only [Act.put, List.getElem_toArray, List.getElem_cons_succ, List.getElem_cons_zero, List.setIfInBounds_toArray, List.set_cons_zero, List.set_cons_succ])
        refine wpList_val (secV x) (by rfl) (run_loadRow 54 _ rfl g (k * 2) (by rfl) #[bv x.k, .string x.d] _ hR.out Try.underlying54 rfl size54) ?_
        (try simp only [Act.put, List.getElem_toArray, List.getElem_cons_succ, List.getElem_cons_zero, List.setIfInBounds_toArray, List.set_cons_zero, List.set_cons_succ])
        go_upto_region 8 with (refine wpList_store_row rfl 54 _ _ rfl wr.heap.size #[bv x.k, .string x.d] rfl rfl 54 #[.int .u8 0, .string ⟨#[]⟩] HBL.out size54 rfl (all54 x) ?_)
        obtain ⟨hbk, hb6⟩ := HL.out
        generalize ((wr.alloc (Obj.cells #[Value.int IntKind.u8 0, Value.string ⟨#[]⟩] 54)).setRow wr.heap.size #[bv x.k, Value.string x.d]) = w6 at *
        have hI6 := HI.out.next hb6
        have hne := HNB.out
        generalize wr.heap.size = G at *
        have hle : (headL v n ++ bodyL (l.take k)).length + (x.d.size + 5) ≤ 2000100 := by
          rw [List.length_append, headL_len]
          have q1 := body_le l k
          have q2 := sec_le HX.out
          have q3 := HN.out
          omega
        have hd1 : x.d.size ≤ 1000000 := by
          have q2 := sec_le HX.out
          have q3 := HN.out
          omega
        clear HBL HL hb6 HNB HI hR
        have d0 : w6.cell? ⟨G, 0, none⟩ = some (bv x.k) := hbk.cell 0
        go_upto_region 9 with (go_at_call 29; refine (wr_byte x.k hI6 (by omega)).mono ?_; rintro e w7 ⟨rfl, hI7, ho7⟩)
        have hbk7 := blk_others hbk ho7 hne
        clear hbk ho7 hI6 d0
        have d1 : w7.cell? ⟨G, 1, none⟩ = some (.string x.d) := hbk7.cell 1
        have q2 : (x.d.size : Int) % 18446744073709551616 = (x.d.size : Int) := by omega
        go_upto_region 10 with (first
          | (go_at_call 30; refine (bytes_yes x.d.size 4 _ (by omega) (by omega)).mono ?_; rintro e w8 ⟨rfl, hb8⟩; have hI8 := hI7.next hb8; have hbk8 := hbk7.below hb8 hbk7.lt)
          | (go_at_call 28; refine (wr_str _ hI8 (by rw [mk_size, Nums.bytesN_length]; simp only [List.length_append, List.length_cons, List.length_nil] at hle ⊢; omega)).mono ?_; rintro e w9 ⟨rfl, hI9, ho9⟩))
        have hbk9 := blk_others hbk8 ho9 hne
        clear hI7 hbk7 d1 hb8 hI8 hbk8 ho9
        have d1 : w9.cell? ⟨G, 1, none⟩ = some (.string x.d) := hbk9.cell 1
        go_wp2_with (go_at_call 28; refine (wr_str _ hI9 (by simp only [List.length_append, List.length_cons, List.length_nil, Nums.bytesN_length] at hle ⊢; omega)).mono ?_; rintro e w10 ⟨rfl, hI10, -⟩)
        go_roundw
        case rel =>
          refine ⟨k + 1, by go_num, by omega, ?_⟩
          rw [body_take HX.out]
          simpa [Sec.bytes] using hI10
        case measure => simp [intOf]; omega
      · have e : headL v n ++ bodyL (l.take k) = bareL v l := by
          rw [List.take_of_length_le (by rw [← HM.out]; omega)]
          unfold bareL
          rw [← HN.out]
        rw [e] at HI
        have q := Lib.hid (HI.out.below)
        go_wp2_with (go_at_call 31; refine (sh_Builder_String_any_k B B _ _ HI.out.b (Nat.le_of_lt HI.out.at)).mono ?_; rintro e w6 ⟨rfl, -, hb6, -⟩)
        go_ret
        exact ⟨rfl, q.out.trans (hb6.mono HI.out.le)⟩
end Go.Proofs.Ytmbafeemiclmeaa
