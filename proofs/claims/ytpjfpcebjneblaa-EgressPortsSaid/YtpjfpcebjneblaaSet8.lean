/- The developers' table of VLANs: Set. -/
import Derived.Test.YtpjfpcebjneblaaTab2
namespace Go.Proofs.Ytpjfpcebjneblaa
open Go.RowKit
open Go.ChangeMaps (setBlock)
set_option linter.unusedSimpArgs false
set_option linter.unusedVariables false

/-- The world, while the look-up's region runs. -/
structure SW (w1 : World) (l10 : Bool) (v5 : Value) (w : World) : Prop where
  below : Below w1.heap.size w1 w
  ptr : l10 = true → ∃ (c : Nat) (arr : Array Value), v5 = .pointer (some ⟨c, 0, none⟩) ∧ w1.heap.size ≤ c ∧ arr.size = 3 ∧ Kn w1 [(c, arr, 37)] w
theorem SW.make {w1 w : World} {l10 : Bool} {v5 : Value} (h : SW w1 l10 v5 w) : SW w1 true (.pointer (some ⟨w.heap.size, 0, none⟩)) (w.alloc (.cells vlNilA 37)) :=
  ⟨h.below.alloc h.below.size _, fun _ => ⟨_, vlNilA, rfl, h.below.size, rfl, (⟨fun _ h => (by cases h), h.below⟩ : Kn w1 [] w).alloc _ _⟩⟩
theorem SW.put {w1 w : World} {l10 : Bool} {c : Nat} {arr old : Array Value} (h : SW w1 l10 (.pointer (some ⟨c, 0, none⟩)) w) (hc0 : w1.heap.size ≤ c) (hk : Kn w1 [(c, arr, 37)] w) (ho : old.size = 3) : SW w1 l10 (.pointer (some ⟨c, 0, none⟩)) (w.setRow c old) := by
  have := hk.row (fun _ h => (by cases h)) hc0 old
  exact ⟨this.below, fun _ => ⟨c, old, rfl, hc0, ho, this⟩⟩

/-- The slots, while the region runs. -/
structure St7S (b g mb v m u : Nat) (old : Array Value) (th : Bool) (L : Nat → Bool) (v5 v6 v19 v20 v21 v22 v23 v24 v25 v26 v27 v28 : Value) : Prop where
  e20 : L 0 = true → v20 = .pointer (some ⟨b, 0, none⟩)
  e21 : L 1 = true → v21 = .pointer (some ⟨b, 0, none⟩)
  e22 : L 2 = true → v22 = .pointer (some ⟨b, 0, none⟩)
  e23 : L 3 = true → v23 = .map (some mb)
  e24 : L 4 = true → v24 = .pointer (some ⟨g, 0, none⟩)
  e25 : L 5 = true → v25 = .int .u16 (v : Nat)
  e26 : L 6 = true → v26 = .tuple #[.agg old, .bool th]
  e19 : L 7 = true → v19 = .tuple #[.agg old, .bool th]
  e27 : L 8 = true → v27 = .agg old
  e28 : L 9 = true → v28 = .bool th
  e6 : L 12 = true → v6 = .bool th
abbrev St7F (b g mb v m u : Nat) (old : Array Value) (th : Bool) (v5 v6 v19 v20 v21 v22 v23 v24 v25 v26 v27 v28 : Value) : Act := { tmps := #[.pointer (some ⟨b, 0, none⟩), vlV ⟨v, m, u⟩, undef, .pointer (some ⟨g, 0, none⟩), .int .i64 0, v5, v6, .bool false, .pointer (some ⟨b, 0, none⟩), .bool false, .bool false, .pointer (some ⟨g, 0, none⟩), .int .u16 (v : Nat), .bool true, .bool false, .bool false, .agg #[.int .u16 (v : Nat), .int .u32 (m : Nat), .int .u32 (u : Nat)], .bool true, .bool false, v19, v20, v21, v22, v23, v24, v25, v26, v27, v28, undef, undef, undef, undef, undef, undef, undef, undef, undef, undef, undef, undef, undef, undef, undef, undef, undef], defers := [] }
def St7I (b g mb v m u : Nat) (old : Array Value) (th : Bool) (w1 : World) (L : Nat → Bool) (a : Act) (w : World) : Prop :=
  ∃ v5 v6 v19 v20 v21 v22 v23 v24 v25 v26 v27 v28, a = St7F b g mb v m u old th v5 v6 v19 v20 v21 v22 v23 v24 v25 v26 v27 v28 ∧ St7S b g mb v m u old th L v5 v6 v19 v20 v21 v22 v23 v24 v25 v26 v27 v28 ∧ SW w1 (L 10) v5 w

theorem wp_insert {P : Program} {o : Oper} {a : Act} {w w2 : World} {K : Act → World → Prop} {Q : Exit → Act → World → Prop} {t : TypeId} {m x v : Operand} {b : Nat} {key val : Value} (ho : o.op = .mapUpdate t m x v)
    (hm : a.eval m = .map (some b)) (hx : a.eval x = key) (hv : a.eval v = val) (hrun : (Instr.mapUpdate t (.map (some b)) key val).run P w = .ok () w2) (h : K (a.put o.dst undef) w2) : o.wp P a w K Q := by
  unfold Oper.wp execOp
  simp only [ho, hm, hx, hv, Sem.run_bind, Sem.run_pure, hrun, Result.andThen_ok]
  exact h

/-- The world, while the new one is laid in. -/
structure SP (w3 : World) (mb v : Nat) (y : Vl) (L0 : List (Nat × Vl)) (L : Nat → Bool) (w : World) : Prop where
  bef : L 7 = false → Below w3.heap.size w3 w
  ord : L 7 = true → ∀ i, i < 7 → L i = true
  aft : L 7 = true → ∃ w2 o, Below w3.heap.size w3 w2 ∧ w = setBlock w2 mb o ∧ Tb w mb kv16 vlV (putL v y L0)
theorem SP.no {w3 w : World} {mb v : Nat} {y : Vl} {L0 : List (Nat × Vl)} {L : Nat → Bool} (h : SP w3 mb v y L0 L w) (i : Nat) (hi : i < 7) (hl : L i = false) : L 7 = false := by
  cases c : L 7 with
  | false => rfl
  | true => have := h.ord c i hi; rw [hl] at this; cases this
theorem SP.step {w3 w : World} {mb v : Nat} {y : Vl} {L0 : List (Nat × Vl)} {L : Nat → Bool} (h : SP w3 mb v y L0 L w) (i : Nat) (hi : i < 7) (hl : L i = false) : SP w3 mb v y L0 (upd L i) w := by
  have c := h.no i hi hl
  have e : upd L i 7 = false := by unfold upd; rw [if_neg (by omega)]; exact c
  exact ⟨fun _ => h.bef c, fun q => (by rw [e] at q; cases q), fun q => (by rw [e] at q; cases q)⟩
theorem SP.put {w3 w : World} {mb v : Nat} {y : Vl} {L0 : List (Nat × Vl)} {L : Nat → Bool} {o : Obj} (h : SP w3 mb v y L0 L w) (hl : L 7 = false) (hall : ∀ i, i < 7 → L i = true) (ht : Tb (setBlock w mb o) mb kv16 vlV (putL v y L0)) : SP w3 mb v y L0 (upd L 7) (setBlock w mb o) := by
  have e : upd L 7 7 = true := by unfold upd; rw [if_pos rfl]
  refine ⟨fun q => (by rw [e] at q; cases q), fun _ i hi => ?_, fun _ => ⟨w, o, h.bef hl, rfl, ht⟩⟩
  unfold upd
  rw [if_neg (by omega)]
  exact hall i hi

/-- The slots, while the region runs. -/
structure St10S (b g mb v m u : Nat) (th : Bool) (f5 f19 f20 f21 f22 f23 f24 f25 f26 f27 f28 f29 f30 f31 f32 f33 f34 f35 f36 f37 f38 : Value) (L : Nat → Bool) (v39 v40 v41 v42 v43 v44 v45 : Value) : Prop where
  e39 : L 0 = true → v39 = .pointer (some ⟨b, 0, none⟩)
  e40 : L 1 = true → v40 = .pointer (some ⟨b, 0, none⟩)
  e41 : L 2 = true → v41 = .pointer (some ⟨b, 0, none⟩)
  e42 : L 3 = true → v42 = .map (some mb)
  e43 : L 4 = true → v43 = .pointer (some ⟨g, 0, none⟩)
  e44 : L 5 = true → v44 = .int .u16 (v : Nat)
  e45 : L 6 = true → v45 = .agg #[.int .u16 (v : Nat), .int .u32 (m : Nat), .int .u32 (u : Nat)]
abbrev St10F (b g mb v m u : Nat) (th : Bool) (f5 f19 f20 f21 f22 f23 f24 f25 f26 f27 f28 f29 f30 f31 f32 f33 f34 f35 f36 f37 f38 : Value) (v39 v40 v41 v42 v43 v44 v45 : Value) : Act := { tmps := #[.pointer (some ⟨b, 0, none⟩), vlV ⟨v, m, u⟩, undef, .pointer (some ⟨g, 0, none⟩), .int .i64 0, f5, .bool th, .bool false, .pointer (some ⟨b, 0, none⟩), .bool false, .bool false, .pointer (some ⟨g, 0, none⟩), .int .u16 (v : Nat), .bool true, .bool false, .bool false, .agg #[.int .u16 (v : Nat), .int .u32 (m : Nat), .int .u32 (u : Nat)], .bool true, .bool false, f19, f20, f21, f22, f23, f24, f25, f26, f27, f28, f29, f30, f31, f32, f33, f34, f35, f36, f37, f38, v39, v40, v41, v42, v43, v44, v45], defers := [] }
def St10I (b g mb v m u : Nat) (th : Bool) (f5 f19 f20 f21 f22 f23 f24 f25 f26 f27 f28 f29 f30 f31 f32 f33 f34 f35 f36 f37 f38 : Value) (w3 : World) (L0 : List (Nat × Vl)) (L : Nat → Bool) (a : Act) (w : World) : Prop :=
  ∃ v39 v40 v41 v42 v43 v44 v45, a = St10F b g mb v m u th f5 f19 f20 f21 f22 f23 f24 f25 f26 f27 f28 f29 f30 f31 f32 f33 f34 f35 f36 f37 f38 v39 v40 v41 v42 v43 v44 v45 ∧ St10S b g mb v m u th f5 f19 f20 f21 f22 f23 f24 f25 f26 f27 f28 f29 f30 f31 f32 f33 f34 f35 f36 f37 f38 L v39 v40 v41 v42 v43 v44 v45 ∧ SP w3 mb v ⟨v, m, u⟩ L0 L w

set_option maxRecDepth 100000 in
set_option maxHeartbeats 16000000 in
theorem set_tm {w : World} {b A B : Nat} {l : List Vl} (x : Vl) (h : TM w b A B l) (hAB : A ≤ B) (hB : B ≤ w.heap.size) :
    Calls Try.prog 10 #[.pointer (some ⟨b, 0, none⟩), vlV x] w fun e w' => e = .returned (.int .i64 (setVE l x)) ∧ TM w' b A B (setV l x) ∧ KeptO A B w w' := by
  obtain ⟨v, m, u⟩ := x
  have hb := (Below.refl w.heap.size w).alloc (Nat.le_refl _) (.cells (vlA ⟨v, m, u⟩) 37)
  cases hv : vidOk v with
  | false =>
    have HG := Lib.hid (show goodV ⟨v, m, u⟩ = 15 by rw [goodV_eq, if_pos hv])
    have R1 := Lib.hid (show (15 : Int) = setVE l ⟨v, m, u⟩ by unfold setVE; rw [HG.out]; rfl)
    have R2 := Lib.hid (show setV l ⟨v, m, u⟩ = l by unfold setV; rw [HG.out]; rfl)
    have HV := Lib.hid hv
    have HB2 := Lib.hid hb
    have HH := Lib.hid h
    clear hv hb h
    go_enter Try.func10, Try.ntmps10
    go_wp2_with (go_at_call 29; refine (goodVid_any v _).mono ?_; rintro e w' ⟨rfl, rfl⟩; rw [HV.out])
    go_ret
    refine ⟨ret_num R1.out, ?_⟩
    rw [R2.out]
    exact HH.out.next hB HB2.out
  | true =>
    cases hp : portsOk ⟨v, m, u⟩ with
    | false =>
      have HG := Lib.hid (show goodV ⟨v, m, u⟩ = 14 by rw [goodV_eq, if_neg (by rw [hv]; decide), if_pos hp])
      have R1 := Lib.hid (show (14 : Int) = setVE l ⟨v, m, u⟩ by unfold setVE; rw [HG.out]; rfl)
      have R2 := Lib.hid (show setV l ⟨v, m, u⟩ = l by unfold setV; rw [HG.out]; rfl)
      have HV := Lib.hid hv
      have HP := Lib.hid hp
      have HB2 := Lib.hid hb
      have HH := Lib.hid h
      clear hv hb h hp
      go_enter Try.func10, Try.ntmps10
      go_wp2_with (first
        | (go_at_call 29; refine (goodVid_any v _).mono ?_; rintro e w' ⟨rfl, rfl⟩; rw [HV.out])
        | (go_at_call 30; refine (goodPorts_any ⟨v, m, u⟩ _).mono ?_; rintro e w' ⟨rfl, hb3⟩; rw [HP.out]))
      go_ret
      refine ⟨ret_num R1.out, ?_⟩
      rw [R2.out]
      exact HH.out.next hB (HB2.out.trans (hb3.mono HB2.out.size))
    | true =>
      have HG := Lib.hid (show goodV ⟨v, m, u⟩ = 0 by rw [goodV_eq, if_neg (by rw [hv]; decide), if_neg (by rw [hp]; decide)])
      have HV := Lib.hid hv
      have HP := Lib.hid hp
      have HB2 := Lib.hid hb
      have HH := Lib.hid h
      clear hv hb h hp
      go_enter Try.func10, Try.ntmps10
      go_upto_region 7 with (first
        | (go_at_call 29; refine (goodVid_any v _).mono ?_; rintro e w' ⟨rfl, rfl⟩; rw [HV.out])
        | (go_at_call 30; refine (goodPorts_any ⟨v, m, u⟩ _).mono ?_; rintro e w1 ⟨rfl, hb3⟩; rw [HP.out]))
      have HB3 := Lib.hid (HB2.out.trans (hb3.mono HB2.out.size))
      have hg0 : Blk (w.alloc (.cells (vlA ⟨v, m, u⟩) 37)) w.heap.size (vlA ⟨v, m, u⟩) 37 := Blk.new _ _ _
      have HG1 := Lib.hid (hg0.below hb3 hg0.lt)
      clear hb3 hg0
      obtain ⟨g, hg⟩ : ∃ g, w.heap.size = g := ⟨_, rfl⟩
      rw [hg] at HG1 ⊢
      have HGS := Lib.hid hg
      have H1 := Lib.hid ((HH.out.next hB HB3.out).1)
      obtain ⟨mb, L0, h1, h2, h3, h40, h50, h6⟩ := HH.out
      have H4W0 := Lib.hid h40
      have h4 : Blk w1 b #[.map (some mb)] 89 := h40.below HB3.out h40.lt
      have h5 := h50.next HB3.out
      clear h40 h50
      have HS1 := Lib.hid HB3.out.size
      have H4 := Lib.hid h4
      have H5 := Lib.hid h5
      clear h4 h5
      obtain ⟨th, old, hold, hget⟩ : ∃ (th : Bool) (old : Array Value), ((Instr.lookup 87 (.map (some mb)) (.int .u16 (v : Nat)) true).run Try.prog w1 = .ok (.tuple #[.agg old, .bool th]) w1 ∧ old.size = 3 ∧ old.all (·.oneCell') = true ∧ ∀ w2, Below w1.heap.size w1 w2 → (Instr.lookup 87 (.map (some mb)) (.int .u16 (v : Nat)) true).run Try.prog w2 = .ok (.tuple #[.agg old, .bool th]) w2) ∧ th = decide (0 ≤ atV v l) := by
        rcases h6.get v with ⟨g1, g2⟩ | ⟨k, x, g1, g2, g3, g4⟩
        · exact ⟨false, vlNilA, ⟨H5.out.look_no v g2, rfl, by simp [Value.oneCell'], fun w2 hb => (H5.out.next hb).look_no v g2⟩, by rw [g1]; rfl⟩
        · exact ⟨true, vlA x, ⟨H5.out.look_yes v x g4 _ rfl, rfl, vl_one x, fun w2 hb => (H5.out.next hb).look_yes v x g4 _ rfl⟩, by rw [g1, eq_comm, decide_eq_true_eq]; omega⟩
      obtain ⟨-, hoz, ho1, hlk⟩ := hold
      have HC1 := Lib.hid (show ∀ w2, Below w1.heap.size w1 w2 → w2.cell? ⟨b, 0, none⟩ = some (.map (some mb)) from fun w2 hb => by rw [(H4.out.below hb H4.out.lt).cell]; rfl)
      have HC2 := Lib.hid (show ∀ w2, Below w1.heap.size w1 w2 → w2.cell? ⟨g, 0, none⟩ = some (.int .u16 (v : Nat)) from fun w2 hb => by rw [(HG1.out.below hb HG1.out.lt).cell]; rfl)
      have HC3 := Lib.hid hlk
      have HOZ := Lib.hid hoz
      have HO1 := Lib.hid ho1
      have HZ48 := Lib.hid (show (Try.prog.info? 37).map (·.size) = some old.size by rw [hoz]; exact vinfo48)
      have HTH := Lib.hid hget
      clear hlk hoz ho1 hget hg
      refine wp_region_inv (I := St7I b g mb v m u old th w1) (by kernel_rfl) (by kernel_rfl) ⟨undef, undef, undef, undef, undef, undef, undef, undef, undef, undef, undef, undef, rfl, ⟨(fun h => Bool.noConfusion h), (fun h => Bool.noConfusion h), (fun h => Bool.noConfusion h), (fun h => Bool.noConfusion h), (fun h => Bool.noConfusion h), (fun h => Bool.noConfusion h), (fun h => Bool.noConfusion h), (fun h => Bool.noConfusion h), (fun h => Bool.noConfusion h), (fun h => Bool.noConfusion h), (fun h => Bool.noConfusion h)⟩, ⟨(Below.refl _ _).drew, fun h => Bool.noConfusion h⟩⟩ ?_ ?_
      · intro i hi L a w' hI hL haft
        obtain ⟨v5, v6, v19, v20, v21, v22, v23, v24, v25, v26, v27, v28, rfl, hs, hw⟩ := hI
        match i, hi with
        | 0, _ =>
          exact i_val rfl (.pointer (some ⟨b, 0, none⟩)) w' (by rfl) (by go_simp) ⟨v5, v6, v19, (.pointer (some ⟨b, 0, none⟩)), v21, v22, v23, v24, v25, v26, v27, v28, rfl, { hs with e20 := fun _ => rfl }, hw⟩
        | 1, _ =>
          have e20x := hs.e20 (haft 0 (by decide))
          subst e20x
          exact i_val rfl (.pointer (some ⟨b, 0, none⟩)) w' (by rfl) (by go_simp) ⟨v5, v6, v19, (.pointer (some ⟨b, 0, none⟩)), (.pointer (some ⟨b, 0, none⟩)), v22, v23, v24, v25, v26, v27, v28, rfl, { hs with e21 := fun _ => rfl }, hw⟩
        | 2, _ =>
          have e21x := hs.e21 (haft 1 (by decide))
          subst e21x
          exact i_val rfl (.pointer (some ⟨b, 0, none⟩)) w' (by rfl) (by go_simp) ⟨v5, v6, v19, v20, (.pointer (some ⟨b, 0, none⟩)), (.pointer (some ⟨b, 0, none⟩)), v23, v24, v25, v26, v27, v28, rfl, { hs with e22 := fun _ => rfl }, hw⟩
        | 3, _ =>
          have e22x := hs.e22 (haft 2 (by decide))
          subst e22x
          have hc := HC1.out w' hw.below
          exact i_val rfl (.map (some mb)) w' (by rfl) (by go_simp) ⟨v5, v6, v19, v20, v21, (.pointer (some ⟨b, 0, none⟩)), (.map (some mb)), v24, v25, v26, v27, v28, rfl, { hs with e23 := fun _ => rfl }, hw⟩
        | 4, _ =>
          exact i_val rfl (.pointer (some ⟨g, 0, none⟩)) w' (by rfl) (by go_simp) ⟨v5, v6, v19, v20, v21, v22, v23, (.pointer (some ⟨g, 0, none⟩)), v25, v26, v27, v28, rfl, { hs with e24 := fun _ => rfl }, hw⟩
        | 5, _ =>
          have e24x := hs.e24 (haft 4 (by decide))
          subst e24x
          have hc := HC2.out w' hw.below
          exact i_val rfl (.int .u16 (v : Nat)) w' (by rfl) (by go_simp) ⟨v5, v6, v19, v20, v21, v22, v23, (.pointer (some ⟨g, 0, none⟩)), (.int .u16 (v : Nat)), v26, v27, v28, rfl, { hs with e25 := fun _ => rfl }, hw⟩
        | 6, _ =>
          have e23x := hs.e23 (haft 3 (by decide))
          subst e23x
          have e25x := hs.e25 (haft 5 (by decide))
          subst e25x
          have hc := HC3.out w' hw.below
          exact i_val rfl (.tuple #[.agg old, .bool th]) w' (by rfl) (by go_simp) ⟨v5, v6, v19, v20, v21, v22, (.map (some mb)), v24, (.int .u16 (v : Nat)), (.tuple #[.agg old, .bool th]), v27, v28, rfl, { hs with e26 := fun _ => rfl }, hw⟩
        | 7, _ =>
          have e26x := hs.e26 (haft 6 (by decide))
          subst e26x
          exact i_val rfl (.tuple #[.agg old, .bool th]) w' (by rfl) (by go_simp) ⟨v5, v6, (.tuple #[.agg old, .bool th]), v20, v21, v22, v23, v24, v25, (.tuple #[.agg old, .bool th]), v27, v28, rfl, { hs with e19 := fun _ => rfl }, hw⟩
        | 8, _ =>
          have e19x := hs.e19 (haft 7 (by decide))
          subst e19x
          exact i_val rfl (.agg old) w' (by rfl) (by go_simp) ⟨v5, v6, (.tuple #[.agg old, .bool th]), v20, v21, v22, v23, v24, v25, v26, (.agg old), v28, rfl, { hs with e27 := fun _ => rfl }, hw⟩
        | 9, _ =>
          have e19x := hs.e19 (haft 7 (by decide))
          subst e19x
          exact i_val rfl (.bool th) w' (by rfl) (by go_simp) ⟨v5, v6, (.tuple #[.agg old, .bool th]), v20, v21, v22, v23, v24, v25, v26, v27, (.bool th), rfl, { hs with e28 := fun _ => rfl }, hw⟩
        | 10, _ =>
          have hz := zero48 w'
          exact i_val rfl (.pointer (some ⟨w'.heap.size, 0, none⟩)) (w'.alloc (.cells vlNilA 37)) (by rfl) (by go_simp) ⟨(.pointer (some ⟨w'.heap.size, 0, none⟩)), v6, v19, v20, v21, v22, v23, v24, v25, v26, v27, v28, rfl, { hs with }, hw.make⟩
        | 11, _ =>
          have e27x := hs.e27 (haft 8 (by decide))
          subst e27x
          obtain ⟨c, arr, rfl, hc0, hcz, hk⟩ := hw.ptr (haft 10 (by decide))
          exact i_wp rfl (by rfl) (wp_store_row 37 _ _ rfl c old rfl rfl 37 arr (hk.at 0 rfl) HZ48.out (hcz.trans HOZ.out.symm) HO1.out ⟨(.pointer (some ⟨c, 0, none⟩)), v6, v19, v20, v21, v22, v23, v24, v25, v26, (.agg old), v28, rfl, { hs with }, hw.put hc0 hk HOZ.out⟩)
        | 12, _ =>
          have e28x := hs.e28 (haft 9 (by decide))
          subst e28x
          exact i_val rfl (.bool th) w' (by rfl) (by go_simp) ⟨v5, (.bool th), v19, v20, v21, v22, v23, v24, v25, v26, v27, (.bool th), rfl, { hs with e6 := fun _ => rfl }, hw⟩
        | k + 13, h =>
          exfalso
          have h2 : k + 13 < 13 := h
          omega
      intro L a w3 hI hall
      obtain ⟨v5, v6, v19, v20, v21, v22, v23, v24, v25, v26, v27, v28, rfl, hs, hw⟩ := hI
      have e6 := hs.e6 (hall 12 (by decide))
      subst e6
      have HB4 := Lib.hid hw.below
      clear hs hw hall
      have hlen : (Builtin.len_ #[87] 3 #[.map (some mb)]).run Try.prog w3 = .ok (.int .i64 (L0.length : Nat)) w3 := (H5.out.next HB4.out).len Try.underlying87 3
      have H4W := Lib.hid (show Blk w b #[.map (some mb)] 89 from H4W0.out)
      have hc3 := HC1.out w3 HB4.out
      cases th with
      | true =>
        have hat : 0 ≤ atV v l := of_decide_eq_true HTH.out.symm
        have HROOM := Lib.hid (show 0 ≤ atV v l ∨ l.length < 16 from .inl hat)
        have R1 := Lib.hid (show (0 : Int) = setVE l ⟨v, m, u⟩ by unfold setVE; rw [HG.out, if_neg (by simp), if_pos hat])
        clear hat
        go_upto_region 10 with fail
        have HD1 := Lib.hid (show ∀ w2, Below w3.heap.size w3 w2 → w2.cell? ⟨b, 0, none⟩ = some (.map (some mb)) from fun w2 hb => HC1.out w2 (HB4.out.trans (hb.mono HB4.out.size)))
        have HD2 := Lib.hid (show ∀ w2, Below w3.heap.size w3 w2 → w2.cell? ⟨g, 0, none⟩ = some (.int .u16 (v : Nat)) from fun w2 hb => HC2.out w2 (HB4.out.trans (hb.mono HB4.out.size)))
        have HD3 := Lib.hid (show ∀ w2, Below w3.heap.size w3 w2 → w2.cell? ⟨g, 1, none⟩ = some (.int .u32 (m : Nat)) from fun w2 hb => by rw [(HG1.out.below (HB4.out.trans (hb.mono HB4.out.size)) HG1.out.lt).cell]; rfl)
        have HD4 := Lib.hid (show ∀ w2, Below w3.heap.size w3 w2 → w2.cell? ⟨g, 2, none⟩ = some (.int .u32 (u : Nat)) from fun w2 hb => by rw [(HG1.out.below (HB4.out.trans (hb.mono HB4.out.size)) HG1.out.lt).cell]; rfl)
        have HD5 := Lib.hid (show ∀ w2, Below w3.heap.size w3 w2 → ∃ o, (Instr.mapUpdate 87 (.map (some mb)) (.int .u16 (v : Nat)) (vlV ⟨v, m, u⟩)).run Try.prog w2 = .ok () (setBlock w2 mb o) ∧ Tb (setBlock w2 mb o) mb kv16 vlV (putL v ⟨v, m, u⟩ L0) from fun w2 hb => (H5.out.next (HB4.out.trans (hb.mono HB4.out.size))).put keys16 Try.underlying87 v ⟨v, m, u⟩ trivial (fun _ _ => trivial))
        refine wp_region_inv (I := St10I b g mb v m u true _ _ _ _ _ _ _ _ _ _ _ _ _ _ _ _ _ _ _ _ _ w3 L0) (by kernel_rfl) (by kernel_rfl) ⟨undef, undef, undef, undef, undef, undef, undef, rfl, ⟨(fun h => Bool.noConfusion h), (fun h => Bool.noConfusion h), (fun h => Bool.noConfusion h), (fun h => Bool.noConfusion h), (fun h => Bool.noConfusion h), (fun h => Bool.noConfusion h), (fun h => Bool.noConfusion h)⟩, ⟨fun _ => (Below.refl _ _).drew, fun h => Bool.noConfusion h, fun h => Bool.noConfusion h⟩⟩ ?_ ?_
        · intro i hi L a w' hI hL haft
          obtain ⟨v39, v40, v41, v42, v43, v44, v45, rfl, hs, hw⟩ := hI
          match i, hi with
          | 0, _ =>
            exact i_val rfl (.pointer (some ⟨b, 0, none⟩)) w' (by rfl) (by go_simp) ⟨(.pointer (some ⟨b, 0, none⟩)), v40, v41, v42, v43, v44, v45, rfl, { hs with e39 := fun _ => rfl }, (hw.step 0 (by decide) hL)⟩
          | 1, _ =>
            have e39x := hs.e39 (haft 0 (by decide))
            subst e39x
            exact i_val rfl (.pointer (some ⟨b, 0, none⟩)) w' (by rfl) (by go_simp) ⟨(.pointer (some ⟨b, 0, none⟩)), (.pointer (some ⟨b, 0, none⟩)), v41, v42, v43, v44, v45, rfl, { hs with e40 := fun _ => rfl }, (hw.step 1 (by decide) hL)⟩
          | 2, _ =>
            have e40x := hs.e40 (haft 1 (by decide))
            subst e40x
            exact i_val rfl (.pointer (some ⟨b, 0, none⟩)) w' (by rfl) (by go_simp) ⟨v39, (.pointer (some ⟨b, 0, none⟩)), (.pointer (some ⟨b, 0, none⟩)), v42, v43, v44, v45, rfl, { hs with e41 := fun _ => rfl }, (hw.step 2 (by decide) hL)⟩
          | 3, _ =>
            have e41x := hs.e41 (haft 2 (by decide))
            subst e41x
            have hb := hw.bef (hw.no 3 (by decide) hL)
            have hc := HD1.out w' hb
            exact i_val rfl (.map (some mb)) w' (by rfl) (by go_simp) ⟨v39, v40, (.pointer (some ⟨b, 0, none⟩)), (.map (some mb)), v43, v44, v45, rfl, { hs with e42 := fun _ => rfl }, (hw.step 3 (by decide) hL)⟩
          | 4, _ =>
            exact i_val rfl (.pointer (some ⟨g, 0, none⟩)) w' (by rfl) (by go_simp) ⟨v39, v40, v41, v42, (.pointer (some ⟨g, 0, none⟩)), v44, v45, rfl, { hs with e43 := fun _ => rfl }, (hw.step 4 (by decide) hL)⟩
          | 5, _ =>
            have e43x := hs.e43 (haft 4 (by decide))
            subst e43x
            have hb := hw.bef (hw.no 5 (by decide) hL)
            have hc := HD2.out w' hb
            exact i_val rfl (.int .u16 (v : Nat)) w' (by rfl) (by go_simp) ⟨v39, v40, v41, v42, (.pointer (some ⟨g, 0, none⟩)), (.int .u16 (v : Nat)), v45, rfl, { hs with e44 := fun _ => rfl }, (hw.step 5 (by decide) hL)⟩
          | 6, _ =>
            have hb := hw.bef (hw.no 6 (by decide) hL)
            have hc := HD2.out w' hb
            have hc3 := HD3.out w' hb
            have hc4 := HD4.out w' hb
            exact i_val rfl (.agg #[.int .u16 (v : Nat), .int .u32 (m : Nat), .int .u32 (u : Nat)]) w' (by rfl) (by go_simp) ⟨v39, v40, v41, v42, v43, v44, (.agg #[.int .u16 (v : Nat), .int .u32 (m : Nat), .int .u32 (u : Nat)]), rfl, { hs with e45 := fun _ => rfl }, (hw.step 6 (by decide) hL)⟩
          | 7, _ =>
            have e42x := hs.e42 (haft 3 (by decide))
            subst e42x
            have e44x := hs.e44 (haft 5 (by decide))
            subst e44x
            have e45x := hs.e45 (haft 6 (by decide))
            subst e45x
            have hb := hw.bef hL
            obtain ⟨o, hrun, ht⟩ := HD5.out w' hb
            exact i_wp rfl (by rfl) (wp_insert rfl rfl rfl rfl hrun ⟨v39, v40, v41, (.map (some mb)), v43, (.int .u16 (v : Nat)), (.agg #[.int .u16 (v : Nat), .int .u32 (m : Nat), .int .u32 (u : Nat)]), rfl, { hs with }, hw.put hL (fun i hi => haft i (by match i, hi with | 0, _ => decide | 1, _ => decide | 2, _ => decide | 3, _ => decide | 4, _ => decide | 5, _ => decide | 6, _ => decide | k + 7, h => (exfalso; have h2 : k + 7 < 7 := h; omega))) ht⟩)
          | k + 8, h =>
            exfalso
            have h2 : k + 8 < 8 := h
            omega
        intro L a w3 hI hall
        obtain ⟨v39, v40, v41, v42, v43, v44, v45, rfl, hs, hw⟩ := hI
        obtain ⟨w5, o, hb5, rfl, ht5⟩ := hw.aft (hall 7 (by decide))
        have HT5 := Lib.hid ht5
        have HB5 := Lib.hid hb5
        clear hw hs hall ht5 hb5
        go_wp2
        go_ret
        refine ⟨ret_num R1.out, ?_⟩
        exact TM.turned h1 h2 h3 H4W.out hB (HB3.out.trans ((HB4.out.trans (HB5.out.mono HB4.out.size)).mono HB3.out.size)) HT5.out (h6.put ⟨v, m, u⟩ HG.out HROOM.out)
      | false =>
        have hat : ¬ 0 ≤ atV v l := of_decide_eq_false HTH.out.symm
        by_cases hr : 16 ≤ l.length
        · have R1 := Lib.hid (show (13 : Int) = setVE l ⟨v, m, u⟩ by unfold setVE; rw [HG.out, if_neg (by simp), if_neg hat, if_pos hr])
          have R2 := Lib.hid (show setV l ⟨v, m, u⟩ = l by unfold setV; rw [if_neg (by rw [HG.out]; simp), if_neg hat, if_pos hr])
          have hr2 : decide ((16 : Int) ≤ (L0.length : Nat)) = true := by rw [h6.len, decide_eq_true_eq]; omega
          clear hat hr
          go_wp2
          go_ret
          refine ⟨ret_num R1.out, ?_⟩
          rw [R2.out]
          exact HH.out.next hB (HB3.out.trans (HB4.out.mono HB3.out.size))
        · have HROOM := Lib.hid (show 0 ≤ atV v l ∨ l.length < 16 from .inr (by omega))
          have R1 := Lib.hid (show (0 : Int) = setVE l ⟨v, m, u⟩ by unfold setVE; rw [HG.out, if_neg (by simp), if_neg hat, if_neg hr])
          have hr2 : decide ((16 : Int) ≤ (L0.length : Nat)) = false := by rw [h6.len, decide_eq_false_iff_not]; omega
          clear hat hr
          go_upto_region 10 with fail
          have HD1 := Lib.hid (show ∀ w2, Below w3.heap.size w3 w2 → w2.cell? ⟨b, 0, none⟩ = some (.map (some mb)) from fun w2 hb => HC1.out w2 (HB4.out.trans (hb.mono HB4.out.size)))
          have HD2 := Lib.hid (show ∀ w2, Below w3.heap.size w3 w2 → w2.cell? ⟨g, 0, none⟩ = some (.int .u16 (v : Nat)) from fun w2 hb => HC2.out w2 (HB4.out.trans (hb.mono HB4.out.size)))
          have HD3 := Lib.hid (show ∀ w2, Below w3.heap.size w3 w2 → w2.cell? ⟨g, 1, none⟩ = some (.int .u32 (m : Nat)) from fun w2 hb => by rw [(HG1.out.below (HB4.out.trans (hb.mono HB4.out.size)) HG1.out.lt).cell]; rfl)
          have HD4 := Lib.hid (show ∀ w2, Below w3.heap.size w3 w2 → w2.cell? ⟨g, 2, none⟩ = some (.int .u32 (u : Nat)) from fun w2 hb => by rw [(HG1.out.below (HB4.out.trans (hb.mono HB4.out.size)) HG1.out.lt).cell]; rfl)
          have HD5 := Lib.hid (show ∀ w2, Below w3.heap.size w3 w2 → ∃ o, (Instr.mapUpdate 87 (.map (some mb)) (.int .u16 (v : Nat)) (vlV ⟨v, m, u⟩)).run Try.prog w2 = .ok () (setBlock w2 mb o) ∧ Tb (setBlock w2 mb o) mb kv16 vlV (putL v ⟨v, m, u⟩ L0) from fun w2 hb => (H5.out.next (HB4.out.trans (hb.mono HB4.out.size))).put keys16 Try.underlying87 v ⟨v, m, u⟩ trivial (fun _ _ => trivial))
          refine wp_region_inv (I := St10I b g mb v m u false _ _ _ _ _ _ _ _ _ _ _ _ _ _ _ _ _ _ _ _ _ w3 L0) (by kernel_rfl) (by kernel_rfl) ⟨undef, undef, undef, undef, undef, undef, undef, rfl, ⟨(fun h => Bool.noConfusion h), (fun h => Bool.noConfusion h), (fun h => Bool.noConfusion h), (fun h => Bool.noConfusion h), (fun h => Bool.noConfusion h), (fun h => Bool.noConfusion h), (fun h => Bool.noConfusion h)⟩, ⟨fun _ => (Below.refl _ _).drew, fun h => Bool.noConfusion h, fun h => Bool.noConfusion h⟩⟩ ?_ ?_
          · intro i hi L a w' hI hL haft
            obtain ⟨v39, v40, v41, v42, v43, v44, v45, rfl, hs, hw⟩ := hI
            match i, hi with
            | 0, _ =>
              exact i_val rfl (.pointer (some ⟨b, 0, none⟩)) w' (by rfl) (by go_simp) ⟨(.pointer (some ⟨b, 0, none⟩)), v40, v41, v42, v43, v44, v45, rfl, { hs with e39 := fun _ => rfl }, (hw.step 0 (by decide) hL)⟩
            | 1, _ =>
              have e39x := hs.e39 (haft 0 (by decide))
              subst e39x
              exact i_val rfl (.pointer (some ⟨b, 0, none⟩)) w' (by rfl) (by go_simp) ⟨(.pointer (some ⟨b, 0, none⟩)), (.pointer (some ⟨b, 0, none⟩)), v41, v42, v43, v44, v45, rfl, { hs with e40 := fun _ => rfl }, (hw.step 1 (by decide) hL)⟩
            | 2, _ =>
              have e40x := hs.e40 (haft 1 (by decide))
              subst e40x
              exact i_val rfl (.pointer (some ⟨b, 0, none⟩)) w' (by rfl) (by go_simp) ⟨v39, (.pointer (some ⟨b, 0, none⟩)), (.pointer (some ⟨b, 0, none⟩)), v42, v43, v44, v45, rfl, { hs with e41 := fun _ => rfl }, (hw.step 2 (by decide) hL)⟩
            | 3, _ =>
              have e41x := hs.e41 (haft 2 (by decide))
              subst e41x
              have hb := hw.bef (hw.no 3 (by decide) hL)
              have hc := HD1.out w' hb
              exact i_val rfl (.map (some mb)) w' (by rfl) (by go_simp) ⟨v39, v40, (.pointer (some ⟨b, 0, none⟩)), (.map (some mb)), v43, v44, v45, rfl, { hs with e42 := fun _ => rfl }, (hw.step 3 (by decide) hL)⟩
            | 4, _ =>
              exact i_val rfl (.pointer (some ⟨g, 0, none⟩)) w' (by rfl) (by go_simp) ⟨v39, v40, v41, v42, (.pointer (some ⟨g, 0, none⟩)), v44, v45, rfl, { hs with e43 := fun _ => rfl }, (hw.step 4 (by decide) hL)⟩
            | 5, _ =>
              have e43x := hs.e43 (haft 4 (by decide))
              subst e43x
              have hb := hw.bef (hw.no 5 (by decide) hL)
              have hc := HD2.out w' hb
              exact i_val rfl (.int .u16 (v : Nat)) w' (by rfl) (by go_simp) ⟨v39, v40, v41, v42, (.pointer (some ⟨g, 0, none⟩)), (.int .u16 (v : Nat)), v45, rfl, { hs with e44 := fun _ => rfl }, (hw.step 5 (by decide) hL)⟩
            | 6, _ =>
              have hb := hw.bef (hw.no 6 (by decide) hL)
              have hc := HD2.out w' hb
              have hc3 := HD3.out w' hb
              have hc4 := HD4.out w' hb
              exact i_val rfl (.agg #[.int .u16 (v : Nat), .int .u32 (m : Nat), .int .u32 (u : Nat)]) w' (by rfl) (by go_simp) ⟨v39, v40, v41, v42, v43, v44, (.agg #[.int .u16 (v : Nat), .int .u32 (m : Nat), .int .u32 (u : Nat)]), rfl, { hs with e45 := fun _ => rfl }, (hw.step 6 (by decide) hL)⟩
            | 7, _ =>
              have e42x := hs.e42 (haft 3 (by decide))
              subst e42x
              have e44x := hs.e44 (haft 5 (by decide))
              subst e44x
              have e45x := hs.e45 (haft 6 (by decide))
              subst e45x
              have hb := hw.bef hL
              obtain ⟨o, hrun, ht⟩ := HD5.out w' hb
              exact i_wp rfl (by rfl) (wp_insert rfl rfl rfl rfl hrun ⟨v39, v40, v41, (.map (some mb)), v43, (.int .u16 (v : Nat)), (.agg #[.int .u16 (v : Nat), .int .u32 (m : Nat), .int .u32 (u : Nat)]), rfl, { hs with }, hw.put hL (fun i hi => haft i (by match i, hi with | 0, _ => decide | 1, _ => decide | 2, _ => decide | 3, _ => decide | 4, _ => decide | 5, _ => decide | 6, _ => decide | k + 7, h => (exfalso; have h2 : k + 7 < 7 := h; omega))) ht⟩)
            | k + 8, h =>
              exfalso
              have h2 : k + 8 < 8 := h
              omega
          intro L a w3 hI hall
          obtain ⟨v39, v40, v41, v42, v43, v44, v45, rfl, hs, hw⟩ := hI
          obtain ⟨w5, o, hb5, rfl, ht5⟩ := hw.aft (hall 7 (by decide))
          have HT5 := Lib.hid ht5
          have HB5 := Lib.hid hb5
          clear hw hs hall ht5 hb5
          go_wp2
          go_ret
          refine ⟨ret_num R1.out, ?_⟩
          exact TM.turned h1 h2 h3 H4W.out hB (HB3.out.trans ((HB4.out.trans (HB5.out.mono HB4.out.size)).mono HB3.out.size)) HT5.out (h6.put ⟨v, m, u⟩ HG.out HROOM.out)
end Go.Proofs.Ytpjfpcebjneblaa
