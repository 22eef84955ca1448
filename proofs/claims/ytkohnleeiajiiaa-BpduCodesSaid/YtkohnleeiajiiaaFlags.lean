/- (PDU).flags: eight flags by their bits, in whatever order the map is filled. -/
import Derived.Test.YtkohnleeiajiiaaMap8
import Derived.Test.YtkohnleeiajiiaaWire
namespace Go.Proofs.Ytkohnleeiajiiaa
open Go.RowKit Go.Maps
set_option linter.unusedSimpArgs false
set_option linter.unusedVariables false

/-- The flag at a bit. -/
def flV (p : Pd) (j : Nat) : Nat := match j with
  | 0 => p.top.toNat
  | 1 => p.prop.toNat
  | 2 => p.role % 2
  | 3 => p.role / 2 % 2
  | 4 => p.lrn.toNat
  | 5 => p.fwd.toNat
  | 6 => p.agr.toNat
  | 7 => p.ack.toNat
  | _ => 0

theorem flV_two (p : Pd) (j : Nat) : flV p j < 2 := by
  unfold flV
  split <;> first | (have := Bool.toNat_lt (by assumption); omega) | omega | exact Bool.toNat_lt _
theorem flV_lt (p : Pd) (j : Nat) : flV p j < 18446744073709551616 := by have := flV_two p j; omega

theorem field_low (x : Nat) : Nums.fieldN x 0 1 = x % 2 := by
  unfold Nums.fieldN
  rw [if_pos (by unfold Nums.good; omega)]
  simp
theorem field_next (x : Nat) : Nums.fieldN x 1 1 = x / 2 % 2 := by
  unfold Nums.fieldN
  rw [if_pos (by unfold Nums.good; omega)]
  simp
theorem rfield0 (p : Pd) (w : World) (h : p.role < 256) : Calls Try.prog 40 #[.int .u64 (p.role : Nat), .int .i64 0, .int .i64 1] w fun e w' => e = .returned (.int .u64 (flV p 2 : Nat)) ∧ w = w' := by
  have := field_any p.role 0 1 w (by omega)
  rw [field_low] at this
  exact this
theorem rfield1 (p : Pd) (w : World) (h : p.role < 256) : Calls Try.prog 40 #[.int .u64 (p.role : Nat), .int .i64 1, .int .i64 1] w fun e w' => e = .returned (.int .u64 (flV p 3 : Nat)) ∧ w = w' := by
  have := field_any p.role 1 1 w (by omega)
  rw [field_next] at this
  exact this

/-- The world, while the map is filled. -/
structure FlW (w0 : World) (g : Nat) (arr : Array Value) (p : Pd) (l0 : Bool) (f : List Bool) (v7 : Value) (w : World) : Prop where
  blk : Blk w g arr 31
  below : Below w0.heap.size w0 w
  mp : l0 = true → ∃ b, v7 = .map (some b) ∧ w0.heap.size ≤ b ∧ b ≠ g ∧ MapAt w b (flV p) f
  o : ∀ j, f.getD j false = true → l0 = true
  len : f.length = 8

theorem FlW.cell {w0 w : World} {g : Nat} {arr : Array Value} {p : Pd} {l0 : Bool} {f : List Bool} {v7 : Value} (h : FlW w0 g arr p l0 f v7 w) (j : Nat) (v : Value) (hv : arr[j]? = some v) : w.cell? ⟨g, j, none⟩ = some v := by rw [h.blk.cell, hv]

theorem all_false (f : List Bool) (hl : f.length = 8) (h : ∀ j, f.getD j false = false) : f = [false, false, false, false, false, false, false, false] := by
  match f, hl with
  | [a, b, c, d, e, f, g, i], _ =>
    have h0 := h 0
    have h1 := h 1
    have h2 := h 2
    have h3 := h 3
    have h4 := h 4
    have h5 := h 5
    have h6 := h 6
    have h7 := h 7
    simp at h0 h1 h2 h3 h4 h5 h6 h7
    subst h0 h1 h2 h3 h4 h5 h6 h7
    rfl

theorem FlW.make {w0 w : World} {g : Nat} {arr : Array Value} {p : Pd} {l0 : Bool} {f : List Bool} {v7 : Value} (h : FlW w0 g arr p l0 f v7 w) (hl : l0 = false) : FlW w0 g arr p true f (.map (some w.heap.size)) (w.alloc (.map #[] 0)) := by
  have hf := all_false f h.len (fun j => by
    cases hc : f.getD j false with
    | false => rfl
    | true => have := h.o j hc; rw [hl] at this; cases this)
  refine ⟨h.blk.alloc _, h.below.alloc h.below.size _, fun _ => ⟨w.heap.size, rfl, h.below.size, by have := h.blk.lt; omega, ?_⟩, fun _ _ => rfl, h.len⟩
  rw [hf]
  exact MapAt.made w _
theorem FlW.put {w0 w w2 : World} {g b j : Nat} {arr : Array Value} {p : Pd} {l0 : Bool} {f : List Bool} (h : FlW w0 g arr p l0 f (.map (some b)) w) (hl : l0 = true) (hb : w0.heap.size ≤ b) (hg : b ≠ g) (hgr : w.grownBy w2 (some b)) (hm : MapAt w2 b (flV p) (f.set j true)) :
    FlW w0 g arr p l0 (f.set j true) (.map (some b)) w2 :=
  ⟨h.blk.grown hgr (by simp; omega), h.below.grown hgr h.below.size (fun q hq => by cases hq; exact hb), fun _ => ⟨b, rfl, hb, hg, hm⟩, fun _ _ => hl, by simpa using h.len⟩

/-- The slots, while the map is filled. -/
structure FlS (p : Pd) (g : Nat) (L : Nat → Bool) (v2 v7 v8 v9 v10 v11 v12 v13 v14 v15 v16 v17 v18 v19 v20 v21 v22 v23 v24 v25 v26 v27 v28 v29 v30 : Value) : Prop where
  e8 : L 1 = true → v8 = .pointer (some ⟨g, 1, none⟩)
  e9 : L 2 = true → v9 = .bool p.top
  e10 : L 3 = true → v10 = .int .u64 (flV p 0 : Nat)
  e11 : L 5 = true → v11 = .pointer (some ⟨g, 2, none⟩)
  e12 : L 6 = true → v12 = .bool p.prop
  e13 : L 7 = true → v13 = .int .u64 (flV p 1 : Nat)
  e14 : L 9 = true → v14 = .int .u64 (p.role : Nat)
  e15 : L 10 = true → v15 = .int .u64 (flV p 2 : Nat)
  e16 : L 12 = true → v16 = .int .u64 (p.role : Nat)
  e17 : L 13 = true → v17 = .int .u64 (flV p 3 : Nat)
  e18 : L 15 = true → v18 = .pointer (some ⟨g, 3, none⟩)
  e19 : L 16 = true → v19 = .bool p.lrn
  e20 : L 17 = true → v20 = .int .u64 (flV p 4 : Nat)
  e21 : L 19 = true → v21 = .pointer (some ⟨g, 4, none⟩)
  e22 : L 20 = true → v22 = .bool p.fwd
  e23 : L 21 = true → v23 = .int .u64 (flV p 5 : Nat)
  e24 : L 23 = true → v24 = .pointer (some ⟨g, 5, none⟩)
  e25 : L 24 = true → v25 = .bool p.agr
  e26 : L 25 = true → v26 = .int .u64 (flV p 6 : Nat)
  e27 : L 27 = true → v27 = .pointer (some ⟨g, 6, none⟩)
  e28 : L 28 = true → v28 = .bool p.ack
  e29 : L 29 = true → v29 = .int .u64 (flV p 7 : Nat)
  e30 : L 31 = true → v30 = v7 ∧ L 0 = true
  e2 : L 32 = true → v2 = v7 ∧ L 0 = true

/-- The frame. -/
abbrev flF (p : Pd) (arr : Array Value) (g : Nat) (v2 v7 v8 v9 v10 v11 v12 v13 v14 v15 v16 v17 v18 v19 v20 v21 v22 v23 v24 v25 v26 v27 v28 v29 v30 : Value) : Act := { tmps := #[.agg arr, .pointer (some ⟨g, 0, none⟩), v2, .int .u64 (p.role : Nat), .pointer (some ⟨g, 7, none⟩), .int .u8 (p.role : Nat), .int .u64 (p.role : Nat), v7, v8, v9, v10, v11, v12, v13, v14, v15, v16, v17, v18, v19, v20, v21, v22, v23, v24, v25, v26, v27, v28, v29, v30], defers := [] }

def FlI (w0 : World) (g : Nat) (arr : Array Value) (p : Pd) (L : Nat → Bool) (a : Act) (w : World) : Prop :=
  ∃ v2 v7 v8 v9 v10 v11 v12 v13 v14 v15 v16 v17 v18 v19 v20 v21 v22 v23 v24 v25 v26 v27 v28 v29 v30, a = flF p arr g v2 v7 v8 v9 v10 v11 v12 v13 v14 v15 v16 v17 v18 v19 v20 v21 v22 v23 v24 v25 v26 v27 v28 v29 v30 ∧ FlS p g L v2 v7 v8 v9 v10 v11 v12 v13 v14 v15 v16 v17 v18 v19 v20 v21 v22 v23 v24 v25 v26 v27 v28 v29 v30 ∧ FlW w0 g arr p (L 0) [L 4, L 8, L 11, L 14, L 18, L 22, L 26, L 30] v7 w

/-- A map of all eight. -/
def MapRes (w0 : World) (v : Nat → Nat) (e : Ending) (w : World) : Prop := ∃ b, e = .returned (.map (some b)) ∧ w0.heap.size ≤ b ∧ MapAt w b v [true, true, true, true, true, true, true, true] ∧ Below w0.heap.size w0 w

set_option maxRecDepth 100000 in
set_option maxHeartbeats 8000000 in
theorem flags_any (p : Pd) (w : World) (hrole : p.role < 256) : Calls Try.prog 44 #[pdV p] w (MapRes w (flV p)) := by
  obtain ⟨arr, harr⟩ : ∃ arr, arr = pdA p := ⟨_, rfl⟩
  have a7 : arr[7]? = some (.int .u8 (p.role : Nat)) := by rw [harr]; rfl
  have HA1 := Lib.hid (show arr[1]? = some (.bool p.top) by rw [harr]; rfl)
  have HA2 := Lib.hid (show arr[2]? = some (.bool p.prop) by rw [harr]; rfl)
  have HA3 := Lib.hid (show arr[3]? = some (.bool p.lrn) by rw [harr]; rfl)
  have HA4 := Lib.hid (show arr[4]? = some (.bool p.fwd) by rw [harr]; rfl)
  have HA5 := Lib.hid (show arr[5]? = some (.bool p.agr) by rw [harr]; rfl)
  have HA6 := Lib.hid (show arr[6]? = some (.bool p.ack) by rw [harr]; rfl)
  show Calls Try.prog 44 #[.agg (pdA p)] w _
  rw [← harr]
  clear harr
  have hb := (Below.refl w.heap.size w).alloc (Nat.le_refl _) (Obj.cells arr 31)
  have R := Lib.hid (Blk.new w arr 31)
  have HB := Lib.hid hb
  clear hb
  have hmm := @run_makeMap Try.prog
  go_enter Try.func44, Try.ntmps44
  go_upto_region 2 with fail
  obtain ⟨w1, hw1⟩ : ∃ w1, w1 = w.alloc (Obj.cells arr 31) := ⟨_, rfl⟩
  rw [← hw1] at R HB ⊢
  clear hw1 a7
  generalize hg : w.heap.size = g at *
  have HG := Lib.hid hg
  clear hg
  refine wp_region_inv (I := FlI w g arr p) (by kernel_rfl) (by kernel_rfl) ⟨.map none, undef, undef, undef, undef, undef, undef, undef, undef, undef, undef, undef, undef, undef, undef, undef, undef, undef, undef, undef, undef, undef, undef, undef, undef, rfl, ⟨fun h => Bool.noConfusion h, fun h => Bool.noConfusion h, fun h => Bool.noConfusion h, fun h => Bool.noConfusion h, fun h => Bool.noConfusion h, fun h => Bool.noConfusion h, fun h => Bool.noConfusion h, fun h => Bool.noConfusion h, fun h => Bool.noConfusion h, fun h => Bool.noConfusion h, fun h => Bool.noConfusion h, fun h => Bool.noConfusion h, fun h => Bool.noConfusion h, fun h => Bool.noConfusion h, fun h => Bool.noConfusion h, fun h => Bool.noConfusion h, fun h => Bool.noConfusion h, fun h => Bool.noConfusion h, fun h => Bool.noConfusion h, fun h => Bool.noConfusion h, fun h => Bool.noConfusion h, fun h => Bool.noConfusion h, fun h => Bool.noConfusion h, fun h => Bool.noConfusion h⟩, ⟨R.out.drew, by rw [HG.out]; exact HB.out.drew, fun h => Bool.noConfusion h, ?_, rfl⟩⟩ ?_ ?_
  · intro j h
    match j with
    | 0 => cases h
    | 1 => cases h
    | 2 => cases h
    | 3 => cases h
    | 4 => cases h
    | 5 => cases h
    | 6 => cases h
    | 7 => cases h
    | j + 8 => cases h
  · intro i hi L a w' hI hL haft
    obtain ⟨v2, v7, v8, v9, v10, v11, v12, v13, v14, v15, v16, v17, v18, v19, v20, v21, v22, v23, v24, v25, v26, v27, v28, v29, v30, rfl, hs, hw⟩ := hI
    match i, hi with
    | 0, _ =>
      exact i_val rfl (.map (some w'.heap.size)) (w'.alloc (.map #[] 0)) (by rfl) (by go_simp) ⟨v2, (.map (some w'.heap.size)), v8, v9, v10, v11, v12, v13, v14, v15, v16, v17, v18, v19, v20, v21, v22, v23, v24, v25, v26, v27, v28, v29, v30, rfl, { hs with e30 := fun h => by (have := (hs.e30 h).2; rw [hL] at this; cases this), e2 := fun h => by (have := (hs.e2 h).2; rw [hL] at this; cases this) }, hw.make hL⟩
    | 1, _ =>
      exact i_val rfl (.pointer (some ⟨g, 1, none⟩)) w' (by rfl) (by go_simp) ⟨v2, v7, (.pointer (some ⟨g, 1, none⟩)), v9, v10, v11, v12, v13, v14, v15, v16, v17, v18, v19, v20, v21, v22, v23, v24, v25, v26, v27, v28, v29, v30, rfl, { hs with e8 := fun _ => rfl }, hw⟩
    | 2, _ =>
      have e := hs.e8 (haft 1 (by decide))
      subst e
      have hc := hw.cell 1 (.bool p.top) HA1.out
      exact i_val rfl (.bool p.top) w' (by rfl) (by go_simp) ⟨v2, v7, (.pointer (some ⟨g, 1, none⟩)), (.bool p.top), v10, v11, v12, v13, v14, v15, v16, v17, v18, v19, v20, v21, v22, v23, v24, v25, v26, v27, v28, v29, v30, rfl, { hs with e9 := fun _ => rfl }, hw⟩
    | 3, _ =>
      have e := hs.e9 (haft 2 (by decide))
      subst e
      exact i_call rfl (.int .u64 (flV p 0 : Nat)) 50 #[.bool p.top] (fun w2 => w' = w2) (by rfl) (by go_simp) (bit_any p.top w') fun w2 hb => by subst hb; exact ⟨v2, v7, v8, (.bool p.top), (.int .u64 (flV p 0 : Nat)), v11, v12, v13, v14, v15, v16, v17, v18, v19, v20, v21, v22, v23, v24, v25, v26, v27, v28, v29, v30, rfl, { hs with e10 := fun _ => rfl }, hw⟩
    | 4, _ =>
      have e := hs.e10 (haft 3 (by decide))
      subst e
      obtain ⟨b, rfl, hb0, hbg, hm⟩ := hw.mp (haft 0 (by decide))
      obtain ⟨w2, hrun, hm2, hgr⟩ := hm.put 0 (by decide) hL (flV_lt p 0)
      exact i_wp rfl (by rfl) (wp_insert rfl rfl rfl rfl hrun ⟨v2, (.map (some b)), v8, v9, (.int .u64 (flV p 0 : Nat)), v11, v12, v13, v14, v15, v16, v17, v18, v19, v20, v21, v22, v23, v24, v25, v26, v27, v28, v29, v30, rfl, { hs with }, hw.put (haft 0 (by decide)) hb0 hbg hgr hm2⟩)
    | 5, _ =>
      exact i_val rfl (.pointer (some ⟨g, 2, none⟩)) w' (by rfl) (by go_simp) ⟨v2, v7, v8, v9, v10, (.pointer (some ⟨g, 2, none⟩)), v12, v13, v14, v15, v16, v17, v18, v19, v20, v21, v22, v23, v24, v25, v26, v27, v28, v29, v30, rfl, { hs with e11 := fun _ => rfl }, hw⟩
    | 6, _ =>
      have e := hs.e11 (haft 5 (by decide))
      subst e
      have hc := hw.cell 2 (.bool p.prop) HA2.out
      exact i_val rfl (.bool p.prop) w' (by rfl) (by go_simp) ⟨v2, v7, v8, v9, v10, (.pointer (some ⟨g, 2, none⟩)), (.bool p.prop), v13, v14, v15, v16, v17, v18, v19, v20, v21, v22, v23, v24, v25, v26, v27, v28, v29, v30, rfl, { hs with e12 := fun _ => rfl }, hw⟩
    | 7, _ =>
      have e := hs.e12 (haft 6 (by decide))
      subst e
      exact i_call rfl (.int .u64 (flV p 1 : Nat)) 50 #[.bool p.prop] (fun w2 => w' = w2) (by rfl) (by go_simp) (bit_any p.prop w') fun w2 hb => by subst hb; exact ⟨v2, v7, v8, v9, v10, v11, (.bool p.prop), (.int .u64 (flV p 1 : Nat)), v14, v15, v16, v17, v18, v19, v20, v21, v22, v23, v24, v25, v26, v27, v28, v29, v30, rfl, { hs with e13 := fun _ => rfl }, hw⟩
    | 8, _ =>
      have e := hs.e13 (haft 7 (by decide))
      subst e
      obtain ⟨b, rfl, hb0, hbg, hm⟩ := hw.mp (haft 0 (by decide))
      obtain ⟨w2, hrun, hm2, hgr⟩ := hm.put 1 (by decide) hL (flV_lt p 1)
      exact i_wp rfl (by rfl) (wp_insert rfl rfl rfl rfl hrun ⟨v2, (.map (some b)), v8, v9, v10, v11, v12, (.int .u64 (flV p 1 : Nat)), v14, v15, v16, v17, v18, v19, v20, v21, v22, v23, v24, v25, v26, v27, v28, v29, v30, rfl, { hs with }, hw.put (haft 0 (by decide)) hb0 hbg hgr hm2⟩)
    | 9, _ =>
      exact i_val rfl (.int .u64 (p.role : Nat)) w' (by rfl) (by go_simp) ⟨v2, v7, v8, v9, v10, v11, v12, v13, (.int .u64 (p.role : Nat)), v15, v16, v17, v18, v19, v20, v21, v22, v23, v24, v25, v26, v27, v28, v29, v30, rfl, { hs with e14 := fun _ => rfl }, hw⟩
    | 10, _ =>
      have e := hs.e14 (haft 9 (by decide))
      subst e
      exact i_call rfl (.int .u64 (flV p 2 : Nat)) 40 #[.int .u64 (p.role : Nat), .int .i64 0, .int .i64 1] (fun w2 => w' = w2) (by rfl) (by go_simp) (rfield0 p w' hrole) fun w2 hb => by subst hb; exact ⟨v2, v7, v8, v9, v10, v11, v12, v13, (.int .u64 (p.role : Nat)), (.int .u64 (flV p 2 : Nat)), v16, v17, v18, v19, v20, v21, v22, v23, v24, v25, v26, v27, v28, v29, v30, rfl, { hs with e15 := fun _ => rfl }, hw⟩
    | 11, _ =>
      have e := hs.e15 (haft 10 (by decide))
      subst e
      obtain ⟨b, rfl, hb0, hbg, hm⟩ := hw.mp (haft 0 (by decide))
      obtain ⟨w2, hrun, hm2, hgr⟩ := hm.put 2 (by decide) hL (flV_lt p 2)
      exact i_wp rfl (by rfl) (wp_insert rfl rfl rfl rfl hrun ⟨v2, (.map (some b)), v8, v9, v10, v11, v12, v13, v14, (.int .u64 (flV p 2 : Nat)), v16, v17, v18, v19, v20, v21, v22, v23, v24, v25, v26, v27, v28, v29, v30, rfl, { hs with }, hw.put (haft 0 (by decide)) hb0 hbg hgr hm2⟩)
    | 12, _ =>
      exact i_val rfl (.int .u64 (p.role : Nat)) w' (by rfl) (by go_simp) ⟨v2, v7, v8, v9, v10, v11, v12, v13, v14, v15, (.int .u64 (p.role : Nat)), v17, v18, v19, v20, v21, v22, v23, v24, v25, v26, v27, v28, v29, v30, rfl, { hs with e16 := fun _ => rfl }, hw⟩
    | 13, _ =>
      have e := hs.e16 (haft 12 (by decide))
      subst e
      exact i_call rfl (.int .u64 (flV p 3 : Nat)) 40 #[.int .u64 (p.role : Nat), .int .i64 1, .int .i64 1] (fun w2 => w' = w2) (by rfl) (by go_simp) (rfield1 p w' hrole) fun w2 hb => by subst hb; exact ⟨v2, v7, v8, v9, v10, v11, v12, v13, v14, v15, (.int .u64 (p.role : Nat)), (.int .u64 (flV p 3 : Nat)), v18, v19, v20, v21, v22, v23, v24, v25, v26, v27, v28, v29, v30, rfl, { hs with e17 := fun _ => rfl }, hw⟩
    | 14, _ =>
      have e := hs.e17 (haft 13 (by decide))
      subst e
      obtain ⟨b, rfl, hb0, hbg, hm⟩ := hw.mp (haft 0 (by decide))
      obtain ⟨w2, hrun, hm2, hgr⟩ := hm.put 3 (by decide) hL (flV_lt p 3)
      exact i_wp rfl (by rfl) (wp_insert rfl rfl rfl rfl hrun ⟨v2, (.map (some b)), v8, v9, v10, v11, v12, v13, v14, v15, v16, (.int .u64 (flV p 3 : Nat)), v18, v19, v20, v21, v22, v23, v24, v25, v26, v27, v28, v29, v30, rfl, { hs with }, hw.put (haft 0 (by decide)) hb0 hbg hgr hm2⟩)
    | 15, _ =>
      exact i_val rfl (.pointer (some ⟨g, 3, none⟩)) w' (by rfl) (by go_simp) ⟨v2, v7, v8, v9, v10, v11, v12, v13, v14, v15, v16, v17, (.pointer (some ⟨g, 3, none⟩)), v19, v20, v21, v22, v23, v24, v25, v26, v27, v28, v29, v30, rfl, { hs with e18 := fun _ => rfl }, hw⟩
    | 16, _ =>
      have e := hs.e18 (haft 15 (by decide))
      subst e
      have hc := hw.cell 3 (.bool p.lrn) HA3.out
      exact i_val rfl (.bool p.lrn) w' (by rfl) (by go_simp) ⟨v2, v7, v8, v9, v10, v11, v12, v13, v14, v15, v16, v17, (.pointer (some ⟨g, 3, none⟩)), (.bool p.lrn), v20, v21, v22, v23, v24, v25, v26, v27, v28, v29, v30, rfl, { hs with e19 := fun _ => rfl }, hw⟩
    | 17, _ =>
      have e := hs.e19 (haft 16 (by decide))
      subst e
      exact i_call rfl (.int .u64 (flV p 4 : Nat)) 50 #[.bool p.lrn] (fun w2 => w' = w2) (by rfl) (by go_simp) (bit_any p.lrn w') fun w2 hb => by subst hb; exact ⟨v2, v7, v8, v9, v10, v11, v12, v13, v14, v15, v16, v17, v18, (.bool p.lrn), (.int .u64 (flV p 4 : Nat)), v21, v22, v23, v24, v25, v26, v27, v28, v29, v30, rfl, { hs with e20 := fun _ => rfl }, hw⟩
    | 18, _ =>
      have e := hs.e20 (haft 17 (by decide))
      subst e
      obtain ⟨b, rfl, hb0, hbg, hm⟩ := hw.mp (haft 0 (by decide))
      obtain ⟨w2, hrun, hm2, hgr⟩ := hm.put 4 (by decide) hL (flV_lt p 4)
      exact i_wp rfl (by rfl) (wp_insert rfl rfl rfl rfl hrun ⟨v2, (.map (some b)), v8, v9, v10, v11, v12, v13, v14, v15, v16, v17, v18, v19, (.int .u64 (flV p 4 : Nat)), v21, v22, v23, v24, v25, v26, v27, v28, v29, v30, rfl, { hs with }, hw.put (haft 0 (by decide)) hb0 hbg hgr hm2⟩)
    | 19, _ =>
      exact i_val rfl (.pointer (some ⟨g, 4, none⟩)) w' (by rfl) (by go_simp) ⟨v2, v7, v8, v9, v10, v11, v12, v13, v14, v15, v16, v17, v18, v19, v20, (.pointer (some ⟨g, 4, none⟩)), v22, v23, v24, v25, v26, v27, v28, v29, v30, rfl, { hs with e21 := fun _ => rfl }, hw⟩
    | 20, _ =>
      have e := hs.e21 (haft 19 (by decide))
      subst e
      have hc := hw.cell 4 (.bool p.fwd) HA4.out
      exact i_val rfl (.bool p.fwd) w' (by rfl) (by go_simp) ⟨v2, v7, v8, v9, v10, v11, v12, v13, v14, v15, v16, v17, v18, v19, v20, (.pointer (some ⟨g, 4, none⟩)), (.bool p.fwd), v23, v24, v25, v26, v27, v28, v29, v30, rfl, { hs with e22 := fun _ => rfl }, hw⟩
    | 21, _ =>
      have e := hs.e22 (haft 20 (by decide))
      subst e
      exact i_call rfl (.int .u64 (flV p 5 : Nat)) 50 #[.bool p.fwd] (fun w2 => w' = w2) (by rfl) (by go_simp) (bit_any p.fwd w') fun w2 hb => by subst hb; exact ⟨v2, v7, v8, v9, v10, v11, v12, v13, v14, v15, v16, v17, v18, v19, v20, v21, (.bool p.fwd), (.int .u64 (flV p 5 : Nat)), v24, v25, v26, v27, v28, v29, v30, rfl, { hs with e23 := fun _ => rfl }, hw⟩
    | 22, _ =>
      have e := hs.e23 (haft 21 (by decide))
      subst e
      obtain ⟨b, rfl, hb0, hbg, hm⟩ := hw.mp (haft 0 (by decide))
      obtain ⟨w2, hrun, hm2, hgr⟩ := hm.put 5 (by decide) hL (flV_lt p 5)
      exact i_wp rfl (by rfl) (wp_insert rfl rfl rfl rfl hrun ⟨v2, (.map (some b)), v8, v9, v10, v11, v12, v13, v14, v15, v16, v17, v18, v19, v20, v21, v22, (.int .u64 (flV p 5 : Nat)), v24, v25, v26, v27, v28, v29, v30, rfl, { hs with }, hw.put (haft 0 (by decide)) hb0 hbg hgr hm2⟩)
    | 23, _ =>
      exact i_val rfl (.pointer (some ⟨g, 5, none⟩)) w' (by rfl) (by go_simp) ⟨v2, v7, v8, v9, v10, v11, v12, v13, v14, v15, v16, v17, v18, v19, v20, v21, v22, v23, (.pointer (some ⟨g, 5, none⟩)), v25, v26, v27, v28, v29, v30, rfl, { hs with e24 := fun _ => rfl }, hw⟩
    | 24, _ =>
      have e := hs.e24 (haft 23 (by decide))
      subst e
      have hc := hw.cell 5 (.bool p.agr) HA5.out
      exact i_val rfl (.bool p.agr) w' (by rfl) (by go_simp) ⟨v2, v7, v8, v9, v10, v11, v12, v13, v14, v15, v16, v17, v18, v19, v20, v21, v22, v23, (.pointer (some ⟨g, 5, none⟩)), (.bool p.agr), v26, v27, v28, v29, v30, rfl, { hs with e25 := fun _ => rfl }, hw⟩
    | 25, _ =>
      have e := hs.e25 (haft 24 (by decide))
      subst e
      exact i_call rfl (.int .u64 (flV p 6 : Nat)) 50 #[.bool p.agr] (fun w2 => w' = w2) (by rfl) (by go_simp) (bit_any p.agr w') fun w2 hb => by subst hb; exact ⟨v2, v7, v8, v9, v10, v11, v12, v13, v14, v15, v16, v17, v18, v19, v20, v21, v22, v23, v24, (.bool p.agr), (.int .u64 (flV p 6 : Nat)), v27, v28, v29, v30, rfl, { hs with e26 := fun _ => rfl }, hw⟩
    | 26, _ =>
      have e := hs.e26 (haft 25 (by decide))
      subst e
      obtain ⟨b, rfl, hb0, hbg, hm⟩ := hw.mp (haft 0 (by decide))
      obtain ⟨w2, hrun, hm2, hgr⟩ := hm.put 6 (by decide) hL (flV_lt p 6)
      exact i_wp rfl (by rfl) (wp_insert rfl rfl rfl rfl hrun ⟨v2, (.map (some b)), v8, v9, v10, v11, v12, v13, v14, v15, v16, v17, v18, v19, v20, v21, v22, v23, v24, v25, (.int .u64 (flV p 6 : Nat)), v27, v28, v29, v30, rfl, { hs with }, hw.put (haft 0 (by decide)) hb0 hbg hgr hm2⟩)
    | 27, _ =>
      exact i_val rfl (.pointer (some ⟨g, 6, none⟩)) w' (by rfl) (by go_simp) ⟨v2, v7, v8, v9, v10, v11, v12, v13, v14, v15, v16, v17, v18, v19, v20, v21, v22, v23, v24, v25, v26, (.pointer (some ⟨g, 6, none⟩)), v28, v29, v30, rfl, { hs with e27 := fun _ => rfl }, hw⟩
    | 28, _ =>
      have e := hs.e27 (haft 27 (by decide))
      subst e
      have hc := hw.cell 6 (.bool p.ack) HA6.out
      exact i_val rfl (.bool p.ack) w' (by rfl) (by go_simp) ⟨v2, v7, v8, v9, v10, v11, v12, v13, v14, v15, v16, v17, v18, v19, v20, v21, v22, v23, v24, v25, v26, (.pointer (some ⟨g, 6, none⟩)), (.bool p.ack), v29, v30, rfl, { hs with e28 := fun _ => rfl }, hw⟩
    | 29, _ =>
      have e := hs.e28 (haft 28 (by decide))
      subst e
      exact i_call rfl (.int .u64 (flV p 7 : Nat)) 50 #[.bool p.ack] (fun w2 => w' = w2) (by rfl) (by go_simp) (bit_any p.ack w') fun w2 hb => by subst hb; exact ⟨v2, v7, v8, v9, v10, v11, v12, v13, v14, v15, v16, v17, v18, v19, v20, v21, v22, v23, v24, v25, v26, v27, (.bool p.ack), (.int .u64 (flV p 7 : Nat)), v30, rfl, { hs with e29 := fun _ => rfl }, hw⟩
    | 30, _ =>
      have e := hs.e29 (haft 29 (by decide))
      subst e
      obtain ⟨b, rfl, hb0, hbg, hm⟩ := hw.mp (haft 0 (by decide))
      obtain ⟨w2, hrun, hm2, hgr⟩ := hm.put 7 (by decide) hL (flV_lt p 7)
      exact i_wp rfl (by rfl) (wp_insert rfl rfl rfl rfl hrun ⟨v2, (.map (some b)), v8, v9, v10, v11, v12, v13, v14, v15, v16, v17, v18, v19, v20, v21, v22, v23, v24, v25, v26, v27, v28, (.int .u64 (flV p 7 : Nat)), v30, rfl, { hs with }, hw.put (haft 0 (by decide)) hb0 hbg hgr hm2⟩)
    | 31, _ =>
      obtain ⟨b, rfl, hb0, hbg, hm⟩ := hw.mp (haft 0 (by decide))
      exact i_val rfl (.map (some b)) w' (by rfl) (by go_simp) ⟨v2, (.map (some b)), v8, v9, v10, v11, v12, v13, v14, v15, v16, v17, v18, v19, v20, v21, v22, v23, v24, v25, v26, v27, v28, v29, (.map (some b)), rfl, { hs with e30 := fun _ => ⟨rfl, haft 0 (by decide)⟩ }, hw⟩
    | 32, _ =>
      have e := (hs.e30 (haft 31 (by decide))).1
      subst e
      exact i_val rfl v30 w' (by rfl) (by go_simp) ⟨v30, v30, v8, v9, v10, v11, v12, v13, v14, v15, v16, v17, v18, v19, v20, v21, v22, v23, v24, v25, v26, v27, v28, v29, v30, rfl, { hs with e2 := fun _ => ⟨rfl, haft 0 (by decide)⟩ }, hw⟩
    | k + 33, h =>
      exfalso
      have h2 : k + 33 < 33 := h
      omega
  · intro L a w' hI hall
    obtain ⟨v2, v7, v8, v9, v10, v11, v12, v13, v14, v15, v16, v17, v18, v19, v20, v21, v22, v23, v24, v25, v26, v27, v28, v29, v30, rfl, hs, hw⟩ := hI
    obtain ⟨b, rfl, hb0, hbg, hm⟩ := hw.mp (hall 0 (by decide))
    have e := (hs.e2 (hall 32 (by decide))).1
    subst e
    have hA : MapAt w' b (flV p) [true, true, true, true, true, true, true, true] := by
      have := hm
      rw [hall 4 (by decide), hall 8 (by decide), hall 11 (by decide), hall 14 (by decide), hall 18 (by decide), hall 22 (by decide), hall 26 (by decide), hall 30 (by decide)] at this
      exact this
    have HM : MapRes w (flV p) (.returned (.map (some b))) w' := ⟨b, rfl, hb0, hA, hw.below⟩
    have HM := Lib.hid HM
    clear hA hm hw hs hall
    go_wp2_with fail
    go_ret
    exact HM.out
end Go.Proofs.Ytkohnleeiajiiaa
