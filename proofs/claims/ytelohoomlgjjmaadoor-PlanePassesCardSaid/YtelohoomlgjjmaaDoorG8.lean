import Derived.Test.YtelohoomlgjjmaaDoorG7
import Derived.Test.YtelohoomlgjjmaaDoorG4
import Derived.Test.YtelohoomlgjjmaaDoorG5
import Derived.Test.YtelohoomlgjjmaaDoorG3
import Derived.Deep.DeepCutAuto
import Derived.Maps.RangeWalk
set_option linter.unusedSimpArgs false
set_option linter.unusedVariables false
namespace Go.Proofs.YtelohoomlgjjmaaDoor
section
/- The developers' table of layer 9: Find; is there room. -/
open Go.RowKit
attribute [local irreducible] wpQuiet
open Go.ChangeMaps (setBlock)

abbrev enNilA : Array Value := #[.int .u16 0, .int .u8 0, .int .u8 0, .int .u8 0, .int .u8 0, .int .u8 0, .int .u8 0, .int .i64 0, .int .i64 0]
theorem zero49 (W : World) : (zeroValue 67).run Tryd.prog W = .ok (.agg enNilA) W := by kernel_rfl
theorem kySize9 : (Tryd.prog.info? 63).map (·.size) = some 7 := by kernel_rfl
theorem lookE_no {w : World} {mb : Nat} {L : List (Nat × En)} (h : Tb w mb kvK vvE L) (vid a : Nat) (ha : a < 281474976710656) (g : getL (keyN vid a) L = none) :
    (Instr.lookup 103 (.map (some mb)) (kyV vid a) true).run Tryd.prog w = .ok (.tuple #[.agg enNilA, .bool false]) w := by
  have := Tb.look h ky_keys Tryd.underlying103 (keyN vid a) trivial (fun _ _ => trivial) (zero49 w) true
  rw [g, kvK_of vid a ha] at this
  exact this
theorem lookE_yes {w : World} {mb : Nat} {L : List (Nat × En)} (h : Tb w mb kvK vvE L) (vid a : Nat) (ha : a < 281474976710656) (x : En) (g : getL (keyN vid a) L = some x) :
    (Instr.lookup 103 (.map (some mb)) (kyV vid a) true).run Tryd.prog w = .ok (.tuple #[.agg (enA x), .bool true]) w := by
  have := Tb.look h ky_keys Tryd.underlying103 (keyN vid a) trivial (fun _ _ => trivial) (zero49 w) true
  rw [g, kvK_of vid a ha] at this
  exact this
/-- The world, while a look-up's region runs. -/
structure SW9 (w1 : World) (old : Array Value) (l9 l10 : Bool) (v : Value) (w : World) : Prop where
  below : Below w1.heap.size w1 w
  ord : l10 = true → l9 = true
  ptr : l9 = true → ∃ (c : Nat) (arr : Array Value), v = .pointer (some ⟨c, 0, none⟩) ∧ w1.heap.size ≤ c ∧ arr.size = 9 ∧ Kn w1 [(c, arr, 67)] w ∧ (l10 = true → arr = old)
theorem SW9.make {w1 w : World} {old : Array Value} {l9 l10 : Bool} {v : Value} (h : SW9 w1 old l9 l10 v w) (hl : l9 = false) : SW9 w1 old true l10 (.pointer (some ⟨w.heap.size, 0, none⟩)) (w.alloc (.cells enNilA 67)) :=
  ⟨h.below.alloc h.below.size _, fun _ => rfl, fun _ => ⟨_, enNilA, rfl, h.below.size, rfl, (⟨fun _ h => (by cases h), h.below⟩ : Kn w1 [] w).alloc _ _, fun q => (by have := h.ord q; rw [hl] at this; cases this)⟩⟩
theorem SW9.put {w1 w : World} {old : Array Value} {l9 l10 : Bool} {c : Nat} {arr : Array Value} (h : SW9 w1 old l9 l10 (.pointer (some ⟨c, 0, none⟩)) w) (h9 : l9 = true) (hc0 : w1.heap.size ≤ c) (hk : Kn w1 [(c, arr, 67)] w) (ho : old.size = 9) : SW9 w1 old l9 true (.pointer (some ⟨c, 0, none⟩)) (w.setRow c old) := by
  have := hk.row (fun _ h => (by cases h)) hc0 old
  exact ⟨this.below, fun _ => h9, fun _ => ⟨c, old, rfl, hc0, ho, this, fun _ => rfl⟩⟩
/-- The slots, while the region runs. -/
structure Fi18S (b g mb vid a : Nat) (old : Array Value) (th : Bool) (L : Nat → Bool) (v6 v7 v10 v11 v12 v13 v14 v15 v16 v17 v18 : Value) : Prop where
  e11 : L 0 = true → v11 = .pointer (some ⟨b, 0, none⟩)
  e12 : L 1 = true → v12 = .pointer (some ⟨b, 0, none⟩)
  e13 : L 2 = true → v13 = .pointer (some ⟨b, 2, none⟩)
  e14 : L 3 = true → v14 = .map (some mb)
  e15 : L 4 = true → v15 = kyV vid a
  e16 : L 5 = true → v16 = .tuple #[.agg old, .bool th]
  e10 : L 6 = true → v10 = .tuple #[.agg old, .bool th]
  e17 : L 7 = true → v17 = .agg old
  e18 : L 8 = true → v18 = .bool th
  e7 : L 11 = true → v7 = .bool th
abbrev Fi18F (b g mb vid a : Nat) (old : Array Value) (th : Bool) (v6 v7 v10 v11 v12 v13 v14 v15 v16 v17 v18 : Value) : Act := { tmps := #[.pointer (some ⟨b, 0, none⟩), kyV vid a, undef, .pointer (some ⟨g, 0, none⟩), .int .i64 0, .bool false, v6, v7, .pointer (some ⟨b, 0, none⟩), .bool false, v10, v11, v12, v13, v14, v15, v16, v17, v18, undef, undef, undef], defers := [] }
def Fi18I (b g mb vid a : Nat) (old : Array Value) (th : Bool) (w1 : World) (L : Nat → Bool) (ac : Act) (w : World) : Prop :=
  ∃ v6 v7 v10 v11 v12 v13 v14 v15 v16 v17 v18, ac = Fi18F b g mb vid a old th v6 v7 v10 v11 v12 v13 v14 v15 v16 v17 v18 ∧ Fi18S b g mb vid a old th L v6 v7 v10 v11 v12 v13 v14 v15 v16 v17 v18 ∧ SW9 w1 old (L 9) (L 10) v6 w
/-- The slots, while the region runs. -/
structure Ro44S (b g mb vid a : Nat) (old : Array Value) (th : Bool) (L : Nat → Bool) (v5 v6 v7 v8 v9 v10 v11 v12 v13 v14 v15 : Value) : Prop where
  e8 : L 0 = true → v8 = .pointer (some ⟨b, 0, none⟩)
  e9 : L 1 = true → v9 = .pointer (some ⟨b, 0, none⟩)
  e10 : L 2 = true → v10 = .pointer (some ⟨b, 2, none⟩)
  e11 : L 3 = true → v11 = .map (some mb)
  e12 : L 4 = true → v12 = kyV vid a
  e13 : L 5 = true → v13 = .tuple #[.agg old, .bool th]
  e7 : L 6 = true → v7 = .tuple #[.agg old, .bool th]
  e14 : L 7 = true → v14 = .agg old
  e15 : L 8 = true → v15 = .bool th
  e6 : L 11 = true → v6 = .bool th
abbrev Ro44F (b g mb vid a : Nat) (old : Array Value) (th : Bool) (v5 v6 v7 v8 v9 v10 v11 v12 v13 v14 v15 : Value) : Act := { tmps := #[.pointer (some ⟨b, 0, none⟩), kyV vid a, undef, .pointer (some ⟨g, 0, none⟩), .bool false, v5, v6, v7, v8, v9, v10, v11, v12, v13, v14, v15, undef, undef, undef, undef, undef, undef, undef, undef, undef, undef, undef, undef, undef], defers := [] }
def Ro44I (b g mb vid a : Nat) (old : Array Value) (th : Bool) (w1 : World) (L : Nat → Bool) (ac : Act) (w : World) : Prop :=
  ∃ v5 v6 v7 v8 v9 v10 v11 v12 v13 v14 v15, ac = Ro44F b g mb vid a old th v5 v6 v7 v8 v9 v10 v11 v12 v13 v14 v15 ∧ Ro44S b g mb vid a old th L v5 v6 v7 v8 v9 v10 v11 v12 v13 v14 v15 ∧ SW9 w1 old (L 9) (L 10) v5 w

/-- What a look-up finds. -/
theorem TF.looks {w : World} {b A B : Nat} {mo li : Int} {l : List En} (vid a : Nat) (ha : a < 281474976710656) (h : TF w b A B mo li l) : ∃ (mb : Nat) (th : Bool) (old : Array Value), Blk w b #[.int .i64 mo, .int .i64 li, .map (some mb)] 105 ∧ old.size = 9 ∧ old.all (·.oneCell') = true ∧
    (∀ w', Below w.heap.size w w' → (Instr.lookup 103 (.map (some mb)) (kyV vid a) true).run Tryd.prog w' = .ok (.tuple #[.agg old, .bool th]) w') ∧ (∀ w', Below w.heap.size w w' → (Builtin.len_ #[103] 3 #[.map (some mb)]).run Tryd.prog w' = .ok (.int .i64 (l.length : Nat)) w') ∧
    th = decide (0 ≤ atK enK (keyN vid a) l) ∧ ((th = false ∧ atK enK (keyN vid a) l = -1 ∧ old = enNilA) ∨ (th = true ∧ ∃ (k : Nat) (x : En), atK enK (keyN vid a) l = k ∧ l[k]? = some x ∧ old = enA x)) := by
  obtain ⟨mb, L, h1, h2, h3, h4, h5, h6, h7⟩ := h
  have hlen : ∀ w', Below w.heap.size w w' → (Builtin.len_ #[103] 3 #[.map (some mb)]).run Tryd.prog w' = .ok (.int .i64 (l.length : Nat)) w' := fun w' hb => by
    rw [← h6.len]
    exact (h5.next hb).len (P := Tryd.prog) Tryd.underlying103 3
  rcases h6.get (keyN vid a) with ⟨g1, g2⟩ | ⟨k, x, g1, g2, g3, g4⟩
  · exact ⟨mb, false, enNilA, h4, rfl, by simp [Value.oneCell'], fun w' hb => lookE_no (h5.next hb) vid a ha g2, hlen, by rw [g1]; rfl, .inl ⟨rfl, g1, rfl⟩⟩
  · exact ⟨mb, true, enA x, h4, rfl, enA_one x, fun w' hb => lookE_yes (h5.next hb) vid a ha x g4, hlen, by rw [g1, eq_comm, decide_eq_true_eq]; omega, .inr ⟨rfl, k, x, g1, g2, rfl⟩⟩
/-- What Find answers. -/
def FindR (l : List En) (v : Nat) (e : Ending) : Prop :=
  (atK enK v l = -1 ∧ e = .returned (.tuple #[.int .i64 0, .bool false])) ∨ ∃ (k : Nat) (x : En), atK enK v l = k ∧ l[k]? = some x ∧ e = .returned (.tuple #[.int .i64 x.port, .bool true])

set_option maxRecDepth 100000 in
set_option maxHeartbeats 8000000 in
theorem find_tf {w : World} {b A B : Nat} {mo li : Int} {l : List En} (vid a : Nat) (ha : a < 281474976710656) (h : TF w b A B mo li l) :
    Calls Tryd.prog 12 #[.pointer (some ⟨b, 0, none⟩), kyV vid a] w fun e w' => Below w.heap.size w w' ∧ FindR l (keyN vid a) e := by
  obtain ⟨mb, th, old, h4, hoz, ho1, hlk, hln, hth, hcase⟩ := h.looks vid a ha
  obtain ⟨w1, hw1⟩ : ∃ w1, w1 = w.alloc (.cells (kyA vid a) 63) := ⟨_, rfl⟩
  have hb1 : Below w.heap.size w w1 := by rw [hw1]; exact (Below.refl w.heap.size w).alloc (Nat.le_refl _) _
  obtain ⟨g, hg⟩ : ∃ g, g = w.heap.size := ⟨_, rfl⟩
  have hk1 : Blk w1 g (kyA vid a) 63 := by rw [hw1, hg]; exact Blk.new _ _ _
  have h4' : Blk w1 b #[.int .i64 mo, .int .i64 li, .map (some mb)] 105 := h4.below hb1 h4.lt
  have HC1 := Lib.hid (show ∀ w', Below w1.heap.size w1 w' → w'.cell? ⟨b, 2, none⟩ = some (.map (some mb)) from fun w' hb => by rw [(h4'.below hb h4'.lt).cell]; rfl)
  have HC0 := Lib.hid (show ∀ w', Below w1.heap.size w1 w' → w'.cell? ⟨b, 0, none⟩ = some (.int .i64 mo) from fun w' hb => by rw [(h4'.below hb h4'.lt).cell]; rfl)
  have HC2 := Lib.hid (show ∀ w', Below w1.heap.size w1 w' → Blk w' g (kyA vid a) 63 from fun w' hb => hk1.below hb hk1.lt)
  have HC3 := Lib.hid (show ∀ w', Below w1.heap.size w1 w' → (Instr.lookup 103 (.map (some mb)) (kyV vid a) true).run Tryd.prog w' = .ok (.tuple #[.agg old, .bool th]) w' from fun w' hb => hlk w' (hb1.trans (hb.mono hb1.size)))
  have HLN := Lib.hid (show ∀ w', Below w1.heap.size w1 w' → (Builtin.len_ #[103] 3 #[.map (some mb)]).run Tryd.prog w' = .ok (.int .i64 (l.length : Nat)) w' from fun w' hb => hln w' (hb1.trans (hb.mono hb1.size)))
  have HOZ := Lib.hid hoz
  have HO1 := Lib.hid ho1
  have HZ49 := Lib.hid (show (Tryd.prog.info? 67).map (·.size) = some old.size by rw [hoz]; exact enSize49)
  have SZ7 := Lib.hid kySize9
  have HB1 := Lib.hid hb1
  have HW := Lib.hid hw1
  have HG := Lib.hid hg
  have HTH := Lib.hid hth
  have HCS := Lib.hid hcase
  clear h h4 hoz ho1 hlk hln hth hcase hw1 hb1 hg hk1 h4'
  go_enter Tryd.func12, Tryd.ntmps12
  go_upto_region 1 with fail
  rw [← HW.out, ← HG.out]
  go_upto_region 3 with fail
  refine wp_region_inv (I := Fi18I b g mb vid a old th w1) (by kernel_rfl) (by kernel_rfl) ⟨undef, undef, undef, undef, undef, undef, undef, undef, undef, undef, undef, rfl, ⟨(fun h => Bool.noConfusion h), (fun h => Bool.noConfusion h), (fun h => Bool.noConfusion h), (fun h => Bool.noConfusion h), (fun h => Bool.noConfusion h), (fun h => Bool.noConfusion h), (fun h => Bool.noConfusion h), (fun h => Bool.noConfusion h), (fun h => Bool.noConfusion h), (fun h => Bool.noConfusion h)⟩, ⟨(Below.refl _ _).drew, fun h => Bool.noConfusion h, fun h => Bool.noConfusion h⟩⟩ ?_ ?_
  · intro i hi Lx ac w' hI hL haft
    obtain ⟨v6, v7, v10, v11, v12, v13, v14, v15, v16, v17, v18, rfl, hs, hw⟩ := hI
    match i, hi with
    | 0, _ =>
      exact i_val rfl (.pointer (some ⟨b, 0, none⟩)) w' (by rfl) (by go_simp) ⟨v6, v7, v10, (.pointer (some ⟨b, 0, none⟩)), v12, v13, v14, v15, v16, v17, v18, rfl, { hs with e11 := fun _ => rfl }, hw⟩
    | 1, _ =>
      have e11x := hs.e11 (haft 0 (by decide))
      subst e11x
      exact i_val rfl (.pointer (some ⟨b, 0, none⟩)) w' (by rfl) (by go_simp) ⟨v6, v7, v10, (.pointer (some ⟨b, 0, none⟩)), (.pointer (some ⟨b, 0, none⟩)), v13, v14, v15, v16, v17, v18, rfl, { hs with e12 := fun _ => rfl }, hw⟩
    | 2, _ =>
      have e12x := hs.e12 (haft 1 (by decide))
      subst e12x
      exact i_val rfl (.pointer (some ⟨b, 2, none⟩)) w' (by rfl) (by go_simp) ⟨v6, v7, v10, v11, (.pointer (some ⟨b, 0, none⟩)), (.pointer (some ⟨b, 2, none⟩)), v14, v15, v16, v17, v18, rfl, { hs with e13 := fun _ => rfl }, hw⟩
    | 3, _ =>
      have e13x := hs.e13 (haft 2 (by decide))
      subst e13x
      have hc := HC1.out w' hw.below
      exact i_val rfl (.map (some mb)) w' (by rfl) (by go_simp) ⟨v6, v7, v10, v11, v12, (.pointer (some ⟨b, 2, none⟩)), (.map (some mb)), v15, v16, v17, v18, rfl, { hs with e14 := fun _ => rfl }, hw⟩
    | 4, _ =>
      exact i_val rfl (kyV vid a) w' (by rfl) (run_loadVar_of 63 _ rfl g rfl 63 (kyA vid a) _ (HC2.out w' hw.below) Tryd.underlying63 rfl SZ7.out) ⟨v6, v7, v10, v11, v12, v13, v14, (kyV vid a), v16, v17, v18, rfl, { hs with e15 := fun _ => rfl }, hw⟩
    | 5, _ =>
      have e14x := hs.e14 (haft 3 (by decide))
      subst e14x
      have e15x := hs.e15 (haft 4 (by decide))
      subst e15x
      have hc := HC3.out w' hw.below
      exact i_val rfl (.tuple #[.agg old, .bool th]) w' (by rfl) (by go_simp) ⟨v6, v7, v10, v11, v12, v13, (.map (some mb)), (kyV vid a), (.tuple #[.agg old, .bool th]), v17, v18, rfl, { hs with e16 := fun _ => rfl }, hw⟩
    | 6, _ =>
      have e16x := hs.e16 (haft 5 (by decide))
      subst e16x
      exact i_val rfl (.tuple #[.agg old, .bool th]) w' (by rfl) (by go_simp) ⟨v6, v7, (.tuple #[.agg old, .bool th]), v11, v12, v13, v14, v15, (.tuple #[.agg old, .bool th]), v17, v18, rfl, { hs with e10 := fun _ => rfl }, hw⟩
    | 7, _ =>
      have e10x := hs.e10 (haft 6 (by decide))
      subst e10x
      exact i_val rfl (.agg old) w' (by rfl) (by go_simp) ⟨v6, v7, (.tuple #[.agg old, .bool th]), v11, v12, v13, v14, v15, v16, (.agg old), v18, rfl, { hs with e17 := fun _ => rfl }, hw⟩
    | 8, _ =>
      have e10x := hs.e10 (haft 6 (by decide))
      subst e10x
      exact i_val rfl (.bool th) w' (by rfl) (by go_simp) ⟨v6, v7, (.tuple #[.agg old, .bool th]), v11, v12, v13, v14, v15, v16, v17, (.bool th), rfl, { hs with e18 := fun _ => rfl }, hw⟩
    | 9, _ =>
      have hz := zero49 w'
      exact i_val rfl (.pointer (some ⟨w'.heap.size, 0, none⟩)) (w'.alloc (.cells enNilA 67)) (by rfl) (by go_simp) ⟨(.pointer (some ⟨w'.heap.size, 0, none⟩)), v7, v10, v11, v12, v13, v14, v15, v16, v17, v18, rfl, { hs with }, hw.make hL⟩
    | 10, _ =>
      have e17x := hs.e17 (haft 7 (by decide))
      subst e17x
      obtain ⟨c, arr, rfl, hc0, hcz, hk, -⟩ := hw.ptr (haft 9 (by decide))
      exact i_wp rfl (by rfl) (wp_store_row 67 _ _ rfl c old rfl rfl 67 arr (hk.at 0 rfl) HZ49.out (hcz.trans HOZ.out.symm) HO1.out ⟨(.pointer (some ⟨c, 0, none⟩)), v7, v10, v11, v12, v13, v14, v15, v16, (.agg old), v18, rfl, { hs with }, hw.put (haft 9 (by decide)) hc0 hk HOZ.out⟩)
    | 11, _ =>
      have e18x := hs.e18 (haft 8 (by decide))
      subst e18x
      exact i_val rfl (.bool th) w' (by rfl) (by go_simp) ⟨v6, (.bool th), v10, v11, v12, v13, v14, v15, v16, v17, (.bool th), rfl, { hs with e7 := fun _ => rfl }, hw⟩
    | k + 12, h =>
      exfalso
      have h2 : k + 12 < 12 := h
      omega
  intro Lx ac w3 hI hall
  obtain ⟨v6, v7, v10, v11, v12, v13, v14, v15, v16, v17, v18, rfl, hs, hw⟩ := hI
  obtain ⟨c, arr, rfl, hc0, hcz, hk, ho⟩ := hw.ptr (hall 9 (by decide))
  obtain rfl := ho (hall 10 (by decide))
  have e11y := hs.e11 (hall 0 (by decide))
  subst e11y
  have e12y := hs.e12 (hall 1 (by decide))
  subst e12y
  have e13y := hs.e13 (hall 2 (by decide))
  subst e13y
  have e14y := hs.e14 (hall 3 (by decide))
  subst e14y
  have e15y := hs.e15 (hall 4 (by decide))
  subst e15y
  have e16y := hs.e16 (hall 5 (by decide))
  subst e16y
  have e10y := hs.e10 (hall 6 (by decide))
  subst e10y
  have e17y := hs.e17 (hall 7 (by decide))
  subst e17y
  have e18y := hs.e18 (hall 8 (by decide))
  subst e18y
  have e7y := hs.e7 (hall 11 (by decide))
  subst e7y
  have hkc := hk.at 0 rfl
  have HB5 := Lib.hid (HB1.out.trans (hw.below.mono HB1.out.size))
  clear hs hw hall hc0 hk hcz ho
  rcases HCS.out with ⟨rfl, h1, rfl⟩ | ⟨rfl, k, x, h1, h2, rfl⟩
  · have c7 := hkc.cell 7
    simp only [List.getElem?_toArray, List.getElem?_cons_zero, List.getElem?_cons_succ] at c7
    have H1 := Lib.hid h1
    clear h1 hkc
    go_wp2_with fail
    go_ret2
    exact ⟨HB5.out, .inl ⟨H1.out, rfl⟩⟩
  · have c7 := hkc.cell 7
    simp only [List.getElem?_toArray, List.getElem?_cons_zero, List.getElem?_cons_succ] at c7
    have H1 := Lib.hid h1
    have H2 := Lib.hid h2
    clear h1 h2 hkc
    go_wp2_with fail
    go_ret2
    exact ⟨HB5.out, .inr ⟨k, x, H1.out, H2.out, rfl⟩⟩

theorem nil_find (w : World) (vid a : Nat) : Calls Tryd.prog 12 #[.pointer none, kyV vid a] w fun e w' => e = .returned (.tuple #[.int .i64 0, .bool false]) ∧ Below w.heap.size w w' := by
  have HB := Lib.hid ((Below.refl w.heap.size w).alloc (Nat.le_refl _) (.cells (kyA vid a) 63))
  go_enter Tryd.func12, Tryd.ntmps12
  go_wp2
  go_ret2
  exact ⟨rfl, HB.out⟩

set_option maxRecDepth 100000 in
set_option maxHeartbeats 8000000 in
theorem room_tf {w : World} {b A B : Nat} {mo li : Int} {l : List En} (vid a : Nat) (ha : a < 281474976710656) (h : TF w b A B mo li l) :
    Calls Tryd.prog 34 #[.pointer (some ⟨b, 0, none⟩), kyV vid a] w fun e w' => e = .returned (.bool (decide (0 ≤ atK enK (keyN vid a) l) || decide ((l.length : Int) < mo))) ∧ Below w.heap.size w w' := by
  obtain ⟨mb, th, old, h4, hoz, ho1, hlk, hln, hth, hcase⟩ := h.looks vid a ha
  obtain ⟨w1, hw1⟩ : ∃ w1, w1 = w.alloc (.cells (kyA vid a) 63) := ⟨_, rfl⟩
  have hb1 : Below w.heap.size w w1 := by rw [hw1]; exact (Below.refl w.heap.size w).alloc (Nat.le_refl _) _
  obtain ⟨g, hg⟩ : ∃ g, g = w.heap.size := ⟨_, rfl⟩
  have hk1 : Blk w1 g (kyA vid a) 63 := by rw [hw1, hg]; exact Blk.new _ _ _
  have h4' : Blk w1 b #[.int .i64 mo, .int .i64 li, .map (some mb)] 105 := h4.below hb1 h4.lt
  have HC1 := Lib.hid (show ∀ w', Below w1.heap.size w1 w' → w'.cell? ⟨b, 2, none⟩ = some (.map (some mb)) from fun w' hb => by rw [(h4'.below hb h4'.lt).cell]; rfl)
  have HC0 := Lib.hid (show ∀ w', Below w1.heap.size w1 w' → w'.cell? ⟨b, 0, none⟩ = some (.int .i64 mo) from fun w' hb => by rw [(h4'.below hb h4'.lt).cell]; rfl)
  have HC2 := Lib.hid (show ∀ w', Below w1.heap.size w1 w' → Blk w' g (kyA vid a) 63 from fun w' hb => hk1.below hb hk1.lt)
  have HC3 := Lib.hid (show ∀ w', Below w1.heap.size w1 w' → (Instr.lookup 103 (.map (some mb)) (kyV vid a) true).run Tryd.prog w' = .ok (.tuple #[.agg old, .bool th]) w' from fun w' hb => hlk w' (hb1.trans (hb.mono hb1.size)))
  have HLN := Lib.hid (show ∀ w', Below w1.heap.size w1 w' → (Builtin.len_ #[103] 3 #[.map (some mb)]).run Tryd.prog w' = .ok (.int .i64 (l.length : Nat)) w' from fun w' hb => hln w' (hb1.trans (hb.mono hb1.size)))
  have HOZ := Lib.hid hoz
  have HO1 := Lib.hid ho1
  have HZ49 := Lib.hid (show (Tryd.prog.info? 67).map (·.size) = some old.size by rw [hoz]; exact enSize49)
  have SZ7 := Lib.hid kySize9
  have HB1 := Lib.hid hb1
  have HW := Lib.hid hw1
  have HG := Lib.hid hg
  have HTH := Lib.hid hth
  have HCS := Lib.hid hcase
  rw [← hth]
  clear h h4 hoz ho1 hlk hln hth hcase hw1 hb1 hg hk1 h4'
  go_enter Tryd.func34, Tryd.ntmps34
  go_upto_region 1 with fail
  rw [← HW.out, ← HG.out]
  refine wp_region_inv (I := Ro44I b g mb vid a old th w1) (by kernel_rfl) (by kernel_rfl) ⟨undef, undef, undef, undef, undef, undef, undef, undef, undef, undef, undef, rfl, ⟨(fun h => Bool.noConfusion h), (fun h => Bool.noConfusion h), (fun h => Bool.noConfusion h), (fun h => Bool.noConfusion h), (fun h => Bool.noConfusion h), (fun h => Bool.noConfusion h), (fun h => Bool.noConfusion h), (fun h => Bool.noConfusion h), (fun h => Bool.noConfusion h), (fun h => Bool.noConfusion h)⟩, ⟨(Below.refl _ _).drew, fun h => Bool.noConfusion h, fun h => Bool.noConfusion h⟩⟩ ?_ ?_
  · intro i hi Lx ac w' hI hL haft
    obtain ⟨v5, v6, v7, v8, v9, v10, v11, v12, v13, v14, v15, rfl, hs, hw⟩ := hI
    match i, hi with
    | 0, _ =>
      exact i_val rfl (.pointer (some ⟨b, 0, none⟩)) w' (by rfl) (by go_simp) ⟨v5, v6, v7, (.pointer (some ⟨b, 0, none⟩)), v9, v10, v11, v12, v13, v14, v15, rfl, { hs with e8 := fun _ => rfl }, hw⟩
    | 1, _ =>
      have e8x := hs.e8 (haft 0 (by decide))
      subst e8x
      exact i_val rfl (.pointer (some ⟨b, 0, none⟩)) w' (by rfl) (by go_simp) ⟨v5, v6, v7, (.pointer (some ⟨b, 0, none⟩)), (.pointer (some ⟨b, 0, none⟩)), v10, v11, v12, v13, v14, v15, rfl, { hs with e9 := fun _ => rfl }, hw⟩
    | 2, _ =>
      have e9x := hs.e9 (haft 1 (by decide))
      subst e9x
      exact i_val rfl (.pointer (some ⟨b, 2, none⟩)) w' (by rfl) (by go_simp) ⟨v5, v6, v7, v8, (.pointer (some ⟨b, 0, none⟩)), (.pointer (some ⟨b, 2, none⟩)), v11, v12, v13, v14, v15, rfl, { hs with e10 := fun _ => rfl }, hw⟩
    | 3, _ =>
      have e10x := hs.e10 (haft 2 (by decide))
      subst e10x
      have hc := HC1.out w' hw.below
      exact i_val rfl (.map (some mb)) w' (by rfl) (by go_simp) ⟨v5, v6, v7, v8, v9, (.pointer (some ⟨b, 2, none⟩)), (.map (some mb)), v12, v13, v14, v15, rfl, { hs with e11 := fun _ => rfl }, hw⟩
    | 4, _ =>
      exact i_val rfl (kyV vid a) w' (by rfl) (run_loadVar_of 63 _ rfl g rfl 63 (kyA vid a) _ (HC2.out w' hw.below) Tryd.underlying63 rfl SZ7.out) ⟨v5, v6, v7, v8, v9, v10, v11, (kyV vid a), v13, v14, v15, rfl, { hs with e12 := fun _ => rfl }, hw⟩
    | 5, _ =>
      have e11x := hs.e11 (haft 3 (by decide))
      subst e11x
      have e12x := hs.e12 (haft 4 (by decide))
      subst e12x
      have hc := HC3.out w' hw.below
      exact i_val rfl (.tuple #[.agg old, .bool th]) w' (by rfl) (by go_simp) ⟨v5, v6, v7, v8, v9, v10, (.map (some mb)), (kyV vid a), (.tuple #[.agg old, .bool th]), v14, v15, rfl, { hs with e13 := fun _ => rfl }, hw⟩
    | 6, _ =>
      have e13x := hs.e13 (haft 5 (by decide))
      subst e13x
      exact i_val rfl (.tuple #[.agg old, .bool th]) w' (by rfl) (by go_simp) ⟨v5, v6, (.tuple #[.agg old, .bool th]), v8, v9, v10, v11, v12, (.tuple #[.agg old, .bool th]), v14, v15, rfl, { hs with e7 := fun _ => rfl }, hw⟩
    | 7, _ =>
      have e7x := hs.e7 (haft 6 (by decide))
      subst e7x
      exact i_val rfl (.agg old) w' (by rfl) (by go_simp) ⟨v5, v6, (.tuple #[.agg old, .bool th]), v8, v9, v10, v11, v12, v13, (.agg old), v15, rfl, { hs with e14 := fun _ => rfl }, hw⟩
    | 8, _ =>
      have e7x := hs.e7 (haft 6 (by decide))
      subst e7x
      exact i_val rfl (.bool th) w' (by rfl) (by go_simp) ⟨v5, v6, (.tuple #[.agg old, .bool th]), v8, v9, v10, v11, v12, v13, v14, (.bool th), rfl, { hs with e15 := fun _ => rfl }, hw⟩
    | 9, _ =>
      have hz := zero49 w'
      exact i_val rfl (.pointer (some ⟨w'.heap.size, 0, none⟩)) (w'.alloc (.cells enNilA 67)) (by rfl) (by go_simp) ⟨(.pointer (some ⟨w'.heap.size, 0, none⟩)), v6, v7, v8, v9, v10, v11, v12, v13, v14, v15, rfl, { hs with }, hw.make hL⟩
    | 10, _ =>
      have e14x := hs.e14 (haft 7 (by decide))
      subst e14x
      obtain ⟨c, arr, rfl, hc0, hcz, hk, -⟩ := hw.ptr (haft 9 (by decide))
      exact i_wp rfl (by rfl) (wp_store_row 67 _ _ rfl c old rfl rfl 67 arr (hk.at 0 rfl) HZ49.out (hcz.trans HOZ.out.symm) HO1.out ⟨(.pointer (some ⟨c, 0, none⟩)), v6, v7, v8, v9, v10, v11, v12, v13, (.agg old), v15, rfl, { hs with }, hw.put (haft 9 (by decide)) hc0 hk HOZ.out⟩)
    | 11, _ =>
      have e15x := hs.e15 (haft 8 (by decide))
      subst e15x
      exact i_val rfl (.bool th) w' (by rfl) (by go_simp) ⟨v5, (.bool th), v7, v8, v9, v10, v11, v12, v13, v14, (.bool th), rfl, { hs with e6 := fun _ => rfl }, hw⟩
    | k + 12, h =>
      exfalso
      have h2 : k + 12 < 12 := h
      omega
  intro Lx ac w3 hI hall
  obtain ⟨v5, v6, v7, v8, v9, v10, v11, v12, v13, v14, v15, rfl, hs, hw⟩ := hI
  obtain ⟨c, arr, rfl, hc0, hcz, hk, ho⟩ := hw.ptr (hall 9 (by decide))
  have e8y := hs.e8 (hall 0 (by decide))
  subst e8y
  have e9y := hs.e9 (hall 1 (by decide))
  subst e9y
  have e10y := hs.e10 (hall 2 (by decide))
  subst e10y
  have e11y := hs.e11 (hall 3 (by decide))
  subst e11y
  have e12y := hs.e12 (hall 4 (by decide))
  subst e12y
  have e13y := hs.e13 (hall 5 (by decide))
  subst e13y
  have e7y := hs.e7 (hall 6 (by decide))
  subst e7y
  have e14y := hs.e14 (hall 7 (by decide))
  subst e14y
  have e15y := hs.e15 (hall 8 (by decide))
  subst e15y
  have e6y := hs.e6 (hall 11 (by decide))
  subst e6y
  have HB5 := Lib.hid hw.below
  clear hs hw hall hc0 hk hcz ho
  go_upto_region 2 with fail
  cases th with
  | true =>
    refine wp_region_quiet (C := Below w1.heap.size w1) (by kernel_rfl) (by kernel_rfl) HB5.out.drew ?_
    (refine q_val (v := ?_) (by rfl) ?_ ?_; rotate_left; (· (intro w hC; go_simp; try with_reducible rfl)); (try simp only [Act.put, List.getElem_toArray, List.getElem_cons_succ, List.getElem_cons_zero, List.setIfInBounds_toArray, List.set_cons_zero, List.set_cons_succ]))
    (refine q_val (v := ?_) (by rfl) ?_ ?_; rotate_left; (· (intro w hC; go_simp; try with_reducible rfl)); (try simp only [Act.put, List.getElem_toArray, List.getElem_cons_succ, List.getElem_cons_zero, List.setIfInBounds_toArray, List.set_cons_zero, List.set_cons_succ]))
    (refine q_skip (by rfl) ?_; (try simp only [Act.put, List.getElem_toArray, List.getElem_cons_succ, List.getElem_cons_zero, List.setIfInBounds_toArray, List.set_cons_zero, List.set_cons_succ]))
    (refine q_skip (by rfl) ?_; (try simp only [Act.put, List.getElem_toArray, List.getElem_cons_succ, List.getElem_cons_zero, List.setIfInBounds_toArray, List.set_cons_zero, List.set_cons_succ]))
    (refine q_skip (by rfl) ?_; (try simp only [Act.put, List.getElem_toArray, List.getElem_cons_succ, List.getElem_cons_zero, List.setIfInBounds_toArray, List.set_cons_zero, List.set_cons_succ]))
    (refine q_skip (by rfl) ?_; (try simp only [Act.put, List.getElem_toArray, List.getElem_cons_succ, List.getElem_cons_zero, List.setIfInBounds_toArray, List.set_cons_zero, List.set_cons_succ]))
    (refine q_skip (by rfl) ?_; (try simp only [Act.put, List.getElem_toArray, List.getElem_cons_succ, List.getElem_cons_zero, List.setIfInBounds_toArray, List.set_cons_zero, List.set_cons_succ]))
    (refine q_skip (by rfl) ?_; (try simp only [Act.put, List.getElem_toArray, List.getElem_cons_succ, List.getElem_cons_zero, List.setIfInBounds_toArray, List.set_cons_zero, List.set_cons_succ]))
    (refine q_skip (by rfl) ?_; (try simp only [Act.put, List.getElem_toArray, List.getElem_cons_succ, List.getElem_cons_zero, List.setIfInBounds_toArray, List.set_cons_zero, List.set_cons_succ]))
    (refine q_skip (by rfl) ?_; (try simp only [Act.put, List.getElem_toArray, List.getElem_cons_succ, List.getElem_cons_zero, List.setIfInBounds_toArray, List.set_cons_zero, List.set_cons_succ]))
    (refine q_skip (by rfl) ?_; (try simp only [Act.put, List.getElem_toArray, List.getElem_cons_succ, List.getElem_cons_zero, List.setIfInBounds_toArray, List.set_cons_zero, List.set_cons_succ]))
    (refine q_skip (by rfl) ?_; (try simp only [Act.put, List.getElem_toArray, List.getElem_cons_succ, List.getElem_cons_zero, List.setIfInBounds_toArray, List.set_cons_zero, List.set_cons_succ]))
    (refine q_val (v := ?_) (by rfl) ?_ ?_; rotate_left; (· (intro w hC; go_simp; try with_reducible rfl)); (try simp only [Act.put, List.getElem_toArray, List.getElem_cons_succ, List.getElem_cons_zero, List.setIfInBounds_toArray, List.set_cons_zero, List.set_cons_succ]))
    (refine q_val (v := ?_) (by rfl) ?_ ?_; rotate_left; (· (intro w hC; go_simp; try with_reducible rfl)); (try simp only [Act.put, List.getElem_toArray, List.getElem_cons_succ, List.getElem_cons_zero, List.setIfInBounds_toArray, List.set_cons_zero, List.set_cons_succ]))
    refine wpQuiet_nil ?_
    intro w5 hC5
    have K5 := Lib.hid hC5
    clear hC5
    go_wp2_with fail
    go_ret
    exact ⟨rfl, HB1.out.trans (K5.out.mono HB1.out.size)⟩
  | false =>
    refine wp_region_quiet (C := Below w1.heap.size w1) (by kernel_rfl) (by kernel_rfl) HB5.out.drew ?_
    (refine q_val (v := ?_) (by rfl) ?_ ?_; rotate_left; (· (intro w hC; go_simp; try with_reducible rfl)); (try simp only [Act.put, List.getElem_toArray, List.getElem_cons_succ, List.getElem_cons_zero, List.setIfInBounds_toArray, List.set_cons_zero, List.set_cons_succ]))
    (refine q_val (v := ?_) (by rfl) ?_ ?_; rotate_left; (· (intro w hC; go_simp; try with_reducible rfl)); (try simp only [Act.put, List.getElem_toArray, List.getElem_cons_succ, List.getElem_cons_zero, List.setIfInBounds_toArray, List.set_cons_zero, List.set_cons_succ]))
    (refine q_val (v := ?_) (by rfl) ?_ ?_; rotate_left; (· (intro w hC; go_simp; try with_reducible rfl)); (try simp only [Act.put, List.getElem_toArray, List.getElem_cons_succ, List.getElem_cons_zero, List.setIfInBounds_toArray, List.set_cons_zero, List.set_cons_succ]))
    (refine q_val (v := ?_) (by rfl) ?_ ?_; rotate_left; (· (intro w hC; go_simp; try with_reducible rfl)); (try simp only [Act.put, List.getElem_toArray, List.getElem_cons_succ, List.getElem_cons_zero, List.setIfInBounds_toArray, List.set_cons_zero, List.set_cons_succ]))
    (refine q_val (v := ?_) (by rfl) ?_ ?_; rotate_left; (· (intro w hC; go_simp; try with_reducible rfl)); (try simp only [Act.put, List.getElem_toArray, List.getElem_cons_succ, List.getElem_cons_zero, List.setIfInBounds_toArray, List.set_cons_zero, List.set_cons_succ]))
    (refine q_val (v := ?_) (by rfl) ?_ ?_; rotate_left; (· (intro w hC; have q := HC1.out w hC; go_simp; try with_reducible rfl)); (try simp only [Act.put, List.getElem_toArray, List.getElem_cons_succ, List.getElem_cons_zero, List.setIfInBounds_toArray, List.set_cons_zero, List.set_cons_succ]))
    (refine q_val (v := ?_) (by rfl) ?_ ?_; rotate_left; (· (intro w hC; have q := HLN.out w hC; go_simp; try with_reducible rfl)); (try simp only [Act.put, List.getElem_toArray, List.getElem_cons_succ, List.getElem_cons_zero, List.setIfInBounds_toArray, List.set_cons_zero, List.set_cons_succ]))
    (refine q_val (v := ?_) (by rfl) ?_ ?_; rotate_left; (· (intro w hC; go_simp; try with_reducible rfl)); (try simp only [Act.put, List.getElem_toArray, List.getElem_cons_succ, List.getElem_cons_zero, List.setIfInBounds_toArray, List.set_cons_zero, List.set_cons_succ]))
    (refine q_val (v := ?_) (by rfl) ?_ ?_; rotate_left; (· (intro w hC; go_simp; try with_reducible rfl)); (try simp only [Act.put, List.getElem_toArray, List.getElem_cons_succ, List.getElem_cons_zero, List.setIfInBounds_toArray, List.set_cons_zero, List.set_cons_succ]))
    (refine q_val (v := ?_) (by rfl) ?_ ?_; rotate_left; (· (intro w hC; go_simp; try with_reducible rfl)); (try simp only [Act.put, List.getElem_toArray, List.getElem_cons_succ, List.getElem_cons_zero, List.setIfInBounds_toArray, List.set_cons_zero, List.set_cons_succ]))
    (refine q_val (v := ?_) (by rfl) ?_ ?_; rotate_left; (· (intro w hC; have q := HC0.out w hC; go_simp; try with_reducible rfl)); (try simp only [Act.put, List.getElem_toArray, List.getElem_cons_succ, List.getElem_cons_zero, List.setIfInBounds_toArray, List.set_cons_zero, List.set_cons_succ]))
    (refine q_val (v := ?_) (by rfl) ?_ ?_; rotate_left; (· (intro w hC; go_simp; try with_reducible rfl)); (try simp only [Act.put, List.getElem_toArray, List.getElem_cons_succ, List.getElem_cons_zero, List.setIfInBounds_toArray, List.set_cons_zero, List.set_cons_succ]))
    (refine q_val (v := ?_) (by rfl) ?_ ?_; rotate_left; (· (intro w hC; go_simp; try with_reducible rfl)); (try simp only [Act.put, List.getElem_toArray, List.getElem_cons_succ, List.getElem_cons_zero, List.setIfInBounds_toArray, List.set_cons_zero, List.set_cons_succ]))
    (refine q_val (v := ?_) (by rfl) ?_ ?_; rotate_left; (· (intro w hC; go_simp; try with_reducible rfl)); (try simp only [Act.put, List.getElem_toArray, List.getElem_cons_succ, List.getElem_cons_zero, List.setIfInBounds_toArray, List.set_cons_zero, List.set_cons_succ]))
    refine wpQuiet_nil ?_
    intro w5 hC5
    have K5 := Lib.hid hC5
    clear hC5
    go_wp2_with fail
    go_ret
    exact ⟨rfl, HB1.out.trans (K5.out.mono HB1.out.size)⟩
end
section
/- Which key stands ahead. -/
open Go.RowKit
attribute [local irreducible] wpQuiet

theorem ky_mac (v a : Nat) (j : Nat) (u : Value) (h : (macA (byteF a))[j]? = some u) : (kyA v a)[1 + j]? = some u := by
  match j, h with
  | 0, h => exact h
  | 1, h => exact h
  | 2, h => exact h
  | 3, h => exact h
  | 4, h => exact h
  | 5, h => exact h
  | j + 6, h => simp at h

set_option maxRecDepth 100000 in
set_option maxHeartbeats 8000000 in
theorem key_less (v a u b : Nat) (ha : a < 281474976710656) (hb : b < 281474976710656) (w : World) :
    Calls Tryd.prog 42 #[kyV v a, kyV u b] w fun e w' => e = .returned (.bool (decide (keyN v a < keyN u b))) ∧ Below w.heap.size w w' := by
  obtain ⟨W1, hW1⟩ : ∃ W1, W1 = w.alloc (.cells (kyA v a) 63) := ⟨_, rfl⟩
  obtain ⟨W2, hW2⟩ : ∃ W2, W2 = W1.alloc (.cells (kyA u b) 63) := ⟨_, rfl⟩
  obtain ⟨B, hB⟩ : ∃ B, B = w.heap.size := ⟨_, rfl⟩
  have hB1 : W1.heap.size = B + 1 := by rw [hW1, hB]; simp
  have K0 := Lib.hid (show Kn w [(B + 1, kyA u b, 63), (B, kyA v a, 63)] W2 by
    have q := ((Kn.nil w).alloc (kyA v a) 63).alloc (kyA u b) 63
    rw [← hW1, ← hW2, hB1, ← hB] at q
    exact q)
  have HW := Lib.hid (show (w.alloc (.cells (kyA v a) 63)).alloc (.cells (kyA u b) 63) = W2 by rw [hW2, hW1])
  have HB := Lib.hid hB
  have c1 := (K0.out.at 0 rfl).cell 0
  have c2 := (K0.out.at 1 rfl).cell 0
  simp only [List.getElem?_toArray, List.getElem?_cons_zero] at c1 c2
  have BL := Lib.hid K0.out.below
  have HA := Lib.hid ha
  have HBB := Lib.hid hb
  clear hW1 hW2 hB1 hB ha hb
  by_cases h : v = u
  · have e1 : ((v : Int) != (u : Int)) = false := by simp [h]
    have RES := Lib.hid (show decide (a < b) = decide (keyN v a < keyN u b) by
      rw [decide_eq_decide, keyN_lt HA.out HBB.out]
      omega)
    clear h
    go_enter Tryd.func42, Tryd.ntmps42
    go_upto_region 1 with fail
    rw [HW.out, ← HB.out]
    go_upto_region 3 with fail
    have ei : decide (a < b) = decide (a < b) := rfl
    obtain ⟨r, hr⟩ : ∃ r : Bool, r = decide (a < b) := ⟨_, rfl⟩
    have HR := Lib.hid hr
    have hi := Lib.hid hr.symm
    clear hr ei
    have K1 := Lib.hid (show Kn W2 [(B + 1, kyA u b, 63), (B, kyA v a, 63)] W2 from ⟨K0.out.all, Below.refl _ _⟩)
    have SZ := Lib.hid size25
    refine wp_region_quiet (C := Kn W2 [(B + 1, kyA u b, 63), (B, kyA v a, 63)]) (by kernel_rfl) (by kernel_rfl) K1.out.drew ?_
    have hlt := Lib.hid (show decide (numF (byteF a) 6 < numF (byteF b) 6) = r by rw [numF_byteF, numF_byteF, Nat.mod_eq_of_lt HA.out, Nat.mod_eq_of_lt HBB.out]; exact hi.out)
    (refine q_val (v := ?_) (by rfl) ?_ ?_; rotate_left; (· (intro w hC; go_simp; try with_reducible rfl)); (try simp only [Act.put, List.getElem_toArray, List.getElem_cons_succ, List.getElem_cons_zero, List.setIfInBounds_toArray, List.set_cons_zero, List.set_cons_succ]))
    (refine q_val (v := .agg (macA (byteF a))) (by rfl) (fun w hC => run_loadRange 40 _ rfl B 1 rfl (macA (byteF a)) _ (fun j x hx => by rw [(hC.at 1 rfl).cell]; exact ky_mac v a j x (by simpa using hx)) Tryd.underlying40 rfl SZ.out) ?_; (try simp only [Act.put, List.getElem_toArray, List.getElem_cons_succ, List.getElem_cons_zero, List.setIfInBounds_toArray, List.set_cons_zero, List.set_cons_succ]))
    (refine q_call (v := .int .u64 (numF (byteF a) 6 : Nat)) 53 #[mac (byteF a)] (by rfl) (fun w hC => by go_simp) (fun w hC => calls_in (int_any (byteF a) _ (byteF_six a)) (fun w' hb => hC.next hb)) ?_; (try simp only [Act.put, List.getElem_toArray, List.getElem_cons_succ, List.getElem_cons_zero, List.setIfInBounds_toArray, List.set_cons_zero, List.set_cons_succ]))
    (refine q_val (v := ?_) (by rfl) ?_ ?_; rotate_left; (· (intro w hC; go_simp; try with_reducible rfl)); (try simp only [Act.put, List.getElem_toArray, List.getElem_cons_succ, List.getElem_cons_zero, List.setIfInBounds_toArray, List.set_cons_zero, List.set_cons_succ]))
    (refine q_val (v := .agg (macA (byteF b))) (by rfl) (fun w hC => run_loadRange 40 _ rfl (B + 1) 1 rfl (macA (byteF b)) _ (fun j x hx => by rw [(hC.at 0 rfl).cell]; exact ky_mac u b j x (by simpa using hx)) Tryd.underlying40 rfl SZ.out) ?_; (try simp only [Act.put, List.getElem_toArray, List.getElem_cons_succ, List.getElem_cons_zero, List.setIfInBounds_toArray, List.set_cons_zero, List.set_cons_succ]))
    (refine q_call (v := .int .u64 (numF (byteF b) 6 : Nat)) 53 #[mac (byteF b)] (by rfl) (fun w hC => by go_simp) (fun w hC => calls_in (int_any (byteF b) _ (byteF_six b)) (fun w' hb => hC.next hb)) ?_; (try simp only [Act.put, List.getElem_toArray, List.getElem_cons_succ, List.getElem_cons_zero, List.setIfInBounds_toArray, List.set_cons_zero, List.set_cons_succ]))
    (refine q_val (v := ?_) (by rfl) ?_ ?_; rotate_left; (· (intro w hC; have q := hlt.out; go_simp; try with_reducible rfl)); (try simp only [Act.put, List.getElem_toArray, List.getElem_cons_succ, List.getElem_cons_zero, List.setIfInBounds_toArray, List.set_cons_zero, List.set_cons_succ]))
    (refine q_val (v := ?_) (by rfl) ?_ ?_; rotate_left; (· (intro w hC; go_simp; try with_reducible rfl)); (try simp only [Act.put, List.getElem_toArray, List.getElem_cons_succ, List.getElem_cons_zero, List.setIfInBounds_toArray, List.set_cons_zero, List.set_cons_succ]))
    refine wpQuiet_nil ?_
    intro w5 hC5
    have K5 := Lib.hid hC5
    clear hC5
    go_wp2_with fail
    go_ret
    exact ⟨ret_bool (by rw [HR.out, RES.out]), BL.out.trans (K5.out.below.mono BL.out.size)⟩
  · have e1 : ((v : Int) != (u : Int)) = true := by simp; omega
    have RES := Lib.hid (show decide (v < u) = decide (keyN v a < keyN u b) by
      rw [decide_eq_decide, keyN_lt HA.out HBB.out]
      omega)
    clear h
    go_enter Tryd.func42, Tryd.ntmps42
    go_upto_region 1 with fail
    rw [HW.out, ← HB.out]
    obtain ⟨r, hr⟩ : ∃ r : Bool, r = decide (v < u) := ⟨_, rfl⟩
    have HR := Lib.hid hr
    have e2 : decide (v < u) = r := hr.symm
    clear hr
    go_wp2_with fail
    go_ret
    exact ⟨ret_bool (by rw [← RES.out]; exact HR.out), BL.out⟩
end
section
/- The developers' table of layer 9: which entry is the oldest. -/
open Go.RowKit
open Go.ChangeMaps (setBlock)

/-- Does an entry go ahead of another one? -/
def olderB (x y : En) : Bool := if x.age = y.age then decide (enK x < enK y) else decide (y.age < x.age)
theorem olderB_trans {x y z : En} (h1 : olderB x y = true) (h2 : olderB y z = true) : olderB x z = true := by
  unfold olderB at *
  split at h1 <;> split at h2 <;> split <;> simp_all <;> omega
theorem olderB_total {x y : En} (h : olderB x y = false) (hne : enK x ≠ enK y) : olderB y x = true := by
  unfold olderB at *
  split at h <;> split <;> simp_all <;> omega

set_option maxRecDepth 100000 in
set_option maxHeartbeats 8000000 in
theorem older_any (x y : En) (hx : enOk x) (hy : enOk y) (w : World) : Calls Tryd.prog 48 #[enV x, enV y] w fun e w' => e = .returned (.bool (olderB x y)) ∧ Below w.heap.size w w' := by
  obtain ⟨v, a, p, g⟩ := x
  obtain ⟨u, b, q, k⟩ := y
  obtain ⟨w1, hw1⟩ : ∃ w1, w1 = (w.alloc (.cells (enA ⟨v, a, p, g⟩) 67)).alloc (.cells (enA ⟨u, b, q, k⟩) 67) := ⟨_, rfl⟩
  have hb1 : Below w.heap.size w w1 := by rw [hw1]; exact ((Below.refl w.heap.size w).alloc (Nat.le_refl _) _).alloc (by simp) _
  obtain ⟨G, hG⟩ : ∃ G, G = w.heap.size := ⟨_, rfl⟩
  have k1 : Blk w1 G (enA ⟨v, a, p, g⟩) 67 := by rw [hw1, hG]; exact (Blk.new _ _ _).alloc _
  have k2 : Blk w1 (G + 1) (enA ⟨u, b, q, k⟩) 67 := by
    rw [hw1, hG]
    have := Blk.new (w.alloc (.cells (enA ⟨v, a, p, g⟩) 67)) (enA ⟨u, b, q, k⟩) 67
    simpa using this
  have HW := Lib.hid hw1
  have HG := Lib.hid hG
  have HB1 := Lib.hid hb1
  have c1 := k1.cell 8
  have c2 := k2.cell 8
  simp only [List.getElem?_toArray, List.getElem?_cons_zero, List.getElem?_cons_succ] at c1 c2
  by_cases h : g = k
  · have e1 : (g != k) = false := by simp [h]
    have RES := Lib.hid (show decide (keyN v a < keyN u b) = olderB ⟨v, a, p, g⟩ ⟨u, b, q, k⟩ by unfold olderB; rw [if_pos h]; rfl)
    have SZ := Lib.hid kySize9
    have r1 := Lib.hid (show w1.rangeAt G 0 (kyA v a).toList from fun j x hx => by
      rw [Nat.zero_add, k1.cell]
      have hj : j < 7 := by
        have := (List.getElem?_eq_some_iff.1 hx).1
        simpa using this
      match j, hj with
      | 0, _ => simpa using hx
      | 1, _ => simpa using hx
      | 2, _ => simpa using hx
      | 3, _ => simpa using hx
      | 4, _ => simpa using hx
      | 5, _ => simpa using hx
      | 6, _ => simpa using hx)
    have r2 := Lib.hid (show w1.rangeAt (G + 1) 0 (kyA u b).toList from fun j x hx => by
      rw [Nat.zero_add, k2.cell]
      have hj : j < 7 := by
        have := (List.getElem?_eq_some_iff.1 hx).1
        simpa using this
      match j, hj with
      | 0, _ => simpa using hx
      | 1, _ => simpa using hx
      | 2, _ => simpa using hx
      | 3, _ => simpa using hx
      | 4, _ => simpa using hx
      | 5, _ => simpa using hx
      | 6, _ => simpa using hx)
    clear h hw1 hb1 hG k1 k2
    go_enter Tryd.func48, Tryd.ntmps48
    go_upto_region 1 with fail
    rw [← HW.out, ← HG.out]
    go_upto_region 3 with fail
    go_wp2_with (first
      | (refine wpList_val (.agg (kyA v a)) (by rfl) (run_loadRange 63 _ rfl G 0 rfl (kyA v a) _ r1.out Tryd.underlying63 rfl SZ.out) ?_)
      | (refine wpList_val (.agg (kyA u b)) (by rfl) (run_loadRange 63 _ rfl (G + 1) 0 rfl (kyA u b) _ r2.out Tryd.underlying63 rfl SZ.out) ?_)
      | (go_at_call 42; refine (key_less v a u b hx hy _).mono ?_; rintro e w2 ⟨rfl, hb2⟩))
    go_ret
    exact ⟨ret_bool RES.out, HB1.out.trans (hb2.mono HB1.out.size)⟩
  · have e1 : (g != k) = true := by simp [h]
    have RES := Lib.hid (show decide (k < g) = olderB ⟨v, a, p, g⟩ ⟨u, b, q, k⟩ by unfold olderB; rw [if_neg h])
    clear h hw1 hb1 hG k1 k2
    obtain ⟨r, hr⟩ : ∃ r : Bool, r = decide (k < g) := ⟨_, rfl⟩
    have HR := Lib.hid hr
    have e2 : decide (k < g) = r := hr.symm
    clear hr
    go_enter Tryd.func48, Tryd.ntmps48
    go_upto_region 1 with fail
    rw [← HW.out, ← HG.out]
    go_wp2_with fail
    go_ret
    exact ⟨ret_bool (by rw [← RES.out]; exact HR.out), HB1.out⟩

/-- The oldest one of a list. -/
def OldS (l : List En) (x : En) : Prop := x ∈ l ∧ ∀ y ∈ l, y = x ∨ olderB x y = true
/-- What a round finds. -/
structure OldLp (w : World) (r mb g2 g3 : Nat) (L left : List (Nat × En)) (best : Option En) (wr : World) : Prop where
  it : It wr r mb kvK vvE L left
  res : Blk wr g2 enNilA 67
  box : ∃ arr, arr.size = 9 ∧ Blk wr g3 arr 67 ∧ ∀ x, best = some x → arr = enA x
  below : Below w.heap.size w wr
  mem : ∀ x, best = some x → x ∈ L.map (·.2)
  old : ∀ y ∈ L.map (·.2), y ∈ left.map (·.2) ∨ ∃ x, best = some x ∧ (y = x ∨ olderB x y = true)
theorem mem_erase {α : Type} {l : List α} {j : Nat} {y z : α} (hj : l[j]? = some y) (hz : z ∈ l) : z = y ∨ z ∈ l.eraseIdx j := by
  obtain ⟨hlt, e⟩ := List.getElem?_eq_some_iff.1 hj
  have : l = l.take j ++ y :: l.drop (j + 1) := by rw [← e, List.getElem_cons_drop, List.take_append_drop]
  rw [this] at hz
  rw [List.eraseIdx_eq_take_drop_succ]
  rcases List.mem_append.1 hz with h | h
  · exact .inr (List.mem_append_left _ h)
  · rcases List.mem_cons.1 h with h | h
    · exact .inl h
    · exact .inr (List.mem_append_right _ h)

theorem isSome_upd {L left : List (Nat × En)} {best : Option En} {j k : Nat} {y : En} (hj : left[j]? = some (k, y)) (hb : ∀ x, best = some x → olderB y x = true)
    (h : ∀ z ∈ L.map (·.2), z ∈ left.map (·.2) ∨ ∃ x, best = some x ∧ (z = x ∨ olderB x z = true)) : ∀ z ∈ L.map (·.2), z ∈ (left.eraseIdx j).map (·.2) ∨ ∃ x, some y = some x ∧ (z = x ∨ olderB x z = true) := by
  intro z hz
  rcases h z hz with h1 | ⟨x, h1, h2⟩
  · obtain ⟨u, hu, rfl⟩ := List.mem_map.1 h1
    rcases mem_erase hj hu with rfl | h3
    · exact .inr ⟨y, rfl, .inl rfl⟩
    · exact .inl (List.mem_map.2 ⟨u, h3, rfl⟩)
  · refine .inr ⟨y, rfl, .inr ?_⟩
    rcases h2 with rfl | h2
    · exact hb _ h1
    · exact olderB_trans (hb x h1) h2
theorem isSome_keep {L left : List (Nat × En)} {x : En} {j k : Nat} {y : En} (hj : left[j]? = some (k, y)) (hb : y = x ∨ olderB x y = true)
    (h : ∀ z ∈ L.map (·.2), z ∈ left.map (·.2) ∨ ∃ x', some x = some x' ∧ (z = x' ∨ olderB x' z = true)) : ∀ z ∈ L.map (·.2), z ∈ (left.eraseIdx j).map (·.2) ∨ ∃ x', some x = some x' ∧ (z = x' ∨ olderB x' z = true) := by
  intro z hz
  rcases h z hz with h1 | h1
  · obtain ⟨u, hu, rfl⟩ := List.mem_map.1 h1
    rcases mem_erase hj hu with rfl | h3
    · exact .inr ⟨x, rfl, hb⟩
    · exact .inl (List.mem_map.2 ⟨u, h3, rfl⟩)
  · exact .inr h1

set_option maxRecDepth 100000 in
set_option maxHeartbeats 16000000 in
theorem oldest_tf {w : World} {b A B : Nat} {mo li : Int} {l : List En} (h : TF w b A B mo li l) (hne : l ≠ []) :
    Calls Tryd.prog 35 #[.pointer (some ⟨b, 0, none⟩)] w fun e w' => (∃ x, e = .returned (enV x) ∧ OldS l x) ∧ Below w.heap.size w w' := by
  obtain ⟨mb, L, h1, h2, h3, h4, h5, h6, h7⟩ := h
  have hmb := Lib.hid h5.lt
  obtain ⟨w2, hw2⟩ : ∃ w2, w2 = (w.alloc (.cells enNilA 67)).alloc (.cells enNilA 67) := ⟨_, rfl⟩
  obtain ⟨G, hG⟩ : ∃ G, G = w.heap.size := ⟨_, rfl⟩
  have hb2 : Below w.heap.size w w2 := by rw [hw2]; exact ((Below.refl w.heap.size w).alloc (Nat.le_refl _) _).alloc (by simp) _
  have k1 : Blk w2 G enNilA 67 := by rw [hw2, hG]; exact (Blk.new _ _ _).alloc _
  have k2 : Blk w2 (G + 1) enNilA 67 := by
    rw [hw2, hG]
    have := Blk.new (w.alloc (.cells enNilA 67)) enNilA 67
    simpa using this
  have hz := zero49
  have hc := (h4.below hb2 h4.lt).cell 2
  simp only [List.getElem?_toArray, List.getElem?_cons_zero, List.getElem?_cons_succ] at hc
  obtain ⟨ob, hrg, hit⟩ := (h5.next hb2).range (P := Tryd.prog) Tryd.underlying103
  obtain ⟨w3, hw3⟩ : ∃ w3, w3 = w2.alloc ob := ⟨_, rfl⟩
  have hrng : (Instr.range 103 (.map (some mb))).run Tryd.prog w2 = .ok (.pointer (some ⟨w2.heap.size, 0, none⟩)) (w2.alloc ob) := hrg
  obtain ⟨r, hr⟩ : ∃ r, r = w2.heap.size := ⟨_, rfl⟩
  rw [← hw3, ← hr] at hrng hit
  have HR := Lib.hid (show G + 1 < r by rw [hr]; exact k2.lt)
  have I0 := Lib.hid (show OldLp w r mb G (G + 1) L L none w3 from
    ⟨hit, by rw [hw3]; exact k1.alloc _, ⟨enNilA, rfl, by rw [hw3]; exact k2.alloc _, fun x e => (by cases e)⟩, by rw [hw3]; exact hb2.alloc hb2.size _, fun x e => (by cases e), fun y hy => .inl hy⟩)
  have HW := Lib.hid hw2
  have HG := Lib.hid hG
  have SZ := Lib.hid enSize49
  clear hrg hit hw3 hr hw2 hG hb2 k1 k2
  go_enter Tryd.func35, Tryd.ntmps35
  go_upto_region 2 with fail
  rw [← HW.out, ← HG.out]
  go_upto_region 4 with fail
  clear hc hrng hz
  go_loopw [4] (fun v wr => ∃ (left : List (Nat × En)) (best : Option En), v = .bool best.isSome ∧ OldLp w r mb G (G + 1) L left best wr) (fun _ wr => wr.rangeLeft mb r)
  case atStart => exact ⟨L, none, rfl, I0.out⟩
  case round =>
    obtain ⟨left, best, hv, hlp⟩ := hrel
    obtain ⟨fb, hfb⟩ : ∃ fb, fb = best.isSome := ⟨_, rfl⟩
    rw [← hfb] at hv
    subst hv
    have HFB := Lib.hid hfb
    have LP := Lib.hid hlp
    have hit := hlp.it
    clear hlp hfb
    have hmr : r ≠ mb := by have := hmb.out; have := HR.out; have := HG.out; omega
    rcases hit.step (P := Tryd.prog) hmr 0 with ⟨h0, hnx⟩ | ⟨j, x, y, w4, hj, hnx, hit4, hg4, hs4, hen⟩
    · clear hit
      subst h0
      have hbest : ∃ x, best = some x := by
        cases hl : l with
        | nil => exact absurd hl hne
        | cons z zs =>
          have hz : z ∈ L.map (·.2) := (h6.2.map (·.2)).mem_iff.2 (by rw [hl]; simp)
          rcases LP.out.old z hz with h | ⟨x, hx, -⟩
          · simp at h
          · exact ⟨x, hx⟩
      obtain ⟨x, rfl⟩ := hbest
      obtain ⟨arr, ha9, hbx, hax⟩ := LP.out.box
      obtain rfl := hax x rfl
      have HBX := Lib.hid hbx
      have H1 := Lib.hid (enA_one x)
      clear hbx hax ha9
      go_wp2_with (first
        | (refine wpList_load_row rfl 67 _ rfl (G + 1) rfl 67 _ (0, 0) _ HBX.out Tryd.underlying67 rfl SZ.out ?_)
        | (refine wpList_store_row rfl 67 _ _ rfl G (enA x) rfl rfl 67 enNilA LP.out.res SZ.out rfl H1.out ?_))
      refine bodyPost_ret (v := enV x) (results_cell_row Tryd.results35 _ _ G 67 (enA x) (0, 0) _ rfl (LP.out.res.row _) Tryd.underlying67 rfl SZ.out) rfl ⟨⟨x, rfl, ?_, ?_⟩, below_setRow LP.out.below (by have := HG.out; omega) _⟩
      · have := LP.out.mem x rfl
        have := (h6.2.map (·.2)).mem_iff.1 this
        simpa using this
      · intro z hz
        have hz' : z ∈ L.map (·.2) := (h6.2.map (·.2)).mem_iff.2 (by simpa using hz)
        rcases LP.out.old z hz' with h | ⟨x', hx', h⟩
        · simp at h
        · cases hx'
          exact h
    · clear hit
      have hxy := h6.mem (LP.out.it.sub.mem (List.mem_of_getElem? hj))
      obtain ⟨rfl, hyl⟩ : x = enK y ∧ y ∈ l := hxy
      have hyo := h7 y hyl
      have ekv : kvK (enK y) = kyV y.vid y.mac := kvK_of y.vid y.mac hyo
      rw [ekv] at hnx hen
      unfold vvE at hnx hen
      obtain ⟨arr, ha9, hbx, hax⟩ := LP.out.box
      have hgr : ∀ q : Nat, q ≤ G + 1 → some q ≠ some r := fun q hq e => by have := Option.some.inj e; have := HR.out; omega
      have b4 : Blk w4 (G + 1) arr 67 := hbx.grown hg4 (hgr _ (Nat.le_refl _))
      have r4 : Blk w4 G enNilA 67 := LP.out.res.grown hg4 (hgr _ (by omega))
      obtain ⟨w5, hw5⟩ : ∃ w5, w5 = w4.alloc (.cells (enA y) 67) := ⟨_, rfl⟩
      obtain ⟨E, hE⟩ : ∃ E, E = w4.heap.size := ⟨_, rfl⟩
      have bw4 : Below w.heap.size w w4 := LP.out.below.grown hg4 LP.out.below.size (fun k e => by cases e; have := HR.out; have := HG.out; omega)
      have b5 : Blk w5 (G + 1) arr 67 := by rw [hw5]; exact b4.alloc _
      have r5 : Blk w5 G enNilA 67 := by rw [hw5]; exact r4.alloc _
      have e5 : Blk w5 E (enA y) 67 := by rw [hw5, hE]; exact Blk.new _ _ _
      have bw5 : Below w.heap.size w w5 := by rw [hw5]; exact bw4.alloc bw4.size _
      have it5 : It w5 r mb kvK vvE L (left.eraseIdx j) := by rw [hw5]; exact hit4.alloc _
      have HB5 := Lib.hid b5
      have HR5 := Lib.hid r5
      have HE5 := Lib.hid e5
      have HBW := Lib.hid bw5
      have HIT := Lib.hid it5
      have HJ := Lib.hid hj
      have HW5 := Lib.hid hw5
      have HEE := Lib.hid hE
      have HA9 := Lib.hid (show (Tryd.prog.info? 67).map (·.size) = some arr.size by rw [ha9]; exact enSize49)
      have HA9' := Lib.hid ha9
      have HYA := Lib.hid (enA_one y)
      have HYL := Lib.hid (show y ∈ L.map (·.2) from (h6.2.map (·.2)).mem_iff.2 (by simpa using hyl))
      have HAX := Lib.hid hax
      have MEAS := Lib.hid (show ∀ w', It w' r mb kvK vvE L (left.eraseIdx j) → w'.rangeLeft mb r < wr.rangeLeft mb r from fun w' hi => by
        rw [hi.left_eq, LP.out.it.left_eq, List.length_eraseIdx]
        have := (List.getElem?_eq_some_iff.1 hj).1
        rw [if_pos this]
        omega)
      clear b4 r4 b5 r5 e5 bw4 bw5 it5 hj hit4 hg4 hs4 hw5 hE ekv hbx hax ha9 hgr
      cases best with
      | none =>
        obtain rfl : fb = false := HFB.out
        go_upto_region 6 with fail
        rw [← HW5.out, ← HEE.out]
        clear hnx hen
        go_wp2_with (first
          | (refine wpList_load_row rfl 67 _ rfl E rfl 67 _ (0, 0) _ HE5.out Tryd.underlying67 rfl SZ.out ?_)
          | (refine wpList_store_row rfl 67 _ _ rfl (G + 1) (enA y) rfl rfl 67 arr HB5.out SZ.out HA9'.out HYA.out ?_))
        have itn : It (w5.setRow (G + 1) (enA y)) r mb kvK vvE L (left.eraseIdx j) := HIT.out.same (setRow_other w5 (G + 1) r _ (by have := HR.out; omega)) (setRow_other w5 (G + 1) mb _ (by have := hmb.out; have := HG.out; omega))
        go_roundw
        case rel => exact ⟨left.eraseIdx j, some y, rfl, itn, HR5.out.rowOther (by omega) _, ⟨enA y, rfl, HB5.out.row _, fun x e => by cases e; rfl⟩, below_setRow HBW.out (by have := HG.out; omega) _, fun x e => by cases e; exact HYL.out, isSome_upd HJ.out (fun x e => by cases e) LP.out.old⟩
        case measure => exact MEAS.out _ itn
      | some x =>
        obtain rfl : fb = true := HFB.out
        obtain rfl := HAX.out x rfl
        have hxl : x ∈ l := by
          have := (h6.2.map (·.2)).mem_iff.1 (LP.out.mem x rfl)
          simpa using this
        have HOLD := Lib.hid (older_any y x hyo (h7 x hxl))
        cases hob : olderB y x with
        | true =>
          have HOB := Lib.hid hob
          go_upto_region 6 with fail
          rw [← HW5.out, ← HEE.out]
          clear hnx hen hob
          go_upto_region 7 with (first
            | (refine wpList_load_row rfl 67 _ rfl E rfl 67 _ (0, 0) _ HE5.out Tryd.underlying67 rfl SZ.out ?_)
            | (refine wpList_val (enV y) (by rfl) (run_loadVar_of 67 _ rfl E rfl 67 (enA y) _ HE5.out Tryd.underlying67 rfl SZ.out) ?_)
            | (refine wpList_val (enV x) (by rfl) (run_loadVar_of 67 _ rfl (G + 1) rfl 67 (enA x) _ HB5.out Tryd.underlying67 rfl SZ.out) ?_)
            | (go_at_call 48; refine (HOLD.out _).mono ?_; rintro e w6 ⟨rfl, hb6⟩; rw [HOB.out]))
          have HE6 := Lib.hid (HE5.out.below hb6 HE5.out.lt)
          have HB6 := Lib.hid (HB5.out.below hb6 HB5.out.lt)
          have HR6 := Lib.hid (HR5.out.below hb6 HR5.out.lt)
          have HI6 := Lib.hid (HIT.out.next_ hb6)
          have HBW6 := Lib.hid (HBW.out.trans (hb6.mono HBW.out.size))
          clear hb6
          go_wp2_with (first
            | (refine wpList_load_row rfl 67 _ rfl E rfl 67 _ (0, 0) _ HE6.out Tryd.underlying67 rfl SZ.out ?_)
            | (refine wpList_store_row rfl 67 _ _ rfl (G + 1) (enA y) rfl rfl 67 (enA x) HB6.out HA9.out rfl HYA.out ?_))
          have itn : It (w6.setRow (G + 1) (enA y)) r mb kvK vvE L (left.eraseIdx j) := HI6.out.same (setRow_other w6 (G + 1) r _ (by have := HR.out; omega)) (setRow_other w6 (G + 1) mb _ (by have := hmb.out; have := HG.out; omega))
          go_roundw
          case rel => exact ⟨left.eraseIdx j, some y, rfl, itn, HR6.out.rowOther (by omega) _, ⟨enA y, rfl, HB6.out.row _, fun x e => by cases e; rfl⟩, below_setRow HBW6.out (by have := HG.out; omega) _, fun x e => by cases e; exact HYL.out, isSome_upd HJ.out (fun x' e => by cases e; exact HOB.out) LP.out.old⟩
          case measure => exact MEAS.out _ itn
        | false =>
          have HOB := Lib.hid hob
          have HXY := Lib.hid (show y = x ∨ olderB x y = true by
            by_cases hk : enK y = enK x
            · obtain ⟨i1, hi1, e1⟩ := List.mem_iff_getElem.1 hyl
              obtain ⟨i2, hi2, e2⟩ := List.mem_iff_getElem.1 hxl
              have q1 : l[i1]? = some y := by rw [List.getElem?_eq_getElem hi1, e1]
              have q2 : l[i2]? = some x := by rw [List.getElem?_eq_getElem hi2, e2]
              have := pairK_inj h6.1 q1 q2 hk
              subst this
              rw [q1] at q2
              exact .inl (Option.some.inj q2)
            · exact .inr (olderB_total hob hk))
          go_upto_region 6 with fail
          rw [← HW5.out, ← HEE.out]
          clear hnx hen hob
          go_wp2_with (first
            | (refine wpList_val (enV y) (by rfl) (run_loadVar_of 67 _ rfl E rfl 67 (enA y) _ HE5.out Tryd.underlying67 rfl SZ.out) ?_)
            | (refine wpList_val (enV x) (by rfl) (run_loadVar_of 67 _ rfl (G + 1) rfl 67 (enA x) _ HB5.out Tryd.underlying67 rfl SZ.out) ?_)
            | (go_at_call 48; refine (HOLD.out _).mono ?_; rintro e w6 ⟨rfl, hb6⟩; rw [HOB.out]))
          have itn := HIT.out.next_ hb6
          go_roundw
          case rel => exact ⟨left.eraseIdx j, some x, rfl, itn, HR5.out.below hb6 HR5.out.lt, ⟨enA x, rfl, HB5.out.below hb6 HB5.out.lt, fun x' e => by cases e; rfl⟩, HBW.out.trans (hb6.mono HBW.out.size), fun x' e => by cases e; exact LP.out.mem x rfl, isSome_keep HJ.out HXY.out LP.out.old⟩
          case measure => exact MEAS.out _ itn
end
end Go.Proofs.YtelohoomlgjjmaaDoor
