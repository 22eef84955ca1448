/- The developers' table of layer 9: Find; is there room. -/
import Derived.Test.YtpjfpcebjneblaaFb1
import Derived.Test.YtpjfpcebjneblaaInv
namespace Go.Proofs.Ytpjfpcebjneblaa
open Go.RowKit
attribute [local irreducible] wpQuiet
open Go.ChangeMaps (setBlock)
set_option linter.unusedSimpArgs false
set_option linter.unusedVariables false

abbrev enNilA : Array Value := #[.int .u16 0, .int .u8 0, .int .u8 0, .int .u8 0, .int .u8 0, .int .u8 0, .int .u8 0, .int .i64 0, .int .i64 0]
theorem zero49 (W : World) : (zeroValue 65).run Try.prog W = .ok (.agg enNilA) W := by kernel_rfl
theorem kySize9 : (Try.prog.info? 61).map (·.size) = some 7 := by kernel_rfl
theorem lookE_no {w : World} {mb : Nat} {L : List (Nat × En)} (h : Tb w mb kvK vvE L) (vid a : Nat) (ha : a < 281474976710656) (g : getL (keyN vid a) L = none) :
    (Instr.lookup 104 (.map (some mb)) (kyV vid a) true).run Try.prog w = .ok (.tuple #[.agg enNilA, .bool false]) w := by
  have := Tb.look h ky_keys Try.underlying104 (keyN vid a) trivial (fun _ _ => trivial) (zero49 w) true
  rw [g, kvK_of vid a ha] at this
  exact this
theorem lookE_yes {w : World} {mb : Nat} {L : List (Nat × En)} (h : Tb w mb kvK vvE L) (vid a : Nat) (ha : a < 281474976710656) (x : En) (g : getL (keyN vid a) L = some x) :
    (Instr.lookup 104 (.map (some mb)) (kyV vid a) true).run Try.prog w = .ok (.tuple #[.agg (enA x), .bool true]) w := by
  have := Tb.look h ky_keys Try.underlying104 (keyN vid a) trivial (fun _ _ => trivial) (zero49 w) true
  rw [g, kvK_of vid a ha] at this
  exact this
/-- The world, while a look-up's region runs. -/
structure SW9 (w1 : World) (old : Array Value) (l9 l10 : Bool) (v : Value) (w : World) : Prop where
  below : Below w1.heap.size w1 w
  ord : l10 = true → l9 = true
  ptr : l9 = true → ∃ (c : Nat) (arr : Array Value), v = .pointer (some ⟨c, 0, none⟩) ∧ w1.heap.size ≤ c ∧ arr.size = 9 ∧ Kn w1 [(c, arr, 65)] w ∧ (l10 = true → arr = old)
theorem SW9.make {w1 w : World} {old : Array Value} {l9 l10 : Bool} {v : Value} (h : SW9 w1 old l9 l10 v w) (hl : l9 = false) : SW9 w1 old true l10 (.pointer (some ⟨w.heap.size, 0, none⟩)) (w.alloc (.cells enNilA 65)) :=
  ⟨h.below.alloc h.below.size _, fun _ => rfl, fun _ => ⟨_, enNilA, rfl, h.below.size, rfl, (⟨fun _ h => (by cases h), h.below⟩ : Kn w1 [] w).alloc _ _, fun q => (by have := h.ord q; rw [hl] at this; cases this)⟩⟩
theorem SW9.put {w1 w : World} {old : Array Value} {l9 l10 : Bool} {c : Nat} {arr : Array Value} (h : SW9 w1 old l9 l10 (.pointer (some ⟨c, 0, none⟩)) w) (h9 : l9 = true) (hc0 : w1.heap.size ≤ c) (hk : Kn w1 [(c, arr, 65)] w) (ho : old.size = 9) : SW9 w1 old l9 true (.pointer (some ⟨c, 0, none⟩)) (w.setRow c old) := by
  have := hk.row (fun _ h => (by cases h)) hc0 old
  exact ⟨this.below, fun _ => h9, fun _ => ⟨c, old, rfl, hc0, ho, this, fun _ => rfl⟩⟩
/-- The slots, while the region runs. -/
structure Fi18S (b g mb vid a : Nat) (old : Array Value) (th : Bool) (L : Nat → Bool) (v6 v7 v10 v11 v12 v13 v14 v15 v16 v17 v18 : Value) : Prop where
  e11 : L 0 = true → v11 = .pointer (some ⟨b, 0, none⟩)
  e12 : L 1 = true → v12 = .pointer (some ⟨b, 0, none⟩)
  e13 : L 2 = true → v13 = .pointer (some ⟨b, 2, none⟩)
  e14 : L 3 = true → v14 = .map (some mb)
  e15 : L 4 = true → v15 = kyV vid a
  e16 : L 5 = true → v16 = .tuple #[.agg old, .bool th]
  e10 : L 6 = true → v10 = .tuple #[.agg old, .bool th]
  e17 : L 7 = true → v17 = .agg old
  e18 : L 8 = true → v18 = .bool th
  e7 : L 11 = true → v7 = .bool th
abbrev Fi18F (b g mb vid a : Nat) (old : Array Value) (th : Bool) (v6 v7 v10 v11 v12 v13 v14 v15 v16 v17 v18 : Value) : Act := { tmps := #[.pointer (some ⟨b, 0, none⟩), kyV vid a, undef, .pointer (some ⟨g, 0, none⟩), .int .i64 0, .bool false, v6, v7, .pointer (some ⟨b, 0, none⟩), .bool false, v10, v11, v12, v13, v14, v15, v16, v17, v18, undef, undef, undef], defers := [] }
def Fi18I (b g mb vid a : Nat) (old : Array Value) (th : Bool) (w1 : World) (L : Nat → Bool) (ac : Act) (w : World) : Prop :=
  ∃ v6 v7 v10 v11 v12 v13 v14 v15 v16 v17 v18, ac = Fi18F b g mb vid a old th v6 v7 v10 v11 v12 v13 v14 v15 v16 v17 v18 ∧ Fi18S b g mb vid a old th L v6 v7 v10 v11 v12 v13 v14 v15 v16 v17 v18 ∧ SW9 w1 old (L 9) (L 10) v6 w
/-- The slots, while the region runs. -/
structure Ro44S (b g mb vid a : Nat) (old : Array Value) (th : Bool) (L : Nat → Bool) (v5 v6 v7 v8 v9 v10 v11 v12 v13 v14 v15 : Value) : Prop where
  e8 : L 0 = true → v8 = .pointer (some ⟨b, 0, none⟩)
  e9 : L 1 = true → v9 = .pointer (some ⟨b, 0, none⟩)
  e10 : L 2 = true → v10 = .pointer (some ⟨b, 2, none⟩)
  e11 : L 3 = true → v11 = .map (some mb)
  e12 : L 4 = true → v12 = kyV vid a
  e13 : L 5 = true → v13 = .tuple #[.agg old, .bool th]
  e7 : L 6 = true → v7 = .tuple #[.agg old, .bool th]
  e14 : L 7 = true → v14 = .agg old
  e15 : L 8 = true → v15 = .bool th
  e6 : L 11 = true → v6 = .bool th
abbrev Ro44F (b g mb vid a : Nat) (old : Array Value) (th : Bool) (v5 v6 v7 v8 v9 v10 v11 v12 v13 v14 v15 : Value) : Act := { tmps := #[.pointer (some ⟨b, 0, none⟩), kyV vid a, undef, .pointer (some ⟨g, 0, none⟩), .bool false, v5, v6, v7, v8, v9, v10, v11, v12, v13, v14, v15, undef, undef, undef, undef, undef, undef, undef, undef, undef, undef, undef, undef, undef], defers := [] }
def Ro44I (b g mb vid a : Nat) (old : Array Value) (th : Bool) (w1 : World) (L : Nat → Bool) (ac : Act) (w : World) : Prop :=
  ∃ v5 v6 v7 v8 v9 v10 v11 v12 v13 v14 v15, ac = Ro44F b g mb vid a old th v5 v6 v7 v8 v9 v10 v11 v12 v13 v14 v15 ∧ Ro44S b g mb vid a old th L v5 v6 v7 v8 v9 v10 v11 v12 v13 v14 v15 ∧ SW9 w1 old (L 9) (L 10) v5 w

/-- What a look-up finds. -/
theorem TF.looks {w : World} {b A B : Nat} {mo li : Int} {l : List En} (vid a : Nat) (ha : a < 281474976710656) (h : TF w b A B mo li l) : ∃ (mb : Nat) (th : Bool) (old : Array Value), Blk w b #[.int .i64 mo, .int .i64 li, .map (some mb)] 106 ∧ old.size = 9 ∧ old.all (·.oneCell') = true ∧
    (∀ w', Below w.heap.size w w' → (Instr.lookup 104 (.map (some mb)) (kyV vid a) true).run Try.prog w' = .ok (.tuple #[.agg old, .bool th]) w') ∧ (∀ w', Below w.heap.size w w' → (Builtin.len_ #[104] 3 #[.map (some mb)]).run Try.prog w' = .ok (.int .i64 (l.length : Nat)) w') ∧
    th = decide (0 ≤ atK enK (keyN vid a) l) ∧ ((th = false ∧ atK enK (keyN vid a) l = -1 ∧ old = enNilA) ∨ (th = true ∧ ∃ (k : Nat) (x : En), atK enK (keyN vid a) l = k ∧ l[k]? = some x ∧ old = enA x)) := by
  obtain ⟨mb, L, h1, h2, h3, h4, h5, h6, h7⟩ := h
  have hlen : ∀ w', Below w.heap.size w w' → (Builtin.len_ #[104] 3 #[.map (some mb)]).run Try.prog w' = .ok (.int .i64 (l.length : Nat)) w' := fun w' hb => by
    rw [← h6.len]
    exact (h5.next hb).len (P := Try.prog) Try.underlying104 3
  rcases h6.get (keyN vid a) with ⟨g1, g2⟩ | ⟨k, x, g1, g2, g3, g4⟩
  · exact ⟨mb, false, enNilA, h4, rfl, by simp [Value.oneCell'], fun w' hb => lookE_no (h5.next hb) vid a ha g2, hlen, by rw [g1]; rfl, .inl ⟨rfl, g1, rfl⟩⟩
  · exact ⟨mb, true, enA x, h4, rfl, enA_one x, fun w' hb => lookE_yes (h5.next hb) vid a ha x g4, hlen, by rw [g1, eq_comm, decide_eq_true_eq]; omega, .inr ⟨rfl, k, x, g1, g2, rfl⟩⟩
/-- What Find answers. -/
def FindR (l : List En) (v : Nat) (e : Ending) : Prop :=
  (atK enK v l = -1 ∧ e = .returned (.tuple #[.int .i64 0, .bool false])) ∨ ∃ (k : Nat) (x : En), atK enK v l = k ∧ l[k]? = some x ∧ e = .returned (.tuple #[.int .i64 x.port, .bool true])

set_option maxRecDepth 100000 in
set_option maxHeartbeats 8000000 in
theorem find_tf {w : World} {b A B : Nat} {mo li : Int} {l : List En} (vid a : Nat) (ha : a < 281474976710656) (h : TF w b A B mo li l) :
    Calls Try.prog 22 #[.pointer (some ⟨b, 0, none⟩), kyV vid a] w fun e w' => Below w.heap.size w w' ∧ FindR l (keyN vid a) e := by
  obtain ⟨mb, th, old, h4, hoz, ho1, hlk, hln, hth, hcase⟩ := h.looks vid a ha
  obtain ⟨w1, hw1⟩ : ∃ w1, w1 = w.alloc (.cells (kyA vid a) 61) := ⟨_, rfl⟩
  have hb1 : Below w.heap.size w w1 := by rw [hw1]; exact (Below.refl w.heap.size w).alloc (Nat.le_refl _) _
  obtain ⟨g, hg⟩ : ∃ g, g = w.heap.size := ⟨_, rfl⟩
  have hk1 : Blk w1 g (kyA vid a) 61 := by rw [hw1, hg]; exact Blk.new _ _ _
  have h4' : Blk w1 b #[.int .i64 mo, .int .i64 li, .map (some mb)] 106 := h4.below hb1 h4.lt
  have HC1 := Lib.hid (show ∀ w', Below w1.heap.size w1 w' → w'.cell? ⟨b, 2, none⟩ = some (.map (some mb)) from fun w' hb => by rw [(h4'.below hb h4'.lt).cell]; rfl)
  have HC0 := Lib.hid (show ∀ w', Below w1.heap.size w1 w' → w'.cell? ⟨b, 0, none⟩ = some (.int .i64 mo) from fun w' hb => by rw [(h4'.below hb h4'.lt).cell]; rfl)
  have HC2 := Lib.hid (show ∀ w', Below w1.heap.size w1 w' → Blk w' g (kyA vid a) 61 from fun w' hb => hk1.below hb hk1.lt)
  have HC3 := Lib.hid (show ∀ w', Below w1.heap.size w1 w' → (Instr.lookup 104 (.map (some mb)) (kyV vid a) true).run Try.prog w' = .ok (.tuple #[.agg old, .bool th]) w' from fun w' hb => hlk w' (hb1.trans (hb.mono hb1.size)))
  have HLN := Lib.hid (show ∀ w', Below w1.heap.size w1 w' → (Builtin.len_ #[104] 3 #[.map (some mb)]).run Try.prog w' = .ok (.int .i64 (l.length : Nat)) w' from fun w' hb => hln w' (hb1.trans (hb.mono hb1.size)))
  have HOZ := Lib.hid hoz
  have HO1 := Lib.hid ho1
  have HZ49 := Lib.hid (show (Try.prog.info? 65).map (·.size) = some old.size by rw [hoz]; exact enSize49)
  have SZ7 := Lib.hid kySize9
  have HB1 := Lib.hid hb1
  have HW := Lib.hid hw1
  have HG := Lib.hid hg
  have HTH := Lib.hid hth
  have HCS := Lib.hid hcase
  clear h h4 hoz ho1 hlk hln hth hcase hw1 hb1 hg hk1 h4'
  go_enter Try.func22, Try.ntmps22
  go_upto_region 1 with fail
  rw [← HW.out, ← HG.out]
  go_upto_region 3 with fail
  refine wp_region_inv (I := Fi18I b g mb vid a old th w1) (by kernel_rfl) (by kernel_rfl) ⟨undef, undef, undef, undef, undef, undef, undef, undef, undef, undef, undef, rfl, ⟨(fun h => Bool.noConfusion h), (fun h => Bool.noConfusion h), (fun h => Bool.noConfusion h), (fun h => Bool.noConfusion h), (fun h => Bool.noConfusion h), (fun h => Bool.noConfusion h), (fun h => Bool.noConfusion h), (fun h => Bool.noConfusion h), (fun h => Bool.noConfusion h), (fun h => Bool.noConfusion h)⟩, ⟨(Below.refl _ _).drew, fun h => Bool.noConfusion h, fun h => Bool.noConfusion h⟩⟩ ?_ ?_
  · intro i hi Lx ac w' hI hL haft
    obtain ⟨v6, v7, v10, v11, v12, v13, v14, v15, v16, v17, v18, rfl, hs, hw⟩ := hI
    match i, hi with
    | 0, _ =>
      exact i_val rfl (.pointer (some ⟨b, 0, none⟩)) w' (by rfl) (by go_simp) ⟨v6, v7, v10, (.pointer (some ⟨b, 0, none⟩)), v12, v13, v14, v15, v16, v17, v18, rfl, { hs with e11 := fun _ => rfl }, hw⟩
    | 1, _ =>
      have e11x := hs.e11 (haft 0 (by decide))
      subst e11x
      exact i_val rfl (.pointer (some ⟨b, 0, none⟩)) w' (by rfl) (by go_simp) ⟨v6, v7, v10, (.pointer (some ⟨b, 0, none⟩)), (.pointer (some ⟨b, 0, none⟩)), v13, v14, v15, v16, v17, v18, rfl, { hs with e12 := fun _ => rfl }, hw⟩
    | 2, _ =>
      have e12x := hs.e12 (haft 1 (by decide))
      subst e12x
      exact i_val rfl (.pointer (some ⟨b, 2, none⟩)) w' (by rfl) (by go_simp) ⟨v6, v7, v10, v11, (.pointer (some ⟨b, 0, none⟩)), (.pointer (some ⟨b, 2, none⟩)), v14, v15, v16, v17, v18, rfl, { hs with e13 := fun _ => rfl }, hw⟩
    | 3, _ =>
      have e13x := hs.e13 (haft 2 (by decide))
      subst e13x
      have hc := HC1.out w' hw.below
      exact i_val rfl (.map (some mb)) w' (by rfl) (by go_simp) ⟨v6, v7, v10, v11, v12, (.pointer (some ⟨b, 2, none⟩)), (.map (some mb)), v15, v16, v17, v18, rfl, { hs with e14 := fun _ => rfl }, hw⟩
    | 4, _ =>
      exact i_val rfl (kyV vid a) w' (by rfl) (run_loadVar_of 61 _ rfl g rfl 61 (kyA vid a) _ (HC2.out w' hw.below) Try.underlying61 rfl SZ7.out) ⟨v6, v7, v10, v11, v12, v13, v14, (kyV vid a), v16, v17, v18, rfl, { hs with e15 := fun _ => rfl }, hw⟩
    | 5, _ =>
      have e14x := hs.e14 (haft 3 (by decide))
      subst e14x
      have e15x := hs.e15 (haft 4 (by decide))
      subst e15x
      have hc := HC3.out w' hw.below
      exact i_val rfl (.tuple #[.agg old, .bool th]) w' (by rfl) (by go_simp) ⟨v6, v7, v10, v11, v12, v13, (.map (some mb)), (kyV vid a), (.tuple #[.agg old, .bool th]), v17, v18, rfl, { hs with e16 := fun _ => rfl }, hw⟩
    | 6, _ =>
      have e16x := hs.e16 (haft 5 (by decide))
      subst e16x
      exact i_val rfl (.tuple #[.agg old, .bool th]) w' (by rfl) (by go_simp) ⟨v6, v7, (.tuple #[.agg old, .bool th]), v11, v12, v13, v14, v15, (.tuple #[.agg old, .bool th]), v17, v18, rfl, { hs with e10 := fun _ => rfl }, hw⟩
    | 7, _ =>
      have e10x := hs.e10 (haft 6 (by decide))
      subst e10x
      exact i_val rfl (.agg old) w' (by rfl) (by go_simp) ⟨v6, v7, (.tuple #[.agg old, .bool th]), v11, v12, v13, v14, v15, v16, (.agg old), v18, rfl, { hs with e17 := fun _ => rfl }, hw⟩
    | 8, _ =>
      have e10x := hs.e10 (haft 6 (by decide))
      subst e10x
      exact i_val rfl (.bool th) w' (by rfl) (by go_simp) ⟨v6, v7, (.tuple #[.agg old, .bool th]), v11, v12, v13, v14, v15, v16, v17, (.bool th), rfl, { hs with e18 := fun _ => rfl }, hw⟩
    | 9, _ =>
      have hz := zero49 w'
      exact i_val rfl (.pointer (some ⟨w'.heap.size, 0, none⟩)) (w'.alloc (.cells enNilA 65)) (by rfl) (by go_simp) ⟨(.pointer (some ⟨w'.heap.size, 0, none⟩)), v7, v10, v11, v12, v13, v14, v15, v16, v17, v18, rfl, { hs with }, hw.make hL⟩
    | 10, _ =>
      have e17x := hs.e17 (haft 7 (by decide))
      subst e17x
      obtain ⟨c, arr, rfl, hc0, hcz, hk, -⟩ := hw.ptr (haft 9 (by decide))
      exact i_wp rfl (by rfl) (wp_store_row 65 _ _ rfl c old rfl rfl 65 arr (hk.at 0 rfl) HZ49.out (hcz.trans HOZ.out.symm) HO1.out ⟨(.pointer (some ⟨c, 0, none⟩)), v7, v10, v11, v12, v13, v14, v15, v16, (.agg old), v18, rfl, { hs with }, hw.put (haft 9 (by decide)) hc0 hk HOZ.out⟩)
    | 11, _ =>
      have e18x := hs.e18 (haft 8 (by decide))
      subst e18x
      exact i_val rfl (.bool th) w' (by rfl) (by go_simp) ⟨v6, (.bool th), v10, v11, v12, v13, v14, v15, v16, v17, (.bool th), rfl, { hs with e7 := fun _ => rfl }, hw⟩
    | k + 12, h =>
      exfalso
      have h2 : k + 12 < 12 := h
      omega
  intro Lx ac w3 hI hall
  obtain ⟨v6, v7, v10, v11, v12, v13, v14, v15, v16, v17, v18, rfl, hs, hw⟩ := hI
  obtain ⟨c, arr, rfl, hc0, hcz, hk, ho⟩ := hw.ptr (hall 9 (by decide))
  obtain rfl := ho (hall 10 (by decide))
  have e11y := hs.e11 (hall 0 (by decide))
  subst e11y
  have e12y := hs.e12 (hall 1 (by decide))
  subst e12y
  have e13y := hs.e13 (hall 2 (by decide))
  subst e13y
  have e14y := hs.e14 (hall 3 (by decide))
  subst e14y
  have e15y := hs.e15 (hall 4 (by decide))
  subst e15y
  have e16y := hs.e16 (hall 5 (by decide))
  subst e16y
  have e10y := hs.e10 (hall 6 (by decide))
  subst e10y
  have e17y := hs.e17 (hall 7 (by decide))
  subst e17y
  have e18y := hs.e18 (hall 8 (by decide))
  subst e18y
  have e7y := hs.e7 (hall 11 (by decide))
  subst e7y
  have hkc := hk.at 0 rfl
  have HB5 := Lib.hid (HB1.out.trans (hw.below.mono HB1.out.size))
  clear hs hw hall hc0 hk hcz ho
  rcases HCS.out with ⟨rfl, h1, rfl⟩ | ⟨rfl, k, x, h1, h2, rfl⟩
  · have c7 := hkc.cell 7
    simp only [List.getElem?_toArray, List.getElem?_cons_zero, List.getElem?_cons_succ] at c7
    have H1 := Lib.hid h1
    clear h1 hkc
    go_wp2_with fail
    go_ret2
    exact ⟨HB5.out, .inl ⟨H1.out, rfl⟩⟩
  · have c7 := hkc.cell 7
    simp only [List.getElem?_toArray, List.getElem?_cons_zero, List.getElem?_cons_succ] at c7
    have H1 := Lib.hid h1
    have H2 := Lib.hid h2
    clear h1 h2 hkc
    go_wp2_with fail
    go_ret2
    exact ⟨HB5.out, .inr ⟨k, x, H1.out, H2.out, rfl⟩⟩

theorem nil_find (w : World) (vid a : Nat) : Calls Try.prog 22 #[.pointer none, kyV vid a] w fun e w' => e = .returned (.tuple #[.int .i64 0, .bool false]) ∧ Below w.heap.size w w' := by
  have HB := Lib.hid ((Below.refl w.heap.size w).alloc (Nat.le_refl _) (.cells (kyA vid a) 61))
  go_enter Try.func22, Try.ntmps22
  go_wp2
  go_ret2
  exact ⟨rfl, HB.out⟩

set_option maxRecDepth 100000 in
set_option maxHeartbeats 8000000 in
theorem room_tf {w : World} {b A B : Nat} {mo li : Int} {l : List En} (vid a : Nat) (ha : a < 281474976710656) (h : TF w b A B mo li l) :
    Calls Try.prog 39 #[.pointer (some ⟨b, 0, none⟩), kyV vid a] w fun e w' => e = .returned (.bool (decide (0 ≤ atK enK (keyN vid a) l) || decide ((l.length : Int) < mo))) ∧ Below w.heap.size w w' := by
  obtain ⟨mb, th, old, h4, hoz, ho1, hlk, hln, hth, hcase⟩ := h.looks vid a ha
  obtain ⟨w1, hw1⟩ : ∃ w1, w1 = w.alloc (.cells (kyA vid a) 61) := ⟨_, rfl⟩
  have hb1 : Below w.heap.size w w1 := by rw [hw1]; exact (Below.refl w.heap.size w).alloc (Nat.le_refl _) _
  obtain ⟨g, hg⟩ : ∃ g, g = w.heap.size := ⟨_, rfl⟩
  have hk1 : Blk w1 g (kyA vid a) 61 := by rw [hw1, hg]; exact Blk.new _ _ _
  have h4' : Blk w1 b #[.int .i64 mo, .int .i64 li, .map (some mb)] 106 := h4.below hb1 h4.lt
  have HC1 := Lib.hid (show ∀ w', Below w1.heap.size w1 w' → w'.cell? ⟨b, 2, none⟩ = some (.map (some mb)) from fun w' hb => by rw [(h4'.below hb h4'.lt).cell]; rfl)
  have HC0 := Lib.hid (show ∀ w', Below w1.heap.size w1 w' → w'.cell? ⟨b, 0, none⟩ = some (.int .i64 mo) from fun w' hb => by rw [(h4'.below hb h4'.lt).cell]; rfl)
  have HC2 := Lib.hid (show ∀ w', Below w1.heap.size w1 w' → Blk w' g (kyA vid a) 61 from fun w' hb => hk1.below hb hk1.lt)
  have HC3 := Lib.hid (show ∀ w', Below w1.heap.size w1 w' → (Instr.lookup 104 (.map (some mb)) (kyV vid a) true).run Try.prog w' = .ok (.tuple #[.agg old, .bool th]) w' from fun w' hb => hlk w' (hb1.trans (hb.mono hb1.size)))
  have HLN := Lib.hid (show ∀ w', Below w1.heap.size w1 w' → (Builtin.len_ #[104] 3 #[.map (some mb)]).run Try.prog w' = .ok (.int .i64 (l.length : Nat)) w' from fun w' hb => hln w' (hb1.trans (hb.mono hb1.size)))
  have HOZ := Lib.hid hoz
  have HO1 := Lib.hid ho1
  have HZ49 := Lib.hid (show (Try.prog.info? 65).map (·.size) = some old.size by rw [hoz]; exact enSize49)
  have SZ7 := Lib.hid kySize9
  have HB1 := Lib.hid hb1
  have HW := Lib.hid hw1
  have HG := Lib.hid hg
  have HTH := Lib.hid hth
  have HCS := Lib.hid hcase
  rw [← hth]
  clear h h4 hoz ho1 hlk hln hth hcase hw1 hb1 hg hk1 h4'
  go_enter Try.func39, Try.ntmps39
  go_upto_region 1 with fail
  rw [← HW.out, ← HG.out]
  refine wp_region_inv (I := Ro44I b g mb vid a old th w1) (by kernel_rfl) (by kernel_rfl) ⟨undef, undef, undef, undef, undef, undef, undef, undef, undef, undef, undef, rfl, ⟨(fun h => Bool.noConfusion h), (fun h => Bool.noConfusion h), (fun h => Bool.noConfusion h), (fun h => Bool.noConfusion h), (fun h => Bool.noConfusion h), (fun h => Bool.noConfusion h), (fun h => Bool.noConfusion h), (fun h => Bool.noConfusion h), (fun h => Bool.noConfusion h), (fun h => Bool.noConfusion h)⟩, ⟨(Below.refl _ _).drew, fun h => Bool.noConfusion h, fun h => Bool.noConfusion h⟩⟩ ?_ ?_
  · intro i hi Lx ac w' hI hL haft
    obtain ⟨v5, v6, v7, v8, v9, v10, v11, v12, v13, v14, v15, rfl, hs, hw⟩ := hI
    match i, hi with
    | 0, _ =>
      exact i_val rfl (.pointer (some ⟨b, 0, none⟩)) w' (by rfl) (by go_simp) ⟨v5, v6, v7, (.pointer (some ⟨b, 0, none⟩)), v9, v10, v11, v12, v13, v14, v15, rfl, { hs with e8 := fun _ => rfl }, hw⟩
    | 1, _ =>
      have e8x := hs.e8 (haft 0 (by decide))
      subst e8x
      exact i_val rfl (.pointer (some ⟨b, 0, none⟩)) w' (by rfl) (by go_simp) ⟨v5, v6, v7, (.pointer (some ⟨b, 0, none⟩)), (.pointer (some ⟨b, 0, none⟩)), v10, v11, v12, v13, v14, v15, rfl, { hs with e9 := fun _ => rfl }, hw⟩
    | 2, _ =>
      have e9x := hs.e9 (haft 1 (by decide))
      subst e9x
      exact i_val rfl (.pointer (some ⟨b, 2, none⟩)) w' (by rfl) (by go_simp) ⟨v5, v6, v7, v8, (.pointer (some ⟨b, 0, none⟩)), (.pointer (some ⟨b, 2, none⟩)), v11, v12, v13, v14, v15, rfl, { hs with e10 := fun _ => rfl }, hw⟩
    | 3, _ =>
      have e10x := hs.e10 (haft 2 (by decide))
      subst e10x
      have hc := HC1.out w' hw.below
      exact i_val rfl (.map (some mb)) w' (by rfl) (by go_simp) ⟨v5, v6, v7, v8, v9, (.pointer (some ⟨b, 2, none⟩)), (.map (some mb)), v12, v13, v14, v15, rfl, { hs with e11 := fun _ => rfl }, hw⟩
    | 4, _ =>
      exact i_val rfl (kyV vid a) w' (by rfl) (run_loadVar_of 61 _ rfl g rfl 61 (kyA vid a) _ (HC2.out w' hw.below) Try.underlying61 rfl SZ7.out) ⟨v5, v6, v7, v8, v9, v10, v11, (kyV vid a), v13, v14, v15, rfl, { hs with e12 := fun _ => rfl }, hw⟩
    | 5, _ =>
      have e11x := hs.e11 (haft 3 (by decide))
      subst e11x
      have e12x := hs.e12 (haft 4 (by decide))
      subst e12x
      have hc := HC3.out w' hw.below
      exact i_val rfl (.tuple #[.agg old, .bool th]) w' (by rfl) (by go_simp) ⟨v5, v6, v7, v8, v9, v10, (.map (some mb)), (kyV vid a), (.tuple #[.agg old, .bool th]), v14, v15, rfl, { hs with e13 := fun _ => rfl }, hw⟩
    | 6, _ =>
      have e13x := hs.e13 (haft 5 (by decide))
      subst e13x
      exact i_val rfl (.tuple #[.agg old, .bool th]) w' (by rfl) (by go_simp) ⟨v5, v6, (.tuple #[.agg old, .bool th]), v8, v9, v10, v11, v12, (.tuple #[.agg old, .bool th]), v14, v15, rfl, { hs with e7 := fun _ => rfl }, hw⟩
    | 7, _ =>
      have e7x := hs.e7 (haft 6 (by decide))
      subst e7x
      exact i_val rfl (.agg old) w' (by rfl) (by go_simp) ⟨v5, v6, (.tuple #[.agg old, .bool th]), v8, v9, v10, v11, v12, v13, (.agg old), v15, rfl, { hs with e14 := fun _ => rfl }, hw⟩
    | 8, _ =>
      have e7x := hs.e7 (haft 6 (by decide))
      subst e7x
      exact i_val rfl (.bool th) w' (by rfl) (by go_simp) ⟨v5, v6, (.tuple #[.agg old, .bool th]), v8, v9, v10, v11, v12, v13, v14, (.bool th), rfl, { hs with e15 := fun _ => rfl }, hw⟩
    | 9, _ =>
      have hz := zero49 w'
      exact i_val rfl (.pointer (some ⟨w'.heap.size, 0, none⟩)) (w'.alloc (.cells enNilA 65)) (by rfl) (by go_simp) ⟨(.pointer (some ⟨w'.heap.size, 0, none⟩)), v6, v7, v8, v9, v10, v11, v12, v13, v14, v15, rfl, { hs with }, hw.make hL⟩
    | 10, _ =>
      have e14x := hs.e14 (haft 7 (by decide))
      subst e14x
      obtain ⟨c, arr, rfl, hc0, hcz, hk, -⟩ := hw.ptr (haft 9 (by decide))
      exact i_wp rfl (by rfl) (wp_store_row 65 _ _ rfl c old rfl rfl 65 arr (hk.at 0 rfl) HZ49.out (hcz.trans HOZ.out.symm) HO1.out ⟨(.pointer (some ⟨c, 0, none⟩)), v6, v7, v8, v9, v10, v11, v12, v13, (.agg old), v15, rfl, { hs with }, hw.put (haft 9 (by decide)) hc0 hk HOZ.out⟩)
    | 11, _ =>
      have e15x := hs.e15 (haft 8 (by decide))
      subst e15x
      exact i_val rfl (.bool th) w' (by rfl) (by go_simp) ⟨v5, (.bool th), v7, v8, v9, v10, v11, v12, v13, v14, (.bool th), rfl, { hs with e6 := fun _ => rfl }, hw⟩
    | k + 12, h =>
      exfalso
      have h2 : k + 12 < 12 := h
      omega
  intro Lx ac w3 hI hall
  obtain ⟨v5, v6, v7, v8, v9, v10, v11, v12, v13, v14, v15, rfl, hs, hw⟩ := hI
  obtain ⟨c, arr, rfl, hc0, hcz, hk, ho⟩ := hw.ptr (hall 9 (by decide))
  have e8y := hs.e8 (hall 0 (by decide))
  subst e8y
  have e9y := hs.e9 (hall 1 (by decide))
  subst e9y
  have e10y := hs.e10 (hall 2 (by decide))
  subst e10y
  have e11y := hs.e11 (hall 3 (by decide))
  subst e11y
  have e12y := hs.e12 (hall 4 (by decide))
  subst e12y
  have e13y := hs.e13 (hall 5 (by decide))
  subst e13y
  have e7y := hs.e7 (hall 6 (by decide))
  subst e7y
  have e14y := hs.e14 (hall 7 (by decide))
  subst e14y
  have e15y := hs.e15 (hall 8 (by decide))
  subst e15y
  have e6y := hs.e6 (hall 11 (by decide))
  subst e6y
  have HB5 := Lib.hid hw.below
  clear hs hw hall hc0 hk hcz ho
  go_upto_region 2 with fail
  cases th with
  | true =>
    refine wp_region_quiet (C := Below w1.heap.size w1) (by kernel_rfl) (by kernel_rfl) HB5.out.drew ?_
    (refine q_val (v := ?_) (by rfl) ?_ ?_; rotate_left; (· (intro w hC; go_simp; try with_reducible rfl)); (try simp only [Act.put, List.getElem_toArray, List.getElem_cons_succ, List.getElem_cons_zero, List.setIfInBounds_toArray, List.set_cons_zero, List.set_cons_succ]))
    (refine q_val (v := ?_) (by rfl) ?_ ?_; rotate_left; (· (intro w hC; go_simp; try with_reducible rfl)); (try simp only [Act.put, List.getElem_toArray, List.getElem_cons_succ, List.getElem_cons_zero, List.setIfInBounds_toArray, List.set_cons_zero, List.set_cons_succ]))
    (refine q_skip (by rfl) ?_; (try simp only [Act.put, List.getElem_toArray, List.getElem_cons_succ, List.getElem_cons_zero, List.setIfInBounds_toArray, List.set_cons_zero, List.set_cons_succ]))
    (refine q_skip (by rfl) ?_; (try simp only [Act.put, List.getElem_toArray, List.getElem_cons_succ, List.getElem_cons_zero, List.setIfInBounds_toArray, List.set_cons_zero, List.set_cons_succ]))
    (refine q_skip (by rfl) ?_; (try simp only [Act.put, List.getElem_toArray, List.getElem_cons_succ, List.getElem_cons_zero, List.setIfInBounds_toArray, List.set_cons_zero, List.set_cons_succ]))
    (refine q_skip (by rfl) ?_; (try simp only [Act.put, List.getElem_toArray, List.getElem_cons_succ, List.getElem_cons_zero, List.setIfInBounds_toArray, List.set_cons_zero, List.set_cons_succ]))
    (refine q_skip (by rfl) ?_; (try simp only [Act.put, List.getElem_toArray, List.getElem_cons_succ, List.getElem_cons_zero, List.setIfInBounds_toArray, List.set_cons_zero, List.set_cons_succ]))
    (refine q_skip (by rfl) ?_; (try simp only [Act.put, List.getElem_toArray, List.getElem_cons_succ, List.getElem_cons_zero, List.setIfInBounds_toArray, List.set_cons_zero, List.set_cons_succ]))
    (refine q_skip (by rfl) ?_; (try simp only [Act.put, List.getElem_toArray, List.getElem_cons_succ, List.getElem_cons_zero, List.setIfInBounds_toArray, List.set_cons_zero, List.set_cons_succ]))
    (refine q_skip (by rfl) ?_; (try simp only [Act.put, List.getElem_toArray, List.getElem_cons_succ, List.getElem_cons_zero, List.setIfInBounds_toArray, List.set_cons_zero, List.set_cons_succ]))
    (refine q_skip (by rfl) ?_; (try simp only [Act.put, List.getElem_toArray, List.getElem_cons_succ, List.getElem_cons_zero, List.setIfInBounds_toArray, List.set_cons_zero, List.set_cons_succ]))
    (refine q_skip (by rfl) ?_; (try simp only [Act.put, List.getElem_toArray, List.getElem_cons_succ, List.getElem_cons_zero, List.setIfInBounds_toArray, List.set_cons_zero, List.set_cons_succ]))
    (refine q_val (v := ?_) (by rfl) ?_ ?_; rotate_left; (· (intro w hC; go_simp; try with_reducible rfl)); (try simp only [Act.put, List.getElem_toArray, List.getElem_cons_succ, List.getElem_cons_zero, List.setIfInBounds_toArray, List.set_cons_zero, List.set_cons_succ]))
    (refine q_val (v := ?_) (by rfl) ?_ ?_; rotate_left; (· (intro w hC; go_simp; try with_reducible rfl)); (try simp only [Act.put, List.getElem_toArray, List.getElem_cons_succ, List.getElem_cons_zero, List.setIfInBounds_toArray, List.set_cons_zero, List.set_cons_succ]))
    refine wpQuiet_nil ?_
    intro w5 hC5
    have K5 := Lib.hid hC5
    clear hC5
    go_wp2_with fail
    go_ret
    exact ⟨rfl, HB1.out.trans (K5.out.mono HB1.out.size)⟩
  | false =>
    refine wp_region_quiet (C := Below w1.heap.size w1) (by kernel_rfl) (by kernel_rfl) HB5.out.drew ?_
    (refine q_val (v := ?_) (by rfl) ?_ ?_; rotate_left; (· (intro w hC; go_simp; try with_reducible rfl)); (try simp only [Act.put, List.getElem_toArray, List.getElem_cons_succ, List.getElem_cons_zero, List.setIfInBounds_toArray, List.set_cons_zero, List.set_cons_succ]))
    (refine q_val (v := ?_) (by rfl) ?_ ?_; rotate_left; (· (intro w hC; go_simp; try with_reducible rfl)); (try simp only [Act.put, List.getElem_toArray, List.getElem_cons_succ, List.getElem_cons_zero, List.setIfInBounds_toArray, List.set_cons_zero, List.set_cons_succ]))
    (refine q_val (v := ?_) (by rfl) ?_ ?_; rotate_left; (· (intro w hC; go_simp; try with_reducible rfl)); (try simp only [Act.put, List.getElem_toArray, List.getElem_cons_succ, List.getElem_cons_zero, List.setIfInBounds_toArray, List.set_cons_zero, List.set_cons_succ]))
    (refine q_val (v := ?_) (by rfl) ?_ ?_; rotate_left; (· (intro w hC; go_simp; try with_reducible rfl)); (try simp only [Act.put, List.getElem_toArray, List.getElem_cons_succ, List.getElem_cons_zero, List.setIfInBounds_toArray, List.set_cons_zero, List.set_cons_succ]))
    (refine q_val (v := ?_) (by rfl) ?_ ?_; rotate_left; (· (intro w hC; go_simp; try with_reducible rfl)); (try simp only [Act.put, List.getElem_toArray, List.getElem_cons_succ, List.getElem_cons_zero, List.setIfInBounds_toArray, List.set_cons_zero, List.set_cons_succ]))
    (refine q_val (v := ?_) (by rfl) ?_ ?_; rotate_left; (· (intro w hC; have q := HC1.out w hC; go_simp; try with_reducible rfl)); (try simp only [Act.put, List.getElem_toArray, List.getElem_cons_succ, List.getElem_cons_zero, List.setIfInBounds_toArray, List.set_cons_zero, List.set_cons_succ]))
    (refine q_val (v := ?_) (by rfl) ?_ ?_; rotate_left; (· (intro w hC; have q := HLN.out w hC; go_simp; try with_reducible rfl)); (try simp only [Act.put, List.getElem_toArray, List.getElem_cons_succ, List.getElem_cons_zero, List.setIfInBounds_toArray, List.set_cons_zero, List.set_cons_succ]))
    (refine q_val (v := ?_) (by rfl) ?_ ?_; rotate_left; (· (intro w hC; go_simp; try with_reducible rfl)); (try simp only [Act.put, List.getElem_toArray, List.getElem_cons_succ, List.getElem_cons_zero, List.setIfInBounds_toArray, List.set_cons_zero, List.set_cons_succ]))
    (refine q_val (v := ?_) (by rfl) ?_ ?_; rotate_left; (· (intro w hC; go_simp; try with_reducible rfl)); (try simp only [Act.put, List.getElem_toArray, List.getElem_cons_succ, List.getElem_cons_zero, List.setIfInBounds_toArray, List.set_cons_zero, List.set_cons_succ]))
    (refine q_val (v := ?_) (by rfl) ?_ ?_; rotate_left; (· (intro w hC; go_simp; try with_reducible rfl)); (try simp only [Act.put, List.getElem_toArray, List.getElem_cons_succ, List.getElem_cons_zero, List.setIfInBounds_toArray, List.set_cons_zero, List.set_cons_succ]))
    (refine q_val (v := ?_) (by rfl) ?_ ?_; rotate_left; (· (intro w hC; have q := HC0.out w hC; go_simp; try with_reducible rfl)); (try simp only [Act.put, List.getElem_toArray, List.getElem_cons_succ, List.getElem_cons_zero, List.setIfInBounds_toArray, List.set_cons_zero, List.set_cons_succ]))
    (refine q_val (v := ?_) (by rfl) ?_ ?_; rotate_left; (· (intro w hC; go_simp; try with_reducible rfl)); (try simp only [Act.put, List.getElem_toArray, List.getElem_cons_succ, List.getElem_cons_zero, List.setIfInBounds_toArray, List.set_cons_zero, List.set_cons_succ]))
    (refine q_val (v := ?_) (by rfl) ?_ ?_; rotate_left; (· (intro w hC; go_simp; try with_reducible rfl)); (try simp only [Act.put, List.getElem_toArray, List.getElem_cons_succ, List.getElem_cons_zero, List.setIfInBounds_toArray, List.set_cons_zero, List.set_cons_succ]))
    (refine q_val (v := ?_) (by rfl) ?_ ?_; rotate_left; (· (intro w hC; go_simp; try with_reducible rfl)); (try simp only [Act.put, List.getElem_toArray, List.getElem_cons_succ, List.getElem_cons_zero, List.setIfInBounds_toArray, List.set_cons_zero, List.set_cons_succ]))
    refine wpQuiet_nil ?_
    intro w5 hC5
    have K5 := Lib.hid hC5
    clear hC5
    go_wp2_with fail
    go_ret
    exact ⟨rfl, HB1.out.trans (K5.out.mono HB1.out.size)⟩
end Go.Proofs.Ytpjfpcebjneblaa
