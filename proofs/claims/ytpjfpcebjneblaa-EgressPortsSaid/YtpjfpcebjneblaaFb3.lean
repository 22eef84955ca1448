/- The developers' table of layer 9: which entry is the oldest. -/
import Derived.Test.YtpjfpcebjneblaaFb2
import Derived.Test.YtpjfpcebjneblaaKless
import Derived.Maps.RangeWalk
import Derived.Deep.DeepCutAuto
namespace Go.Proofs.Ytpjfpcebjneblaa
open Go.RowKit
open Go.ChangeMaps (setBlock)
set_option linter.unusedSimpArgs false
set_option linter.unusedVariables false

/-- Does an entry go ahead of another one? -/
def olderB (x y : En) : Bool := if x.age = y.age then decide (enK x < enK y) else decide (y.age < x.age)
theorem olderB_trans {x y z : En} (h1 : olderB x y = true) (h2 : olderB y z = true) : olderB x z = true := by
  unfold olderB at *
  split at h1 <;> split at h2 <;> split <;> simp_all <;> omega
theorem olderB_total {x y : En} (h : olderB x y = false) (hne : enK x ≠ enK y) : olderB y x = true := by
  unfold olderB at *
  split at h <;> split <;> simp_all <;> omega

set_option maxRecDepth 100000 in
set_option maxHeartbeats 8000000 in
theorem older_any (x y : En) (hx : enOk x) (hy : enOk y) (w : World) : Calls Try.prog 52 #[enV x, enV y] w fun e w' => e = .returned (.bool (olderB x y)) ∧ Below w.heap.size w w' := by
  obtain ⟨v, a, p, g⟩ := x
  obtain ⟨u, b, q, k⟩ := y
  obtain ⟨w1, hw1⟩ : ∃ w1, w1 = (w.alloc (.cells (enA ⟨v, a, p, g⟩) 65)).alloc (.cells (enA ⟨u, b, q, k⟩) 65) := ⟨_, rfl⟩
  have hb1 : Below w.heap.size w w1 := by rw [hw1]; exact ((Below.refl w.heap.size w).alloc (Nat.le_refl _) _).alloc (by simp) _
  obtain ⟨G, hG⟩ : ∃ G, G = w.heap.size := ⟨_, rfl⟩
  have k1 : Blk w1 G (enA ⟨v, a, p, g⟩) 65 := by rw [hw1, hG]; exact (Blk.new _ _ _).alloc _
  have k2 : Blk w1 (G + 1) (enA ⟨u, b, q, k⟩) 65 := by
    rw [hw1, hG]
    have := Blk.new (w.alloc (.cells (enA ⟨v, a, p, g⟩) 65)) (enA ⟨u, b, q, k⟩) 65
    simpa using this
  have HW := Lib.hid hw1
  have HG := Lib.hid hG
  have HB1 := Lib.hid hb1
  have c1 := k1.cell 8
  have c2 := k2.cell 8
  simp only [List.getElem?_toArray, List.getElem?_cons_zero, List.getElem?_cons_succ] at c1 c2
  by_cases h : g = k
  · have e1 : (g != k) = false := by simp [h]
    have RES := Lib.hid (show decide (keyN v a < keyN u b) = olderB ⟨v, a, p, g⟩ ⟨u, b, q, k⟩ by unfold olderB; rw [if_pos h]; rfl)
    have SZ := Lib.hid kySize9
    have r1 := Lib.hid (show w1.rangeAt G 0 (kyA v a).toList from fun j x hx => by
      rw [Nat.zero_add, k1.cell]
      have hj : j < 7 := by
        have := (List.getElem?_eq_some_iff.1 hx).1
        simpa using this
      match j, hj with
      | 0, _ => simpa using hx
      | 1, _ => simpa using hx
      | 2, _ => simpa using hx
      | 3, _ => simpa using hx
      | 4, _ => simpa using hx
      | 5, _ => simpa using hx
      | 6, _ => simpa using hx)
    have r2 := Lib.hid (show w1.rangeAt (G + 1) 0 (kyA u b).toList from fun j x hx => by
      rw [Nat.zero_add, k2.cell]
      have hj : j < 7 := by
        have := (List.getElem?_eq_some_iff.1 hx).1
        simpa using this
      match j, hj with
      | 0, _ => simpa using hx
      | 1, _ => simpa using hx
      | 2, _ => simpa using hx
      | 3, _ => simpa using hx
      | 4, _ => simpa using hx
      | 5, _ => simpa using hx
      | 6, _ => simpa using hx)
    clear h hw1 hb1 hG k1 k2
    go_enter Try.func52, Try.ntmps52
    go_upto_region 1 with fail
    rw [← HW.out, ← HG.out]
    go_upto_region 3 with fail
    go_wp2_with (first
      | (refine wpList_val (.agg (kyA v a)) (by rfl) (run_loadRange 61 _ rfl G 0 rfl (kyA v a) _ r1.out Try.underlying61 rfl SZ.out) ?_)
      | (refine wpList_val (.agg (kyA u b)) (by rfl) (run_loadRange 61 _ rfl (G + 1) 0 rfl (kyA u b) _ r2.out Try.underlying61 rfl SZ.out) ?_)
      | (go_at_call 54; refine (key_less v a u b hx hy _).mono ?_; rintro e w2 ⟨rfl, hb2⟩))
    go_ret
    exact ⟨ret_bool RES.out, HB1.out.trans (hb2.mono HB1.out.size)⟩
  · have e1 : (g != k) = true := by simp [h]
    have RES := Lib.hid (show decide (k < g) = olderB ⟨v, a, p, g⟩ ⟨u, b, q, k⟩ by unfold olderB; rw [if_neg h])
    clear h hw1 hb1 hG k1 k2
    obtain ⟨r, hr⟩ : ∃ r : Bool, r = decide (k < g) := ⟨_, rfl⟩
    have HR := Lib.hid hr
    have e2 : decide (k < g) = r := hr.symm
    clear hr
    go_enter Try.func52, Try.ntmps52
    go_upto_region 1 with fail
    rw [← HW.out, ← HG.out]
    go_wp2_with fail
    go_ret
    exact ⟨ret_bool (by rw [← RES.out]; exact HR.out), HB1.out⟩

/-- The oldest one of a list. -/
def OldS (l : List En) (x : En) : Prop := x ∈ l ∧ ∀ y ∈ l, y = x ∨ olderB x y = true
/-- What a round finds. -/
structure OldLp (w : World) (r mb g2 g3 : Nat) (L left : List (Nat × En)) (best : Option En) (wr : World) : Prop where
  it : It wr r mb kvK vvE L left
  res : Blk wr g2 enNilA 65
  box : ∃ arr, arr.size = 9 ∧ Blk wr g3 arr 65 ∧ ∀ x, best = some x → arr = enA x
  below : Below w.heap.size w wr
  mem : ∀ x, best = some x → x ∈ L.map (·.2)
  old : ∀ y ∈ L.map (·.2), y ∈ left.map (·.2) ∨ ∃ x, best = some x ∧ (y = x ∨ olderB x y = true)
theorem mem_erase {α : Type} {l : List α} {j : Nat} {y z : α} (hj : l[j]? = some y) (hz : z ∈ l) : z = y ∨ z ∈ l.eraseIdx j := by
  obtain ⟨hlt, e⟩ := List.getElem?_eq_some_iff.1 hj
  have : l = l.take j ++ y :: l.drop (j + 1) := by rw [← e, List.getElem_cons_drop, List.take_append_drop]
  rw [this] at hz
  rw [List.eraseIdx_eq_take_drop_succ]
  rcases List.mem_append.1 hz with h | h
  · exact .inr (List.mem_append_left _ h)
  · rcases List.mem_cons.1 h with h | h
    · exact .inl h
    · exact .inr (List.mem_append_right _ h)

theorem isSome_upd {L left : List (Nat × En)} {best : Option En} {j k : Nat} {y : En} (hj : left[j]? = some (k, y)) (hb : ∀ x, best = some x → olderB y x = true)
    (h : ∀ z ∈ L.map (·.2), z ∈ left.map (·.2) ∨ ∃ x, best = some x ∧ (z = x ∨ olderB x z = true)) : ∀ z ∈ L.map (·.2), z ∈ (left.eraseIdx j).map (·.2) ∨ ∃ x, some y = some x ∧ (z = x ∨ olderB x z = true) := by
  intro z hz
  rcases h z hz with h1 | ⟨x, h1, h2⟩
  · obtain ⟨u, hu, rfl⟩ := List.mem_map.1 h1
    rcases mem_erase hj hu with rfl | h3
    · exact .inr ⟨y, rfl, .inl rfl⟩
    · exact .inl (List.mem_map.2 ⟨u, h3, rfl⟩)
  · refine .inr ⟨y, rfl, .inr ?_⟩
    rcases h2 with rfl | h2
    · exact hb _ h1
    · exact olderB_trans (hb x h1) h2
theorem isSome_keep {L left : List (Nat × En)} {x : En} {j k : Nat} {y : En} (hj : left[j]? = some (k, y)) (hb : y = x ∨ olderB x y = true)
    (h : ∀ z ∈ L.map (·.2), z ∈ left.map (·.2) ∨ ∃ x', some x = some x' ∧ (z = x' ∨ olderB x' z = true)) : ∀ z ∈ L.map (·.2), z ∈ (left.eraseIdx j).map (·.2) ∨ ∃ x', some x = some x' ∧ (z = x' ∨ olderB x' z = true) := by
  intro z hz
  rcases h z hz with h1 | h1
  · obtain ⟨u, hu, rfl⟩ := List.mem_map.1 h1
    rcases mem_erase hj hu with rfl | h3
    · exact .inr ⟨x, rfl, hb⟩
    · exact .inl (List.mem_map.2 ⟨u, h3, rfl⟩)
  · exact .inr h1

set_option maxRecDepth 100000 in
set_option maxHeartbeats 16000000 in
theorem oldest_tf {w : World} {b A B : Nat} {mo li : Int} {l : List En} (h : TF w b A B mo li l) (hne : l ≠ []) :
    Calls Try.prog 40 #[.pointer (some ⟨b, 0, none⟩)] w fun e w' => (∃ x, e = .returned (enV x) ∧ OldS l x) ∧ Below w.heap.size w w' := by
  obtain ⟨mb, L, h1, h2, h3, h4, h5, h6, h7⟩ := h
  have hmb := Lib.hid h5.lt
  obtain ⟨w2, hw2⟩ : ∃ w2, w2 = (w.alloc (.cells enNilA 65)).alloc (.cells enNilA 65) := ⟨_, rfl⟩
  obtain ⟨G, hG⟩ : ∃ G, G = w.heap.size := ⟨_, rfl⟩
  have hb2 : Below w.heap.size w w2 := by rw [hw2]; exact ((Below.refl w.heap.size w).alloc (Nat.le_refl _) _).alloc (by simp) _
  have k1 : Blk w2 G enNilA 65 := by rw [hw2, hG]; exact (Blk.new _ _ _).alloc _
  have k2 : Blk w2 (G + 1) enNilA 65 := by
    rw [hw2, hG]
    have := Blk.new (w.alloc (.cells enNilA 65)) enNilA 65
    simpa using this
  have hz := zero49
  have hc := (h4.below hb2 h4.lt).cell 2
  simp only [List.getElem?_toArray, List.getElem?_cons_zero, List.getElem?_cons_succ] at hc
  obtain ⟨ob, hrg, hit⟩ := (h5.next hb2).range (P := Try.prog) Try.underlying104
  obtain ⟨w3, hw3⟩ : ∃ w3, w3 = w2.alloc ob := ⟨_, rfl⟩
  have hrng : (Instr.range 104 (.map (some mb))).run Try.prog w2 = .ok (.pointer (some ⟨w2.heap.size, 0, none⟩)) (w2.alloc ob) := hrg
  obtain ⟨r, hr⟩ : ∃ r, r = w2.heap.size := ⟨_, rfl⟩
  rw [← hw3, ← hr] at hrng hit
  have HR := Lib.hid (show G + 1 < r by rw [hr]; exact k2.lt)
  have I0 := Lib.hid (show OldLp w r mb G (G + 1) L L none w3 from
    ⟨hit, by rw [hw3]; exact k1.alloc _, ⟨enNilA, rfl, by rw [hw3]; exact k2.alloc _, fun x e => (by cases e)⟩, by rw [hw3]; exact hb2.alloc hb2.size _, fun x e => (by cases e), fun y hy => .inl hy⟩)
  have HW := Lib.hid hw2
  have HG := Lib.hid hG
  have SZ := Lib.hid enSize49
  clear hrg hit hw3 hr hw2 hG hb2 k1 k2
  go_enter Try.func40, Try.ntmps40
  go_upto_region 2 with fail
  rw [← HW.out, ← HG.out]
  go_upto_region 4 with fail
  clear hc hrng hz
  go_loopw [4] (fun v wr => ∃ (left : List (Nat × En)) (best : Option En), v = .bool best.isSome ∧ OldLp w r mb G (G + 1) L left best wr) (fun _ wr => wr.rangeLeft mb r)
  case atStart => exact ⟨L, none, rfl, I0.out⟩
  case round =>
    obtain ⟨left, best, hv, hlp⟩ := hrel
    obtain ⟨fb, hfb⟩ : ∃ fb, fb = best.isSome := ⟨_, rfl⟩
    rw [← hfb] at hv
    subst hv
    have HFB := Lib.hid hfb
    have LP := Lib.hid hlp
    have hit := hlp.it
    clear hlp hfb
    have hmr : r ≠ mb := by have := hmb.out; have := HR.out; have := HG.out; omega
    rcases hit.step (P := Try.prog) hmr 0 with ⟨h0, hnx⟩ | ⟨j, x, y, w4, hj, hnx, hit4, hg4, hs4, hen⟩
    · clear hit
      subst h0
      have hbest : ∃ x, best = some x := by
        cases hl : l with
        | nil => exact absurd hl hne
        | cons z zs =>
          have hz : z ∈ L.map (·.2) := (h6.2.map (·.2)).mem_iff.2 (by rw [hl]; simp)
          rcases LP.out.old z hz with h | ⟨x, hx, -⟩
          · simp at h
          · exact ⟨x, hx⟩
      obtain ⟨x, rfl⟩ := hbest
      obtain ⟨arr, ha9, hbx, hax⟩ := LP.out.box
      obtain rfl := hax x rfl
      have HBX := Lib.hid hbx
      have H1 := Lib.hid (enA_one x)
      clear hbx hax ha9
      go_wp2_with (first
        | (refine wpList_load_row rfl 65 _ rfl (G + 1) rfl 65 _ (0, 0) _ HBX.out Try.underlying65 rfl SZ.out ?_)
        | (refine wpList_store_row rfl 65 _ _ rfl G (enA x) rfl rfl 65 enNilA LP.out.res SZ.out rfl H1.out ?_))
      refine bodyPost_ret (v := enV x) (results_cell_row Try.results40 _ _ G 65 (enA x) (0, 0) _ rfl (LP.out.res.row _) Try.underlying65 rfl SZ.out) rfl ⟨⟨x, rfl, ?_, ?_⟩, below_setRow LP.out.below (by have := HG.out; omega) _⟩
      · have := LP.out.mem x rfl
        have := (h6.2.map (·.2)).mem_iff.1 this
        simpa using this
      · intro z hz
        have hz' : z ∈ L.map (·.2) := (h6.2.map (·.2)).mem_iff.2 (by simpa using hz)
        rcases LP.out.old z hz' with h | ⟨x', hx', h⟩
        · simp at h
        · cases hx'
          exact h
    · clear hit
      have hxy := h6.mem (LP.out.it.sub.mem (List.mem_of_getElem? hj))
      obtain ⟨rfl, hyl⟩ : x = enK y ∧ y ∈ l := hxy
      have hyo := h7 y hyl
      have ekv : kvK (enK y) = kyV y.vid y.mac := kvK_of y.vid y.mac hyo
      rw [ekv] at hnx hen
      unfold vvE at hnx hen
      obtain ⟨arr, ha9, hbx, hax⟩ := LP.out.box
      have hgr : ∀ q : Nat, q ≤ G + 1 → some q ≠ some r := fun q hq e => by have := Option.some.inj e; have := HR.out; omega
      have b4 : Blk w4 (G + 1) arr 65 := hbx.grown hg4 (hgr _ (Nat.le_refl _))
      have r4 : Blk w4 G enNilA 65 := LP.out.res.grown hg4 (hgr _ (by omega))
      obtain ⟨w5, hw5⟩ : ∃ w5, w5 = w4.alloc (.cells (enA y) 65) := ⟨_, rfl⟩
      obtain ⟨E, hE⟩ : ∃ E, E = w4.heap.size := ⟨_, rfl⟩
      have bw4 : Below w.heap.size w w4 := LP.out.below.grown hg4 LP.out.below.size (fun k e => by cases e; have := HR.out; have := HG.out; omega)
      have b5 : Blk w5 (G + 1) arr 65 := by rw [hw5]; exact b4.alloc _
      have r5 : Blk w5 G enNilA 65 := by rw [hw5]; exact r4.alloc _
      have e5 : Blk w5 E (enA y) 65 := by rw [hw5, hE]; exact Blk.new _ _ _
      have bw5 : Below w.heap.size w w5 := by rw [hw5]; exact bw4.alloc bw4.size _
      have it5 : It w5 r mb kvK vvE L (left.eraseIdx j) := by rw [hw5]; exact hit4.alloc _
      have HB5 := Lib.hid b5
      have HR5 := Lib.hid r5
      have HE5 := Lib.hid e5
      have HBW := Lib.hid bw5
      have HIT := Lib.hid it5
      have HJ := Lib.hid hj
      have HW5 := Lib.hid hw5
      have HEE := Lib.hid hE
      have HA9 := Lib.hid (show (Try.prog.info? 65).map (·.size) = some arr.size by rw [ha9]; exact enSize49)
      have HA9' := Lib.hid ha9
      have HYA := Lib.hid (enA_one y)
      have HYL := Lib.hid (show y ∈ L.map (·.2) from (h6.2.map (·.2)).mem_iff.2 (by simpa using hyl))
      have HAX := Lib.hid hax
      have MEAS := Lib.hid (show ∀ w', It w' r mb kvK vvE L (left.eraseIdx j) → w'.rangeLeft mb r < wr.rangeLeft mb r from fun w' hi => by
        rw [hi.left_eq, LP.out.it.left_eq, List.length_eraseIdx]
        have := (List.getElem?_eq_some_iff.1 hj).1
        rw [if_pos this]
        omega)
      clear b4 r4 b5 r5 e5 bw4 bw5 it5 hj hit4 hg4 hs4 hw5 hE ekv hbx hax ha9 hgr
      cases best with
      | none =>
        obtain rfl : fb = false := HFB.out
        go_upto_region 6 with fail
        rw [← HW5.out, ← HEE.out]
        clear hnx hen
        go_wp2_with (first
          | (refine wpList_load_row rfl 65 _ rfl E rfl 65 _ (0, 0) _ HE5.out Try.underlying65 rfl SZ.out ?_)
          | (refine wpList_store_row rfl 65 _ _ rfl (G + 1) (enA y) rfl rfl 65 arr HB5.out SZ.out HA9'.out HYA.out ?_))
        have itn : It (w5.setRow (G + 1) (enA y)) r mb kvK vvE L (left.eraseIdx j) := HIT.out.same (setRow_other w5 (G + 1) r _ (by have := HR.out; omega)) (setRow_other w5 (G + 1) mb _ (by have := hmb.out; have := HG.out; omega))
        go_roundw
        case rel => exact ⟨left.eraseIdx j, some y, rfl, itn, HR5.out.rowOther (by omega) _, ⟨enA y, rfl, HB5.out.row _, fun x e => by cases e; rfl⟩, below_setRow HBW.out (by have := HG.out; omega) _, fun x e => by cases e; exact HYL.out, isSome_upd HJ.out (fun x e => by cases e) LP.out.old⟩
        case measure => exact MEAS.out _ itn
      | some x =>
        obtain rfl : fb = true := HFB.out
        obtain rfl := HAX.out x rfl
        have hxl : x ∈ l := by
          have := (h6.2.map (·.2)).mem_iff.1 (LP.out.mem x rfl)
          simpa using this
        have HOLD := Lib.hid (older_any y x hyo (h7 x hxl))
        cases hob : olderB y x with
        | true =>
          have HOB := Lib.hid hob
          go_upto_region 6 with fail
          rw [← HW5.out, ← HEE.out]
          clear hnx hen hob
          go_upto_region 7 with (first
            | (refine wpList_load_row rfl 65 _ rfl E rfl 65 _ (0, 0) _ HE5.out Try.underlying65 rfl SZ.out ?_)
            | (refine wpList_val (enV y) (by rfl) (run_loadVar_of 65 _ rfl E rfl 65 (enA y) _ HE5.out Try.underlying65 rfl SZ.out) ?_)
            | (refine wpList_val (enV x) (by rfl) (run_loadVar_of 65 _ rfl (G + 1) rfl 65 (enA x) _ HB5.out Try.underlying65 rfl SZ.out) ?_)
            | (go_at_call 52; refine (HOLD.out _).mono ?_; rintro e w6 ⟨rfl, hb6⟩; rw [HOB.out]))
          have HE6 := Lib.hid (HE5.out.below hb6 HE5.out.lt)
          have HB6 := Lib.hid (HB5.out.below hb6 HB5.out.lt)
          have HR6 := Lib.hid (HR5.out.below hb6 HR5.out.lt)
          have HI6 := Lib.hid (HIT.out.next_ hb6)
          have HBW6 := Lib.hid (HBW.out.trans (hb6.mono HBW.out.size))
          clear hb6
          go_wp2_with (first
            | (refine wpList_load_row rfl 65 _ rfl E rfl 65 _ (0, 0) _ HE6.out Try.underlying65 rfl SZ.out ?_)
            | (refine wpList_store_row rfl 65 _ _ rfl (G + 1) (enA y) rfl rfl 65 (enA x) HB6.out HA9.out rfl HYA.out ?_))
          have itn : It (w6.setRow (G + 1) (enA y)) r mb kvK vvE L (left.eraseIdx j) := HI6.out.same (setRow_other w6 (G + 1) r _ (by have := HR.out; omega)) (setRow_other w6 (G + 1) mb _ (by have := hmb.out; have := HG.out; omega))
          go_roundw
          case rel => exact ⟨left.eraseIdx j, some y, rfl, itn, HR6.out.rowOther (by omega) _, ⟨enA y, rfl, HB6.out.row _, fun x e => by cases e; rfl⟩, below_setRow HBW6.out (by have := HG.out; omega) _, fun x e => by cases e; exact HYL.out, isSome_upd HJ.out (fun x' e => by cases e; exact HOB.out) LP.out.old⟩
          case measure => exact MEAS.out _ itn
        | false =>
          have HOB := Lib.hid hob
          have HXY := Lib.hid (show y = x ∨ olderB x y = true by
            by_cases hk : enK y = enK x
            · obtain ⟨i1, hi1, e1⟩ := List.mem_iff_getElem.1 hyl
              obtain ⟨i2, hi2, e2⟩ := List.mem_iff_getElem.1 hxl
              have q1 : l[i1]? = some y := by rw [List.getElem?_eq_getElem hi1, e1]
              have q2 : l[i2]? = some x := by rw [List.getElem?_eq_getElem hi2, e2]
              have := pairK_inj h6.1 q1 q2 hk
              subst this
              rw [q1] at q2
              exact .inl (Option.some.inj q2)
            · exact .inr (olderB_total hob hk))
          go_upto_region 6 with fail
          rw [← HW5.out, ← HEE.out]
          clear hnx hen hob
          go_wp2_with (first
            | (refine wpList_val (enV y) (by rfl) (run_loadVar_of 65 _ rfl E rfl 65 (enA y) _ HE5.out Try.underlying65 rfl SZ.out) ?_)
            | (refine wpList_val (enV x) (by rfl) (run_loadVar_of 65 _ rfl (G + 1) rfl 65 (enA x) _ HB5.out Try.underlying65 rfl SZ.out) ?_)
            | (go_at_call 52; refine (HOLD.out _).mono ?_; rintro e w6 ⟨rfl, hb6⟩; rw [HOB.out]))
          have itn := HIT.out.next_ hb6
          go_roundw
          case rel => exact ⟨left.eraseIdx j, some x, rfl, itn, HR5.out.below hb6 HR5.out.lt, ⟨enA x, rfl, HB5.out.below hb6 HB5.out.lt, fun x' e => by cases e; rfl⟩, HBW.out.trans (hb6.mono HBW.out.size), fun x' e => by cases e; exact LP.out.mem x rfl, isSome_keep HJ.out HXY.out LP.out.old⟩
          case measure => exact MEAS.out _ itn
end Go.Proofs.Ytpjfpcebjneblaa
