/- The sort of the developers' List. -/
import Derived.Test.YtjipbdljljhijaaShelf
import Derived.Test.YtjipbdljljhijaaTab2
namespace Go.Proofs.Ytjipbdljljhijaa
open Go.Shelf Go.RowKit Go.Lib Go.Sort
set_option linter.unusedSimpArgs false
set_option linter.unusedVariables false

/-- How two numbers compare. -/
def cmpN (a b : Nat) : Int := if a < b then -1 else if b < a then 1 else 0
theorem nan_any (a : Nat) (w : World) : Calls Try.prog 37 #[.int .u16 (a : Nat)] w fun e w' => e = .returned (.bool false) ∧ w = w' := by
  go_enter Try.func37, Try.ntmps37
  go_wp2
  go_ret
  exact ⟨rfl, rfl⟩
theorem cmp_any (a b : Nat) (w : World) : Calls Try.prog 33 #[.int .u16 (a : Nat), .int .u16 (b : Nat)] w fun e w' => e = .returned (.int .i64 (cmpN a b)) ∧ w = w' := by
  by_cases h1 : a < b
  · have R := Lib.hid (show (-1 : Int) = cmpN a b by unfold cmpN; rw [if_pos h1])
    have e1 : decide (a < b) = true := decide_eq_true h1
    clear h1
    go_enter Try.func33, Try.ntmps33
    go_wp2_with (go_at_call 37; first | (with_reducible refine (nan_any a _).mono ?_; rintro e w' ⟨rfl, rfl⟩) | (with_reducible refine (nan_any b _).mono ?_; rintro e w' ⟨rfl, rfl⟩))
    go_ret
    exact ⟨ret_num R.out, rfl⟩
  · have e1 : decide (a < b) = false := decide_eq_false h1
    by_cases h2 : b < a
    · have R := Lib.hid (show (1 : Int) = cmpN a b by unfold cmpN; rw [if_neg h1, if_pos h2])
      have e2 : decide (b < a) = true := decide_eq_true h2
      clear h1 h2
      go_enter Try.func33, Try.ntmps33
      go_wp2_with (go_at_call 37; first | (with_reducible refine (nan_any a _).mono ?_; rintro e w' ⟨rfl, rfl⟩) | (with_reducible refine (nan_any b _).mono ?_; rintro e w' ⟨rfl, rfl⟩))
      go_ret
      exact ⟨ret_num R.out, rfl⟩
    · have R := Lib.hid (show (0 : Int) = cmpN a b by unfold cmpN; rw [if_neg h1, if_neg h2])
      have e2 : decide (b < a) = false := decide_eq_false h2
      clear h1 h2
      go_enter Try.func33, Try.ntmps33
      go_wp2_with (go_at_call 37; first | (with_reducible refine (nan_any a _).mono ?_; rintro e w' ⟨rfl, rfl⟩) | (with_reducible refine (nan_any b _).mono ?_; rintro e w' ⟨rfl, rfl⟩))
      go_ret
      exact ⟨ret_num R.out, rfl⟩

instance : Inhabited Vl := ⟨⟨0, 0, 0⟩⟩
def cmpV (x y : Vl) : Int := cmpN x.vid y.vid
set_option maxHeartbeats 4000000 in
theorem less_any (x y : Vl) (W : World) : Calls Try.prog 32 #[vlV x, vlV y] W fun e w' => e = .returned (.int .i64 (cmpV x y)) ∧ ∃ q os', w' = grow (W.drewN q) os' := by
  obtain ⟨v1, m1, u1⟩ := x
  obtain ⟨v2, m2, u2⟩ := y
  have hcon := fun W' => cmp_any v1 v2 W'
  have R := Lib.hid (show cmpN v1 v2 = cmpV ⟨v1, m1, u1⟩ ⟨v2, m2, u2⟩ from rfl)
  generalize cmpN v1 v2 = r at hcon R
  go_enter Try.func32, Try.ntmps32
  go_wp2_with (go_at_call 33; refine (hcon _).mono ?_; rintro e w' ⟨rfl, rfl⟩)
  go_ret
  exact ⟨ret_num R.out, 0, _, by rw [alloc_eq_grow, alloc_eq_grow, grow_grow]; rfl⟩

theorem lt_cmpV (x y : Vl) : ltOf cmpV x y = decide (x.vid < y.vid) := by
  unfold ltOf cmpV cmpN
  by_cases h1 : x.vid < y.vid
  · simp [h1]
  · by_cases h2 : y.vid < x.vid <;> simp [h1, h2]
theorem swo_cmpV : SWO (ltOf cmpV) where
  irrefl x := by rw [lt_cmpV]; simp
  trans x y z h1 h2 := by rw [lt_cmpV] at *; simp at *; omega
  ntrans x y z h1 h2 := by rw [lt_cmpV] at *; simp at *; omega

/-- A list's cells, as the shelf wants them. -/
theorem holds_own {w : World} {base g cap : Nat} {l : List Vl} (h : Own w base 48 3 vlC (.slice (some ⟨g, 0, none⟩) l.length cap) l) : HoldsK vlC 3 w g 0 l.toArray := by
  intro j hj
  rw [size_flatK] at hj
  have hj2 : j < l.length * 3 := by simpa using hj
  refine ⟨?_, by rw [Nat.zero_add]; exact h.free j⟩
  have hx : j / 3 < l.length := by omega
  have e := h.at vlC_len (j / 3) (j % 3) l[j / 3] (List.getElem?_eq_getElem hx) (by omega)
  rw [Nat.zero_add, get_flatK _ _ _ _ hj, show j = j / 3 * 3 + j % 3 by omega, e, show (j / 3 * 3 + j % 3) / 3 = j / 3 by omega, show (j / 3 * 3 + j % 3) % 3 = j % 3 by omega]
  rw [getElem!_pos l.toArray (j / 3) (by simpa using hx)]
  have hm : j % 3 < (vlC l[j / 3]).length := by rw [vlC_len]; omega
  rw [List.getElem?_eq_getElem hm]
  simp [hm]

/-- Other blocks than one are as they were. -/
theorem sort_grown {w : World} {g n : Nat} {d : Array Vl} {os : Array Obj} : w.grownBy (sortWorldK vlC 3 w g 0 n d os) (some g) := by
  refine ⟨rfl, rfl, rfl, ?_, ?_⟩
  · simp [sortWorldK, grow, putRowK, putRow, mapBlock, ahead]
  · intro i hi hne
    have hg : g ≠ i := fun e => hne (by rw [e])
    simp only [sortWorldK, grow, putRowK, putRow, mapBlock, ahead]
    rw [Array.getElem?_append_left (by simpa using hi), Array.getElem?_modify, if_neg hg]
    rfl

theorem sort_any {w : World} {base g cap : Nat} {l : List Vl} (h : Own w base 48 3 vlC (.slice (some ⟨g, 0, none⟩) l.length cap) l) (hg : g < w.heap.size) (hl : l.length ≤ 1000) :
    Calls Try.prog 31 #[.slice (some ⟨g, 0, none⟩) l.length cap, .func (.func 32) #[] #[]] w fun e w' => e = .returned (.tuple #[]) ∧ ∃ l' : List Vl, l'.Perm l ∧ l'.Pairwise (fun a b => a.vid ≤ b.vid) ∧ Src w' vlC (.slice (some ⟨g, 0, none⟩) l.length cap) l' ∧ w.grownBy w' (some g) := by
  have eg : ∀ args w, (callFunc 32 args).run Try.prog w = .ok (.enter 32 args) w := enters_of Try.func32 (by kernel_rfl) rfl
  have hcon := AnyQ.slices_SortFunc sort31 3 Try.isAgg48 Try.sizeOf48 vlC vlC_len (fun x v hv => by simp [vlC] at hv; rcases hv with rfl | rfl | rfl <;> rfl) cmpV swo_cmpV 32 #[] g 0 cap l.toArray w eg (fun _ _ _ _ x y => less_any x y _) (holds_own h) hg (by simp; omega)
  change Calls Try.prog 31 _ _ _ at hcon
  rw [List.size_toArray] at hcon
  refine hcon.mono ?_
  rintro e w' ⟨rfl, d', n, os, hp, hs, rfl⟩
  obtain ⟨p1, -, p3⟩ := hp
  have hz : d'.size = l.length := by simpa using p1
  have hperm : d'.toList.Perm l := by
    have e1 : d'.extract 0 l.length = d' := by rw [← hz]; simp
    have e2 : l.toArray.extract 0 l.length = l.toArray := by simp
    rw [e1, e2] at p3
    simpa using p3
  refine ⟨rfl, d'.toList, hperm, ?_, ?_, sort_grown⟩
  · rw [List.pairwise_iff_getElem]
    intro i j hi hj hij
    have hi' : i < d'.size := by simpa using hi
    have hj' : j < d'.size := by simpa using hj
    have := hs i j (Nat.zero_le _) hij (by omega)
    rw [lt_cmpV, getElem!_pos d' i hi', getElem!_pos d' j hj'] at this
    have := of_decide_eq_false this
    simp only [Array.getElem_toList]
    omega
  · refine .inr ⟨⟨g, 0, none⟩, cap, by rw [hperm.length_eq], fun j u hu => ?_⟩
    have hk := holdsK_sortWorldK vlC 3 w g 0 n l.toArray d' os hg (holds_own h) (by simpa using hz)
    have hjl : j < d'.size * 3 := by
      have := (List.getElem?_eq_some_iff.1 hu).1
      rw [cellsL_len vlC_len] at this
      simpa using this
    have q := (hk j (by rw [size_flatK]; exact hjl)).1
    have hx : j / 3 < d'.size := by omega
    rw [get_flatK _ _ _ _ hjl, getElem!_pos d' (j / 3) hx] at q
    have e := cellsL_at vlC_len (j / 3) (j % 3) (l := d'.toList) d'[j / 3] (by simp [hx]) (by omega)
    rw [show j / 3 * 3 + j % 3 = j by omega, hu] at e
    have hm : j % 3 < (vlC d'[j / 3]).length := by rw [vlC_len]; omega
    rw [List.getElem?_eq_getElem hm] at e
    rw [getElem!_pos (vlC d'[j / 3]) (j % 3) hm] at q
    have : u = (vlC d'[j / 3])[j % 3] := Option.some.inj e
    rw [this]
    have ea : (⟨g, 0, none⟩ : Addr).add j = ⟨g, 0 + j, none⟩ := by
      unfold Addr.add
      split <;> simp_all
    rw [ea]
    exact q
end Go.Proofs.Ytjipbdljljhijaa
