/- The developers' table of VLANs, whose sets are small: what is found in it. -/
import Derived.Test.YtpjfpcebjneblaaSet8
import Derived.Test.YtpjfpcebjneblaaIng2
namespace Go.Proofs.Ytpjfpcebjneblaa
open Go.RowKit
set_option linter.unusedSimpArgs false
set_option linter.unusedVariables false

/-- What is found for a number. -/
def findV (vid : Nat) (l : List Vl) : Vl × Bool := if atV vid l < 0 then (⟨0, 0, 0⟩, false) else (l.getD (atV vid l).toNat ⟨0, 0, 0⟩, true)
def Small (l : List Vl) : Prop := ∀ y ∈ l, y.mem < 65536 ∧ y.unt < 65536
theorem findV_small {l : List Vl} (h : Small l) (vid : Nat) : (findV vid l).1.mem < 65536 ∧ (findV vid l).1.unt < 65536 := by
  unfold findV
  split
  · exact ⟨by decide, by decide⟩
  · simp only [List.getD_eq_getElem?_getD]
    cases hg : l[(atV vid l).toNat]? with
    | none => exact ⟨by simp, by simp⟩
    | some y => exact h y (List.mem_of_getElem? hg)
theorem findV_nil (vid : Nat) : findV vid [] = (⟨0, 0, 0⟩, false) := rfl
theorem findV_one (x : Vl) : findV x.vid [x] = (x, true) := by simp [findV, atV]
theorem goodV_small {x : Vl} (h : goodV x = 0) : x.mem < 65536 ∧ x.unt < 65536 := by
  unfold goodV at h
  split at h
  · cases h
  · split at h
    · cases h
    · omega
theorem setV_small {l : List Vl} (h : Small l) (x : Vl) : Small (setV l x) := by
  unfold setV
  split
  · exact h
  · rename_i hg
    have hx := goodV_small (show goodV x = 0 by simpa using hg)
    split
    · intro y hy
      rcases List.mem_or_eq_of_mem_set hy with h1 | h1
      · exact h y h1
      · rw [h1]; exact hx
    · split
      · exact h
      · intro y hy
        simp only [List.mem_append, List.mem_cons, List.not_mem_nil, or_false] at hy
        rcases hy with (h1 | h1) | h1
        · exact h y (List.mem_of_mem_take h1)
        · rw [h1]; exact hx
        · exact h y (List.mem_of_mem_drop h1)

theorem get_find {w : World} {b A B : Nat} {l : List Vl} (vid : Nat) (h : TM w b A B l) :
    Calls Try.prog 12 #[.pointer (some ⟨b, 0, none⟩), .int .u16 (vid : Nat)] w fun e w' => e = .returned (.tuple #[vlV (findV vid l).1, .bool (findV vid l).2]) ∧ Below w.heap.size w w' :=
  (get_tm vid h).mono fun e w' ⟨hb, hr⟩ => by
    refine ⟨?_, hb⟩
    rcases hr with ⟨h1, h2⟩ | ⟨k, x, h1, h2, h3⟩
    · rw [h2]; unfold findV; rw [if_pos (by rw [h1]; omega)]; rfl
    · rw [h3]; unfold findV; rw [if_neg (by rw [h1]; omega), h1]; simp [h2]
theorem vl_info : (Try.prog.info? 37).map (·.size) = some 3 := by kernel_rfl
theorem get_none (w : World) (vid : Nat) : Calls Try.prog 12 #[.pointer none, .int .u16 (vid : Nat)] w fun e w' => e = .returned (.tuple #[vlV ⟨0, 0, 0⟩, .bool false]) ∧ Below w.heap.size w w' := by
  have HB := Lib.hid ((Below.refl w.heap.size w).alloc (Nat.le_refl _) (.cells vlNilA 37))
  have hz := zero48
  go_enter Try.func12, Try.ntmps12
  go_wp2
  exact bodyPost_ret (v := .tuple #[.agg vlNilA, .bool false]) (results_row_tmp Try.results12 _ _ w.heap.size 37 vlNilA _ _ rfl rfl (Blk.new w vlNilA 37) Try.underlying37 rfl vl_info) rfl ⟨rfl, HB.out⟩

/-- The table alone. -/
structure OneV (w0 : World) (b A B : Nat) (l : List Vl) (w : World) : Prop where
  tab : TM w b A B l
  low : w0.heap.size ≤ A ∧ A ≤ B ∧ B ≤ w.heap.size
  below : Below w0.heap.size w0 w
section
variable {w0 w w' : World} {b A B : Nat} {l l' : List Vl}
theorem OneV.next (h : OneV w0 b A B l w) (hb : Below w.heap.size w w') : OneV w0 b A B l w' :=
  ⟨h.tab.keep (fun k _ hk => hb.block k (by have := h.low; omega)), ⟨h.low.1, h.low.2.1, by have := h.low; have := hb.size; omega⟩, h.below.trans (hb.mono (by have := h.low; omega))⟩
theorem OneV.after (h : OneV w0 b A B l w) (ht : TM w' b A B l') (hk : KeptO A B w w') : OneV w0 b A B l' w' := by
  have h1 := h.low
  have h2 := hk.size
  exact ⟨ht, ⟨h1.1, h1.2.1, by omega⟩, h.below.trans ((hk.below (by omega)).mono h1.1)⟩
theorem OneV.setCell (h : OneV w0 b A B l w) {a : Addr} (ha : B ≤ a.block) (u : Value) : OneV w0 b A B l (w.setCell a u) :=
  ⟨h.tab.keep (fun k _ hk => Below.heap_setCell w a u k (by omega)), ⟨h.low.1, h.low.2.1, by have := h.low; simpa using this.2.2⟩, h.below.setCell (by have := h.low; omega) u⟩
theorem OneV.start {w1 w2 : World} (hb1 : Below w0.heap.size w0 w1) (ht : TM w2 b w1.heap.size w2.heap.size l) (hb2 : Below w1.heap.size w1 w2) : OneV w0 b w1.heap.size w2.heap.size l w2 :=
  ⟨ht, ⟨hb1.size, hb2.size, Nat.le_refl _⟩, hb1.trans (hb2.mono hb1.size)⟩
end
end Go.Proofs.Ytpjfpcebjneblaa
