/- StaticPlays over any table that keeps its contract. -/
import Derived.Test.YtilklfmcdgggfaaS10d
import Derived.Test.YtilklfmcdgggfaaActs10
import Derived.Test.YtilklfmcdgggfaaKept
import Derived.Test.YtilklfmcdgggfaaSrcRows
namespace Go.Proofs.Ytilklfmcdgggfaa
open Go.RowKit
attribute [local irreducible] wpQuiet
set_option linter.unusedSimpArgs false
set_option linter.unusedVariables false

theorem KeptO.ownS {A B base : Nat} {w w' : World} {v : Value} {l : List Se} (h : KeptO A B w w') (ho : Own w base 83 8 seC v l) (hb : B ≤ base) : Own w' base 83 8 seC v l := by
  refine ⟨ho.1, ?_⟩
  rcases ho.2 with hn | ⟨g, cap, cur, rfl, h2, h3, h4⟩
  · exact .inl hn
  · exact .inr ⟨g, cap, cur, rfl, h2, by rw [h.block g (.inr (by omega)) (Array.getElem?_eq_some_iff.1 h3).1]; exact h3, h4⟩

/-- A key, by value. -/
abbrev keyA (vid a : Nat) : Array Value := #[.int .u16 (vid : Nat), .int .u8 (byteF a 0 : Nat), .int .u8 (byteF a 1 : Nat), .int .u8 (byteF a 2 : Nat), .int .u8 (byteF a 3 : Nat), .int .u8 (byteF a 4 : Nat), .int .u8 (byteF a 5 : Nat)]
abbrev keyV (vid a : Nat) : Value := .agg (keyA vid a)
/-- What Get answers. -/
def GetS (l : List Se) (v : Nat) (e : Ending) : Prop :=
  (atK seK v l = -1 ∧ e = .returned (.tuple #[.int .u32 0, .bool false])) ∨ ∃ (k : Nat) (x : Se), atK seK v l = k ∧ l[k]? = some x ∧ e = .returned (.tuple #[.int .u32 (x.prt : Nat), .bool true])
/-- A table of entries: in this world, at this place, its blocks from A on below B, with just these. -/
structure TabS (T : World → Nat → Nat → Nat → List Se → Prop) : Prop where
  keep : ∀ {w w' b A B l}, T w b A B l → (∀ k, A ≤ k → k < B → w'.heap[k]? = w.heap[k]?) → T w' b A B l
  new : ∀ w, Calls Try.prog 28 #[] w fun e w' => ∃ b, e = .returned (.pointer (some ⟨b, 0, none⟩)) ∧ T w' b w.heap.size w'.heap.size [] ∧ Below w.heap.size w w'
  set : ∀ {w b A B l} (x : Se), seOk x → T w b A B l → A ≤ B → B ≤ w.heap.size → Calls Try.prog 33 #[.pointer (some ⟨b, 0, none⟩), seV x] w fun e w' => e = .returned (.int .i64 (setSE l x)) ∧ T w' b A B (setS l x) ∧ KeptO A B w w'
  drop : ∀ {w b A B l} (vid a : Nat), a < 281474976710656 → T w b A B l → A ≤ B → B ≤ w.heap.size → Calls Try.prog 29 #[.pointer (some ⟨b, 0, none⟩), keyV vid a] w fun e w' => e = .returned (.int .i64 (dropSE l (keyN vid a))) ∧ T w' b A B (cutK seK (keyN vid a) l) ∧ KeptO A B w w'
  get : ∀ {w b A B l} (vid a : Nat), a < 281474976710656 → T w b A B l → Calls Try.prog 31 #[.pointer (some ⟨b, 0, none⟩), keyV vid a] w fun e w' => Below w.heap.size w w' ∧ GetS l (keyN vid a) e
  list : ∀ {w b A B l}, T w b A B l → Calls Try.prog 35 #[.pointer (some ⟨b, 0, none⟩)] w fun e w' => ∃ (A : Option Addr) (c : Nat), e = .returned (.slice A l.length c) ∧ RowsAt w' A 8 seC l ∧ Below w.heap.size w w'
  none0 : ∀ w, Calls Try.prog 31 #[.pointer none, .agg #[.int .u16 0, .int .u8 0, .int .u8 0, .int .u8 0, .int .u8 0, .int .u8 0, .int .u8 0]] w fun e w' => e = .returned (.tuple #[.int .u32 0, .bool false]) ∧ Below w.heap.size w w'
  none1 : ∀ w, Calls Try.prog 33 #[.pointer none, .agg #[.int .u16 1, .int .u8 0, .int .u8 0, .int .u8 0, .int .u8 0, .int .u8 0, .int .u8 0, .int .u32 0]] w fun e w' => e = .returned (.int .i64 1) ∧ Below w.heap.size w w'
  none2 : ∀ w, Calls Try.prog 29 #[.pointer none, .agg #[.int .u16 0, .int .u8 0, .int .u8 0, .int .u8 0, .int .u8 0, .int .u8 0, .int .u8 0]] w fun e w' => e = .returned (.int .i64 1) ∧ Below w.heap.size w w'
  none3 : ∀ w, Calls Try.prog 35 #[.pointer none] w fun e w' => ∃ (A : Option Addr) (c : Nat), e = .returned (.slice A 0 c) ∧ Below w.heap.size w w'

/-- What a round finds. -/
structure Two10 (T : World → Nat → Nat → Nat → List Se → Prop) (w0 : World) (b A B : Nat) (m : Value) (l : List Se) (w : World) : Prop where
  tab : T w b A B l
  own : Own w B 83 8 seC m l
  low : w0.heap.size ≤ A ∧ A ≤ B ∧ B ≤ w.heap.size
  below : Below w0.heap.size w0 w
  few : l.length ≤ 16
  good : ∀ x ∈ l, seOk x

theorem setS_few (l : List Se) (x : Se) (h : l.length ≤ 16) : (setS l x).length ≤ 16 := by
  unfold setS
  split
  · exact h
  split
  · simpa using h
  split
  · exact h
  · rw [layK_len]; omega
theorem layK_mem {l : List Se} {x y : Se} (h : y ∈ layK seK l x) : y = x ∨ y ∈ l := by
  unfold layK at h
  rcases List.mem_append.1 h with h | h
  · rcases List.mem_append.1 h with h | h
    · exact .inr (List.mem_of_mem_take h)
    · exact .inl (by simpa using h)
  · exact .inr (List.mem_of_mem_drop h)
theorem setS_good {l : List Se} {x : Se} (h : ∀ y ∈ l, seOk y) (hx : seOk x) : ∀ y ∈ setS l x, seOk y := by
  intro y hy
  unfold setS at hy
  split at hy
  · exact h y hy
  split at hy
  · rcases List.mem_or_eq_of_mem_set hy with c | c
    · exact h y c
    · rw [c]; exact hx
  split at hy
  · exact h y hy
  · rcases layK_mem hy with c | c
    · rw [c]; exact hx
    · exact h y c
theorem cutK_good {l : List Se} {v : Nat} (h : ∀ y ∈ l, seOk y) : ∀ y ∈ cutK seK v l, seOk y := by
  intro y hy
  unfold cutK at hy
  split at hy
  · exact h y hy
  · exact h y ((List.eraseIdx_sublist _ _).mem hy)

variable {T : World → Nat → Nat → Nat → List Se → Prop} {w0 w w' : World} {b A B : Nat} {m : Value} {l : List Se}
theorem Two10.next (h : Two10 T w0 b A B m l w) (ok : TabS T) (hb : Below w.heap.size w w') : Two10 T w0 b A B m l w' :=
  ⟨ok.keep h.tab (fun k _ hk => hb.block k (by have := h.low; omega)), h.own.next hb, ⟨h.low.1, h.low.2.1, by have := h.low; have := hb.size; omega⟩, h.below.trans (hb.mono (by have := h.low; omega)), h.few, h.good⟩
theorem Two10.after (h : Two10 T w0 b A B m l w) {w3 w4 : World} {m' : Value} {l' : List Se} (ht : T w3 b A B l') (hk : KeptO A B w w3) (ho : Own w4 B 83 8 seC m' l') (hb : Below w3.heap.size w3 w4) (hf : l'.length ≤ 16) (hg : ∀ x ∈ l', seOk x) (ok : TabS T) : Two10 T w0 b A B m' l' w4 := by
  have h1 := h.low
  have h2 := hk.size
  have h3 := hb.size
  exact ⟨ok.keep ht (fun k _ hk => hb.block k (by omega)), ho, ⟨h1.1, h1.2.1, by omega⟩, (h.below.trans ((hk.below (by omega)).mono h1.1)).trans (hb.mono (by omega)), hf, hg⟩

theorem equal_e10 (x : Se) (w : World) : (Op.equalIn 10000 83 (.agg (seA x)) (.agg (seA x))).run Try.prog w = .ok true w := by
  have hS : Try.prog.underlying 83 = some (.struct (Try.prog.fieldsOf 83)) := by kernel_rfl
  have hp : Try.prog.stoodInHeld 83 = false := by kernel_rfl
  rw [show (10000 : Nat) = 9999 + 1 from rfl, run_equalIn_agg w 9999 83 _ _ hS hp]
  simp only [Program.fieldsOf, Try.underlying83]
  have u32 := Try.underlying71
  have u40 := Try.underlying30
  have e1 : ∀ W, (Op.equalIn 9999 31 (mac (byteF x.mac)) (mac (byteF x.mac))).run Try.prog W = .ok true W := fun W => by rw [equal_mac 9997 31 Try.underlying31, eqMac_self]
  go_simp

abbrev acNil10 : Array Value := #[.int .u8 0, .int .u16 0, .int .u8 0, .int .u8 0, .int .u8 0, .int .u8 0, .int .u8 0, .int .u8 0, .int .u32 0]
theorem acSize10 : (Try.prog.info? 73).map (·.size) = some 9 := by kernel_rfl

set_option maxHeartbeats 16000000 in
set_option maxRecDepth 100000 in
theorem plays10_walk (ok : TabS T) (hsp : ∀ w : World, Calls Try.prog 27 #[] w fun e w' => e = .returned (.bool true) ∧ Below w.heap.size w w') (a : Option Addr) (len cap : Nat) (acts : List Ac10) (w0 : World) (h : IsArg73 w0 a len cap acts) :
    Calls Try.prog 6 #[.slice a len cap] w0 fun e w' => e = .returned (.bool true) ∧ Below w0.heap.size w0 w' := by
  obtain ⟨hl, hr, hok, hc, hn⟩ := h
  have HL := Lib.hid hl
  have HR := Lib.hid hr
  have HOK := Lib.hid hok
  have hlc : (len : Int) ≤ 9223372036854775807 := by have := hc.1; have := hc.2; unfold maxLen at *; omega
  have HC := Lib.hid hc
  clear hl hr hok hc hn
  go_enter Try.func6, Try.ntmps6
  go_upto_region 6 with (first | (go_at_call 27; refine (hsp _).mono ?_; rintro e w1 ⟨rfl, hb1⟩) | (go_at_call 28; refine (ok.new _).mono ?_; rintro e w2 ⟨b, rfl, ht, hb2⟩))
  obtain ⟨A, hA⟩ : ∃ A, w1.heap.size = A := ⟨_, rfl⟩
  obtain ⟨B, hB⟩ : ∃ B, w2.heap.size = B := ⟨_, rfl⟩
  have I0 := Lib.hid (show Two10 T w0 b A B (.slice none 0 0) [] w2 by
    have s1 := hb1.size
    have s2 := hb2.size
    rw [hA] at s1 s2 ht hb2
    rw [hB] at s2 ht
    exact ⟨ht, Own.nil _ _ _ _ _, ⟨s1, s2, by omega⟩, hb1.trans (hb2.mono s1), by simp, by simp⟩)
  clear hb1 hb2 ht hA hB
  go_loopw [4, 5] (fun m i wr => ∃ (k : Nat) (l : List Se), k ≤ len ∧ k ≤ 60 ∧ i = .int .i64 k ∧ Two10 T w0 b A B m l wr) (fun _ i _ => (60 - intOf i).toNat)
  case atStart => exact ⟨0, [], by omega, by omega, rfl, I0.out⟩
  case round =>
    obtain ⟨k, l, hk, hk2, rfl, hI⟩ := hrel
    have HI := Lib.hid hI
    clear hI I0
    by_cases hlt : k < len ∧ k < 60
    · obtain ⟨h1, h2⟩ := hlt
      obtain ⟨x, hx⟩ : ∃ x, acts[k]? = some x := ⟨_, List.getElem?_eq_getElem (show k < acts.length by rw [HL.out]; exact h1)⟩
      have HXO := Lib.hid (HOK.out x (List.mem_of_getElem? hx))
      rcases HR.out with hnil | ⟨ab, off, rfl, hab, hcells⟩
      · rw [hnil] at hx; simp at hx
      obtain ⟨arr, harr⟩ : ∃ arr, arr = acA10 x := ⟨_, rfl⟩
      have hrg := Lib.hid (show wr.rangeAt ab (off + k * 9) arr.toList by
        intro j u hu
        rw [harr] at hu
        have q := hcells k x hx j u hu
        rw [Nat.add_assoc, (HI.out.below).cell (p := ⟨ab, off + (k * 9 + j), none⟩) hab]
        exact q)
      have hz9 := Lib.hid (show (Try.prog.info? 73).map (·.size) = some arr.size by rw [harr]; exact acSize10)
      have hzz := Lib.hid (show acNil10.size = arr.size by rw [harr]; rfl)
      have hone := Lib.hid (show arr.all (·.oneCell') = true by rw [harr]; simp [Value.oneCell'])
      have HARR := Lib.hid harr
      have hkc : k ≤ cap := by have := HC.out.1; omega
      clear hcells hx harr
      have R0 := Lib.hid (show (wr.alloc (.cells acNil10 73)).heap[wr.heap.size]? = some (.cells acNil10 73 (0, 0)) from heap_alloc_new wr _)
      have K0 := Lib.hid (show Kn wr [(wr.heap.size, arr, 73)] ((wr.alloc (.cells acNil10 73)).setRow wr.heap.size arr) from (Kn.nil wr).laid arr acNil10 73)
      go_upto_region 9 with (first
        | (refine wpList_val (.agg arr) (by rfl) (run_loadRange 73 _ rfl ab (off + k * 9) rfl arr _ hrg.out Try.underlying73 rfl hz9.out) ?_)
        | (refine wpList_store_row rfl 73 _ _ rfl wr.heap.size arr rfl rfl 73 acNil10 R0.out hz9.out hzz.out hone.out ?_))
      obtain ⟨W1, hW1⟩ : ∃ W, W = (wr.alloc (.cells acNil10 73)).setRow wr.heap.size arr := ⟨_, rfl⟩
      rw [← hW1] at K0 ⊢
      have BK1 := Lib.hid (show Blk W1 wr.heap.size (acA10 x) 73 by have := K0.out.at 0 rfl; rw [HARR.out] at this; exact this)
      obtain ⟨c, hcc⟩ : ∃ c, wr.heap.size = c := ⟨_, rfl⟩
      have HCB := Lib.hid (show B ≤ c by rw [← hcc]; exact HI.out.low.2.2)
      have J1 := Lib.hid (HI.out.next ok K0.out.below)
      rw [hcc] at BK1 ⊢
      clear hW1 K0 R0 hrg hcc HI hz9 hzz hone HARR
      have hc0 : W1.cell? ⟨c, 0, none⟩ = (acA10 x)[0]? := BK1.out.cell 0
      simp only [acA10, List.getElem?_toArray, List.getElem?_cons_succ, List.getElem?_cons_zero] at hc0
      have hc1 : W1.cell? ⟨c, 1, none⟩ = (acA10 x)[1]? := BK1.out.cell 1
      simp only [acA10, List.getElem?_toArray, List.getElem?_cons_succ, List.getElem?_cons_zero] at hc1
      have hc2 : W1.cell? ⟨c, 2, none⟩ = (acA10 x)[2]? := BK1.out.cell 2
      simp only [acA10, List.getElem?_toArray, List.getElem?_cons_succ, List.getElem?_cons_zero] at hc2
      have hc3 : W1.cell? ⟨c, 3, none⟩ = (acA10 x)[3]? := BK1.out.cell 3
      simp only [acA10, List.getElem?_toArray, List.getElem?_cons_succ, List.getElem?_cons_zero] at hc3
      have hc4 : W1.cell? ⟨c, 4, none⟩ = (acA10 x)[4]? := BK1.out.cell 4
      simp only [acA10, List.getElem?_toArray, List.getElem?_cons_succ, List.getElem?_cons_zero] at hc4
      have hc5 : W1.cell? ⟨c, 5, none⟩ = (acA10 x)[5]? := BK1.out.cell 5
      simp only [acA10, List.getElem?_toArray, List.getElem?_cons_succ, List.getElem?_cons_zero] at hc5
      have hc6 : W1.cell? ⟨c, 6, none⟩ = (acA10 x)[6]? := BK1.out.cell 6
      simp only [acA10, List.getElem?_toArray, List.getElem?_cons_succ, List.getElem?_cons_zero] at hc6
      have hc7 : W1.cell? ⟨c, 7, none⟩ = (acA10 x)[7]? := BK1.out.cell 7
      simp only [acA10, List.getElem?_toArray, List.getElem?_cons_succ, List.getElem?_cons_zero] at hc7
      have hc8 : W1.cell? ⟨c, 8, none⟩ = (acA10 x)[8]? := BK1.out.cell 8
      simp only [acA10, List.getElem?_toArray, List.getElem?_cons_succ, List.getElem?_cons_zero] at hc8
      go_upto_region 10 with fail
      obtain ⟨e, hee⟩ : ∃ e, W1.heap.size = e := ⟨_, rfl⟩
      obtain ⟨W2, hW2⟩ : ∃ W, W = W1.alloc (.cells (keyA x.vid x.mac) 36) := ⟨_, rfl⟩
      have bW := (Below.refl W1.heap.size W1).alloc (Nat.le_refl _) (.cells (keyA x.vid x.mac) 36)
      rw [← hW2] at bW
      have BK := Lib.hid (BK1.out.below bW BK1.out.lt)
      have KK := Lib.hid (show Blk W2 e (keyA x.vid x.mac) 36 by rw [← hee, hW2]; exact Blk.new _ _ _)
      have J := Lib.hid (J1.out.next ok bW)
      rw [hee]
      rw [show W1.alloc (.cells #[.int .u16 (x.vid : Nat), .int .u8 (byteF x.mac 0 : Nat), .int .u8 (byteF x.mac 1 : Nat), .int .u8 (byteF x.mac 2 : Nat), .int .u8 (byteF x.mac 3 : Nat), .int .u8 (byteF x.mac 4 : Nat), .int .u8 (byteF x.mac 5 : Nat)] 36) = W2 from hW2.symm]
      clear hc0 hc1 hc2 hc3 hc4 hc5 hc6 hc7 hc8 bW hW2 hee BK1 J1
      have hc0 : W2.cell? ⟨c, 0, none⟩ = (acA10 x)[0]? := BK.out.cell 0
      simp only [acA10, List.getElem?_toArray, List.getElem?_cons_succ, List.getElem?_cons_zero] at hc0
      have hc1 : W2.cell? ⟨c, 1, none⟩ = (acA10 x)[1]? := BK.out.cell 1
      simp only [acA10, List.getElem?_toArray, List.getElem?_cons_succ, List.getElem?_cons_zero] at hc1
      have hc2 : W2.cell? ⟨c, 2, none⟩ = (acA10 x)[2]? := BK.out.cell 2
      simp only [acA10, List.getElem?_toArray, List.getElem?_cons_succ, List.getElem?_cons_zero] at hc2
      have hc3 : W2.cell? ⟨c, 3, none⟩ = (acA10 x)[3]? := BK.out.cell 3
      simp only [acA10, List.getElem?_toArray, List.getElem?_cons_succ, List.getElem?_cons_zero] at hc3
      have hc4 : W2.cell? ⟨c, 4, none⟩ = (acA10 x)[4]? := BK.out.cell 4
      simp only [acA10, List.getElem?_toArray, List.getElem?_cons_succ, List.getElem?_cons_zero] at hc4
      have hc5 : W2.cell? ⟨c, 5, none⟩ = (acA10 x)[5]? := BK.out.cell 5
      simp only [acA10, List.getElem?_toArray, List.getElem?_cons_succ, List.getElem?_cons_zero] at hc5
      have hc6 : W2.cell? ⟨c, 6, none⟩ = (acA10 x)[6]? := BK.out.cell 6
      simp only [acA10, List.getElem?_toArray, List.getElem?_cons_succ, List.getElem?_cons_zero] at hc6
      have hc7 : W2.cell? ⟨c, 7, none⟩ = (acA10 x)[7]? := BK.out.cell 7
      simp only [acA10, List.getElem?_toArray, List.getElem?_cons_succ, List.getElem?_cons_zero] at hc7
      have hc8 : W2.cell? ⟨c, 8, none⟩ = (acA10 x)[8]? := BK.out.cell 8
      simp only [acA10, List.getElem?_toArray, List.getElem?_cons_succ, List.getElem?_cons_zero] at hc8
      have hk0 : W2.cell? ⟨e, 0, none⟩ = (keyA x.vid x.mac)[0]? := KK.out.cell 0
      simp only [keyA, List.getElem?_toArray, List.getElem?_cons_succ, List.getElem?_cons_zero] at hk0
      have hk1 : W2.cell? ⟨e, 1, none⟩ = (keyA x.vid x.mac)[1]? := KK.out.cell 1
      simp only [keyA, List.getElem?_toArray, List.getElem?_cons_succ, List.getElem?_cons_zero] at hk1
      have hk2 : W2.cell? ⟨e, 2, none⟩ = (keyA x.vid x.mac)[2]? := KK.out.cell 2
      simp only [keyA, List.getElem?_toArray, List.getElem?_cons_succ, List.getElem?_cons_zero] at hk2
      have hk3 : W2.cell? ⟨e, 3, none⟩ = (keyA x.vid x.mac)[3]? := KK.out.cell 3
      simp only [keyA, List.getElem?_toArray, List.getElem?_cons_succ, List.getElem?_cons_zero] at hk3
      have hk4 : W2.cell? ⟨e, 4, none⟩ = (keyA x.vid x.mac)[4]? := KK.out.cell 4
      simp only [keyA, List.getElem?_toArray, List.getElem?_cons_succ, List.getElem?_cons_zero] at hk4
      have hk5 : W2.cell? ⟨e, 5, none⟩ = (keyA x.vid x.mac)[5]? := KK.out.cell 5
      simp only [keyA, List.getElem?_toArray, List.getElem?_cons_succ, List.getElem?_cons_zero] at hk5
      have hk6 : W2.cell? ⟨e, 6, none⟩ = (keyA x.vid x.mac)[6]? := KK.out.cell 6
      simp only [keyA, List.getElem?_toArray, List.getElem?_cons_succ, List.getElem?_cons_zero] at hk6
      have HM := Lib.hid (show x.mac < 281474976710656 from HXO.out.2.2.1)
      obtain ⟨d, hd⟩ : ∃ d, (x.what : Int) % 5 = d := ⟨_, rfl⟩
      go_upto_region 14 with fail
      rw [hd]
      clear hd
      by_cases d3 : d = 3
      · subst d3
        go_upto_region 24 with (first
          | (go_at_call 29; refine (ok.drop x.vid x.mac HM.out J.out.tab J.out.low.2.1 J.out.low.2.2).mono ?_; rintro e3 w3 ⟨rfl, ht3, hkp3⟩
             have HKB3 := hkp3.block c (.inr HCB.out) BK.out.lt
             have hd1 : w3.cell? ⟨c, 1, none⟩ = _ := (World.cell?_of_block (w := W2) HKB3).trans hc1
             have hd2 : w3.cell? ⟨c, 2, none⟩ = _ := (World.cell?_of_block (w := W2) HKB3).trans hc2
             have hd3 : w3.cell? ⟨c, 3, none⟩ = _ := (World.cell?_of_block (w := W2) HKB3).trans hc3
             have hd4 : w3.cell? ⟨c, 4, none⟩ = _ := (World.cell?_of_block (w := W2) HKB3).trans hc4
             have hd5 : w3.cell? ⟨c, 5, none⟩ = _ := (World.cell?_of_block (w := W2) HKB3).trans hc5
             have hd6 : w3.cell? ⟨c, 6, none⟩ = _ := (World.cell?_of_block (w := W2) HKB3).trans hc6
             have hd7 : w3.cell? ⟨c, 7, none⟩ = _ := (World.cell?_of_block (w := W2) HKB3).trans hc7
             have hb3 : B ≤ w3.heap.size := Nat.le_trans J.out.low.2.2 hkp3.size
             have ho3 := Lib.hid (hkp3.ownS J.out.own (Nat.le_refl B)))
          | (go_at_call 30; refine (rdrop10_any B x.vid x.mac HM.out _ l _ ho3.out J.out.good hb3 (by have := J.out.few; omega)).mono ?_; rintro e4 w4 ⟨m', rfl, ho4, hb4⟩))
        have J2 := Lib.hid (J.out.after ht3 hkp3 ho4 hb4 (by have := cutK_len seK (keyN x.vid x.mac) l; have := J.out.few; omega) (cutK_good J.out.good) ok)
        generalize cutK seK (keyN x.vid x.mac) l = l2 at J2
        clear ht3 hkp3 ho4 hb4 ho3 HKB3 hc0 hc1 hc2 hc3 hc4 hc5 hc6 hc7 hc8 hk0 hk1 hk2 hk3 hk4 hk5 hk6 hd1 hd2 hd3 hd4 hd5 hd6 hd7
        go_upto_region 25 with (go_at_call 35; refine (ok.list J2.out.tab).mono ?_; rintro e w6 ⟨A1, c1, rfl, hrow1, hb6⟩)
        have J6 := Lib.hid (J2.out.next ok hb6)
        obtain ⟨A2, c2, hm2, hrow2⟩ := src_rows seC_len (by omega) J6.out.own.src
        cases hm2
        have HRW1 := Lib.hid hrow1
        have HRW2 := Lib.hid hrow2
        obtain ⟨n, hn⟩ : ∃ n, l2.length = n := ⟨_, rfl⟩
        rw [hn]
        have HN := Lib.hid hn
        have hn64 : (n : Int) ≤ 16 := by have := J6.out.few; omega
        clear hrow1 hrow2 hb6 hn J2
        go_upto_region 28 with fail
        go_loopw [14] (fun i wr => ∃ j : Nat, j ≤ n ∧ i = .int .i64 j ∧ Below w6.heap.size w6 wr) (fun i _ => n - (intOf i).toNat)
        case atStart => exact ⟨0, Nat.zero_le _, rfl, Below.refl _ _⟩
        case round =>
          obtain ⟨j, hj, rfl, hbw⟩ := hrel
          have HBW := Lib.hid hbw
          clear hbw
          by_cases hjn : j < n
          · obtain ⟨y, hy⟩ : ∃ y, l2[j]? = some y := ⟨_, List.getElem?_eq_getElem (show j < l2.length by rw [HN.out]; exact hjn)⟩
            rcases HRW1.out with hnil | ⟨b1, o1, rfl, hb1, hc1⟩
            · rw [hnil] at hy; simp at hy
            rcases HRW2.out with hnil | ⟨b2, o2, rfl, hb2, hc2⟩
            · rw [hnil] at hy; simp at hy
            have HC0 := Lib.hid (show ∀ w, Below w6.heap.size w6 w → w.cell? ⟨b1, o1 + j * 8, none⟩ = some (.int .u16 (y.vid : Nat)) from fun w hC => by
              rw [hC.cell (p := ⟨b1, o1 + j * 8, none⟩) hb1]
              exact hc1 j y hy 0 _ rfl)
            have HC7 := Lib.hid (show ∀ w, Below w6.heap.size w6 w → w.cell? ⟨b1, o1 + j * 8 + 7, none⟩ = some (.int .u32 (y.prt : Nat)) from fun w hC => by
              rw [hC.cell (p := ⟨b1, o1 + j * 8 + 7, none⟩) hb1]
              exact hc1 j y hy 7 _ rfl)
            have HCM := Lib.hid (show ∀ w, Below w6.heap.size w6 w → w.rangeAt b1 (o1 + j * 8 + 1) (macA (byteF y.mac)).toList from fun w hC i u hu => by
              rw [hC.cell (p := ⟨b1, o1 + j * 8 + 1 + i, none⟩) hb1]
              have q := hc1 j y hy (1 + i) u (se_mac y i u (by simpa using hu))
              rw [show o1 + (j * 8 + (1 + i)) = o1 + j * 8 + 1 + i by omega] at q
              exact q)
            have HR2 := Lib.hid (show ∀ w, Below w6.heap.size w6 w → w.rangeAt b2 (o2 + j * 8) (seA y).toList from fun w hC i u hu => by
              rw [Nat.add_assoc, hC.cell (p := ⟨b2, o2 + (j * 8 + i), none⟩) hb2]
              exact hc2 j y hy i u hu)
            have HM34 := Lib.hid (show (Try.prog.info? 34).map (·.size) = some (macA (byteF y.mac)).size by kernel_rfl)
            have EQ : ∀ W : World, (Op.equalIn 10000 83 (.agg (seA y)) (.agg (seA y))).run Try.prog W = .ok true W := equal_e10 y
            have hjn' : (j : Int) < (n : Int) := by omega
            clear hy hc1 hc2
            go_upto_region 30 with fail
            refine wp_region_quiet (C := fun w => Below w6.heap.size w6 w) (by kernel_rfl) (by kernel_rfl) HBW.out.drew ?_
            (refine q_val (v := ?_) (by rfl) ?_ ?_; rotate_left; (· (intro w hC; go_simp; try with_reducible rfl)); (try simp only [Act.put, List.getElem_toArray, List.getElem_cons_succ, List.getElem_cons_zero, List.setIfInBounds_toArray, List.set_cons_zero, List.set_cons_succ]))
            (refine q_val (v := ?_) (by rfl) ?_ ?_; rotate_left; (· (intro w hC; go_simp; try with_reducible rfl)); (try simp only [Act.put, List.getElem_toArray, List.getElem_cons_succ, List.getElem_cons_zero, List.setIfInBounds_toArray, List.set_cons_zero, List.set_cons_succ]))
            (refine q_val (v := ?_) (by rfl) ?_ ?_; rotate_left; (· (intro w hC; go_simp; try with_reducible rfl)); (try simp only [Act.put, List.getElem_toArray, List.getElem_cons_succ, List.getElem_cons_zero, List.setIfInBounds_toArray, List.set_cons_zero, List.set_cons_succ]))
            (refine q_val (v := ?_) (by rfl) ?_ ?_; rotate_left; (· (intro w hC; go_simp; try with_reducible rfl)); (try simp only [Act.put, List.getElem_toArray, List.getElem_cons_succ, List.getElem_cons_zero, List.setIfInBounds_toArray, List.set_cons_zero, List.set_cons_succ]))
            (refine q_val (v := ?_) (by rfl) ?_ ?_; rotate_left; (· (intro w hC; go_simp; try with_reducible rfl)); (try simp only [Act.put, List.getElem_toArray, List.getElem_cons_succ, List.getElem_cons_zero, List.setIfInBounds_toArray, List.set_cons_zero, List.set_cons_succ]))
            (refine q_val (v := ?_) (by rfl) ?_ ?_; rotate_left; (· (intro w hC; have q := HC0.out w hC; go_simp; try with_reducible rfl)); (try simp only [Act.put, List.getElem_toArray, List.getElem_cons_succ, List.getElem_cons_zero, List.setIfInBounds_toArray, List.set_cons_zero, List.set_cons_succ]))
            (refine q_val (v := ?_) (by rfl) ?_ ?_; rotate_left; (· (intro w hC; go_simp; try with_reducible rfl)); (try simp only [Act.put, List.getElem_toArray, List.getElem_cons_succ, List.getElem_cons_zero, List.setIfInBounds_toArray, List.set_cons_zero, List.set_cons_succ]))
            (refine q_val (v := ?_) (by rfl) ?_ ?_; rotate_left; (· (intro w hC; go_simp; try with_reducible rfl)); (try simp only [Act.put, List.getElem_toArray, List.getElem_cons_succ, List.getElem_cons_zero, List.setIfInBounds_toArray, List.set_cons_zero, List.set_cons_succ]))
            (refine q_val (v := ?_) (by rfl) ?_ ?_; rotate_left; (· (intro w hC; go_simp; try with_reducible rfl)); (try simp only [Act.put, List.getElem_toArray, List.getElem_cons_succ, List.getElem_cons_zero, List.setIfInBounds_toArray, List.set_cons_zero, List.set_cons_succ]))
            (refine q_val (v := ?_) (by rfl) ?_ ?_; rotate_left; (· (intro w hC; go_simp; try with_reducible rfl)); (try simp only [Act.put, List.getElem_toArray, List.getElem_cons_succ, List.getElem_cons_zero, List.setIfInBounds_toArray, List.set_cons_zero, List.set_cons_succ]))
            (refine q_val (v := ?_) (by rfl) ?_ ?_; rotate_left; (· (intro w hC; go_simp; try with_reducible rfl)); (try simp only [Act.put, List.getElem_toArray, List.getElem_cons_succ, List.getElem_cons_zero, List.setIfInBounds_toArray, List.set_cons_zero, List.set_cons_succ]))
            (refine q_val (v := .agg (macA (byteF y.mac))) (by rfl) (fun w hC => run_loadRange 34 _ rfl b1 (o1 + j * 8 + 1) rfl (macA (byteF y.mac)) _ (HCM.out w hC) Try.underlying34 rfl HM34.out) ?_; (try simp only [Act.put, List.getElem_toArray, List.getElem_cons_succ, List.getElem_cons_zero, List.setIfInBounds_toArray, List.set_cons_zero, List.set_cons_succ]))
            (refine q_val (v := ?_) (by rfl) ?_ ?_; rotate_left; (· (intro w hC; go_simp; try with_reducible rfl)); (try simp only [Act.put, List.getElem_toArray, List.getElem_cons_succ, List.getElem_cons_zero, List.setIfInBounds_toArray, List.set_cons_zero, List.set_cons_succ]))
            (refine q_val (v := ?_) (by rfl) ?_ ?_; rotate_left; (· (intro w hC; go_simp; try with_reducible rfl)); (try simp only [Act.put, List.getElem_toArray, List.getElem_cons_succ, List.getElem_cons_zero, List.setIfInBounds_toArray, List.set_cons_zero, List.set_cons_succ]))
            (refine q_val (v := ?_) (by rfl) ?_ ?_; rotate_left; (· (intro w hC; go_simp; try with_reducible rfl)); (try simp only [Act.put, List.getElem_toArray, List.getElem_cons_succ, List.getElem_cons_zero, List.setIfInBounds_toArray, List.set_cons_zero, List.set_cons_succ]))
            (refine q_val (v := ?_) (by rfl) ?_ ?_; rotate_left; (· (intro w hC; go_simp; try with_reducible rfl)); (try simp only [Act.put, List.getElem_toArray, List.getElem_cons_succ, List.getElem_cons_zero, List.setIfInBounds_toArray, List.set_cons_zero, List.set_cons_succ]))
            (refine q_val (v := ?_) (by rfl) ?_ ?_; rotate_left; (· (intro w hC; have q := HC7.out w hC; go_simp; try with_reducible rfl)); (try simp only [Act.put, List.getElem_toArray, List.getElem_cons_succ, List.getElem_cons_zero, List.setIfInBounds_toArray, List.set_cons_zero, List.set_cons_succ]))
            (refine q_val (v := ?_) (by rfl) ?_ ?_; rotate_left; (· (intro w hC; go_simp; try with_reducible rfl)); (try simp only [Act.put, List.getElem_toArray, List.getElem_cons_succ, List.getElem_cons_zero, List.setIfInBounds_toArray, List.set_cons_zero, List.set_cons_succ]))
            (refine q_val (v := ?_) (by rfl) ?_ ?_; rotate_left; (· (intro w hC; go_simp; try with_reducible rfl)); (try simp only [Act.put, List.getElem_toArray, List.getElem_cons_succ, List.getElem_cons_zero, List.setIfInBounds_toArray, List.set_cons_zero, List.set_cons_succ]))
            (refine q_val (v := ?_) (by rfl) ?_ ?_; rotate_left; (· (intro w hC; go_simp; try with_reducible rfl)); (try simp only [Act.put, List.getElem_toArray, List.getElem_cons_succ, List.getElem_cons_zero, List.setIfInBounds_toArray, List.set_cons_zero, List.set_cons_succ]))
            (refine q_val (v := ?_) (by rfl) ?_ ?_; rotate_left; (· (intro w hC; go_simp; try with_reducible rfl)); (try simp only [Act.put, List.getElem_toArray, List.getElem_cons_succ, List.getElem_cons_zero, List.setIfInBounds_toArray, List.set_cons_zero, List.set_cons_succ]))
            (refine q_val (v := .agg (seA y)) (by rfl) (fun w hC => run_loadRange 83 _ rfl b2 (o2 + j * 8) rfl (seA y) _ (HR2.out w hC) Try.underlying83 rfl seinfo) ?_; (try simp only [Act.put, List.getElem_toArray, List.getElem_cons_succ, List.getElem_cons_zero, List.setIfInBounds_toArray, List.set_cons_zero, List.set_cons_succ]))
            (refine q_val (v := ?_) (by rfl) ?_ ?_; rotate_left; (· (intro w hC; have q := EQ; go_simp; try with_reducible rfl)); (try simp only [Act.put, List.getElem_toArray, List.getElem_cons_succ, List.getElem_cons_zero, List.setIfInBounds_toArray, List.set_cons_zero, List.set_cons_succ]))
            refine wpQuiet_nil ?_
            intro w8 hC8
            have HB8 := Lib.hid hC8
            clear hC8
            go_wp2_with fail
            go_roundw
            case rel => exact ⟨j + 1, by omega, by go_num, HB8.out⟩
            case measure => simp [intOf]; omega
          · have hjn' : ¬ (j : Int) < (n : Int) := by omega
            clear hjn
            have J9 := Lib.hid (J6.out.next ok HBW.out)
            go_wp2_with fail
            go_roundw
            case rel => exact ⟨k + 1, l2, by omega, by omega, by go_num, by (have q := J9.out; rw [HN.out] at q; exact q)⟩
            case measure => simp [intOf]; omega
      by_cases d4 : d = 4
      · subst d4
        have hget := ok.get x.vid x.mac HM.out J.out.tab
        rcases atK_cases seK (keyN x.vid x.mac) l with ⟨g1, -⟩ | ⟨j0, y0, g1, g2, -⟩
        · have hg : Calls Try.prog 31 #[.pointer (some ⟨b, 0, none⟩), keyV x.vid x.mac] W2 fun e w' => e = .returned (.tuple #[.int .u32 0, .bool false]) ∧ Below W2.heap.size W2 w' := hget.mono fun e w' ⟨hb, hr⟩ => by
            rcases hr with ⟨-, he⟩ | ⟨k, y, q, -, -⟩
            · exact ⟨he, hb⟩
            · rw [g1] at q; omega
          have HG := Lib.hid hg
          have G1 := Lib.hid g1
          clear hget hg g1
          go_upto_region 20 with (first
            | (go_at_call 31; refine HG.out.mono ?_; rintro e3 w3 ⟨rfl, hb3⟩
               have HKB3 := hb3.block c BK.out.lt
               have hd1 : w3.cell? ⟨c, 1, none⟩ = _ := (World.cell?_of_block (w := W2) HKB3).trans hc1
               have hd2 : w3.cell? ⟨c, 2, none⟩ = _ := (World.cell?_of_block (w := W2) HKB3).trans hc2
               have hd3 : w3.cell? ⟨c, 3, none⟩ = _ := (World.cell?_of_block (w := W2) HKB3).trans hc3
               have hd4 : w3.cell? ⟨c, 4, none⟩ = _ := (World.cell?_of_block (w := W2) HKB3).trans hc4
               have hd5 : w3.cell? ⟨c, 5, none⟩ = _ := (World.cell?_of_block (w := W2) HKB3).trans hc5
               have hd6 : w3.cell? ⟨c, 6, none⟩ = _ := (World.cell?_of_block (w := W2) HKB3).trans hc6
               have hd7 : w3.cell? ⟨c, 7, none⟩ = _ := (World.cell?_of_block (w := W2) HKB3).trans hc7
               have J3 := Lib.hid (J.out.next ok hb3))
            | (go_at_call 32; refine (rat10_any B x.vid x.mac HM.out _ l _ J3.out.own J3.out.good (by have := J3.out.few; omega)).mono ?_; rintro e4 w4 ⟨rfl, hb4⟩; rw [G1.out]))
          have J2 := Lib.hid (J3.out.next ok hb4)
          clear hb3 hb4 HKB3 hc0 hc1 hc2 hc3 hc4 hc5 hc6 hc7 hc8 hk0 hk1 hk2 hk3 hk4 hk5 hk6 hd1 hd2 hd3 hd4 hd5 hd6 hd7 J3
          go_upto_region 24 with fail
          go_upto_region 25 with (go_at_call 35; refine (ok.list J2.out.tab).mono ?_; rintro e w6 ⟨A1, c1, rfl, hrow1, hb6⟩)
          have J6 := Lib.hid (J2.out.next ok hb6)
          obtain ⟨A2, c2, hm2, hrow2⟩ := src_rows seC_len (by omega) J6.out.own.src
          cases hm2
          have HRW1 := Lib.hid hrow1
          have HRW2 := Lib.hid hrow2
          obtain ⟨n, hn⟩ : ∃ n, l.length = n := ⟨_, rfl⟩
          rw [hn]
          have HN := Lib.hid hn
          have hn64 : (n : Int) ≤ 16 := by have := J6.out.few; omega
          clear hrow1 hrow2 hb6 hn J2
          go_upto_region 28 with fail
          go_loopw [14] (fun i wr => ∃ j : Nat, j ≤ n ∧ i = .int .i64 j ∧ Below w6.heap.size w6 wr) (fun i _ => n - (intOf i).toNat)
          case atStart => exact ⟨0, Nat.zero_le _, rfl, Below.refl _ _⟩
          case round =>
            obtain ⟨j, hj, rfl, hbw⟩ := hrel
            have HBW := Lib.hid hbw
            clear hbw
            by_cases hjn : j < n
            · obtain ⟨y, hy⟩ : ∃ y, l[j]? = some y := ⟨_, List.getElem?_eq_getElem (show j < l.length by rw [HN.out]; exact hjn)⟩
              rcases HRW1.out with hnil | ⟨b1, o1, rfl, hb1, hc1⟩
              · rw [hnil] at hy; simp at hy
              rcases HRW2.out with hnil | ⟨b2, o2, rfl, hb2, hc2⟩
              · rw [hnil] at hy; simp at hy
              have HC0 := Lib.hid (show ∀ w, Below w6.heap.size w6 w → w.cell? ⟨b1, o1 + j * 8, none⟩ = some (.int .u16 (y.vid : Nat)) from fun w hC => by
                rw [hC.cell (p := ⟨b1, o1 + j * 8, none⟩) hb1]
                exact hc1 j y hy 0 _ rfl)
              have HC7 := Lib.hid (show ∀ w, Below w6.heap.size w6 w → w.cell? ⟨b1, o1 + j * 8 + 7, none⟩ = some (.int .u32 (y.prt : Nat)) from fun w hC => by
                rw [hC.cell (p := ⟨b1, o1 + j * 8 + 7, none⟩) hb1]
                exact hc1 j y hy 7 _ rfl)
              have HCM := Lib.hid (show ∀ w, Below w6.heap.size w6 w → w.rangeAt b1 (o1 + j * 8 + 1) (macA (byteF y.mac)).toList from fun w hC i u hu => by
                rw [hC.cell (p := ⟨b1, o1 + j * 8 + 1 + i, none⟩) hb1]
                have q := hc1 j y hy (1 + i) u (se_mac y i u (by simpa using hu))
                rw [show o1 + (j * 8 + (1 + i)) = o1 + j * 8 + 1 + i by omega] at q
                exact q)
              have HR2 := Lib.hid (show ∀ w, Below w6.heap.size w6 w → w.rangeAt b2 (o2 + j * 8) (seA y).toList from fun w hC i u hu => by
                rw [Nat.add_assoc, hC.cell (p := ⟨b2, o2 + (j * 8 + i), none⟩) hb2]
                exact hc2 j y hy i u hu)
              have HM34 := Lib.hid (show (Try.prog.info? 34).map (·.size) = some (macA (byteF y.mac)).size by kernel_rfl)
              have EQ : ∀ W : World, (Op.equalIn 10000 83 (.agg (seA y)) (.agg (seA y))).run Try.prog W = .ok true W := equal_e10 y
              have hjn' : (j : Int) < (n : Int) := by omega
              clear hy hc1 hc2
              go_upto_region 30 with fail
              refine wp_region_quiet (C := fun w => Below w6.heap.size w6 w) (by kernel_rfl) (by kernel_rfl) HBW.out.drew ?_
              (refine q_val (v := ?_) (by rfl) ?_ ?_; rotate_left; (· (intro w hC; go_simp; try with_reducible rfl)); (try simp only [Act.put, List.getElem_toArray, List.getElem_cons_succ, List.getElem_cons_zero, List.setIfInBounds_toArray, List.set_cons_zero, List.set_cons_succ]))
              (refine q_val (v := ?_) (by rfl) ?_ ?_; rotate_left; (· (intro w hC; go_simp; try with_reducible rfl)); (try simp only [Act.put, List.getElem_toArray, List.getElem_cons_succ, List.getElem_cons_zero, List.setIfInBounds_toArray, List.set_cons_zero, List.set_cons_succ]))
              (refine q_val (v := ?_) (by rfl) ?_ ?_; rotate_left; (· (intro w hC; go_simp; try with_reducible rfl)); (try simp only [Act.put, List.getElem_toArray, List.getElem_cons_succ, List.getElem_cons_zero, List.setIfInBounds_toArray, List.set_cons_zero, List.set_cons_succ]))
              (refine q_val (v := ?_) (by rfl) ?_ ?_; rotate_left; (· (intro w hC; go_simp; try with_reducible rfl)); (try simp only [Act.put, List.getElem_toArray, List.getElem_cons_succ, List.getElem_cons_zero, List.setIfInBounds_toArray, List.set_cons_zero, List.set_cons_succ]))
              (refine q_val (v := ?_) (by rfl) ?_ ?_; rotate_left; (· (intro w hC; go_simp; try with_reducible rfl)); (try simp only [Act.put, List.getElem_toArray, List.getElem_cons_succ, List.getElem_cons_zero, List.setIfInBounds_toArray, List.set_cons_zero, List.set_cons_succ]))
              (refine q_val (v := ?_) (by rfl) ?_ ?_; rotate_left; (· (intro w hC; have q := HC0.out w hC; go_simp; try with_reducible rfl)); (try simp only [Act.put, List.getElem_toArray, List.getElem_cons_succ, List.getElem_cons_zero, List.setIfInBounds_toArray, List.set_cons_zero, List.set_cons_succ]))
              (refine q_val (v := ?_) (by rfl) ?_ ?_; rotate_left; (· (intro w hC; go_simp; try with_reducible rfl)); (try simp only [Act.put, List.getElem_toArray, List.getElem_cons_succ, List.getElem_cons_zero, List.setIfInBounds_toArray, List.set_cons_zero, List.set_cons_succ]))
              (refine q_val (v := ?_) (by rfl) ?_ ?_; rotate_left; (· (intro w hC; go_simp; try with_reducible rfl)); (try simp only [Act.put, List.getElem_toArray, List.getElem_cons_succ, List.getElem_cons_zero, List.setIfInBounds_toArray, List.set_cons_zero, List.set_cons_succ]))
              (refine q_val (v := ?_) (by rfl) ?_ ?_; rotate_left; (· (intro w hC; go_simp; try with_reducible rfl)); (try simp only [Act.put, List.getElem_toArray, List.getElem_cons_succ, List.getElem_cons_zero, List.setIfInBounds_toArray, List.set_cons_zero, List.set_cons_succ]))
              (refine q_val (v := ?_) (by rfl) ?_ ?_; rotate_left; (· (intro w hC; go_simp; try with_reducible rfl)); (try simp only [Act.put, List.getElem_toArray, List.getElem_cons_succ, List.getElem_cons_zero, List.setIfInBounds_toArray, List.set_cons_zero, List.set_cons_succ]))
              (refine q_val (v := ?_) (by rfl) ?_ ?_; rotate_left; (· (intro w hC; go_simp; try with_reducible rfl)); (try simp only [Act.put, List.getElem_toArray, List.getElem_cons_succ, List.getElem_cons_zero, List.setIfInBounds_toArray, List.set_cons_zero, List.set_cons_succ]))
              (refine q_val (v := .agg (macA (byteF y.mac))) (by rfl) (fun w hC => run_loadRange 34 _ rfl b1 (o1 + j * 8 + 1) rfl (macA (byteF y.mac)) _ (HCM.out w hC) Try.underlying34 rfl HM34.out) ?_; (try simp only [Act.put, List.getElem_toArray, List.getElem_cons_succ, List.getElem_cons_zero, List.setIfInBounds_toArray, List.set_cons_zero, List.set_cons_succ]))
              (refine q_val (v := ?_) (by rfl) ?_ ?_; rotate_left; (· (intro w hC; go_simp; try with_reducible rfl)); (try simp only [Act.put, List.getElem_toArray, List.getElem_cons_succ, List.getElem_cons_zero, List.setIfInBounds_toArray, List.set_cons_zero, List.set_cons_succ]))
              (refine q_val (v := ?_) (by rfl) ?_ ?_; rotate_left; (· (intro w hC; go_simp; try with_reducible rfl)); (try simp only [Act.put, List.getElem_toArray, List.getElem_cons_succ, List.getElem_cons_zero, List.setIfInBounds_toArray, List.set_cons_zero, List.set_cons_succ]))
              (refine q_val (v := ?_) (by rfl) ?_ ?_; rotate_left; (· (intro w hC; go_simp; try with_reducible rfl)); (try simp only [Act.put, List.getElem_toArray, List.getElem_cons_succ, List.getElem_cons_zero, List.setIfInBounds_toArray, List.set_cons_zero, List.set_cons_succ]))
              (refine q_val (v := ?_) (by rfl) ?_ ?_; rotate_left; (· (intro w hC; go_simp; try with_reducible rfl)); (try simp only [Act.put, List.getElem_toArray, List.getElem_cons_succ, List.getElem_cons_zero, List.setIfInBounds_toArray, List.set_cons_zero, List.set_cons_succ]))
              (refine q_val (v := ?_) (by rfl) ?_ ?_; rotate_left; (· (intro w hC; have q := HC7.out w hC; go_simp; try with_reducible rfl)); (try simp only [Act.put, List.getElem_toArray, List.getElem_cons_succ, List.getElem_cons_zero, List.setIfInBounds_toArray, List.set_cons_zero, List.set_cons_succ]))
              (refine q_val (v := ?_) (by rfl) ?_ ?_; rotate_left; (· (intro w hC; go_simp; try with_reducible rfl)); (try simp only [Act.put, List.getElem_toArray, List.getElem_cons_succ, List.getElem_cons_zero, List.setIfInBounds_toArray, List.set_cons_zero, List.set_cons_succ]))
              (refine q_val (v := ?_) (by rfl) ?_ ?_; rotate_left; (· (intro w hC; go_simp; try with_reducible rfl)); (try simp only [Act.put, List.getElem_toArray, List.getElem_cons_succ, List.getElem_cons_zero, List.setIfInBounds_toArray, List.set_cons_zero, List.set_cons_succ]))
              (refine q_val (v := ?_) (by rfl) ?_ ?_; rotate_left; (· (intro w hC; go_simp; try with_reducible rfl)); (try simp only [Act.put, List.getElem_toArray, List.getElem_cons_succ, List.getElem_cons_zero, List.setIfInBounds_toArray, List.set_cons_zero, List.set_cons_succ]))
              (refine q_val (v := ?_) (by rfl) ?_ ?_; rotate_left; (· (intro w hC; go_simp; try with_reducible rfl)); (try simp only [Act.put, List.getElem_toArray, List.getElem_cons_succ, List.getElem_cons_zero, List.setIfInBounds_toArray, List.set_cons_zero, List.set_cons_succ]))
              (refine q_val (v := .agg (seA y)) (by rfl) (fun w hC => run_loadRange 83 _ rfl b2 (o2 + j * 8) rfl (seA y) _ (HR2.out w hC) Try.underlying83 rfl seinfo) ?_; (try simp only [Act.put, List.getElem_toArray, List.getElem_cons_succ, List.getElem_cons_zero, List.setIfInBounds_toArray, List.set_cons_zero, List.set_cons_succ]))
              (refine q_val (v := ?_) (by rfl) ?_ ?_; rotate_left; (· (intro w hC; have q := EQ; go_simp; try with_reducible rfl)); (try simp only [Act.put, List.getElem_toArray, List.getElem_cons_succ, List.getElem_cons_zero, List.setIfInBounds_toArray, List.set_cons_zero, List.set_cons_succ]))
              refine wpQuiet_nil ?_
              intro w8 hC8
              have HB8 := Lib.hid hC8
              clear hC8
              go_wp2_with fail
              go_roundw
              case rel => exact ⟨j + 1, by omega, by go_num, HB8.out⟩
              case measure => simp [intOf]; omega
            · have hjn' : ¬ (j : Int) < (n : Int) := by omega
              clear hjn
              have J9 := Lib.hid (J6.out.next ok HBW.out)
              go_wp2_with fail
              go_roundw
              case rel => exact ⟨k + 1, l, by omega, by omega, by go_num, by (have q := J9.out; rw [HN.out] at q; exact q)⟩
              case measure => simp [intOf]; omega
        · have hjl := (List.getElem?_eq_some_iff.1 g2).1
          have hg : Calls Try.prog 31 #[.pointer (some ⟨b, 0, none⟩), keyV x.vid x.mac] W2 fun e w' => e = .returned (.tuple #[.int .u32 (y0.prt : Nat), .bool true]) ∧ Below W2.heap.size W2 w' := hget.mono fun e w' ⟨hb, hr⟩ => by
            rcases hr with ⟨q, -⟩ | ⟨k, y, q, q2, he⟩
            · rw [g1] at q; omega
            · have : k = j0 := by rw [g1] at q; omega
              subst this
              rw [g2] at q2
              cases q2
              exact ⟨he, hb⟩
          have HG := Lib.hid hg
          have G1 := Lib.hid g1
          have HY := Lib.hid g2
          clear hget hg g1 g2
          rcases J.out.own.cases with ⟨-, rfl⟩ | ⟨g, cp, rfl, -, -, hcl, hcm⟩
          · simp at hjl
          have hjn : (j0 : Int) < (l.length : Int) := by omega
          have hjc : j0 ≤ cp := by omega
          go_upto_region 20 with (first
            | (go_at_call 31; refine HG.out.mono ?_; rintro e3 w3 ⟨rfl, hb3⟩
               have HKB3 := hb3.block c BK.out.lt
               have hd1 : w3.cell? ⟨c, 1, none⟩ = _ := (World.cell?_of_block (w := W2) HKB3).trans hc1
               have hd2 : w3.cell? ⟨c, 2, none⟩ = _ := (World.cell?_of_block (w := W2) HKB3).trans hc2
               have hd3 : w3.cell? ⟨c, 3, none⟩ = _ := (World.cell?_of_block (w := W2) HKB3).trans hc3
               have hd4 : w3.cell? ⟨c, 4, none⟩ = _ := (World.cell?_of_block (w := W2) HKB3).trans hc4
               have hd5 : w3.cell? ⟨c, 5, none⟩ = _ := (World.cell?_of_block (w := W2) HKB3).trans hc5
               have hd6 : w3.cell? ⟨c, 6, none⟩ = _ := (World.cell?_of_block (w := W2) HKB3).trans hc6
               have hd7 : w3.cell? ⟨c, 7, none⟩ = _ := (World.cell?_of_block (w := W2) HKB3).trans hc7
               have J3 := Lib.hid (J.out.next ok hb3))
            | (go_at_call 32; refine (rat10_any B x.vid x.mac HM.out _ l _ J3.out.own J3.out.good (by have := J3.out.few; omega)).mono ?_; rintro e4 w4 ⟨rfl, hb4⟩; rw [G1.out]))
          have J2 := Lib.hid (J3.out.next ok hb4)
          have hy7 : w4.cell? ⟨g, j0 * 8 + 7, none⟩ = some (.int .u32 (y0.prt : Nat)) := Own.at seC_len J2.out.own j0 7 y0 HY.out (by omega)
          clear hb3 hb4 HKB3 hc0 hc1 hc2 hc3 hc4 hc5 hc6 hc7 hc8 hk0 hk1 hk2 hk3 hk4 hk5 hk6 hd1 hd2 hd3 hd4 hd5 hd6 hd7 J3
          go_upto_region 24 with fail
          clear hy7 hjn hjc hjl hcl hcm
          obtain ⟨m9, hm9⟩ : ∃ m, m = Value.slice (some ⟨g, 0, none⟩) l.length cp := ⟨_, rfl⟩
          rw [← hm9] at J2 ⊢
          clear hm9
          go_upto_region 25 with (go_at_call 35; refine (ok.list J2.out.tab).mono ?_; rintro e w6 ⟨A1, c1, rfl, hrow1, hb6⟩)
          have J6 := Lib.hid (J2.out.next ok hb6)
          obtain ⟨A2, c2, hm2, hrow2⟩ := src_rows seC_len (by omega) J6.out.own.src
          cases hm2
          have HRW1 := Lib.hid hrow1
          have HRW2 := Lib.hid hrow2
          obtain ⟨n, hn⟩ : ∃ n, l.length = n := ⟨_, rfl⟩
          rw [hn]
          have HN := Lib.hid hn
          have hn64 : (n : Int) ≤ 16 := by have := J6.out.few; omega
          clear hrow1 hrow2 hb6 hn J2
          go_upto_region 28 with fail
          go_loopw [14] (fun i wr => ∃ j : Nat, j ≤ n ∧ i = .int .i64 j ∧ Below w6.heap.size w6 wr) (fun i _ => n - (intOf i).toNat)
          case atStart => exact ⟨0, Nat.zero_le _, rfl, Below.refl _ _⟩
          case round =>
            obtain ⟨j, hj, rfl, hbw⟩ := hrel
            have HBW := Lib.hid hbw
            clear hbw
            by_cases hjn : j < n
            · obtain ⟨y, hy⟩ : ∃ y, l[j]? = some y := ⟨_, List.getElem?_eq_getElem (show j < l.length by rw [HN.out]; exact hjn)⟩
              rcases HRW1.out with hnil | ⟨b1, o1, rfl, hb1, hc1⟩
              · rw [hnil] at hy; simp at hy
              rcases HRW2.out with hnil | ⟨b2, o2, rfl, hb2, hc2⟩
              · rw [hnil] at hy; simp at hy
              have HC0 := Lib.hid (show ∀ w, Below w6.heap.size w6 w → w.cell? ⟨b1, o1 + j * 8, none⟩ = some (.int .u16 (y.vid : Nat)) from fun w hC => by
                rw [hC.cell (p := ⟨b1, o1 + j * 8, none⟩) hb1]
                exact hc1 j y hy 0 _ rfl)
              have HC7 := Lib.hid (show ∀ w, Below w6.heap.size w6 w → w.cell? ⟨b1, o1 + j * 8 + 7, none⟩ = some (.int .u32 (y.prt : Nat)) from fun w hC => by
                rw [hC.cell (p := ⟨b1, o1 + j * 8 + 7, none⟩) hb1]
                exact hc1 j y hy 7 _ rfl)
              have HCM := Lib.hid (show ∀ w, Below w6.heap.size w6 w → w.rangeAt b1 (o1 + j * 8 + 1) (macA (byteF y.mac)).toList from fun w hC i u hu => by
                rw [hC.cell (p := ⟨b1, o1 + j * 8 + 1 + i, none⟩) hb1]
                have q := hc1 j y hy (1 + i) u (se_mac y i u (by simpa using hu))
                rw [show o1 + (j * 8 + (1 + i)) = o1 + j * 8 + 1 + i by omega] at q
                exact q)
              have HR2 := Lib.hid (show ∀ w, Below w6.heap.size w6 w → w.rangeAt b2 (o2 + j * 8) (seA y).toList from fun w hC i u hu => by
                rw [Nat.add_assoc, hC.cell (p := ⟨b2, o2 + (j * 8 + i), none⟩) hb2]
                exact hc2 j y hy i u hu)
              have HM34 := Lib.hid (show (Try.prog.info? 34).map (·.size) = some (macA (byteF y.mac)).size by kernel_rfl)
              have EQ : ∀ W : World, (Op.equalIn 10000 83 (.agg (seA y)) (.agg (seA y))).run Try.prog W = .ok true W := equal_e10 y
              have hjn' : (j : Int) < (n : Int) := by omega
              clear hy hc1 hc2
              go_upto_region 30 with fail
              refine wp_region_quiet (C := fun w => Below w6.heap.size w6 w) (by kernel_rfl) (by kernel_rfl) HBW.out.drew ?_
              (refine q_val (v := ?_) (by rfl) ?_ ?_; rotate_left; (· (intro w hC; go_simp; try with_reducible rfl)); (try simp only [Act.put, List.getElem_toArray, List.getElem_cons_succ, List.getElem_cons_zero, List.setIfInBounds_toArray, List.set_cons_zero, List.set_cons_succ]))
              (refine q_val (v := ?_) (by rfl) ?_ ?_; rotate_left; (· (intro w hC; go_simp; try with_reducible rfl)); (try simp only [Act.put, List.getElem_toArray, List.getElem_cons_succ, List.getElem_cons_zero, List.setIfInBounds_toArray, List.set_cons_zero, List.set_cons_succ]))
              (refine q_val (v := ?_) (by rfl) ?_ ?_; rotate_left; (· (intro w hC; go_simp; try with_reducible rfl)); (try simp only [Act.put, List.getElem_toArray, List.getElem_cons_succ, List.getElem_cons_zero, List.setIfInBounds_toArray, List.set_cons_zero, List.set_cons_succ]))
              (refine q_val (v := ?_) (by rfl) ?_ ?_; rotate_left; (· (intro w hC; go_simp; try with_reducible rfl)); (try simp only [Act.put, List.getElem_toArray, List.getElem_cons_succ, List.getElem_cons_zero, List.setIfInBounds_toArray, List.set_cons_zero, List.set_cons_succ]))
              (refine q_val (v := ?_) (by rfl) ?_ ?_; rotate_left; (· (intro w hC; go_simp; try with_reducible rfl)); (try simp only [Act.put, List.getElem_toArray, List.getElem_cons_succ, List.getElem_cons_zero, List.setIfInBounds_toArray, List.set_cons_zero, List.set_cons_succ]))
              (refine q_val (v := ?_) (by rfl) ?_ ?_; rotate_left; (· (intro w hC; have q := HC0.out w hC; go_simp; try with_reducible rfl)); (try simp only [Act.put, List.getElem_toArray, List.getElem_cons_succ, List.getElem_cons_zero, List.setIfInBounds_toArray, List.set_cons_zero, List.set_cons_succ]))
              (refine q_val (v := ?_) (by rfl) ?_ ?_; rotate_left; (· (intro w hC; go_simp; try with_reducible rfl)); (try simp only [Act.put, List.getElem_toArray, List.getElem_cons_succ, List.getElem_cons_zero, List.setIfInBounds_toArray, List.set_cons_zero, List.set_cons_succ]))
              (refine q_val (v := ?_) (by rfl) ?_ ?_; rotate_left; (· (intro w hC; go_simp; try with_reducible rfl)); (try simp only [Act.put, List.getElem_toArray, List.getElem_cons_succ, List.getElem_cons_zero, List.setIfInBounds_toArray, List.set_cons_zero, List.set_cons_succ]))
              (refine q_val (v := ?_) (by rfl) ?_ ?_; rotate_left; (· (intro w hC; go_simp; try with_reducible rfl)); (try simp only [Act.put, List.getElem_toArray, List.getElem_cons_succ, List.getElem_cons_zero, List.setIfInBounds_toArray, List.set_cons_zero, List.set_cons_succ]))
              (refine q_val (v := ?_) (by rfl) ?_ ?_; rotate_left; (· (intro w hC; go_simp; try with_reducible rfl)); (try simp only [Act.put, List.getElem_toArray, List.getElem_cons_succ, List.getElem_cons_zero, List.setIfInBounds_toArray, List.set_cons_zero, List.set_cons_succ]))
              (refine q_val (v := ?_) (by rfl) ?_ ?_; rotate_left; (· (intro w hC; go_simp; try with_reducible rfl)); (try simp only [Act.put, List.getElem_toArray, List.getElem_cons_succ, List.getElem_cons_zero, List.setIfInBounds_toArray, List.set_cons_zero, List.set_cons_succ]))
              (refine q_val (v := .agg (macA (byteF y.mac))) (by rfl) (fun w hC => run_loadRange 34 _ rfl b1 (o1 + j * 8 + 1) rfl (macA (byteF y.mac)) _ (HCM.out w hC) Try.underlying34 rfl HM34.out) ?_; (try simp only [Act.put, List.getElem_toArray, List.getElem_cons_succ, List.getElem_cons_zero, List.setIfInBounds_toArray, List.set_cons_zero, List.set_cons_succ]))
              (refine q_val (v := ?_) (by rfl) ?_ ?_; rotate_left; (· (intro w hC; go_simp; try with_reducible rfl)); (try simp only [Act.put, List.getElem_toArray, List.getElem_cons_succ, List.getElem_cons_zero, List.setIfInBounds_toArray, List.set_cons_zero, List.set_cons_succ]))
              (refine q_val (v := ?_) (by rfl) ?_ ?_; rotate_left; (· (intro w hC; go_simp; try with_reducible rfl)); (try simp only [Act.put, List.getElem_toArray, List.getElem_cons_succ, List.getElem_cons_zero, List.setIfInBounds_toArray, List.set_cons_zero, List.set_cons_succ]))
              (refine q_val (v := ?_) (by rfl) ?_ ?_; rotate_left; (· (intro w hC; go_simp; try with_reducible rfl)); (try simp only [Act.put, List.getElem_toArray, List.getElem_cons_succ, List.getElem_cons_zero, List.setIfInBounds_toArray, List.set_cons_zero, List.set_cons_succ]))
              (refine q_val (v := ?_) (by rfl) ?_ ?_; rotate_left; (· (intro w hC; go_simp; try with_reducible rfl)); (try simp only [Act.put, List.getElem_toArray, List.getElem_cons_succ, List.getElem_cons_zero, List.setIfInBounds_toArray, List.set_cons_zero, List.set_cons_succ]))
              (refine q_val (v := ?_) (by rfl) ?_ ?_; rotate_left; (· (intro w hC; have q := HC7.out w hC; go_simp; try with_reducible rfl)); (try simp only [Act.put, List.getElem_toArray, List.getElem_cons_succ, List.getElem_cons_zero, List.setIfInBounds_toArray, List.set_cons_zero, List.set_cons_succ]))
              (refine q_val (v := ?_) (by rfl) ?_ ?_; rotate_left; (· (intro w hC; go_simp; try with_reducible rfl)); (try simp only [Act.put, List.getElem_toArray, List.getElem_cons_succ, List.getElem_cons_zero, List.setIfInBounds_toArray, List.set_cons_zero, List.set_cons_succ]))
              (refine q_val (v := ?_) (by rfl) ?_ ?_; rotate_left; (· (intro w hC; go_simp; try with_reducible rfl)); (try simp only [Act.put, List.getElem_toArray, List.getElem_cons_succ, List.getElem_cons_zero, List.setIfInBounds_toArray, List.set_cons_zero, List.set_cons_succ]))
              (refine q_val (v := ?_) (by rfl) ?_ ?_; rotate_left; (· (intro w hC; go_simp; try with_reducible rfl)); (try simp only [Act.put, List.getElem_toArray, List.getElem_cons_succ, List.getElem_cons_zero, List.setIfInBounds_toArray, List.set_cons_zero, List.set_cons_succ]))
              (refine q_val (v := ?_) (by rfl) ?_ ?_; rotate_left; (· (intro w hC; go_simp; try with_reducible rfl)); (try simp only [Act.put, List.getElem_toArray, List.getElem_cons_succ, List.getElem_cons_zero, List.setIfInBounds_toArray, List.set_cons_zero, List.set_cons_succ]))
              (refine q_val (v := .agg (seA y)) (by rfl) (fun w hC => run_loadRange 83 _ rfl b2 (o2 + j * 8) rfl (seA y) _ (HR2.out w hC) Try.underlying83 rfl seinfo) ?_; (try simp only [Act.put, List.getElem_toArray, List.getElem_cons_succ, List.getElem_cons_zero, List.setIfInBounds_toArray, List.set_cons_zero, List.set_cons_succ]))
              (refine q_val (v := ?_) (by rfl) ?_ ?_; rotate_left; (· (intro w hC; have q := EQ; go_simp; try with_reducible rfl)); (try simp only [Act.put, List.getElem_toArray, List.getElem_cons_succ, List.getElem_cons_zero, List.setIfInBounds_toArray, List.set_cons_zero, List.set_cons_succ]))
              refine wpQuiet_nil ?_
              intro w8 hC8
              have HB8 := Lib.hid hC8
              clear hC8
              go_wp2_with fail
              go_roundw
              case rel => exact ⟨j + 1, by omega, by go_num, HB8.out⟩
              case measure => simp [intOf]; omega
            · have hjn' : ¬ (j : Int) < (n : Int) := by omega
              clear hjn
              have J9 := Lib.hid (J6.out.next ok HBW.out)
              go_wp2_with fail
              go_roundw
              case rel => exact ⟨k + 1, l, by omega, by omega, by go_num, by (have q := J9.out; rw [HN.out] at q; exact q)⟩
              case measure => simp [intOf]; omega
      have e3 : (d == 3) = false := by simpa using d3
      have e4 : (d == 4) = false := by simpa using d4
      clear d3 d4
      have HSO := Lib.hid (show seOk ⟨x.vid, x.mac, x.prt⟩ from HM.out)
      go_upto_region 24 with (first
        | (go_at_call 33; refine (ok.set ⟨x.vid, x.mac, x.prt⟩ HSO.out J.out.tab J.out.low.2.1 J.out.low.2.2).mono ?_; rintro e3 w3 ⟨rfl, ht3, hkp3⟩
           have HKB3 := hkp3.block c (.inr HCB.out) BK.out.lt
           have hd1 : w3.cell? ⟨c, 1, none⟩ = _ := (World.cell?_of_block (w := W2) HKB3).trans hc1
           have hd2 : w3.cell? ⟨c, 2, none⟩ = _ := (World.cell?_of_block (w := W2) HKB3).trans hc2
           have hd3 : w3.cell? ⟨c, 3, none⟩ = _ := (World.cell?_of_block (w := W2) HKB3).trans hc3
           have hd4 : w3.cell? ⟨c, 4, none⟩ = _ := (World.cell?_of_block (w := W2) HKB3).trans hc4
           have hd5 : w3.cell? ⟨c, 5, none⟩ = _ := (World.cell?_of_block (w := W2) HKB3).trans hc5
           have hd6 : w3.cell? ⟨c, 6, none⟩ = _ := (World.cell?_of_block (w := W2) HKB3).trans hc6
           have hd7 : w3.cell? ⟨c, 7, none⟩ = _ := (World.cell?_of_block (w := W2) HKB3).trans hc7
           have hd8 : w3.cell? ⟨c, 8, none⟩ = _ := (World.cell?_of_block (w := W2) HKB3).trans hc8
           have hb3 : B ≤ w3.heap.size := Nat.le_trans J.out.low.2.2 hkp3.size
           have ho3 := Lib.hid (hkp3.ownS J.out.own (Nat.le_refl B)))
        | (go_at_call 34; refine (rset10_any B _ l ⟨x.vid, x.mac, x.prt⟩ _ ho3.out J.out.good HSO.out hb3 (by have := J.out.few; omega)).mono ?_; rintro e4 w4 ⟨m', rfl, ho4, hb4⟩))
      have J2 := Lib.hid (J.out.after ht3 hkp3 ho4 hb4 (setS_few l _ J.out.few) (setS_good J.out.good HSO.out) ok)
      generalize setS l ⟨x.vid, x.mac, x.prt⟩ = l2 at J2
      clear ht3 hkp3 ho4 hb4 ho3 HKB3 hc0 hc1 hc2 hc3 hc4 hc5 hc6 hc7 hc8 hk0 hk1 hk2 hk3 hk4 hk5 hk6 hd1 hd2 hd3 hd4 hd5 hd6 hd7 hd8
      go_upto_region 25 with (go_at_call 35; refine (ok.list J2.out.tab).mono ?_; rintro e w6 ⟨A1, c1, rfl, hrow1, hb6⟩)
      have J6 := Lib.hid (J2.out.next ok hb6)
      obtain ⟨A2, c2, hm2, hrow2⟩ := src_rows seC_len (by omega) J6.out.own.src
      cases hm2
      have HRW1 := Lib.hid hrow1
      have HRW2 := Lib.hid hrow2
      obtain ⟨n, hn⟩ : ∃ n, l2.length = n := ⟨_, rfl⟩
      rw [hn]
      have HN := Lib.hid hn
      have hn64 : (n : Int) ≤ 16 := by have := J6.out.few; omega
      clear hrow1 hrow2 hb6 hn J2
      go_upto_region 28 with fail
      go_loopw [14] (fun i wr => ∃ j : Nat, j ≤ n ∧ i = .int .i64 j ∧ Below w6.heap.size w6 wr) (fun i _ => n - (intOf i).toNat)
      case atStart => exact ⟨0, Nat.zero_le _, rfl, Below.refl _ _⟩
      case round =>
        obtain ⟨j, hj, rfl, hbw⟩ := hrel
        have HBW := Lib.hid hbw
        clear hbw
        by_cases hjn : j < n
        · obtain ⟨y, hy⟩ : ∃ y, l2[j]? = some y := ⟨_, List.getElem?_eq_getElem (show j < l2.length by rw [HN.out]; exact hjn)⟩
          rcases HRW1.out with hnil | ⟨b1, o1, rfl, hb1, hc1⟩
          · rw [hnil] at hy; simp at hy
          rcases HRW2.out with hnil | ⟨b2, o2, rfl, hb2, hc2⟩
          · rw [hnil] at hy; simp at hy
          have HC0 := Lib.hid (show ∀ w, Below w6.heap.size w6 w → w.cell? ⟨b1, o1 + j * 8, none⟩ = some (.int .u16 (y.vid : Nat)) from fun w hC => by
            rw [hC.cell (p := ⟨b1, o1 + j * 8, none⟩) hb1]
            exact hc1 j y hy 0 _ rfl)
          have HC7 := Lib.hid (show ∀ w, Below w6.heap.size w6 w → w.cell? ⟨b1, o1 + j * 8 + 7, none⟩ = some (.int .u32 (y.prt : Nat)) from fun w hC => by
            rw [hC.cell (p := ⟨b1, o1 + j * 8 + 7, none⟩) hb1]
            exact hc1 j y hy 7 _ rfl)
          have HCM := Lib.hid (show ∀ w, Below w6.heap.size w6 w → w.rangeAt b1 (o1 + j * 8 + 1) (macA (byteF y.mac)).toList from fun w hC i u hu => by
            rw [hC.cell (p := ⟨b1, o1 + j * 8 + 1 + i, none⟩) hb1]
            have q := hc1 j y hy (1 + i) u (se_mac y i u (by simpa using hu))
            rw [show o1 + (j * 8 + (1 + i)) = o1 + j * 8 + 1 + i by omega] at q
            exact q)
          have HR2 := Lib.hid (show ∀ w, Below w6.heap.size w6 w → w.rangeAt b2 (o2 + j * 8) (seA y).toList from fun w hC i u hu => by
            rw [Nat.add_assoc, hC.cell (p := ⟨b2, o2 + (j * 8 + i), none⟩) hb2]
            exact hc2 j y hy i u hu)
          have HM34 := Lib.hid (show (Try.prog.info? 34).map (·.size) = some (macA (byteF y.mac)).size by kernel_rfl)
          have EQ : ∀ W : World, (Op.equalIn 10000 83 (.agg (seA y)) (.agg (seA y))).run Try.prog W = .ok true W := equal_e10 y
          have hjn' : (j : Int) < (n : Int) := by omega
          clear hy hc1 hc2
          go_upto_region 30 with fail
          refine wp_region_quiet (C := fun w => Below w6.heap.size w6 w) (by kernel_rfl) (by kernel_rfl) HBW.out.drew ?_
          (refine q_val (v := ?_) (by rfl) ?_ ?_; rotate_left; (· (intro w hC; go_simp; try with_reducible rfl)); (try simp only [Act.put, List.getElem_toArray, List.getElem_cons_succ, List.getElem_cons_zero, List.setIfInBounds_toArray, List.set_cons_zero, List.set_cons_succ]))
          (refine q_val (v := ?_) (by rfl) ?_ ?_; rotate_left; (· (intro w hC; go_simp; try with_reducible rfl)); (try simp only [Act.put, List.getElem_toArray, List.getElem_cons_succ, List.getElem_cons_zero, List.setIfInBounds_toArray, List.set_cons_zero, List.set_cons_succ]))
          (refine q_val (v := ?_) (by rfl) ?_ ?_; rotate_left; (· (intro w hC; go_simp; try with_reducible rfl)); (try simp only [Act.put, List.getElem_toArray, List.getElem_cons_succ, List.getElem_cons_zero, List.setIfInBounds_toArray, List.set_cons_zero, List.set_cons_succ]))
          (refine q_val (v := ?_) (by rfl) ?_ ?_; rotate_left; (· (intro w hC; go_simp; try with_reducible rfl)); (try simp only [Act.put, List.getElem_toArray, List.getElem_cons_succ, List.getElem_cons_zero, List.setIfInBounds_toArray, List.set_cons_zero, List.set_cons_succ]))
          (refine q_val (v := ?_) (by rfl) ?_ ?_; rotate_left; (· (intro w hC; go_simp; try with_reducible rfl)); (try simp only [Act.put, List.getElem_toArray, List.getElem_cons_succ, List.getElem_cons_zero, List.setIfInBounds_toArray, List.set_cons_zero, List.set_cons_succ]))
          (refine q_val (v := ?_) (by rfl) ?_ ?_; rotate_left; (· (intro w hC; have q := HC0.out w hC; go_simp; try with_reducible rfl)); (try simp only [Act.put, List.getElem_toArray, List.getElem_cons_succ, List.getElem_cons_zero, List.setIfInBounds_toArray, List.set_cons_zero, List.set_cons_succ]))
          (refine q_val (v := ?_) (by rfl) ?_ ?_; rotate_left; (· (intro w hC; go_simp; try with_reducible rfl)); (try simp only [Act.put, List.getElem_toArray, List.getElem_cons_succ, List.getElem_cons_zero, List.setIfInBounds_toArray, List.set_cons_zero, List.set_cons_succ]))
          (refine q_val (v := ?_) (by rfl) ?_ ?_; rotate_left; (· (intro w hC; go_simp; try with_reducible rfl)); (try simp only [Act.put, List.getElem_toArray, List.getElem_cons_succ, List.getElem_cons_zero, List.setIfInBounds_toArray, List.set_cons_zero, List.set_cons_succ]))
          (refine q_val (v := ?_) (by rfl) ?_ ?_; rotate_left; (· (intro w hC; go_simp; try with_reducible rfl)); (try simp only [Act.put, List.getElem_toArray, List.getElem_cons_succ, List.getElem_cons_zero, List.setIfInBounds_toArray, List.set_cons_zero, List.set_cons_succ]))
          (refine q_val (v := ?_) (by rfl) ?_ ?_; rotate_left; (· (intro w hC; go_simp; try with_reducible rfl)); (try simp only [Act.put, List.getElem_toArray, List.getElem_cons_succ, List.getElem_cons_zero, List.setIfInBounds_toArray, List.set_cons_zero, List.set_cons_succ]))
          (refine q_val (v := ?_) (by rfl) ?_ ?_; rotate_left; (· (intro w hC; go_simp; try with_reducible rfl)); (try simp only [Act.put, List.getElem_toArray, List.getElem_cons_succ, List.getElem_cons_zero, List.setIfInBounds_toArray, List.set_cons_zero, List.set_cons_succ]))
          (refine q_val (v := .agg (macA (byteF y.mac))) (by rfl) (fun w hC => run_loadRange 34 _ rfl b1 (o1 + j * 8 + 1) rfl (macA (byteF y.mac)) _ (HCM.out w hC) Try.underlying34 rfl HM34.out) ?_; (try simp only [Act.put, List.getElem_toArray, List.getElem_cons_succ, List.getElem_cons_zero, List.setIfInBounds_toArray, List.set_cons_zero, List.set_cons_succ]))
          (refine q_val (v := ?_) (by rfl) ?_ ?_; rotate_left; (· (intro w hC; go_simp; try with_reducible rfl)); (try simp only [Act.put, List.getElem_toArray, List.getElem_cons_succ, List.getElem_cons_zero, List.setIfInBounds_toArray, List.set_cons_zero, List.set_cons_succ]))
          (refine q_val (v := ?_) (by rfl) ?_ ?_; rotate_left; (· (intro w hC; go_simp; try with_reducible rfl)); (try simp only [Act.put, List.getElem_toArray, List.getElem_cons_succ, List.getElem_cons_zero, List.setIfInBounds_toArray, List.set_cons_zero, List.set_cons_succ]))
          (refine q_val (v := ?_) (by rfl) ?_ ?_; rotate_left; (· (intro w hC; go_simp; try with_reducible rfl)); (try simp only [Act.put, List.getElem_toArray, List.getElem_cons_succ, List.getElem_cons_zero, List.setIfInBounds_toArray, List.set_cons_zero, List.set_cons_succ]))
          (refine q_val (v := ?_) (by rfl) ?_ ?_; rotate_left; (· (intro w hC; go_simp; try with_reducible rfl)); (try simp only [Act.put, List.getElem_toArray, List.getElem_cons_succ, List.getElem_cons_zero, List.setIfInBounds_toArray, List.set_cons_zero, List.set_cons_succ]))
          (refine q_val (v := ?_) (by rfl) ?_ ?_; rotate_left; (· (intro w hC; have q := HC7.out w hC; go_simp; try with_reducible rfl)); (try simp only [Act.put, List.getElem_toArray, List.getElem_cons_succ, List.getElem_cons_zero, List.setIfInBounds_toArray, List.set_cons_zero, List.set_cons_succ]))
          (refine q_val (v := ?_) (by rfl) ?_ ?_; rotate_left; (· (intro w hC; go_simp; try with_reducible rfl)); (try simp only [Act.put, List.getElem_toArray, List.getElem_cons_succ, List.getElem_cons_zero, List.setIfInBounds_toArray, List.set_cons_zero, List.set_cons_succ]))
          (refine q_val (v := ?_) (by rfl) ?_ ?_; rotate_left; (· (intro w hC; go_simp; try with_reducible rfl)); (try simp only [Act.put, List.getElem_toArray, List.getElem_cons_succ, List.getElem_cons_zero, List.setIfInBounds_toArray, List.set_cons_zero, List.set_cons_succ]))
          (refine q_val (v := ?_) (by rfl) ?_ ?_; rotate_left; (· (intro w hC; go_simp; try with_reducible rfl)); (try simp only [Act.put, List.getElem_toArray, List.getElem_cons_succ, List.getElem_cons_zero, List.setIfInBounds_toArray, List.set_cons_zero, List.set_cons_succ]))
          (refine q_val (v := ?_) (by rfl) ?_ ?_; rotate_left; (· (intro w hC; go_simp; try with_reducible rfl)); (try simp only [Act.put, List.getElem_toArray, List.getElem_cons_succ, List.getElem_cons_zero, List.setIfInBounds_toArray, List.set_cons_zero, List.set_cons_succ]))
          (refine q_val (v := .agg (seA y)) (by rfl) (fun w hC => run_loadRange 83 _ rfl b2 (o2 + j * 8) rfl (seA y) _ (HR2.out w hC) Try.underlying83 rfl seinfo) ?_; (try simp only [Act.put, List.getElem_toArray, List.getElem_cons_succ, List.getElem_cons_zero, List.setIfInBounds_toArray, List.set_cons_zero, List.set_cons_succ]))
          (refine q_val (v := ?_) (by rfl) ?_ ?_; rotate_left; (· (intro w hC; have q := EQ; go_simp; try with_reducible rfl)); (try simp only [Act.put, List.getElem_toArray, List.getElem_cons_succ, List.getElem_cons_zero, List.setIfInBounds_toArray, List.set_cons_zero, List.set_cons_succ]))
          refine wpQuiet_nil ?_
          intro w8 hC8
          have HB8 := Lib.hid hC8
          clear hC8
          go_wp2_with fail
          go_roundw
          case rel => exact ⟨j + 1, by omega, by go_num, HB8.out⟩
          case measure => simp [intOf]; omega
        · have hjn' : ¬ (j : Int) < (n : Int) := by omega
          clear hjn
          have J9 := Lib.hid (J6.out.next ok HBW.out)
          go_wp2_with fail
          go_roundw
          case rel => exact ⟨k + 1, l2, by omega, by omega, by go_num, by (have q := J9.out; rw [HN.out] at q; exact q)⟩
          case measure => simp [intOf]; omega
    · rcases Nat.lt_or_ge k len with h1 | h1
      · have h2 : ¬ k < 60 := fun h => hlt ⟨h1, h⟩
        have g2 : ¬ (k : Int) < 60 := by omega
        clear hlt
        go_wp2_with (first
          | (go_at_call 31; refine (ok.none0 _).mono ?_; rintro e w6 ⟨rfl, hb6⟩)
          | (go_at_call 33; refine (ok.none1 _).mono ?_; rintro e w7 ⟨rfl, hb7⟩)
          | (go_at_call 29; refine (ok.none2 _).mono ?_; rintro e w8 ⟨rfl, hb8⟩)
          | (go_at_call 35; refine (ok.none3 _).mono ?_; rintro e w9 ⟨A9, c9, rfl, hb9⟩))
        go_ret
        have z1 := HI.out.below
        have z2 := z1.trans (hb6.mono z1.size)
        have z4 := z2.trans (hb7.mono z2.size)
        have z5 := z4.trans (hb8.mono z4.size)
        exact ⟨rfl, z5.trans (hb9.mono z5.size)⟩
      · have g1 : ¬ (k : Int) < (len : Int) := by omega
        clear hlt
        go_wp2_with (first
          | (go_at_call 31; refine (ok.none0 _).mono ?_; rintro e w6 ⟨rfl, hb6⟩)
          | (go_at_call 33; refine (ok.none1 _).mono ?_; rintro e w7 ⟨rfl, hb7⟩)
          | (go_at_call 29; refine (ok.none2 _).mono ?_; rintro e w8 ⟨rfl, hb8⟩)
          | (go_at_call 35; refine (ok.none3 _).mono ?_; rintro e w9 ⟨A9, c9, rfl, hb9⟩))
        go_ret
        have z1 := HI.out.below
        have z2 := z1.trans (hb6.mono z1.size)
        have z4 := z2.trans (hb7.mono z2.size)
        have z5 := z4.trans (hb8.mono z4.size)
        exact ⟨rfl, z5.trans (hb9.mono z5.size)⟩
end Go.Proofs.Ytilklfmcdgggfaa
