/- VlanPlays over any table that keeps its contract. -/
import Derived.Test.YtjipbdljljhijaaRef8c
import Derived.Test.YtjipbdljljhijaaActs8
import Derived.Test.YtjipbdljljhijaaQuietly
import Derived.Test.YtjipbdljljhijaaBks
import Derived.Test.YtjipbdljljhijaaVlEq
import Derived.Test.YtjipbdljljhijaaVlm
import Derived.Test.YtjipbdljljhijaaKept
import Derived.Test.YtjipbdljljhijaaSrcRows
namespace Go.Proofs.Ytjipbdljljhijaa
open Go.RowKit
attribute [local irreducible] wpQuiet
set_option linter.unusedSimpArgs false
set_option linter.unusedVariables false

abbrev vlNil : Array Value := #[.int .u16 0, .int .u32 0, .int .u32 0]
/-- A table of VLANs: in this world, at this place, its blocks from A on below B, with just these VLANs. -/
structure TabOk (T : World → Nat → Nat → Nat → List Vl → Prop) : Prop where
  keep : ∀ {w w' b A B l}, T w b A B l → (∀ k, A ≤ k → k < B → w'.heap[k]? = w.heap[k]?) → T w' b A B l
  new : ∀ w, Calls Try.prog 17 #[] w fun e w' => ∃ b, e = .returned (.pointer (some ⟨b, 0, none⟩)) ∧ T w' b w.heap.size w'.heap.size [] ∧ Below w.heap.size w w'
  set : ∀ {w b A B l} (x : Vl), T w b A B l → A ≤ B → B ≤ w.heap.size → Calls Try.prog 22 #[.pointer (some ⟨b, 0, none⟩), vlV x] w fun e w' => e = .returned (.int .i64 (setVE l x)) ∧ T w' b A B (setV l x) ∧ KeptO A B w w'
  drop : ∀ {w b A B l} (vid : Nat), T w b A B l → A ≤ B → B ≤ w.heap.size → Calls Try.prog 18 #[.pointer (some ⟨b, 0, none⟩), .int .u16 (vid : Nat)] w fun e w' => e = .returned (.int .i64 (dropE l vid)) ∧ T w' b A B (dropV l vid) ∧ KeptO A B w w'
  get : ∀ {w b A B l} (vid : Nat), T w b A B l → Calls Try.prog 20 #[.pointer (some ⟨b, 0, none⟩), .int .u16 (vid : Nat)] w fun e w' => Below w.heap.size w w' ∧
    ((atV vid l = -1 ∧ e = .returned (.tuple #[.agg vlNil, .bool false])) ∨ ∃ (k : Nat) (x : Vl), atV vid l = k ∧ l[k]? = some x ∧ e = .returned (.tuple #[vlV x, .bool true]))
  list : ∀ {w b A B l}, T w b A B l → Calls Try.prog 24 #[.pointer (some ⟨b, 0, none⟩)] w fun e w' => ∃ (A : Option Addr) (c : Nat), e = .returned (.slice A l.length c) ∧ RowsAt w' A 3 vlC l ∧ Below w.heap.size w w'
  none0 : ∀ w, Calls Try.prog 20 #[.pointer none, .int .u16 1] w fun e w' => e = .returned (.tuple #[.agg vlNil, .bool false]) ∧ Below w.heap.size w w'
  none1 : ∀ w (x : Vl), Calls Try.prog 22 #[.pointer none, vlV x] w fun e w' => e = .returned (.int .i64 1) ∧ Below w.heap.size w w'
  none2 : ∀ w, Calls Try.prog 18 #[.pointer none, .int .u16 1] w fun e w' => e = .returned (.int .i64 1) ∧ Below w.heap.size w w'
  none3 : ∀ w, Calls Try.prog 24 #[.pointer none] w fun e w' => ∃ (A : Option Addr) (c : Nat), e = .returned (.slice A 0 c) ∧ Below w.heap.size w w'

/-- What a question's end finds: a block of its own, and the list. -/
structure Gt (w3 : World) (g : Nat) (arr : Array Value) (B : Nat) (m : Value) (l : List Vl) (w : World) : Prop where
  kn : Kn w3 [(g, arr, 48)] w
  own : Own w B 53 3 vlC m l
theorem Gt.drew {w3 : World} {g : Nat} {arr : Array Value} {B : Nat} {m : Value} {l : List Vl} {w : World} (h : Gt w3 g arr B m l w) : Gt w3 g arr B m l w.drew := ⟨h.kn.drew, h.own.drew⟩

/-- What a round finds: the table and the document's list have the same VLANs. -/
structure Two8 (T : World → Nat → Nat → Nat → List Vl → Prop) (w0 : World) (b A B : Nat) (m : Value) (l : List Vl) (w : World) : Prop where
  tab : T w b A B l
  own : Own w B 53 3 vlC m l
  low : w0.heap.size ≤ A ∧ A ≤ B ∧ B ≤ w.heap.size
  below : Below w0.heap.size w0 w
  few : l.length ≤ 16

theorem setV_few (l : List Vl) (x : Vl) (h : l.length ≤ 16) : (setV l x).length ≤ 16 := by
  unfold setV
  split
  · exact h
  split
  · simpa using h
  split
  · exact h
  · have := (posV_spec x.vid l).1
    simp only [List.length_append, List.length_take, List.length_drop, List.length_cons, List.length_nil]
    omega
theorem dropV_few (l : List Vl) (vid : Nat) (h : l.length ≤ 16) : (dropV l vid).length ≤ 16 := by
  unfold dropV
  split
  · exact h
  · exact Nat.le_trans (List.length_eraseIdx_le _ _) h

variable {T : World → Nat → Nat → Nat → List Vl → Prop} {w0 w w' : World} {b A B : Nat} {m : Value} {l : List Vl}
theorem Two8.next (h : Two8 T w0 b A B m l w) (ok : TabOk T) (hb : Below w.heap.size w w') : Two8 T w0 b A B m l w' :=
  ⟨ok.keep h.tab (fun k _ hk => hb.block k (by have := h.low; omega)), h.own.next hb, ⟨h.low.1, h.low.2.1, by have := h.low; have := hb.size; omega⟩, h.below.trans (hb.mono (by have := h.low; omega)), h.few⟩

theorem Two8.after (h : Two8 T w0 b A B m l w) {w3 w4 : World} {m' : Value} {l' : List Vl} (ht : T w3 b A B l') (hk : KeptO A B w w3) (ho : Own w4 B 53 3 vlC m' l') (hb : Below w3.heap.size w3 w4) (hf : l'.length ≤ 16) (ok : TabOk T) : Two8 T w0 b A B m' l' w4 := by
  have h1 := h.low
  have h2 := hk.size
  have h3 := hb.size
  exact ⟨ok.keep ht (fun k _ hk => hb.block k (by omega)), ho, ⟨h1.1, h1.2.1, by omega⟩, (h.below.trans ((hk.below (by omega)).mono h1.1)).trans (hb.mono (by omega)), hf⟩

/-- Blocks of a round, made behind the table's and the list's. -/
theorem Two8.alloc (h : Two8 T w0 b A B m l w) (ok : TabOk T) (o : Obj) : Two8 T w0 b A B m l (w.alloc o) := h.next ok ((Below.refl w.heap.size w).alloc (Nat.le_refl _) o)

theorem run_loadRange {P : Program} {o : Oper} {a : Act} {w : World} (ty : TypeId) (x : Operand) (ho : o.op = .load ty x) (g j : Nat) (hx : a.eval x = .pointer (some ⟨g, j, none⟩)) (arr : Array Value) (d : TypeDesc) (hr : w.rangeAt g j arr.toList)
    (hu : P.underlying ty = some d) (hd : d.isRow = true) (hi : (P.info? ty).map (·.size) = some arr.size) : (execOp a.eval o).run P w = .ok (.value (.agg arr)) w := by
  unfold execOp
  simp only [ho, hx, Instr.loadAt, Instr.sureAddr, Sem.run_bind, Sem.run_pure, Result.andThen_ok, run_loadVar_mid w g j ty arr.toList d hr hu hd (by simpa using hi), Array.toArray_toList]
abbrev acNil : Array Value := #[.int .u16 0, .int .u16 0, .int .u32 0, .int .u32 0]
theorem acSize : (Try.prog.info? 42).map (·.size) = some 4 := by kernel_rfl
theorem actV (x : Ac) : (acC x)[0]? = some (.int .u16 (x.what : Nat)) ∧ (acC x)[1]? = some (.int .u16 (x.vid : Nat)) ∧ (acC x)[2]? = some (.int .u32 (x.mem : Nat)) ∧ (acC x)[3]? = some (.int .u32 (x.unt : Nat)) := ⟨rfl, rfl, rfl, rfl⟩

set_option maxHeartbeats 8000000 in
set_option maxRecDepth 100000 in
theorem plays_walk (ok : TabOk T) (hsp : ∀ w : World, Calls Try.prog 16 #[] w fun e w' => e = .returned (.bool true) ∧ Below w.heap.size w w') (a : Option Addr) (len cap : Nat) (acts : List Ac) (w0 : World) (h : IsArg42 w0 a len cap acts) :
    Calls Try.prog 5 #[.slice a len cap] w0 fun e w' => e = .returned (.bool true) ∧ Below w0.heap.size w0 w' := by
  obtain ⟨hl, hr, hok, hc, hn⟩ := h
  have HL := Lib.hid hl
  have HR := Lib.hid hr
  have HOK := Lib.hid hok
  have hlc : (len : Int) ≤ 9223372036854775807 := by have := hc.1; have := hc.2; unfold maxLen at *; omega
  have HC := Lib.hid hc
  clear hl hr hok hc hn
  go_enter Try.func5, Try.ntmps5
  go_upto_region 6 with (first | (go_at_call 16; refine (hsp _).mono ?_; rintro e w1 ⟨rfl, hb1⟩) | (go_at_call 17; refine (ok.new _).mono ?_; rintro e w2 ⟨b, rfl, ht, hb2⟩))
  obtain ⟨A, hA⟩ : ∃ A, w1.heap.size = A := ⟨_, rfl⟩
  obtain ⟨B, hB⟩ : ∃ B, w2.heap.size = B := ⟨_, rfl⟩
  have I0 := Lib.hid (show Two8 T w0 b A B (.slice none 0 0) [] w2 by
    have s1 := hb1.size
    have s2 := hb2.size
    rw [hA] at s1 s2 ht hb2
    rw [hB] at s2 ht
    exact ⟨ht, Own.nil _ _ _ _ _, ⟨s1, s2, by omega⟩, hb1.trans (hb2.mono s1), by simp⟩)
  clear hb1 hb2 ht hA hB
  go_loopw [4, 5] (fun m i wr => ∃ (k : Nat) (l : List Vl), k ≤ len ∧ k ≤ 50 ∧ i = .int .i64 k ∧ Two8 T w0 b A B m l wr) (fun _ i _ => (50 - intOf i).toNat)
  case atStart => exact ⟨0, [], by omega, by omega, rfl, I0.out⟩
  case round =>
    obtain ⟨k, l, hk, hk2, rfl, hI⟩ := hrel
    have HI := Lib.hid hI
    clear hI I0
    by_cases hlt : k < len ∧ k < 50
    · obtain ⟨h1, h2⟩ := hlt
      obtain ⟨x, hx⟩ : ∃ x, acts[k]? = some x := ⟨_, List.getElem?_eq_getElem (show k < acts.length by rw [HL.out]; exact h1)⟩
      rcases HR.out with hnil | ⟨ab, off, rfl, hab, hcells⟩
      · rw [hnil] at hx; simp at hx
      obtain ⟨arr, harr⟩ : ∃ arr, arr = (acC x).toArray := ⟨_, rfl⟩
      have hrg := Lib.hid (show wr.rangeAt ab (off + k * 4) arr.toList by
        intro j u hu
        rw [harr] at hu
        have q := hcells k x hx j u (by simpa using hu)
        rw [Nat.add_assoc]
        rw [(HI.out.below).cell (p := ⟨ab, off + (k * 4 + j), none⟩) hab]
        exact q)
      have hz42 := Lib.hid (show (Try.prog.info? 42).map (·.size) = some arr.size by rw [harr]; exact acSize)
      have hzz := Lib.hid (show acNil.size = arr.size by rw [harr]; rfl)
      have hone := Lib.hid (show arr.all (·.oneCell') = true by rw [harr]; simp [acC, Value.oneCell'])
      have A0 := Lib.hid (show arr[0]? = some (.int .u16 (x.what : Nat)) by rw [harr]; rfl)
      have A1 := Lib.hid (show arr[1]? = some (.int .u16 (x.vid : Nat)) by rw [harr]; rfl)
      have A2 := Lib.hid (show arr[2]? = some (.int .u32 (x.mem : Nat)) by rw [harr]; rfl)
      have A3 := Lib.hid (show arr[3]? = some (.int .u32 (x.unt : Nat)) by rw [harr]; rfl)
      have hkc : k ≤ cap := by have := HC.out.1; omega
      clear hcells hx harr
      have R0 := Lib.hid (show (wr.alloc (.cells acNil 42)).heap[wr.heap.size]? = some (.cells acNil 42 (0, 0)) from heap_alloc_new wr _)
      have K0 := Lib.hid (show Kn wr [(wr.heap.size, arr, 42)] ((wr.alloc (.cells acNil 42)).setRow wr.heap.size arr) from (Kn.nil wr).laid arr acNil 42)
      go_upto_region 9 with (first
        | (refine wpList_val (.agg arr) (by rfl) (run_loadRange 42 _ rfl ab (off + k * 4) rfl arr _ hrg.out Try.underlying42 rfl hz42.out) ?_)
        | (refine wpList_store_row rfl 42 _ _ rfl wr.heap.size arr rfl rfl 42 acNil R0.out hz42.out hzz.out hone.out ?_))
      obtain ⟨W, hW⟩ : ∃ W, W = (wr.alloc (.cells acNil 42)).setRow wr.heap.size arr := ⟨_, rfl⟩
      rw [← hW] at K0 ⊢
      have J := Lib.hid (HI.out.next ok K0.out.below)
      have BK := Lib.hid (K0.out.at 0 rfl)
      have hc0 : W.cell? ⟨wr.heap.size, 0, none⟩ = some (.int .u16 (x.what : Nat)) := by rw [BK.out.cell]; exact A0.out
      have hc1 : W.cell? ⟨wr.heap.size, 1, none⟩ = some (.int .u16 (x.vid : Nat)) := by rw [BK.out.cell]; exact A1.out
      have hc2 : W.cell? ⟨wr.heap.size, 2, none⟩ = some (.int .u32 (x.mem : Nat)) := by rw [BK.out.cell]; exact A2.out
      have hc3 : W.cell? ⟨wr.heap.size, 3, none⟩ = some (.int .u32 (x.unt : Nat)) := by rw [BK.out.cell]; exact A3.out
      obtain ⟨c, hcc⟩ : ∃ c, wr.heap.size = c := ⟨_, rfl⟩
      have HCB := Lib.hid (show B ≤ c by rw [← hcc]; exact HI.out.low.2.2)
      rw [hcc] at BK hc0 hc1 hc2 hc3 ⊢
      clear hW K0 R0 hrg hcc HI
      obtain ⟨d, hd⟩ : ∃ d, (x.what : Int) % 5 = d := ⟨_, rfl⟩
      go_upto_region 13 with fail
      rw [hd]
      clear hd
      by_cases d3 : d = 3
      · subst d3
        go_upto_region 21 with (first
          | (go_at_call 18; refine (ok.drop x.vid J.out.tab J.out.low.2.1 J.out.low.2.2).mono ?_; rintro e w3 ⟨rfl, ht3, hk3⟩
             have hd1 : w3.cell? ⟨c, 1, none⟩ = some (.int .u16 (x.vid : Nat)) := (World.cell?_of_block (w := W) (hk3.block c (.inr HCB.out) BK.out.lt)).trans hc1
             have hb3 : B ≤ w3.heap.size := Nat.le_trans J.out.low.2.2 hk3.size
             have ho3 := Lib.hid (hk3.own J.out.own (Nat.le_refl B)))
          | (go_at_call 19; refine (rdrop_any B x.vid _ l _ ho3.out hb3 (by have := J.out.few; omega)).mono ?_; rintro e w4 ⟨m', rfl, ho4, hb4⟩))
        have J2 := Lib.hid (J.out.after ht3 hk3 ho4 hb4 (dropV_few l x.vid J.out.few) ok)
        clear ht3 hk3 ho4 hb4 ho3
        go_wp2_with fail
        go_round
        case rel => exact ⟨k + 1, dropV l x.vid, by omega, by omega, by go_num, J2.out⟩
        case measure => simp [intOf]; omega
      by_cases d4 : d = 4
      · subst d4
        rcases atV_cases x.vid l with ⟨hat, -⟩ | ⟨j, y, hat, hy, -⟩
        · have hg := (ok.get x.vid J.out.tab).mono (R' := fun e w' => e = .returned (.tuple #[.agg vlNil, .bool false]) ∧ Below W.heap.size W w') (fun e w' ⟨h1, h2⟩ => by
            rcases h2 with ⟨-, h2⟩ | ⟨k, x, h3, -, -⟩
            · exact ⟨h2, h1⟩
            · rw [hat] at h3; omega)
          have AT := Lib.hid hat
          clear hat
          obtain ⟨arr2, harr2⟩ : ∃ arr2, arr2 = vlNil := ⟨_, rfl⟩
          rw [← harr2] at hg
          have EQ : ∀ W : World, (Op.equalIn 10000 48 (.agg arr2) (.agg #[.int .u16 0, .int .u32 0, .int .u32 0])).run Try.prog W = .ok true W := by rw [harr2]; exact equal_p48 0 0 0
          have hz48 := Lib.hid (show (Try.prog.info? 48).map (·.size) = some arr2.size by rw [harr2]; kernel_rfl)
          have hy48 := Lib.hid (show vlNil.size = arr2.size from (congrArg Array.size harr2).symm)
          have ho48 := Lib.hid (show arr2.all (·.oneCell') = true by rw [harr2]; simp [Value.oneCell'])
          clear harr2
          go_upto_region 18 with (first
            | (go_at_call 20; refine hg.mono ?_; rintro e w3 ⟨rfl, hb3⟩
               have hd1 : w3.cell? ⟨c, 1, none⟩ = some (.int .u16 (x.vid : Nat)) := (World.cell?_of_block (w := W) (hb3.block c BK.out.lt)).trans hc1
               have R3 := Lib.hid (show (w3.alloc (.cells vlNil 48)).heap[w3.heap.size]? = some (.cells vlNil 48 (0, 0)) from heap_alloc_new w3 _)
               have K3 := Lib.hid (show Kn w3 [(w3.heap.size, arr2, 48)] ((w3.alloc (.cells vlNil 48)).setRow w3.heap.size arr2) from (Kn.nil w3).laid arr2 vlNil 48))
            | (refine wpList_store_row rfl 48 _ _ rfl w3.heap.size arr2 rfl rfl 48 vlNil R3.out hz48.out hy48.out ho48.out ?_))
          obtain ⟨w4, hw4⟩ : ∃ w4, w4 = (w3.alloc (.cells vlNil 48)).setRow w3.heap.size arr2 := ⟨_, rfl⟩
          rw [← hw4] at K3 ⊢
          have J30 := Lib.hid (J.out.next ok hb3)
          have J3 := Lib.hid (J30.out.next ok K3.out.below)
          have hd2 : w4.cell? ⟨c, 1, none⟩ = some (.int .u16 (x.vid : Nat)) := (World.cell?_of_block (a := ⟨c, 1, none⟩) (K3.out.below.block c (Nat.lt_of_lt_of_le BK.out.lt hb3.size))).trans hd1
          have G3 := Lib.hid (show Gt w3 w3.heap.size arr2 B _ l w4 from ⟨K3.out, J3.out.own⟩)
          obtain ⟨g3, hg3⟩ : ∃ g3, w3.heap.size = g3 := ⟨_, rfl⟩
          clear hw4 K3 hb3 J hd1 R3 hg
          rw [hg3] at G3 ⊢
          clear hg3
          go_upto_region 19 with (go_at_call 21; refine (rat_any B x.vid _ l _ J3.out.own (by have := J3.out.few; omega)).mono ?_; rintro e w5 ⟨rfl, rfl⟩; rw [AT.out])
          clear hd2 J3
          refine wp_region_quiet (C := Gt w3 g3 arr2 B _ l) (by kernel_rfl) (by kernel_rfl) G3.out.drew ?_
          (refine q_val (v := ?_) (by rfl) ?_ ?_; rotate_left; (· (intro w hC; go_simp; try with_reducible rfl)); (try simp only [Act.put, List.getElem_toArray, List.getElem_cons_succ, List.getElem_cons_zero, List.setIfInBounds_toArray, List.set_cons_zero, List.set_cons_succ]))
          (refine q_val (v := ?_) (by rfl) ?_ ?_; rotate_left; (· (intro w hC; go_simp; try with_reducible rfl)); (try simp only [Act.put, List.getElem_toArray, List.getElem_cons_succ, List.getElem_cons_zero, List.setIfInBounds_toArray, List.set_cons_zero, List.set_cons_succ]))
          (refine q_val (v := ?_) (by rfl) ?_ ?_; rotate_left; (· (intro w hC; go_simp; try with_reducible rfl)); (try simp only [Act.put, List.getElem_toArray, List.getElem_cons_succ, List.getElem_cons_zero, List.setIfInBounds_toArray, List.set_cons_zero, List.set_cons_succ]))
          (refine q_val (v := ?_) (by rfl) ?_ ?_; rotate_left; (· (intro w hC; go_simp; try with_reducible rfl)); (try simp only [Act.put, List.getElem_toArray, List.getElem_cons_succ, List.getElem_cons_zero, List.setIfInBounds_toArray, List.set_cons_zero, List.set_cons_succ]))
          (refine q_val (v := ?_) (by rfl) ?_ ?_; rotate_left; (· (intro w hC; go_simp; try with_reducible rfl)); (try simp only [Act.put, List.getElem_toArray, List.getElem_cons_succ, List.getElem_cons_zero, List.setIfInBounds_toArray, List.set_cons_zero, List.set_cons_succ]))
          (refine q_val (v := ?_) (by rfl) ?_ ?_; rotate_left; (· (intro w hC; go_simp; try with_reducible rfl)); (try simp only [Act.put, List.getElem_toArray, List.getElem_cons_succ, List.getElem_cons_zero, List.setIfInBounds_toArray, List.set_cons_zero, List.set_cons_succ]))
          (refine q_val (v := ?_) (by rfl) ?_ ?_; rotate_left; (· (intro w hC; go_simp; try with_reducible rfl)); (try simp only [Act.put, List.getElem_toArray, List.getElem_cons_succ, List.getElem_cons_zero, List.setIfInBounds_toArray, List.set_cons_zero, List.set_cons_succ]))
          (refine q_skip (by rfl) ?_; (try simp only [Act.put, List.getElem_toArray, List.getElem_cons_succ, List.getElem_cons_zero, List.setIfInBounds_toArray, List.set_cons_zero, List.set_cons_succ]))
          (refine q_skip (by rfl) ?_; (try simp only [Act.put, List.getElem_toArray, List.getElem_cons_succ, List.getElem_cons_zero, List.setIfInBounds_toArray, List.set_cons_zero, List.set_cons_succ]))
          (refine q_skip (by rfl) ?_; (try simp only [Act.put, List.getElem_toArray, List.getElem_cons_succ, List.getElem_cons_zero, List.setIfInBounds_toArray, List.set_cons_zero, List.set_cons_succ]))
          (refine q_skip (by rfl) ?_; (try simp only [Act.put, List.getElem_toArray, List.getElem_cons_succ, List.getElem_cons_zero, List.setIfInBounds_toArray, List.set_cons_zero, List.set_cons_succ]))
          (refine q_skip (by rfl) ?_; (try simp only [Act.put, List.getElem_toArray, List.getElem_cons_succ, List.getElem_cons_zero, List.setIfInBounds_toArray, List.set_cons_zero, List.set_cons_succ]))
          (refine q_skip (by rfl) ?_; (try simp only [Act.put, List.getElem_toArray, List.getElem_cons_succ, List.getElem_cons_zero, List.setIfInBounds_toArray, List.set_cons_zero, List.set_cons_succ]))
          (refine q_skip (by rfl) ?_; (try simp only [Act.put, List.getElem_toArray, List.getElem_cons_succ, List.getElem_cons_zero, List.setIfInBounds_toArray, List.set_cons_zero, List.set_cons_succ]))
          (refine q_skip (by rfl) ?_; (try simp only [Act.put, List.getElem_toArray, List.getElem_cons_succ, List.getElem_cons_zero, List.setIfInBounds_toArray, List.set_cons_zero, List.set_cons_succ]))
          (refine q_skip (by rfl) ?_; (try simp only [Act.put, List.getElem_toArray, List.getElem_cons_succ, List.getElem_cons_zero, List.setIfInBounds_toArray, List.set_cons_zero, List.set_cons_succ]))
          (refine q_skip (by rfl) ?_; (try simp only [Act.put, List.getElem_toArray, List.getElem_cons_succ, List.getElem_cons_zero, List.setIfInBounds_toArray, List.set_cons_zero, List.set_cons_succ]))
          (refine q_skip (by rfl) ?_; (try simp only [Act.put, List.getElem_toArray, List.getElem_cons_succ, List.getElem_cons_zero, List.setIfInBounds_toArray, List.set_cons_zero, List.set_cons_succ]))
          (refine q_skip (by rfl) ?_; (try simp only [Act.put, List.getElem_toArray, List.getElem_cons_succ, List.getElem_cons_zero, List.setIfInBounds_toArray, List.set_cons_zero, List.set_cons_succ]))
          (refine q_val (v := ?_) (by rfl) ?_ ?_; rotate_left; (· (intro w hC; go_simp; try with_reducible rfl)); (try simp only [Act.put, List.getElem_toArray, List.getElem_cons_succ, List.getElem_cons_zero, List.setIfInBounds_toArray, List.set_cons_zero, List.set_cons_succ]))
          (refine q_val (v := ?_) (by rfl) ?_ ?_; rotate_left; (· (intro w hC; go_simp; try with_reducible rfl)); (try simp only [Act.put, List.getElem_toArray, List.getElem_cons_succ, List.getElem_cons_zero, List.setIfInBounds_toArray, List.set_cons_zero, List.set_cons_succ]))
          (refine q_val (v := ?_) (by rfl) ?_ ?_; rotate_left; (· (intro w hC; go_simp; try with_reducible rfl)); (try simp only [Act.put, List.getElem_toArray, List.getElem_cons_succ, List.getElem_cons_zero, List.setIfInBounds_toArray, List.set_cons_zero, List.set_cons_succ]))
          (refine q_val (v := ?_) (by rfl) ?_ ?_; rotate_left; (· (intro w hC; go_simp; try with_reducible rfl)); (try simp only [Act.put, List.getElem_toArray, List.getElem_cons_succ, List.getElem_cons_zero, List.setIfInBounds_toArray, List.set_cons_zero, List.set_cons_succ]))
          (refine q_val (v := ?_) (by rfl) ?_ ?_; rotate_left; (· (intro w hC; go_simp; try with_reducible rfl)); (try simp only [Act.put, List.getElem_toArray, List.getElem_cons_succ, List.getElem_cons_zero, List.setIfInBounds_toArray, List.set_cons_zero, List.set_cons_succ]))
          (refine q_val (v := ?_) (by rfl) ?_ ?_; rotate_left; (· (intro w hC; go_simp; try with_reducible rfl)); (try simp only [Act.put, List.getElem_toArray, List.getElem_cons_succ, List.getElem_cons_zero, List.setIfInBounds_toArray, List.set_cons_zero, List.set_cons_succ]))
          (refine q_val (v := .agg arr2) (by rfl) (fun w hC => run_loadVar_of 48 _ rfl g3 rfl 48 arr2 _ (hC.kn.at 0 rfl) Try.underlying48 rfl hz48.out) ?_; (try simp only [Act.put, List.getElem_toArray, List.getElem_cons_succ, List.getElem_cons_zero, List.setIfInBounds_toArray, List.set_cons_zero, List.set_cons_succ]))
          (refine q_val (v := ?_) (by rfl) ?_ ?_; rotate_left; (· (intro w hC; go_simp; try with_reducible rfl)); (try simp only [Act.put, List.getElem_toArray, List.getElem_cons_succ, List.getElem_cons_zero, List.setIfInBounds_toArray, List.set_cons_zero, List.set_cons_succ]))
          (refine q_val (v := ?_) (by rfl) ?_ ?_; rotate_left; (· (intro w hC; go_simp; try with_reducible rfl)); (try simp only [Act.put, List.getElem_toArray, List.getElem_cons_succ, List.getElem_cons_zero, List.setIfInBounds_toArray, List.set_cons_zero, List.set_cons_succ]))
          (refine q_val (v := ?_) (by rfl) ?_ ?_; rotate_left; (· (intro w hC; go_simp; try with_reducible rfl)); (try simp only [Act.put, List.getElem_toArray, List.getElem_cons_succ, List.getElem_cons_zero, List.setIfInBounds_toArray, List.set_cons_zero, List.set_cons_succ]))
          (refine q_val (v := ?_) (by rfl) ?_ ?_; rotate_left; (· (intro w hC; go_simp; try with_reducible rfl)); (try simp only [Act.put, List.getElem_toArray, List.getElem_cons_succ, List.getElem_cons_zero, List.setIfInBounds_toArray, List.set_cons_zero, List.set_cons_succ]))
          refine wpQuiet_nil ?_
          intro w5 hC5
          have J5 := Lib.hid (J30.out.next ok hC5.kn.below)
          clear hC5 G3 J30
          go_wp2_with fail
          go_round
          case rel => exact ⟨k + 1, l, by omega, by omega, by go_num, J5.out⟩
          case measure => simp [intOf]; omega
        · have hg := (ok.get x.vid J.out.tab).mono (R' := fun e w' => e = .returned (.tuple #[.agg (vlA y), .bool true]) ∧ Below W.heap.size W w') (fun e w' ⟨h1, h2⟩ => by
            rcases h2 with ⟨h3, -⟩ | ⟨k2, x2, h3, h4, h5⟩
            · rw [hat] at h3; omega
            · have : k2 = j := by omega
              subst this
              rw [hy] at h4
              cases h4
              exact ⟨h5, h1⟩)
          have AT := Lib.hid hat
          have HY := Lib.hid hy
          have hjl : j < l.length := (List.getElem?_eq_some_iff.1 hy).1
          clear hat hy
          obtain ⟨arr2, harr2⟩ : ∃ arr2, arr2 = vlA y := ⟨_, rfl⟩
          rw [← harr2] at hg
          have HA2 := Lib.hid (show arr2.toList = vlC y by rw [harr2]; rfl)
          have hl3 := Lib.hid (show arr2.toList.length = 3 by rw [harr2]; rfl)
          have hz53 := Lib.hid (show (Try.prog.info? 53).map (·.size) = some arr2.size by rw [harr2]; exact vinfo53)
          have B0 := Lib.hid (show arr2[0]? = some (.int .u16 (y.vid : Nat)) by rw [harr2]; rfl)
          have B1 := Lib.hid (show arr2[1]? = some (.int .u32 (y.mem : Nat)) by rw [harr2]; rfl)
          have B2 := Lib.hid (show arr2[2]? = some (.int .u32 (y.unt : Nat)) by rw [harr2]; rfl)
          have EQ : ∀ W : World, (Op.equalIn 10000 53 (.agg #[.int .u16 (y.vid : Nat), .int .u32 (y.mem : Nat), .int .u32 (y.unt : Nat)]) (.agg arr2)).run Try.prog W = .ok true W := by rw [harr2]; exact equal_r53 y
          rcases J.out.own.cases with ⟨-, rfl⟩ | ⟨g, cp, rfl, -, -, hcl, hcm⟩
          · simp at hjl
          have hjn : (j : Int) < (l.length : Int) := by omega
          have hjc : j ≤ cp := by omega
          have hz48 := Lib.hid (show (Try.prog.info? 48).map (·.size) = some arr2.size by rw [harr2]; kernel_rfl)
          have hy48 := Lib.hid (show vlNil.size = arr2.size from (congrArg Array.size harr2).symm)
          have ho48 := Lib.hid (show arr2.all (·.oneCell') = true by rw [harr2]; simp [Value.oneCell'])
          clear harr2
          go_upto_region 18 with (first
            | (go_at_call 20; refine hg.mono ?_; rintro e w3 ⟨rfl, hb3⟩
               have hd1 : w3.cell? ⟨c, 1, none⟩ = some (.int .u16 (x.vid : Nat)) := (World.cell?_of_block (w := W) (hb3.block c BK.out.lt)).trans hc1
               have R3 := Lib.hid (show (w3.alloc (.cells vlNil 48)).heap[w3.heap.size]? = some (.cells vlNil 48 (0, 0)) from heap_alloc_new w3 _)
               have K3 := Lib.hid (show Kn w3 [(w3.heap.size, arr2, 48)] ((w3.alloc (.cells vlNil 48)).setRow w3.heap.size arr2) from (Kn.nil w3).laid arr2 vlNil 48))
            | (refine wpList_store_row rfl 48 _ _ rfl w3.heap.size arr2 rfl rfl 48 vlNil R3.out hz48.out hy48.out ho48.out ?_))
          obtain ⟨w4, hw4⟩ : ∃ w4, w4 = (w3.alloc (.cells vlNil 48)).setRow w3.heap.size arr2 := ⟨_, rfl⟩
          rw [← hw4] at K3 ⊢
          have J30 := Lib.hid (J.out.next ok hb3)
          have J3 := Lib.hid (J30.out.next ok K3.out.below)
          have hd2 : w4.cell? ⟨c, 1, none⟩ = some (.int .u16 (x.vid : Nat)) := (World.cell?_of_block (a := ⟨c, 1, none⟩) (K3.out.below.block c (Nat.lt_of_lt_of_le BK.out.lt hb3.size))).trans hd1
          have G3 := Lib.hid (show Gt w3 w3.heap.size arr2 B _ l w4 from ⟨K3.out, J3.out.own⟩)
          obtain ⟨g3, hg3⟩ : ∃ g3, w3.heap.size = g3 := ⟨_, rfl⟩
          clear hw4 K3 hb3 J hd1 R3 hg
          rw [hg3] at G3 ⊢
          clear hg3
          go_upto_region 19 with (go_at_call 21; refine (rat_any B x.vid _ l _ J3.out.own (by have := J3.out.few; omega)).mono ?_; rintro e w5 ⟨rfl, rfl⟩; rw [AT.out])
          clear hd2 J3
          refine wp_region_quiet (C := Gt w3 g3 arr2 B _ l) (by kernel_rfl) (by kernel_rfl) G3.out.drew ?_
          (refine q_val (v := ?_) (by rfl) ?_ ?_; rotate_left; (· (intro w hC; go_simp; try with_reducible rfl)); (try simp only [Act.put, List.getElem_toArray, List.getElem_cons_succ, List.getElem_cons_zero, List.setIfInBounds_toArray, List.set_cons_zero, List.set_cons_succ]))
          (refine q_val (v := ?_) (by rfl) ?_ ?_; rotate_left; (· (intro w hC; go_simp; try with_reducible rfl)); (try simp only [Act.put, List.getElem_toArray, List.getElem_cons_succ, List.getElem_cons_zero, List.setIfInBounds_toArray, List.set_cons_zero, List.set_cons_succ]))
          (refine q_val (v := ?_) (by rfl) ?_ ?_; rotate_left; (· (intro w hC; go_simp; try with_reducible rfl)); (try simp only [Act.put, List.getElem_toArray, List.getElem_cons_succ, List.getElem_cons_zero, List.setIfInBounds_toArray, List.set_cons_zero, List.set_cons_succ]))
          (refine q_val (v := ?_) (by rfl) ?_ ?_; rotate_left; (· (intro w hC; go_simp; try with_reducible rfl)); (try simp only [Act.put, List.getElem_toArray, List.getElem_cons_succ, List.getElem_cons_zero, List.setIfInBounds_toArray, List.set_cons_zero, List.set_cons_succ]))
          (refine q_val (v := ?_) (by rfl) ?_ ?_; rotate_left; (· (intro w hC; go_simp; try with_reducible rfl)); (try simp only [Act.put, List.getElem_toArray, List.getElem_cons_succ, List.getElem_cons_zero, List.setIfInBounds_toArray, List.set_cons_zero, List.set_cons_succ]))
          (refine q_val (v := ?_) (by rfl) ?_ ?_; rotate_left; (· (intro w hC; go_simp; try with_reducible rfl)); (try simp only [Act.put, List.getElem_toArray, List.getElem_cons_succ, List.getElem_cons_zero, List.setIfInBounds_toArray, List.set_cons_zero, List.set_cons_succ]))
          (refine q_val (v := ?_) (by rfl) ?_ ?_; rotate_left; (· (intro w hC; go_simp; try with_reducible rfl)); (try simp only [Act.put, List.getElem_toArray, List.getElem_cons_succ, List.getElem_cons_zero, List.setIfInBounds_toArray, List.set_cons_zero, List.set_cons_succ]))
          (refine q_val (v := ?_) (by rfl) ?_ ?_; rotate_left; (· (intro w hC; go_simp; try with_reducible rfl)); (try simp only [Act.put, List.getElem_toArray, List.getElem_cons_succ, List.getElem_cons_zero, List.setIfInBounds_toArray, List.set_cons_zero, List.set_cons_succ]))
          (refine q_val (v := ?_) (by rfl) ?_ ?_; rotate_left; (· (intro w hC; have q := ((hC.kn.at 0 rfl).cell 0).trans B0.out; go_simp; try with_reducible rfl)); (try simp only [Act.put, List.getElem_toArray, List.getElem_cons_succ, List.getElem_cons_zero, List.setIfInBounds_toArray, List.set_cons_zero, List.set_cons_succ]))
          (refine q_val (v := ?_) (by rfl) ?_ ?_; rotate_left; (· (intro w hC; go_simp; try with_reducible rfl)); (try simp only [Act.put, List.getElem_toArray, List.getElem_cons_succ, List.getElem_cons_zero, List.setIfInBounds_toArray, List.set_cons_zero, List.set_cons_succ]))
          (refine q_val (v := ?_) (by rfl) ?_ ?_; rotate_left; (· (intro w hC; have q := ((hC.kn.at 0 rfl).cell 1).trans B1.out; go_simp; try with_reducible rfl)); (try simp only [Act.put, List.getElem_toArray, List.getElem_cons_succ, List.getElem_cons_zero, List.setIfInBounds_toArray, List.set_cons_zero, List.set_cons_succ]))
          (refine q_val (v := ?_) (by rfl) ?_ ?_; rotate_left; (· (intro w hC; go_simp; try with_reducible rfl)); (try simp only [Act.put, List.getElem_toArray, List.getElem_cons_succ, List.getElem_cons_zero, List.setIfInBounds_toArray, List.set_cons_zero, List.set_cons_succ]))
          (refine q_val (v := ?_) (by rfl) ?_ ?_; rotate_left; (· (intro w hC; have q := ((hC.kn.at 0 rfl).cell 2).trans B2.out; go_simp; try with_reducible rfl)); (try simp only [Act.put, List.getElem_toArray, List.getElem_cons_succ, List.getElem_cons_zero, List.setIfInBounds_toArray, List.set_cons_zero, List.set_cons_succ]))
          (refine q_val (v := ?_) (by rfl) ?_ ?_; rotate_left; (· (intro w hC; go_simp; try with_reducible rfl)); (try simp only [Act.put, List.getElem_toArray, List.getElem_cons_succ, List.getElem_cons_zero, List.setIfInBounds_toArray, List.set_cons_zero, List.set_cons_succ]))
          (refine q_val (v := ?_) (by rfl) ?_ ?_; rotate_left; (· (intro w hC; go_simp; try with_reducible rfl)); (try simp only [Act.put, List.getElem_toArray, List.getElem_cons_succ, List.getElem_cons_zero, List.setIfInBounds_toArray, List.set_cons_zero, List.set_cons_succ]))
          (refine q_val (v := ?_) (by rfl) ?_ ?_; rotate_left; (· (intro w hC; go_simp; try with_reducible rfl)); (try simp only [Act.put, List.getElem_toArray, List.getElem_cons_succ, List.getElem_cons_zero, List.setIfInBounds_toArray, List.set_cons_zero, List.set_cons_succ]))
          (refine q_val (v := ?_) (by rfl) ?_ ?_; rotate_left; (· (intro w hC; go_simp; try with_reducible rfl)); (try simp only [Act.put, List.getElem_toArray, List.getElem_cons_succ, List.getElem_cons_zero, List.setIfInBounds_toArray, List.set_cons_zero, List.set_cons_succ]))
          (refine q_val (v := .agg arr2) (by rfl) (fun w hC => run_loadRange 53 _ rfl g (j * 3) rfl arr2 _ (fun i u hu => (Own.at vlC_len hC.own j i y HY.out (Nat.lt_of_lt_of_eq (List.getElem?_eq_some_iff.1 hu).1 hl3.out)).trans (by rw [← hu, HA2.out])) Try.underlying53 rfl hz53.out) ?_; (try simp only [Act.put, List.getElem_toArray, List.getElem_cons_succ, List.getElem_cons_zero, List.setIfInBounds_toArray, List.set_cons_zero, List.set_cons_succ]))
          (refine q_val (v := ?_) (by rfl) ?_ ?_; rotate_left; (· (intro w hC; go_simp; try with_reducible rfl)); (try simp only [Act.put, List.getElem_toArray, List.getElem_cons_succ, List.getElem_cons_zero, List.setIfInBounds_toArray, List.set_cons_zero, List.set_cons_succ]))
          (refine q_val (v := ?_) (by rfl) ?_ ?_; rotate_left; (· (intro w hC; go_simp; try with_reducible rfl)); (try simp only [Act.put, List.getElem_toArray, List.getElem_cons_succ, List.getElem_cons_zero, List.setIfInBounds_toArray, List.set_cons_zero, List.set_cons_succ]))
          (refine q_val (v := ?_) (by rfl) ?_ ?_; rotate_left; (· (intro w hC; go_simp; try with_reducible rfl)); (try simp only [Act.put, List.getElem_toArray, List.getElem_cons_succ, List.getElem_cons_zero, List.setIfInBounds_toArray, List.set_cons_zero, List.set_cons_succ]))
          (refine q_val (v := ?_) (by rfl) ?_ ?_; rotate_left; (· (intro w hC; go_simp; try with_reducible rfl)); (try simp only [Act.put, List.getElem_toArray, List.getElem_cons_succ, List.getElem_cons_zero, List.setIfInBounds_toArray, List.set_cons_zero, List.set_cons_succ]))
          (refine q_val (v := ?_) (by rfl) ?_ ?_; rotate_left; (· (intro w hC; go_simp; try with_reducible rfl)); (try simp only [Act.put, List.getElem_toArray, List.getElem_cons_succ, List.getElem_cons_zero, List.setIfInBounds_toArray, List.set_cons_zero, List.set_cons_succ]))
          (refine q_val (v := ?_) (by rfl) ?_ ?_; rotate_left; (· (intro w hC; go_simp; try with_reducible rfl)); (try simp only [Act.put, List.getElem_toArray, List.getElem_cons_succ, List.getElem_cons_zero, List.setIfInBounds_toArray, List.set_cons_zero, List.set_cons_succ]))
          (refine q_val (v := ?_) (by rfl) ?_ ?_; rotate_left; (· (intro w hC; go_simp; try with_reducible rfl)); (try simp only [Act.put, List.getElem_toArray, List.getElem_cons_succ, List.getElem_cons_zero, List.setIfInBounds_toArray, List.set_cons_zero, List.set_cons_succ]))
          (refine q_skip (by rfl) ?_; (try simp only [Act.put, List.getElem_toArray, List.getElem_cons_succ, List.getElem_cons_zero, List.setIfInBounds_toArray, List.set_cons_zero, List.set_cons_succ]))
          (refine q_skip (by rfl) ?_; (try simp only [Act.put, List.getElem_toArray, List.getElem_cons_succ, List.getElem_cons_zero, List.setIfInBounds_toArray, List.set_cons_zero, List.set_cons_succ]))
          (refine q_skip (by rfl) ?_; (try simp only [Act.put, List.getElem_toArray, List.getElem_cons_succ, List.getElem_cons_zero, List.setIfInBounds_toArray, List.set_cons_zero, List.set_cons_succ]))
          (refine q_val (v := ?_) (by rfl) ?_ ?_; rotate_left; (· (intro w hC; go_simp; try with_reducible rfl)); (try simp only [Act.put, List.getElem_toArray, List.getElem_cons_succ, List.getElem_cons_zero, List.setIfInBounds_toArray, List.set_cons_zero, List.set_cons_succ]))
          (refine q_val (v := ?_) (by rfl) ?_ ?_; rotate_left; (· (intro w hC; go_simp; try with_reducible rfl)); (try simp only [Act.put, List.getElem_toArray, List.getElem_cons_succ, List.getElem_cons_zero, List.setIfInBounds_toArray, List.set_cons_zero, List.set_cons_succ]))
          refine wpQuiet_nil ?_
          intro w5 hC5
          have J5 := Lib.hid (J30.out.next ok hC5.kn.below)
          clear hC5 G3 J30
          go_wp2_with fail
          go_round
          case rel => exact ⟨k + 1, l, by omega, by omega, by go_num, J5.out⟩
          case measure => simp [intOf]; omega
      have e3 : (d == 3) = false := by simpa using d3
      have e4 : (d == 4) = false := by simpa using d4
      clear d3 d4
      go_upto_region 21 with (first
        | (go_at_call 22; refine (ok.set ⟨x.vid, x.mem, x.unt⟩ J.out.tab J.out.low.2.1 J.out.low.2.2).mono ?_; rintro e w3 ⟨rfl, ht3, hk3⟩
           have hd1 : w3.cell? ⟨c, 1, none⟩ = some (.int .u16 (x.vid : Nat)) := (World.cell?_of_block (w := W) (hk3.block c (.inr HCB.out) BK.out.lt)).trans hc1
           have hd2 : w3.cell? ⟨c, 2, none⟩ = some (.int .u32 (x.mem : Nat)) := (World.cell?_of_block (w := W) (hk3.block c (.inr HCB.out) BK.out.lt)).trans hc2
           have hd3 : w3.cell? ⟨c, 3, none⟩ = some (.int .u32 (x.unt : Nat)) := (World.cell?_of_block (w := W) (hk3.block c (.inr HCB.out) BK.out.lt)).trans hc3
           have hb3 : B ≤ w3.heap.size := Nat.le_trans J.out.low.2.2 hk3.size
           have ho3 := Lib.hid (hk3.own J.out.own (Nat.le_refl B)))
        | (go_at_call 23; refine (rset_any B _ l ⟨x.vid, x.mem, x.unt⟩ _ ho3.out hb3 (by have := J.out.few; omega)).mono ?_; rintro e w4 ⟨m', rfl, ho4, hb4⟩))
      have J2 := Lib.hid (J.out.after ht3 hk3 ho4 hb4 (setV_few l ⟨x.vid, x.mem, x.unt⟩ J.out.few) ok)
      clear ht3 hk3 ho4 hb4 ho3
      go_wp2_with fail
      go_round
      case rel => exact ⟨k + 1, setV l ⟨x.vid, x.mem, x.unt⟩, by omega, by omega, by go_num, J2.out⟩
      case measure => simp [intOf]; omega
    · rcases Nat.lt_or_ge k len with h1 | h1
      · have h2 : ¬ k < 50 := fun h => hlt ⟨h1, h⟩
        have g2 : ¬ (k : Int) < 50 := by omega
        clear hlt
        go_upto_region 24 with (go_at_call 24; refine (ok.list HI.out.tab).mono ?_; rintro e w3 ⟨A1, c1, rfl, hrow1, hb3⟩)
        have J3 := Lib.hid (HI.out.next ok hb3)
        obtain ⟨A2, c2, hm, hrow2⟩ := src_rows vlC_len (by omega) J3.out.own.src
        subst hm
        have BL := Lib.hid J3.out.below
        have HF := Lib.hid J3.out.few
        have HRW1 := Lib.hid hrow1
        have HRW2 := Lib.hid hrow2
        obtain ⟨n, hn⟩ : ∃ n, l.length = n := ⟨_, rfl⟩
        rw [hn]
        have HN := Lib.hid hn
        clear hrow1 hrow2 hb3 J3 HI hn
        go_upto_region 27 with fail
        go_loopw [13] (fun i wr => ∃ k : Nat, k ≤ n ∧ i = .int .i64 k ∧ Below w3.heap.size w3 wr) (fun i _ => n - (intOf i).toNat)
        case atStart => exact ⟨0, Nat.zero_le _, rfl, Below.refl _ _⟩
        case round =>
          obtain ⟨k, hk, rfl, hbw⟩ := hrel
          have HBW := Lib.hid hbw
          clear hbw
          by_cases hkn : k < n
          · obtain ⟨x, hx⟩ : ∃ x, l[k]? = some x := ⟨_, List.getElem?_eq_getElem (show k < l.length by rw [HN.out]; exact hkn)⟩
            rcases HRW1.out with hnil | ⟨b1, o1, rfl, hb1, hc1⟩
            · rw [hnil] at hx; simp at hx
            rcases HRW2.out with hnil | ⟨b2, o2, rfl, hb2, hc2⟩
            · rw [hnil] at hx; simp at hx
            obtain ⟨arr1, harr1⟩ : ∃ arr1, arr1 = vlA x := ⟨_, rfl⟩
            have HR1 := Lib.hid (show ∀ w, Below w3.heap.size w3 w → w.rangeAt b1 (o1 + k * 3) arr1.toList from fun w hC j u hu => by
              rw [harr1] at hu
              have q := hc1 k x hx j u hu
              rw [Nat.add_assoc, hC.cell (p := ⟨b1, o1 + (k * 3 + j), none⟩) hb1]
              exact q)
            have HC0 := Lib.hid (show ∀ w, Below w3.heap.size w3 w → w.cell? ⟨b2, o2 + k * 3, none⟩ = some (.int .u16 (x.vid : Nat)) from fun w hC => by
              rw [hC.cell (p := ⟨b2, o2 + k * 3, none⟩) hb2]
              exact hc2 k x hx 0 _ rfl)
            have HC1 := Lib.hid (show ∀ w, Below w3.heap.size w3 w → w.cell? ⟨b2, o2 + k * 3 + 1, none⟩ = some (.int .u32 (x.mem : Nat)) from fun w hC => by
              rw [hC.cell (p := ⟨b2, o2 + k * 3 + 1, none⟩) hb2]
              exact hc2 k x hx 1 _ rfl)
            have HC2 := Lib.hid (show ∀ w, Below w3.heap.size w3 w → w.cell? ⟨b2, o2 + k * 3 + 2, none⟩ = some (.int .u32 (x.unt : Nat)) from fun w hC => by
              rw [hC.cell (p := ⟨b2, o2 + k * 3 + 2, none⟩) hb2]
              exact hc2 k x hx 2 _ rfl)
            have hz48 := Lib.hid (show (Try.prog.info? 48).map (·.size) = some arr1.toList.length by rw [harr1]; kernel_rfl)
            have EQ : ∀ W : World, (Op.equalIn 10000 48 (.agg arr1) (.agg #[.int .u16 (x.vid : Nat), .int .u32 (x.mem : Nat), .int .u32 (x.unt : Nat)])).run Try.prog W = .ok true W := by rw [harr1]; exact equal_p48 _ _ _
            have hkn' : (k : Int) < (n : Int) := by omega
            have hk0 : (0 : Int) ≤ (k : Int) := by omega
            have hn64 : (n : Int) ≤ 16 := by have := HF.out; have := HN.out; omega
            clear harr1 hx hc1 hc2
            go_upto_region 29 with fail
            refine wp_region_quiet (C := fun w => Below w3.heap.size w3 w) (by kernel_rfl) (by kernel_rfl) HBW.out.drew ?_
            (refine q_val (v := ?_) (by rfl) ?_ ?_; rotate_left; (· (intro w hC; go_simp; try with_reducible rfl)); (try simp only [Act.put, List.getElem_toArray, List.getElem_cons_succ, List.getElem_cons_zero, List.setIfInBounds_toArray, List.set_cons_zero, List.set_cons_succ]))
            (refine q_val (v := ?_) (by rfl) ?_ ?_; rotate_left; (· (intro w hC; go_simp; try with_reducible rfl)); (try simp only [Act.put, List.getElem_toArray, List.getElem_cons_succ, List.getElem_cons_zero, List.setIfInBounds_toArray, List.set_cons_zero, List.set_cons_succ]))
            (refine q_val (v := ?_) (by rfl) ?_ ?_; rotate_left; (· (intro w hC; go_simp; try with_reducible rfl)); (try simp only [Act.put, List.getElem_toArray, List.getElem_cons_succ, List.getElem_cons_zero, List.setIfInBounds_toArray, List.set_cons_zero, List.set_cons_succ]))
            (refine q_val (v := .agg arr1) (by rfl) (fun w hC => run_loadRange 48 _ rfl b1 (o1 + k * 3) rfl arr1 _ (HR1.out w hC) Try.underlying48 rfl hz48.out) ?_; (try simp only [Act.put, List.getElem_toArray, List.getElem_cons_succ, List.getElem_cons_zero, List.setIfInBounds_toArray, List.set_cons_zero, List.set_cons_succ]))
            (refine q_val (v := ?_) (by rfl) ?_ ?_; rotate_left; (· (intro w hC; go_simp; try with_reducible rfl)); (try simp only [Act.put, List.getElem_toArray, List.getElem_cons_succ, List.getElem_cons_zero, List.setIfInBounds_toArray, List.set_cons_zero, List.set_cons_succ]))
            (refine q_val (v := ?_) (by rfl) ?_ ?_; rotate_left; (· (intro w hC; go_simp; try with_reducible rfl)); (try simp only [Act.put, List.getElem_toArray, List.getElem_cons_succ, List.getElem_cons_zero, List.setIfInBounds_toArray, List.set_cons_zero, List.set_cons_succ]))
            (refine q_val (v := ?_) (by rfl) ?_ ?_; rotate_left; (· (intro w hC; go_simp; try with_reducible rfl)); (try simp only [Act.put, List.getElem_toArray, List.getElem_cons_succ, List.getElem_cons_zero, List.setIfInBounds_toArray, List.set_cons_zero, List.set_cons_succ]))
            (refine q_val (v := ?_) (by rfl) ?_ ?_; rotate_left; (· (intro w hC; go_simp; try with_reducible rfl)); (try simp only [Act.put, List.getElem_toArray, List.getElem_cons_succ, List.getElem_cons_zero, List.setIfInBounds_toArray, List.set_cons_zero, List.set_cons_succ]))
            (refine q_val (v := ?_) (by rfl) ?_ ?_; rotate_left; (· (intro w hC; have q := HC0.out w hC; go_simp; try with_reducible rfl)); (try simp only [Act.put, List.getElem_toArray, List.getElem_cons_succ, List.getElem_cons_zero, List.setIfInBounds_toArray, List.set_cons_zero, List.set_cons_succ]))
            (refine q_val (v := ?_) (by rfl) ?_ ?_; rotate_left; (· (intro w hC; go_simp; try with_reducible rfl)); (try simp only [Act.put, List.getElem_toArray, List.getElem_cons_succ, List.getElem_cons_zero, List.setIfInBounds_toArray, List.set_cons_zero, List.set_cons_succ]))
            (refine q_val (v := ?_) (by rfl) ?_ ?_; rotate_left; (· (intro w hC; go_simp; try with_reducible rfl)); (try simp only [Act.put, List.getElem_toArray, List.getElem_cons_succ, List.getElem_cons_zero, List.setIfInBounds_toArray, List.set_cons_zero, List.set_cons_succ]))
            (refine q_val (v := ?_) (by rfl) ?_ ?_; rotate_left; (· (intro w hC; go_simp; try with_reducible rfl)); (try simp only [Act.put, List.getElem_toArray, List.getElem_cons_succ, List.getElem_cons_zero, List.setIfInBounds_toArray, List.set_cons_zero, List.set_cons_succ]))
            (refine q_val (v := ?_) (by rfl) ?_ ?_; rotate_left; (· (intro w hC; go_simp; try with_reducible rfl)); (try simp only [Act.put, List.getElem_toArray, List.getElem_cons_succ, List.getElem_cons_zero, List.setIfInBounds_toArray, List.set_cons_zero, List.set_cons_succ]))
            (refine q_val (v := ?_) (by rfl) ?_ ?_; rotate_left; (· (intro w hC; have q := HC1.out w hC; go_simp; try with_reducible rfl)); (try simp only [Act.put, List.getElem_toArray, List.getElem_cons_succ, List.getElem_cons_zero, List.setIfInBounds_toArray, List.set_cons_zero, List.set_cons_succ]))
            (refine q_val (v := ?_) (by rfl) ?_ ?_; rotate_left; (· (intro w hC; go_simp; try with_reducible rfl)); (try simp only [Act.put, List.getElem_toArray, List.getElem_cons_succ, List.getElem_cons_zero, List.setIfInBounds_toArray, List.set_cons_zero, List.set_cons_succ]))
            (refine q_val (v := ?_) (by rfl) ?_ ?_; rotate_left; (· (intro w hC; go_simp; try with_reducible rfl)); (try simp only [Act.put, List.getElem_toArray, List.getElem_cons_succ, List.getElem_cons_zero, List.setIfInBounds_toArray, List.set_cons_zero, List.set_cons_succ]))
            (refine q_val (v := ?_) (by rfl) ?_ ?_; rotate_left; (· (intro w hC; go_simp; try with_reducible rfl)); (try simp only [Act.put, List.getElem_toArray, List.getElem_cons_succ, List.getElem_cons_zero, List.setIfInBounds_toArray, List.set_cons_zero, List.set_cons_succ]))
            (refine q_val (v := ?_) (by rfl) ?_ ?_; rotate_left; (· (intro w hC; go_simp; try with_reducible rfl)); (try simp only [Act.put, List.getElem_toArray, List.getElem_cons_succ, List.getElem_cons_zero, List.setIfInBounds_toArray, List.set_cons_zero, List.set_cons_succ]))
            (refine q_val (v := ?_) (by rfl) ?_ ?_; rotate_left; (· (intro w hC; have q := HC2.out w hC; go_simp; try with_reducible rfl)); (try simp only [Act.put, List.getElem_toArray, List.getElem_cons_succ, List.getElem_cons_zero, List.setIfInBounds_toArray, List.set_cons_zero, List.set_cons_succ]))
            (refine q_val (v := ?_) (by rfl) ?_ ?_; rotate_left; (· (intro w hC; go_simp; try with_reducible rfl)); (try simp only [Act.put, List.getElem_toArray, List.getElem_cons_succ, List.getElem_cons_zero, List.setIfInBounds_toArray, List.set_cons_zero, List.set_cons_succ]))
            (refine q_val (v := ?_) (by rfl) ?_ ?_; rotate_left; (· (intro w hC; have q := EQ; go_simp; try with_reducible rfl)); (try simp only [Act.put, List.getElem_toArray, List.getElem_cons_succ, List.getElem_cons_zero, List.setIfInBounds_toArray, List.set_cons_zero, List.set_cons_succ]))
            refine wpQuiet_nil ?_
            intro w5 hC5
            have HB5 := Lib.hid hC5
            clear hC5
            go_wp2_with fail
            go_roundw
            case rel => exact ⟨k + 1, by omega, by go_num, HB5.out⟩
            case measure => simp [intOf]; omega
          · have hkn' : ¬ (k : Int) < (n : Int) := by omega
            clear hkn
            go_upto_region 33 with (first
              | (go_at_call 20; refine (ok.none0 _).mono ?_; rintro e w6 ⟨rfl, hb6⟩))
            go_wp2_with (first
              | (go_at_call 22; refine (ok.none1 _ ⟨1, 0, 0⟩).mono ?_; rintro e w7 ⟨rfl, hb7⟩)
              | (go_at_call 18; refine (ok.none2 _).mono ?_; rintro e w8 ⟨rfl, hb8⟩)
              | (go_at_call 24; refine (ok.none3 _).mono ?_; rintro e w9 ⟨A9, c9, rfl, hb9⟩))
            go_ret
            have z1 := BL.out.trans (HBW.out.mono BL.out.size)
            have z2 := z1.trans (hb6.mono z1.size)
            have z3 := z2.alloc z2.size (.cells vlNil 48)
            have z4 := z3.trans (hb7.mono z3.size)
            have z5 := z4.trans (hb8.mono z4.size)
            exact ⟨rfl, z5.trans (hb9.mono z5.size)⟩
      · have g1 : ¬ (k : Int) < (len : Int) := by omega
        clear hlt
        go_upto_region 24 with (go_at_call 24; refine (ok.list HI.out.tab).mono ?_; rintro e w3 ⟨A1, c1, rfl, hrow1, hb3⟩)
        have J3 := Lib.hid (HI.out.next ok hb3)
        obtain ⟨A2, c2, hm, hrow2⟩ := src_rows vlC_len (by omega) J3.out.own.src
        subst hm
        have BL := Lib.hid J3.out.below
        have HF := Lib.hid J3.out.few
        have HRW1 := Lib.hid hrow1
        have HRW2 := Lib.hid hrow2
        obtain ⟨n, hn⟩ : ∃ n, l.length = n := ⟨_, rfl⟩
        rw [hn]
        have HN := Lib.hid hn
        clear hrow1 hrow2 hb3 J3 HI hn
        go_upto_region 27 with fail
        go_loopw [13] (fun i wr => ∃ k : Nat, k ≤ n ∧ i = .int .i64 k ∧ Below w3.heap.size w3 wr) (fun i _ => n - (intOf i).toNat)
        case atStart => exact ⟨0, Nat.zero_le _, rfl, Below.refl _ _⟩
        case round =>
          obtain ⟨k, hk, rfl, hbw⟩ := hrel
          have HBW := Lib.hid hbw
          clear hbw
          by_cases hkn : k < n
          · obtain ⟨x, hx⟩ : ∃ x, l[k]? = some x := ⟨_, List.getElem?_eq_getElem (show k < l.length by rw [HN.out]; exact hkn)⟩
            rcases HRW1.out with hnil | ⟨b1, o1, rfl, hb1, hc1⟩
            · rw [hnil] at hx; simp at hx
            rcases HRW2.out with hnil | ⟨b2, o2, rfl, hb2, hc2⟩
            · rw [hnil] at hx; simp at hx
            obtain ⟨arr1, harr1⟩ : ∃ arr1, arr1 = vlA x := ⟨_, rfl⟩
            have HR1 := Lib.hid (show ∀ w, Below w3.heap.size w3 w → w.rangeAt b1 (o1 + k * 3) arr1.toList from fun w hC j u hu => by
              rw [harr1] at hu
              have q := hc1 k x hx j u hu
              rw [Nat.add_assoc, hC.cell (p := ⟨b1, o1 + (k * 3 + j), none⟩) hb1]
              exact q)
            have HC0 := Lib.hid (show ∀ w, Below w3.heap.size w3 w → w.cell? ⟨b2, o2 + k * 3, none⟩ = some (.int .u16 (x.vid : Nat)) from fun w hC => by
              rw [hC.cell (p := ⟨b2, o2 + k * 3, none⟩) hb2]
              exact hc2 k x hx 0 _ rfl)
            have HC1 := Lib.hid (show ∀ w, Below w3.heap.size w3 w → w.cell? ⟨b2, o2 + k * 3 + 1, none⟩ = some (.int .u32 (x.mem : Nat)) from fun w hC => by
              rw [hC.cell (p := ⟨b2, o2 + k * 3 + 1, none⟩) hb2]
              exact hc2 k x hx 1 _ rfl)
            have HC2 := Lib.hid (show ∀ w, Below w3.heap.size w3 w → w.cell? ⟨b2, o2 + k * 3 + 2, none⟩ = some (.int .u32 (x.unt : Nat)) from fun w hC => by
              rw [hC.cell (p := ⟨b2, o2 + k * 3 + 2, none⟩) hb2]
              exact hc2 k x hx 2 _ rfl)
            have hz48 := Lib.hid (show (Try.prog.info? 48).map (·.size) = some arr1.toList.length by rw [harr1]; kernel_rfl)
            have EQ : ∀ W : World, (Op.equalIn 10000 48 (.agg arr1) (.agg #[.int .u16 (x.vid : Nat), .int .u32 (x.mem : Nat), .int .u32 (x.unt : Nat)])).run Try.prog W = .ok true W := by rw [harr1]; exact equal_p48 _ _ _
            have hkn' : (k : Int) < (n : Int) := by omega
            have hk0 : (0 : Int) ≤ (k : Int) := by omega
            have hn64 : (n : Int) ≤ 16 := by have := HF.out; have := HN.out; omega
            clear harr1 hx hc1 hc2
            go_upto_region 29 with fail
            refine wp_region_quiet (C := fun w => Below w3.heap.size w3 w) (by kernel_rfl) (by kernel_rfl) HBW.out.drew ?_
            (refine q_val (v := ?_) (by rfl) ?_ ?_; rotate_left; (· (intro w hC; go_simp; try with_reducible rfl)); (try simp only [Act.put, List.getElem_toArray, List.getElem_cons_succ, List.getElem_cons_zero, List.setIfInBounds_toArray, List.set_cons_zero, List.set_cons_succ]))
            (refine q_val (v := ?_) (by rfl) ?_ ?_; rotate_left; (· (intro w hC; go_simp; try with_reducible rfl)); (try simp only [Act.put, List.getElem_toArray, List.getElem_cons_succ, List.getElem_cons_zero, List.setIfInBounds_toArray, List.set_cons_zero, List.set_cons_succ]))
            (refine q_val (v := ?_) (by rfl) ?_ ?_; rotate_left; (· (intro w hC; go_simp; try with_reducible rfl)); (try simp only [Act.put, List.getElem_toArray, List.getElem_cons_succ, List.getElem_cons_zero, List.setIfInBounds_toArray, List.set_cons_zero, List.set_cons_succ]))
            (refine q_val (v := .agg arr1) (by rfl) (fun w hC => run_loadRange 48 _ rfl b1 (o1 + k * 3) rfl arr1 _ (HR1.out w hC) Try.underlying48 rfl hz48.out) ?_; (try simp only [Act.put, List.getElem_toArray, List.getElem_cons_succ, List.getElem_cons_zero, List.setIfInBounds_toArray, List.set_cons_zero, List.set_cons_succ]))
            (refine q_val (v := ?_) (by rfl) ?_ ?_; rotate_left; (· (intro w hC; go_simp; try with_reducible rfl)); (try simp only [Act.put, List.getElem_toArray, List.getElem_cons_succ, List.getElem_cons_zero, List.setIfInBounds_toArray, List.set_cons_zero, List.set_cons_succ]))
            (refine q_val (v := ?_) (by rfl) ?_ ?_; rotate_left; (· (intro w hC; go_simp; try with_reducible rfl)); (try simp only [Act.put, List.getElem_toArray, List.getElem_cons_succ, List.getElem_cons_zero, List.setIfInBounds_toArray, List.set_cons_zero, List.set_cons_succ]))
            (refine q_val (v := ?_) (by rfl) ?_ ?_; rotate_left; (· (intro w hC; go_simp; try with_reducible rfl)); (try simp only [Act.put, List.getElem_toArray, List.getElem_cons_succ, List.getElem_cons_zero, List.setIfInBounds_toArray, List.set_cons_zero, List.set_cons_succ]))
            (refine q_val (v := ?_) (by rfl) ?_ ?_; rotate_left; (· (intro w hC; go_simp; try with_reducible rfl)); (try simp only [Act.put, List.getElem_toArray, List.getElem_cons_succ, List.getElem_cons_zero, List.setIfInBounds_toArray, List.set_cons_zero, List.set_cons_succ]))
            (refine q_val (v := ?_) (by rfl) ?_ ?_; rotate_left; (· (intro w hC; have q := HC0.out w hC; go_simp; try with_reducible rfl)); (try simp only [Act.put, List.getElem_toArray, List.getElem_cons_succ, List.getElem_cons_zero, List.setIfInBounds_toArray, List.set_cons_zero, List.set_cons_succ]))
            (refine q_val (v := ?_) (by rfl) ?_ ?_; rotate_left; (· (intro w hC; go_simp; try with_reducible rfl)); (try simp only [Act.put, List.getElem_toArray, List.getElem_cons_succ, List.getElem_cons_zero, List.setIfInBounds_toArray, List.set_cons_zero, List.set_cons_succ]))
            (refine q_val (v := ?_) (by rfl) ?_ ?_; rotate_left; (· (intro w hC; go_simp; try with_reducible rfl)); (try simp only [Act.put, List.getElem_toArray, List.getElem_cons_succ, List.getElem_cons_zero, List.setIfInBounds_toArray, List.set_cons_zero, List.set_cons_succ]))
            (refine q_val (v := ?_) (by rfl) ?_ ?_; rotate_left; (· (intro w hC; go_simp; try with_reducible rfl)); (try simp only [Act.put, List.getElem_toArray, List.getElem_cons_succ, List.getElem_cons_zero, List.setIfInBounds_toArray, List.set_cons_zero, List.set_cons_succ]))
            (refine q_val (v := ?_) (by rfl) ?_ ?_; rotate_left; (· (intro w hC; go_simp; try with_reducible rfl)); (try simp only [Act.put, List.getElem_toArray, List.getElem_cons_succ, List.getElem_cons_zero, List.setIfInBounds_toArray, List.set_cons_zero, List.set_cons_succ]))
            (refine q_val (v := ?_) (by rfl) ?_ ?_; rotate_left; (· (intro w hC; have q := HC1.out w hC; go_simp; try with_reducible rfl)); (try simp only [Act.put, List.getElem_toArray, List.getElem_cons_succ, List.getElem_cons_zero, List.setIfInBounds_toArray, List.set_cons_zero, List.set_cons_succ]))
            (refine q_val (v := ?_) (by rfl) ?_ ?_; rotate_left; (· (intro w hC; go_simp; try with_reducible rfl)); (try simp only [Act.put, List.getElem_toArray, List.getElem_cons_succ, List.getElem_cons_zero, List.setIfInBounds_toArray, List.set_cons_zero, List.set_cons_succ]))
            (refine q_val (v := ?_) (by rfl) ?_ ?_; rotate_left; (· (intro w hC; go_simp; try with_reducible rfl)); (try simp only [Act.put, List.getElem_toArray, List.getElem_cons_succ, List.getElem_cons_zero, List.setIfInBounds_toArray, List.set_cons_zero, List.set_cons_succ]))
            (refine q_val (v := ?_) (by rfl) ?_ ?_; rotate_left; (· (intro w hC; go_simp; try with_reducible rfl)); (try simp only [Act.put, List.getElem_toArray, List.getElem_cons_succ, List.getElem_cons_zero, List.setIfInBounds_toArray, List.set_cons_zero, List.set_cons_succ]))
            (refine q_val (v := ?_) (by rfl) ?_ ?_; rotate_left; (· (intro w hC; go_simp; try with_reducible rfl)); (try simp only [Act.put, List.getElem_toArray, List.getElem_cons_succ, List.getElem_cons_zero, List.setIfInBounds_toArray, List.set_cons_zero, List.set_cons_succ]))
            (refine q_val (v := ?_) (by rfl) ?_ ?_; rotate_left; (· (intro w hC; have q := HC2.out w hC; go_simp; try with_reducible rfl)); (try simp only [Act.put, List.getElem_toArray, List.getElem_cons_succ, List.getElem_cons_zero, List.setIfInBounds_toArray, List.set_cons_zero, List.set_cons_succ]))
            (refine q_val (v := ?_) (by rfl) ?_ ?_; rotate_left; (· (intro w hC; go_simp; try with_reducible rfl)); (try simp only [Act.put, List.getElem_toArray, List.getElem_cons_succ, List.getElem_cons_zero, List.setIfInBounds_toArray, List.set_cons_zero, List.set_cons_succ]))
            (refine q_val (v := ?_) (by rfl) ?_ ?_; rotate_left; (· (intro w hC; have q := EQ; go_simp; try with_reducible rfl)); (try simp only [Act.put, List.getElem_toArray, List.getElem_cons_succ, List.getElem_cons_zero, List.setIfInBounds_toArray, List.set_cons_zero, List.set_cons_succ]))
            refine wpQuiet_nil ?_
            intro w5 hC5
            have HB5 := Lib.hid hC5
            clear hC5
            go_wp2_with fail
            go_roundw
            case rel => exact ⟨k + 1, by omega, by go_num, HB5.out⟩
            case measure => simp [intOf]; omega
          · have hkn' : ¬ (k : Int) < (n : Int) := by omega
            clear hkn
            go_upto_region 33 with (first
              | (go_at_call 20; refine (ok.none0 _).mono ?_; rintro e w6 ⟨rfl, hb6⟩))
            go_wp2_with (first
              | (go_at_call 22; refine (ok.none1 _ ⟨1, 0, 0⟩).mono ?_; rintro e w7 ⟨rfl, hb7⟩)
              | (go_at_call 18; refine (ok.none2 _).mono ?_; rintro e w8 ⟨rfl, hb8⟩)
              | (go_at_call 24; refine (ok.none3 _).mono ?_; rintro e w9 ⟨A9, c9, rfl, hb9⟩))
            go_ret
            have z1 := BL.out.trans (HBW.out.mono BL.out.size)
            have z2 := z1.trans (hb6.mono z1.size)
            have z3 := z2.alloc z2.size (.cells vlNil 48)
            have z4 := z3.trans (hb7.mono z3.size)
            have z5 := z4.trans (hb8.mono z4.size)
            exact ⟨rfl, z5.trans (hb9.mono z5.size)⟩
end Go.Proofs.Ytjipbdljljhijaa
