/- The developers' table of VLANs: New, Drop, Get. -/
import Derived.Test.YtpjfpcebjneblaaTab
import Derived.Test.YtpjfpcebjneblaaKept
import Derived.Test.YtpjfpcebjneblaaBks
namespace Go.Proofs.Ytpjfpcebjneblaa
open Go.RowKit
open Go.ChangeMaps (setBlock)
set_option linter.unusedSimpArgs false
set_option linter.unusedVariables false

abbrev vlNilA : Array Value := #[.int .u16 0, .int .u32 0, .int .u32 0]
theorem zero48 (W : World) : (zeroValue 37).run Try.prog W = .ok (.agg vlNilA) W := by kernel_rfl
abbrev kv16 (n : Nat) : Value := .int .u16 (n : Nat)
theorem keys16 : KeyEq Try.prog 22 kv16 (fun _ => True) := int_keys Try.prog 22 .u16 Try.underlying22

/-- The developers' table: a block that holds a map of these VLANs. -/
def TM (w : World) (b A B : Nat) (l : List Vl) : Prop :=
  ∃ (mb : Nat) (L : List (Nat × Vl)), (A ≤ b ∧ b < B) ∧ (A ≤ mb ∧ mb < B) ∧ b ≠ mb ∧ Blk w b #[.map (some mb)] 89 ∧ Tb w mb kv16 vlV L ∧ Rel L l

theorem TM.keep {w w' : World} {b A B : Nat} {l : List Vl} (h : TM w b A B l) (hk : ∀ k, A ≤ k → k < B → w'.heap[k]? = w.heap[k]?) : TM w' b A B l := by
  obtain ⟨mb, L, h1, h2, h3, h4, h5, h6⟩ := h
  exact ⟨mb, L, h1, h2, h3, (hk b h1.1 h1.2).trans h4, h5.same (hk mb h2.1 h2.2), h6⟩

theorem Tb.look_no {w : World} {mb : Nat} {L : List (Nat × Vl)} (h : Tb w mb kv16 vlV L) (v : Nat) (g : getL v L = none) :
    (Instr.lookup 87 (.map (some mb)) (.int .u16 (v : Nat)) true).run Try.prog w = .ok (.tuple #[.agg vlNilA, .bool false]) w := by
  have := Tb.look h keys16 Try.underlying87 v trivial (fun _ _ => trivial) (zero48 w) true
  rw [g] at this
  exact this
theorem Tb.look_yes {w : World} {mb : Nat} {L : List (Nat × Vl)} (h : Tb w mb kv16 vlV L) (v : Nat) (x : Vl) (g : getL v L = some x) (arr : Array Value) (ha : arr = vlA x) :
    (Instr.lookup 87 (.map (some mb)) (.int .u16 (v : Nat)) true).run Try.prog w = .ok (.tuple #[.agg arr, .bool true]) w := by
  have := Tb.look h keys16 Try.underlying87 v trivial (fun _ _ => trivial) (zero48 w) true
  rw [g] at this
  rw [ha]
  exact this
theorem TM.next {w w' : World} {b A B : Nat} {l : List Vl} (h : TM w b A B l) (hB : B ≤ w.heap.size) (hb : Below w.heap.size w w') : TM w' b A B l ∧ KeptO A B w w' :=
  ⟨h.keep (fun k _ hk => hb.block k (by omega)), hb.os, hb.tape, hb.output, hb.size, fun k _ hk => hb.block k hk⟩
theorem TM.turned {w w2 : World} {b A B mb : Nat} {o : Obj} {L' : List (Nat × Vl)} {l' : List Vl} (h1 : A ≤ b ∧ b < B) (h2 : A ≤ mb ∧ mb < B) (h3 : b ≠ mb) (h4 : Blk w b #[.map (some mb)] 89) (hB : B ≤ w.heap.size)
    (hb : Below w.heap.size w w2) (h5 : Tb (setBlock w2 mb o) mb kv16 vlV L') (h6 : Rel L' l') : TM (setBlock w2 mb o) b A B l' ∧ KeptO A B w (setBlock w2 mb o) := by
  have hg := setBlock_grown w2 mb o
  refine ⟨⟨mb, L', h1, h2, h3, (h4.below hb (by omega)).grown hg (fun e => h3 (Option.some.inj e)), h5, h6⟩, ?_⟩
  refine ⟨hg.os.trans hb.os, hg.tape.trans hb.tape, hg.output.trans hb.output, Nat.le_trans hb.size hg.size, fun k hk hk2 => ?_⟩
  exact (hg.block k (Nat.lt_of_lt_of_le hk2 hb.size) (fun e => by cases e; omega)).trans (hb.block k hk2)
theorem vl_one (x : Vl) : (vlA x).all (·.oneCell') = true := by simp [Value.oneCell']

theorem new_tm (w : World) : Calls Try.prog 9 #[] w fun e w' => ∃ b, e = .returned (.pointer (some ⟨b, 0, none⟩)) ∧ TM w' b w.heap.size w'.heap.size [] ∧ Below w.heap.size w w' := by
  have hmm := @run_makeMap Try.prog
  go_enter Try.func9, Try.ntmps9
  go_wp2
  go_ret
  refine ⟨_, rfl, ⟨w.heap.size, [], ?_, ?_, ?_, ?_, (Tb.new w kv16 vlV).alloc _, Rel.nil⟩, ((Below.refl w.heap.size w).alloc (Nat.le_refl _) _).alloc (by simp) _⟩
  · simp
    try omega
  · simp
    try omega
  · simp
  · have := Blk.new (w.alloc (.map #[] 0)) #[.map (some w.heap.size)] 89
    simpa using this

/-- What Get answers. -/
def GetRes (l : List Vl) (vid : Nat) (e : Ending) : Prop :=
  (atV vid l = -1 ∧ e = .returned (.tuple #[.agg vlNilA, .bool false])) ∨ ∃ (k : Nat) (x : Vl), atV vid l = k ∧ l[k]? = some x ∧ e = .returned (.tuple #[vlV x, .bool true])

set_option maxHeartbeats 4000000 in
theorem get_tm {w : World} {b A B : Nat} {l : List Vl} (vid : Nat) (h : TM w b A B l) :
    Calls Try.prog 12 #[.pointer (some ⟨b, 0, none⟩), .int .u16 (vid : Nat)] w fun e w' => Below w.heap.size w w' ∧ GetRes l vid e := by
  obtain ⟨mb, L, h1, h2, h3, h4, h5, h6⟩ := h
  have h4 := h4.alloc (.cells vlNilA 37)
  have h5 := h5.alloc (.cells vlNilA 37)
  have hc := h4.cell 0
  simp only [List.getElem?_toArray, List.getElem?_cons_zero] at hc
  rcases h6.get vid with ⟨g1, g2⟩ | ⟨k, x, g1, g2, g3, g4⟩
  · have hlk := h5.look_no vid g2
    have hb := ((Below.refl w.heap.size w).alloc (Nat.le_refl _) (.cells vlNilA 37)).alloc (by simp) (.cells vlNilA 37)
    have HB := Lib.hid hb
    have HG := Lib.hid g1
    clear h4 h5 hb g1
    go_enter Try.func12, Try.ntmps12
    go_wp2
    have q : Blk ((w.alloc (.cells vlNilA 37)).alloc (.cells vlNilA 37)) w.heap.size vlNilA 37 := (Blk.new w vlNilA 37).alloc _
    exact bodyPost_ret (v := .tuple #[.agg vlNilA, .bool false]) (results_row_tmp Try.results12 _ _ w.heap.size 37 vlNilA _ _ rfl rfl q Try.underlying37 rfl vinfo48) rfl ⟨HB.out, .inl ⟨HG.out, rfl⟩⟩
  · obtain ⟨v, m, u⟩ := x
    have hlk := h5.look_yes vid _ g4 _ rfl
    have HG := Lib.hid g1
    have HG2 := Lib.hid g2
    have HG3 := Lib.hid g3
    clear h4 h5 g1 g2 g3 g4
    obtain ⟨arr, harr⟩ : ∃ arr, arr = vlA ⟨v, m, u⟩ := ⟨_, rfl⟩
    have HB := Lib.hid (((Below.refl w.heap.size w).alloc (Nat.le_refl _) (.cells (vlA ⟨v, m, u⟩) 37)).alloc (by simp) (.cells (vlA ⟨v, m, u⟩) 37))
    go_enter Try.func12, Try.ntmps12
    go_wp2
    have q : Blk ((w.alloc (.cells (vlA ⟨v, m, u⟩) 37)).alloc (.cells (vlA ⟨v, m, u⟩) 37)) w.heap.size (vlA ⟨v, m, u⟩) 37 := (Blk.new w _ 37).alloc _
    exact bodyPost_ret (v := .tuple #[.agg (vlA ⟨v, m, u⟩), .bool true]) (results_row_tmp Try.results12 _ _ w.heap.size 37 (vlA ⟨v, m, u⟩) _ _ rfl rfl q Try.underlying37 rfl vinfo48) rfl ⟨HB.out, .inr ⟨k, ⟨v, m, u⟩, HG.out, HG2.out, rfl⟩⟩
end Go.Proofs.Ytpjfpcebjneblaa
