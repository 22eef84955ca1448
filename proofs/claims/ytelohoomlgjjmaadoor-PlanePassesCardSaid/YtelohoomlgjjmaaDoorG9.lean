import Derived.Test.YtelohoomlgjjmaaDoorG8
import Derived.Test.YtelohoomlgjjmaaDoorG5
import Derived.Test.YtelohoomlgjjmaaDoorG1
import Derived.Test.YtelohoomlgjjmaaDoorG6
import Derived.Deep.MidRow
import Derived.Test.YtelohoomlgjjmaaDoorG4
set_option linter.unusedSimpArgs false
set_option linter.unusedVariables false
namespace Go.Proofs.YtelohoomlgjjmaaDoor
section
/- The developers' table of layer 9: Learn. -/
open Go.RowKit
open Go.ChangeMaps (setBlock)

theorem KeptO.refl (A B : Nat) (w : World) : KeptO A B w w := ⟨rfl, rfl, rfl, Nat.le_refl _, fun _ _ _ => rfl⟩
theorem KeptO.trans {A B : Nat} {w1 w2 w3 : World} (h : KeptO A B w1 w2) (k : KeptO A B w2 w3) : KeptO A B w1 w3 :=
  ⟨k.os.trans h.os, k.tape.trans h.tape, k.output.trans h.output, Nat.le_trans h.size k.size, fun i hi hl => (k.block i hi (Nat.lt_of_lt_of_le hl h.size)).trans (h.block i hi hl)⟩
theorem KeptO.ofBelow {A B : Nat} {w w' : World} (h : Below w.heap.size w w') : KeptO A B w w' := ⟨h.os, h.tape, h.output, h.size, fun i _ hl => h.block i hl⟩
theorem KeptO.setRow {A B : Nat} {w w' : World} (h : KeptO A B w w') {g : Nat} (hg : w.heap.size ≤ g) (cs : Array Value) : KeptO A B w (w'.setRow g cs) :=
  ⟨h.os, h.tape, h.output, (by have := h.size; simpa [World.setRow] using this), fun i hi hl => (setRow_other w' g i cs (by omega)).trans (h.block i hi hl)⟩
theorem KeptO.blk {A B : Nat} {w w' : World} {g : Nat} {cs : Array Value} {t : TypeId} (h : KeptO A B w w') (hb : Blk w g cs t) (hg : g < A ∨ B ≤ g) : Blk w' g cs t := (h.block g hg hb.lt).trans hb
theorem KeptO.setBlock {A B : Nat} {w : World} {mb : Nat} (h1 : A ≤ mb) (h2 : mb < B) (o : Obj) : KeptO A B w (setBlock w mb o) := by
  have hg := setBlock_grown w mb o
  exact ⟨hg.os, hg.tape, hg.output, hg.size, fun i hi hl => hg.block i hl (fun e => by have := Option.some.inj e; omega)⟩
theorem en_range {w : World} {g : Nat} {x : En} {t : TypeId} (h : Blk w g (enA x) t) : w.rangeAt g 0 (kyA x.vid x.mac).toList := by
  intro j u hu
  rw [Nat.zero_add, h.cell]
  have hj : j < 7 := by
    have := (List.getElem?_eq_some_iff.1 hu).1
    simpa using this
  match j, hj with
  | 0, _ => simpa using hu
  | 1, _ => simpa using hu
  | 2, _ => simpa using hu
  | 3, _ => simpa using hu
  | 4, _ => simpa using hu
  | 5, _ => simpa using hu
  | 6, _ => simpa using hu
theorem RelK.putCut {α : Type} {key : α → Nat} {L : List (Nat × α)} {l : List α} (h : RelK key L l) (x : α) : RelK key (putL (key x) x L) (layK key (cutK key (key x) l) x) := by
  have hc := cutK_filter h.1 (key x)
  have hs : (cutK key (key x) l).Pairwise (fun a b => key a < key b) := by rw [hc]; exact h.1.filter _
  have q := layK_sorted hs x (fun y hy => by
    rw [hc] at hy
    simpa using (List.mem_filter.1 hy).2)
  refine h.put_of x q.1 ?_
  rw [← hc]
  exact q.2
theorem layE_mem {l : List En} {x y : En} (h : y ∈ layK enK l x) : y = x ∨ y ∈ l := by
  unfold layK at h
  rcases List.mem_append.1 h with h | h
  · rcases List.mem_append.1 h with h | h
    · exact .inr (List.mem_of_mem_take h)
    · exact .inl (by simpa using h)
  · exact .inr (List.mem_of_mem_drop h)
theorem cutE_mem {l : List En} {v : Nat} {y : En} (h : y ∈ cutK enK v l) : y ∈ l := by
  unfold cutK at h
  split at h
  · exact h
  · exact (List.eraseIdx_sublist _ _).mem h
/-- With an entry, in the place of one with its key. -/
def putD (l : List En) (x : En) : List En := layK enK (cutK enK (enK x) l) x
/-- What Learn does, and what it answers. -/
def LearnR (mo li : Int) (l : List En) (x : En) (l' : List En) (gv : Array Value) (full : Bool) : Prop :=
  (takesB li x = false ∧ l' = l ∧ gv = enNilA ∧ full = false) ∨
  (takesB li x = true ∧ (decide (0 ≤ atK enK (enK x) l) || decide ((l.length : Int) < mo)) = true ∧ l' = putD l x ∧ gv = enNilA ∧ full = false) ∨
  (takesB li x = true ∧ (decide (0 ≤ atK enK (enK x) l) || decide ((l.length : Int) < mo)) = false ∧ ∃ z, OldS l z ∧ l' = putD (cutK enK (enK z) l) x ∧ gv = enA z ∧ full = true)
/-- The slots, while the region runs. -/
structure Le8S (b mb g9 : Nat) (z : En) (f1 f2 f3 f4 f5 f6 f7 f8 f10 f11 f12 f13 f14 f15 f16 f17 f18 f19 f20 f21 f22 f23 f24 f25 f26 f27 f28 f29 f36 f37 f38 f39 f40 f41 f42 f43 : Value) (L : Nat → Bool) (v30 v31 v32 v33 v34 v35 : Value) : Prop where
  e30 : L 0 = true → v30 = .pointer (some ⟨b, 0, none⟩)
  e31 : L 1 = true → v31 = .pointer (some ⟨b, 0, none⟩)
  e32 : L 2 = true → v32 = .pointer (some ⟨b, 2, none⟩)
  e33 : L 3 = true → v33 = .map (some mb)
  e34 : L 4 = true → v34 = .pointer (some ⟨g9, 0, none⟩)
  e35 : L 5 = true → v35 = kyV z.vid z.mac
abbrev Le8F (b mb g9 : Nat) (z : En) (f1 f2 f3 f4 f5 f6 f7 f8 f10 f11 f12 f13 f14 f15 f16 f17 f18 f19 f20 f21 f22 f23 f24 f25 f26 f27 f28 f29 f36 f37 f38 f39 f40 f41 f42 f43 : Value) (v30 v31 v32 v33 v34 v35 : Value) : Act := { tmps := #[.pointer (some ⟨b, 0, none⟩), f1, f2, f3, f4, f5, f6, f7, f8, .pointer (some ⟨g9, 0, none⟩), f10, f11, f12, f13, f14, f15, f16, f17, f18, f19, f20, f21, f22, f23, f24, f25, f26, f27, f28, f29, v30, v31, v32, v33, v34, v35, f36, f37, f38, f39, f40, f41, f42, f43], defers := [] }
def Le8I (b mb g9 : Nat) (z : En) (f1 f2 f3 f4 f5 f6 f7 f8 f10 f11 f12 f13 f14 f15 f16 f17 f18 f19 f20 f21 f22 f23 f24 f25 f26 f27 f28 f29 f36 f37 f38 f39 f40 f41 f42 f43 : Value) (L : Nat → Bool) (ac : Act) : Prop :=
  ∃ v30 v31 v32 v33 v34 v35, ac = Le8F b mb g9 z f1 f2 f3 f4 f5 f6 f7 f8 f10 f11 f12 f13 f14 f15 f16 f17 f18 f19 f20 f21 f22 f23 f24 f25 f26 f27 f28 f29 f36 f37 f38 f39 f40 f41 f42 f43 v30 v31 v32 v33 v34 v35 ∧ Le8S b mb g9 z f1 f2 f3 f4 f5 f6 f7 f8 f10 f11 f12 f13 f14 f15 f16 f17 f18 f19 f20 f21 f22 f23 f24 f25 f26 f27 f28 f29 f36 f37 f38 f39 f40 f41 f42 f43 L v30 v31 v32 v33 v34 v35
/-- The slots, while the region runs. -/
structure Le9S (b mb g4 g8 : Nat) (x : En) (f1 f2 f3 f5 f6 f7 f9 f10 f11 f12 f13 f14 f15 f16 f17 f18 f19 f20 f21 f22 f23 f24 f25 f26 f27 f28 f29 f30 f31 f32 f33 f34 f35 f42 f43 : Value) (L : Nat → Bool) (v36 v37 v38 v39 v40 v41 : Value) : Prop where
  e36 : L 0 = true → v36 = .pointer (some ⟨b, 0, none⟩)
  e37 : L 1 = true → v37 = .pointer (some ⟨b, 0, none⟩)
  e38 : L 2 = true → v38 = .pointer (some ⟨b, 2, none⟩)
  e39 : L 3 = true → v39 = .map (some mb)
  e40 : L 4 = true → v40 = kyV x.vid x.mac
  e41 : L 5 = true → v41 = enV x
abbrev Le9F (b mb g4 g8 : Nat) (x : En) (f1 f2 f3 f5 f6 f7 f9 f10 f11 f12 f13 f14 f15 f16 f17 f18 f19 f20 f21 f22 f23 f24 f25 f26 f27 f28 f29 f30 f31 f32 f33 f34 f35 f42 f43 : Value) (v36 v37 v38 v39 v40 v41 : Value) : Act := { tmps := #[.pointer (some ⟨b, 0, none⟩), f1, f2, f3, .pointer (some ⟨g4, 0, none⟩), f5, f6, f7, .pointer (some ⟨g8, 0, none⟩), f9, f10, f11, f12, f13, f14, f15, f16, f17, f18, f19, f20, f21, f22, f23, f24, f25, f26, f27, f28, f29, f30, f31, f32, f33, f34, f35, v36, v37, v38, v39, v40, v41, f42, f43], defers := [] }
def Le9I (b mb g4 g8 : Nat) (x : En) (f1 f2 f3 f5 f6 f7 f9 f10 f11 f12 f13 f14 f15 f16 f17 f18 f19 f20 f21 f22 f23 f24 f25 f26 f27 f28 f29 f30 f31 f32 f33 f34 f35 f42 f43 : Value) (L : Nat → Bool) (ac : Act) : Prop :=
  ∃ v36 v37 v38 v39 v40 v41, ac = Le9F b mb g4 g8 x f1 f2 f3 f5 f6 f7 f9 f10 f11 f12 f13 f14 f15 f16 f17 f18 f19 f20 f21 f22 f23 f24 f25 f26 f27 f28 f29 f30 f31 f32 f33 f34 f35 f42 f43 v36 v37 v38 v39 v40 v41 ∧ Le9S b mb g4 g8 x f1 f2 f3 f5 f6 f7 f9 f10 f11 f12 f13 f14 f15 f16 f17 f18 f19 f20 f21 f22 f23 f24 f25 f26 f27 f28 f29 f30 f31 f32 f33 f34 f35 f42 f43 L v36 v37 v38 v39 v40 v41

/-- What Learn has of its own. -/
structure Ln (w : World) (b A B : Nat) (mo li : Int) (g : Nat) (x : En) (W : World) : Prop where
  kept : KeptO A B w W
  k4 : Blk W g (kyA x.vid x.mac) 63
  k6 : Blk W (g + 1) enNilA 67
  k8 : Blk W (g + 2) (enA x) 67
theorem Ln.kp {w W W' : World} {b A B g : Nat} {mo li : Int} {x : En} (h : Ln w b A B mo li g x W) (hk : KeptO A B W W') (hg : B ≤ g) : Ln w b A B mo li g x W' :=
  ⟨h.kept.trans hk, hk.blk h.k4 (.inr hg), hk.blk h.k6 (.inr (by omega)), hk.blk h.k8 (.inr (by omega))⟩
theorem Ln.next {w W W' : World} {b A B g : Nat} {mo li : Int} {x : En} (h : Ln w b A B mo li g x W) (hb : Below W.heap.size W W') (hg : B ≤ g) : Ln w b A B mo li g x W' := h.kp (KeptO.ofBelow hb) hg
theorem TF.low {w : World} {b A B : Nat} {mo li : Int} {l : List En} (h : TF w b A B mo li l) : b < w.heap.size := by
  obtain ⟨mb, L, h1, h2, h3, h4, -⟩ := h
  exact h4.lt

set_option maxRecDepth 100000 in
set_option maxHeartbeats 16000000 in
theorem learn_tf {w : World} {b A B : Nat} {mo li : Int} {l : List En} (vid a : Nat) (port : Int) (ha : a < 281474976710656) (hmo : 1 ≤ mo) (h : TF w b A B mo li l) (hAB : A ≤ B) (hB : B ≤ w.heap.size) :
    Calls Tryd.prog 13 #[.pointer (some ⟨b, 0, none⟩), kyV vid a, .int .i64 port] w fun e w' => ∃ l' gv full, LearnR mo li l ⟨vid, a, port, 0⟩ l' gv full ∧ e = .returned (.tuple #[.agg gv, .bool full]) ∧ TF w' b A B mo li l' ∧ KeptO A B w w' := by
  obtain ⟨x, hx⟩ : ∃ x : En, x = ⟨vid, a, port, 0⟩ := ⟨_, rfl⟩
  have HX := Lib.hid hx
  rw [← hx]
  have hxo : enOk x := by rw [hx]; exact ha
  have hz := zero49
  obtain ⟨g, hg⟩ : ∃ g, g = w.heap.size := ⟨_, rfl⟩
  obtain ⟨w1, hw1⟩ : ∃ w1, w1 = (w.alloc (.cells (kyA vid a) 63)).alloc (.cells enNilA 67) := ⟨_, rfl⟩
  obtain ⟨w2, hw2⟩ : ∃ w2, w2 = w1.alloc (.cells (enA x) 67) := ⟨_, rfl⟩
  have hb1 : Below w.heap.size w w1 := by rw [hw1]; exact ((Below.refl w.heap.size w).alloc (Nat.le_refl _) _).alloc (by simp) _
  have k4 : Blk w1 g (kyA vid a) 63 := by rw [hw1, hg]; exact (Blk.new _ _ _).alloc _
  have k6 : Blk w1 (g + 1) enNilA 67 := by
    rw [hw1, hg]
    have := Blk.new (w.alloc (.cells (kyA vid a) 63)) enNilA 67
    simpa using this
  have s1 : w1.heap.size = g + 2 := by rw [hw1, hg]; simp
  have k8 : Blk w2 (g + 2) (enA x) 67 := by
    have := Blk.new w1 (enA x) 67
    rw [← hw2, s1] at this
    exact this
  have hb2 : Below w.heap.size w w2 := by rw [hw2]; exact hb1.alloc hb1.size _
  have hg2 : B ≤ g := by rw [hg]; exact hB
  have N2 := Lib.hid (show Ln w b A B mo li g x w2 from ⟨KeptO.ofBelow hb2, by rw [hx, hw2]; exact k4.alloc _, by rw [hw2]; exact k6.alloc _, k8⟩)
  have T2 := Lib.hid ((h.next hB hb2).1)
  have HG := Lib.hid hg
  have HG2 := Lib.hid hg2
  have HW1 := Lib.hid hw1
  have HW2 := Lib.hid (show w1.alloc (.cells (enA ⟨vid, a, port, 0⟩) 67) = w2 by rw [hw2, hx])
  have HS1 := Lib.hid s1
  have K4 := Lib.hid k4
  have SZ7 := Lib.hid kySize9
  have SZ9 := Lib.hid enSize49
  have XA := Lib.hid (enA_one x)
  have XN := Lib.hid (show (enNilA).all (·.oneCell') = true by simp [Value.oneCell'])
  have HXO := Lib.hid hxo
  have HH := Lib.hid h
  have HK7 := Lib.hid (show Value.agg (kyA vid a) = kyV x.vid x.mac by rw [hx])
  have HEN := Lib.hid (show (Value.agg #[.int .u16 (vid : Nat), .int .u8 (byteF a 0 : Nat), .int .u8 (byteF a 1 : Nat), .int .u8 (byteF a 2 : Nat), .int .u8 (byteF a 3 : Nat), .int .u8 (byteF a 4 : Nat), .int .u8 (byteF a 5 : Nat), .int .i64 port, .int .i64 0]) = enV x by rw [hx])
  clear h hx hg hw1 hw2 hb1 k4 k6 s1 k8 hb2 hg2 hxo ha
  go_enter Tryd.func13, Tryd.ntmps13
  go_upto_region 1 with fail
  rw [← HW1.out, ← HG.out]
  go_upto_region 2 with (refine wpList_load_row rfl 63 _ rfl g rfl 63 _ (0, 0) _ K4.out Tryd.underlying63 rfl SZ7.out ?_)
  rw [HW2.out, HS1.out]
  have HTK := Lib.hid (takes_any x T2.out)
  cases htk : takesB li x with
  | false =>
    have HTB := Lib.hid htk
    have HR := Lib.hid (show LearnR mo li l x l enNilA false from .inl ⟨htk, rfl, rfl, rfl⟩)
    clear htk
    go_upto_region 3 with (first
      | (refine wpList_val (enV x) (by rfl) (run_loadVar_of 67 _ rfl (g + 2) rfl 67 (enA x) _ N2.out.k8 Tryd.underlying67 rfl SZ9.out) ?_)
      | (go_at_call 33; refine HTK.out.mono ?_; rintro e w3 ⟨rfl, hb3⟩; rw [HTB.out]))
    have N3 := Lib.hid (N2.out.next hb3 HG2.out)
    have T3 := Lib.hid (T2.out.next (by have := N2.out.kept.size; omega) hb3).1
    clear hb3
    go_wp2_with (refine wpList_store_row rfl 67 _ _ rfl (g + 1) enNilA rfl rfl 67 enNilA N3.out.k6 SZ9.out rfl XN.out ?_)
    refine bodyPost_ret (v := .tuple #[.agg enNilA, .bool false]) (results_row_tmp Tryd.results13 _ _ (g + 1) 67 enNilA _ _ rfl rfl (N3.out.k6.row _) Tryd.underlying67 rfl enSize49) rfl ⟨l, enNilA, false, HR.out, rfl, ?_, ?_⟩
    · exact T3.out.keep (fun k _ hk => setRow_other _ (g + 1) k _ (by have := HG2.out; omega))
    · exact N3.out.kept.setRow (by have := HG.out; omega) _
  | true =>
    have HTB := Lib.hid htk
    go_upto_region 4 with (first
      | (refine wpList_val (enV x) (by rfl) (run_loadVar_of 67 _ rfl (g + 2) rfl 67 (enA x) _ N2.out.k8 Tryd.underlying67 rfl SZ9.out) ?_)
      | (go_at_call 33; refine HTK.out.mono ?_; rintro e w3 ⟨rfl, hb3⟩; rw [HTB.out]))
    have hb3' : Below w2.heap.size w2 (w3.alloc (.cells enNilA 67)) := hb3.alloc hb3.size _
    obtain ⟨w4, hw4⟩ : ∃ w4, w4 = w3.alloc (.cells enNilA 67) := ⟨_, rfl⟩
    obtain ⟨g9, hg9⟩ : ∃ g9, g9 = w3.heap.size := ⟨_, rfl⟩
    have k9 : Blk w4 g9 enNilA 67 := by rw [hw4, hg9]; exact Blk.new _ _ _
    rw [← hw4] at hb3'
    have N4 := Lib.hid (N2.out.next hb3' HG2.out)
    have T4 := Lib.hid (T2.out.next (by have := N2.out.kept.size; omega) hb3').1
    have HL9 := Lib.hid (show g + 2 < g9 by rw [hg9]; have := N2.out.k8.lt; have := hb3.size; omega)
    have K9 := Lib.hid k9
    have HW4 := Lib.hid hw4
    have HG9 := Lib.hid hg9
    have hza := zero49
    clear hb3 hb3' hw4 hg9 k9 htk
    go_upto_region 5 with fail
    rw [← HW4.out, ← HG9.out]
    clear hza
    have hrm := room_tf x.vid x.mac HXO.out T4.out
    obtain ⟨rm, hrmv⟩ : ∃ rm : Bool, rm = (decide (0 ≤ atK enK (enK x) l) || decide ((l.length : Int) < mo)) := ⟨_, rfl⟩
    rw [show keyN x.vid x.mac = enK x from rfl, ← hrmv] at hrm
    have HRM := Lib.hid hrm
    have HRV := Lib.hid hrmv
    clear hrm hrmv
    go_upto_region 6 with (first
      | (refine wpList_load_row rfl 63 _ rfl g rfl 63 _ (0, 0) _ N4.out.k4 Tryd.underlying63 rfl SZ7.out ?_)
      | (go_at_call 34; refine HRM.out.mono ?_; rintro e wq ⟨rfl, hb5⟩))
    have N5 := Lib.hid (N4.out.next hb5 HG2.out)
    have T5 := Lib.hid (T4.out.next (by have := N4.out.kept.size; omega) hb5).1
    have K95 := Lib.hid (K9.out.below hb5 K9.out.lt)
    clear hb5
    cases rm with
    | true =>
      have HR := Lib.hid (show LearnR mo li l x (putD l x) enNilA false from .inr (.inl ⟨HTB.out, HRV.out.symm, rfl, rfl, rfl⟩))
      go_upto_region 9 with fail
      obtain ⟨mb, L, q1, q2, q3, q4, q5, q6, q7⟩ := T5.out
      have HC := Lib.hid (show ∀ w', Below wq.heap.size wq w' → w'.cell? ⟨b, 2, none⟩ = some (.map (some mb)) from fun w' hb => by rw [(q4.below hb q4.lt).cell]; rfl)
      have Q4 := Lib.hid q4
      have Q5 := Lib.hid q5
      have Q6 := Lib.hid q6
      clear q4 q5 q6
      refine wp_region_last 6 (I := Le9I b mb g (g + 2) x _ _ _ _ _ _ _ _ _ _ _ _ _ _ _ _ _ _ _ _ _ _ _ _ _ _ _ _ _ _ _ _ _ _ _) (by kernel_rfl) (by kernel_rfl) (by kernel_rfl) ⟨_, _, _, _, _, _, rfl, ⟨(fun h => Bool.noConfusion h), (fun h => Bool.noConfusion h), (fun h => Bool.noConfusion h), (fun h => Bool.noConfusion h), (fun h => Bool.noConfusion h), (fun h => Bool.noConfusion h)⟩⟩ ?_
      intro w5 hb5
      have hc5 := HC.out w5 hb5
      have hk4 := N5.out.k4.below hb5 N5.out.k4.lt
      have hk8 := N5.out.k8.below hb5 N5.out.k8.lt
      have HB6 := Lib.hid hb5
      clear hb5
      refine ⟨?_, ?_⟩
      · intro i hi Lx ac hI hL haft
        obtain ⟨v36, v37, v38, v39, v40, v41, rfl, hs⟩ := hI
        match i, hi with
        | 0, _ =>
          exact i_val rfl (.pointer (some ⟨b, 0, none⟩)) w5 (by rfl) (by go_simp) ⟨⟨(.pointer (some ⟨b, 0, none⟩)), v37, v38, v39, v40, v41, rfl, { hs with e36 := fun _ => rfl }⟩, rfl⟩
        | 1, _ =>
          have e36x := hs.e36 (haft 0 (by decide))
          subst e36x
          exact i_val rfl (.pointer (some ⟨b, 0, none⟩)) w5 (by rfl) (by go_simp) ⟨⟨(.pointer (some ⟨b, 0, none⟩)), (.pointer (some ⟨b, 0, none⟩)), v38, v39, v40, v41, rfl, { hs with e37 := fun _ => rfl }⟩, rfl⟩
        | 2, _ =>
          have e37x := hs.e37 (haft 1 (by decide))
          subst e37x
          exact i_val rfl (.pointer (some ⟨b, 2, none⟩)) w5 (by rfl) (by go_simp) ⟨⟨v36, (.pointer (some ⟨b, 0, none⟩)), (.pointer (some ⟨b, 2, none⟩)), v39, v40, v41, rfl, { hs with e38 := fun _ => rfl }⟩, rfl⟩
        | 3, _ =>
          have e38x := hs.e38 (haft 2 (by decide))
          subst e38x
          have q := hc5
          exact i_val rfl (.map (some mb)) w5 (by rfl) (by go_simp) ⟨⟨v36, v37, (.pointer (some ⟨b, 2, none⟩)), (.map (some mb)), v40, v41, rfl, { hs with e39 := fun _ => rfl }⟩, rfl⟩
        | 4, _ =>
          exact i_val rfl (kyV x.vid x.mac) w5 (by rfl) (run_loadVar_of 63 _ rfl g rfl 63 (kyA x.vid x.mac) _ hk4 Tryd.underlying63 rfl SZ7.out) ⟨⟨v36, v37, v38, v39, (kyV x.vid x.mac), v41, rfl, { hs with e40 := fun _ => rfl }⟩, rfl⟩
        | 5, _ =>
          exact i_val rfl (enV x) w5 (by rfl) (run_loadVar_of 67 _ rfl (g + 2) rfl 67 (enA x) _ hk8 Tryd.underlying67 rfl SZ9.out) ⟨⟨v36, v37, v38, v39, v40, (enV x), rfl, { hs with e41 := fun _ => rfl }⟩, rfl⟩
        | k + 6, h =>
          exfalso
          have h2 : k + 6 < 6 := h
          omega
      intro Lx ac hI hall
      obtain ⟨v36, v37, v38, v39, v40, v41, rfl, hs⟩ := hI
      have e36y := hs.e36 (hall 0 (by decide))
      subst e36y
      have e37y := hs.e37 (hall 1 (by decide))
      subst e37y
      have e38y := hs.e38 (hall 2 (by decide))
      subst e38y
      have e39y := hs.e39 (hall 3 (by decide))
      subst e39y
      have e40y := hs.e40 (hall 4 (by decide))
      subst e40y
      have e41y := hs.e41 (hall 5 (by decide))
      subst e41y
      clear hs hall
      obtain ⟨o, hd, ht⟩ := (Q5.out.next HB6.out).put ky_keys Tryd.underlying103 (enK x) x trivial (fun _ _ => trivial)
      rw [show kvK (enK x) = kyV x.vid x.mac from kvK_of x.vid x.mac HXO.out] at hd
      have hkk : KeptO A B wq (setBlock w5 mb o) := (KeptO.ofBelow HB6.out).trans (KeptO.setBlock q2.1 q2.2 o)
      have N7 := Lib.hid (N5.out.kp hkk HG2.out)
      have K97 := Lib.hid (hkk.blk K95.out (.inr (by have := HL9.out; have := HG2.out; omega)))
      have T7 := Lib.hid (show TF (setBlock w5 mb o) b A B mo li (putD l x) from
        ⟨mb, _, q1, q2, q3, (Q4.out.below HB6.out Q4.out.lt).grown (setBlock_grown w5 mb o) (fun e => q3 (Option.some.inj e)), ht, Q6.out.putCut x, fun y hy => by
          rcases layE_mem hy with rfl | hy
          · exact HXO.out
          · exact q7 y (cutE_mem hy)⟩)
      have HD := Lib.hid hd
      clear ht hc5 hk4 hk8 hkk hd
      refine i_skip rfl (setBlock w5 mb o) (by rfl) (by have q := HD.out; unfold vvE at q; go_simp) ?_
      clear HD
      go_wp2_with (first
        | (refine wpList_load_row rfl 67 _ rfl g9 rfl 67 _ (0, 0) _ K97.out Tryd.underlying67 rfl SZ9.out ?_)
        | (refine wpList_store_row rfl 67 _ _ rfl (g + 1) (enNilA) rfl rfl 67 enNilA N7.out.k6 SZ9.out rfl XN.out ?_))
      refine bodyPost_ret (v := .tuple #[.agg (enNilA), .bool false]) (results_row_tmp Tryd.results13 _ _ (g + 1) 67 (enNilA) _ _ rfl rfl (N7.out.k6.row _) Tryd.underlying67 rfl enSize49) rfl ⟨_, _, _, HR.out, rfl, ?_, ?_⟩
      · exact T7.out.keep (fun k _ hk => setRow_other _ (g + 1) k _ (by have := HG2.out; omega))
      · exact N7.out.kept.setRow (by have := HG.out; omega) _
    | false =>
      have hne : l ≠ [] := by
        intro q
        have := HRV.out
        rw [q] at this
        simp at this
        omega
      have HOL := Lib.hid (oldest_tf T5.out hne)
      clear hne
      go_upto_region 8 with (first
        | (go_at_call 35; refine HOL.out.mono ?_; rintro e w6 ⟨⟨z, rfl, hold⟩, hb6⟩
           have N6 := Lib.hid (N5.out.next hb6 HG2.out)
           have T6 := Lib.hid (T5.out.next (by have := N5.out.kept.size; omega) hb6).1
           have K96 := Lib.hid (K95.out.below hb6 K95.out.lt)
           have ZA := Lib.hid (enA_one z)
           have HOZ := Lib.hid hold
           clear hb6 hold)
        | (refine wpList_store_row rfl 67 _ _ rfl g9 (enA z) rfl rfl 67 enNilA K96.out SZ9.out rfl ZA.out ?_))
      obtain ⟨mb8, L8, q1, q2, q3, q4, q5, q6, q7⟩ := T6.out
      have HC8 := Lib.hid (show ∀ w', Below w6.heap.size w6 w' → w'.cell? ⟨b, 2, none⟩ = some (.map (some mb8)) from fun w' hb => by rw [(q4.below hb q4.lt).cell]; rfl)
      have Q48 := Lib.hid q4
      have Q58 := Lib.hid q5
      have Q68 := Lib.hid q6
      have HRR := Lib.hid (show w6.heap.size ≤ (w6.setRow g9 (enA z)).heap.size by simp [World.setRow])
      have K9R := Lib.hid (K96.out.row (enA z))
      have BRB := Lib.hid (show ∀ k, k ≠ g9 → (w6.setRow g9 (enA z)).heap[k]? = w6.heap[k]? from fun k hk => setRow_other w6 g9 k _ hk)
      have HGL := Lib.hid (show B ≤ g ∧ g + 2 < g9 from ⟨HG2.out, HL9.out⟩)
      have NR := Lib.hid (show Ln w b A B mo li g x (w6.setRow g9 (enA z)) from ⟨N6.out.kept.setRow (by have := HG.out; have := HL9.out; omega) _, N6.out.k4.rowOther (by have := HL9.out; omega) _, N6.out.k6.rowOther (by have := HL9.out; omega) _, N6.out.k8.rowOther (by have := HL9.out; omega) _⟩)
      have Q4R := Lib.hid (show Blk (w6.setRow g9 (enA z)) b #[.int .i64 mo, .int .i64 li, .map (some mb8)] 105 from q4.rowOther (by have := HGL.out; omega) _)
      have Q5R := Lib.hid (q5.same (setRow_other w6 g9 mb8 (enA z) (by have := HGL.out; omega)))
      obtain ⟨wR, hwR⟩ : ∃ wR, wR = w6.setRow g9 (enA z) := ⟨_, rfl⟩
      rw [← hwR] at K9R NR Q4R Q5R ⊢
      have HC := Lib.hid (show ∀ w', Below wR.heap.size wR w' → w'.cell? ⟨b, 2, none⟩ = some (.map (some mb8)) from fun w' hb => by rw [(Q4R.out.below hb Q4R.out.lt).cell]; rfl)
      clear q4 q5 q6 HRR BRB hwR
      refine wp_region_last 6 (I := Le8I b mb8 g9 z _ _ _ _ _ _ _ _ _ _ _ _ _ _ _ _ _ _ _ _ _ _ _ _ _ _ _ _ _ _ _ _ _ _ _ _) (by kernel_rfl) (by kernel_rfl) (by kernel_rfl) ⟨_, _, _, _, _, _, rfl, ⟨(fun h => Bool.noConfusion h), (fun h => Bool.noConfusion h), (fun h => Bool.noConfusion h), (fun h => Bool.noConfusion h), (fun h => Bool.noConfusion h), (fun h => Bool.noConfusion h)⟩⟩ ?_
      intro w5 hb5
      have hc5 := HC.out w5 hb5
      have hk9 := K9R.out.below hb5 K9R.out.lt
      have HB6 := Lib.hid hb5
      clear hb5
      refine ⟨?_, ?_⟩
      · intro i hi Lx ac hI hL haft
        obtain ⟨v30, v31, v32, v33, v34, v35, rfl, hs⟩ := hI
        match i, hi with
        | 0, _ =>
          exact i_val rfl (.pointer (some ⟨b, 0, none⟩)) w5 (by rfl) (by go_simp) ⟨⟨(.pointer (some ⟨b, 0, none⟩)), v31, v32, v33, v34, v35, rfl, { hs with e30 := fun _ => rfl }⟩, rfl⟩
        | 1, _ =>
          have e30x := hs.e30 (haft 0 (by decide))
          subst e30x
          exact i_val rfl (.pointer (some ⟨b, 0, none⟩)) w5 (by rfl) (by go_simp) ⟨⟨(.pointer (some ⟨b, 0, none⟩)), (.pointer (some ⟨b, 0, none⟩)), v32, v33, v34, v35, rfl, { hs with e31 := fun _ => rfl }⟩, rfl⟩
        | 2, _ =>
          have e31x := hs.e31 (haft 1 (by decide))
          subst e31x
          exact i_val rfl (.pointer (some ⟨b, 2, none⟩)) w5 (by rfl) (by go_simp) ⟨⟨v30, (.pointer (some ⟨b, 0, none⟩)), (.pointer (some ⟨b, 2, none⟩)), v33, v34, v35, rfl, { hs with e32 := fun _ => rfl }⟩, rfl⟩
        | 3, _ =>
          have e32x := hs.e32 (haft 2 (by decide))
          subst e32x
          have q := hc5
          exact i_val rfl (.map (some mb8)) w5 (by rfl) (by go_simp) ⟨⟨v30, v31, (.pointer (some ⟨b, 2, none⟩)), (.map (some mb8)), v34, v35, rfl, { hs with e33 := fun _ => rfl }⟩, rfl⟩
        | 4, _ =>
          exact i_val rfl (.pointer (some ⟨g9, 0, none⟩)) w5 (by rfl) (by go_simp) ⟨⟨v30, v31, v32, v33, (.pointer (some ⟨g9, 0, none⟩)), v35, rfl, { hs with e34 := fun _ => rfl }⟩, rfl⟩
        | 5, _ =>
          have e34x := hs.e34 (haft 4 (by decide))
          subst e34x
          exact i_val rfl (kyV z.vid z.mac) w5 (by rfl) (run_loadRange 63 _ rfl g9 0 rfl (kyA z.vid z.mac) _ (en_range hk9) Tryd.underlying63 rfl SZ7.out) ⟨⟨v30, v31, v32, v33, (.pointer (some ⟨g9, 0, none⟩)), (kyV z.vid z.mac), rfl, { hs with e35 := fun _ => rfl }⟩, rfl⟩
        | k + 6, h =>
          exfalso
          have h2 : k + 6 < 6 := h
          omega
      intro Lx ac hI hall
      obtain ⟨v30, v31, v32, v33, v34, v35, rfl, hs⟩ := hI
      have e30y := hs.e30 (hall 0 (by decide))
      subst e30y
      have e31y := hs.e31 (hall 1 (by decide))
      subst e31y
      have e32y := hs.e32 (hall 2 (by decide))
      subst e32y
      have e33y := hs.e33 (hall 3 (by decide))
      subst e33y
      have e34y := hs.e34 (hall 4 (by decide))
      subst e34y
      have e35y := hs.e35 (hall 5 (by decide))
      subst e35y
      clear hs hall
      obtain ⟨o, hd, ht⟩ := (Q5R.out.next HB6.out).del ky_keys Tryd.underlying103 (enK z) trivial (fun _ _ => trivial) 63 0
      have hzo : enOk z := q7 z HOZ.out.1
      rw [show kvK (enK z) = kyV z.vid z.mac from kvK_of z.vid z.mac hzo] at hd
      have hkk : KeptO A B wR (setBlock w5 mb8 o) := (KeptO.ofBelow HB6.out).trans (KeptO.setBlock q2.1 q2.2 o)
      have N8 := Lib.hid (NR.out.kp hkk HG2.out)
      have K98 := Lib.hid (hkk.blk K9R.out (.inr (by have := HGL.out; omega)))
      have T8 := Lib.hid (show TF (setBlock w5 mb8 o) b A B mo li (cutK enK (enK z) l) from
        ⟨mb8, _, q1, q2, q3, (Q4R.out.below HB6.out Q4R.out.lt).grown (setBlock_grown w5 mb8 o) (fun e => q3 (Option.some.inj e)), ht, Q68.out.drop (enK z), fun y hy => q7 y (cutE_mem hy)⟩)
      have HD := Lib.hid hd
      clear ht hc5 hk9 hkk hd q1 q2 q3 q7 hzo HC
      refine i_val rfl (.tuple #[]) (setBlock w5 mb8 o) (by rfl) (by have q := HD.out; go_simp) ?_
      clear HD
      have HR := Lib.hid (show LearnR mo li l x (putD (cutK enK (enK z) l) x) (enA z) true from .inr (.inr ⟨HTB.out, HRV.out.symm, z, HOZ.out, rfl, rfl, rfl⟩))
      generalize setBlock w5 mb8 o = w9 at T8 N8 K98 ⊢
      go_upto_region 9 with fail
      obtain ⟨mb, L, q1, q2, q3, q4, q5, q6, q7⟩ := T8.out
      have HC := Lib.hid (show ∀ w', Below w9.heap.size w9 w' → w'.cell? ⟨b, 2, none⟩ = some (.map (some mb)) from fun w' hb => by rw [(q4.below hb q4.lt).cell]; rfl)
      have Q4 := Lib.hid q4
      have Q5 := Lib.hid q5
      have Q6 := Lib.hid q6
      clear q4 q5 q6
      refine wp_region_last 6 (I := Le9I b mb g (g + 2) x _ _ _ _ _ _ _ _ _ _ _ _ _ _ _ _ _ _ _ _ _ _ _ _ _ _ _ _ _ _ _ _ _ _ _) (by kernel_rfl) (by kernel_rfl) (by kernel_rfl) ⟨_, _, _, _, _, _, rfl, ⟨(fun h => Bool.noConfusion h), (fun h => Bool.noConfusion h), (fun h => Bool.noConfusion h), (fun h => Bool.noConfusion h), (fun h => Bool.noConfusion h), (fun h => Bool.noConfusion h)⟩⟩ ?_
      intro w5 hb5
      have hc5 := HC.out w5 hb5
      have hk4 := N8.out.k4.below hb5 N8.out.k4.lt
      have hk8 := N8.out.k8.below hb5 N8.out.k8.lt
      have HB6 := Lib.hid hb5
      clear hb5
      refine ⟨?_, ?_⟩
      · intro i hi Lx ac hI hL haft
        obtain ⟨v36, v37, v38, v39, v40, v41, rfl, hs⟩ := hI
        match i, hi with
        | 0, _ =>
          exact i_val rfl (.pointer (some ⟨b, 0, none⟩)) w5 (by rfl) (by go_simp) ⟨⟨(.pointer (some ⟨b, 0, none⟩)), v37, v38, v39, v40, v41, rfl, { hs with e36 := fun _ => rfl }⟩, rfl⟩
        | 1, _ =>
          have e36x := hs.e36 (haft 0 (by decide))
          subst e36x
          exact i_val rfl (.pointer (some ⟨b, 0, none⟩)) w5 (by rfl) (by go_simp) ⟨⟨(.pointer (some ⟨b, 0, none⟩)), (.pointer (some ⟨b, 0, none⟩)), v38, v39, v40, v41, rfl, { hs with e37 := fun _ => rfl }⟩, rfl⟩
        | 2, _ =>
          have e37x := hs.e37 (haft 1 (by decide))
          subst e37x
          exact i_val rfl (.pointer (some ⟨b, 2, none⟩)) w5 (by rfl) (by go_simp) ⟨⟨v36, (.pointer (some ⟨b, 0, none⟩)), (.pointer (some ⟨b, 2, none⟩)), v39, v40, v41, rfl, { hs with e38 := fun _ => rfl }⟩, rfl⟩
        | 3, _ =>
          have e38x := hs.e38 (haft 2 (by decide))
          subst e38x
          have q := hc5
          exact i_val rfl (.map (some mb)) w5 (by rfl) (by go_simp) ⟨⟨v36, v37, (.pointer (some ⟨b, 2, none⟩)), (.map (some mb)), v40, v41, rfl, { hs with e39 := fun _ => rfl }⟩, rfl⟩
        | 4, _ =>
          exact i_val rfl (kyV x.vid x.mac) w5 (by rfl) (run_loadVar_of 63 _ rfl g rfl 63 (kyA x.vid x.mac) _ hk4 Tryd.underlying63 rfl SZ7.out) ⟨⟨v36, v37, v38, v39, (kyV x.vid x.mac), v41, rfl, { hs with e40 := fun _ => rfl }⟩, rfl⟩
        | 5, _ =>
          exact i_val rfl (enV x) w5 (by rfl) (run_loadVar_of 67 _ rfl (g + 2) rfl 67 (enA x) _ hk8 Tryd.underlying67 rfl SZ9.out) ⟨⟨v36, v37, v38, v39, v40, (enV x), rfl, { hs with e41 := fun _ => rfl }⟩, rfl⟩
        | k + 6, h =>
          exfalso
          have h2 : k + 6 < 6 := h
          omega
      intro Lx ac hI hall
      obtain ⟨v36, v37, v38, v39, v40, v41, rfl, hs⟩ := hI
      have e36y := hs.e36 (hall 0 (by decide))
      subst e36y
      have e37y := hs.e37 (hall 1 (by decide))
      subst e37y
      have e38y := hs.e38 (hall 2 (by decide))
      subst e38y
      have e39y := hs.e39 (hall 3 (by decide))
      subst e39y
      have e40y := hs.e40 (hall 4 (by decide))
      subst e40y
      have e41y := hs.e41 (hall 5 (by decide))
      subst e41y
      clear hs hall
      obtain ⟨o, hd, ht⟩ := (Q5.out.next HB6.out).put ky_keys Tryd.underlying103 (enK x) x trivial (fun _ _ => trivial)
      rw [show kvK (enK x) = kyV x.vid x.mac from kvK_of x.vid x.mac HXO.out] at hd
      have hkk : KeptO A B w9 (setBlock w5 mb o) := (KeptO.ofBelow HB6.out).trans (KeptO.setBlock q2.1 q2.2 o)
      have N7 := Lib.hid (N8.out.kp hkk HG2.out)
      have K97 := Lib.hid (hkk.blk K98.out (.inr (by have := HL9.out; have := HG2.out; omega)))
      have T7 := Lib.hid (show TF (setBlock w5 mb o) b A B mo li (putD (cutK enK (enK z) l) x) from
        ⟨mb, _, q1, q2, q3, (Q4.out.below HB6.out Q4.out.lt).grown (setBlock_grown w5 mb o) (fun e => q3 (Option.some.inj e)), ht, Q6.out.putCut x, fun y hy => by
          rcases layE_mem hy with rfl | hy
          · exact HXO.out
          · exact q7 y (cutE_mem hy)⟩)
      have HD := Lib.hid hd
      clear ht hc5 hk4 hk8 hkk hd
      refine i_skip rfl (setBlock w5 mb o) (by rfl) (by have q := HD.out; unfold vvE at q; go_simp) ?_
      clear HD
      go_wp2_with (first
        | (refine wpList_load_row rfl 67 _ rfl g9 rfl 67 _ (0, 0) _ K97.out Tryd.underlying67 rfl SZ9.out ?_)
        | (refine wpList_store_row rfl 67 _ _ rfl (g + 1) (enA z) rfl rfl 67 enNilA N7.out.k6 SZ9.out rfl ZA.out ?_))
      refine bodyPost_ret (v := .tuple #[.agg (enA z), .bool true]) (results_row_tmp Tryd.results13 _ _ (g + 1) 67 (enA z) _ _ rfl rfl (N7.out.k6.row _) Tryd.underlying67 rfl enSize49) rfl ⟨_, _, _, HR.out, rfl, ?_, ?_⟩
      · exact T7.out.keep (fun k _ hk => setRow_other _ (g + 1) k _ (by have := HG2.out; omega))
      · exact N7.out.kept.setRow (by have := HG.out; omega) _
end
section
/- Structs that are built, made and stored as opaque rows; with no program in sight. -/
open Go.RowKit

/-- A struct that is built of some parts. -/
theorem run_build_of {P : Program} {o : Oper} {a : Act} {w : World} (t : TypeId) (parts : List (Nat × Operand)) (ho : o.op = .build t parts.toArray) (vals : List (Nat × Value)) (arr : Array Value)
    (hv : parts.map (fun x => (x.1, a.eval x.2)) = vals) (hb : P.built t vals = some arr) : (execOp a.eval o).run P w = .ok (.value (.agg arr)) w := by
  subst hv
  have e : (Array.map (fun x => (x.1, a.eval x.2)) parts.toArray).toList = parts.map (fun x => (x.1, a.eval x.2)) := by simp
  rw [← e] at hb
  unfold execOp
  simp only [ho, Sem.run_bind, run_build w t _ arr hb, Result.andThen_ok, Sem.run_pure]

/-- A struct that is made. -/
theorem wpList_alloc {P : Program} {ops : Array Oper} {Q : Exit → Act → World → Prop} {a : Act} {w : World} {rest : List Oper} {o : Oper} (t : TypeId) (ho : o.op = .alloc t) (hw : Region.wanted o (yielded ops a.tmps) = true) (z : Array Value)
    (hz : ∀ W : World, (zeroValue t).run P W = .ok (.agg z) W) (h : wpList P ops Q rest (a.put o.dst (.pointer (some ⟨w.heap.size, 0, none⟩))) (w.alloc (.cells z t))) : wpList P ops Q (o :: rest) a w := by
  refine BigFrame.wpList_want hw fun K hK => ?_
  unfold Oper.wp execOp
  simp only [ho, Instr.alloc, Sem.run_bind, hz, Result.andThen_ok, newVar, Sem.run_pure]
  exact hK _ _ h
end
section
/- Three tables beside one another. -/
open Go.RowKit

/-- What is found for a key. -/
def findS (v : Nat) (l : List Se) : Nat × Bool := if atK seK v l < 0 then (0, false) else ((l.getD (atK seK v l).toNat ⟨0, 0, 0⟩).prt, true)
def findF (v : Nat) (l : List En) : Int × Bool := if atK enK v l < 0 then (0, false) else ((l.getD (atK enK v l).toNat ⟨0, 0, 0, 0⟩).port, true)
theorem get_s {w : World} {b A B : Nat} {l : List Se} (vid a : Nat) (ha : a < 281474976710656) (h : TS w b A B l) :
    Calls Tryd.prog 49 #[.pointer (some ⟨b, 0, none⟩), kyV vid a] w fun e w' => e = .returned (.tuple #[.int .u32 ((findS (keyN vid a) l).1 : Nat), .bool (findS (keyN vid a) l).2]) ∧ Below w.heap.size w w' :=
  (get_ts vid a ha h).mono fun e w' ⟨hb, hr⟩ => by
    refine ⟨?_, hb⟩
    unfold findS
    rcases hr with ⟨h1, h2⟩ | ⟨k, x, h1, h2, h3⟩
    · rw [h2, if_pos (by rw [h1]; omega)]; rfl
    · rw [h3, if_neg (by rw [h1]; omega), h1]; simp [h2]
theorem find_f {w : World} {b A B : Nat} {mo li : Int} {l : List En} (vid a : Nat) (ha : a < 281474976710656) (h : TF w b A B mo li l) :
    Calls Tryd.prog 12 #[.pointer (some ⟨b, 0, none⟩), kyV vid a] w fun e w' => e = .returned (.tuple #[.int .i64 (findF (keyN vid a) l).1, .bool (findF (keyN vid a) l).2]) ∧ Below w.heap.size w w' :=
  (find_tf vid a ha h).mono fun e w' ⟨hb, hr⟩ => by
    refine ⟨?_, hb⟩
    unfold findF
    rcases hr with ⟨h1, h2⟩ | ⟨k, x, h1, h2, h3⟩
    · rw [h2, if_pos (by rw [h1]; omega)]
    · rw [h3, if_neg (by rw [h1]; omega), h1]; simp [h2]
def SmallS (l : List Se) : Prop := ∀ y ∈ l, y.prt < 65536
theorem findS_small {l : List Se} (h : SmallS l) (v : Nat) : (findS v l).1 < 65536 := by
  unfold findS
  split
  · decide
  · simp only [List.getD_eq_getElem?_getD]
    cases hg : l[(atK seK v l).toNat]? with
    | none => simp
    | some y => exact h y (List.mem_of_getElem? hg)

/-- Where they lie. -/
structure Ix where
  b1 : Nat
  a1 : Nat
  z1 : Nat
  b2 : Nat
  a2 : Nat
  z2 : Nat
  b3 : Nat
  a3 : Nat
  z3 : Nat
  mo : Int
  li : Int
structure T3 (w0 : World) (i : Ix) (lv : List Vl) (ls : List Se) (lf : List En) (w : World) : Prop where
  tabV : TM w i.b1 i.a1 i.z1 lv
  tabS : TS w i.b2 i.a2 i.z2 ls
  tabF : TF w i.b3 i.a3 i.z3 i.mo i.li lf
  low : w0.heap.size ≤ i.a1 ∧ i.a1 ≤ i.z1 ∧ i.z1 ≤ i.a2 ∧ i.a2 ≤ i.z2 ∧ i.z2 ≤ i.a3 ∧ i.a3 ≤ i.z3 ∧ i.z3 ≤ w.heap.size
  smV : Small lv
  smS : SmallS ls
section
variable {w0 w w' : World} {i : Ix} {lv lv' : List Vl} {ls ls' : List Se} {lf lf' : List En}
theorem T3.next (h : T3 w0 i lv ls lf w) (hb : Below w.heap.size w w') : T3 w0 i lv ls lf w' := by
  have hl := h.low
  have hs := hb.size
  exact ⟨h.tabV.keep (fun k _ hk => hb.block k (by omega)), h.tabS.keep (fun k _ hk => hb.block k (by omega)), h.tabF.keep (fun k _ hk => hb.block k (by omega)), ⟨hl.1, hl.2.1, hl.2.2.1, hl.2.2.2.1, hl.2.2.2.2.1, hl.2.2.2.2.2.1, by omega⟩, h.smV, h.smS⟩
theorem T3.setV (h : T3 w0 i lv ls lf w) (ht : TM w' i.b1 i.a1 i.z1 lv') (hs : Small lv') (hk : KeptO i.a1 i.z1 w w') : T3 w0 i lv' ls lf w' := by
  have hl := h.low
  have hz := hk.size
  exact ⟨ht, h.tabS.keep (fun k hk1 hk2 => hk.block k (.inr (by omega)) (by omega)), h.tabF.keep (fun k hk1 hk2 => hk.block k (.inr (by omega)) (by omega)), ⟨hl.1, hl.2.1, hl.2.2.1, hl.2.2.2.1, hl.2.2.2.2.1, hl.2.2.2.2.2.1, by omega⟩, hs, h.smS⟩
theorem T3.setS (h : T3 w0 i lv ls lf w) (ht : TS w' i.b2 i.a2 i.z2 ls') (hs : SmallS ls') (hk : KeptO i.a2 i.z2 w w') : T3 w0 i lv ls' lf w' := by
  have hl := h.low
  have hz := hk.size
  exact ⟨h.tabV.keep (fun k hk1 hk2 => hk.block k (.inl (by omega)) (by omega)), ht, h.tabF.keep (fun k hk1 hk2 => hk.block k (.inr (by omega)) (by omega)), ⟨hl.1, hl.2.1, hl.2.2.1, hl.2.2.2.1, hl.2.2.2.2.1, hl.2.2.2.2.2.1, by omega⟩, h.smV, hs⟩
theorem T3.learn (h : T3 w0 i lv ls lf w) (ht : TF w' i.b3 i.a3 i.z3 i.mo i.li lf') (hk : KeptO i.a3 i.z3 w w') : T3 w0 i lv ls lf' w' := by
  have hl := h.low
  have hz := hk.size
  exact ⟨h.tabV.keep (fun k hk1 hk2 => hk.block k (.inl (by omega)) (by omega)), h.tabS.keep (fun k hk1 hk2 => hk.block k (.inl (by omega)) (by omega)), ht, ⟨hl.1, hl.2.1, hl.2.2.1, hl.2.2.2.1, hl.2.2.2.2.1, hl.2.2.2.2.2.1, by omega⟩, h.smV, h.smS⟩
theorem T3.setCell (h : T3 w0 i lv ls lf w) {a : Addr} (ha : i.z3 ≤ a.block) (u : Value) : T3 w0 i lv ls lf (w.setCell a u) := by
  have hl := h.low
  exact ⟨h.tabV.keep (fun k _ hk => Below.heap_setCell w a u k (by omega)), h.tabS.keep (fun k _ hk => Below.heap_setCell w a u k (by omega)), h.tabF.keep (fun k _ hk => Below.heap_setCell w a u k (by omega)), ⟨hl.1, hl.2.1, hl.2.2.1, hl.2.2.2.1, hl.2.2.2.2.1, hl.2.2.2.2.2.1, by simpa using hl.2.2.2.2.2.2⟩, h.smV, h.smS⟩
end
abbrev t3A (i : Ix) : Array Value := #[.pointer (some ⟨i.b1, 0, none⟩), .pointer (some ⟨i.b2, 0, none⟩), .pointer (some ⟨i.b3, 0, none⟩)]
theorem t3Size : (Tryd.prog.info? 35).map (·.size) = some 3 := by kernel_rfl
theorem t3_one (i : Ix) : (t3A i).all (·.oneCell') = true := by simp [Value.oneCell']

/-- A set is laid: few and small they stay. -/
theorem setS_small {l : List Se} (h : SmallS l) (x : Se) : SmallS (setS l x) := by
  unfold setS
  split
  · exact h
  · rename_i hg
    have hx : x.prt < 65536 := by
      unfold goodS at hg
      split at hg
      · simp at hg
      · split at hg
        · simp at hg
        · split at hg
          · simp at hg
          · omega
    split
    · intro y hy
      rcases List.mem_or_eq_of_mem_set hy with h1 | h1
      · exact h y h1
      · rw [h1]; exact hx
    · split
      · exact h
      · intro y hy
        rcases layK_mem hy with h1 | h1
        · rw [h1]; exact hx
        · exact h y h1
end
section
/- Blocks that a function makes, known whole, as a list in the order in which they are made; one law for each kind of operation of a region in the text's order; with no program in sight. -/
open Go.RowKit

structure Kb (w0 : World) (l : List (Nat × Array Value × TypeId)) (w : World) : Prop where
  all : ∀ x ∈ l, Blk w x.1 x.2.1 x.2.2
  below : Below w0.heap.size w0 w
  new : ∀ x ∈ l, w0.heap.size ≤ x.1
  nd : (l.map (·.1)).Nodup
/-- Some cells of a row are others. -/
def setL (cs : Array Value) : Nat → List Value → Array Value
  | _, [] => cs
  | o, v :: vs => setL (cs.setIfInBounds o v) (o + 1) vs
theorem Blk.setCells {g : Nat} {t : TypeId} : ∀ (vs : List Value) (o : Nat) (cs : Array Value) (w : World), Blk w g cs t → Blk (w.setCells g o vs) g (setL cs o vs) t
  | [], o, cs, w, h => h
  | v :: vs, o, cs, w, h => Blk.setCells vs (o + 1) (cs.setIfInBounds o v) (w.setCell ⟨g, o, none⟩ v) (h.set o v)
theorem Blk.setCellsOther {g b : Nat} {t : TypeId} (hb : b ≠ g) : ∀ (vs : List Value) (o : Nat) (cs : Array Value) (w : World), Blk w g cs t → Blk (w.setCells b o vs) g cs t
  | [], o, cs, w, h => h
  | v :: vs, o, cs, w, h => Blk.setCellsOther hb vs (o + 1) cs (w.setCell ⟨b, o, none⟩ v) (h.other (a := ⟨b, o, none⟩) hb v)
theorem below_setCells {B : Nat} {w0 : World} {g : Nat} (hg : B ≤ g) : ∀ (vs : List Value) (o : Nat) (w : World), Below B w0 w → Below B w0 (w.setCells g o vs)
  | [], o, w, h => h
  | v :: vs, o, w, h => below_setCells hg vs (o + 1) (w.setCell ⟨g, o, none⟩ v) (h.setCell hg _)
section
variable {w0 w w' : World} {l l' : List (Nat × Array Value × TypeId)} {b i : Nat} {cs cs' : Array Value} {t : TypeId}
theorem Kb.nil (w0 : World) : Kb w0 [] w0 := ⟨fun _ h => (by cases h), Below.refl _ _, fun _ h => (by cases h), List.nodup_nil⟩
theorem Kb.at (K : Kb w0 l w) (e : l[i]? = some (b, cs, t)) : Blk w b cs t := K.all _ (List.mem_of_getElem? e)
theorem Kb.cell (K : Kb w0 l w) (e : l[i]? = some (b, cs, t)) {j : Nat} {v : Value} (hv : cs[j]? = some v) : w.cell? ⟨b, j, none⟩ = some v := by rw [(K.at e).cell j]; exact hv
theorem Kb.next (K : Kb w0 l w) (hb : Below w.heap.size w w') : Kb w0 l w' := ⟨fun x hx => (K.all x hx).below hb (K.all x hx).lt, K.below.trans (hb.mono K.below.size), K.new, K.nd⟩
theorem Kb.drew (K : Kb w0 l w) : Kb w0 l w.drew := ⟨fun x hx => (K.all x hx).drew, K.below.drew, K.new, K.nd⟩
theorem Kb.alloc (K : Kb w0 l w) (cs : Array Value) (t : TypeId) : Kb w0 (l ++ [(w.heap.size, cs, t)]) (w.alloc (.cells cs t)) := by
  refine ⟨fun x hx => ?_, K.below.alloc K.below.size _, fun x hx => ?_, ?_⟩
  · rcases List.mem_append.1 hx with hx | hx
    · exact (K.all x hx).alloc _
    · rw [List.mem_singleton.1 hx]; exact Blk.new _ _ _
  · rcases List.mem_append.1 hx with hx | hx
    · exact K.new x hx
    · rw [List.mem_singleton.1 hx]; exact K.below.size
  · rw [List.map_append, List.nodup_append]
    refine ⟨K.nd, by simp, fun x hx y hy => ?_⟩
    obtain ⟨z, hz, rfl⟩ := List.mem_map.1 hx
    have := (K.all z hz).lt
    simp at hy
    omega
theorem Kb.put (K : Kb w0 l w) (e : l[i]? = some (b, cs, t)) (cs' : Array Value) {w' : World} (h1 : Blk w' b cs' t) (h2 : ∀ x ∈ l, x.1 ≠ b → Blk w x.1 x.2.1 x.2.2 → Blk w' x.1 x.2.1 x.2.2) (h3 : Below w0.heap.size w0 w') : Kb w0 (l.set i (b, cs', t)) w' := by
  have hi := (List.getElem?_eq_some_iff.1 e).1
  have hm : (l.set i (b, cs', t)).map (·.1) = l.map (·.1) := by
    rw [List.map_set]
    refine List.ext_getElem? fun j => ?_
    by_cases c : i = j
    · subst c
      rw [List.getElem?_set_self (by simpa using hi), List.getElem?_map, e]
      rfl
    · rw [List.getElem?_set_ne c]
  have hother : ∀ x ∈ l, x.1 ≠ b → Blk w' x.1 x.2.1 x.2.2 := fun x hx hn => h2 x hx hn (K.all x hx)
  have hin : ∀ x ∈ l.set i (b, cs', t), x = (b, cs', t) ∨ (x ∈ l ∧ x.1 ≠ b) := by
    intro x hx
    obtain ⟨j, hj⟩ := List.getElem?_of_mem hx
    by_cases c : i = j
    · subst c
      rw [List.getElem?_set_self hi] at hj
      injection hj with hj
      exact .inl hj.symm
    · rw [List.getElem?_set_ne c] at hj
      refine .inr ⟨List.mem_of_getElem? hj, fun hx1 => c ?_⟩
      have hjl := (List.getElem?_eq_some_iff.1 hj).1
      have a1 : (l.map (·.1))[i]? = some b := by rw [List.getElem?_map, e]; rfl
      have a2 : (l.map (·.1))[j]? = some b := by rw [List.getElem?_map, hj, ← hx1]; rfl
      exact (List.getElem?_inj (by simpa using hi) K.nd).1 (a1.trans a2.symm)
  refine ⟨fun x hx => ?_, h3, fun x hx => ?_, by rw [hm]; exact K.nd⟩
  · rcases hin x hx with rfl | ⟨hx, hn⟩
    · exact h1
    · exact hother x hx hn
  · rcases hin x hx with rfl | ⟨hx, hn⟩
    · exact K.new (b, cs, t) (List.mem_of_getElem? e)
    · exact K.new x hx
theorem Kb.row (K : Kb w0 l w) (e : l[i]? = some (b, cs, t)) (cs' : Array Value) : Kb w0 (l.set i (b, cs', t)) (w.setRow b cs') :=
  K.put e cs' ((K.at e).row cs') (fun _ _ hn hx => hx.rowOther hn cs') (below_setRow K.below (K.new _ (List.mem_of_getElem? e)) cs')
theorem Kb.set (K : Kb w0 l w) (e : l[i]? = some (b, cs, t)) (j : Nat) (v : Value) : Kb w0 (l.set i (b, cs.setIfInBounds j v, t)) (w.setCell ⟨b, j, none⟩ v) :=
  K.put e _ ((K.at e).set j v) (fun _ _ hn hx => hx.other (a := ⟨b, j, none⟩) (fun h => hn h.symm) v) (K.below.setCell (K.new _ (List.mem_of_getElem? e)) _)
theorem Kb.mid (K : Kb w0 l w) (e : l[i]? = some (b, cs, t)) (o : Nat) (vs : List Value) : Kb w0 (l.set i (b, setL cs o vs, t)) (w.setCells b o vs) :=
  K.put e _ (Blk.setCells vs o cs w (K.at e)) (fun x _ hn hx => Blk.setCellsOther (fun h => hn h.symm) vs o x.2.1 w hx) (below_setCells (K.new _ (List.mem_of_getElem? e)) vs o w K.below)
theorem Blk.thereN {w : World} {g : Nat} {cs : Array Value} {t : TypeId} (h : Blk w g cs t) (o n : Nat) (hn : o + n ≤ cs.size) : w.there g o n := fun j hj => ⟨by rw [h.cell]; simp; omega, h.free _⟩
end
section
variable {P : Program} {ops : Array Oper} {Q : Exit → Act → World → Prop} {a : Act} {w w0 : World} {rest : List Oper} {o : Oper} {l : List (Nat × Array Value × TypeId)} {b i : Nat} {cs : Array Value} {t : TypeId}
theorem kb_box (K : Kb w0 l w) (ty : TypeId) (x : Operand) (cs : Array Value) (ho : o.op = .box ty x) (hx : a.eval x = .agg cs) (hw : Region.wanted o (yielded ops a.tmps) = true)
    (h : ∀ b w', b = w.heap.size → Kb w0 (l ++ [(b, cs, ty)]) w' → wpList P ops Q rest (a.put o.dst (.pointer (some ⟨b, 0, none⟩))) w') : wpList P ops Q (o :: rest) a w := by
  refine BigFrame.wpList_want hw fun K' hK => ?_
  unfold Oper.wp execOp
  simp only [ho, hx, Instr.box, Sem.run_bind, newVar, Sem.run_pure]
  exact hK _ _ (h _ _ rfl (K.alloc cs ty))
theorem kb_alloc (K : Kb w0 l w) (ty : TypeId) (z : Array Value) (ho : o.op = .alloc ty) (hz : ∀ W : World, (zeroValue ty).run P W = .ok (.agg z) W) (hw : Region.wanted o (yielded ops a.tmps) = true)
    (h : ∀ b w', b = w.heap.size → Kb w0 (l ++ [(b, z, ty)]) w' → wpList P ops Q rest (a.put o.dst (.pointer (some ⟨b, 0, none⟩))) w') : wpList P ops Q (o :: rest) a w := by
  refine BigFrame.wpList_want hw fun K' hK => ?_
  unfold Oper.wp execOp
  simp only [ho, Instr.alloc, Sem.run_bind, hz, Result.andThen_ok, newVar, Sem.run_pure]
  exact hK _ _ (h _ _ rfl (K.alloc z ty))
theorem kb_row (K : Kb w0 l w) (i : Nat) (e : l[i]? = some (b, cs, t)) (ty : TypeId) (x y : Operand) (cs' : Array Value) (ho : o.op = .store ty x y) (hg : o.guard = none) (hx : a.eval x = .pointer (some ⟨b, 0, none⟩)) (hy : a.eval y = .agg cs')
    (hi : (P.info? ty).map (·.size) = some cs'.size) (hs : cs.size = cs'.size) (h1 : cs'.all (·.oneCell') = true)
    (h : ∀ w', Kb w0 (l.set i (b, cs', t)) w' → wpList P ops Q rest (a.put o.dst undef) w') : wpList P ops Q (o :: rest) a w :=
  wpList_store_row hg ty x y ho b cs' hx hy t cs (K.at e) hi hs h1 (h _ (K.row e cs'))
theorem kb_mid (K : Kb w0 l w) (i : Nat) (e : l[i]? = some (b, cs, t)) (ty : TypeId) (x y : Operand) (j : Nat) (part : Array Value) (ho : o.op = .store ty x y) (hg : o.guard = none) (hx : a.eval x = .pointer (some ⟨b, j, none⟩)) (hy : a.eval y = .agg part)
    (hi : (P.info? ty).map (·.size) = some part.size) (hs : j + part.size ≤ cs.size) (h1 : part.all (·.oneCell') = true) (cs' : Array Value) (hc : setL cs j part.toList = cs')
    (h : ∀ w', Kb w0 (l.set i (b, cs', t)) w' → wpList P ops Q rest (a.put o.dst undef) w') : wpList P ops Q (o :: rest) a w :=
  wpList_store_mid hg ty x y ho b j part hx hy ((K.at e).thereN j part.size hs) hi h1 (h _ (by rw [← hc]; exact K.mid e j part.toList))
theorem kb_set (K : Kb w0 l w) (i : Nat) (e : l[i]? = some (b, cs, t)) (ty : TypeId) (x y : Operand) (j : Nat) (v : Value) (ho : o.op = .store ty x y) (hw : Region.wanted o (yielded ops a.tmps) = true) (hx : a.eval x = .pointer (some ⟨b, j, none⟩)) (hy : a.eval y = v)
    (hrun : (Instr.storeAt ty (.pointer (some ⟨b, j, none⟩)) v).run P w = .ok () (w.setCell ⟨b, j, none⟩ v)) (cs' : Array Value) (hc : cs.setIfInBounds j v = cs')
    (h : ∀ w', Kb w0 (l.set i (b, cs', t)) w' → wpList P ops Q rest (a.put o.dst undef) w') : wpList P ops Q (o :: rest) a w :=
  BigFrame.wpList_want hw fun K' hK => wp_store_cell ty x y ho ⟨b, j, none⟩ v hx hy hrun (hK _ _ (h _ (by rw [← hc]; exact K.set e j v)))
/-- A store of one cell runs. -/
theorem kb_run_set (K : Kb w0 l w) (e : l[i]? = some (b, cs, t)) (ty : TypeId) (j : Nat) (u v : Value) (hu : cs[j]? = some u) (h : ∀ W : World, W.cell? ⟨b, j, none⟩ = some u → W.frozen? ⟨b, j, none⟩ = false → (Instr.storeAt ty (.pointer (some ⟨b, j, none⟩)) v).run P W = .ok () (W.setCell ⟨b, j, none⟩ v)) :
    (Instr.storeAt ty (.pointer (some ⟨b, j, none⟩)) v).run P w = .ok () (w.setCell ⟨b, j, none⟩ v) := h w (K.cell e hu) ((K.at e).free j)
theorem kb_call (K : Kb w0 l w) (f : FuncId) (args : Array Value) (v : Value) (hw : Region.wanted o (yielded ops a.tmps) = true) (hv : (execOp a.eval o).run P w = .ok (.enter f args) w)
    (hc : Calls P f args w fun e w' => e = .returned v ∧ Below w.heap.size w w') (h : ∀ w', Kb w0 l w' → wpList P ops Q rest (a.put o.dst v) w') : wpList P ops Q (o :: rest) a w :=
  BigFrame.wpList_want hw fun K' hK => by
    unfold Oper.wp
    simp only [hv, Oper.upon]
    exact hc.mono fun e w' ⟨he, hb⟩ => by subst he; exact hK _ _ (h w' (K.next hb))
theorem kb_all (K : Kb w0 l w) (i : Nat) (e : l[i]? = some (b, cs, t)) (ty : TypeId) (x : Operand) (ho : o.op = .load ty x) (hx : a.eval x = .pointer (some ⟨b, 0, none⟩)) {d : TypeDesc} (hu : P.underlying ty = some d)
    (hd : (match d with | .struct _ | .array _ _ => true | _ => false) = true) (hi : (P.info? ty).map (·.size) = some cs.size) : (execOp a.eval o).run P w = .ok (.value (.agg cs)) w :=
  run_loadVar_of ty x ho b hx t cs d (K.at e) hu hd hi
theorem kb_part (K : Kb w0 l w) (i : Nat) (e : l[i]? = some (b, cs, t)) (ty : TypeId) (x : Operand) (j : Nat) (part : List Value) (ho : o.op = .load ty x) (hx : a.eval x = .pointer (some ⟨b, j, none⟩)) (hp : ∀ k v, part[k]? = some v → cs[j + k]? = some v) {d : TypeDesc}
    (hu : P.underlying ty = some d) (hd : d.isRow = true) (hi : (P.info? ty).map (·.size) = some part.length) : (execOp a.eval o).run P w = .ok (.value (.agg part.toArray)) w :=
  run_loadPart_of ty x ho b j hx t cs part d (K.at e) hp hu hd hi
theorem part_of {cs : Array Value} {o : Nat} {part : List Value} (h : (cs.toList.drop o).take part.length = part) : ∀ k v, part[k]? = some v → cs[o + k]? = some v := fun k v hv => by
  have hk : k < part.length := (List.getElem?_eq_some_iff.1 hv).1
  rw [← h, List.getElem?_take_of_lt hk, List.getElem?_drop] at hv
  simpa using hv
theorem run_pick_no {P : Program} {o : Oper} {a : Act} {w : World} (c x y : Operand) (v : Value) (ho : o.op = .pick c x y) (hc : a.eval c = .bool false) (hy : a.eval y = v) : (execOp a.eval o).run P w = .ok (.value v) w := by
  unfold execOp
  simp only [ho, hc, hy]
  simp [asBool, Sem.run_pure, Result.andThen_ok]
theorem run_pick_yes {P : Program} {o : Oper} {a : Act} {w : World} (c x y : Operand) (v : Value) (ho : o.op = .pick c x y) (hc : a.eval c = .bool true) (hy : a.eval x = v) : (execOp a.eval o).run P w = .ok (.value v) w := by
  unfold execOp
  simp only [ho, hc, hy]
  simp [asBool, Sem.run_pure, Result.andThen_ok]
end
end
section
/- Up to three rows that are made and filled in one region, in whatever order; with no program in sight. -/
open Go.RowKit

/-- A place made since, and, once it is written, the row in it. -/
def PtrAt (B : Nat) (t : TypeId) (n : Nat) (w : World) (v : Value) (done : Bool) (x : Array Value) : Prop := ∃ c cs, v = .pointer (some ⟨c, 0, none⟩) ∧ B ≤ c ∧ cs.size = n ∧ Blk w c cs t ∧ (done = true → cs = x)
section
variable {B n : Nat} {t : TypeId} {w w' : World} {v : Value} {done : Bool} {x : Array Value}
theorem PtrAt.below (h : PtrAt B t n w v done x) (hb : Below w.heap.size w w') : PtrAt B t n w' v done x := by
  obtain ⟨c, cs, e, hB, hz, hk, hd⟩ := h
  exact ⟨c, cs, e, hB, hz, hk.below hb hk.lt, hd⟩
theorem PtrAt.rowOther {c : Nat} (h : PtrAt B t n w v done x) (hc : v ≠ .pointer (some ⟨c, 0, none⟩)) {m : Array Value} : PtrAt B t n (w.setRow c m) v done x := by
  obtain ⟨k, cs, e, hB, hz, hk, hd⟩ := h
  exact ⟨k, cs, e, hB, hz, hk.rowOther (fun e2 => hc (by rw [e, e2])) m, hd⟩
theorem PtrAt.old (h : PtrAt B t n w v done x) : v ≠ .pointer (some ⟨w.heap.size, 0, none⟩) := by
  obtain ⟨k, cs, rfl, hB, hz, hk, hd⟩ := h
  intro e
  have := hk.lt
  simp at e
end

/-- The world, while it goes on. The bits: the three are made, the three are filled. -/
structure W3 (w1 : World) (t : TypeId) (n : Nat) (x y z : Array Value) (a b c p q r : Bool) (v7 v8 v9 : Value) (w : World) : Prop where
  from1 : Below w1.heap.size w1 w
  p7 : a = true → PtrAt w1.heap.size t n w v7 p x
  p8 : b = true → PtrAt w1.heap.size t n w v8 q y
  p9 : c = true → PtrAt w1.heap.size t n w v9 r z
  d78 : a = true → b = true → v7 ≠ v8
  d79 : a = true → c = true → v7 ≠ v9
  d89 : b = true → c = true → v8 ≠ v9
  o7 : p = true → a = true
  o8 : q = true → b = true
  o9 : r = true → c = true
section
variable {w1 w w' : World} {t : TypeId} {n : Nat} {x y z nil : Array Value} {a b c p q r : Bool} {v7 v8 v9 : Value} {g : Nat} {cs : Array Value}
theorem W3.start (w : World) : W3 w t n x y z false false false false false false v7 v8 v9 w.drew :=
  ⟨(Below.refl _ _).drew, (fun h => Bool.noConfusion h), (fun h => Bool.noConfusion h), (fun h => Bool.noConfusion h), (fun h => Bool.noConfusion h), (fun h => Bool.noConfusion h), (fun h => Bool.noConfusion h), (fun h => Bool.noConfusion h), (fun h => Bool.noConfusion h), (fun h => Bool.noConfusion h)⟩
theorem W3.next (h : W3 w1 t n x y z a b c p q r v7 v8 v9 w) (hb : Below w.heap.size w w') : W3 w1 t n x y z a b c p q r v7 v8 v9 w' :=
  ⟨h.from1.trans (hb.mono h.from1.size), fun hu => (h.p7 hu).below hb, fun hu => (h.p8 hu).below hb, fun hu => (h.p9 hu).below hb, h.d78, h.d79, h.d89, h.o7, h.o8, h.o9⟩
theorem W3.alloc7 (h : W3 w1 t n x y z a b c p q r v7 v8 v9 w) (hn : nil.size = n) (hl : a = false) : W3 w1 t n x y z true b c p q r (.pointer (some ⟨w.heap.size, 0, none⟩)) v8 v9 (w.alloc (.cells nil t)) :=
  ⟨h.from1.alloc h.from1.size _, fun _ => ⟨w.heap.size, nil, rfl, h.from1.size, hn, Blk.new w nil t, fun hd => by rw [h.o7 hd] at hl; cases hl⟩, fun hu => (h.p8 hu).below ((Below.refl _ _).alloc (Nat.le_refl _) _), fun hu => (h.p9 hu).below ((Below.refl _ _).alloc (Nat.le_refl _) _), fun _ hu => fun e => (h.p8 hu).old e.symm, fun _ hu => fun e => (h.p9 hu).old e.symm, h.d89, fun _ => rfl, h.o8, h.o9⟩
theorem W3.store7 (h : W3 w1 t n x y z a b c p q r (.pointer (some ⟨g, 0, none⟩)) v8 v9 w) (ha : a = true) (hx : x.size = n) (hk : Blk w g cs t) (hc : w1.heap.size ≤ g) : W3 w1 t n x y z a b c true q r (.pointer (some ⟨g, 0, none⟩)) v8 v9 (w.setRow g x) :=
  ⟨below_setRow h.from1 hc _, fun _ => ⟨g, x, rfl, hc, hx, hk.row _, fun _ => rfl⟩, fun hu => (h.p8 hu).rowOther (fun e => h.d78 ha hu e.symm), fun hu => (h.p9 hu).rowOther (fun e => h.d79 ha hu e.symm), h.d78, h.d79, h.d89, fun _ => ha, h.o8, h.o9⟩
theorem W3.alloc8 (h : W3 w1 t n x y z a b c p q r v7 v8 v9 w) (hn : nil.size = n) (hl : b = false) : W3 w1 t n x y z a true c p q r v7 (.pointer (some ⟨w.heap.size, 0, none⟩)) v9 (w.alloc (.cells nil t)) :=
  ⟨h.from1.alloc h.from1.size _, fun hu => (h.p7 hu).below ((Below.refl _ _).alloc (Nat.le_refl _) _), fun _ => ⟨w.heap.size, nil, rfl, h.from1.size, hn, Blk.new w nil t, fun hd => by rw [h.o8 hd] at hl; cases hl⟩, fun hu => (h.p9 hu).below ((Below.refl _ _).alloc (Nat.le_refl _) _), fun hu _ => fun e => (h.p7 hu).old e, h.d79, fun _ hu => fun e => (h.p9 hu).old e.symm, h.o7, fun _ => rfl, h.o9⟩
theorem W3.store8 (h : W3 w1 t n x y z a b c p q r v7 (.pointer (some ⟨g, 0, none⟩)) v9 w) (ha : b = true) (hy : y.size = n) (hk : Blk w g cs t) (hc : w1.heap.size ≤ g) : W3 w1 t n x y z a b c p true r v7 (.pointer (some ⟨g, 0, none⟩)) v9 (w.setRow g y) :=
  ⟨below_setRow h.from1 hc _, fun hu => (h.p7 hu).rowOther (fun e => h.d78 hu ha e), fun _ => ⟨g, y, rfl, hc, hy, hk.row _, fun _ => rfl⟩, fun hu => (h.p9 hu).rowOther (fun e => h.d89 ha hu e.symm), h.d78, h.d79, h.d89, h.o7, fun _ => ha, h.o9⟩
theorem W3.alloc9 (h : W3 w1 t n x y z a b c p q r v7 v8 v9 w) (hn : nil.size = n) (hl : c = false) : W3 w1 t n x y z a b true p q r v7 v8 (.pointer (some ⟨w.heap.size, 0, none⟩)) (w.alloc (.cells nil t)) :=
  ⟨h.from1.alloc h.from1.size _, fun hu => (h.p7 hu).below ((Below.refl _ _).alloc (Nat.le_refl _) _), fun hu => (h.p8 hu).below ((Below.refl _ _).alloc (Nat.le_refl _) _), fun _ => ⟨w.heap.size, nil, rfl, h.from1.size, hn, Blk.new w nil t, fun hd => by rw [h.o9 hd] at hl; cases hl⟩, h.d78, fun hu _ => fun e => (h.p7 hu).old e, fun hu _ => fun e => (h.p8 hu).old e, h.o7, h.o8, fun _ => rfl⟩
theorem W3.store9 (h : W3 w1 t n x y z a b c p q r v7 v8 (.pointer (some ⟨g, 0, none⟩)) w) (ha : c = true) (hz : z.size = n) (hk : Blk w g cs t) (hc : w1.heap.size ≤ g) : W3 w1 t n x y z a b c p q true v7 v8 (.pointer (some ⟨g, 0, none⟩)) (w.setRow g z) :=
  ⟨below_setRow h.from1 hc _, fun hu => (h.p7 hu).rowOther (fun e => h.d79 hu ha e), fun hu => (h.p8 hu).rowOther (fun e => h.d89 hu ha e), fun _ => ⟨g, z, rfl, hc, hz, hk.row _, fun _ => rfl⟩, h.d78, h.d79, h.d89, h.o7, h.o8, fun _ => ha⟩
end
end
end Go.Proofs.YtelohoomlgjjmaaDoor
