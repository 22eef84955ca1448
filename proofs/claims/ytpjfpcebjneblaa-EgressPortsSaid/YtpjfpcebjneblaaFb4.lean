/- The developers' table of layer 9: Learn. -/
import Derived.Test.YtpjfpcebjneblaaFb3
import Derived.Test.YtpjfpcebjneblaaLastOp
namespace Go.Proofs.Ytpjfpcebjneblaa
open Go.RowKit
open Go.ChangeMaps (setBlock)
set_option linter.unusedSimpArgs false
set_option linter.unusedVariables false

theorem KeptO.refl (A B : Nat) (w : World) : KeptO A B w w := ⟨rfl, rfl, rfl, Nat.le_refl _, fun _ _ _ => rfl⟩
theorem KeptO.trans {A B : Nat} {w1 w2 w3 : World} (h : KeptO A B w1 w2) (k : KeptO A B w2 w3) : KeptO A B w1 w3 :=
  ⟨k.os.trans h.os, k.tape.trans h.tape, k.output.trans h.output, Nat.le_trans h.size k.size, fun i hi hl => (k.block i hi (Nat.lt_of_lt_of_le hl h.size)).trans (h.block i hi hl)⟩
theorem KeptO.ofBelow {A B : Nat} {w w' : World} (h : Below w.heap.size w w') : KeptO A B w w' := ⟨h.os, h.tape, h.output, h.size, fun i _ hl => h.block i hl⟩
theorem KeptO.setRow {A B : Nat} {w w' : World} (h : KeptO A B w w') {g : Nat} (hg : w.heap.size ≤ g) (cs : Array Value) : KeptO A B w (w'.setRow g cs) :=
  ⟨h.os, h.tape, h.output, (by have := h.size; simpa [World.setRow] using this), fun i hi hl => (setRow_other w' g i cs (by omega)).trans (h.block i hi hl)⟩
theorem KeptO.blk {A B : Nat} {w w' : World} {g : Nat} {cs : Array Value} {t : TypeId} (h : KeptO A B w w') (hb : Blk w g cs t) (hg : g < A ∨ B ≤ g) : Blk w' g cs t := (h.block g hg hb.lt).trans hb
theorem KeptO.setBlock {A B : Nat} {w : World} {mb : Nat} (h1 : A ≤ mb) (h2 : mb < B) (o : Obj) : KeptO A B w (setBlock w mb o) := by
  have hg := setBlock_grown w mb o
  exact ⟨hg.os, hg.tape, hg.output, hg.size, fun i hi hl => hg.block i hl (fun e => by have := Option.some.inj e; omega)⟩
theorem en_range {w : World} {g : Nat} {x : En} {t : TypeId} (h : Blk w g (enA x) t) : w.rangeAt g 0 (kyA x.vid x.mac).toList := by
  intro j u hu
  rw [Nat.zero_add, h.cell]
  have hj : j < 7 := by
    have := (List.getElem?_eq_some_iff.1 hu).1
    simpa using this
  match j, hj with
  | 0, _ => simpa using hu
  | 1, _ => simpa using hu
  | 2, _ => simpa using hu
  | 3, _ => simpa using hu
  | 4, _ => simpa using hu
  | 5, _ => simpa using hu
  | 6, _ => simpa using hu
theorem RelK.putCut {α : Type} {key : α → Nat} {L : List (Nat × α)} {l : List α} (h : RelK key L l) (x : α) : RelK key (putL (key x) x L) (layK key (cutK key (key x) l) x) := by
  have hc := cutK_filter h.1 (key x)
  have hs : (cutK key (key x) l).Pairwise (fun a b => key a < key b) := by rw [hc]; exact h.1.filter _
  have q := layK_sorted hs x (fun y hy => by
    rw [hc] at hy
    simpa using (List.mem_filter.1 hy).2)
  refine h.put_of x q.1 ?_
  rw [← hc]
  exact q.2
theorem layE_mem {l : List En} {x y : En} (h : y ∈ layK enK l x) : y = x ∨ y ∈ l := by
  unfold layK at h
  rcases List.mem_append.1 h with h | h
  · rcases List.mem_append.1 h with h | h
    · exact .inr (List.mem_of_mem_take h)
    · exact .inl (by simpa using h)
  · exact .inr (List.mem_of_mem_drop h)
theorem cutE_mem {l : List En} {v : Nat} {y : En} (h : y ∈ cutK enK v l) : y ∈ l := by
  unfold cutK at h
  split at h
  · exact h
  · exact (List.eraseIdx_sublist _ _).mem h
/-- With an entry, in the place of one with its key. -/
def putD (l : List En) (x : En) : List En := layK enK (cutK enK (enK x) l) x
/-- What Learn does, and what it answers. -/
def LearnR (mo li : Int) (l : List En) (x : En) (l' : List En) (gv : Array Value) (full : Bool) : Prop :=
  (takesB li x = false ∧ l' = l ∧ gv = enNilA ∧ full = false) ∨
  (takesB li x = true ∧ (decide (0 ≤ atK enK (enK x) l) || decide ((l.length : Int) < mo)) = true ∧ l' = putD l x ∧ gv = enNilA ∧ full = false) ∨
  (takesB li x = true ∧ (decide (0 ≤ atK enK (enK x) l) || decide ((l.length : Int) < mo)) = false ∧ ∃ z, OldS l z ∧ l' = putD (cutK enK (enK z) l) x ∧ gv = enA z ∧ full = true)
/-- The slots, while the region runs. -/
structure Le8S (b mb g9 : Nat) (z : En) (f1 f2 f3 f4 f5 f6 f7 f8 f10 f11 f12 f13 f14 f15 f16 f17 f18 f19 f20 f21 f22 f23 f24 f25 f26 f27 f28 f29 f36 f37 f38 f39 f40 f41 f42 f43 : Value) (L : Nat → Bool) (v30 v31 v32 v33 v34 v35 : Value) : Prop where
  e30 : L 0 = true → v30 = .pointer (some ⟨b, 0, none⟩)
  e31 : L 1 = true → v31 = .pointer (some ⟨b, 0, none⟩)
  e32 : L 2 = true → v32 = .pointer (some ⟨b, 2, none⟩)
  e33 : L 3 = true → v33 = .map (some mb)
  e34 : L 4 = true → v34 = .pointer (some ⟨g9, 0, none⟩)
  e35 : L 5 = true → v35 = kyV z.vid z.mac
abbrev Le8F (b mb g9 : Nat) (z : En) (f1 f2 f3 f4 f5 f6 f7 f8 f10 f11 f12 f13 f14 f15 f16 f17 f18 f19 f20 f21 f22 f23 f24 f25 f26 f27 f28 f29 f36 f37 f38 f39 f40 f41 f42 f43 : Value) (v30 v31 v32 v33 v34 v35 : Value) : Act := { tmps := #[.pointer (some ⟨b, 0, none⟩), f1, f2, f3, f4, f5, f6, f7, f8, .pointer (some ⟨g9, 0, none⟩), f10, f11, f12, f13, f14, f15, f16, f17, f18, f19, f20, f21, f22, f23, f24, f25, f26, f27, f28, f29, v30, v31, v32, v33, v34, v35, f36, f37, f38, f39, f40, f41, f42, f43], defers := [] }
def Le8I (b mb g9 : Nat) (z : En) (f1 f2 f3 f4 f5 f6 f7 f8 f10 f11 f12 f13 f14 f15 f16 f17 f18 f19 f20 f21 f22 f23 f24 f25 f26 f27 f28 f29 f36 f37 f38 f39 f40 f41 f42 f43 : Value) (L : Nat → Bool) (ac : Act) : Prop :=
  ∃ v30 v31 v32 v33 v34 v35, ac = Le8F b mb g9 z f1 f2 f3 f4 f5 f6 f7 f8 f10 f11 f12 f13 f14 f15 f16 f17 f18 f19 f20 f21 f22 f23 f24 f25 f26 f27 f28 f29 f36 f37 f38 f39 f40 f41 f42 f43 v30 v31 v32 v33 v34 v35 ∧ Le8S b mb g9 z f1 f2 f3 f4 f5 f6 f7 f8 f10 f11 f12 f13 f14 f15 f16 f17 f18 f19 f20 f21 f22 f23 f24 f25 f26 f27 f28 f29 f36 f37 f38 f39 f40 f41 f42 f43 L v30 v31 v32 v33 v34 v35
/-- The slots, while the region runs. -/
structure Le9S (b mb g4 g8 : Nat) (x : En) (f1 f2 f3 f5 f6 f7 f9 f10 f11 f12 f13 f14 f15 f16 f17 f18 f19 f20 f21 f22 f23 f24 f25 f26 f27 f28 f29 f30 f31 f32 f33 f34 f35 f42 f43 : Value) (L : Nat → Bool) (v36 v37 v38 v39 v40 v41 : Value) : Prop where
  e36 : L 0 = true → v36 = .pointer (some ⟨b, 0, none⟩)
  e37 : L 1 = true → v37 = .pointer (some ⟨b, 0, none⟩)
  e38 : L 2 = true → v38 = .pointer (some ⟨b, 2, none⟩)
  e39 : L 3 = true → v39 = .map (some mb)
  e40 : L 4 = true → v40 = kyV x.vid x.mac
  e41 : L 5 = true → v41 = enV x
abbrev Le9F (b mb g4 g8 : Nat) (x : En) (f1 f2 f3 f5 f6 f7 f9 f10 f11 f12 f13 f14 f15 f16 f17 f18 f19 f20 f21 f22 f23 f24 f25 f26 f27 f28 f29 f30 f31 f32 f33 f34 f35 f42 f43 : Value) (v36 v37 v38 v39 v40 v41 : Value) : Act := { tmps := #[.pointer (some ⟨b, 0, none⟩), f1, f2, f3, .pointer (some ⟨g4, 0, none⟩), f5, f6, f7, .pointer (some ⟨g8, 0, none⟩), f9, f10, f11, f12, f13, f14, f15, f16, f17, f18, f19, f20, f21, f22, f23, f24, f25, f26, f27, f28, f29, f30, f31, f32, f33, f34, f35, v36, v37, v38, v39, v40, v41, f42, f43], defers := [] }
def Le9I (b mb g4 g8 : Nat) (x : En) (f1 f2 f3 f5 f6 f7 f9 f10 f11 f12 f13 f14 f15 f16 f17 f18 f19 f20 f21 f22 f23 f24 f25 f26 f27 f28 f29 f30 f31 f32 f33 f34 f35 f42 f43 : Value) (L : Nat → Bool) (ac : Act) : Prop :=
  ∃ v36 v37 v38 v39 v40 v41, ac = Le9F b mb g4 g8 x f1 f2 f3 f5 f6 f7 f9 f10 f11 f12 f13 f14 f15 f16 f17 f18 f19 f20 f21 f22 f23 f24 f25 f26 f27 f28 f29 f30 f31 f32 f33 f34 f35 f42 f43 v36 v37 v38 v39 v40 v41 ∧ Le9S b mb g4 g8 x f1 f2 f3 f5 f6 f7 f9 f10 f11 f12 f13 f14 f15 f16 f17 f18 f19 f20 f21 f22 f23 f24 f25 f26 f27 f28 f29 f30 f31 f32 f33 f34 f35 f42 f43 L v36 v37 v38 v39 v40 v41

/-- What Learn has of its own. -/
structure Ln (w : World) (b A B : Nat) (mo li : Int) (g : Nat) (x : En) (W : World) : Prop where
  kept : KeptO A B w W
  k4 : Blk W g (kyA x.vid x.mac) 61
  k6 : Blk W (g + 1) enNilA 65
  k8 : Blk W (g + 2) (enA x) 65
theorem Ln.kp {w W W' : World} {b A B g : Nat} {mo li : Int} {x : En} (h : Ln w b A B mo li g x W) (hk : KeptO A B W W') (hg : B ≤ g) : Ln w b A B mo li g x W' :=
  ⟨h.kept.trans hk, hk.blk h.k4 (.inr hg), hk.blk h.k6 (.inr (by omega)), hk.blk h.k8 (.inr (by omega))⟩
theorem Ln.next {w W W' : World} {b A B g : Nat} {mo li : Int} {x : En} (h : Ln w b A B mo li g x W) (hb : Below W.heap.size W W') (hg : B ≤ g) : Ln w b A B mo li g x W' := h.kp (KeptO.ofBelow hb) hg
theorem TF.low {w : World} {b A B : Nat} {mo li : Int} {l : List En} (h : TF w b A B mo li l) : b < w.heap.size := by
  obtain ⟨mb, L, h1, h2, h3, h4, -⟩ := h
  exact h4.lt

set_option maxRecDepth 100000 in
set_option maxHeartbeats 16000000 in
theorem learn_tf {w : World} {b A B : Nat} {mo li : Int} {l : List En} (vid a : Nat) (port : Int) (ha : a < 281474976710656) (hmo : 1 ≤ mo) (h : TF w b A B mo li l) (hAB : A ≤ B) (hB : B ≤ w.heap.size) :
    Calls Try.prog 19 #[.pointer (some ⟨b, 0, none⟩), kyV vid a, .int .i64 port] w fun e w' => ∃ l' gv full, LearnR mo li l ⟨vid, a, port, 0⟩ l' gv full ∧ e = .returned (.tuple #[.agg gv, .bool full]) ∧ TF w' b A B mo li l' ∧ KeptO A B w w' := by
  obtain ⟨x, hx⟩ : ∃ x : En, x = ⟨vid, a, port, 0⟩ := ⟨_, rfl⟩
  have HX := Lib.hid hx
  rw [← hx]
  have hxo : enOk x := by rw [hx]; exact ha
  have hz := zero49
  obtain ⟨g, hg⟩ : ∃ g, g = w.heap.size := ⟨_, rfl⟩
  obtain ⟨w1, hw1⟩ : ∃ w1, w1 = (w.alloc (.cells (kyA vid a) 61)).alloc (.cells enNilA 65) := ⟨_, rfl⟩
  obtain ⟨w2, hw2⟩ : ∃ w2, w2 = w1.alloc (.cells (enA x) 65) := ⟨_, rfl⟩
  have hb1 : Below w.heap.size w w1 := by rw [hw1]; exact ((Below.refl w.heap.size w).alloc (Nat.le_refl _) _).alloc (by simp) _
  have k4 : Blk w1 g (kyA vid a) 61 := by rw [hw1, hg]; exact (Blk.new _ _ _).alloc _
  have k6 : Blk w1 (g + 1) enNilA 65 := by
    rw [hw1, hg]
    have := Blk.new (w.alloc (.cells (kyA vid a) 61)) enNilA 65
    simpa using this
  have s1 : w1.heap.size = g + 2 := by rw [hw1, hg]; simp
  have k8 : Blk w2 (g + 2) (enA x) 65 := by
    have := Blk.new w1 (enA x) 65
    rw [← hw2, s1] at this
    exact this
  have hb2 : Below w.heap.size w w2 := by rw [hw2]; exact hb1.alloc hb1.size _
  have hg2 : B ≤ g := by rw [hg]; exact hB
  have N2 := Lib.hid (show Ln w b A B mo li g x w2 from ⟨KeptO.ofBelow hb2, by rw [hx, hw2]; exact k4.alloc _, by rw [hw2]; exact k6.alloc _, k8⟩)
  have T2 := Lib.hid ((h.next hB hb2).1)
  have HG := Lib.hid hg
  have HG2 := Lib.hid hg2
  have HW1 := Lib.hid hw1
  have HW2 := Lib.hid (show w1.alloc (.cells (enA ⟨vid, a, port, 0⟩) 65) = w2 by rw [hw2, hx])
  have HS1 := Lib.hid s1
  have K4 := Lib.hid k4
  have SZ7 := Lib.hid kySize9
  have SZ9 := Lib.hid enSize49
  have XA := Lib.hid (enA_one x)
  have XN := Lib.hid (show (enNilA).all (·.oneCell') = true by simp [Value.oneCell'])
  have HXO := Lib.hid hxo
  have HH := Lib.hid h
  have HK7 := Lib.hid (show Value.agg (kyA vid a) = kyV x.vid x.mac by rw [hx])
  have HEN := Lib.hid (show (Value.agg #[.int .u16 (vid : Nat), .int .u8 (byteF a 0 : Nat), .int .u8 (byteF a 1 : Nat), .int .u8 (byteF a 2 : Nat), .int .u8 (byteF a 3 : Nat), .int .u8 (byteF a 4 : Nat), .int .u8 (byteF a 5 : Nat), .int .i64 port, .int .i64 0]) = enV x by rw [hx])
  clear h hx hg hw1 hw2 hb1 k4 k6 s1 k8 hb2 hg2 hxo ha
  go_enter Try.func19, Try.ntmps19
  go_upto_region 1 with fail
  rw [← HW1.out, ← HG.out]
  go_upto_region 2 with (refine wpList_load_row rfl 61 _ rfl g rfl 61 _ (0, 0) _ K4.out Try.underlying61 rfl SZ7.out ?_)
  rw [HW2.out, HS1.out]
  have HTK := Lib.hid (takes_any x T2.out)
  cases htk : takesB li x with
  | false =>
    have HTB := Lib.hid htk
    have HR := Lib.hid (show LearnR mo li l x l enNilA false from .inl ⟨htk, rfl, rfl, rfl⟩)
    clear htk
    go_upto_region 3 with (first
      | (refine wpList_val (enV x) (by rfl) (run_loadVar_of 65 _ rfl (g + 2) rfl 65 (enA x) _ N2.out.k8 Try.underlying65 rfl SZ9.out) ?_)
      | (go_at_call 38; refine HTK.out.mono ?_; rintro e w3 ⟨rfl, hb3⟩; rw [HTB.out]))
    have N3 := Lib.hid (N2.out.next hb3 HG2.out)
    have T3 := Lib.hid (T2.out.next (by have := N2.out.kept.size; omega) hb3).1
    clear hb3
    go_wp2_with (refine wpList_store_row rfl 65 _ _ rfl (g + 1) enNilA rfl rfl 65 enNilA N3.out.k6 SZ9.out rfl XN.out ?_)
    refine bodyPost_ret (v := .tuple #[.agg enNilA, .bool false]) (results_row_tmp Try.results19 _ _ (g + 1) 65 enNilA _ _ rfl rfl (N3.out.k6.row _) Try.underlying65 rfl enSize49) rfl ⟨l, enNilA, false, HR.out, rfl, ?_, ?_⟩
    · exact T3.out.keep (fun k _ hk => setRow_other _ (g + 1) k _ (by have := HG2.out; omega))
    · exact N3.out.kept.setRow (by have := HG.out; omega) _
  | true =>
    have HTB := Lib.hid htk
    go_upto_region 4 with (first
      | (refine wpList_val (enV x) (by rfl) (run_loadVar_of 65 _ rfl (g + 2) rfl 65 (enA x) _ N2.out.k8 Try.underlying65 rfl SZ9.out) ?_)
      | (go_at_call 38; refine HTK.out.mono ?_; rintro e w3 ⟨rfl, hb3⟩; rw [HTB.out]))
    have hb3' : Below w2.heap.size w2 (w3.alloc (.cells enNilA 65)) := hb3.alloc hb3.size _
    obtain ⟨w4, hw4⟩ : ∃ w4, w4 = w3.alloc (.cells enNilA 65) := ⟨_, rfl⟩
    obtain ⟨g9, hg9⟩ : ∃ g9, g9 = w3.heap.size := ⟨_, rfl⟩
    have k9 : Blk w4 g9 enNilA 65 := by rw [hw4, hg9]; exact Blk.new _ _ _
    rw [← hw4] at hb3'
    have N4 := Lib.hid (N2.out.next hb3' HG2.out)
    have T4 := Lib.hid (T2.out.next (by have := N2.out.kept.size; omega) hb3').1
    have HL9 := Lib.hid (show g + 2 < g9 by rw [hg9]; have := N2.out.k8.lt; have := hb3.size; omega)
    have K9 := Lib.hid k9
    have HW4 := Lib.hid hw4
    have HG9 := Lib.hid hg9
    have hza := zero49
    clear hb3 hb3' hw4 hg9 k9 htk
    go_upto_region 5 with fail
    rw [← HW4.out, ← HG9.out]
    clear hza
    have hrm := room_tf x.vid x.mac HXO.out T4.out
    obtain ⟨rm, hrmv⟩ : ∃ rm : Bool, rm = (decide (0 ≤ atK enK (enK x) l) || decide ((l.length : Int) < mo)) := ⟨_, rfl⟩
    rw [show keyN x.vid x.mac = enK x from rfl, ← hrmv] at hrm
    have HRM := Lib.hid hrm
    have HRV := Lib.hid hrmv
    clear hrm hrmv
    go_upto_region 6 with (first
      | (refine wpList_load_row rfl 61 _ rfl g rfl 61 _ (0, 0) _ N4.out.k4 Try.underlying61 rfl SZ7.out ?_)
      | (go_at_call 39; refine HRM.out.mono ?_; rintro e wq ⟨rfl, hb5⟩))
    have N5 := Lib.hid (N4.out.next hb5 HG2.out)
    have T5 := Lib.hid (T4.out.next (by have := N4.out.kept.size; omega) hb5).1
    have K95 := Lib.hid (K9.out.below hb5 K9.out.lt)
    clear hb5
    cases rm with
    | true =>
      have HR := Lib.hid (show LearnR mo li l x (putD l x) enNilA false from .inr (.inl ⟨HTB.out, HRV.out.symm, rfl, rfl, rfl⟩))
      go_upto_region 9 with fail
      obtain ⟨mb, L, q1, q2, q3, q4, q5, q6, q7⟩ := T5.out
      have HC := Lib.hid (show ∀ w', Below wq.heap.size wq w' → w'.cell? ⟨b, 2, none⟩ = some (.map (some mb)) from fun w' hb => by rw [(q4.below hb q4.lt).cell]; rfl)
      have Q4 := Lib.hid q4
      have Q5 := Lib.hid q5
      have Q6 := Lib.hid q6
      clear q4 q5 q6
      refine wp_region_last 6 (I := Le9I b mb g (g + 2) x _ _ _ _ _ _ _ _ _ _ _ _ _ _ _ _ _ _ _ _ _ _ _ _ _ _ _ _ _ _ _ _ _ _ _) (by kernel_rfl) (by kernel_rfl) (by kernel_rfl) ⟨_, _, _, _, _, _, rfl, ⟨(fun h => Bool.noConfusion h), (fun h => Bool.noConfusion h), (fun h => Bool.noConfusion h), (fun h => Bool.noConfusion h), (fun h => Bool.noConfusion h), (fun h => Bool.noConfusion h)⟩⟩ ?_
      intro w5 hb5
      have hc5 := HC.out w5 hb5
      have hk4 := N5.out.k4.below hb5 N5.out.k4.lt
      have hk8 := N5.out.k8.below hb5 N5.out.k8.lt
      have HB6 := Lib.hid hb5
      clear hb5
      refine ⟨?_, ?_⟩
      · intro i hi Lx ac hI hL haft
        obtain ⟨v36, v37, v38, v39, v40, v41, rfl, hs⟩ := hI
        match i, hi with
        | 0, _ =>
          exact i_val rfl (.pointer (some ⟨b, 0, none⟩)) w5 (by rfl) (by go_simp) ⟨⟨(.pointer (some ⟨b, 0, none⟩)), v37, v38, v39, v40, v41, rfl, { hs with e36 := fun _ => rfl }⟩, rfl⟩
        | 1, _ =>
          have e36x := hs.e36 (haft 0 (by decide))
          subst e36x
          exact i_val rfl (.pointer (some ⟨b, 0, none⟩)) w5 (by rfl) (by go_simp) ⟨⟨(.pointer (some ⟨b, 0, none⟩)), (.pointer (some ⟨b, 0, none⟩)), v38, v39, v40, v41, rfl, { hs with e37 := fun _ => rfl }⟩, rfl⟩
        | 2, _ =>
          have e37x := hs.e37 (haft 1 (by decide))
          subst e37x
          exact i_val rfl (.pointer (some ⟨b, 2, none⟩)) w5 (by rfl) (by go_simp) ⟨⟨v36, (.pointer (some ⟨b, 0, none⟩)), (.pointer (some ⟨b, 2, none⟩)), v39, v40, v41, rfl, { hs with e38 := fun _ => rfl }⟩, rfl⟩
        | 3, _ =>
          have e38x := hs.e38 (haft 2 (by decide))
          subst e38x
          have q := hc5
          exact i_val rfl (.map (some mb)) w5 (by rfl) (by go_simp) ⟨⟨v36, v37, (.pointer (some ⟨b, 2, none⟩)), (.map (some mb)), v40, v41, rfl, { hs with e39 := fun _ => rfl }⟩, rfl⟩
        | 4, _ =>
          exact i_val rfl (kyV x.vid x.mac) w5 (by rfl) (run_loadVar_of 61 _ rfl g rfl 61 (kyA x.vid x.mac) _ hk4 Try.underlying61 rfl SZ7.out) ⟨⟨v36, v37, v38, v39, (kyV x.vid x.mac), v41, rfl, { hs with e40 := fun _ => rfl }⟩, rfl⟩
        | 5, _ =>
          exact i_val rfl (enV x) w5 (by rfl) (run_loadVar_of 65 _ rfl (g + 2) rfl 65 (enA x) _ hk8 Try.underlying65 rfl SZ9.out) ⟨⟨v36, v37, v38, v39, v40, (enV x), rfl, { hs with e41 := fun _ => rfl }⟩, rfl⟩
        | k + 6, h =>
          exfalso
          have h2 : k + 6 < 6 := h
          omega
      intro Lx ac hI hall
      obtain ⟨v36, v37, v38, v39, v40, v41, rfl, hs⟩ := hI
      have e36y := hs.e36 (hall 0 (by decide))
      subst e36y
      have e37y := hs.e37 (hall 1 (by decide))
      subst e37y
      have e38y := hs.e38 (hall 2 (by decide))
      subst e38y
      have e39y := hs.e39 (hall 3 (by decide))
      subst e39y
      have e40y := hs.e40 (hall 4 (by decide))
      subst e40y
      have e41y := hs.e41 (hall 5 (by decide))
      subst e41y
      clear hs hall
      obtain ⟨o, hd, ht⟩ := (Q5.out.next HB6.out).put ky_keys Try.underlying104 (enK x) x trivial (fun _ _ => trivial)
      rw [show kvK (enK x) = kyV x.vid x.mac from kvK_of x.vid x.mac HXO.out] at hd
      have hkk : KeptO A B wq (setBlock w5 mb o) := (KeptO.ofBelow HB6.out).trans (KeptO.setBlock q2.1 q2.2 o)
      have N7 := Lib.hid (N5.out.kp hkk HG2.out)
      have K97 := Lib.hid (hkk.blk K95.out (.inr (by have := HL9.out; have := HG2.out; omega)))
      have T7 := Lib.hid (show TF (setBlock w5 mb o) b A B mo li (putD l x) from
        ⟨mb, _, q1, q2, q3, (Q4.out.below HB6.out Q4.out.lt).grown (setBlock_grown w5 mb o) (fun e => q3 (Option.some.inj e)), ht, Q6.out.putCut x, fun y hy => by
          rcases layE_mem hy with rfl | hy
          · exact HXO.out
          · exact q7 y (cutE_mem hy)⟩)
      have HD := Lib.hid hd
      clear ht hc5 hk4 hk8 hkk hd
      refine i_skip rfl (setBlock w5 mb o) (by rfl) (by have q := HD.out; unfold vvE at q; go_simp) ?_
      clear HD
      go_wp2_with (first
        | (refine wpList_load_row rfl 65 _ rfl g9 rfl 65 _ (0, 0) _ K97.out Try.underlying65 rfl SZ9.out ?_)
        | (refine wpList_store_row rfl 65 _ _ rfl (g + 1) (enNilA) rfl rfl 65 enNilA N7.out.k6 SZ9.out rfl XN.out ?_))
      refine bodyPost_ret (v := .tuple #[.agg (enNilA), .bool false]) (results_row_tmp Try.results19 _ _ (g + 1) 65 (enNilA) _ _ rfl rfl (N7.out.k6.row _) Try.underlying65 rfl enSize49) rfl ⟨_, _, _, HR.out, rfl, ?_, ?_⟩
      · exact T7.out.keep (fun k _ hk => setRow_other _ (g + 1) k _ (by have := HG2.out; omega))
      · exact N7.out.kept.setRow (by have := HG.out; omega) _
    | false =>
      have hne : l ≠ [] := by
        intro q
        have := HRV.out
        rw [q] at this
        simp at this
        omega
      have HOL := Lib.hid (oldest_tf T5.out hne)
      clear hne
      go_upto_region 8 with (first
        | (go_at_call 40; refine HOL.out.mono ?_; rintro e w6 ⟨⟨z, rfl, hold⟩, hb6⟩
           have N6 := Lib.hid (N5.out.next hb6 HG2.out)
           have T6 := Lib.hid (T5.out.next (by have := N5.out.kept.size; omega) hb6).1
           have K96 := Lib.hid (K95.out.below hb6 K95.out.lt)
           have ZA := Lib.hid (enA_one z)
           have HOZ := Lib.hid hold
           clear hb6 hold)
        | (refine wpList_store_row rfl 65 _ _ rfl g9 (enA z) rfl rfl 65 enNilA K96.out SZ9.out rfl ZA.out ?_))
      obtain ⟨mb8, L8, q1, q2, q3, q4, q5, q6, q7⟩ := T6.out
      have HC8 := Lib.hid (show ∀ w', Below w6.heap.size w6 w' → w'.cell? ⟨b, 2, none⟩ = some (.map (some mb8)) from fun w' hb => by rw [(q4.below hb q4.lt).cell]; rfl)
      have Q48 := Lib.hid q4
      have Q58 := Lib.hid q5
      have Q68 := Lib.hid q6
      have HRR := Lib.hid (show w6.heap.size ≤ (w6.setRow g9 (enA z)).heap.size by simp [World.setRow])
      have K9R := Lib.hid (K96.out.row (enA z))
      have BRB := Lib.hid (show ∀ k, k ≠ g9 → (w6.setRow g9 (enA z)).heap[k]? = w6.heap[k]? from fun k hk => setRow_other w6 g9 k _ hk)
      have HGL := Lib.hid (show B ≤ g ∧ g + 2 < g9 from ⟨HG2.out, HL9.out⟩)
      have NR := Lib.hid (show Ln w b A B mo li g x (w6.setRow g9 (enA z)) from ⟨N6.out.kept.setRow (by have := HG.out; have := HL9.out; omega) _, N6.out.k4.rowOther (by have := HL9.out; omega) _, N6.out.k6.rowOther (by have := HL9.out; omega) _, N6.out.k8.rowOther (by have := HL9.out; omega) _⟩)
      have Q4R := Lib.hid (show Blk (w6.setRow g9 (enA z)) b #[.int .i64 mo, .int .i64 li, .map (some mb8)] 106 from q4.rowOther (by have := HGL.out; omega) _)
      have Q5R := Lib.hid (q5.same (setRow_other w6 g9 mb8 (enA z) (by have := HGL.out; omega)))
      obtain ⟨wR, hwR⟩ : ∃ wR, wR = w6.setRow g9 (enA z) := ⟨_, rfl⟩
      rw [← hwR] at K9R NR Q4R Q5R ⊢
      have HC := Lib.hid (show ∀ w', Below wR.heap.size wR w' → w'.cell? ⟨b, 2, none⟩ = some (.map (some mb8)) from fun w' hb => by rw [(Q4R.out.below hb Q4R.out.lt).cell]; rfl)
      clear q4 q5 q6 HRR BRB hwR
      refine wp_region_last 6 (I := Le8I b mb8 g9 z _ _ _ _ _ _ _ _ _ _ _ _ _ _ _ _ _ _ _ _ _ _ _ _ _ _ _ _ _ _ _ _ _ _ _ _) (by kernel_rfl) (by kernel_rfl) (by kernel_rfl) ⟨_, _, _, _, _, _, rfl, ⟨(fun h => Bool.noConfusion h), (fun h => Bool.noConfusion h), (fun h => Bool.noConfusion h), (fun h => Bool.noConfusion h), (fun h => Bool.noConfusion h), (fun h => Bool.noConfusion h)⟩⟩ ?_
      intro w5 hb5
      have hc5 := HC.out w5 hb5
      have hk9 := K9R.out.below hb5 K9R.out.lt
      have HB6 := Lib.hid hb5
      clear hb5
      refine ⟨?_, ?_⟩
      · intro i hi Lx ac hI hL haft
        obtain ⟨v30, v31, v32, v33, v34, v35, rfl, hs⟩ := hI
        match i, hi with
        | 0, _ =>
          exact i_val rfl (.pointer (some ⟨b, 0, none⟩)) w5 (by rfl) (by go_simp) ⟨⟨(.pointer (some ⟨b, 0, none⟩)), v31, v32, v33, v34, v35, rfl, { hs with e30 := fun _ => rfl }⟩, rfl⟩
        | 1, _ =>
          have e30x := hs.e30 (haft 0 (by decide))
          subst e30x
          exact i_val rfl (.pointer (some ⟨b, 0, none⟩)) w5 (by rfl) (by go_simp) ⟨⟨(.pointer (some ⟨b, 0, none⟩)), (.pointer (some ⟨b, 0, none⟩)), v32, v33, v34, v35, rfl, { hs with e31 := fun _ => rfl }⟩, rfl⟩
        | 2, _ =>
          have e31x := hs.e31 (haft 1 (by decide))
          subst e31x
          exact i_val rfl (.pointer (some ⟨b, 2, none⟩)) w5 (by rfl) (by go_simp) ⟨⟨v30, (.pointer (some ⟨b, 0, none⟩)), (.pointer (some ⟨b, 2, none⟩)), v33, v34, v35, rfl, { hs with e32 := fun _ => rfl }⟩, rfl⟩
        | 3, _ =>
          have e32x := hs.e32 (haft 2 (by decide))
          subst e32x
          have q := hc5
          exact i_val rfl (.map (some mb8)) w5 (by rfl) (by go_simp) ⟨⟨v30, v31, (.pointer (some ⟨b, 2, none⟩)), (.map (some mb8)), v34, v35, rfl, { hs with e33 := fun _ => rfl }⟩, rfl⟩
        | 4, _ =>
          exact i_val rfl (.pointer (some ⟨g9, 0, none⟩)) w5 (by rfl) (by go_simp) ⟨⟨v30, v31, v32, v33, (.pointer (some ⟨g9, 0, none⟩)), v35, rfl, { hs with e34 := fun _ => rfl }⟩, rfl⟩
        | 5, _ =>
          have e34x := hs.e34 (haft 4 (by decide))
          subst e34x
          exact i_val rfl (kyV z.vid z.mac) w5 (by rfl) (run_loadRange 61 _ rfl g9 0 rfl (kyA z.vid z.mac) _ (en_range hk9) Try.underlying61 rfl SZ7.out) ⟨⟨v30, v31, v32, v33, (.pointer (some ⟨g9, 0, none⟩)), (kyV z.vid z.mac), rfl, { hs with e35 := fun _ => rfl }⟩, rfl⟩
        | k + 6, h =>
          exfalso
          have h2 : k + 6 < 6 := h
          omega
      intro Lx ac hI hall
      obtain ⟨v30, v31, v32, v33, v34, v35, rfl, hs⟩ := hI
      have e30y := hs.e30 (hall 0 (by decide))
      subst e30y
      have e31y := hs.e31 (hall 1 (by decide))
      subst e31y
      have e32y := hs.e32 (hall 2 (by decide))
      subst e32y
      have e33y := hs.e33 (hall 3 (by decide))
      subst e33y
      have e34y := hs.e34 (hall 4 (by decide))
      subst e34y
      have e35y := hs.e35 (hall 5 (by decide))
      subst e35y
      clear hs hall
      obtain ⟨o, hd, ht⟩ := (Q5R.out.next HB6.out).del ky_keys Try.underlying104 (enK z) trivial (fun _ _ => trivial) 61 0
      have hzo : enOk z := q7 z HOZ.out.1
      rw [show kvK (enK z) = kyV z.vid z.mac from kvK_of z.vid z.mac hzo] at hd
      have hkk : KeptO A B wR (setBlock w5 mb8 o) := (KeptO.ofBelow HB6.out).trans (KeptO.setBlock q2.1 q2.2 o)
      have N8 := Lib.hid (NR.out.kp hkk HG2.out)
      have K98 := Lib.hid (hkk.blk K9R.out (.inr (by have := HGL.out; omega)))
      have T8 := Lib.hid (show TF (setBlock w5 mb8 o) b A B mo li (cutK enK (enK z) l) from
        ⟨mb8, _, q1, q2, q3, (Q4R.out.below HB6.out Q4R.out.lt).grown (setBlock_grown w5 mb8 o) (fun e => q3 (Option.some.inj e)), ht, Q68.out.drop (enK z), fun y hy => q7 y (cutE_mem hy)⟩)
      have HD := Lib.hid hd
      clear ht hc5 hk9 hkk hd q1 q2 q3 q7 hzo HC
      refine i_val rfl (.tuple #[]) (setBlock w5 mb8 o) (by rfl) (by have q := HD.out; go_simp) ?_
      clear HD
      have HR := Lib.hid (show LearnR mo li l x (putD (cutK enK (enK z) l) x) (enA z) true from .inr (.inr ⟨HTB.out, HRV.out.symm, z, HOZ.out, rfl, rfl, rfl⟩))
      generalize setBlock w5 mb8 o = w9 at T8 N8 K98 ⊢
      go_upto_region 9 with fail
      obtain ⟨mb, L, q1, q2, q3, q4, q5, q6, q7⟩ := T8.out
      have HC := Lib.hid (show ∀ w', Below w9.heap.size w9 w' → w'.cell? ⟨b, 2, none⟩ = some (.map (some mb)) from fun w' hb => by rw [(q4.below hb q4.lt).cell]; rfl)
      have Q4 := Lib.hid q4
      have Q5 := Lib.hid q5
      have Q6 := Lib.hid q6
      clear q4 q5 q6
      refine wp_region_last 6 (I := Le9I b mb g (g + 2) x _ _ _ _ _ _ _ _ _ _ _ _ _ _ _ _ _ _ _ _ _ _ _ _ _ _ _ _ _ _ _ _ _ _ _) (by kernel_rfl) (by kernel_rfl) (by kernel_rfl) ⟨_, _, _, _, _, _, rfl, ⟨(fun h => Bool.noConfusion h), (fun h => Bool.noConfusion h), (fun h => Bool.noConfusion h), (fun h => Bool.noConfusion h), (fun h => Bool.noConfusion h), (fun h => Bool.noConfusion h)⟩⟩ ?_
      intro w5 hb5
      have hc5 := HC.out w5 hb5
      have hk4 := N8.out.k4.below hb5 N8.out.k4.lt
      have hk8 := N8.out.k8.below hb5 N8.out.k8.lt
      have HB6 := Lib.hid hb5
      clear hb5
      refine ⟨?_, ?_⟩
      · intro i hi Lx ac hI hL haft
        obtain ⟨v36, v37, v38, v39, v40, v41, rfl, hs⟩ := hI
        match i, hi with
        | 0, _ =>
          exact i_val rfl (.pointer (some ⟨b, 0, none⟩)) w5 (by rfl) (by go_simp) ⟨⟨(.pointer (some ⟨b, 0, none⟩)), v37, v38, v39, v40, v41, rfl, { hs with e36 := fun _ => rfl }⟩, rfl⟩
        | 1, _ =>
          have e36x := hs.e36 (haft 0 (by decide))
          subst e36x
          exact i_val rfl (.pointer (some ⟨b, 0, none⟩)) w5 (by rfl) (by go_simp) ⟨⟨(.pointer (some ⟨b, 0, none⟩)), (.pointer (some ⟨b, 0, none⟩)), v38, v39, v40, v41, rfl, { hs with e37 := fun _ => rfl }⟩, rfl⟩
        | 2, _ =>
          have e37x := hs.e37 (haft 1 (by decide))
          subst e37x
          exact i_val rfl (.pointer (some ⟨b, 2, none⟩)) w5 (by rfl) (by go_simp) ⟨⟨v36, (.pointer (some ⟨b, 0, none⟩)), (.pointer (some ⟨b, 2, none⟩)), v39, v40, v41, rfl, { hs with e38 := fun _ => rfl }⟩, rfl⟩
        | 3, _ =>
          have e38x := hs.e38 (haft 2 (by decide))
          subst e38x
          have q := hc5
          exact i_val rfl (.map (some mb)) w5 (by rfl) (by go_simp) ⟨⟨v36, v37, (.pointer (some ⟨b, 2, none⟩)), (.map (some mb)), v40, v41, rfl, { hs with e39 := fun _ => rfl }⟩, rfl⟩
        | 4, _ =>
          exact i_val rfl (kyV x.vid x.mac) w5 (by rfl) (run_loadVar_of 61 _ rfl g rfl 61 (kyA x.vid x.mac) _ hk4 Try.underlying61 rfl SZ7.out) ⟨⟨v36, v37, v38, v39, (kyV x.vid x.mac), v41, rfl, { hs with e40 := fun _ => rfl }⟩, rfl⟩
        | 5, _ =>
          exact i_val rfl (enV x) w5 (by rfl) (run_loadVar_of 65 _ rfl (g + 2) rfl 65 (enA x) _ hk8 Try.underlying65 rfl SZ9.out) ⟨⟨v36, v37, v38, v39, v40, (enV x), rfl, { hs with e41 := fun _ => rfl }⟩, rfl⟩
        | k + 6, h =>
          exfalso
          have h2 : k + 6 < 6 := h
          omega
      intro Lx ac hI hall
      obtain ⟨v36, v37, v38, v39, v40, v41, rfl, hs⟩ := hI
      have e36y := hs.e36 (hall 0 (by decide))
      subst e36y
      have e37y := hs.e37 (hall 1 (by decide))
      subst e37y
      have e38y := hs.e38 (hall 2 (by decide))
      subst e38y
      have e39y := hs.e39 (hall 3 (by decide))
      subst e39y
      have e40y := hs.e40 (hall 4 (by decide))
      subst e40y
      have e41y := hs.e41 (hall 5 (by decide))
      subst e41y
      clear hs hall
      obtain ⟨o, hd, ht⟩ := (Q5.out.next HB6.out).put ky_keys Try.underlying104 (enK x) x trivial (fun _ _ => trivial)
      rw [show kvK (enK x) = kyV x.vid x.mac from kvK_of x.vid x.mac HXO.out] at hd
      have hkk : KeptO A B w9 (setBlock w5 mb o) := (KeptO.ofBelow HB6.out).trans (KeptO.setBlock q2.1 q2.2 o)
      have N7 := Lib.hid (N8.out.kp hkk HG2.out)
      have K97 := Lib.hid (hkk.blk K98.out (.inr (by have := HL9.out; have := HG2.out; omega)))
      have T7 := Lib.hid (show TF (setBlock w5 mb o) b A B mo li (putD (cutK enK (enK z) l) x) from
        ⟨mb, _, q1, q2, q3, (Q4.out.below HB6.out Q4.out.lt).grown (setBlock_grown w5 mb o) (fun e => q3 (Option.some.inj e)), ht, Q6.out.putCut x, fun y hy => by
          rcases layE_mem hy with rfl | hy
          · exact HXO.out
          · exact q7 y (cutE_mem hy)⟩)
      have HD := Lib.hid hd
      clear ht hc5 hk4 hk8 hkk hd
      refine i_skip rfl (setBlock w5 mb o) (by rfl) (by have q := HD.out; unfold vvE at q; go_simp) ?_
      clear HD
      go_wp2_with (first
        | (refine wpList_load_row rfl 65 _ rfl g9 rfl 65 _ (0, 0) _ K97.out Try.underlying65 rfl SZ9.out ?_)
        | (refine wpList_store_row rfl 65 _ _ rfl (g + 1) (enA z) rfl rfl 65 enNilA N7.out.k6 SZ9.out rfl ZA.out ?_))
      refine bodyPost_ret (v := .tuple #[.agg (enA z), .bool true]) (results_row_tmp Try.results19 _ _ (g + 1) 65 (enA z) _ _ rfl rfl (N7.out.k6.row _) Try.underlying65 rfl enSize49) rfl ⟨_, _, _, HR.out, rfl, ?_, ?_⟩
      · exact T7.out.keep (fun k _ hk => setRow_other _ (g + 1) k _ (by have := HG2.out; omega))
      · exact N7.out.kept.setRow (by have := HG.out; omega) _
end Go.Proofs.Ytpjfpcebjneblaa
