import Derived.Test.YtebnpblincgjlaaDoorG10
import Derived.Test.YtebnpblincgjlaaDoorG9
import Derived.Test.YtebnpblincgjlaaDoorG1
set_option linter.unusedSimpArgs false
set_option linter.unusedVariables false
namespace Go.Proofs.YtebnpblincgjlaaDoor
section
open Go.RowKit
abbrev nil21 : Array Value := #[.int .u16 0, .int .i64 0, .bool false, .int .u32 0, .int .i64 0, .bool false, .bool false, .bool false, .bool false, .bool false, .int .i64 0, .int .i64 0, .int .i64 0, .int .u64 0, .int .u32 0, .int .u64 0, .int .u16 0, .int .i64 0, .int .i64 0, .int .i64 0, .int .i64 0]
set_option maxRecDepth 100000 in
theorem z50 : ∀ W : World, (zeroValue 73).run Tryd.prog W = .ok (.agg nil21) W := fun W => Tryd.zeroValue73 W
set_option maxRecDepth 100000 in
theorem z41 : ∀ W : World, (zeroValue 40).run Tryd.prog W = .ok (.agg nil25) W := fun W => Tryd.zeroValue40 W
set_option maxRecDepth 100000 in
theorem one_po (x : Po) : ∀ W : World, (Instr.buildSlice 32 1 #[(0, poV x)]).run Tryd.prog W = .ok (.slice (some ⟨W.heap.size, 0, none⟩) 1 1) (W.alloc (.cells (poA x) 73)) := fun W => by
 unfold poV poA
 have u := Tryd.underlying32
 go_simp
theorem run_bs1 {P : Program} {o : Oper} {a : Act} {w w' : World} (t : TypeId) (x : Operand) (ho : o.op = .buildSlice t 1 #[(0, x)]) (v s : Value) (hv : a.eval x = v) (h : (Instr.buildSlice t 1 #[(0, v)]).run P w = .ok s w') : (execOp a.eval o).run P w = .ok (.value s) w' := by
 subst hv
 unfold execOp
 simp only [ho, List.map_toArray, List.map_cons, List.map_nil, Sem.run_bind, h, Result.andThen_ok, Sem.run_pure]
def coldS (s : St) : St := ⟨s.cf, s.po.map coldP, s.vl, s.st, [], fun _ => 0, 0⟩
def done (s : St) (k : Nat) : List Po := (s.po.take k).map coldP
theorem done_len (s : St) {k : Nat} (hk : k ≤ s.po.length) : (done s k).length = k := by unfold done; rw [List.length_map, List.length_take]; omega
theorem done_step (s : St) {k : Nat} {y : Po} (h : s.po[k]? = some y) : done s k ++ [coldP y] = done s (k + 1) := by
 unfold done
 rw [List.take_add_one, h]
 simp
theorem done_all (s : St) : done s s.po.length = (coldS s).po := by unfold done coldS; simp
abbrev coldR (s : St) (v1 u2 u3 : Value) : Array Value := stA (coldS s) v1 u2 u3 (.slice none 0 0)
theorem built_st (s : St) (a2 : Option Addr) (n2 m2 : Nat) (a3 : Option Addr) (n3 m3 : Nat) : Tryd.prog.built 40 [(0, .agg (cfA s.cf)), (2, .slice a2 n2 m2), (3, .slice a3 n3 m3)] = some (coldR s (.slice none 0 0) (.slice a2 n2 m2) (.slice a3 n3 m3)) := by kernel_rfl
theorem cold_one {w : World} {B B' : Nat} {s : St} {v1 v2 : Value} (h2 : Own w B 98 3 vrC v1 s.vl) (h3 : Own w B' 105 8 srC v2 s.st) : (coldR s (.slice none 0 0) v1 v2).all (·.oneCell') = true := by
 have q2 := h2.oneCell
 have q3 := h3.oneCell
 rw [Array.all_eq_true']
 intro u hu
 simp only [stA, stL, List.mem_toArray, List.mem_append, List.mem_cons, List.not_mem_nil, or_false, cL, List.mem_map] at hu
 rcases hu with hu | (rfl | rfl | rfl | rfl) | ⟨j, -, rfl⟩ | rfl
 ·
  exact cf_one _ u hu
 ·
  rfl
 ·
  exact q2
 ·
  exact q3
 ·
  rfl
 ·
  rfl
 ·
  rfl
theorem i_callx {P : Program} {ops : Array Oper} {Q : Exit → Act → World → Prop} {i : Nat} {o : Oper} {a : Act} {w : World} {K : Act → World → Prop} (ho : ops[i]? = some o) (f : FuncId) (args : Array Value) (R : Value → World → Prop) (hw : Region.wanted o (yielded ops a.tmps) = true) (hv : (execOp a.eval o).run P w = .ok (.enter f args) w)
 (hc : Calls P f args w fun e w' => ∃ v, e = .returned v ∧ R v w') (h : ∀ v w', R v w' → K (a.put o.dst v) w') : wpOp P ops Q i K a w := by
 unfold wpOp
 simp only [ho, hw, if_true, Oper.wp, hv, Oper.upon]
 exact .inl (hc.mono fun e w' ⟨v, he, hr⟩ => by subst he; exact h v w' hr)
structure CoW (w1 : World) (s : St) (a4 a7 a9 a10 : Bool) (v10 v13 v3 : Value) (w : World) : Prop where
 from1 : Below w1.heap.size w1 w
 p4 : a4 = true → Own w w1.heap.size 98 3 vrC v10 s.vl
 p7 : a7 = true → Own w w1.heap.size 105 8 srC v13 s.st
 p9 : a9 = true → PtrAt w1.heap.size 40 25 w v3 a10 (coldR s (.slice none 0 0) v10 v13)
 n4 : a9 = true → a4 = true → ∀ k, v10.ownBlock = some k → v3 ≠ .pointer (some ⟨k, 0, none⟩)
 n7 : a9 = true → a7 = true → ∀ k, v13.ownBlock = some k → v3 ≠ .pointer (some ⟨k, 0, none⟩)
 o : a10 = true → a9 = true ∧ a4 = true ∧ a7 = true
section
variable {w1 w w' : World} {s : St} {a4 a7 a9 a10 : Bool} {v10 v13 v3 u : Value}
theorem PtrAt.any {B n : Nat} {t : TypeId} {v : Value} {x y : Array Value} (h : PtrAt B t n w v false x) : PtrAt B t n w v false y := by
 obtain ⟨k, cs, e, hB, hz, hk, hd⟩ := h
 exact ⟨k, cs, e, hB, hz, hk, (fun q => Bool.noConfusion q)⟩
theorem CoW.next (h : CoW w1 s a4 a7 a9 a10 v10 v13 v3 w) (hb : Below w.heap.size w w') : CoW w1 s a4 a7 a9 a10 v10 v13 v3 w' :=
 ⟨h.from1.trans (hb.mono h.from1.size), fun q => (h.p4 q).next hb, fun q => (h.p7 q).next hb, fun q => (h.p9 q).below hb, h.n4, h.n7, h.o⟩
theorem CoW.vlans (h : CoW w1 s a4 a7 a9 a10 v10 v13 v3 w) (hn : a4 = false) (ho : Own w' w.heap.size 98 3 vrC u s.vl) (hb : Below w.heap.size w w') : CoW w1 s true a7 a9 a10 u v13 v3 w' := by
 have h10 : a10 = false := by cases c : a10 with | false => rfl | true => have := (h.o c).2.1; rw [hn] at this; cases this
 subst h10
 have h' := h.next hb
 refine ⟨h'.from1, fun _ => ho.mono h.from1.size, h'.p7, fun q => (h'.p9 q).any, fun q _ k hk e => ?_, h'.n7, (fun q => Bool.noConfusion q)⟩
 obtain ⟨c, cs, e2, _, _, hk2, _⟩ := h.p9 q
 rw [e2] at e
 injection e with e
 injection e with e
 injection e with e
 have a := (ho.lt k hk).1
 have b := hk2.lt
 omega
theorem CoW.entries (h : CoW w1 s a4 a7 a9 a10 v10 v13 v3 w) (hn : a7 = false) (ho : Own w' w.heap.size 105 8 srC u s.st) (hb : Below w.heap.size w w') : CoW w1 s a4 true a9 a10 v10 u v3 w' := by
 have h10 : a10 = false := by cases c : a10 with | false => rfl | true => have := (h.o c).2.2; rw [hn] at this; cases this
 subst h10
 have h' := h.next hb
 refine ⟨h'.from1, h'.p4, fun _ => ho.mono h.from1.size, fun q => (h'.p9 q).any, h'.n4, fun q _ k hk e => ?_, (fun q => Bool.noConfusion q)⟩
 obtain ⟨c, cs, e2, _, _, hk2, _⟩ := h.p9 q
 rw [e2] at e
 injection e with e
 injection e with e
 injection e with e
 have a := (ho.lt k hk).1
 have b := hk2.lt
 omega
theorem CoW.place (h : CoW w1 s a4 a7 a9 a10 v10 v13 v3 w) (hn : a9 = false) : CoW w1 s a4 a7 true a10 v10 v13 (.pointer (some ⟨w.heap.size, 0, none⟩)) (w.alloc (.cells nil25 40)) := by
 have h10 : a10 = false := by cases c : a10 with | false => rfl | true => have := (h.o c).1; rw [hn] at this; cases this
 subst h10
 have h' := h.next ((Below.refl _ _).alloc (Nat.le_refl _) (.cells nil25 40))
 refine ⟨h'.from1, h'.p4, h'.p7, fun _ => ⟨w.heap.size, nil25, rfl, h.from1.size, rfl, Blk.new _ _ _, (fun q => Bool.noConfusion q)⟩, fun _ q k hk e => ?_, fun _ q k hk e => ?_, (fun q => Bool.noConfusion q)⟩
 ·
  injection e with e
  injection e with e
  injection e with e
  have := ((h.p4 q).lt k hk).2
  omega
 ·
  injection e with e
  injection e with e
  injection e with e
  have := ((h.p7 q).lt k hk).2
  omega
theorem CoW.stored {c : Nat} {cs : Array Value} (h : CoW w1 s a4 a7 a9 a10 v10 v13 (.pointer (some ⟨c, 0, none⟩)) w) (h4 : a4 = true) (h7 : a7 = true) (h9 : a9 = true) (hk : Blk w c cs 40) (hc : w1.heap.size ≤ c) :
 CoW w1 s a4 a7 a9 true v10 v13 (.pointer (some ⟨c, 0, none⟩)) (w.setRow c (coldR s (.slice none 0 0) v10 v13)) :=
 ⟨below_setRow h.from1 hc _, fun q => (h.p4 q).rowOther (fun e => h.n4 h9 q c e rfl) _, fun q => (h.p7 q).rowOther (fun e => h.n7 h9 q c e rfl) _, fun _ => ⟨c, _, rfl, hc, rfl, hk.row _, fun _ => rfl⟩, h.n4, h.n7, fun _ => ⟨h9, h4, h7⟩⟩
end
structure C1S (g : Nat) (s : St) (v2 v3s : Value) (L : Nat → Bool) (v6 v7 v8 v9 v10 v11 v12 v13 v14 : Value) : Prop where
 e6 : L 0 = true → v6 = .pointer (some ⟨g, 0, none⟩)
 e7 : L 1 = true → v7 = .agg (cfA s.cf)
 e8 : L 2 = true → v8 = .pointer (some ⟨g, 7, none⟩)
 e9 : L 3 = true → v9 = v2
 e11 : L 5 = true → v11 = .pointer (some ⟨g, 8, none⟩)
 e12 : L 6 = true → v12 = v3s
 e14 : L 8 = true → v14 = .agg (coldR s (.slice none 0 0) v10 v13)
abbrev C1F (x : Array Value) (g : Nat) (v3 v6 v7 v8 v9 v10 v11 v12 v13 v14 : Value) : Act := { tmps := #[.agg x, .pointer (some ⟨g, 0, none⟩), .pointer (some ⟨g + 1, 0, none⟩), v3, undef, undef, v6, v7, v8, v9, v10, v11, v12, v13, v14, undef, undef, undef, undef, undef, undef, undef, undef, undef, undef, undef, undef, undef, undef, undef, undef], defers := [] }
def C1I (x : Array Value) (g : Nat) (s : St) (v2 v3s : Value) (w1 : World) (L : Nat → Bool) (ac : Act) (w : World) : Prop :=
 ∃ v3 v6 v7 v8 v9 v10 v11 v12 v13 v14, ac = C1F x g v3 v6 v7 v8 v9 v10 v11 v12 v13 v14 ∧ C1S g s v2 v3s L v6 v7 v8 v9 v10 v11 v12 v13 v14 ∧ (L 8 = true → L 4 = true ∧ L 7 = true) ∧ CoW w1 s (L 4) (L 7) (L 9) (L 10) v10 v13 v3 w
structure C5S (x : Array Value) (g c p : Nat) (y : Po) (a : Option Addr) (k m : Nat) (f4 f6 f7 f8 f9 f10 f11 f12 f13 f14 f15 f16 f17 f18 f19 f20 f21 f29 f30 : Value) (L : Nat → Bool) (v22 v23 v24 v25 v26 v27 v28 : Value) : Prop where
 e22 : L 0 = true → v22 = .pointer (some ⟨c, 6, none⟩)
 e23 : L 1 = true → v23 = .slice a k m
 e24 : L 2 = true → v24 = poV y
 e25 : L 3 = true → v25 = poV (coldP y)
 e28 : L 6 = true → v28 = .pointer (some ⟨c, 6, none⟩)
abbrev C5F (x : Array Value) (g c p : Nat) (y : Po) (a : Option Addr) (k m : Nat) (f4 f6 f7 f8 f9 f10 f11 f12 f13 f14 f15 f16 f17 f18 f19 f20 f21 f29 f30 : Value) (v22 v23 v24 v25 v26 v27 v28 : Value) : Act := { tmps := #[.agg x, .pointer (some ⟨g, 0, none⟩), .pointer (some ⟨g + 1, 0, none⟩), .pointer (some ⟨c, 0, none⟩), f4, .pointer (some ⟨p, 0, none⟩), f6, f7, f8, f9, f10, f11, f12, f13, f14, f15, f16, f17, f18, f19, f20, f21, v22, v23, v24, v25, v26, v27, v28, f29, f30], defers := [] }
def C5I (x : Array Value) (g c p : Nat) (y : Po) (a : Option Addr) (k m : Nat) (f4 f6 f7 f8 f9 f10 f11 f12 f13 f14 f15 f16 f17 f18 f19 f20 f21 f29 f30 : Value) (wb : World) (B3 : Nat) (l : List Po) (L : Nat → Bool) (ac : Act) (w : World) : Prop :=
 ∃ v22 v23 v24 v25 v26 v27 v28, ac = C5F x g c p y a k m f4 f6 f7 f8 f9 f10 f11 f12 f13 f14 f15 f16 f17 f18 f19 f20 f21 f29 f30 v22 v23 v24 v25 v26 v27 v28 ∧ C5S x g c p y a k m f4 f6 f7 f8 f9 f10 f11 f12 f13 f14 f15 f16 f17 f18 f19 f20 f21 f29 f30 L v22 v23 v24 v25 v26 v27 v28 ∧ ApW wb B3 73 21 poC (.slice a k m) l (coldP y) (L 4) (L 5) v26 v27 w
structure ClW (w0 w3 : World) (c : Nat) (s : St) (k : Nat) (cur u2 u3 : Value) (w : World) : Prop where
 below : Below w0.heap.size w0 w
 gr : w3.grownBy w (some c)
 kc : Blk w c (coldR s cur u2 u3) 40
 own : Own w w3.heap.size 73 21 poC cur (done s k)
theorem grown_high {a b c : World} {q : Nat} {r : Option Nat} (h1 : a.grownBy b (some q)) (h2 : b.grownBy c r) (h : ∀ k, r = some k → a.heap.size ≤ k) : a.grownBy c (some q) :=
 ⟨h2.os.trans h1.os, h2.tape.trans h1.tape, h2.output.trans h1.output, Nat.le_trans h1.size h2.size, fun i hi hr => (h2.block i (Nat.lt_of_lt_of_le hi h1.size) (fun e => by have := h i e.symm; omega)).trans (h1.block i hi hr)⟩
theorem grown_set {a b : World} {q f : Nat} {v : Value} (h1 : a.grownBy b (some q)) : a.grownBy (b.setCell ⟨q, f, none⟩ v) (some q) :=
 ⟨h1.os, h1.tape, h1.output, by simpa using h1.size, fun i hi hr => (Below.heap_setCell b ⟨q, f, none⟩ v i (fun e => hr (by rw [e]))).trans (h1.block i hi hr)⟩
theorem Own.grown {α : Type} {enc : α → List Value} {size base q : Nat} {w w' : World} {e : TypeId} {v : Value} {l : List α} (h : Own w base e size enc v l) (hg : w.grownBy w' (some q)) (hq : v.ownBlock ≠ some q) : Own w' base e size enc v l := h.kept hg (.inr hq)
set_option maxRecDepth 100000 in
set_option maxHeartbeats 16000000 in
theorem cold_st {w : World} {B : Nat} {s : St} {v1 v2 v3 v4 : Value} (hs : OwS w B s v1 v2 v3 v4) :
 Calls Tryd.prog 71 #[stV s v1 v2 v3 v4] w fun e w' => ∃ u1 u2 u3, e = .returned (stV (coldS s) u1 u2 u3 (.slice none 0 0)) ∧ OwS w' w.heap.size (coldS s) u1 u2 u3 (.slice none 0 0) ∧ Below w.heap.size w w' := by
 obtain ⟨a1, m1, e1, hm1⟩ := hs.o1.shape
 obtain ⟨a2, m2, e2, -⟩ := hs.o2.shape
 obtain ⟨a3, m3, e3, -⟩ := hs.o3.shape
 subst e1
 subst e2
 subst e3
 obtain ⟨n, hn⟩ : ∃ n, n = s.po.length := ⟨_, rfl⟩
 obtain ⟨n2, hn2⟩ : ∃ n, n = s.vl.length := ⟨_, rfl⟩
 obtain ⟨n3, hn3⟩ : ∃ n, n = s.st.length := ⟨_, rfl⟩
 obtain ⟨x, hx⟩ : ∃ x, x = stA s (.slice a1 s.po.length m1) (.slice a2 s.vl.length m2) (.slice a3 s.st.length m3) v4 := ⟨_, rfl⟩
 obtain ⟨zz, hzz⟩ : ∃ zz : Array Value, zz = nil25 := ⟨_, rfl⟩
 obtain ⟨g, hg⟩ : ∃ g, g = w.heap.size := ⟨_, rfl⟩
 obtain ⟨w1, hw1⟩ : ∃ w1, w1 = (w.alloc (.cells x 40)).alloc (.cells zz 40) := ⟨_, rfl⟩
 have b1 : Below w.heap.size w w1 := by rw [hw1]; exact ((Below.refl _ _).alloc (Nat.le_refl _) _).alloc (by simp) _
 have k1 : Blk w1 g (stA s (.slice a1 s.po.length m1) (.slice a2 s.vl.length m2) (.slice a3 s.st.length m3) v4) 40 := by rw [hw1, hg, ← hx]; exact (Blk.new _ _ _).alloc _
 have z1 : Blk w1 (g + 1) zz 40 := by
  have := Blk.new (w.alloc (.cells x 40)) zz 40
  rw [hw1, hg]
  simpa using this
 have B1 := Lib.hid b1
 have KG := Lib.hid (show ∀ W, Below w1.heap.size w1 W → Blk W g (stA s (.slice a1 n m1) (.slice a2 n2 m2) (.slice a3 n3 m3) v4) 40 from fun W hW => by rw [hn, hn2, hn3]; exact k1.below hW k1.lt)
 have KZ := Lib.hid (show ∀ W, Below w1.heap.size w1 W → Blk W (g + 1) zz 40 from fun W hW => z1.below hW z1.lt)
 have L1 := Lib.hid (show g + 1 < w1.heap.size from z1.lt)
 have O1 := Lib.hid (show ∀ W, Below w1.heap.size w1 W → OwS W B s (.slice a1 s.po.length m1) (.slice a2 s.vl.length m2) (.slice a3 s.st.length m3) v4 from fun W hW => (hs.next b1).next hW)
 have ZS := Lib.hid (show zz.size = 25 by rw [hzz]; rfl)
 have FEW := Lib.hid hs.few
 have M1 := Lib.hid hm1
 have HW := Lib.hid hw1
 have HG := Lib.hid hg
 have HZ := Lib.hid hzz
 have N1 := Lib.hid hn
 have N2 := Lib.hid hn2
 have N3 := Lib.hid hn3
 show Calls Tryd.prog 71 #[.agg (stA s (.slice a1 s.po.length m1) (.slice a2 s.vl.length m2) (.slice a3 s.st.length m3) v4)] w _
 rw [← hx]
 clear hx hg hw1 hzz b1 hs k1 z1 hm1 hn hn2 hn3
 go_enter Tryd.func71, Tryd.ntmps71
 go_upto_region 1 with fail
 change Code.wp Tryd.prog _ _ _ ((w.alloc (.cells x 40)).alloc (.cells nil25 40))
 rw [← HZ.out, ← HW.out, ← HG.out]
 refine wp_region_inv (I := C1I x g s (.slice a2 n2 m2) (.slice a3 n3 m3) w1) (by kernel_rfl) (by kernel_rfl) ⟨_, _, _, _, _, _, _, _, _, _, rfl, ⟨(fun h => Bool.noConfusion h), (fun h => Bool.noConfusion h), (fun h => Bool.noConfusion h), (fun h => Bool.noConfusion h), (fun h => Bool.noConfusion h), (fun h => Bool.noConfusion h), (fun h => Bool.noConfusion h)⟩, (fun h => Bool.noConfusion h), ⟨(Below.refl _ _).drew, (fun h => Bool.noConfusion h), (fun h => Bool.noConfusion h), (fun h => Bool.noConfusion h), (fun h => Bool.noConfusion h), (fun h => Bool.noConfusion h), (fun h => Bool.noConfusion h)⟩⟩ ?_ ?_
 ·
  intro o ho Lx ac w' hI hL haft
  obtain ⟨v3, v6, v7, v8, v9, v10, v11, v12, v13, v14, rfl, hs, h8, hw⟩ := hI
  match o, ho with
  | 0, _ => exact i_val rfl (.pointer (some ⟨g, 0, none⟩)) w' (by rfl) (by go_simp) ⟨v3, _, v7, v8, v9, v10, v11, v12, v13, v14, rfl, { hs with e6 := fun _ => rfl }, h8, hw⟩
  | 1, _ =>
   have e := hs.e6 (haft 0 (by decide))
   subst e
   exact i_val rfl (.agg (cfA s.cf)) w' (by rfl) (run_loadPart_of 31 _ rfl g 0 rfl 40 _ (cfC s.cf) _ (KG.out w' hw.from1) (st_cf s _ _ _ _) Tryd.underlying31 rfl (cf_info s.cf)) ⟨v3, _, _, v8, v9, v10, v11, v12, v13, v14, rfl, { hs with e7 := fun _ => rfl }, h8, hw⟩
  | 2, _ => exact i_val rfl (.pointer (some ⟨g, 7, none⟩)) w' (by rfl) (by go_simp) ⟨v3, v6, v7, _, v9, v10, v11, v12, v13, v14, rfl, { hs with e8 := fun _ => rfl }, h8, hw⟩
  | 3, _ =>
   have e := hs.e8 (haft 2 (by decide))
   subst e
   have q := (st_cells (KG.out w' hw.from1)).2.1
   exact i_val rfl (.slice a2 n2 m2) w' (by rfl) (by go_simp) ⟨v3, v6, v7, _, _, v10, v11, v12, v13, v14, rfl, { hs with e9 := fun _ => rfl }, h8, hw⟩
  | 4, _ =>
   have e := hs.e9 (haft 3 (by decide))
   subst e
   have h8' : Lx 8 = false := by cases c : Lx 8 with | false => rfl | true => have := (h8 c).1; rw [hL] at this; cases this
   refine i_callx rfl 26 #[.slice a2 n2 m2] (fun v w2 => Own w2 w'.heap.size 98 3 vrC v s.vl ∧ Below w'.heap.size w' w2) (by rfl) (by go_simp) ((clone_vr (show Own w' B 98 3 vrC (.slice a2 n2 m2) s.vl by rw [N2.out]; exact (O1.out w' hw.from1).o2) (by have := FEW.out; omega)).mono fun e w2 ⟨u, q1, q2, q3⟩ => ⟨u, q1, q2, q3⟩) ?_
   intro u w2 ⟨ho, hb⟩
   exact ⟨v3, v6, v7, v8, _, u, v11, v12, v13, v14, rfl, { hs with e14 := fun q => by rw [show upd Lx 4 8 = Lx 8 from rfl, h8'] at q; cases q }, fun q => (by rw [show upd Lx 4 8 = Lx 8 from rfl, h8'] at q; cases q), hw.vlans hL ho hb⟩
  | 5, _ => exact i_val rfl (.pointer (some ⟨g, 8, none⟩)) w' (by rfl) (by go_simp) ⟨v3, v6, v7, v8, v9, v10, _, v12, v13, v14, rfl, { hs with e11 := fun _ => rfl }, h8, hw⟩
  | 6, _ =>
   have e := hs.e11 (haft 5 (by decide))
   subst e
   have q := (st_cells (KG.out w' hw.from1)).2.2.1
   exact i_val rfl (.slice a3 n3 m3) w' (by rfl) (by go_simp) ⟨v3, v6, v7, v8, v9, v10, _, _, v13, v14, rfl, { hs with e12 := fun _ => rfl }, h8, hw⟩
  | 7, _ =>
   have e := hs.e12 (haft 6 (by decide))
   subst e
   have h8' : Lx 8 = false := by cases c : Lx 8 with | false => rfl | true => have := (h8 c).2; rw [hL] at this; cases this
   refine i_callx rfl 27 #[.slice a3 n3 m3] (fun v w2 => Own w2 w'.heap.size 105 8 srC v s.st ∧ Below w'.heap.size w' w2) (by rfl) (by go_simp) ((clone_sr (show Own w' B 105 8 srC (.slice a3 n3 m3) s.st by rw [N3.out]; exact (O1.out w' hw.from1).o3) (by have := FEW.out; omega)).mono fun e w2 ⟨u, q1, q2, q3⟩ => ⟨u, q1, q2, q3⟩) ?_
   intro u w2 ⟨ho, hb⟩
   exact ⟨v3, v6, v7, v8, v9, v10, v11, _, u, v14, rfl, { hs with e14 := fun q => by rw [show upd Lx 7 8 = Lx 8 from rfl, h8'] at q; cases q }, fun q => (by rw [show upd Lx 7 8 = Lx 8 from rfl, h8'] at q; cases q), hw.entries hL ho hb⟩
  | 8, _ =>
   have h4 := haft 4 (by decide)
   have h7 := haft 7 (by decide)
   have e := hs.e7 (haft 1 (by decide))
   subst e
   obtain ⟨q2, r2, e2, -⟩ := (hw.p4 h4).shape
   obtain ⟨q3, r3, e3, -⟩ := (hw.p7 h7).shape
   subst e2
   subst e3
   exact i_val rfl (.agg (coldR s (.slice none 0 0) (.slice q2 s.vl.length r2) (.slice q3 s.st.length r3))) w' (by rfl) (run_build_of 40 [(0, .tmp 7), (2, .tmp 10), (3, .tmp 13)] rfl _ _ rfl (built_st s q2 s.vl.length r2 q3 s.st.length r3)) ⟨v3, v6, _, v8, v9, _, v11, v12, _, _, rfl, { hs with e14 := fun _ => rfl }, fun _ => ⟨h4, h7⟩, hw⟩
  | 9, _ => exact i_val rfl (.pointer (some ⟨w'.heap.size, 0, none⟩)) (w'.alloc (.cells nil25 40)) (by rfl) (by go_simp) ⟨(.pointer (some ⟨w'.heap.size, 0, none⟩)), v6, v7, v8, v9, v10, v11, v12, v13, v14, rfl, { hs with }, h8, hw.place hL⟩
  | 10, _ =>
   have h14 := haft 8 (by decide)
   obtain ⟨h4, h7⟩ := h8 h14
   have h9 := haft 9 (by decide)
   have e := hs.e14 h14
   subst e
   obtain ⟨c, cs, rfl, hc, hz, hk, -⟩ := hw.p9 h9
   exact i_wp rfl (by rfl) (wp_store_row 40 _ _ rfl c (coldR s (.slice none 0 0) v10 v13) rfl rfl 40 cs hk (st_info _ _ _ _ _) hz (cold_one (hw.p4 h4) (hw.p7 h7)) ⟨_, v6, v7, v8, v9, v10, v11, v12, v13, _, rfl, { hs with }, h8, hw.stored h4 h7 h9 hk hc⟩)
  | k + 11, h =>
   exfalso
   have h2 : k + 11 < 11 := h
   omega
 intro Lx ac w3 hI hall
 obtain ⟨v3, v6, v7, v8, v9, v10, v11, v12, v13, v14, rfl, hs, h8, hw⟩ := hI
 obtain ⟨c, cs, rfl, hc, -, hk, he⟩ := hw.p9 (hall 9 (by decide))
 rw [he (hall 10 (by decide))] at hk
 have P2 := Lib.hid (hw.p4 (hall 4 (by decide)))
 have P3 := Lib.hid (hw.p7 (hall 7 (by decide)))
 have NC2 := Lib.hid (show v10.ownBlock ≠ some c from fun e => hw.n4 (hall 9 (by decide)) (hall 4 (by decide)) c e rfl)
 have NC3 := Lib.hid (show v13.ownBlock ≠ some c from fun e => hw.n7 (hall 9 (by decide)) (hall 7 (by decide)) c e rfl)
 have F3 := Lib.hid hw.from1
 have HC := Lib.hid hc
 have CL := Lib.hid hk.lt
 have C0 := Lib.hid (show ClW w1 w3 c s 0 (.slice none 0 0) v10 v13 w3 from ⟨hw.from1, World.grownBy.refl w3 _, hk, Own.nil _ _ _ _ _⟩)
 clear hs h8 hw hc hk he hall
 generalize v10 = u2 at *
 generalize v13 = u3 at *
 have q1 := (st_cells (KG.out w3 F3.out)).1
 have i1 : (n : Int) ≤ 9223372036854775807 := by have := M1.out; have := N1.out; unfold maxLen at *; omega
 have W13 := Lib.hid (show w1.heap.size ≤ w3.heap.size from F3.out.size)
 have W01 := Lib.hid (show w.heap.size ≤ w1.heap.size from B1.out.size)
 go_upto_region 3 with fail
 go_loopw [18] (fun i wr => ∃ (k : Nat) (a : Option Addr) (m : Nat), k ≤ n ∧ i = .int .i64 k ∧ ClW w1 w3 c s k (.slice a k m) u2 u3 wr) (fun i _ => (n - intOf i).toNat)
 case atStart => exact ⟨0, none, 0, by omega, rfl, C0.out⟩
 case round =>
  obtain ⟨k, a, m, hk, rfl, hI⟩ := hrel
  have HI := Lib.hid hI
  clear hI
  clear q1
  by_cases hlt : k < n
  ·
   obtain ⟨y, hy⟩ : ∃ y, s.po[k]? = some y := ⟨_, List.getElem?_eq_getElem (show k < s.po.length by rw [← N1.out]; exact hlt)⟩
   obtain ⟨p0, e1, -, -, r1⟩ := Own.elem po_len (O1.out w1 (Below.refl _ _)).o1 hy
   subst e1
   have R1 := Lib.hid r1
   have HY := Lib.hid hy
   clear r1 hy
   have hkc1 : k ≤ m1 := by have := M1.out; have := N1.out; omega
   go_upto_region 4 with fail
   obtain ⟨p, hp⟩ : ∃ p, p = wr.heap.size := ⟨_, rfl⟩
   obtain ⟨wr2, hwr2⟩ : ∃ w', w' = (wr.alloc (.cells nil21 73)).setRow p (poA y) := ⟨_, rfl⟩
   have BN := Lib.hid (show Below wr.heap.size wr wr2 by rw [hwr2, hp]; exact below_setRow ((Below.refl _ _).alloc (Nat.le_refl _) _) (Nat.le_refl _) _)
   have PN := Lib.hid (show Blk wr2 p (poA y) 73 by rw [hwr2, hp]; exact (Blk.new _ _ _).row _)
   have HP := Lib.hid hp
   have KC2 := Lib.hid (show Blk wr2 c (coldR s (.slice a k m) u2 u3) 40 from HI.out.kc.below BN.out HI.out.kc.lt)
   have NCa := Lib.hid (show (Value.slice a k m).ownBlock ≠ some c from own_not HI.out.own CL.out)
   have KF := Lib.hid (show ∀ W, wr2.grownBy W (Value.slice a k m).ownBlock → W.cell? ⟨c, 6, none⟩ = some (.slice a k m) ∧ W.frozen? ⟨c, 6, none⟩ = false ∧ Blk W p (poA y) 73 ∧ Blk W c (coldR s (.slice a k m) u2 u3) 40 from fun W hW => by
    have h1 := KC2.out.grown hW (fun e => NCa.out e.symm)
    refine ⟨(st_cells h1).1, h1.free 6, PN.out.grown hW (fun e => ?_), h1⟩
    have := (HI.out.own.lt p e.symm).2
    have := HP.out
    omega)
   refine wp_region_lit ?_
   refine wpList_val (.pointer (some ⟨p0, k * 21, none⟩)) (by rfl) (by go_simp) ?_
   (try simp only [Act.put, List.getElem_toArray, List.getElem_cons_succ, List.getElem_cons_zero, List.setIfInBounds_toArray, List.set_cons_zero, List.set_cons_succ])
   refine wpList_val (poV y) (by rfl) (run_loadRange 73 _ rfl p0 (k * 21) rfl (poA y) _ (R1.out wr HI.out.below) Tryd.underlying73 rfl (po_info y)) ?_
   (try simp only [Act.put, List.getElem_toArray, List.getElem_cons_succ, List.getElem_cons_zero, List.setIfInBounds_toArray, List.set_cons_zero, List.set_cons_succ])
   refine wpList_alloc 73 rfl (by rfl) nil21 z50 ?_
   (try simp only [Act.put, List.getElem_toArray, List.getElem_cons_succ, List.getElem_cons_zero, List.setIfInBounds_toArray, List.set_cons_zero, List.set_cons_succ])
   rw [← hp]
   refine wpList_store_row rfl 73 _ _ rfl p (poA y) rfl rfl 73 nil21 (by rw [hp]; exact Blk.new _ _ _) (po_info y) (by rfl) (by rw [Array.all_eq_true']; intro u hu; exact po_one y u (show u ∈ (poA y).toList from Array.mem_toList_iff.2 hu)) ?_
   (try simp only [Act.put, List.getElem_toArray, List.getElem_cons_succ, List.getElem_cons_zero, List.setIfInBounds_toArray, List.set_cons_zero, List.set_cons_succ])
   refine wpList_nil ?_
   rw [← hwr2]
   have OW2 := Lib.hid (show Own wr2 w3.heap.size 73 21 poC (.slice a k m) (done s k) from HI.out.own.next BN.out)
   have SZ := Lib.hid (show w3.heap.size ≤ wr2.heap.size from Nat.le_trans HI.out.gr.size BN.out.size)
   have DL := Lib.hid (show (done s k).length ≤ 100 by rw [done_len s (by rw [← N1.out]; exact hk)]; have := FEW.out; have := N1.out; omega)
   clear hp hwr2
   go_upto_region 5 with fail
   refine wp_region_lastW 7 (I := C5I x g c p y a k m _ _ _ _ _ _ _ _ _ _ _ _ _ _ _ _ _ _ _ wr2 w3.heap.size (done s k)) (by kernel_rfl) (by kernel_rfl) (by kernel_rfl) ⟨_, _, _, _, _, _, _, rfl, ⟨(fun h => Bool.noConfusion h), (fun h => Bool.noConfusion h), (fun h => Bool.noConfusion h), (fun h => Bool.noConfusion h), (fun h => Bool.noConfusion h)⟩, ApW.start OW2.out SZ.out⟩ ?_ ?_
   ·
    intro o ho Lx ac w' hI hL haft
    obtain ⟨v22, v23, v24, v25, v26, v27, v28, rfl, hs, hw⟩ := hI
    match o, ho with
    | 0, _ =>
     exact i_val rfl (.pointer (some ⟨c, 6, none⟩)) w' (by rfl) (by go_simp) ⟨(.pointer (some ⟨c, 6, none⟩)), v23, v24, v25, v26, v27, v28, rfl, { hs with e22 := fun _ => rfl }, hw⟩
    | 1, _ =>
     have e22x := hs.e22 (haft 0 (by decide))
     subst e22x
     have q := (KF.out w' hw.g).1
     exact i_val rfl (.slice a k m) w' (by rfl) (by go_simp) ⟨(.pointer (some ⟨c, 6, none⟩)), (.slice a k m), v24, v25, v26, v27, v28, rfl, { hs with e23 := fun _ => rfl }, hw⟩
    | 2, _ =>
     exact i_val rfl (poV y) w' (by rfl) (run_loadVar_of 73 _ rfl p rfl 73 (poA y) _ (KF.out w' hw.g).2.2.1 Tryd.underlying73 rfl (po_info y)) ⟨v22, v23, (poV y), v25, v26, v27, v28, rfl, { hs with e24 := fun _ => rfl }, hw⟩
    | 3, _ =>
     have e24x := hs.e24 (haft 2 (by decide))
     subst e24x
     exact i_call rfl (poV (coldP y)) 82 #[poV y] (fun w2 => Below w'.heap.size w' w2) (by rfl) (by go_simp) (cold_any y w') fun w2 hb => ⟨v22, v23, (poV y), (poV (coldP y)), v26, v27, v28, rfl, { hs with e25 := fun _ => rfl }, hw.next hb⟩
    | 4, _ =>
     have e25x := hs.e25 (haft 3 (by decide))
     subst e25x
     exact i_val rfl (.slice (some ⟨w'.heap.size, 0, none⟩) 1 1) (w'.alloc (.cells (poA (coldP y)) 73)) (by rfl) (run_bs1 32 (.tmp 25) rfl (poV (coldP y)) _ rfl (one_po (coldP y) w')) ⟨v22, v23, v24, (poV (coldP y)), (.slice (some ⟨w'.heap.size, 0, none⟩) 1 1), v27, v28, rfl, { hs with }, hw.made poT hL _ rfl⟩
    | 5, _ =>
     have e23x := hs.e23 (haft 1 (by decide))
     subst e23x
     obtain ⟨u, w2, hrun, hw2⟩ := hw.app poT (haft 4 (by decide)) hL (by have := DL.out; omega) 32
     have hmk := haft 4 (by decide)
     exact i_wp rfl (by rfl) (wp_append_lst _ _ 32 rfl u w2 hrun ⟨v22, (.slice a k m), v24, v25, v26, u, v28, rfl, { hs with }, by rw [show upd Lx 5 4 = true from hmk]; exact hw2⟩)
    | 6, _ =>
     exact i_val rfl (.pointer (some ⟨c, 6, none⟩)) w' (by rfl) (by go_simp) ⟨v22, v23, v24, v25, v26, v27, (.pointer (some ⟨c, 6, none⟩)), rfl, { hs with e28 := fun _ => rfl }, hw⟩
    | k + 7, h =>
     exfalso
     have h2 : k + 7 < 7 := h
     omega
   intro Lx ac w' hI hall
   obtain ⟨v22, v23, v24, v25, v26, v27, v28, rfl, hs, hw⟩ := hI
   have e22y := hs.e22 (hall 0 (by decide))
   subst e22y
   have e23y := hs.e23 (hall 1 (by decide))
   subst e23y
   have e24y := hs.e24 (hall 2 (by decide))
   subst e24y
   have e25y := hs.e25 (hall 3 (by decide))
   subst e25y
   have e28y := hs.e28 (hall 6 (by decide))
   subst e28y
   have HA := Lib.hid hw
   rw [hall 4 (by decide), hall 5 (by decide)] at HA
   clear hs hall hw
   have GR := Lib.hid HA.out.g
   have AB := Lib.hid (show Below w1.heap.size w1 w' from grownBelow (HI.out.below.trans (BN.out.mono HI.out.below.size)) HA.out.g (fun k hk => Nat.le_trans W13.out (OW2.out.lt k hk).1) (Nat.le_trans HI.out.below.size BN.out.size))
   have AG := Lib.hid (show w3.grownBy w' (some c) from grown_high (grown_next HI.out.gr BN.out) HA.out.g (fun k hk => (OW2.out.lt k hk).1))
   obtain ⟨q', r', eu, -⟩ := (HA.out.pr rfl).shape
   have OA := Lib.hid (HA.out.pr rfl)
   rw [done_step s HY.out] at eu OA
   rw [done_len s (show k + 1 ≤ s.po.length by rw [← N1.out]; exact hlt)] at eu
   subst eu
   have Q1 := (KF.out w' GR.out).1
   have Q2 := (KF.out w' GR.out).2.1
   refine i_skip rfl (w'.setCell ⟨c, 6, none⟩ (.slice q' (k + 1) r')) (by rfl) (by go_simp) ?_
   have KN := Lib.hid (show Blk (w'.setCell ⟨c, 6, none⟩ (.slice q' (k + 1) r')) c (coldR s (.slice q' (k + 1) r') u2 u3) 40 from (KF.out w' GR.out).2.2.2.set 6 _)
   go_wp2_with fail
   go_roundw
   case rel =>
    refine ⟨k + 1, q', r', by omega, by go_num, ⟨AB.out.setCell HC.out _, grown_set AG.out, KN.out, OA.out.setCell (own_not OA.out CL.out) _⟩⟩
   case measure => simp [intOf]; omega
  ·
   obtain rfl : k = n := by omega
   have OF := Lib.hid (show OwS wr w1.heap.size (coldS s) (.slice a k m) u2 u3 (.slice none 0 0) from ⟨by
    have h := HI.out.own
    rw [N1.out, done_all] at h
    rw [N1.out]
    exact h.mono W13.out, Own.grown P2.out HI.out.gr NC2.out, Own.grown P3.out HI.out.gr NC3.out, Own.nil _ _ _ _ _, by
    have := FEW.out
    refine ⟨?_, this.2.1, this.2.2.1, by simp [coldS]⟩
    show ((s.po.map coldP).length ≤ 100)
    rw [List.length_map]
    exact this.1⟩)
   obtain ⟨r, hr⟩ : ∃ r, r = stA (coldS s) (.slice a k m) u2 u3 (.slice none 0 0) := ⟨_, rfl⟩
   have IR := Lib.hid (show (Tryd.prog.info? 40).map (·.size) = some r.size by rw [hr]; exact st_info _ _ _ _ _)
   have SR := Lib.hid (show r.size = 25 by rw [hr]; rfl)
   have OR := Lib.hid (show r.all (·.oneCell') = true by rw [hr]; exact st_one OF.out)
   have KR := Lib.hid (show Blk wr c r 40 by rw [hr]; exact HI.out.kc)
   have Z9 := Lib.hid (KZ.out wr HI.out.below)
   have HR := Lib.hid hr
   clear hr
   go_upto_region 7 with fail
   refine wp_region_lit ?_
   refine wpList_val (.agg r) (by rfl) (run_loadVar_of 40 _ rfl c rfl 40 r _ KR.out Tryd.underlying40 rfl IR.out) ?_
   (try simp only [Act.put, List.getElem_toArray, List.getElem_cons_succ, List.getElem_cons_zero, List.setIfInBounds_toArray, List.set_cons_zero, List.set_cons_succ])
   refine wpList_store_row rfl 40 _ _ rfl (g + 1) r rfl rfl 40 zz Z9.out IR.out (by rw [ZS.out, SR.out]) OR.out ?_
   (try simp only [Act.put, List.getElem_toArray, List.getElem_cons_succ, List.getElem_cons_zero, List.setIfInBounds_toArray, List.set_cons_zero, List.set_cons_succ])
   refine wpList_nil ?_
   go_wp2_with fail
   refine bodyPost_ret (v := .agg r) (results_cell_row Tryd.results71 _ _ (g + 1) 40 _ (0, 0) _ rfl (Z9.out.row _) Tryd.underlying40 rfl IR.out) rfl ?_
   refine ⟨_, _, _, by rw [HR.out], ?_, below_setRow (B1.out.trans (HI.out.below.mono W01.out)) (by rw [HG.out]; omega) _⟩
   have h := own_row OF.out (own_not OF.out.o1 L1.out) (own_not OF.out.o2 L1.out) (own_not OF.out.o3 L1.out) (own_not OF.out.o4 L1.out) r
   exact ⟨h.o1.mono W01.out, h.o2.mono W01.out, h.o3.mono W01.out, h.o4.mono W01.out, h.few⟩
end
section
open Go.RowKit
attribute [local irreducible] wpQuiet wpList
theorem zV : ∀ W : World, (zeroValue 71).run Tryd.prog W = .ok (.agg nil4) W := fun W => Tryd.zeroValue71 W
def poU (x : Po) (u : Vc) : Po := { x with p13 := (u.r : Nat), p14 := (u.c : Nat), p15 := (u.b : Nat), p16 := (u.p : Nat) }
theorem gA {α : Type} {l : List α} {i : Nat} (h : i < l.toArray.size) : l.toArray[i] = l[i]'(by simpa using h) := List.getElem_toArray h
theorem gS {α : Type} {a : α} {l : List α} {i : Nat} (h : i + 1 < (a :: l).length) : (a :: l)[i + 1] = l[i]'(Nat.lt_of_succ_lt_succ h) := List.getElem_cons_succ ..
theorem gZ {α : Type} {a : α} {l : List α} (h : 0 < (a :: l).length) : (a :: l)[0] = a := rfl
theorem sA {α : Type} {l : List α} {i : Nat} {a : α} : l.toArray.setIfInBounds i a = (l.set i a).toArray := List.setIfInBounds_toArray ..
theorem sZ {α : Type} {a b : α} {l : List α} : (a :: l).set 0 b = b :: l := rfl
theorem sS {α : Type} {a b : α} {l : List α} {n : Nat} : (a :: l).set (n + 1) b = a :: l.set n b := rfl
theorem results_row_tmp2 {P : Program} {fn : Func} {p u r : Tmp} {ty : TypeId} (h : fn.results = #[.cell p ty, .tmp u, .tmp r]) (tmps : Array Value) (w : World) (g : Nat) (t : TypeId) (cs : Array Value) (v v2 : Value) (d : TypeDesc)
 (hp : tmps.getD p undef = .pointer (some ⟨g, 0, none⟩)) (hv : tmps.getD u undef = v) (hv2 : tmps.getD r undef = v2) (hg : Blk w g cs t)
 (hu : P.underlying ty = some d) (hd : (match d with | .struct _ | .array _ _ => true | _ => false) = true) (hi : (P.info? ty).map (·.size) = some cs.size) :
 (results fn tmps).run P w = .ok (.tuple #[.agg cs, v, v2]) w := by
 have hp' : tmps[p]?.getD undef = .pointer (some ⟨g, 0, none⟩) := by simpa using hp
 have hv' : tmps[u]?.getD undef = v := by simpa using hv
 have hv2' : tmps[r]?.getD undef = v2 := by simpa using hv2
 simp [results, h, hp', hv', hv2', asAddr, run_loadVar_row w g t ty cs (0, 0) d hg hu hd hi]
def edgeB (x : Po) : Bool := x.p5 && x.p8
def openedB (x y : Po) : Bool := decide (y.p11 = 2) && !decide (x.p11 = 2)
def restP (x : Po) (s : Int) : Po := { x with p9 := false, p11 := s, p19 := 0 }
def desB (x : Po) (u v : Vc) : Bool := !decide (x.p10 = 4) || (!decide (x.p12 = 1) || !eqV u v)
def desV (x : Po) (u v : Vc) : Vc := bif desB x u v then v else u
def desP (x : Po) (u v : Vc) (dl : Int) : Po := ⟨x.p0, x.p1, x.p2, x.p3, x.p4, x.p5, x.p6, x.p7, x.p8, (bif desB x u v then false else x.p9), 4, (bif edgeB x then 2 else (bif decide (x.p10 = 4) then x.p11 else 0)), (bif desB x u v then 1 else x.p12), ((desV x u v).r : Nat), ((desV x u v).c : Nat), ((desV x u v).b : Nat), ((desV x u v).p : Nat), (bif desB x u v then 0 else x.p17), (bif desB x u v then 0 else x.p18), (bif edgeB x then 0 else (bif decide (x.p10 = 4) then x.p19 else dl)), x.p20⟩
def roleP (x : Po) (u : Vc) (r : Int) : Po := { x with p10 := r, p13 := (u.r : Nat), p14 := (u.c : Nat), p15 := (u.b : Nat), p16 := (u.p : Nat) }
def assumeP (x : Po) (u : Vc) (r : Int) (v : Vc) (dl : Int) : Po := if r = 1 ∨ r = 2 then restP (roleP x u r) 0 else if r = 3 then (if x.p10 = 3 then roleP x u r else restP (roleP x u r) 2) else if r = 4 then desP x u v dl else roleP x u r
def assumeN (x : Po) (u : Vc) (r : Int) (v : Vc) : Bool := decide (r = 4) && desB x u v
def stepP (x : Po) (dl : Int) : Po := if x.p10 = 4 then (if x.p11 = 2 then x else if 1 < x.p19 then { x with p19 := IntKind.i64.wrap (x.p19 - 1) } else if x.p11 = 0 then { x with p11 := 1, p19 := dl } else if x.p11 = 1 then { x with p11 := 2, p19 := 0 } else { x with p19 := IntKind.i64.wrap (x.p19 - 1) }) else x
def agreeP (x : Po) : Po := if x.p10 = 4 then { x with p9 := true, p11 := 2, p19 := 0 } else x
def blockP (x : Po) (dl : Int) : Po := if x.p10 = 4 ∧ edgeB x = false ∧ x.p9 = false ∧ ¬ x.p11 = 0 then { x with p11 := 0, p19 := dl } else x
end
section
open Go.RowKit
attribute [local irreducible] wpQuiet wpList
theorem on_is (x : Po) (b : Bool) (h : onP x = b) (w : World) : Calls Tryd.prog 20 #[poV x] w fun e w' => e = .returned (.bool b) ∧ Below w.heap.size w w' := h ▸ on_any x w
def anewB (x : Po) (u v : Vc) : Bool := decide (x.p12 = 2) && (decide (v.b = u.b) && decide (v.p = u.p))
def takesB (x : Po) (u v : Vc) : Bool := anewB x u v || (lessV v u || decide (x.p12 = 0))
end
end Go.Proofs.YtebnpblincgjlaaDoor
