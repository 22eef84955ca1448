/- CountTurns' walk. -/
import Derived.Test.YtpbdamnlfpfclaaDoorSp13
import Derived.Test.YtpbdamnlfpfclaaDoorThree
namespace Go.Proofs.YtpbdamnlfpfclaaDoor
open Go.RowKit
attribute [local irreducible] wpQuiet
set_option linter.unusedSimpArgs false
set_option linter.unusedVariables false

abbrev nil14 : Array Value := #[.int .u32 0, .int .u32 0, .int .u32 0, .int .u32 0, .int .u32 0, .int .u32 0, .int .u32 0, .int .u32 0, .int .u32 0, .int .u32 0, .int .u32 0, .int .u32 0, .int .u32 0, .int .u32 0]
theorem nil_c : nil14 = cA fun _ => 0 := rfl
/-- The slots, while the three are told. -/
structure TnS (x y z : Array Value) (L : Nat → Bool) (v12 v13 v14 : Value) : Prop where
  e12 : L 0 = true → v12 = .agg x
  e13 : L 1 = true → v13 = .agg y
  e14 : L 2 = true → v14 = .agg z
abbrev tnF (x y z : Array Value) (g : Nat) (v7 v8 v9 v12 v13 v14 : Value) : Act := { tmps := #[.agg x, .agg y, .agg z, .pointer (some ⟨g, 0, none⟩), .pointer (some ⟨g + 1, 0, none⟩), .pointer (some ⟨g + 1 + 1, 0, none⟩), .bool false, v7, v8, v9, .bool true, .bool false, v12, v13, v14, undef, undef, undef, undef, undef, undef, undef, undef, undef, undef, undef, undef, undef, undef, undef, undef, undef, undef, undef, undef, undef, undef, undef, undef, undef, undef, undef], defers := [] }
def TnI (w1 : World) (g : Nat) (x y z : Array Value) (L : Nat → Bool) (ac : Act) (w : World) : Prop :=
  ∃ v7 v8 v9 v12 v13 v14, ac = tnF x y z g v7 v8 v9 v12 v13 v14 ∧ TnS x y z L v12 v13 v14 ∧ W3 w1 26 14 x y z (L 3) (L 4) (L 5) (L 6) (L 7) (L 8) v7 v8 v9 w

set_option maxRecDepth 100000 in
set_option maxHeartbeats 16000000 in
theorem turns_walk (a b c : Nat → Nat) (ha : okC a) (hb : okC b) (hc : okC c) (w : World) (htab : Tab10 w) : Calls Tryd.prog 4 #[cV a, cV b, cV c] w fun e w' => e = .returned (.bool true) ∧ Below w.heap.size w w' := by
  obtain ⟨x, hx⟩ : ∃ x, x = cA a := ⟨_, rfl⟩
  obtain ⟨y, hy⟩ : ∃ y, y = cA b := ⟨_, rfl⟩
  obtain ⟨z, hz⟩ : ∃ z, z = cA c := ⟨_, rfl⟩
  obtain ⟨o0, ho0⟩ : ∃ o, o = cA fun _ => 0 := ⟨_, rfl⟩
  obtain ⟨xy, hxy⟩ : ∃ r, r = cA (plusC a b) := ⟨_, rfl⟩
  obtain ⟨yz, hyz⟩ : ∃ r, r = cA (plusC b c) := ⟨_, rfl⟩
  obtain ⟨xyz, hxyz⟩ : ∃ r, r = cA (plusC (plusC a b) c) := ⟨_, rfl⟩
  have ok0 : okC fun _ => 0 := fun _ _ => Nat.zero_lt_succ _
  have P1 := Lib.hid (show ∀ W, Calls Tryd.prog 8 #[.agg x, .agg y] W fun e w' => e = .returned (.agg xy) ∧ Below W.heap.size W w' from fun W => by rw [hx, hy, hxy]; exact plus_any a b ha hb W)
  have P2 := Lib.hid (show ∀ W, Calls Tryd.prog 8 #[.agg y, .agg x] W fun e w' => e = .returned (.agg xy) ∧ Below W.heap.size W w' from fun W => by rw [hx, hy, hxy, show plusC a b = plusC b a from funext fun j => sumN_comm _ _]; exact plus_any b a hb ha W)
  have P3 := Lib.hid (show ∀ W, Calls Tryd.prog 8 #[.agg xy, .agg z] W fun e w' => e = .returned (.agg xyz) ∧ Below W.heap.size W w' from fun W => by rw [hxy, hz, hxyz]; exact plus_any _ c (okP a b) hc W)
  have P4 := Lib.hid (show ∀ W, Calls Tryd.prog 8 #[.agg y, .agg z] W fun e w' => e = .returned (.agg yz) ∧ Below W.heap.size W w' from fun W => by rw [hy, hz, hyz]; exact plus_any b c hb hc W)
  have P5 := Lib.hid (show ∀ W, Calls Tryd.prog 8 #[.agg x, .agg yz] W fun e w' => e = .returned (.agg xyz) ∧ Below W.heap.size W w' from fun W => by rw [hx, hyz, hxyz, show plusC (plusC a b) c = plusC a (plusC b c) from funext fun j => sumN_assoc _ _ _]; exact plus_any a _ ha (okP b c) W)
  have P6 := Lib.hid (show ∀ W, Calls Tryd.prog 8 #[.agg x, .agg o0] W fun e w' => e = .returned (.agg x) ∧ Below W.heap.size W w' from fun W => by rw [hx, ho0]; have := plus_any a _ ha ok0 W; rw [show cV (plusC a fun _ => 0) = cV a from congrArg Value.agg (cA_ext fun j hj => sumN_zero (ha j hj))] at this; exact this)
  have Exy := Lib.hid (show ∀ W, (Op.equalIn 10000 26 (.agg xy) (.agg xy)).run Tryd.prog W = .ok true W from fun W => by rw [hxy]; exact equal_self _ W)
  have Exyz := Lib.hid (show ∀ W, (Op.equalIn 10000 26 (.agg xyz) (.agg xyz)).run Tryd.prog W = .ok true W from fun W => by rw [hxyz]; exact equal_self _ W)
  have Ex := Lib.hid (show ∀ W, (Op.equalIn 10000 26 (.agg x) (.agg x)).run Tryd.prog W = .ok true W from fun W => by rw [hx]; exact equal_self _ W)
  have HO0 := Lib.hid ho0
  have Sx := Lib.hid (show (Tryd.prog.info? 26).map (·.size) = some x.size by rw [hx, cA_size]; exact cSize26)
  have Zx := Lib.hid (show (Tryd.prog.info? 23).map (·.size) = some x.size by rw [hx, cA_size]; exact cSize23)
  have Nx := Lib.hid (show x.size = 14 by rw [hx, cA_size])
  have Ox := Lib.hid (show x.all (·.oneCell') = true by rw [hx]; exact cA_one _)
  have Sy := Lib.hid (show (Tryd.prog.info? 26).map (·.size) = some y.size by rw [hy, cA_size]; exact cSize26)
  have Zy := Lib.hid (show (Tryd.prog.info? 23).map (·.size) = some y.size by rw [hy, cA_size]; exact cSize23)
  have Ny := Lib.hid (show y.size = 14 by rw [hy, cA_size])
  have Oy := Lib.hid (show y.all (·.oneCell') = true by rw [hy]; exact cA_one _)
  have Sz := Lib.hid (show (Tryd.prog.info? 26).map (·.size) = some z.size by rw [hz, cA_size]; exact cSize26)
  have Zz := Lib.hid (show (Tryd.prog.info? 23).map (·.size) = some z.size by rw [hz, cA_size]; exact cSize23)
  have Nz := Lib.hid (show z.size = 14 by rw [hz, cA_size])
  have Oz := Lib.hid (show z.all (·.oneCell') = true by rw [hz]; exact cA_one _)
  have TB := Lib.hid htab
  obtain ⟨g, hg⟩ : ∃ g, g = w.heap.size := ⟨_, rfl⟩
  obtain ⟨w1, hw1⟩ : ∃ w1, w1 = ((w.alloc (.cells x 23)).alloc (.cells y 23)).alloc (.cells z 23) := ⟨_, rfl⟩
  have B1 := Lib.hid (show Below w.heap.size w w1 by rw [hw1]; exact (((Below.refl _ _).alloc (Nat.le_refl _) _).alloc (by simp) _).alloc (by simp; omega) _)
  have G1 := Lib.hid (show Blk w1 g x 23 by rw [hw1, hg]; exact ((Blk.new _ _ _).alloc _).alloc _)
  have G2 := Lib.hid (show Blk w1 (g + 1) y 23 by
    have := (Blk.new (w.alloc (.cells x 23)) y 23).alloc (.cells z 23)
    rw [hw1, hg]
    simpa using this)
  have G3 := Lib.hid (show Blk w1 (g + 1 + 1) z 23 by
    have := Blk.new ((w.alloc (.cells x 23)).alloc (.cells y 23)) z 23
    rw [hw1, hg]
    simpa using this)
  have HW := Lib.hid hw1
  have HG := Lib.hid hg
  show Calls Tryd.prog 4 #[.agg (cA a), .agg (cA b), .agg (cA c)] w _
  rw [← hx, ← hy, ← hz]
  clear hx hy hz ho0 hxy hyz hxyz ok0 ha hb hc htab hg hw1
  go_enter Tryd.func4, Tryd.ntmps4
  go_upto_region 1 with fail
  rw [← HW.out, ← HG.out]
  go_upto_region 3 with (go_at_call 5; refine (speaks13_any w1 (tab_next TB.out B1.out)).mono ?_; rintro e w2 ⟨rfl, hb2⟩)
  have B2 := Lib.hid (B1.out.trans (hb2.mono B1.out.size))
  have Kx := Lib.hid (show ∀ W, Below w2.heap.size w2 W → Blk W g x 23 from fun W hW => (G1.out.below hb2 G1.out.lt).below hW (Nat.lt_of_lt_of_le G1.out.lt hb2.size))
  have Ky := Lib.hid (show ∀ W, Below w2.heap.size w2 W → Blk W (g + 1) y 23 from fun W hW => (G2.out.below hb2 G2.out.lt).below hW (Nat.lt_of_lt_of_le G2.out.lt hb2.size))
  have Kz := Lib.hid (show ∀ W, Below w2.heap.size w2 W → Blk W (g + 1 + 1) z 23 from fun W hW => (G3.out.below hb2 G3.out.lt).below hW (Nat.lt_of_lt_of_le G3.out.lt hb2.size))
  clear hb2
  refine wp_region_inv (I := TnI w2 g x y z) (by kernel_rfl) (by kernel_rfl) ⟨_, _, _, _, _, _, rfl, ⟨(fun h => Bool.noConfusion h), (fun h => Bool.noConfusion h), (fun h => Bool.noConfusion h)⟩, W3.start w2⟩ ?_ ?_
  · intro o ho L ac w' hI hL haft
    obtain ⟨v7, v8, v9, v12, v13, v14, rfl, hs, hw⟩ := hI
    match o, ho with
    | 0, _ =>
      exact i_val rfl (.agg x) w' (by rfl) (run_loadVar_of 23 _ rfl (g) rfl 23 x _ (Kx.out w' hw.from1) Tryd.underlying23 rfl Zx.out) ⟨v7, v8, v9, .agg x, v13, v14, rfl, { hs with e12 := fun _ => rfl }, hw⟩
    | 1, _ =>
      exact i_val rfl (.agg y) w' (by rfl) (run_loadVar_of 23 _ rfl (g + 1) rfl 23 y _ (Ky.out w' hw.from1) Tryd.underlying23 rfl Zy.out) ⟨v7, v8, v9, v12, .agg y, v14, rfl, { hs with e13 := fun _ => rfl }, hw⟩
    | 2, _ =>
      exact i_val rfl (.agg z) w' (by rfl) (run_loadVar_of 23 _ rfl (g + 1 + 1) rfl 23 z _ (Kz.out w' hw.from1) Tryd.underlying23 rfl Zz.out) ⟨v7, v8, v9, v12, v13, .agg z, rfl, { hs with e14 := fun _ => rfl }, hw⟩
    | 3, _ =>
      exact i_val rfl (.pointer (some ⟨w'.heap.size, 0, none⟩)) (w'.alloc (.cells nil14 26)) (by rfl) (by go_simp) ⟨.pointer (some ⟨w'.heap.size, 0, none⟩), v8, v9, v12, v13, v14, rfl, { hs with }, hw.alloc7 rfl hL⟩
    | 4, _ =>
      exact i_val rfl (.pointer (some ⟨w'.heap.size, 0, none⟩)) (w'.alloc (.cells nil14 26)) (by rfl) (by go_simp) ⟨v7, .pointer (some ⟨w'.heap.size, 0, none⟩), v9, v12, v13, v14, rfl, { hs with }, hw.alloc8 rfl hL⟩
    | 5, _ =>
      exact i_val rfl (.pointer (some ⟨w'.heap.size, 0, none⟩)) (w'.alloc (.cells nil14 26)) (by rfl) (by go_simp) ⟨v7, v8, .pointer (some ⟨w'.heap.size, 0, none⟩), v12, v13, v14, rfl, { hs with }, hw.alloc9 rfl hL⟩
    | 6, _ =>
      have e12 := hs.e12 (haft 0 (by decide))
      subst e12
      obtain ⟨c, cs, rfl, hc, hz, hk, -⟩ := hw.p7 (haft 3 (by decide))
      exact i_wp rfl (by rfl) (wp_store_row 26 _ _ rfl c x rfl rfl 26 cs hk Sx.out (hz.trans Nx.out.symm) Ox.out ⟨.pointer (some ⟨c, 0, none⟩), v8, v9, .agg x, v13, v14, rfl, { hs with }, hw.store7 (haft 3 (by decide)) Nx.out hk hc⟩)
    | 7, _ =>
      have e13 := hs.e13 (haft 1 (by decide))
      subst e13
      obtain ⟨c, cs, rfl, hc, hz, hk, -⟩ := hw.p8 (haft 4 (by decide))
      exact i_wp rfl (by rfl) (wp_store_row 26 _ _ rfl c y rfl rfl 26 cs hk Sy.out (hz.trans Ny.out.symm) Oy.out ⟨v7, .pointer (some ⟨c, 0, none⟩), v9, v12, .agg y, v14, rfl, { hs with }, hw.store8 (haft 4 (by decide)) Ny.out hk hc⟩)
    | 8, _ =>
      have e14 := hs.e14 (haft 2 (by decide))
      subst e14
      obtain ⟨c, cs, rfl, hc, hz, hk, -⟩ := hw.p9 (haft 5 (by decide))
      exact i_wp rfl (by rfl) (wp_store_row 26 _ _ rfl c z rfl rfl 26 cs hk Sz.out (hz.trans Nz.out.symm) Oz.out ⟨v7, v8, .pointer (some ⟨c, 0, none⟩), v12, v13, .agg z, rfl, { hs with }, hw.store9 (haft 5 (by decide)) Nz.out hk hc⟩)
    | k + 9, h =>
      exfalso
      have h2 : k + 9 < 9 := h
      omega
  intro L ac w3 hI hall
  obtain ⟨v7, v8, v9, v12, v13, v14, rfl, hs, hw⟩ := hI
  obtain ⟨c1, cs1, rfl, -, -, q1, e1⟩ := hw.p7 (hall 3 (by decide))
  obtain ⟨c2, cs2, rfl, -, -, q2, e2⟩ := hw.p8 (hall 4 (by decide))
  obtain ⟨c3, cs3, rfl, -, -, q3, e3⟩ := hw.p9 (hall 5 (by decide))
  rw [e1 (hall 6 (by decide))] at q1
  rw [e2 (hall 7 (by decide))] at q2
  rw [e3 (hall 8 (by decide))] at q3
  have KK := Lib.hid (show Kn w [(c1, x, 26), (c2, y, 26), (c3, z, 26)] w3 from ⟨fun t ht => by
    simp only [List.mem_cons, List.not_mem_nil, or_false] at ht
    rcases ht with rfl | rfl | rfl
    · exact q1
    · exact q2
    · exact q3, B2.out.trans (hw.from1.mono B2.out.size)⟩)
  clear hw hs hall q1 q2 q3 e1 e2 e3
  go_upto_region 4 with fail
  refine wp_region_quiet (C := Kn w [(c1, x, 26), (c2, y, 26), (c3, z, 26)]) (by kernel_rfl) (by kernel_rfl) (KK.out.next (Below.refl _ _).drew) ?_
  (refine q_val (v := .agg x) (by rfl) (fun w hC => run_loadVar_of 26 _ rfl c1 rfl 26 x _ (hC.at 0 rfl) Tryd.underlying26 rfl Sx.out) ?_; (try simp only [Act.put, List.getElem_toArray, List.getElem_cons_succ, List.getElem_cons_zero, List.setIfInBounds_toArray, List.set_cons_zero, List.set_cons_succ]))
  (refine q_val (v := .agg y) (by rfl) (fun w hC => run_loadVar_of 26 _ rfl c2 rfl 26 y _ (hC.at 1 rfl) Tryd.underlying26 rfl Sy.out) ?_; (try simp only [Act.put, List.getElem_toArray, List.getElem_cons_succ, List.getElem_cons_zero, List.setIfInBounds_toArray, List.set_cons_zero, List.set_cons_succ]))
  (refine q_call (v := .agg xy) 8 #[.agg x, .agg y] (by rfl) (fun w hC => by go_simp) (fun w hC => calls_in (P1.out w) (fun w' hb => hC.next hb)) ?_; (try simp only [Act.put, List.getElem_toArray, List.getElem_cons_succ, List.getElem_cons_zero, List.setIfInBounds_toArray, List.set_cons_zero, List.set_cons_succ]))
  (refine q_val (v := .agg y) (by rfl) (fun w hC => run_loadVar_of 26 _ rfl c2 rfl 26 y _ (hC.at 1 rfl) Tryd.underlying26 rfl Sy.out) ?_; (try simp only [Act.put, List.getElem_toArray, List.getElem_cons_succ, List.getElem_cons_zero, List.setIfInBounds_toArray, List.set_cons_zero, List.set_cons_succ]))
  (refine q_val (v := .agg x) (by rfl) (fun w hC => run_loadVar_of 26 _ rfl c1 rfl 26 x _ (hC.at 0 rfl) Tryd.underlying26 rfl Sx.out) ?_; (try simp only [Act.put, List.getElem_toArray, List.getElem_cons_succ, List.getElem_cons_zero, List.setIfInBounds_toArray, List.set_cons_zero, List.set_cons_succ]))
  (refine q_call (v := .agg xy) 8 #[.agg y, .agg x] (by rfl) (fun w hC => by go_simp) (fun w hC => calls_in (P2.out w) (fun w' hb => hC.next hb)) ?_; (try simp only [Act.put, List.getElem_toArray, List.getElem_cons_succ, List.getElem_cons_zero, List.setIfInBounds_toArray, List.set_cons_zero, List.set_cons_succ]))
  (refine q_val (v := ?_) (by rfl) ?_ ?_; rotate_left; (· (intro w hC; have q := Exy.out; go_simp; try with_reducible rfl)); (try simp only [Act.put, List.getElem_toArray, List.getElem_cons_succ, List.getElem_cons_zero, List.setIfInBounds_toArray, List.set_cons_zero, List.set_cons_succ]))
  (refine q_val (v := ?_) (by rfl) ?_ ?_; rotate_left; (· (intro w hC; go_simp; try with_reducible rfl)); (try simp only [Act.put, List.getElem_toArray, List.getElem_cons_succ, List.getElem_cons_zero, List.setIfInBounds_toArray, List.set_cons_zero, List.set_cons_succ]))
  (refine q_val (v := .agg x) (by rfl) (fun w hC => run_loadVar_of 26 _ rfl c1 rfl 26 x _ (hC.at 0 rfl) Tryd.underlying26 rfl Sx.out) ?_; (try simp only [Act.put, List.getElem_toArray, List.getElem_cons_succ, List.getElem_cons_zero, List.setIfInBounds_toArray, List.set_cons_zero, List.set_cons_succ]))
  (refine q_val (v := .agg y) (by rfl) (fun w hC => run_loadVar_of 26 _ rfl c2 rfl 26 y _ (hC.at 1 rfl) Tryd.underlying26 rfl Sy.out) ?_; (try simp only [Act.put, List.getElem_toArray, List.getElem_cons_succ, List.getElem_cons_zero, List.setIfInBounds_toArray, List.set_cons_zero, List.set_cons_succ]))
  (refine q_call (v := .agg xy) 8 #[.agg x, .agg y] (by rfl) (fun w hC => by go_simp) (fun w hC => calls_in (P1.out w) (fun w' hb => hC.next hb)) ?_; (try simp only [Act.put, List.getElem_toArray, List.getElem_cons_succ, List.getElem_cons_zero, List.setIfInBounds_toArray, List.set_cons_zero, List.set_cons_succ]))
  (refine q_val (v := .agg z) (by rfl) (fun w hC => run_loadVar_of 26 _ rfl c3 rfl 26 z _ (hC.at 2 rfl) Tryd.underlying26 rfl Sz.out) ?_; (try simp only [Act.put, List.getElem_toArray, List.getElem_cons_succ, List.getElem_cons_zero, List.setIfInBounds_toArray, List.set_cons_zero, List.set_cons_succ]))
  (refine q_call (v := .agg xyz) 8 #[.agg xy, .agg z] (by rfl) (fun w hC => by go_simp) (fun w hC => calls_in (P3.out w) (fun w' hb => hC.next hb)) ?_; (try simp only [Act.put, List.getElem_toArray, List.getElem_cons_succ, List.getElem_cons_zero, List.setIfInBounds_toArray, List.set_cons_zero, List.set_cons_succ]))
  (refine q_val (v := .agg x) (by rfl) (fun w hC => run_loadVar_of 26 _ rfl c1 rfl 26 x _ (hC.at 0 rfl) Tryd.underlying26 rfl Sx.out) ?_; (try simp only [Act.put, List.getElem_toArray, List.getElem_cons_succ, List.getElem_cons_zero, List.setIfInBounds_toArray, List.set_cons_zero, List.set_cons_succ]))
  (refine q_val (v := .agg y) (by rfl) (fun w hC => run_loadVar_of 26 _ rfl c2 rfl 26 y _ (hC.at 1 rfl) Tryd.underlying26 rfl Sy.out) ?_; (try simp only [Act.put, List.getElem_toArray, List.getElem_cons_succ, List.getElem_cons_zero, List.setIfInBounds_toArray, List.set_cons_zero, List.set_cons_succ]))
  (refine q_val (v := .agg z) (by rfl) (fun w hC => run_loadVar_of 26 _ rfl c3 rfl 26 z _ (hC.at 2 rfl) Tryd.underlying26 rfl Sz.out) ?_; (try simp only [Act.put, List.getElem_toArray, List.getElem_cons_succ, List.getElem_cons_zero, List.setIfInBounds_toArray, List.set_cons_zero, List.set_cons_succ]))
  (refine q_call (v := .agg yz) 8 #[.agg y, .agg z] (by rfl) (fun w hC => by go_simp) (fun w hC => calls_in (P4.out w) (fun w' hb => hC.next hb)) ?_; (try simp only [Act.put, List.getElem_toArray, List.getElem_cons_succ, List.getElem_cons_zero, List.setIfInBounds_toArray, List.set_cons_zero, List.set_cons_succ]))
  (refine q_call (v := .agg xyz) 8 #[.agg x, .agg yz] (by rfl) (fun w hC => by go_simp) (fun w hC => calls_in (P5.out w) (fun w' hb => hC.next hb)) ?_; (try simp only [Act.put, List.getElem_toArray, List.getElem_cons_succ, List.getElem_cons_zero, List.setIfInBounds_toArray, List.set_cons_zero, List.set_cons_succ]))
  (refine q_val (v := ?_) (by rfl) ?_ ?_; rotate_left; (· (intro w hC; have q := Exyz.out; go_simp; try with_reducible rfl)); (try simp only [Act.put, List.getElem_toArray, List.getElem_cons_succ, List.getElem_cons_zero, List.setIfInBounds_toArray, List.set_cons_zero, List.set_cons_succ]))
  (refine q_val (v := ?_) (by rfl) ?_ ?_; rotate_left; (· (intro w hC; go_simp; try with_reducible rfl)); (try simp only [Act.put, List.getElem_toArray, List.getElem_cons_succ, List.getElem_cons_zero, List.setIfInBounds_toArray, List.set_cons_zero, List.set_cons_succ]))
  (refine q_val (v := ?_) (by rfl) ?_ ?_; rotate_left; (· (intro w hC; go_simp; try with_reducible rfl)); (try simp only [Act.put, List.getElem_toArray, List.getElem_cons_succ, List.getElem_cons_zero, List.setIfInBounds_toArray, List.set_cons_zero, List.set_cons_succ]))
  (refine q_val (v := .agg x) (by rfl) (fun w hC => run_loadVar_of 26 _ rfl c1 rfl 26 x _ (hC.at 0 rfl) Tryd.underlying26 rfl Sx.out) ?_; (try simp only [Act.put, List.getElem_toArray, List.getElem_cons_succ, List.getElem_cons_zero, List.setIfInBounds_toArray, List.set_cons_zero, List.set_cons_succ]))
  (refine q_val (v := .agg o0) (by rfl) (fun w hC => by go_simp; rw [HO0.out]; rfl) ?_; (try simp only [Act.put, List.getElem_toArray, List.getElem_cons_succ, List.getElem_cons_zero, List.setIfInBounds_toArray, List.set_cons_zero, List.set_cons_succ]))
  (refine q_call (v := .agg x) 8 #[.agg x, .agg o0] (by rfl) (fun w hC => by go_simp) (fun w hC => calls_in (P6.out w) (fun w' hb => hC.next hb)) ?_; (try simp only [Act.put, List.getElem_toArray, List.getElem_cons_succ, List.getElem_cons_zero, List.setIfInBounds_toArray, List.set_cons_zero, List.set_cons_succ]))
  (refine q_val (v := .agg x) (by rfl) (fun w hC => run_loadVar_of 26 _ rfl c1 rfl 26 x _ (hC.at 0 rfl) Tryd.underlying26 rfl Sx.out) ?_; (try simp only [Act.put, List.getElem_toArray, List.getElem_cons_succ, List.getElem_cons_zero, List.setIfInBounds_toArray, List.set_cons_zero, List.set_cons_succ]))
  (refine q_val (v := ?_) (by rfl) ?_ ?_; rotate_left; (· (intro w hC; have q := Ex.out; go_simp; try with_reducible rfl)); (try simp only [Act.put, List.getElem_toArray, List.getElem_cons_succ, List.getElem_cons_zero, List.setIfInBounds_toArray, List.set_cons_zero, List.set_cons_succ]))
  (refine q_val (v := ?_) (by rfl) ?_ ?_; rotate_left; (· (intro w hC; go_simp; try with_reducible rfl)); (try simp only [Act.put, List.getElem_toArray, List.getElem_cons_succ, List.getElem_cons_zero, List.setIfInBounds_toArray, List.set_cons_zero, List.set_cons_succ]))
  (refine q_val (v := ?_) (by rfl) ?_ ?_; rotate_left; (· (intro w hC; go_simp; try with_reducible rfl)); (try simp only [Act.put, List.getElem_toArray, List.getElem_cons_succ, List.getElem_cons_zero, List.setIfInBounds_toArray, List.set_cons_zero, List.set_cons_succ]))
  refine wpQuiet_nil ?_
  intro w4 hC4
  have B4 := Lib.hid hC4.below
  clear hC4
  go_wp2_with fail
  go_ret
  exact ⟨rfl, B4.out⟩
end Go.Proofs.YtpbdamnlfpfclaaDoor
