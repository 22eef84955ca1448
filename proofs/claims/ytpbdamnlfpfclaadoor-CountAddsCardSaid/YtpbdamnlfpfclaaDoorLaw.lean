/- CountAdds' walk. -/
import Derived.Test.YtpbdamnlfpfclaaDoorSp13
import Derived.Test.YtpbdamnlfpfclaaDoorOpen14
import Derived.Test.YtpbdamnlfpfclaaDoorBld
namespace Go.Proofs.YtpbdamnlfpfclaaDoor
open Go.RowKit
attribute [local irreducible] wpQuiet
set_option linter.unusedSimpArgs false
set_option linter.unusedVariables false

/-- Pairs of numbers that came in. -/
def ipC (p : Int × Int) : List Value := [.int .i64 p.1, .int .i64 p.2]
def IsIp (w : World) (a : Option Addr) (len cap : Nat) (l : List (Int × Int)) : Prop :=
  l.length = len ∧ RowsAt w a 2 ipC l ∧ (∀ x ∈ l, x.2 < 9223372036854775808) ∧ (len ≤ cap ∧ cap ≤ maxLen) ∧ (a = none → len = 0 ∧ cap = 0)
section
open Go.ChangeShapes Go.WideShapes Go.ChangeAt Go.Deep
variable {H : Type} {enc : TypeId × Value → H} {w : World} {base : Nat} {spare : Nat → Bool} {held : Bool}
theorem open_ip {a : Option Addr} {len cap : Nat} {d : DataW H} {p : List MemPlace} (h : DataW.Trod enc Tryd.prog w base spare held 24 (.slice a len cap) d p) : ∃ l, IsIp w a len cap l := by
  refine open_rows ipC (fun x => x.2 < 9223372036854775808) Tryd.underlying24 cells27 (by decide) (fun _ => rfl) ?_ h
  intro fuel cs y hcs hf
  match cs, hcs with
  | [c0, c1], _ =>
    obtain ⟨_, i2⟩ := arr_ints Tryd.underlying27 Tryd.underlying3 cells3 cells27 hf
    obtain ⟨x0, e0, w0⟩ := i2 0 (by omega)
    obtain ⟨x1, e1, w1⟩ := i2 1 (by omega)
    refine ⟨(x0, x1), ?_, ?_⟩
    · simp at e0 e1
      rw [e0, e1]
      rfl
    · have q : IntKind.i64.min ≤ x1 ∧ x1 ≤ 9223372036854775807 := by simpa [Lit.wf] using w1
      simp only
      omega
end
theorem ip_row {w0 w1 : World} {a : Option Addr} {n c : Nat} {z : List (Int × Int)} (hb : Below w0.heap.size w0 w1) (h : IsIp w0 a n c z) {k : Nat} (hk : k < n) :
    ∃ ab off x1 x2, a = some ⟨ab, off, none⟩ ∧ x2 < 9223372036854775808 ∧ (k ≤ c ∧ n ≤ c) ∧ (∀ W, Below w1.heap.size w1 W → W.cell? ⟨ab, off + k * 2, none⟩ = some (.int .i64 x1) ∧ W.cell? ⟨ab, off + k * 2 + 1, none⟩ = some (.int .i64 x2)) := by
  obtain ⟨hl, hr, hok, hc, hn⟩ := h
  obtain ⟨x, hx⟩ : ∃ x, z[k]? = some x := ⟨_, List.getElem?_eq_getElem (show k < z.length by omega)⟩
  rcases hr with hnil | ⟨ab, off, rfl, hab, hcells⟩
  · rw [hnil] at hx; simp at hx
  have ho := hok x (List.mem_of_getElem? hx)
  refine ⟨ab, off, x.1, x.2, rfl, ho, by omega, fun W hW => ⟨?_, ?_⟩⟩
  · rw [(hb.trans (hW.mono hb.size)).cell (p := ⟨ab, off + k * 2, none⟩) hab]
    exact hcells k x hx 0 _ rfl
  · rw [(hb.trans (hW.mono hb.size)).cell (p := ⟨ab, off + k * 2 + 1, none⟩) hab]
    exact hcells k x hx 1 _ rfl
/-- A number added to a count, or not. -/
def okAdd (k n : Int) : Bool := decide (0 ≤ k) && decide (k < 14) && decide (0 ≤ n)
def addC (c : Nat → Nat) (k n : Int) : Nat → Nat := if okAdd k n then fun j => if j = k.toNat then sumN (c j) n.toNat else c j else c
theorem ok_add {c : Nat → Nat} (h : okC c) (k n : Int) : okC (addC c k n) := fun j hj => by
  unfold addC
  split
  · simp only
    split
    · exact sumN_lt _ _
    · exact h j hj
  · exact h j hj
theorem add_yes {c : Nat → Nat} {k n : Nat} (hk : k < 14) : addC c k n = fun j => if j = k then sumN (c k) n else c j := by
  unfold addC
  rw [if_pos (by unfold okAdd; simp; omega)]
  funext j
  simp only [Int.toNat_natCast]
  split
  · rename_i h; rw [h]
  · rfl
theorem add_not {c : Nat → Nat} {k n : Int} (h : ¬ (0 ≤ k ∧ k < 14 ∧ 0 ≤ n)) : addC c k n = c := by
  unfold addC
  rw [if_neg]
  unfold okAdd
  simp
  omega

/-- The blocks of the first loop. -/
structure AW (w0 w2 : World) (g A B : Nat) (y : Array Value) (c m : Nat → Nat) (w : World) : Prop where
  below : Below w0.heap.size w0 w
  from2 : Below w2.heap.size w2 w
  k4 : Blk w (g + 1) y 23
  k7 : Blk w A (cA c) 26
  k8 : Blk w B (cA m) 23
  lo : w0.heap.size ≤ g ∧ g + 1 < A ∧ A < B ∧ w2.heap.size ≤ A
theorem AW.next {w0 w2 w w' : World} {g A B : Nat} {y : Array Value} {c m : Nat → Nat} (h : AW w0 w2 g A B y c m w) (hb : Below w.heap.size w w') : AW w0 w2 g A B y c m w' :=
  ⟨h.below.trans (hb.mono h.below.size), h.from2.trans (hb.mono h.from2.size), h.k4.below hb h.k4.lt, h.k7.below hb h.k7.lt, h.k8.below hb h.k8.lt, h.lo⟩
theorem AW.set7 {w0 w2 w : World} {g A B : Nat} {y : Array Value} {c m : Nat → Nat} (h : AW w0 w2 g A B y c m w) {k : Nat} (hk : k < 14) (x : Nat) : AW w0 w2 g A B y (fun j => if j = k then x else c j) m (w.setCell ⟨A, k, none⟩ (.int .u32 (x : Nat))) := by
  have hl := h.lo
  refine ⟨h.below.setCell (by show _ ≤ A; omega) _, h.from2.setCell (by show _ ≤ A; omega) _, h.k4.other (a := ⟨A, k, none⟩) (by show A ≠ g + 1; omega) _, ?_, h.k8.other (a := ⟨A, k, none⟩) (by show A ≠ B; omega) _, h.lo⟩
  rw [← cA_set _ hk]
  exact h.k7.set k _
theorem AW.set8 {w0 w2 w : World} {g A B : Nat} {y : Array Value} {c m : Nat → Nat} (h : AW w0 w2 g A B y c m w) {k : Nat} (hk : k < 14) (x : Nat) : AW w0 w2 g A B y c (fun j => if j = k then x else m j) (w.setCell ⟨B, k, none⟩ (.int .u32 (x : Nat))) := by
  have hl := h.lo
  refine ⟨h.below.setCell (by show _ ≤ B; omega) _, h.from2.setCell (by show _ ≤ B; omega) _, h.k4.other (a := ⟨B, k, none⟩) (by show B ≠ g + 1; omega) _, h.k7.other (a := ⟨B, k, none⟩) (by show B ≠ A; omega) _, ?_, h.lo⟩
  rw [← cA_set _ hk]
  exact h.k8.set k _
/-- .. of the second one. -/
structure SW (w0 : World) (g A B D : Nat) (c o : Nat → Nat) (w : World) : Prop where
  below : Below w0.heap.size w0 w
  k4 : Blk w (g + 1) (cA o) 23
  k7 : Blk w A (cA c) 26
  k8 : Blk w B (cA c) 23
  k12 : Blk w D (cA (plusC c o)) 26
section
variable {w0 w w' : World} {g A B D : Nat} {c o : Nat → Nat}
theorem SW.next (h : SW w0 g A B D c o w) (hb : Below w.heap.size w w') : SW w0 g A B D c o w' :=
  ⟨h.below.trans (hb.mono h.below.size), h.k4.below hb h.k4.lt, h.k7.below hb h.k7.lt, h.k8.below hb h.k8.lt, h.k12.below hb h.k12.lt⟩
theorem SW.c4 (h : SW w0 g A B D c o w) {k : Nat} (hk : k < 14) : w.cell? ⟨g + 1, k, none⟩ = some (.int .u32 (o k : Nat)) := by rw [h.k4.cell, cA_at _ hk]
theorem SW.c7 (h : SW w0 g A B D c o w) {k : Nat} (hk : k < 14) : w.cell? ⟨A, k, none⟩ = some (.int .u32 (c k : Nat)) := by rw [h.k7.cell, cA_at _ hk]
theorem SW.c8 (h : SW w0 g A B D c o w) {k : Nat} (hk : k < 14) : w.cell? ⟨B, k, none⟩ = some (.int .u32 (c k : Nat)) := by rw [h.k8.cell, cA_at _ hk]
theorem SW.c12 (h : SW w0 g A B D c o w) {k : Nat} (hk : k < 14) : w.cell? ⟨D, k, none⟩ = some (.int .u32 (sumN (c k) (o k) : Nat)) := by rw [h.k12.cell, cA_at _ hk]; rfl
end
/-- The text, so far. -/
abbrev sT (c : Nat → Nat) (k : Nat) : ByteArray := ⟨(txt c k).toArray⟩
theorem sT_size (c : Nat → Nat) (hc : okC c) {k : Nat} (hk : k ≤ 14) : (sT c k).size ≤ 294 := by
  have := txt_len c hc k hk
  simp [sT, ByteArray.size]
  omega
theorem sT_zero (c : Nat → Nat) : sT c 1 = sT c 0 ++ dgS (c 0) := by
  apply ByteArray.ext
  simp [sT, txt, dgS, ByteArray.data_append]
theorem sT_step (c : Nat → Nat) {k : Nat} (hk : 0 < k) : sT c (k + 1) = sT c k ++ ⟨#[32]⟩ ++ dgS (c k) := by
  apply ByteArray.ext
  simp [sT, txt, dgS, hk, ByteArray.data_append]
abbrev nil14 : Array Value := #[.int .u32 0, .int .u32 0, .int .u32 0, .int .u32 0, .int .u32 0, .int .u32 0, .int .u32 0, .int .u32 0, .int .u32 0, .int .u32 0, .int .u32 0, .int .u32 0, .int .u32 0, .int .u32 0]
theorem z26 : ∀ W : World, (zeroValue 26).run Tryd.prog W = .ok (.agg nil14) W := fun W => Tryd.zeroValue26 W
theorem z23 : ∀ W : World, (zeroValue 23).run Tryd.prog W = .ok (.agg nil14) W := fun W => Tryd.zeroValue23 W

/-- The code from a statement on, that is in no loop. -/
def fromC (n : Nat) : Code → Option Code
  | .region id ops d => if id = n then some (.region id ops d) else none
  | .seq x y => match fromC n x with
    | some x' => some (.seq x' y)
    | none => fromC n y
  | .block _ c => fromC n c
  | .scope c => fromC n c
  | _ => none
noncomputable def tail3 (n : Nat) : Code := ((Tryd.f3.body.bind (fromC n)).getD .skip)

set_option maxRecDepth 100000 in
set_option maxHeartbeats 16000000 in
theorem adds_rest (c o : Nat → Nat) (hc : okC c) (ho : okC o) (x y : Array Value) (w w2 : World) (g A B : Nat) (HY : Hid (y = cA o)) (TB : Hid (Tab10 w)) (f2 f5 f9 f10 f11 f12 f13 f14 f15 f16 f17 f18 f19 f20 f21 f22 f23 f24 f25 f26 f27 f28 f29 f30 f31 f32 f33 f34 f35 f36 f37 f38 f39 f40 f41 f42 f43 f44 f45 f46 f47 f48 f49 f50 f51 f52 f53 f54 f55 f56 f57 f58 f59 f60 f61 f62 f63 f64 f65 f66 f67 f68 f69 f70 f71 f72 f73 f74 f75 f76 f77 f78 f79 f80 f81 f82 f83 f84 f85 f86 f87 f88 f89 f90 f91 f92 f93 f94 f95 f96 f97 f98 f99 f100 f101 f102 f103 f104 : Value) (wc : World) (KC : AW w w2 g A B y c c wc) :
    Code.wp Tryd.prog (tail3 12) (bodyPost Tryd.prog Tryd.f3 fun e w' => e = .returned (.bool true) ∧ Below w.heap.size w w') { tmps := #[.agg x, .agg y, f2, .pointer (some ⟨g, 0, none⟩), .pointer (some ⟨g + 1, 0, none⟩), f5, .bool false, .pointer (some ⟨A, 0, none⟩), .pointer (some ⟨B, 0, none⟩), f9, f10, f11, f12, f13, f14, f15, f16, f17, f18, f19, f20, f21, f22, f23, f24, f25, f26, f27, f28, f29, f30, f31, f32, f33, f34, f35, f36, f37, f38, f39, f40, f41, f42, f43, f44, f45, f46, f47, f48, f49, f50, f51, f52, f53, f54, f55, f56, f57, f58, f59, f60, f61, f62, f63, f64, f65, f66, f67, f68, f69, f70, f71, f72, f73, f74, f75, f76, f77, f78, f79, f80, f81, f82, f83, f84, f85, f86, f87, f88, f89, f90, f91, f92, f93, f94, f95, f96, f97, f98, f99, f100, f101, f102, f103, f104], defers := [] } wc := by
  have K0 := Lib.hid KC
  have HC := Lib.hid hc
  have HO := Lib.hid ho
  clear KC hc ho
  conv => arg 2; whnf
  conv => arg 4; zeta
  obtain ⟨z, hz⟩ : ∃ z, z = cA c := ⟨_, rfl⟩
  obtain ⟨r, hr⟩ : ∃ r, r = cA (plusC c o) := ⟨_, rfl⟩
  have Sz := Lib.hid (show (Tryd.prog.info? 26).map (·.size) = some z.size by rw [hz, cA_size]; exact cSize26)
  have Sy := Lib.hid (show (Tryd.prog.info? 23).map (·.size) = some y.size by rw [HY.out, cA_size]; exact cSize23)
  have Sr := Lib.hid (show (Tryd.prog.info? 26).map (·.size) = some r.size by rw [hr, cA_size]; exact cSize26)
  have Nr := Lib.hid (show nil14.size = r.size by rw [hr, cA_size]; rfl)
  have Or := Lib.hid (show r.all (·.oneCell') = true by rw [hr]; exact cA_one _)
  have K7 := Lib.hid (show Blk wc A z 26 by rw [hz]; exact K0.out.k7)
  have CP := Lib.hid (show Calls Tryd.prog 8 #[.agg z, .agg y] wc fun e w' => e = .returned (.agg r) ∧ Below wc.heap.size wc w' by rw [hz, HY.out, hr]; exact plus_any c o HC.out HO.out wc)
  have Z7 := Lib.hid (show ∀ W, Blk W A (cA c) 26 → Blk W A z 26 from fun W hW => by rw [hz]; exact hW)
  have CSH := Lib.hid (show ∀ W, Below w.heap.size w W → Calls Tryd.prog 10 #[.agg z] W fun e w' => e = .returned (.string (sT c 14)) ∧ Below W.heap.size W w' from fun W hW => by rw [hz]; exact show_any c HC.out W (tab_next TB.out hW))
  have HR := Lib.hid hr
  clear hz hr
  go_upto_region 13 with (first | (refine wpList_val (.agg z) (by rfl) (run_loadVar_of 26 _ rfl A rfl 26 z _ K7.out Tryd.underlying26 rfl Sz.out) ?_) | (refine wpList_val (.agg y) (by rfl) (run_loadVar_of 23 _ rfl (g + 1) rfl 23 y _ K0.out.k4 Tryd.underlying23 rfl Sy.out) ?_) | (go_at_call 8; with_reducible refine CP.out.mono ?_; rintro e w5 ⟨rfl, hb5⟩; have F5 := Lib.hid hb5; clear hb5) | (refine wpList_store_row rfl 26 _ _ rfl w5.heap.size r rfl rfl 26 nil14 (Blk.new w5 nil14 26) Sr.out Nr.out Or.out ?_))
  (try simp only [Act.put, List.getElem_toArray, List.getElem_cons_succ, List.getElem_cons_zero, List.setIfInBounds_toArray, List.set_cons_zero, List.set_cons_succ])
  obtain ⟨D, hD⟩ : ∃ D, D = w5.heap.size := ⟨_, rfl⟩
  obtain ⟨w6, hw6⟩ : ∃ w6, w6 = (w5.alloc (.cells nil14 26)).setRow w5.heap.size r := ⟨_, rfl⟩
  have K5 := Lib.hid (K0.out.next F5.out)
  have F6 := Lib.hid (show Below w5.heap.size w5 w6 by rw [hw6]; exact below_setRow ((Below.refl _ _).alloc (Nat.le_refl _) _) (Nat.le_refl _) _)
  have S6 := Lib.hid (show SW w g A B D c o w6 from ⟨(K5.out.next F6.out).below, by rw [← HY.out]; exact (K5.out.next F6.out).k4, (K5.out.next F6.out).k7, (K5.out.next F6.out).k8, by rw [hw6, hD, ← HR.out]; exact (Blk.new w5 nil14 26).row r⟩)
  change Code.wp Tryd.prog _ _ _ ((w5.alloc (.cells nil14 26)).setRow w5.heap.size r)
  rw [← hw6, ← hD]
  clear hw6 hD
  go_upto_region 15 with fail
  go_loopw [13, 14] (fun s j wr => ∃ k : Nat, k ≤ 14 ∧ s = .string (sT c k) ∧ j = .int .i64 k ∧ SW w g A B D c o wr) (fun _ j _ => (14 - intOf j).toNat)
  case atStart => exact ⟨0, by omega, rfl, rfl, S6.out⟩
  case round =>
    obtain ⟨k, hk, rfl, rfl, hI⟩ := hrel
    have HI := Lib.hid hI
    clear hI
    by_cases hlt : k < 14
    · have S7 := Lib.hid (show ∀ W, Calls Tryd.prog 7 #[.int .u32 (c k : Nat), .int .u64 (o k : Nat)] W fun e w' => e = .returned (.int .u32 (sumN (c k) (o k) : Nat)) ∧ W = w' from fun W => sum7_any (c k) (o k) (HC.out k hlt) (Nat.lt_trans (HO.out k hlt) (by decide)) W)
      have EO := Lib.hid (wrap_n64 (Nat.lt_trans (HO.out k hlt) (by decide) : o k < 18446744073709551616))
      go_upto_region 17 with fail
      refine wp_region_quiet (C := SW w g A B D c o) (by kernel_rfl) (by kernel_rfl) (HI.out.next (Below.refl _ _).drew) ?_
      (refine q_val (v := ?_) (by rfl) ?_ ?_; rotate_left; (· (intro w hC; go_simp; try with_reducible rfl)); (try simp only [Act.put, List.getElem_toArray, List.getElem_cons_succ, List.getElem_cons_zero, List.setIfInBounds_toArray, List.set_cons_zero, List.set_cons_succ]))
      (refine q_val (v := ?_) (by rfl) ?_ ?_; rotate_left; (· (intro w hC; go_simp; try with_reducible rfl)); (try simp only [Act.put, List.getElem_toArray, List.getElem_cons_succ, List.getElem_cons_zero, List.setIfInBounds_toArray, List.set_cons_zero, List.set_cons_succ]))
      (refine q_val (v := ?_) (by rfl) ?_ ?_; rotate_left; (· (intro w hC; have q := hC.c7 hlt; go_simp; try with_reducible rfl)); (try simp only [Act.put, List.getElem_toArray, List.getElem_cons_succ, List.getElem_cons_zero, List.setIfInBounds_toArray, List.set_cons_zero, List.set_cons_succ]))
      (refine q_val (v := ?_) (by rfl) ?_ ?_; rotate_left; (· (intro w hC; go_simp; try with_reducible rfl)); (try simp only [Act.put, List.getElem_toArray, List.getElem_cons_succ, List.getElem_cons_zero, List.setIfInBounds_toArray, List.set_cons_zero, List.set_cons_succ]))
      (refine q_val (v := ?_) (by rfl) ?_ ?_; rotate_left; (· (intro w hC; go_simp; try with_reducible rfl)); (try simp only [Act.put, List.getElem_toArray, List.getElem_cons_succ, List.getElem_cons_zero, List.setIfInBounds_toArray, List.set_cons_zero, List.set_cons_succ]))
      (refine q_val (v := ?_) (by rfl) ?_ ?_; rotate_left; (· (intro w hC; have q := hC.c8 hlt; go_simp; try with_reducible rfl)); (try simp only [Act.put, List.getElem_toArray, List.getElem_cons_succ, List.getElem_cons_zero, List.setIfInBounds_toArray, List.set_cons_zero, List.set_cons_succ]))
      (refine q_val (v := ?_) (by rfl) ?_ ?_; rotate_left; (· (intro w hC; go_simp; try with_reducible rfl)); (try simp only [Act.put, List.getElem_toArray, List.getElem_cons_succ, List.getElem_cons_zero, List.setIfInBounds_toArray, List.set_cons_zero, List.set_cons_succ]))
      (refine q_val (v := ?_) (by rfl) ?_ ?_; rotate_left; (· (intro w hC; go_simp; try with_reducible rfl)); (try simp only [Act.put, List.getElem_toArray, List.getElem_cons_succ, List.getElem_cons_zero, List.setIfInBounds_toArray, List.set_cons_zero, List.set_cons_succ]))
      (refine q_val (v := ?_) (by rfl) ?_ ?_; rotate_left; (· (intro w hC; go_simp; try with_reducible rfl)); (try simp only [Act.put, List.getElem_toArray, List.getElem_cons_succ, List.getElem_cons_zero, List.setIfInBounds_toArray, List.set_cons_zero, List.set_cons_succ]))
      (refine q_val (v := ?_) (by rfl) ?_ ?_; rotate_left; (· (intro w hC; go_simp; try with_reducible rfl)); (try simp only [Act.put, List.getElem_toArray, List.getElem_cons_succ, List.getElem_cons_zero, List.setIfInBounds_toArray, List.set_cons_zero, List.set_cons_succ]))
      (refine q_val (v := ?_) (by rfl) ?_ ?_; rotate_left; (· (intro w hC; have q := hC.c12 hlt; go_simp; try with_reducible rfl)); (try simp only [Act.put, List.getElem_toArray, List.getElem_cons_succ, List.getElem_cons_zero, List.setIfInBounds_toArray, List.set_cons_zero, List.set_cons_succ]))
      (refine q_val (v := ?_) (by rfl) ?_ ?_; rotate_left; (· (intro w hC; go_simp; try with_reducible rfl)); (try simp only [Act.put, List.getElem_toArray, List.getElem_cons_succ, List.getElem_cons_zero, List.setIfInBounds_toArray, List.set_cons_zero, List.set_cons_succ]))
      (refine q_val (v := ?_) (by rfl) ?_ ?_; rotate_left; (· (intro w hC; go_simp; try with_reducible rfl)); (try simp only [Act.put, List.getElem_toArray, List.getElem_cons_succ, List.getElem_cons_zero, List.setIfInBounds_toArray, List.set_cons_zero, List.set_cons_succ]))
      (refine q_val (v := ?_) (by rfl) ?_ ?_; rotate_left; (· (intro w hC; have q := hC.c8 hlt; go_simp; try with_reducible rfl)); (try simp only [Act.put, List.getElem_toArray, List.getElem_cons_succ, List.getElem_cons_zero, List.setIfInBounds_toArray, List.set_cons_zero, List.set_cons_succ]))
      (refine q_val (v := ?_) (by rfl) ?_ ?_; rotate_left; (· (intro w hC; go_simp; try with_reducible rfl)); (try simp only [Act.put, List.getElem_toArray, List.getElem_cons_succ, List.getElem_cons_zero, List.setIfInBounds_toArray, List.set_cons_zero, List.set_cons_succ]))
      (refine q_val (v := ?_) (by rfl) ?_ ?_; rotate_left; (· (intro w hC; go_simp; try with_reducible rfl)); (try simp only [Act.put, List.getElem_toArray, List.getElem_cons_succ, List.getElem_cons_zero, List.setIfInBounds_toArray, List.set_cons_zero, List.set_cons_succ]))
      (refine q_val (v := ?_) (by rfl) ?_ ?_; rotate_left; (· (intro w hC; have q := hC.c4 hlt; go_simp; try with_reducible rfl)); (try simp only [Act.put, List.getElem_toArray, List.getElem_cons_succ, List.getElem_cons_zero, List.setIfInBounds_toArray, List.set_cons_zero, List.set_cons_succ]))
      (refine q_val (v := ?_) (by rfl) ?_ ?_; rotate_left; (· (intro w hC; have q := EO.out; go_simp; try with_reducible rfl)); (try simp only [Act.put, List.getElem_toArray, List.getElem_cons_succ, List.getElem_cons_zero, List.setIfInBounds_toArray, List.set_cons_zero, List.set_cons_succ]))
      (refine q_call (v := .int .u32 (sumN (c k) (o k) : Nat)) 7 #[.int .u32 (c k : Nat), .int .u64 (o k : Nat)] (by rfl) (fun w hC => by go_simp) (fun w hC => (S7.out w).mono fun e w' ⟨q1, q2⟩ => ⟨q1, q2 ▸ hC⟩) ?_; (try simp only [Act.put, List.getElem_toArray, List.getElem_cons_succ, List.getElem_cons_zero, List.setIfInBounds_toArray, List.set_cons_zero, List.set_cons_succ]))
      (refine q_val (v := ?_) (by rfl) ?_ ?_; rotate_left; (· (intro w hC; go_simp; try with_reducible rfl)); (try simp only [Act.put, List.getElem_toArray, List.getElem_cons_succ, List.getElem_cons_zero, List.setIfInBounds_toArray, List.set_cons_zero, List.set_cons_succ]))
      (refine q_val (v := ?_) (by rfl) ?_ ?_; rotate_left; (· (intro w hC; go_simp; try with_reducible rfl)); (try simp only [Act.put, List.getElem_toArray, List.getElem_cons_succ, List.getElem_cons_zero, List.setIfInBounds_toArray, List.set_cons_zero, List.set_cons_succ]))
      refine wpQuiet_nil ?_
      intro w7 hC7
      have K7 := Lib.hid hC7
      clear hC7
      have DG := Lib.hid (show ∀ W, Calls Tryd.prog 9 #[.int .u32 (c k : Nat)] W fun e w' => e = .returned (.string (dgS (c k))) ∧ Below W.heap.size W w' from fun W => digits_any (c k) (HC.out k hlt) W)
      have C8 := Lib.hid (show ∀ W, SW w g A B D c o W → W.cell? ⟨B, k, none⟩ = some (.int .u32 (c k : Nat)) from fun W hW => hW.c8 hlt)
      have q8 := C8.out w7 K7.out
      have LD := digits_len (c k) (Nat.lt_trans (HC.out k hlt) (by decide))
      have LS := sT_size c HC.out hk
      have hz1 : (dgS (c k)).size ≤ 20 := by rw [dgS_size]; exact LD
      by_cases h0 : k = 0
      · subst h0
        have E1 := Lib.hid (sT_zero c)
        have hz2 : ¬ 9223372036854775807 < (sT c 0).size + (dgS (c 0)).size := by omega
        generalize sT c 0 = s0 at E1 hz2 ⊢
        generalize dgS (c 0) = d0 at E1 hz2 DG
        clear LD LS hz1
        go_wp2_with (go_at_call 9; with_reducible refine (DG.out _).mono ?_; rintro e w8 ⟨rfl, hb8⟩; have K8 := Lib.hid (K7.out.next hb8); clear hb8)
        go_roundw
        case rel => exact ⟨1, by omega, by rw [E1.out], rfl, K8.out⟩
        case measure => simp [intOf]
      · have E1 := Lib.hid (sT_step c (show 0 < k by omega))
        have hp : (0 : Int) < (k : Int) := by omega
        have hz3 : (⟨#[32]⟩ : ByteArray).size = 1 := rfl
        have hz2 : ¬ 9223372036854775807 < (sT c k).size + 1 := by omega
        have hz4 : ¬ 9223372036854775807 < (sT c k ++ ⟨#[32]⟩).size + (dgS (c k)).size := by rw [ByteArray.size_append]; omega
        generalize sT c k = s0 at E1 hz2 hz4 ⊢
        generalize dgS (c k) = d0 at E1 hz4 DG
        clear LD LS hz1
        go_wp2_with (go_at_call 9; with_reducible refine (DG.out _).mono ?_; rintro e w8 ⟨rfl, hb8⟩; have K8 := Lib.hid (K7.out.next hb8); clear hb8)
        go_roundw
        case rel => exact ⟨k + 1, by omega, by rw [E1.out], by go_num, K8.out⟩
        case measure => simp [intOf]; omega
    · have hk' : k = 14 := by omega
      subst hk'
      have K7 := Lib.hid (Z7.out wr HI.out.k7)
      have CN := Lib.hid (add_nil 0 1 wr)
      have CS := Lib.hid (CSH.out wr HI.out.below)
      go_wp2_with (first | (go_at_call 6; with_reducible refine CN.out.mono ?_; rintro e w8 ⟨rfl, rfl⟩) | (refine wpList_val (.agg z) (by rfl) (run_loadVar_of 26 _ rfl A rfl 26 z _ K7.out Tryd.underlying26 rfl Sz.out) ?_) | (go_at_call 10; with_reducible refine CS.out.mono ?_; rintro e w9 ⟨rfl, hb9⟩))
      go_ret
      exact ⟨rfl, HI.out.below.trans (hb9.mono HI.out.below.size)⟩

set_option maxRecDepth 100000 in
set_option maxHeartbeats 16000000 in
theorem adds_walk (f o : Nat → Nat) (hf : okC f) (ho : okC o) (a : Option Addr) (len cap : Nat) (rows : List (Int × Int)) (w : World) (htab : Tab10 w) (hz : IsIp w a len cap rows) :
    Calls Tryd.prog 3 #[cV f, cV o, .slice a len cap] w fun e w' => e = .returned (.bool true) ∧ Below w.heap.size w w' := by
  have HL := Lib.hid hz
  have hlc : (len : Int) ≤ 9223372036854775807 := by have q := hz.2.2.2.1; have q1 := q.1; have q2 := q.2; unfold maxLen at *; omega
  obtain ⟨x, hx⟩ : ∃ x, x = cA f := ⟨_, rfl⟩
  obtain ⟨y, hy⟩ : ∃ y, y = cA o := ⟨_, rfl⟩
  have Sx := Lib.hid (show (Tryd.prog.info? 23).map (·.size) = some x.size by rw [hx, cA_size]; exact cSize23)
  have Sx6 := Lib.hid (show (Tryd.prog.info? 26).map (·.size) = some x.size by rw [hx, cA_size]; exact cSize26)
  have Sy := Lib.hid (show (Tryd.prog.info? 23).map (·.size) = some y.size by rw [hy, cA_size]; exact cSize23)
  have Nx := Lib.hid (show nil14.size = x.size by rw [hx, cA_size]; rfl)
  have Ox := Lib.hid (show x.all (·.oneCell') = true by rw [hx]; exact cA_one _)
  have TB := Lib.hid htab
  have HF := Lib.hid hf
  have HO := Lib.hid ho
  obtain ⟨g, hg⟩ : ∃ g, g = w.heap.size := ⟨_, rfl⟩
  obtain ⟨w1, hw1⟩ : ∃ w1, w1 = (w.alloc (.cells x 23)).alloc (.cells y 23) := ⟨_, rfl⟩
  have B1 := Lib.hid (show Below w.heap.size w w1 by rw [hw1]; exact ((Below.refl _ _).alloc (Nat.le_refl _) _).alloc (by simp) _)
  have G1 := Lib.hid (show Blk w1 g x 23 by rw [hw1, hg]; exact (Blk.new _ _ _).alloc _)
  have G2 := Lib.hid (show Blk w1 (g + 1) y 23 by
    have := Blk.new (w.alloc (.cells x 23)) y 23
    rw [hw1, hg]
    simpa using this)
  have HW := Lib.hid hw1
  have HG := Lib.hid hg
  have HX := Lib.hid hx
  have HY := Lib.hid hy
  show Calls Tryd.prog 3 #[.agg (cA f), .agg (cA o), .slice a len cap] w _
  rw [← hx, ← hy]
  clear hx hy hf ho htab hg hw1 hz
  go_enter Tryd.func3, Tryd.ntmps3
  go_upto_region 1 with fail
  rw [← HW.out, ← HG.out]
  go_upto_region 3 with (go_at_call 5; refine (speaks13_any w1 (tab_next TB.out B1.out)).mono ?_; rintro e w2 ⟨rfl, hb2⟩)
  have B2 := Lib.hid (B1.out.trans (hb2.mono B1.out.size))
  have F2 := Lib.hid hb2
  have H1 := Lib.hid (G1.out.below hb2 G1.out.lt)
  have H2 := Lib.hid (G2.out.below hb2 G2.out.lt)
  have L12 := Lib.hid (Nat.lt_of_lt_of_le G2.out.lt hb2.size)
  clear hb2
  refine wp_region_lit ?_
  refine wpList_val (.agg x) (by rfl) (run_loadVar_of 23 _ rfl g rfl 23 x _ H1.out Tryd.underlying23 rfl Sx.out) ?_
  (try simp only [Act.put, List.getElem_toArray, List.getElem_cons_succ, List.getElem_cons_zero, List.setIfInBounds_toArray, List.set_cons_zero, List.set_cons_succ])
  refine wpList_alloc 26 rfl (by rfl) nil14 z26 ?_
  (try simp only [Act.put, List.getElem_toArray, List.getElem_cons_succ, List.getElem_cons_zero, List.setIfInBounds_toArray, List.set_cons_zero, List.set_cons_succ])
  refine wpList_store_row rfl 26 _ _ rfl w2.heap.size x rfl rfl 26 nil14 (Blk.new w2 nil14 26) Sx6.out Nx.out Ox.out ?_
  (try simp only [Act.put, List.getElem_toArray, List.getElem_cons_succ, List.getElem_cons_zero, List.setIfInBounds_toArray, List.set_cons_zero, List.set_cons_succ])
  refine wpList_nil ?_
  obtain ⟨A, hA⟩ : ∃ A, A = w2.heap.size := ⟨_, rfl⟩
  obtain ⟨w3, hw3⟩ : ∃ w3, w3 = (w2.alloc (.cells nil14 26)).setRow w2.heap.size x := ⟨_, rfl⟩
  have F3 := Lib.hid (show Below w2.heap.size w2 w3 by rw [hw3]; exact below_setRow ((Below.refl _ _).alloc (Nat.le_refl _) _) (Nat.le_refl _) _)
  have J7 := Lib.hid (show Blk w3 A x 26 by rw [hw3, hA]; exact (Blk.new w2 nil14 26).row x)
  have JS := Lib.hid (show w3.heap.size = A + 1 by rw [hw3, hA]; simp [World.setRow])
  rw [← hw3, ← hA]
  have HA := Lib.hid hA
  clear hw3 hA
  have J1 := Lib.hid (H1.out.below F3.out H1.out.lt)
  go_upto_region 4 with fail
  refine wp_region_lit ?_
  refine wpList_val (.agg x) (by rfl) (run_loadVar_of 23 _ rfl g rfl 23 x _ J1.out Tryd.underlying23 rfl Sx.out) ?_
  (try simp only [Act.put, List.getElem_toArray, List.getElem_cons_succ, List.getElem_cons_zero, List.setIfInBounds_toArray, List.set_cons_zero, List.set_cons_succ])
  refine wpList_alloc 23 rfl (by rfl) nil14 z23 ?_
  (try simp only [Act.put, List.getElem_toArray, List.getElem_cons_succ, List.getElem_cons_zero, List.setIfInBounds_toArray, List.set_cons_zero, List.set_cons_succ])
  refine wpList_store_row rfl 23 _ _ rfl w3.heap.size x rfl rfl 23 nil14 (Blk.new w3 nil14 23) Sx.out Nx.out Ox.out ?_
  (try simp only [Act.put, List.getElem_toArray, List.getElem_cons_succ, List.getElem_cons_zero, List.setIfInBounds_toArray, List.set_cons_zero, List.set_cons_succ])
  refine wpList_nil ?_
  obtain ⟨B, hB⟩ : ∃ B, B = w3.heap.size := ⟨_, rfl⟩
  obtain ⟨w4, hw4⟩ : ∃ w4, w4 = (w3.alloc (.cells nil14 23)).setRow w3.heap.size x := ⟨_, rfl⟩
  have F4 := Lib.hid (show Below w3.heap.size w3 w4 by rw [hw4]; exact below_setRow ((Below.refl _ _).alloc (Nat.le_refl _) _) (Nat.le_refl _) _)
  have AW0 := Lib.hid (show AW w w2 g A B y f f w4 from ⟨B2.out.trans ((F3.out.trans (F4.out.mono F3.out.size)).mono B2.out.size), F3.out.trans (F4.out.mono F3.out.size), (H2.out.below F3.out H2.out.lt).below F4.out (Nat.lt_of_lt_of_le H2.out.lt F3.out.size), by rw [← HX.out]; exact J7.out.below F4.out J7.out.lt, by rw [hw4, hB, ← HX.out]; exact (Blk.new w3 nil14 23).row x,
    by rw [HG.out]; exact Nat.le_refl _, by have := L12.out; have := HA.out; omega, by rw [hB, JS.out]; omega, by rw [HA.out]; exact Nat.le_refl _⟩)
  rw [← hw4, ← hB]
  clear hw4 hB
  go_upto_region 6 with fail
  rename_i KX hKX
  have HKX := Lib.hid hKX
  clear hKX
  go_loopw [9] (fun j wr => ∃ (k : Nat) (c : Nat → Nat), k ≤ len ∧ k ≤ 20 ∧ j = .int .i64 k ∧ okC c ∧ AW w w2 g A B y c c wr) (fun j _ => (20 - intOf j).toNat)
  case atStart => exact ⟨0, f, by omega, by omega, rfl, HF.out, AW0.out⟩
  case round =>
    obtain ⟨k, c, hk, hk2, rfl, hc, hI⟩ := hrel
    have HI := Lib.hid hI
    have HC := Lib.hid hc
    clear hI hc
    by_cases hlt : k < len ∧ k < 20
    · obtain ⟨h1, h2⟩ := hlt
      obtain ⟨ab, off, x1, x2, rfl, b2, hkc, hr⟩ := ip_row B2.out HL.out h1
      obtain ⟨hkc, hnc⟩ := hkc
      have HR := Lib.hid hr
      have X2 := Lib.hid b2
      clear hr b2
      go_upto_region 8 with fail
      refine wp_region_quiet (C := AW w w2 g A B y c c) (by kernel_rfl) (by kernel_rfl) (HI.out.next (Below.refl _ _).drew) ?_
      (refine q_val (v := ?_) (by rfl) ?_ ?_; rotate_left; (· (intro w hC; go_simp; try with_reducible rfl)); (try simp only [Act.put, List.getElem_toArray, List.getElem_cons_succ, List.getElem_cons_zero, List.setIfInBounds_toArray, List.set_cons_zero, List.set_cons_succ]))
      (refine q_val (v := ?_) (by rfl) ?_ ?_; rotate_left; (· (intro w hC; go_simp; try with_reducible rfl)); (try simp only [Act.put, List.getElem_toArray, List.getElem_cons_succ, List.getElem_cons_zero, List.setIfInBounds_toArray, List.set_cons_zero, List.set_cons_succ]))
      (refine q_val (v := ?_) (by rfl) ?_ ?_; rotate_left; (· (intro w hC; go_simp; try with_reducible rfl)); (try simp only [Act.put, List.getElem_toArray, List.getElem_cons_succ, List.getElem_cons_zero, List.setIfInBounds_toArray, List.set_cons_zero, List.set_cons_succ]))
      (refine q_val (v := ?_) (by rfl) ?_ ?_; rotate_left; (· (intro w hC; go_simp; try with_reducible rfl)); (try simp only [Act.put, List.getElem_toArray, List.getElem_cons_succ, List.getElem_cons_zero, List.setIfInBounds_toArray, List.set_cons_zero, List.set_cons_succ]))
      (refine q_val (v := ?_) (by rfl) ?_ ?_; rotate_left; (· (intro w hC; have q := (HR.out w (hC.from2)).1; go_simp; try with_reducible rfl)); (try simp only [Act.put, List.getElem_toArray, List.getElem_cons_succ, List.getElem_cons_zero, List.setIfInBounds_toArray, List.set_cons_zero, List.set_cons_succ]))
      (refine q_val (v := ?_) (by rfl) ?_ ?_; rotate_left; (· (intro w hC; go_simp; try with_reducible rfl)); (try simp only [Act.put, List.getElem_toArray, List.getElem_cons_succ, List.getElem_cons_zero, List.setIfInBounds_toArray, List.set_cons_zero, List.set_cons_succ]))
      (refine q_val (v := ?_) (by rfl) ?_ ?_; rotate_left; (· (intro w hC; go_simp; try with_reducible rfl)); (try simp only [Act.put, List.getElem_toArray, List.getElem_cons_succ, List.getElem_cons_zero, List.setIfInBounds_toArray, List.set_cons_zero, List.set_cons_succ]))
      (refine q_val (v := ?_) (by rfl) ?_ ?_; rotate_left; (· (intro w hC; go_simp; try with_reducible rfl)); (try simp only [Act.put, List.getElem_toArray, List.getElem_cons_succ, List.getElem_cons_zero, List.setIfInBounds_toArray, List.set_cons_zero, List.set_cons_succ]))
      (refine q_val (v := ?_) (by rfl) ?_ ?_; rotate_left; (· (intro w hC; go_simp; try with_reducible rfl)); (try simp only [Act.put, List.getElem_toArray, List.getElem_cons_succ, List.getElem_cons_zero, List.setIfInBounds_toArray, List.set_cons_zero, List.set_cons_succ]))
      (refine q_val (v := ?_) (by rfl) ?_ ?_; rotate_left; (· (intro w hC; have q := (HR.out w (hC.from2)).2; go_simp; try with_reducible rfl)); (try simp only [Act.put, List.getElem_toArray, List.getElem_cons_succ, List.getElem_cons_zero, List.setIfInBounds_toArray, List.set_cons_zero, List.set_cons_succ]))
      (refine q_val (v := ?_) (by rfl) ?_ ?_; rotate_left; (· (intro w hC; go_simp; try with_reducible rfl)); (try simp only [Act.put, List.getElem_toArray, List.getElem_cons_succ, List.getElem_cons_zero, List.setIfInBounds_toArray, List.set_cons_zero, List.set_cons_succ]))
      (refine q_val (v := ?_) (by rfl) ?_ ?_; rotate_left; (· (intro w hC; go_simp; try with_reducible rfl)); (try simp only [Act.put, List.getElem_toArray, List.getElem_cons_succ, List.getElem_cons_zero, List.setIfInBounds_toArray, List.set_cons_zero, List.set_cons_succ]))
      refine wpQuiet_nil ?_
      intro w5 hC5
      have K5 := Lib.hid hC5
      clear hC5
      by_cases hok : 0 ≤ x1 ∧ x1 < 14 ∧ 0 ≤ x2
      · obtain ⟨q, rfl⟩ : ∃ q : Nat, x1 = q := ⟨x1.toNat, by omega⟩
        obtain ⟨n, rfl⟩ : ∃ n : Nat, x2 = n := ⟨x2.toNat, by omega⟩
        have hq : q < 14 := by omega
        have hqi : (q : Int) < 14 := by omega
        have hqi2 : ¬ (14 : Int) ≤ (q : Int) := by omega
        have hn : n < 18446744073709551616 := by have := X2.out; omega
        have CA := Lib.hid (add_cell A q n (c q) hq (HC.out q hq) hn w5 (by rw [K5.out.k7.cell, cA_at _ hq]) (K5.out.k7.free q) K5.out.k7.lt)
        have EM := wrap_n64 hn
        have CS := Lib.hid (show ∀ W, Calls Tryd.prog 7 #[.int .u32 (c q : Nat), .int .u64 (n : Nat)] W fun e w' => e = .returned (.int .u32 (sumN (c q) n : Nat)) ∧ W = w' from fun W => sum7_any (c q) n (HC.out q hq) hn W)
        have CB := Lib.hid (HC.out q hq)
        have AY := Lib.hid (add_yes (c := c) (n := n) hq)
        clear hok hn
        go_upto_region 10 with (go_at_call 6; with_reducible refine CA.out.mono ?_; rintro e w7 ⟨rfl, hw7⟩; have H7 := Lib.hid hw7; clear hw7)
        have K7 := Lib.hid (show AW w w2 g A B y (addC c q n) c w7 by obtain ⟨w6, hb6, hw7⟩ := H7.out; rw [hw7, AY.out]; exact (K5.out.next hb6).set7 hq _)
        have q0 : w7.cell? ⟨B, q, none⟩ = some (.int .u32 (c q : Nat)) := by rw [K7.out.k8.cell, cA_at _ hq]
        have q1 : w7.frozen? ⟨B, q, none⟩ = false := K7.out.k8.free q
        clear HR X2
        go_upto_region 11 with fail
        go_wp2_with (go_at_call 7; with_reducible refine (CS.out _).mono ?_; rintro e w8 ⟨rfl, rfl⟩)
        have K8 := Lib.hid (show AW w w2 g A B y (addC c q n) (addC c q n) (w7.setCell ⟨B, q, none⟩ (.int .u32 (sumN (c q) n : Nat))) by
          have := K7.out.set8 hq (sumN (c q) n)
          rw [← AY.out] at this
          exact this)
        go_roundw
        case rel => exact ⟨k + 1, addC c q n, by omega, by omega, by go_num, ok_add HC.out _ _, K8.out⟩
        case measure => simp [intOf]; omega
      · have CN := Lib.hid (add_naught A x1 x2 hok w5)
        go_upto_region 10 with (go_at_call 6; with_reducible refine CN.out.mono ?_; rintro e w7 ⟨rfl, rfl⟩)
        by_cases c1 : x1 < 0
        · have d1 : ¬ (0 : Int) ≤ x1 := by omega
          go_wp2_with fail
          go_roundw
          case rel => exact ⟨k + 1, c, by omega, by omega, by go_num, HC.out, K5.out⟩
          case measure => simp [intOf]; omega
        · by_cases c2 : x1 < 14
          · have d1 : (0 : Int) ≤ x1 := by omega
            have d3 : ¬ (0 : Int) ≤ x2 := by omega
            go_wp2_with fail
            go_roundw
            case rel => exact ⟨k + 1, c, by omega, by omega, by go_num, HC.out, K5.out⟩
            case measure => simp [intOf]; omega
          · have d1 : (0 : Int) ≤ x1 := by omega
            go_wp2_with fail
            go_roundw
            case rel => exact ⟨k + 1, c, by omega, by omega, by go_num, HC.out, K5.out⟩
            case measure => simp [intOf]; omega
    · have HE := Lib.hid (show ¬ (k : Int) < (len : Int) ∨ ((k : Int) < (len : Int) ∧ ¬ (k : Int) < 20) by omega)
      clear hlt hk hk2
      rcases HE.out with g1 | ⟨g1, g2⟩
      all_goals
        go_wp2_with fail
        exact HKX.out _ _ (adds_rest c o HC.out HO.out x y w w2 g A B HY TB _ _ _ _ _ _ _ _ _ _ _ _ _ _ _ _ _ _ _ _ _ _ _ _ _ _ _ _ _ _ _ _ _ _ _ _ _ _ _ _ _ _ _ _ _ _ _ _ _ _ _ _ _ _ _ _ _ _ _ _ _ _ _ _ _ _ _ _ _ _ _ _ _ _ _ _ _ _ _ _ _ _ _ _ _ _ _ _ _ _ _ _ _ _ _ _ _ _ wr HI.out)
end Go.Proofs.YtpbdamnlfpfclaaDoor
