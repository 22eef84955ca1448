import Derived.Test.YtccbdmccfbjmeaaDoorG13
import Derived.Test.YtccbdmccfbjmeaaDoorRows
import Derived.WalkKit
import Derived.ProofKit
import Derived.OpenShut
import Derived.ShutString
import Derived.ChangeOld
import Derived.Below
import Derived.Laws.IdiomArrays
import Derived.Lib.SmallJoins
import Derived.Test.YtccbdmccfbjmeaaDoorG11
import Derived.Test.YtccbdmccfbjmeaaDoorG2
import Derived.Lay
import Derived.LaidSub
import Derived.LaidMore
import Derived.Stop.Joined
import Derived.Test.YtccbdmccfbjmeaaDoorCards
import Derived.Test.YtccbdmccfbjmeaaDoorTie
set_option linter.unusedSimpArgs false
set_option linter.unusedVariables false
namespace Go.Proofs.YtccbdmccfbjmeaaDoor
section
/- The law of layer 29, whole. -/
open Go.RowKit
open Ev
set_option maxRecDepth 100000
theorem same_turn (a a2 : Option Addr) (n m m2 : Nat) (l : List ByteArray) (hl : l.length = n) (hn : n ≤ 1000) : Fun Tryd.prog 8 [.slice a n m, .slice a2 n m2] [bdO 9 1 wdC (.slice a2 n m2) l, bdO 9 1 wdC (.slice a n m) l] Unit (fun _ => .bool true) (fun _ => [bdO 9 1 wdC (.slice a2 n m2) l, bdO 9 1 wdC (.slice a n m) l]) :=
  fun w0 F R w K => (same_fun a a2 n m m2 l hl hn w0 F R w (perm_own (List.Perm.swap _ _ []) w0 F R w K)).mono fun e w' ⟨y, e1, e2⟩ => ⟨y, e1, perm_own (List.Perm.swap _ _ []) w0 F R w' e2⟩
theorem law_fun (id n m : Nat) (a : Option Addr) (c : Nat → Nat) (l : List Rp) (X : Bd) (hid : id < 18446744073709551616) (hok : okC c) (hX : Reads X a 3 lpC l) (hl : l.length = n) (hc : ∀ (k : Nat) (x : Rp), l[k]? = some x → x.cost < 4294967296) :
    Fun Tryd.prog 3 [.int .u64 (id : Nat), .slice a n m, cV c] [bdL, X] Unit (fun _ => .bool true) (fun _ => [bdL, X]) := by
  have hB := fun (b : Nat) (g : Option Addr × Nat) => bridge_fun id (n % 5) g.1 (some ⟨b, 0, none⟩) (min n 16) g.2 (n % 5) c (l.take (min n 16)) hid (by omega) (by rw [List.length_take, hl]; omega) (by omega) hok (fun k x hx => hc k x (by
    have hk := (List.getElem?_eq_some_iff.1 hx).1
    rw [List.length_take] at hk
    rw [List.getElem?_take_of_lt (by omega)] at hx
    exact hx))
  have hb : bLines id (n % 5) c (l.take (min n 16)) = (jn (ln0 id (n % 5)) :: pls l (min n 16)) ++ [a6 ++ shwS c] := by
    rw [cat2]
    unfold bLines
    rw [show (l.take (min n 16)).length = min n 16 by rw [List.length_take, hl]; omega, pls_take]
  rw [hb] at hB
  have d0 : (dgS (id / 281474976710656)).size ≤ 20 := by have := dg_len (id / 281474976710656) (by omega); exact this
  have d1 : (dgS (n % 5)).size ≤ 20 := by have := dg_len (n % 5) (by omega); exact this
  have d2 : (macS id).size ≤ 17 := by have := macS_len id; exact this
  have d3 : (shwS c).size ≤ 294 := by have := txt_le c hok; exact this
  have q1 : a1.size = 7 := rfl
  have q2 : a2.size = 1 := rfl
  have q3 : a3.size = 10 := rfl
  have q6 : a6.size = 7 := rfl
  exact ev_funE (fun R fin => [oU true speaks_fun 0, No,
    .r _ _ (rem5 n), oMk (n % 5) (by omega) fun b => [
    .c 5 #[.int .u64 (id : Nat)] (mac (byteF id)) (fun w => rfromInt_any id w hid),
    .r _ _ (shr48 id), .c 6 #[.int .u64 (id / 281474976710656 : Nat)] (.string (dgS (id / 281474976710656))) (fun w => digits_any _ (by omega) w),
    oCt a1 (dgS (id / 281474976710656)) (by omega), oCt (a1 ++ dgS (id / 281474976710656)) a2 (by simp only [ByteArray.size_append]; omega),
    .c 7 #[mac (byteF id)] (.string (macS id)) (fun w => rshow_any (byteF id) w (byteF_six id)),
    oCt (a1 ++ dgS (id / 281474976710656) ++ a2) (macS id) (by simp only [ByteArray.size_append]; omega), oCt (a1 ++ dgS (id / 281474976710656) ++ a2 ++ macS id) a3 (by simp only [ByteArray.size_append]; omega),
    .k, .r _ _ (rem5 n), .r _ _ (w64 (k := n % 5) (by omega)), .c 6 #[.int .u64 (n % 5 : Nat)] (.string (dgS (n % 5))) (fun w => digits_any _ (by omega) w),
    oCt (a1 ++ dgS (id / 281474976710656) ++ a2 ++ macS id ++ a3) (dgS (n % 5)) (by simp only [ByteArray.size_append]; omega),
    oNs 42 9 1 _ _ (one_wd (a1 ++ dgS (id / 281474976710656) ++ a2 ++ macS id ++ a3 ++ dgS (n % 5))) fun b2 => [
    .a 0 [bdB b2 (cellsL wdC [a1 ++ dgS (id / 281474976710656) ++ a2 ++ macS id ++ a3 ++ dgS (n % 5)]).toArray 9] [bdO 9 1 wdC (.slice (some ⟨b2, 0, none⟩) 1 1) [jn (ln0 id (n % 5))]] (own_blk (n := 1) (by rw [cat0]) rfl (by show 1 ≤ maxLen; decide) rfl []),
    .a 1 [] [bdO 51 21 prC (.slice none 0 0) []] (nil_own 51 21 prC []),
    .l _ _ _ _ _ _ (lw_loop id (n % 5) n m a (some ⟨b, 0, none⟩) c l X R (some ⟨b2, 0, none⟩, 1) (none, 0) hX hl hc) fun y => [
    oF (hB b y.2) (none, 0) 1 fun z => [
    oU true (show_fun c hok) 3,
    oCt a6 (shwS c) (by omega),
    oAp wdE 42 0 2 #[false, false] (.slice y.1.1 (min n 16 + 1) y.1.2) (jn (ln0 id (n % 5)) :: pls l (min n 16)) [a6 ++ shwS c] (min n 16 + 2) (by simp [pls_len]) (by omega) fun y2 => [
    oU true (same_turn z.1 y2.1 (min n 16 + 2) z.2 y2.2 ((jn (ln0 id (n % 5)) :: pls l (min n 16)) ++ [a6 ++ shwS c]) (by simp [pls_len]) (by omega)) 0,
    oDr 0 [bdO 9 1 wdC (.slice y2.1 (min n 16 + 2) y2.2) ((jn (ln0 id (n % 5)) :: pls l (min n 16)) ++ [a6 ++ shwS c]), bdO 9 1 wdC (.slice z.1 (min n 16 + 2) z.2) ((jn (ln0 id (n % 5)) :: pls l (min n 16)) ++ [a6 ++ shwS c]), bdO 51 21 prC (.slice y.2.1 (min n 16) y.2.2) (l.take (min n 16))],
    fin () _ _ rfl rfl]]]]]]) (fun R β w => by kernel_rfl)
end
section
/- What the last step of every statement of this seat needs: how arguments are opened. -/
open Go.ChangeShapes Go.WideShapes Go.ChangeAt Go.RowKit

theorem own : ownKnob Tryd.prog.godebug = none := by kernel_rfl
theorem laidOut : laidOutB Tryd.prog = true := by kernel_rfl

/-- A slice of integers that came in: it is nil; or it leads to a row of 'cap' cells, the numbers 'zs', the first 'len' of which are its elements. -/
def IsRow (k : IntKind) (w : World) (a : Option Addr) (len cap : Nat) (zs : List Int) : Prop :=
  (a = none ∧ len = 0 ∧ cap = 0 ∧ zs = []) ∨
  ∃ x, a = some x ∧ len ≤ cap ∧ cap ≤ maxLen ∧ zs.length = cap ∧ (∀ i, i < zs.length → w.cell? (x.add i) = some (.int k (zs.getD i 0))) ∧ ∀ n ∈ zs, (Lit.int k n).wf = true

/-- An array of three integers that came in. -/
theorem open_arr3 {H : Type} {enc : TypeId × Value → H} {P : Program} {w : World} {t e : TypeId} {k : IntKind} {v : Value} {d : DataW H} {p : List MemPlace} {b0 : Nat} {r : Reach} {base : Nat} {spare : Nat → Bool} {held : Bool}
    (ht : P.underlying t = some (.array 3 e)) (he : P.underlying e = some (.int k)) (hc : P.cellsOf t = 3) (hce : P.cellsOf e = 1)
    (hv : Value.okWide P w r b0 t v) (h : DataW.Trod enc P w base spare held t v d p) :
    ∃ (b c f : Int) (_ : True), v = .agg #[.int k b, .int k c, .int k f] ∧ (Lit.int k b).wf = true ∧ (Lit.int k c).wf = true ∧ (Lit.int k f).wf = true := by
  unfold Value.okWide at hv
  rw [ht] at hv
  obtain ⟨cs, rfl, hsz, _⟩ := hv
  obtain ⟨c0, c1, c2, rfl⟩ := Joins.array3 (hsz.trans hc)
  obtain ⟨fuel, hf⟩ := h
  obtain ⟨y0, y1, y2, n, _, h0, h1, h2⟩ := trod_array3 ht hce hf
  obtain ⟨a0, e0, _, w0⟩ := DataW.trod_int he h0
  obtain ⟨a1, e1, _, w1⟩ := DataW.trod_int he h1
  obtain ⟨a2, e2, _, w2⟩ := DataW.trod_int he h2
  simp at e0 e1 e2
  subst e0 e1 e2
  exact ⟨a0, a1, a2, trivial, rfl, w0, w1, w2⟩
end
section
/- How arguments are opened that are arrays of integers, or frames. -/
open Go.ChangeShapes Go.WideShapes Go.ChangeAt Go.RowKit

section
variable {H : Type} {enc : TypeId × Value → H} {P : Program} {w : World} {base : Nat} {spare : Nat → Bool} {held : Bool}

/-- The elements of an array of integers that is read. -/
theorem arr_ints {n : Nat} {t e : TypeId} {k : IntKind} {fuel : Nat} {cs : List Value} {x : DataW H × List MemPlace} (ht : P.underlying t = some (.array n e)) (he : P.underlying e = some (.int k)) (hce : P.cellsOf e = 1) (hc : P.cellsOf t = n)
    (h : DataW.trod enc P w base spare held fuel t cs = some x) : cs.length = n ∧ ∀ i, i < n → ∃ a, cs[i]? = some (.int k a) ∧ (Lit.int k a).wf = true := by
  obtain ⟨xs, m, _, _, hl, hx, hi⟩ := DataW.trod_array ht h
  refine ⟨hl.trans hc, fun i hin => ?_⟩
  have h1 := hi i hin
  rw [hce, Nat.mul_one] at h1
  have hlen : i < cs.length := by omega
  rw [List.drop_eq_getElem_cons hlen, show List.take 1 (cs[i] :: List.drop (i + 1) cs) = [cs[i]] from rfl, List.getElem?_eq_getElem (by omega)] at h1
  obtain ⟨a, e1, _, w1⟩ := DataW.trod_int he h1
  simp only [List.cons.injEq, and_true] at e1
  exact ⟨a, by rw [List.getElem?_eq_getElem hlen, e1], w1⟩

theorem open_arr6 {t e : TypeId} {k : IntKind} {v : Value} {d : DataW H} {p : List MemPlace} {b0 : Nat} {r : Reach}
    (ht : P.underlying t = some (.array 6 e)) (he : P.underlying e = some (.int k)) (hc : P.cellsOf t = 6) (hce : P.cellsOf e = 1)
    (hv : Value.okWide P w r b0 t v) (h : DataW.Trod enc P w base spare held t v d p) :
    ∃ (a0 a1 a2 a3 a4 a5 : Int), v = .agg #[.int k a0, .int k a1, .int k a2, .int k a3, .int k a4, .int k a5] ∧ (Lit.int k a0).wf = true ∧ (Lit.int k a1).wf = true ∧ (Lit.int k a2).wf = true ∧ (Lit.int k a3).wf = true ∧ (Lit.int k a4).wf = true ∧ (Lit.int k a5).wf = true := by
  unfold Value.okWide at hv
  rw [ht] at hv
  obtain ⟨cs, rfl, hsz, _⟩ := hv
  obtain ⟨l⟩ := cs
  obtain ⟨fuel, hf⟩ := h
  obtain ⟨_, hi⟩ := arr_ints ht he hce hc hf
  match l, hsz.trans hc with
  | [c0, c1, c2, c3, c4, c5], _ =>
    obtain ⟨a0, e0, w0⟩ := hi 0 (by omega)
    obtain ⟨a1, e1, w1⟩ := hi 1 (by omega)
    obtain ⟨a2, e2, w2⟩ := hi 2 (by omega)
    obtain ⟨a3, e3, w3⟩ := hi 3 (by omega)
    obtain ⟨a4, e4, w4⟩ := hi 4 (by omega)
    obtain ⟨a5, e5, w5⟩ := hi 5 (by omega)
    simp [Value.cells] at e0 e1 e2 e3 e4 e5
    subst e0 e1 e2 e3 e4 e5
    exact ⟨a0, a1, a2, a3, a4, a5, rfl, w0, w1, w2, w3, w4, w5⟩

theorem open_arr2 {t e : TypeId} {k : IntKind} {v : Value} {d : DataW H} {p : List MemPlace} {b0 : Nat} {r : Reach}
    (ht : P.underlying t = some (.array 2 e)) (he : P.underlying e = some (.int k)) (hc : P.cellsOf t = 2) (hce : P.cellsOf e = 1)
    (hv : Value.okWide P w r b0 t v) (h : DataW.Trod enc P w base spare held t v d p) :
    ∃ (a0 a1 : Int), v = .agg #[.int k a0, .int k a1] ∧ (Lit.int k a0).wf = true ∧ (Lit.int k a1).wf = true := by
  unfold Value.okWide at hv
  rw [ht] at hv
  obtain ⟨cs, rfl, hsz, _⟩ := hv
  obtain ⟨l⟩ := cs
  obtain ⟨fuel, hf⟩ := h
  obtain ⟨_, hi⟩ := arr_ints ht he hce hc hf
  match l, hsz.trans hc with
  | [c0, c1], _ =>
    obtain ⟨a0, e0, w0⟩ := hi 0 (by omega)
    obtain ⟨a1, e1, w1⟩ := hi 1 (by omega)
    simp [Value.cells] at e0 e1
    subst e0 e1
    exact ⟨a0, a1, rfl, w0, w1⟩

end
end
section
/- How structs that came in are opened. -/
open Go.ChangeShapes Go.WideShapes Go.ChangeAt Go.RowKit

theorem cellsS3 : Tryd.prog.cellsOf 3 = 1 := by kernel_rfl
theorem cellsS24 : Tryd.prog.cellsOf 24 = 1 := by kernel_rfl
theorem cellsS44 : Tryd.prog.cellsOf 44 = 3 := by kernel_rfl

section
variable {H : Type} {enc : TypeId × Value → H} {w : World} {base : Nat} {spare : Nat → Bool} {held : Bool}

set_option maxRecDepth 100000 in
theorem cells_s44 {cs : Array Value} {fuel : Nat} {x : DataW H × List MemPlace} (hsz : cs.toList.length = 3) (hf : DataW.trod enc Tryd.prog w base spare held fuel 44 cs.toList = some x) :
    ∃ (x0 : Int) (x1 : Int) (x2 : Int), cs = #[.int .i64 x0, .int .i64 x1, .int .u32 x2] ∧ (Lit.int .i64 x0).wf = true ∧ (Lit.int .i64 x1).wf = true ∧ (Lit.int .u32 x2).wf = true := by
  obtain ⟨l⟩ := cs
  obtain ⟨xs, n, _, _, _, hlen, hg⟩ := DataW.trod_struct Tryd.underlying44 hf
  match l, hsz with
  | [c0, c1, c2], _ =>
    match xs, hlen with
    | [z0, z1, z2], _ =>
      have g0 : DataW.trod enc Tryd.prog w base spare held n 3 (([c0, c1, c2].drop 0).take (Tryd.prog.cellsOf 3)) = some z0 := hg 0 _ rfl
      have g1 : DataW.trod enc Tryd.prog w base spare held n 3 (([c0, c1, c2].drop 1).take (Tryd.prog.cellsOf 3)) = some z1 := hg 1 _ rfl
      have g2 : DataW.trod enc Tryd.prog w base spare held n 24 (([c0, c1, c2].drop 2).take (Tryd.prog.cellsOf 24)) = some z2 := hg 2 _ rfl
      rw [cellsS3] at g0
      rw [cellsS3] at g1
      rw [cellsS24] at g2
      obtain ⟨x0, e0, _, w0⟩ := DataW.trod_int Tryd.underlying3 g0
      obtain ⟨x1, e1, _, w1⟩ := DataW.trod_int Tryd.underlying3 g1
      obtain ⟨x2, e2, _, w2⟩ := DataW.trod_int Tryd.underlying24 g2
      simp [Value.cells] at e0 e1 e2
      subst e0 e1 e2
      exact ⟨x0, x1, x2, rfl, w0, w1, w2⟩

set_option maxRecDepth 100000 in
theorem open_s44 {v : Value} {d : DataW H} {p : List MemPlace} {b0 : Nat} {r : Reach} (hv : Value.okWide Tryd.prog w r b0 44 v) (h : DataW.Trod enc Tryd.prog w base spare held 44 v d p) :
    ∃ (x0 : Int) (x1 : Int) (x2 : Int), v = .agg #[.int .i64 x0, .int .i64 x1, .int .u32 x2] ∧ (Lit.int .i64 x0).wf = true ∧ (Lit.int .i64 x1).wf = true ∧ (Lit.int .u32 x2).wf = true := by
  obtain ⟨cs, rfl, hsz⟩ := okWide_struct Tryd.underlying44 hv
  obtain ⟨fuel, hf⟩ := h
  obtain ⟨x0, x1, x2, rfl, w0, w1, w2⟩ := cells_s44 (by rw [Array.length_toList]; exact hsz.trans cellsS44) hf
  exact ⟨x0, x1, x2, rfl, w0, w1, w2⟩

end
end
section
/- Literals of unsigned numbers, as natural numbers. -/
open Go.RowKit

theorem nat_of_u8 {a : Int} (h : (Lit.int .u8 a).wf = true) : ∃ n : Nat, a = (n : Int) ∧ n < 256 := by
  have hb := bounds_u8 h
  obtain ⟨n, rfl⟩ := Int.eq_ofNat_of_zero_le hb.1
  exact ⟨n, rfl, by omega⟩
theorem nat_of_u16 {a : Int} (h : (Lit.int .u16 a).wf = true) : ∃ n : Nat, a = (n : Int) ∧ n < 65536 := by
  have hb := bounds_u16 h
  obtain ⟨n, rfl⟩ := Int.eq_ofNat_of_zero_le hb.1
  exact ⟨n, rfl, by omega⟩
theorem nat_of_u32 {a : Int} (h : (Lit.int .u32 a).wf = true) : ∃ n : Nat, a = (n : Int) ∧ n < 4294967296 := by
  have hb := bounds_u32 h
  obtain ⟨n, rfl⟩ := Int.eq_ofNat_of_zero_le hb.1
  exact ⟨n, rfl, by omega⟩
theorem nat_of_u64 {a : Int} (h : (Lit.int .u64 a).wf = true) : ∃ n : Nat, a = (n : Int) ∧ n < 18446744073709551616 := by
  have hb := bounds_u64 h
  obtain ⟨n, rfl⟩ := Int.eq_ofNat_of_zero_le hb.1
  exact ⟨n, rfl, by omega⟩
end
section
/- How fourteen numbers are opened, and slices of pairs; the table of powers. -/
open Go.ChangeShapes Go.WideShapes Go.ChangeAt Go.RowKit Go.Deep
set_option maxRecDepth 100000
section
variable {H : Type} {enc : TypeId × Value → H} {w : World} {base : Nat} {spare : Nat → Bool} {held : Bool}
theorem cells25 : Tryd.prog.cellsOf 25 = 14 := by kernel_rfl
theorem open_c {v : Value} {d : DataW H} {p : List MemPlace} {b0 : Nat} {r : Reach} (hv : Value.okWide Tryd.prog w r b0 25 v) (h : DataW.Trod enc Tryd.prog w base spare held 25 v d p) : ∃ c : Nat → Nat, okC c ∧ v = cV c := by
  unfold Value.okWide at hv
  rw [Tryd.underlying25] at hv
  obtain ⟨cs, rfl, hsz, _⟩ := hv
  obtain ⟨fuel, hf⟩ := h
  obtain ⟨_, hi⟩ := arr_ints Tryd.underlying25 Tryd.underlying24 cells24 cells25 hf
  have key : ∀ i : Fin 14, ∃ n : Nat, n < 4294967296 ∧ cs[i.val]? = some (.int .u32 (n : Int)) := fun ⟨i, h14⟩ => by
    obtain ⟨a, e, hw⟩ := hi i h14
    obtain ⟨n, rfl, hn⟩ := nat_of_u32 hw
    refine ⟨n, hn, ?_⟩
    simpa [Value.cells] using e
  have hs14 : cs.size = 14 := by rw [hsz, cells25]
  refine ⟨fun i => if h : i < 14 then (key ⟨i, h⟩).choose else 0, fun j hj => ?_, ?_⟩
  · simp only [dif_pos hj]
    exact (key ⟨j, hj⟩).choose_spec.1
  · refine congrArg Value.agg (Array.ext' (List.ext_getElem? fun i => ?_))
    by_cases h14 : i < 14
    · have := (key ⟨i, h14⟩).choose_spec.2
      rw [Array.getElem?_toList, this, Array.getElem?_toList, cA_at _ h14]
      simp only [dif_pos h14]
    · rw [List.getElem?_eq_none (by simpa using (by omega : cs.size ≤ i)), List.getElem?_eq_none (by have := cA_size (fun i => if h : i < 14 then (key ⟨i, h⟩).choose else 0); simp at this ⊢; omega)]
end
abbrev lst : List (String × DataW Unit) := [("math/bits.deBruijn32tab", Rows.laid_math_bits_deBruijn32tab), ("math/bits.deBruijn64tab", Rows.laid_math_bits_deBruijn64tab), ("internal/strconv.uint64pow10", Rows.laid_internal_strconv_uint64pow10), ("girder/report.roles", Rows.laid_girder_report_roles), ("girder/report.states", Rows.laid_girder_report_states)]
/-- The table of powers, out of the row's condition. -/
theorem tab_of {W : World} (h : laidMetH Tryd.prog lst W) : Tab10 W := by
  rw [MakeChecks.laidMetH_plain _ _ _ (by kernel_rfl)] at h
  have h1 := laidMet.filter (fun x => x.1 == "internal/strconv.uint64pow10") h
  exact Lib.tabIs_of_head (g := 2) (t := 91) (e := 22) (n := 20) (rest := []) (by kernel_rfl) (by kernel_rfl) Tryd.underlying91 Tryd.underlying22 (by kernel_rfl) (by kernel_rfl) h1
end
section
/- How a slice of the law's ports is opened. -/
open Go.ChangeShapes Go.WideShapes Go.ChangeAt Go.RowKit
set_option maxRecDepth 100000
theorem open_lp {H : Type} {enc : TypeId × Value → H} {w : World} {base : Nat} {spare : Nat → Bool} {held : Bool} {a : Option Addr} {len cap : Nat} {d : DataW H} {p : List MemPlace} (h : DataW.Trod enc Tryd.prog w base spare held 23 (.slice a len cap) d p) :
    ∃ l : List Rp, l.length = len ∧ RowsAt w a 3 lpC l ∧ ∀ (k : Nat) (x : Rp), l[k]? = some x → x.cost < 4294967296 := by
  obtain ⟨l, h1, h2, h3, -⟩ := open_rows lpC (fun x : Rp => x.cost < 4294967296) Tryd.underlying23 cellsS44 (by decide) (fun _ => rfl) (fun fuel cs y hcs hf => by
    obtain ⟨x0, x1, x2, e, w0, w1, w2⟩ := cells_s44 (cs := cs.toArray) (fuel := fuel) (x := y) (by simpa using hcs) (by simpa using hf)
    obtain ⟨n, rfl, hn⟩ := nat_of_u32 w2
    refine ⟨⟨x0, x1, n⟩, ?_, hn⟩
    have := congrArg Array.toList e
    simpa [lpC] using this) h
  exact ⟨l, h1, h2, fun k x hx => h3 x (List.mem_of_getElem? hx)⟩
end
section
/- The words that are laid, out of the row's condition. -/
open Go.ChangeShapes Go.WideShapes Go.ChangeAt Go.RowKit
set_option maxRecDepth 100000
theorem arr_strs {H : Type} {enc : TypeId × Value → H} {P : Program} {w : World} {base : Nat} {spare : Nat → Bool} {held : Bool} {n : Nat} {t e : TypeId} {fuel : Nat} {cs : List Value} {ss : List (List UInt8)} {p : List MemPlace} (ht : P.underlying t = some (.array n e)) (he : P.underlying e = some .string) (hce : P.cellsOf e = 1) (hc : P.cellsOf t = n) (hn : ss.length = n)
    (h : DataW.trod enc P w base spare held fuel t cs = some (.agg (ss.map fun s => .lit (.string s)), p)) : cs = ss.map fun s => .string ⟨s.toArray⟩ := by
  obtain ⟨xs, m, hq, e0, hl, hx, hi⟩ := DataW.trod_array ht h
  have hd : (ss.map fun s => (DataW.lit (.string s) : DataW H)) = xs.map (·.1) := by
    have := congrArg Prod.fst e0
    simpa using this
  apply List.ext_getElem?
  intro i
  by_cases hin : i < n
  · have h1 := hi i hin
    rw [hce, Nat.mul_one] at h1
    have hlen : i < cs.length := by omega
    rw [List.drop_eq_getElem_cons hlen, show List.take 1 (cs[i] :: List.drop (i + 1) cs) = [cs[i]] from rfl, List.getElem?_eq_getElem (by omega)] at h1
    obtain ⟨s, e1, e2, -⟩ := DataW.trod_string he h1
    simp only [List.cons.injEq, and_true] at e1
    have h2 : (xs.map (·.1))[i]? = some (.lit (.string s.data.toList)) := by
      rw [List.getElem?_map, List.getElem?_eq_getElem (by omega), e2]
      rfl
    rw [← hd, List.getElem?_map] at h2
    obtain ⟨s2, h3, h4⟩ := Option.map_eq_some_iff.1 h2
    simp at h4
    rw [List.getElem?_eq_getElem hlen, e1, List.getElem?_map, h3, h4]
    simp
  · rw [List.getElem?_eq_none (by omega), List.getElem?_eq_none (by simp; omega)]
theorem strs_of_head {W : World} {name : String} {ss : List (List UInt8)} {rest : List (String × DataW Unit)} {g : Nat} {t e : TypeId} {n : Nat}
    (hg : Tryd.prog.globalNamed name = some g) (hty : (Tryd.prog.globals[g]?).map (·.type) = some t) (ht : Tryd.prog.underlying t = some (.array n e)) (he : Tryd.prog.underlying e = some .string) (hce : Tryd.prog.cellsOf e = 1) (hct : Tryd.prog.cellsOf t = n) (hn : ss.length = n)
    (h : laidMet Tryd.prog ((name, .agg (ss.map fun s => .lit (.string s))) :: rest) W) : W.var? Tryd.prog name = some (ss.map fun s => Value.string ⟨s.toArray⟩).toArray := by
  obtain ⟨ps, ⟨g', t', cs, fuel, p, q, hg', ht', hvar, hd, _, _⟩, _⟩ := h
  obtain rfl := Option.some.inj (hg.symm.trans hg')
  obtain rfl := Option.some.inj (hty.symm.trans ht')
  rw [hvar, ← arr_strs ht he hce hct hn hd]
theorem ld_of {W : World} (h : laidMetH Tryd.prog lst W) : Ld W := by
  have ht := tab_of h
  rw [MakeChecks.laidMetH_plain _ _ _ (by kernel_rfl)] at h
  have h1 := laidMet.filter (fun x => x.1 == "girder/report.roles") h
  have h2 := laidMet.filter (fun x => x.1 == "girder/report.states") h
  exact ⟨ht, strs_of_head (g := 0) (t := 52) (e := 9) (n := 5) (rest := []) (ss := [[100, 105, 115, 97, 98, 108, 101, 100], [97, 108, 116, 101, 114, 110, 97, 116, 101], [98, 97, 99, 107, 117, 112], [114, 111, 111, 116], [100, 101, 115, 105, 103, 110, 97, 116, 101, 100]]) (by kernel_rfl) (by kernel_rfl) Tryd.underlying52 Tryd.underlying9 (by kernel_rfl) (by kernel_rfl) rfl h1,
    strs_of_head (g := 1) (t := 53) (e := 9) (n := 3) (rest := []) (ss := [[100, 105, 115, 99, 97, 114, 100, 105, 110, 103], [108, 101, 97, 114, 110, 105, 110, 103], [102, 111, 114, 119, 97, 114, 100, 105, 110, 103]]) (by kernel_rfl) (by kernel_rfl) Tryd.underlying53 Tryd.underlying9 (by kernel_rfl) (by kernel_rfl) rfl h2⟩
end
section
/- From the law as a function of owned things to its call. -/
open Go.RowKit
open Ev
set_option maxRecDepth 100000
/-- A list that came in. -/
def Ev.bdY {α : Type} (B size : Nat) (enc : α → List Value) (a : Option Addr) (l : List α) : Bd :=
  ⟨fun W => RowsAt W a size enc l ∧ (l ≠ [] → ∀ x, a = some x → x.block < B), fun _ => False, B, fun _ h => h.elim, fun h hm _ hG => ⟨by
    by_cases e : l = []
    · exact .inl e
    · exact rows_mv h.1 (h.2 e) hm hG, h.2⟩⟩
theorem Ev.reads_y {α : Type} (B : Nat) (a : Option Addr) (size : Nat) (enc : α → List Value) (l : List α) : Reads (bdY B size enc a l) a size enc l := fun W h => h.1
theorem Ev.bdY_at {α : Type} {w : World} {size : Nat} {enc : α → List Value} {a : Option Addr} {l : List α} (h : RowsAt w a size enc l) : (bdY w.heap.size size enc a l).p w := ⟨h, fun hl x hx => by
  rcases h with rfl | ⟨b, off, rfl, hlt, -⟩
  · exact absurd rfl hl
  · injection hx with hx
    rw [← hx]
    exact hlt⟩
theorem Ld.lt {w : World} (h : Ld w) : 3 ≤ w.heap.size := by
  have h1 := h.tab
  have hg : Tryd.prog.globalNamed "internal/strconv.uint64pow10" = some 2 := by kernel_rfl
  unfold Tab10 Lib.TabIs World.var? at h1
  rw [hg] at h1
  simp only [Option.bind_some] at h1
  rcases Nat.lt_or_ge 2 w.heap.size with h' | h'
  · exact h'
  · rw [Array.getElem?_eq_none h'] at h1; cases h1
theorem law_calls (id n m : Nat) (a : Option Addr) (c : Nat → Nat) (l : List Rp) (w : World) (hw : Ld w) (hr : RowsAt w a 3 lpC l)
    (h : ∀ X, Reads X a 3 lpC l → Fun Tryd.prog 3 [.int .u64 (id : Nat), .slice a n m, cV c] [bdL, X] Unit (fun _ => .bool true) (fun _ => [bdL, X])) :
    Calls Tryd.prog 3 #[.int .u64 (id : Nat), .slice a n m, cV c] w fun e w' => e = .returned (.bool true) ∧ Below w.heap.size w w' := by
  have h := h (bdY w.heap.size 3 lpC a l) (reads_y _ _ _ _ _)
  have h0 := hw.lt
  have K : Kf w (fun _ => none) ((sepL [bdL, bdY w.heap.size 3 lpC a l]).sep Bd.nil) w :=
    ⟨fun _ _ h => by (cases h), Below.refl _ _, fun _ _ h => by (cases h), fun _ _ _ _ h => by (cases h), ⟨⟨hw, ⟨bdY_at hr, trivial, fun _ h => h.elim⟩, fun _ h => h.elim⟩, trivial, fun _ _ h => h⟩, fun _ _ h => by (cases h), fun k h => by
      rcases h with (h | h | h) | h <;> exact h.elim, by
      show max (max 3 (max w.heap.size 0)) 0 ≤ w.heap.size
      omega⟩
  exact (h w (fun _ => none) Bd.nil w K).mono fun e w' ⟨_, e1, k⟩ => ⟨e1, k.below⟩
end
end Go.Proofs.YtccbdmccfbjmeaaDoor
section
/- The claim frame of ReportBridge, over its law (given as a hypothesis here). -/
namespace Go.Proofs.YtccbdmccfbjmeaaDoor.reportBridgeLaw
open Go.ChangeShapes Go.WideShapes Go.ChangeAt Go.RowKit Ev

abbrev LF : Prop := ∀ (id n m : Nat) (a : Option Addr) (c : Nat → Nat) (l : List Rp) (X : Bd), id < 18446744073709551616 → okC c → Reads X a 3 lpC l → l.length = n → (∀ (k : Nat) (x : Rp), l[k]? = some x → x.cost < 4294967296) →
    Fun Tryd.prog 3 [.int .u64 (id : Nat), .slice a n m, cV c] [bdL, X] Unit (fun _ => .bool true) (fun _ => [bdL, X])
set_option maxRecDepth 100000 in
theorem lifted (lf : LF) (os : Os) (started : os.Started) (H : Type) (enc : TypeId × Value → H) :
    ReturnsInHanded {} Tryd.checked os 3 .any (fun w args => (Rows.reportBridgeSpec.pre enc Tryd.prog Tryd.f3 Rows.reportBridgeRow.domain false w args ∧ laidMetH Tryd.prog lst w) ∧ sizedMet enc Tryd.prog Tryd.f3 (OpenSpec.ofChange Rows.reportBridgeSpec) false w args)
      (Rows.reportBridgeSpec.post enc Tryd.prog Tryd.f3 false true false false) := by
  refine returnsInHanded_of_change_and (C := Tryd.checked) (X := fun w _ => laidMetH Tryd.prog lst w) (fun _ _ _ hh h => h.of_heap hh) own started (by kernel_rfl) Tryd.func3
    (ChangeSpec.witness_shaped (enc := enc) (C := Tryd.checked) (os := os) (X := fun w _ => laidMetH Tryd.prog lst w) false (World.laidAll Tryd.prog os lst) #[.int .u64 0, .slice none 0 0, .agg #[.int .u32 0, .int .u32 0, .int .u32 0, .int .u32 0, .int .u32 0, .int .u32 0, .int .u32 0, .int .u32 0, .int .u32 0, .int .u32 0, .int .u32 0, .int .u32 0, .int .u32 0, .int .u32 0]] 8 (World.laidAll_os _ _ _)
      (World.shaped_of_ZipB (by kernel_rfl) (by kernel_rfl)) (by kernel_rfl) (by kernel_rfl) (by kernel_rfl)
      (by rw [MakeChecks.laidMetH_plain _ _ _ (by kernel_rfl)]; exact laidMet_laidAll _ (by kernel_rfl) (by kernel_rfl))) ?_
  intro W base args ds gs before hval0 hW hcnd _ hL _
  have hval : ∀ (j : Nat) t v, Tryd.f3.params[j]? = some t → args[j]? = some v → Value.okWide Tryd.prog W .any base t v := hval0
  have hT : Ld W := ld_of hL
  have hW' := hW
  obtain ⟨p, q, hA0, hV, rfl, hfz, hnd⟩ := hW
  have hA : DataW.TrodAll enc Tryd.prog W 0 (fun _ => true) true Tryd.f3.params.toList args.toList ds p := hA0
  rw [Tryd.params3] at hA hval
  obtain ⟨v0, vs0, d0, ds0, p0, q0, hargs, rfl, rfl, h0, r0⟩ := trodAll_cons hA
  obtain ⟨v1, vs1, d1, ds1, p1, q1, rfl, rfl, rfl, h1, r1⟩ := trodAll_cons r0
  obtain ⟨v2, vs2, d2, ds2, p2, q2, rfl, rfl, rfl, h2, r2⟩ := trodAll_cons r1
  obtain ⟨rfl, rfl, rfl⟩ := trodAll_nil r2
  obtain rfl : args = #[v0, v1, v2] := by cases args; simp_all
  obtain ⟨rfl, rfl⟩ := trodVars_none hV
  have k0 := h0
  have lt0 : ∀ x ∈ p0, x.block < W.heap.size := by obtain ⟨m, hm⟩ := k0; exact DataW.trod_lt m _ _ _ hm
  have k1 := h1
  have lt1 : ∀ x ∈ p1, x.block < W.heap.size := by obtain ⟨m, hm⟩ := k1; exact DataW.trod_lt m _ _ _ hm
  have k2 := h2
  have lt2 : ∀ x ∈ p2, x.block < W.heap.size := by obtain ⟨m, hm⟩ := k2; exact DataW.trod_lt m _ _ _ hm
  obtain ⟨i0, rfl, -, -, wf0⟩ := open_int Tryd.underlying22 (hval 0 22 v0 rfl rfl) h0
  obtain ⟨id, rfl, hid⟩ := nat_of_u64 wf0
  obtain ⟨a, len, cap, rfl⟩ := okWide_slice Tryd.underlying23 (hval 1 23 v1 rfl rfl)
  obtain ⟨l, hl, hr, hc⟩ := open_lp h1
  obtain ⟨c, hok, rfl⟩ := open_c (hval 2 25 v2 rfl rfl) h2
  clear hA0 hval0
  refine (law_calls id len cap a c l W hT hr (fun X hX => lf id len cap a c l X hid hok hX hl hc)).mono fun e W' ⟨he, bel⟩ => ?_
  subst he
  exact ⟨_, rfl, _, _, _, [], _, [], hW', trodAll_mk1 (shut_bool Tryd.underlying4 _), (trodAll_cons_mk (Below.trod laidOut (by kernel_rfl) (of_decide_eq_true (by kernel_rfl)) k0 bel lt0) (trodAll_cons_mk (Below.trod laidOut (by kernel_rfl) (of_decide_eq_true (by kernel_rfl)) k1 bel lt1) (trodAll_cons_mk (Below.trod laidOut (by kernel_rfl) (of_decide_eq_true (by kernel_rfl)) k2 bel lt2) trodAll_mk0))), rfl, bel.frame _, fun h => by cases h⟩

theorem over (lf : LF) : Rows.ReportBridgeSaid :=
  OpenClaim.holds_of_wide 3 Tryd.f3 rfl rfl rfl rfl rfl rfl rfl ⟨rfl, rfl, rfl, rfl, rfl⟩ rfl rfl rfl rfl rfl (by kernel_rfl) Tryd.func3 (by kernel_rfl)
    (of_decide_eq_true (by kernel_rfl)) (by unfold Func.isWrapper; first | (rw [if_pos (by decide +kernel)]; kernel_rfl) | (rw [if_neg (by decide +kernel)]; exact ⟨rfl, rfl⟩))
    (fun os started H enc _ => lifted lf os started H enc)

theorem card (lf : LF) : Rows.ReportBridgeCardSaid :=
  Claim7.holds_tied_plain_at .later [] [.data, .data, .data, .data, .data] true (true, "d39c918dd93aa72728bd3db29added3632ccb1fafffd09e07e399aee610741f0") false (over lf) (fun _ h => by cases h) (by kernel_rfl) (fun _ h => by cases h) reportBridge_row_tie rfl ⟨rfl, rfl⟩ (by kernel_rfl) rfl
    (fun f fn hf hfn => by
      obtain rfl : f = 3 := Option.some.inj ((show Tryd.prog.funcNamed "girder/girderlaw29.ReportBridge" = some 3 by kernel_rfl).symm.trans hf) |>.symm
      obtain rfl : fn = Tryd.f3 := (Option.some.inj (Tryd.func3.symm.trans hfn)).symm
      exact ⟨by kernel_rfl, fun j t ht => by
        rw [Tryd.params3] at ht
        have hm : t ∈ [22, 23, 25] := by have := Array.mem_of_getElem? ht; simpa using this
        have hall : ([22, 23, 25].all fun u => !Tryd.prog.wantsStandIn u) = true := by kernel_rfl
        exact (show Tryd.prog.wantsStandIn t = false by simpa using List.all_eq_true.1 hall t hm)⟩)
    (by kernel_rfl)
end Go.Proofs.YtccbdmccfbjmeaaDoor.reportBridgeLaw
end
