/- What the last step of every statement of this seat needs: how arguments are opened. Literals of unsigned numbers, as natural numbers. How arguments are opened that are arrays of integers, or frames. How structs that came in are opened. egress.Form: a frame as a port of a VLAN sends it. EgressForm's walk. EgressForm's walk, over arguments as they come. -/
import Derived.Test.YtpjfpcebjneblaaRows
import Derived.WalkKit
import Derived.ProofKit
import Derived.OpenShut
import Derived.ShutString
import Derived.ChangeOld
import Derived.Below
import Derived.Laws.IdiomArrays
import Derived.Lib.SmallJoins
import Derived.Test.YtpjfpcebjneblaaSpAll
import Derived.Test.YtpjfpcebjneblaaEnc2
section
namespace Go.Proofs.Ytpjfpcebjneblaa
open Go.ChangeShapes Go.WideShapes Go.ChangeAt Go.RowKit

theorem own : ownKnob Try.prog.godebug = none := by kernel_rfl
theorem laidOut : laidOutB Try.prog = true := by kernel_rfl

/-- A slice of integers that came in: it is nil; or it leads to a row of 'cap' cells, the numbers 'zs', the first 'len' of which are its elements. -/
def IsRow (k : IntKind) (w : World) (a : Option Addr) (len cap : Nat) (zs : List Int) : Prop :=
  (a = none ∧ len = 0 ∧ cap = 0 ∧ zs = []) ∨
  ∃ x, a = some x ∧ len ≤ cap ∧ cap ≤ maxLen ∧ zs.length = cap ∧ (∀ i, i < zs.length → w.cell? (x.add i) = some (.int k (zs.getD i 0))) ∧ ∀ n ∈ zs, (Lit.int k n).wf = true

/-- An array of three integers that came in. -/
theorem open_arr3 {H : Type} {enc : TypeId × Value → H} {P : Program} {w : World} {t e : TypeId} {k : IntKind} {v : Value} {d : DataW H} {p : List MemPlace} {b0 : Nat} {r : Reach} {base : Nat} {spare : Nat → Bool} {held : Bool}
    (ht : P.underlying t = some (.array 3 e)) (he : P.underlying e = some (.int k)) (hc : P.cellsOf t = 3) (hce : P.cellsOf e = 1)
    (hv : Value.okWide P w r b0 t v) (h : DataW.Trod enc P w base spare held t v d p) :
    ∃ (b c f : Int) (_ : True), v = .agg #[.int k b, .int k c, .int k f] ∧ (Lit.int k b).wf = true ∧ (Lit.int k c).wf = true ∧ (Lit.int k f).wf = true := by
  unfold Value.okWide at hv
  rw [ht] at hv
  obtain ⟨cs, rfl, hsz, _⟩ := hv
  obtain ⟨c0, c1, c2, rfl⟩ := Joins.array3 (hsz.trans hc)
  obtain ⟨fuel, hf⟩ := h
  obtain ⟨y0, y1, y2, n, _, h0, h1, h2⟩ := trod_array3 ht hce hf
  obtain ⟨a0, e0, _, w0⟩ := DataW.trod_int he h0
  obtain ⟨a1, e1, _, w1⟩ := DataW.trod_int he h1
  obtain ⟨a2, e2, _, w2⟩ := DataW.trod_int he h2
  simp at e0 e1 e2
  subst e0 e1 e2
  exact ⟨a0, a1, a2, trivial, rfl, w0, w1, w2⟩
end Go.Proofs.Ytpjfpcebjneblaa
end
section
namespace Go.Proofs.Ytpjfpcebjneblaa
open Go.RowKit

theorem nat_of_u8 {a : Int} (h : (Lit.int .u8 a).wf = true) : ∃ n : Nat, a = (n : Int) ∧ n < 256 := by
  have hb := bounds_u8 h
  obtain ⟨n, rfl⟩ := Int.eq_ofNat_of_zero_le hb.1
  exact ⟨n, rfl, by omega⟩
theorem nat_of_u16 {a : Int} (h : (Lit.int .u16 a).wf = true) : ∃ n : Nat, a = (n : Int) ∧ n < 65536 := by
  have hb := bounds_u16 h
  obtain ⟨n, rfl⟩ := Int.eq_ofNat_of_zero_le hb.1
  exact ⟨n, rfl, by omega⟩
theorem nat_of_u32 {a : Int} (h : (Lit.int .u32 a).wf = true) : ∃ n : Nat, a = (n : Int) ∧ n < 4294967296 := by
  have hb := bounds_u32 h
  obtain ⟨n, rfl⟩ := Int.eq_ofNat_of_zero_le hb.1
  exact ⟨n, rfl, by omega⟩
theorem nat_of_u64 {a : Int} (h : (Lit.int .u64 a).wf = true) : ∃ n : Nat, a = (n : Int) ∧ n < 18446744073709551616 := by
  have hb := bounds_u64 h
  obtain ⟨n, rfl⟩ := Int.eq_ofNat_of_zero_le hb.1
  exact ⟨n, rfl, by omega⟩
end Go.Proofs.Ytpjfpcebjneblaa
end
section
namespace Go.Proofs.Ytpjfpcebjneblaa
open Go.ChangeShapes Go.WideShapes Go.ChangeAt Go.RowKit

section
variable {H : Type} {enc : TypeId × Value → H} {P : Program} {w : World} {base : Nat} {spare : Nat → Bool} {held : Bool}

/-- The elements of an array of integers that is read. -/
theorem arr_ints {n : Nat} {t e : TypeId} {k : IntKind} {fuel : Nat} {cs : List Value} {x : DataW H × List MemPlace} (ht : P.underlying t = some (.array n e)) (he : P.underlying e = some (.int k)) (hce : P.cellsOf e = 1) (hc : P.cellsOf t = n)
    (h : DataW.trod enc P w base spare held fuel t cs = some x) : cs.length = n ∧ ∀ i, i < n → ∃ a, cs[i]? = some (.int k a) ∧ (Lit.int k a).wf = true := by
  obtain ⟨xs, m, _, _, hl, hx, hi⟩ := DataW.trod_array ht h
  refine ⟨hl.trans hc, fun i hin => ?_⟩
  have h1 := hi i hin
  rw [hce, Nat.mul_one] at h1
  have hlen : i < cs.length := by omega
  rw [List.drop_eq_getElem_cons hlen, show List.take 1 (cs[i] :: List.drop (i + 1) cs) = [cs[i]] from rfl, List.getElem?_eq_getElem (by omega)] at h1
  obtain ⟨a, e1, _, w1⟩ := DataW.trod_int he h1
  simp only [List.cons.injEq, and_true] at e1
  exact ⟨a, by rw [List.getElem?_eq_getElem hlen, e1], w1⟩

theorem open_arr6 {t e : TypeId} {k : IntKind} {v : Value} {d : DataW H} {p : List MemPlace} {b0 : Nat} {r : Reach}
    (ht : P.underlying t = some (.array 6 e)) (he : P.underlying e = some (.int k)) (hc : P.cellsOf t = 6) (hce : P.cellsOf e = 1)
    (hv : Value.okWide P w r b0 t v) (h : DataW.Trod enc P w base spare held t v d p) :
    ∃ (a0 a1 a2 a3 a4 a5 : Int), v = .agg #[.int k a0, .int k a1, .int k a2, .int k a3, .int k a4, .int k a5] ∧ (Lit.int k a0).wf = true ∧ (Lit.int k a1).wf = true ∧ (Lit.int k a2).wf = true ∧ (Lit.int k a3).wf = true ∧ (Lit.int k a4).wf = true ∧ (Lit.int k a5).wf = true := by
  unfold Value.okWide at hv
  rw [ht] at hv
  obtain ⟨cs, rfl, hsz, _⟩ := hv
  obtain ⟨l⟩ := cs
  obtain ⟨fuel, hf⟩ := h
  obtain ⟨_, hi⟩ := arr_ints ht he hce hc hf
  match l, hsz.trans hc with
  | [c0, c1, c2, c3, c4, c5], _ =>
    obtain ⟨a0, e0, w0⟩ := hi 0 (by omega)
    obtain ⟨a1, e1, w1⟩ := hi 1 (by omega)
    obtain ⟨a2, e2, w2⟩ := hi 2 (by omega)
    obtain ⟨a3, e3, w3⟩ := hi 3 (by omega)
    obtain ⟨a4, e4, w4⟩ := hi 4 (by omega)
    obtain ⟨a5, e5, w5⟩ := hi 5 (by omega)
    simp [Value.cells] at e0 e1 e2 e3 e4 e5
    subst e0 e1 e2 e3 e4 e5
    exact ⟨a0, a1, a2, a3, a4, a5, rfl, w0, w1, w2, w3, w4, w5⟩

theorem open_arr2 {t e : TypeId} {k : IntKind} {v : Value} {d : DataW H} {p : List MemPlace} {b0 : Nat} {r : Reach}
    (ht : P.underlying t = some (.array 2 e)) (he : P.underlying e = some (.int k)) (hc : P.cellsOf t = 2) (hce : P.cellsOf e = 1)
    (hv : Value.okWide P w r b0 t v) (h : DataW.Trod enc P w base spare held t v d p) :
    ∃ (a0 a1 : Int), v = .agg #[.int k a0, .int k a1] ∧ (Lit.int k a0).wf = true ∧ (Lit.int k a1).wf = true := by
  unfold Value.okWide at hv
  rw [ht] at hv
  obtain ⟨cs, rfl, hsz, _⟩ := hv
  obtain ⟨l⟩ := cs
  obtain ⟨fuel, hf⟩ := h
  obtain ⟨_, hi⟩ := arr_ints ht he hce hc hf
  match l, hsz.trans hc with
  | [c0, c1], _ =>
    obtain ⟨a0, e0, w0⟩ := hi 0 (by omega)
    obtain ⟨a1, e1, w1⟩ := hi 1 (by omega)
    simp [Value.cells] at e0 e1
    subst e0 e1
    exact ⟨a0, a1, rfl, w0, w1⟩

end
end Go.Proofs.Ytpjfpcebjneblaa
end
section
namespace Go.Proofs.Ytpjfpcebjneblaa
open Go.ChangeShapes Go.WideShapes Go.ChangeAt Go.RowKit
set_option linter.unusedVariables false
set_option linter.unusedSimpArgs false

theorem cellsS4 : Try.prog.cellsOf 4 = 1 := by kernel_rfl
theorem cellsS5 : Try.prog.cellsOf 5 = 1 := by kernel_rfl
theorem cellsS22 : Try.prog.cellsOf 22 = 1 := by kernel_rfl
theorem cellsS76 : Try.prog.cellsOf 76 = 9 := by kernel_rfl

section
variable {H : Type} {enc : TypeId × Value → H} {w : World} {base : Nat} {spare : Nat → Bool} {held : Bool}

set_option maxRecDepth 100000 in
theorem cells_s76 {cs : Array Value} {fuel : Nat} {x : DataW H × List MemPlace} (hsz : cs.toList.length = 9) (hf : DataW.trod enc Try.prog w base spare held fuel 76 cs.toList = some x) :
    ∃ (x0 : Bool) (x1 : Int) (x2 : Bool) (x3 : Int) (x4 : Int) (x5 : Int) (x6 : Int) (x7 : Int) (x8 : Int), cs = #[.bool x0, .int .u8 x1, .bool x2, .int .u16 x3, .int .u16 x4, .int .u16 x5, .int .u16 x6, .int .u16 x7, .int .u16 x8] ∧ (Lit.int .u8 x1).wf = true ∧ (Lit.int .u16 x3).wf = true ∧ (Lit.int .u16 x4).wf = true ∧ (Lit.int .u16 x5).wf = true ∧ (Lit.int .u16 x6).wf = true ∧ (Lit.int .u16 x7).wf = true ∧ (Lit.int .u16 x8).wf = true := by
  obtain ⟨l⟩ := cs
  obtain ⟨xs, n, _, _, _, hlen, hg⟩ := DataW.trod_struct Try.underlying76 hf
  match l, hsz with
  | [c0, c1, c2, c3, c4, c5, c6, c7, c8], _ =>
    match xs, hlen with
    | [z0, z1, z2, z3, z4, z5, z6, z7, z8], _ =>
      have g0 : DataW.trod enc Try.prog w base spare held n 4 (([c0, c1, c2, c3, c4, c5, c6, c7, c8].drop 0).take (Try.prog.cellsOf 4)) = some z0 := hg 0 _ rfl
      have g1 : DataW.trod enc Try.prog w base spare held n 5 (([c0, c1, c2, c3, c4, c5, c6, c7, c8].drop 1).take (Try.prog.cellsOf 5)) = some z1 := hg 1 _ rfl
      have g2 : DataW.trod enc Try.prog w base spare held n 4 (([c0, c1, c2, c3, c4, c5, c6, c7, c8].drop 2).take (Try.prog.cellsOf 4)) = some z2 := hg 2 _ rfl
      have g3 : DataW.trod enc Try.prog w base spare held n 22 (([c0, c1, c2, c3, c4, c5, c6, c7, c8].drop 3).take (Try.prog.cellsOf 22)) = some z3 := hg 3 _ rfl
      have g4 : DataW.trod enc Try.prog w base spare held n 22 (([c0, c1, c2, c3, c4, c5, c6, c7, c8].drop 4).take (Try.prog.cellsOf 22)) = some z4 := hg 4 _ rfl
      have g5 : DataW.trod enc Try.prog w base spare held n 22 (([c0, c1, c2, c3, c4, c5, c6, c7, c8].drop 5).take (Try.prog.cellsOf 22)) = some z5 := hg 5 _ rfl
      have g6 : DataW.trod enc Try.prog w base spare held n 22 (([c0, c1, c2, c3, c4, c5, c6, c7, c8].drop 6).take (Try.prog.cellsOf 22)) = some z6 := hg 6 _ rfl
      have g7 : DataW.trod enc Try.prog w base spare held n 22 (([c0, c1, c2, c3, c4, c5, c6, c7, c8].drop 7).take (Try.prog.cellsOf 22)) = some z7 := hg 7 _ rfl
      have g8 : DataW.trod enc Try.prog w base spare held n 22 (([c0, c1, c2, c3, c4, c5, c6, c7, c8].drop 8).take (Try.prog.cellsOf 22)) = some z8 := hg 8 _ rfl
      rw [cellsS4] at g0
      rw [cellsS5] at g1
      rw [cellsS4] at g2
      rw [cellsS22] at g3
      rw [cellsS22] at g4
      rw [cellsS22] at g5
      rw [cellsS22] at g6
      rw [cellsS22] at g7
      rw [cellsS22] at g8
      obtain ⟨x0, e0, _⟩ := DataW.trod_bool Try.underlying4 g0
      obtain ⟨x1, e1, _, w1⟩ := DataW.trod_int Try.underlying5 g1
      obtain ⟨x2, e2, _⟩ := DataW.trod_bool Try.underlying4 g2
      obtain ⟨x3, e3, _, w3⟩ := DataW.trod_int Try.underlying22 g3
      obtain ⟨x4, e4, _, w4⟩ := DataW.trod_int Try.underlying22 g4
      obtain ⟨x5, e5, _, w5⟩ := DataW.trod_int Try.underlying22 g5
      obtain ⟨x6, e6, _, w6⟩ := DataW.trod_int Try.underlying22 g6
      obtain ⟨x7, e7, _, w7⟩ := DataW.trod_int Try.underlying22 g7
      obtain ⟨x8, e8, _, w8⟩ := DataW.trod_int Try.underlying22 g8
      simp [Value.cells] at e0 e1 e2 e3 e4 e5 e6 e7 e8
      subst e0 e1 e2 e3 e4 e5 e6 e7 e8
      exact ⟨x0, x1, x2, x3, x4, x5, x6, x7, x8, rfl, w1, w3, w4, w5, w6, w7, w8⟩

set_option maxRecDepth 100000 in
theorem open_s76 {v : Value} {d : DataW H} {p : List MemPlace} {b0 : Nat} {r : Reach} (hv : Value.okWide Try.prog w r b0 76 v) (h : DataW.Trod enc Try.prog w base spare held 76 v d p) :
    ∃ (x0 : Bool) (x1 : Int) (x2 : Bool) (x3 : Int) (x4 : Int) (x5 : Int) (x6 : Int) (x7 : Int) (x8 : Int), v = .agg #[.bool x0, .int .u8 x1, .bool x2, .int .u16 x3, .int .u16 x4, .int .u16 x5, .int .u16 x6, .int .u16 x7, .int .u16 x8] ∧ (Lit.int .u8 x1).wf = true ∧ (Lit.int .u16 x3).wf = true ∧ (Lit.int .u16 x4).wf = true ∧ (Lit.int .u16 x5).wf = true ∧ (Lit.int .u16 x6).wf = true ∧ (Lit.int .u16 x7).wf = true ∧ (Lit.int .u16 x8).wf = true := by
  obtain ⟨cs, rfl, hsz⟩ := okWide_struct Try.underlying76 hv
  obtain ⟨fuel, hf⟩ := h
  obtain ⟨x0, x1, x2, x3, x4, x5, x6, x7, x8, rfl, w1, w3, w4, w5, w6, w7, w8⟩ := cells_s76 (by rw [Array.length_toList]; exact hsz.trans cellsS76) hf
  exact ⟨x0, x1, x2, x3, x4, x5, x6, x7, x8, rfl, w1, w3, w4, w5, w6, w7, w8⟩

end
end Go.Proofs.Ytpjfpcebjneblaa
end
section
namespace Go.Proofs.Ytpjfpcebjneblaa
open Go.RowKit
attribute [local irreducible] wpQuiet
set_option linter.unusedSimpArgs false
set_option linter.unusedVariables false
theorem zero46' (W : World) : (zeroValue 46).run Try.prog W = .ok (.agg nil18) W := by kernel_rfl
theorem nil18_one' : nil18.all (·.oneCell') = true := by simp [Value.oneCell']
theorem built_nil : Try.prog.built 46 [] = some nil18 := by kernel_rfl
/-- What Form answers of a frame: it with another tag, or none. -/
def formR (d s : Nat → Nat) (tg : Bool) (pc : Nat) (de : Bool) (vi ty : Nat) (da : ByteArray) : Array Value := if encE tg pc de vi ty da = 0 then frA d s tg pc de vi ty da else nil18
def formO (tg : Bool) (pc : Nat) (de : Bool) (vi ty : Nat) (da : ByteArray) : Bool := decide (encE tg pc de vi ty da = 0)

set_option maxRecDepth 100000 in
set_option maxHeartbeats 8000000 in
theorem form_true (d s : Nat → Nat) (tg : Bool) (pc : Nat) (de : Bool) (vi ty : Nat) (da : ByteArray) (vid mem unt : Nat) (port : Int) (w : World) (hd : Six d) (hs : Six s) (ht : ty < 65536) (hz : da.size ≤ 1600) (hu : unt < 4294967296) (hh : hasB unt port = true) :
    Calls Try.prog 25 #[.agg (frA d s tg pc de vi ty da), .agg #[.int .u16 (vid : Nat), .int .u32 (mem : Nat), .int .u32 (unt : Nat)], .int .i64 port] w fun e w' => e = .returned (.tuple #[.agg (formR d s false 0 false 0 ty da), .bool (formO false 0 false 0 ty da)]) ∧ Below w.heap.size w w' := by
  obtain ⟨arr, harr⟩ : ∃ arr, arr = frA d s tg pc de vi ty da := ⟨_, rfl⟩
  rw [← harr]
  have HA := Lib.hid harr
  have ONE := Lib.hid (show arr.all (·.oneCell') = true by rw [harr]; exact frA_one _ _ _ _ _ _ _ _)
  clear harr
  have SZ := Lib.hid size52
  have HH := Lib.hid (show ∀ W : World, Calls Try.prog 13 #[.int .u32 (unt : Nat), .int .i64 port] W fun e w' => e = .returned (.bool true) ∧ W = w' from fun W => by rw [← hh]; exact has_any unt port W hu)
  obtain ⟨arr2, harr2⟩ : ∃ arr2, arr2 = frA d s false 0 false 0 ty da := ⟨_, rfl⟩
  have HA2 := Lib.hid harr2
  have SZ2 := Lib.hid (show (Try.prog.info? 46).map (·.size) = some arr2.size by rw [harr2]; exact size52)
  have ONE2 := Lib.hid (show arr2.all (·.oneCell') = true by rw [harr2]; exact frA_one _ _ _ _ _ _ _ _)
  obtain ⟨E, hE⟩ : ∃ E, E = encE false 0 false 0 ty da := ⟨_, rfl⟩
  obtain ⟨S, hS⟩ : ∃ S, S = encS d s false 0 false 0 ty da := ⟨_, rfl⟩
  have HEN := Lib.hid (show ∀ W : World, Calls Try.prog 24 #[.agg arr2] W fun e w' => e = .returned (.tuple #[.string S, .int .i64 E]) ∧ Below W.heap.size W w' from fun W => by rw [harr2, hE, hS]; exact encode_any d s false 0 false 0 ty da W hd hs ht hz)
  have HR := Lib.hid (show formR d s false 0 false 0 ty da = if E = 0 then arr2 else nil18 by rw [harr2, hE]; rfl)
  have HO := Lib.hid (show formO false 0 false 0 ty da = decide (E = 0) by rw [hE]; rfl)
  obtain ⟨R, hR⟩ : ∃ R, R = formR d s false 0 false 0 ty da := ⟨_, rfl⟩
  obtain ⟨O, hO⟩ : ∃ O, O = formO false 0 false 0 ty da := ⟨_, rfl⟩
  rw [← hR] at HR
  rw [← hO] at HO
  rw [← hR, ← hO]
  clear hR hO harr2 hE hS hd hs ht hz hu hh
  obtain ⟨G, hG⟩ : ∃ G, G = w.heap.size := ⟨_, rfl⟩
  obtain ⟨w1, hw1⟩ : ∃ w1, w1 = ((w.alloc (.cells arr 46)).alloc (.cells #[.int .u16 (vid : Nat), .int .u32 (mem : Nat), .int .u32 (unt : Nat)] 37)).alloc (.cells nil18 46) := ⟨_, rfl⟩
  have HB1 := Lib.hid (show Below w.heap.size w w1 by rw [hw1]; exact (((Below.refl w.heap.size w).alloc (Nat.le_refl _) _).alloc (by simp) _).alloc (by simp; omega) _)
  have KF := Lib.hid (show Blk w1 G arr 46 by rw [hw1, hG]; exact ((Blk.new _ _ _).alloc _).alloc _)
  have KV := Lib.hid (show Blk w1 (G + 1) #[.int .u16 (vid : Nat), .int .u32 (mem : Nat), .int .u32 (unt : Nat)] 37 by
    have := (Blk.new (w.alloc (.cells arr 46)) #[.int .u16 (vid : Nat), .int .u32 (mem : Nat), .int .u32 (unt : Nat)] 37).alloc (.cells nil18 46)
    rw [hw1, hG]
    simpa using this)
  have KZ := Lib.hid (show Blk w1 (G + 1 + 1) nil18 46 by
    have := Blk.new ((w.alloc (.cells arr 46)).alloc (.cells #[.int .u16 (vid : Nat), .int .u32 (mem : Nat), .int .u32 (unt : Nat)] 37)) nil18 46
    rw [hw1, hG]
    simpa using this)
  have HW := Lib.hid hw1
  have HG := Lib.hid hG
  clear hw1 hG
  go_enter Try.func25, Try.ntmps25
  go_upto_region 1 with (first
    | (refine wpList_alloc 46 rfl (by rfl) nil18 zero46' ?_))
  rw [← HW.out, ← HG.out]
  have v0 : w1.cell? ⟨G + 1, 0, none⟩ = some (.int .u16 (vid : Nat)) := KV.out.cell 0
  have v2 : w1.cell? ⟨G + 1, 2, none⟩ = some (.int .u32 (unt : Nat)) := KV.out.cell 2
  have d12 : w1.cell? ⟨G, 12, none⟩ = some (.bool tg) := by rw [KF.out.cell, HA.out]; rfl
  have d13 : w1.cell? ⟨G, 13, none⟩ = some (.int .u8 (pc : Nat)) := by rw [KF.out.cell, HA.out]; rfl
  have d14 : w1.cell? ⟨G, 14, none⟩ = some (.bool de) := by rw [KF.out.cell, HA.out]; rfl
  have d15 : w1.cell? ⟨G, 15, none⟩ = some (.int .u16 (vi : Nat)) := by rw [KF.out.cell, HA.out]; rfl
  have f12 := KF.out.free 12
  have f13 := KF.out.free 13
  have f14 := KF.out.free 14
  have f15 := KF.out.free 15
  go_upto_region 4 with (go_at_call 13; refine (HH.out _).mono ?_; rintro e w2 ⟨rfl, rfl⟩)
  obtain ⟨w2, hw2⟩ : ∃ w2, w2 = (((w1.setCell ⟨G, 12, none⟩ (.bool false)).setCell ⟨G, 13, none⟩ (.int .u8 0)).setCell ⟨G, 14, none⟩ (.bool false)).setCell ⟨G, 15, none⟩ (.int .u16 0) := ⟨_, rfl⟩
  have KF2 := Lib.hid (show Blk w2 G arr2 46 by
    have := (((KF.out.set 12 (.bool false)).set 13 (.int .u8 0)).set 14 (.bool false)).set 15 (.int .u16 0)
    rw [hw2]
    rw [HA.out] at this
    rw [HA2.out]
    exact this)
  have KZ2 := Lib.hid (show Blk w2 (G + 1 + 1) nil18 46 by
    rw [hw2]
    exact (((KZ.out.other (show G ≠ G + 1 + 1 by omega) _).other (show G ≠ G + 1 + 1 by omega) _).other (show G ≠ G + 1 + 1 by omega) _).other (show G ≠ G + 1 + 1 by omega) _)
  have HB2 := Lib.hid (show Below w.heap.size w w2 by
    rw [hw2]
    exact (((HB1.out.setCell (by rw [HG.out]; exact Nat.le_refl _) _).setCell (by rw [HG.out]; exact Nat.le_refl _) _).setCell (by rw [HG.out]; exact Nat.le_refl _) _).setCell (by rw [HG.out]; exact Nat.le_refl _) _)
  rw [← hw2]
  clear hw2 v0 v2 d12 d13 d14 d15 f12 f13 f14 f15
  by_cases h0 : E = 0
  · subst h0
    go_wp2_with (first
      | (refine wpList_load_row rfl 46 _ rfl G rfl 46 _ (0, 0) _ KF2.out Try.underlying46 rfl SZ2.out ?_)
      | (go_at_call 24; refine (HEN.out _).mono ?_; rintro e w3 ⟨rfl, hb3⟩
         have KF3 := Lib.hid (KF2.out.below hb3 KF2.out.lt)
         have KZ3 := Lib.hid (KZ2.out.below hb3 KZ2.out.lt)
         have HB3 := Lib.hid (HB2.out.trans (hb3.mono HB2.out.size)))
      | (refine wpList_load_row rfl 46 _ rfl G rfl 46 _ (0, 0) _ KF3.out Try.underlying46 rfl SZ2.out ?_)
      | (refine wpList_store_row rfl 46 _ _ rfl (G + 1 + 1) arr2 rfl rfl 46 nil18 KZ3.out SZ2.out (by rw [HA2.out]; rfl) ONE2.out ?_))
    exact bodyPost_ret (v := .tuple #[.agg arr2, .bool true]) (results_row_tmp Try.results25 _ _ (G + 1 + 1) 46 arr2 _ _ rfl rfl (KZ3.out.row arr2) Try.underlying46 rfl SZ2.out) rfl ⟨by rw [HR.out, HO.out]; simp, below_setRow HB3.out (by rw [HG.out]; omega) arr2⟩
  · have ne : (E != 0) = true := by rw [bne_iff_ne]; exact h0
    have de0 : decide (E = 0) = false := decide_eq_false h0
    go_wp2_with (first
      | (refine wpList_load_row rfl 46 _ rfl G rfl 46 _ (0, 0) _ KF2.out Try.underlying46 rfl SZ2.out ?_)
      | (go_at_call 24; refine (HEN.out _).mono ?_; rintro e w3 ⟨rfl, hb3⟩
         have KZ3 := Lib.hid (KZ2.out.below hb3 KZ2.out.lt)
         have HB3 := Lib.hid (HB2.out.trans (hb3.mono HB2.out.size)))
      | (refine wpList_val (.agg nil18) (by rfl) (run_build_of 46 [] rfl [] nil18 rfl built_nil) ?_)
      | (refine wpList_store_row rfl 46 _ _ rfl (G + 1 + 1) nil18 rfl rfl 46 nil18 KZ3.out SZ.out rfl nil18_one' ?_))
    exact bodyPost_ret (v := .tuple #[.agg nil18, .bool false]) (results_row_tmp Try.results25 _ _ (G + 1 + 1) 46 nil18 _ _ rfl rfl (KZ3.out.row nil18) Try.underlying46 rfl SZ.out) rfl ⟨by rw [HR.out, HO.out, if_neg h0, decide_eq_false h0], below_setRow HB3.out (by rw [HG.out]; omega) nil18⟩

set_option maxRecDepth 100000 in
set_option maxHeartbeats 8000000 in
theorem form_false (d s : Nat → Nat) (tg : Bool) (pc : Nat) (de : Bool) (vi ty : Nat) (da : ByteArray) (vid mem unt : Nat) (port : Int) (w : World) (hd : Six d) (hs : Six s) (ht : ty < 65536) (hz : da.size ≤ 1600) (hu : unt < 4294967296) (hh : hasB unt port = false) :
    Calls Try.prog 25 #[.agg (frA d s tg pc de vi ty da), .agg #[.int .u16 (vid : Nat), .int .u32 (mem : Nat), .int .u32 (unt : Nat)], .int .i64 port] w fun e w' => e = .returned (.tuple #[.agg (formR d s true pc de vid ty da), .bool (formO true pc de vid ty da)]) ∧ Below w.heap.size w w' := by
  obtain ⟨arr, harr⟩ : ∃ arr, arr = frA d s tg pc de vi ty da := ⟨_, rfl⟩
  rw [← harr]
  have HA := Lib.hid harr
  have ONE := Lib.hid (show arr.all (·.oneCell') = true by rw [harr]; exact frA_one _ _ _ _ _ _ _ _)
  clear harr
  have SZ := Lib.hid size52
  have HH := Lib.hid (show ∀ W : World, Calls Try.prog 13 #[.int .u32 (unt : Nat), .int .i64 port] W fun e w' => e = .returned (.bool false) ∧ W = w' from fun W => by rw [← hh]; exact has_any unt port W hu)
  obtain ⟨arr2, harr2⟩ : ∃ arr2, arr2 = frA d s true pc de vid ty da := ⟨_, rfl⟩
  have HA2 := Lib.hid harr2
  have SZ2 := Lib.hid (show (Try.prog.info? 46).map (·.size) = some arr2.size by rw [harr2]; exact size52)
  have ONE2 := Lib.hid (show arr2.all (·.oneCell') = true by rw [harr2]; exact frA_one _ _ _ _ _ _ _ _)
  obtain ⟨E, hE⟩ : ∃ E, E = encE true pc de vid ty da := ⟨_, rfl⟩
  obtain ⟨S, hS⟩ : ∃ S, S = encS d s true pc de vid ty da := ⟨_, rfl⟩
  have HEN := Lib.hid (show ∀ W : World, Calls Try.prog 24 #[.agg arr2] W fun e w' => e = .returned (.tuple #[.string S, .int .i64 E]) ∧ Below W.heap.size W w' from fun W => by rw [harr2, hE, hS]; exact encode_any d s true pc de vid ty da W hd hs ht hz)
  have HR := Lib.hid (show formR d s true pc de vid ty da = if E = 0 then arr2 else nil18 by rw [harr2, hE]; rfl)
  have HO := Lib.hid (show formO true pc de vid ty da = decide (E = 0) by rw [hE]; rfl)
  obtain ⟨R, hR⟩ : ∃ R, R = formR d s true pc de vid ty da := ⟨_, rfl⟩
  obtain ⟨O, hO⟩ : ∃ O, O = formO true pc de vid ty da := ⟨_, rfl⟩
  rw [← hR] at HR
  rw [← hO] at HO
  rw [← hR, ← hO]
  clear hR hO harr2 hE hS hd hs ht hz hu hh
  obtain ⟨G, hG⟩ : ∃ G, G = w.heap.size := ⟨_, rfl⟩
  obtain ⟨w1, hw1⟩ : ∃ w1, w1 = ((w.alloc (.cells arr 46)).alloc (.cells #[.int .u16 (vid : Nat), .int .u32 (mem : Nat), .int .u32 (unt : Nat)] 37)).alloc (.cells nil18 46) := ⟨_, rfl⟩
  have HB1 := Lib.hid (show Below w.heap.size w w1 by rw [hw1]; exact (((Below.refl w.heap.size w).alloc (Nat.le_refl _) _).alloc (by simp) _).alloc (by simp; omega) _)
  have KF := Lib.hid (show Blk w1 G arr 46 by rw [hw1, hG]; exact ((Blk.new _ _ _).alloc _).alloc _)
  have KV := Lib.hid (show Blk w1 (G + 1) #[.int .u16 (vid : Nat), .int .u32 (mem : Nat), .int .u32 (unt : Nat)] 37 by
    have := (Blk.new (w.alloc (.cells arr 46)) #[.int .u16 (vid : Nat), .int .u32 (mem : Nat), .int .u32 (unt : Nat)] 37).alloc (.cells nil18 46)
    rw [hw1, hG]
    simpa using this)
  have KZ := Lib.hid (show Blk w1 (G + 1 + 1) nil18 46 by
    have := Blk.new ((w.alloc (.cells arr 46)).alloc (.cells #[.int .u16 (vid : Nat), .int .u32 (mem : Nat), .int .u32 (unt : Nat)] 37)) nil18 46
    rw [hw1, hG]
    simpa using this)
  have HW := Lib.hid hw1
  have HG := Lib.hid hG
  clear hw1 hG
  go_enter Try.func25, Try.ntmps25
  go_upto_region 1 with (first
    | (refine wpList_alloc 46 rfl (by rfl) nil18 zero46' ?_))
  rw [← HW.out, ← HG.out]
  have v0 : w1.cell? ⟨G + 1, 0, none⟩ = some (.int .u16 (vid : Nat)) := KV.out.cell 0
  have v2 : w1.cell? ⟨G + 1, 2, none⟩ = some (.int .u32 (unt : Nat)) := KV.out.cell 2
  have d12 : w1.cell? ⟨G, 12, none⟩ = some (.bool tg) := by rw [KF.out.cell, HA.out]; rfl
  have d13 : w1.cell? ⟨G, 13, none⟩ = some (.int .u8 (pc : Nat)) := by rw [KF.out.cell, HA.out]; rfl
  have d14 : w1.cell? ⟨G, 14, none⟩ = some (.bool de) := by rw [KF.out.cell, HA.out]; rfl
  have d15 : w1.cell? ⟨G, 15, none⟩ = some (.int .u16 (vi : Nat)) := by rw [KF.out.cell, HA.out]; rfl
  have f12 := KF.out.free 12
  have f13 := KF.out.free 13
  have f14 := KF.out.free 14
  have f15 := KF.out.free 15
  go_upto_region 3 with (go_at_call 13; refine (HH.out _).mono ?_; rintro e w2 ⟨rfl, rfl⟩)
  refine wp_region_inv (I := fun L ac W => ∃ v18 v19 v20 v21 : Value, ac = { tmps := #[.agg arr, .agg #[.int .u16 (vid : Nat), .int .u32 (mem : Nat), .int .u32 (unt : Nat)], .int .i64 port, .pointer (some ⟨G, 0, none⟩), .pointer (some ⟨G + 1, 0, none⟩), undef, .pointer (some ⟨G + 1 + 1, 0, none⟩), .bool false, undef, undef, .pointer (some ⟨G + 1, 2, none⟩), .int .u32 (unt : Nat), .int .i64 port, .bool false, undef, undef, undef, undef, v18, v19, v20, v21, undef, undef, undef, undef, undef, undef, undef, undef, undef], defers := [] } ∧ (L 0 = true → v18 = .pointer (some ⟨G + 1, 0, none⟩)) ∧ (L 1 = true → v19 = .int .u16 (vid : Nat)) ∧ (L 2 = true → v20 = .pointer (some ⟨G, 12, none⟩)) ∧ (L 4 = true → v21 = .pointer (some ⟨G, 15, none⟩)) ∧
    Blk W G (frA d s (if L 3 = true then true else tg) pc de (if L 5 = true then vid else vi) ty da) 46 ∧ Blk W (G + 1) #[.int .u16 (vid : Nat), .int .u32 (mem : Nat), .int .u32 (unt : Nat)] 37 ∧ Blk W (G + 1 + 1) nil18 46 ∧ Below w.heap.size w W) (by kernel_rfl) (by kernel_rfl) ⟨_, _, _, _, rfl, (fun h => Bool.noConfusion h), (fun h => Bool.noConfusion h), (fun h => Bool.noConfusion h), (fun h => Bool.noConfusion h), (by have := KF.out.drew; rw [HA.out] at this; exact this), KV.out.drew, KZ.out.drew, HB1.out.drew⟩ ?_ ?_
  · rintro k hk L ac W ⟨v18, v19, v20, v21, rfl, e18, e19, e20, e21, bF, bV, bZ, hb⟩ hL haft
    match k, hk with
    | 0, _ =>
      exact i_val rfl (.pointer (some ⟨G + 1, 0, none⟩)) W (by rfl) (by go_simp) ⟨_, v19, v20, v21, rfl, (fun _ => rfl), e19, e20, e21, bF, bV, bZ, hb⟩
    | 1, _ =>
      have e := e18 (haft 0 (by decide))
      subst e
      have q := bV.cell 0
      simp only [List.getElem?_toArray, List.getElem?_cons_zero, List.getElem?_cons_succ] at q
      exact i_val rfl (.int .u16 (vid : Nat)) W (by rfl) (by go_simp) ⟨_, _, v20, v21, rfl, e18, (fun _ => rfl), e20, e21, bF, bV, bZ, hb⟩
    | 2, _ =>
      exact i_val rfl (.pointer (some ⟨G, 12, none⟩)) W (by rfl) (by go_simp) ⟨v18, v19, _, v21, rfl, e18, e19, (fun _ => rfl), e21, bF, bV, bZ, hb⟩
    | 3, _ =>
      have e := e20 (haft 2 (by decide))
      subst e
      refine i_wp rfl (by rfl) ?_
      have q := bF.cell 12
      have f := bF.free 12
      simp only [List.getElem?_toArray, List.getElem?_cons_zero, List.getElem?_cons_succ] at q
      go_simp
      refine ⟨v18, v19, .pointer (some ⟨G, 12, none⟩), v21, ⟨rfl, rfl, rfl, rfl⟩, e18, e19, e20, e21, ?_, ?_, ?_, ?_⟩
      · have := bF.set 12 (.bool true)
        exact this
      · exact bV.other (show G ≠ G + 1 by omega) _
      · exact bZ.other (show G ≠ G + 1 + 1 by omega) _
      · exact hb.setCell (by rw [HG.out]; exact Nat.le_refl _) _
    | 4, _ =>
      exact i_val rfl (.pointer (some ⟨G, 15, none⟩)) W (by rfl) (by go_simp) ⟨v18, v19, v20, _, rfl, e18, e19, e20, (fun _ => rfl), bF, bV, bZ, hb⟩
    | 5, _ =>
      have e := e21 (haft 4 (by decide))
      subst e
      have e := e19 (haft 1 (by decide))
      subst e
      refine i_wp rfl (by rfl) ?_
      have q := bF.cell 15
      have f := bF.free 15
      simp only [List.getElem?_toArray, List.getElem?_cons_zero, List.getElem?_cons_succ] at q
      go_simp
      refine ⟨v18, .int .u16 (vid : Nat), v20, .pointer (some ⟨G, 15, none⟩), ⟨rfl, rfl, rfl, rfl⟩, e18, e19, e20, e21, ?_, ?_, ?_, ?_⟩
      · have := bF.set 15 (.int .u16 (vid : Nat))
        rw [show (upd L 5 3 || tg) = (if L 3 = true then true else tg) from by show (L 3 || tg) = _; cases L 3 <;> rfl]
        exact this
      · exact bV.other (show G ≠ G + 1 by omega) _
      · exact bZ.other (show G ≠ G + 1 + 1 by omega) _
      · exact hb.setCell (by rw [HG.out]; exact Nat.le_refl _) _
    | k + 6, h =>
      exfalso
      have h2 : k + 6 < 6 := h
      omega
  rintro L ac w2 ⟨v18, v19, v20, v21, rfl, e18, e19, e20, e21, bF, bV, bZ, hb⟩ hall
  rw [if_pos (hall 3 (by decide)), if_pos (hall 5 (by decide)), ← HA2.out] at bF
  have KF2 := Lib.hid bF
  have KZ2 := Lib.hid bZ
  have HB2 := Lib.hid hb
  clear e18 e19 e20 e21 bF bV bZ hb hall v0 v2 d12 d13 d14 d15 f12 f13 f14 f15
  by_cases h0 : E = 0
  · subst h0
    go_wp2_with (first
      | (refine wpList_load_row rfl 46 _ rfl G rfl 46 _ (0, 0) _ KF2.out Try.underlying46 rfl SZ2.out ?_)
      | (go_at_call 24; refine (HEN.out _).mono ?_; rintro e w3 ⟨rfl, hb3⟩
         have KF3 := Lib.hid (KF2.out.below hb3 KF2.out.lt)
         have KZ3 := Lib.hid (KZ2.out.below hb3 KZ2.out.lt)
         have HB3 := Lib.hid (HB2.out.trans (hb3.mono HB2.out.size)))
      | (refine wpList_load_row rfl 46 _ rfl G rfl 46 _ (0, 0) _ KF3.out Try.underlying46 rfl SZ2.out ?_)
      | (refine wpList_store_row rfl 46 _ _ rfl (G + 1 + 1) arr2 rfl rfl 46 nil18 KZ3.out SZ2.out (by rw [HA2.out]; rfl) ONE2.out ?_))
    exact bodyPost_ret (v := .tuple #[.agg arr2, .bool true]) (results_row_tmp Try.results25 _ _ (G + 1 + 1) 46 arr2 _ _ rfl rfl (KZ3.out.row arr2) Try.underlying46 rfl SZ2.out) rfl ⟨by rw [HR.out, HO.out]; simp, below_setRow HB3.out (by rw [HG.out]; omega) arr2⟩
  · have ne : (E != 0) = true := by rw [bne_iff_ne]; exact h0
    have de0 : decide (E = 0) = false := decide_eq_false h0
    go_wp2_with (first
      | (refine wpList_load_row rfl 46 _ rfl G rfl 46 _ (0, 0) _ KF2.out Try.underlying46 rfl SZ2.out ?_)
      | (go_at_call 24; refine (HEN.out _).mono ?_; rintro e w3 ⟨rfl, hb3⟩
         have KZ3 := Lib.hid (KZ2.out.below hb3 KZ2.out.lt)
         have HB3 := Lib.hid (HB2.out.trans (hb3.mono HB2.out.size)))
      | (refine wpList_val (.agg nil18) (by rfl) (run_build_of 46 [] rfl [] nil18 rfl built_nil) ?_)
      | (refine wpList_store_row rfl 46 _ _ rfl (G + 1 + 1) nil18 rfl rfl 46 nil18 KZ3.out SZ.out rfl nil18_one' ?_))
    exact bodyPost_ret (v := .tuple #[.agg nil18, .bool false]) (results_row_tmp Try.results25 _ _ (G + 1 + 1) 46 nil18 _ _ rfl rfl (KZ3.out.row nil18) Try.underlying46 rfl SZ.out) rfl ⟨by rw [HR.out, HO.out, if_neg h0, decide_eq_false h0], below_setRow HB3.out (by rw [HG.out]; omega) nil18⟩
end Go.Proofs.Ytpjfpcebjneblaa
end
section
namespace Go.Proofs.Ytpjfpcebjneblaa
open Go.RowKit
attribute [local irreducible] wpQuiet
set_option linter.unusedSimpArgs false
set_option linter.unusedVariables false

theorem run_alloc_of {P : Program} {o : Oper} {a : Act} {w : World} (t : TypeId) (ho : o.op = .alloc t) (z : Array Value) (hz : ∀ W : World, (zeroValue t).run P W = .ok (.agg z) W) :
    (execOp a.eval o).run P w = .ok (.value (.pointer (some ⟨w.heap.size, 0, none⟩))) (w.alloc (.cells z t)) := by
  unfold execOp
  simp only [ho, Instr.alloc, Sem.run_bind, hz, Result.andThen_ok, newVar, Sem.run_pure]
  rfl
theorem info5m : (Try.prog.info? 5).map (fun i => (i.zero, i.size, i.bytes)) = some (some (.int .u8 0), 1, 1) := by kernel_rfl
theorem info5 : ∃ i, Try.prog.info? 5 = some i ∧ i.zero = some (.int .u8 0) ∧ i.size = 1 ∧ i.bytes = 1 := by
  have h := info5m
  cases c : Try.prog.info? 5 with
  | none => rw [c] at h; cases h
  | some i =>
    rw [c] at h
    simp only [Option.map_some, Option.some.injEq, Prod.mk.injEq] at h
    exact ⟨i, rfl, h.1, h.2.1, h.2.2⟩
theorem run_make_of {o : Oper} {a : Act} {w : World} (x y : Operand) (ho : o.op = .makeSlice 77 x y) (n : Nat) (hn : n ≤ 1600) (hx : a.eval x = .int .i64 (n : Nat)) (hy : a.eval y = .int .i64 (n : Nat)) :
    (execOp a.eval o).run Try.prog w = .ok (.value (.slice (some ⟨w.heap.size, 0, none⟩) n n)) (w.alloc (.cells (madeCells #[.int .u8 0] n) 5)) := by
  obtain ⟨i, h1, h2, h3, h4⟩ := info5
  unfold execOp
  have := run_makeSlice (P := Try.prog) w 77 5 i (.int .u8 0) Try.underlying77 h1 h2 .i64 .i64 (n : Nat) (n : Nat) (by omega) (by omega) (by rw [h3]; simp; omega) (by rw [h4]; simp; omega) (by omega)
  rw [h3, Int.toNat_natCast, Nat.mul_one] at this
  simp only [ho, hx, hy, Sem.run_bind, this, Result.andThen_ok, Sem.run_pure]
  rfl
theorem made_at (n j : Nat) (h : j < n) : (madeCells #[.int .u8 0] n)[j]? = some (.int .u8 0) := by
  simp [madeCells, h, Nat.mod_one]
/-- So many bytes 00. -/
def zT (n : Nat) : ByteArray := ⟨(List.replicate n (0 : UInt8)).toArray⟩
theorem zT_size (n : Nat) : (zT n).size = n := by simp [zT, ByteArray.size]
theorem run_text_of {o : Oper} {a : Act} {w : World} (x : Operand) (ho : o.op = .convert 77 9 x) (n B : Nat) (hx : a.eval x = .slice (some ⟨B, 0, none⟩) n n) (hk : Blk w B (madeCells #[.int .u8 0] n) 5) :
    (execOp a.eval o).run Try.prog w = .ok (.value (.string (zT n))) w := by
  unfold execOp
  have := run_convert_bytes_back (P := Try.prog) w 77 9 5 ⟨B, 0, none⟩ n (List.replicate n (0 : UInt8)) Try.underlying77 Try.underlying5 Try.underlying9 (by
    intro j hj
    have hj' : j < n := by simpa using hj
    have e : (⟨B, 0, none⟩ : Addr).add j = ⟨B, j, none⟩ := by cases j <;> simp [Addr.add]
    rw [e, hk.cell, made_at n j hj']
    simp)
  rw [List.length_replicate] at this
  simp only [ho, hx, Sem.run_bind, this, Result.andThen_ok, Sem.run_pure]
  rfl
abbrev z0 : Nat → Nat := fun _ => 0
theorem six0 : Six z0 := by unfold Six; decide
theorem built_fr (x0 : Bool) (x1 : Nat) (x2 : Bool) (x3 x4 : Nat) (t : ByteArray) : Try.prog.built 46 [(2, .bool x0), (3, .int .u8 (x1 : Nat)), (4, .bool x2), (5, .int .u16 (x3 : Nat)), (6, .int .u16 (x4 : Nat)), (7, .string t)] = some (frA z0 z0 x0 x1 x2 x3 x4 t) := by kernel_rfl
theorem built_two (x4 : Nat) (t : ByteArray) : Try.prog.built 46 [(6, .int .u16 (x4 : Nat)), (7, .string t)] = some (frA z0 z0 false 0 false 0 x4 t) := by kernel_rfl

structure Fm3S (g : Nat) (x0 : Bool) (x1 : Nat) (x2 : Bool) (x3 x4 x5 x6 x7 x8 : Nat) (port : Int) (n : Nat) (arr : Array Value) (L : Nat → Bool) (v14 v15 v16 v17 v18 v19 v20 v21 v22 v23 v24 v25 v26 v27 v28 v29 v30 v5 : Value) (B f : Nat) : Prop where
  e14 : L 0 = true → v14 = .pointer (some ⟨g, 0, none⟩)
  e15 : L 1 = true → v15 = .bool x0
  e16 : L 2 = true → v16 = .pointer (some ⟨g, 1, none⟩)
  e17 : L 3 = true → v17 = .int .u8 (x1 : Nat)
  e18 : L 4 = true → v18 = .pointer (some ⟨g, 2, none⟩)
  e19 : L 5 = true → v19 = .bool x2
  e20 : L 6 = true → v20 = .pointer (some ⟨g, 3, none⟩)
  e21 : L 7 = true → v21 = .int .u16 (x3 : Nat)
  e22 : L 8 = true → v22 = .pointer (some ⟨g, 4, none⟩)
  e23 : L 9 = true → v23 = .int .u16 (x4 : Nat)
  e24 : L 10 = true → v24 = .pointer (some ⟨g, 5, none⟩)
  e25 : L 11 = true → v25 = .int .u16 (x5 : Nat)
  e26 : L 12 = true → v26 = .int .i64 (x5 : Nat)
  e27 : L 13 = true → v27 = .int .i64 (n : Nat)
  e28 : L 14 = true → v28 = .slice (some ⟨B, 0, none⟩) n n
  e29 : L 15 = true → v29 = .string (zT n)
  e30 : L 16 = true → v30 = .agg arr
  e5 : L 17 = true → v5 = .pointer (some ⟨f, 0, none⟩)
structure Fm3W (g : Nat) (x0 : Bool) (x1 : Nat) (x2 : Bool) (x3 x4 x5 x6 x7 x8 : Nat) (port : Int) (n : Nat) (arr : Array Value) (w : World) (L : Nat → Bool) (B f : Nat) (W : World) : Prop where
  kx : Blk W g #[.bool x0, .int .u8 (x1 : Nat), .bool x2, .int .u16 (x3 : Nat), .int .u16 (x4 : Nat), .int .u16 (x5 : Nat), .int .u16 (x6 : Nat), .int .u16 (x7 : Nat), .int .u16 (x8 : Nat)] 76
  hb : Below w.heap.size w W
  m : L 14 = true → Blk W B (madeCells #[.int .u8 0] n) 5
  f1 : L 17 = true → Blk W f (if L 18 = true then arr else nil18) 46 ∧ w.heap.size ≤ f ∧ g < f
  ne : L 14 = true → L 17 = true → B ≠ f
  o18 : L 18 = true → L 17 = true

set_option maxRecDepth 100000 in
set_option maxHeartbeats 8000000 in
theorem fm_walk (x0 : Bool) (x1 : Nat) (x2 : Bool) (x3 x4 x5 x6 x7 x8 : Nat) (port : Int) (hx1 : x1 < 256) (hx3 : x3 < 65536) (hx4 : x4 < 65536) (hx5 : x5 < 65536) (hx6 : x6 < 65536) (hx7 : x7 < 65536) (hx8 : x8 < 65536) (w : World) : Calls Try.prog 6 #[.agg #[.bool x0, .int .u8 (x1 : Nat), .bool x2, .int .u16 (x3 : Nat), .int .u16 (x4 : Nat), .int .u16 (x5 : Nat), .int .u16 (x6 : Nat), .int .u16 (x7 : Nat), .int .u16 (x8 : Nat)], .int .i64 port] w fun e w' => e = .returned (.bool true) ∧ Below w.heap.size w w' := by
  obtain ⟨n, hn⟩ : ∃ n, n = x5 % 1600 := ⟨_, rfl⟩
  have NL := Lib.hid (show n ≤ 1600 by rw [hn]; omega)
  have EW := Lib.hid (show IntKind.i64.wrap (x5 : Int) = (x5 : Int) by simp [IntKind.wrap, IntKind.bits, IntKind.signed]; omega)
  have ET := Lib.hid (show (x5 : Int).tmod 1600 = (n : Int) by rw [Int.tmod_eq_emod_of_nonneg (by omega), hn]; omega)
  obtain ⟨arr, harr⟩ : ∃ arr, arr = frA z0 z0 x0 x1 x2 x3 x4 (zT n) := ⟨_, rfl⟩
  have HA := Lib.hid harr
  have ONE := Lib.hid (show arr.all (·.oneCell') = true by rw [harr]; exact frA_one _ _ _ _ _ _ _ _)
  have SZA := Lib.hid (show (Try.prog.info? 46).map (·.size) = some arr.size by rw [harr]; exact size52)
  have H4 := Lib.hid hx4
  have H6 := Lib.hid hx6
  have H7 := Lib.hid hx7
  have H8 := Lib.hid hx8
  clear harr hn hx1 hx3 hx4 hx5 hx6 hx7 hx8
  obtain ⟨g, hg⟩ : ∃ g, g = w.heap.size := ⟨_, rfl⟩
  obtain ⟨w1, hw1⟩ : ∃ w1, w1 = w.alloc (.cells #[.bool x0, .int .u8 (x1 : Nat), .bool x2, .int .u16 (x3 : Nat), .int .u16 (x4 : Nat), .int .u16 (x5 : Nat), .int .u16 (x6 : Nat), .int .u16 (x7 : Nat), .int .u16 (x8 : Nat)] 76) := ⟨_, rfl⟩
  have hb1 : Below w.heap.size w w1 := by rw [hw1]; exact (Below.refl w.heap.size w).alloc (Nat.le_refl _) _
  have hk1 : Blk w1 g #[.bool x0, .int .u8 (x1 : Nat), .bool x2, .int .u16 (x3 : Nat), .int .u16 (x4 : Nat), .int .u16 (x5 : Nat), .int .u16 (x6 : Nat), .int .u16 (x7 : Nat), .int .u16 (x8 : Nat)] 76 := by rw [hw1, hg]; exact Blk.new _ _ _
  have HW := Lib.hid hw1
  have HG := Lib.hid hg
  have HB1 := Lib.hid hb1
  have K1 := Lib.hid hk1
  clear hg hw1 hb1 hk1
  go_enter Try.func6, Try.ntmps6
  go_upto_region 1 with fail
  rw [← HW.out, ← HG.out]
  go_upto_region 3 with (go_at_call 15; refine (speaks12_any w1).mono ?_; rintro e w2 ⟨rfl, hb2⟩)
  have HB2 := Lib.hid (HB1.out.trans (hb2.mono HB1.out.size))
  have K2 := Lib.hid (K1.out.below hb2 K1.out.lt)
  clear hb2
  refine wp_region_inv (I := fun L ac W => ∃ (v14 v15 v16 v17 v18 v19 v20 v21 v22 v23 v24 v25 v26 v27 v28 v29 v30 v5 : Value) (B f : Nat), ac = { tmps := #[.agg #[.bool x0, .int .u8 (x1 : Nat), .bool x2, .int .u16 (x3 : Nat), .int .u16 (x4 : Nat), .int .u16 (x5 : Nat), .int .u16 (x6 : Nat), .int .u16 (x7 : Nat), .int .u16 (x8 : Nat)], .int .i64 port, .pointer (some ⟨g, 0, none⟩), undef, .bool false, v5, undef, undef, undef, undef, undef, undef, .bool true, .bool false, v14, v15, v16, v17, v18, v19, v20, v21, v22, v23, v24, v25, v26, v27, v28, v29, v30, undef, undef, undef, undef, undef, undef, undef, undef, undef, undef, undef, undef, undef, undef, undef, undef, undef, undef, undef, undef, undef, undef, undef, undef, undef, undef, undef, undef, undef, undef, undef, undef, undef, undef, undef, undef, undef, undef, undef, undef, undef, undef, undef, undef, undef, undef, undef, undef, undef, undef, undef, undef], defers := [] } ∧ Fm3S g x0 x1 x2 x3 x4 x5 x6 x7 x8 port n arr L v14 v15 v16 v17 v18 v19 v20 v21 v22 v23 v24 v25 v26 v27 v28 v29 v30 v5 B f ∧ Fm3W g x0 x1 x2 x3 x4 x5 x6 x7 x8 port n arr w L B f W) (by kernel_rfl) (by kernel_rfl) ⟨undef, undef, undef, undef, undef, undef, undef, undef, undef, undef, undef, undef, undef, undef, undef, undef, undef, undef, 0, 0, rfl, ⟨(fun h => Bool.noConfusion h), (fun h => Bool.noConfusion h), (fun h => Bool.noConfusion h), (fun h => Bool.noConfusion h), (fun h => Bool.noConfusion h), (fun h => Bool.noConfusion h), (fun h => Bool.noConfusion h), (fun h => Bool.noConfusion h), (fun h => Bool.noConfusion h), (fun h => Bool.noConfusion h), (fun h => Bool.noConfusion h), (fun h => Bool.noConfusion h), (fun h => Bool.noConfusion h), (fun h => Bool.noConfusion h), (fun h => Bool.noConfusion h), (fun h => Bool.noConfusion h), (fun h => Bool.noConfusion h), (fun h => Bool.noConfusion h)⟩, ⟨K2.out.drew, HB2.out.drew, (fun h => Bool.noConfusion h), (fun h => Bool.noConfusion h), (fun h => Bool.noConfusion h), (fun h => Bool.noConfusion h)⟩⟩ ?_ ?_
  · rintro k hk L ac W ⟨v14, v15, v16, v17, v18, v19, v20, v21, v22, v23, v24, v25, v26, v27, v28, v29, v30, v5, B, f, rfl, hs, hw⟩ hL haft
    match k, hk with
    | 0, _ =>
      exact i_val rfl (.pointer (some ⟨g, 0, none⟩)) W (by rfl) (by go_simp) ⟨_, v15, v16, v17, v18, v19, v20, v21, v22, v23, v24, v25, v26, v27, v28, v29, v30, v5, B, f, rfl, { hs with e14 := fun _ => rfl }, ⟨hw.kx, hw.hb, hw.m, hw.f1, hw.ne, hw.o18⟩⟩
    | 1, _ =>
      have e14x := hs.e14 (haft 0 (by decide))
      subst e14x
      have q := hw.kx.cell 0
      simp only [List.getElem?_toArray, List.getElem?_cons_zero, List.getElem?_cons_succ] at q
      exact i_val rfl (.bool x0) W (by rfl) (by go_simp) ⟨_, _, v16, v17, v18, v19, v20, v21, v22, v23, v24, v25, v26, v27, v28, v29, v30, v5, B, f, rfl, { hs with e15 := fun _ => rfl }, ⟨hw.kx, hw.hb, hw.m, hw.f1, hw.ne, hw.o18⟩⟩
    | 2, _ =>
      exact i_val rfl (.pointer (some ⟨g, 1, none⟩)) W (by rfl) (by go_simp) ⟨v14, v15, _, v17, v18, v19, v20, v21, v22, v23, v24, v25, v26, v27, v28, v29, v30, v5, B, f, rfl, { hs with e16 := fun _ => rfl }, ⟨hw.kx, hw.hb, hw.m, hw.f1, hw.ne, hw.o18⟩⟩
    | 3, _ =>
      have e16x := hs.e16 (haft 2 (by decide))
      subst e16x
      have q := hw.kx.cell 1
      simp only [List.getElem?_toArray, List.getElem?_cons_zero, List.getElem?_cons_succ] at q
      exact i_val rfl (.int .u8 (x1 : Nat)) W (by rfl) (by go_simp) ⟨v14, v15, _, _, v18, v19, v20, v21, v22, v23, v24, v25, v26, v27, v28, v29, v30, v5, B, f, rfl, { hs with e17 := fun _ => rfl }, ⟨hw.kx, hw.hb, hw.m, hw.f1, hw.ne, hw.o18⟩⟩
    | 4, _ =>
      exact i_val rfl (.pointer (some ⟨g, 2, none⟩)) W (by rfl) (by go_simp) ⟨v14, v15, v16, v17, _, v19, v20, v21, v22, v23, v24, v25, v26, v27, v28, v29, v30, v5, B, f, rfl, { hs with e18 := fun _ => rfl }, ⟨hw.kx, hw.hb, hw.m, hw.f1, hw.ne, hw.o18⟩⟩
    | 5, _ =>
      have e18x := hs.e18 (haft 4 (by decide))
      subst e18x
      have q := hw.kx.cell 2
      simp only [List.getElem?_toArray, List.getElem?_cons_zero, List.getElem?_cons_succ] at q
      exact i_val rfl (.bool x2) W (by rfl) (by go_simp) ⟨v14, v15, v16, v17, _, _, v20, v21, v22, v23, v24, v25, v26, v27, v28, v29, v30, v5, B, f, rfl, { hs with e19 := fun _ => rfl }, ⟨hw.kx, hw.hb, hw.m, hw.f1, hw.ne, hw.o18⟩⟩
    | 6, _ =>
      exact i_val rfl (.pointer (some ⟨g, 3, none⟩)) W (by rfl) (by go_simp) ⟨v14, v15, v16, v17, v18, v19, _, v21, v22, v23, v24, v25, v26, v27, v28, v29, v30, v5, B, f, rfl, { hs with e20 := fun _ => rfl }, ⟨hw.kx, hw.hb, hw.m, hw.f1, hw.ne, hw.o18⟩⟩
    | 7, _ =>
      have e20x := hs.e20 (haft 6 (by decide))
      subst e20x
      have q := hw.kx.cell 3
      simp only [List.getElem?_toArray, List.getElem?_cons_zero, List.getElem?_cons_succ] at q
      exact i_val rfl (.int .u16 (x3 : Nat)) W (by rfl) (by go_simp) ⟨v14, v15, v16, v17, v18, v19, _, _, v22, v23, v24, v25, v26, v27, v28, v29, v30, v5, B, f, rfl, { hs with e21 := fun _ => rfl }, ⟨hw.kx, hw.hb, hw.m, hw.f1, hw.ne, hw.o18⟩⟩
    | 8, _ =>
      exact i_val rfl (.pointer (some ⟨g, 4, none⟩)) W (by rfl) (by go_simp) ⟨v14, v15, v16, v17, v18, v19, v20, v21, _, v23, v24, v25, v26, v27, v28, v29, v30, v5, B, f, rfl, { hs with e22 := fun _ => rfl }, ⟨hw.kx, hw.hb, hw.m, hw.f1, hw.ne, hw.o18⟩⟩
    | 9, _ =>
      have e22x := hs.e22 (haft 8 (by decide))
      subst e22x
      have q := hw.kx.cell 4
      simp only [List.getElem?_toArray, List.getElem?_cons_zero, List.getElem?_cons_succ] at q
      exact i_val rfl (.int .u16 (x4 : Nat)) W (by rfl) (by go_simp) ⟨v14, v15, v16, v17, v18, v19, v20, v21, _, _, v24, v25, v26, v27, v28, v29, v30, v5, B, f, rfl, { hs with e23 := fun _ => rfl }, ⟨hw.kx, hw.hb, hw.m, hw.f1, hw.ne, hw.o18⟩⟩
    | 10, _ =>
      exact i_val rfl (.pointer (some ⟨g, 5, none⟩)) W (by rfl) (by go_simp) ⟨v14, v15, v16, v17, v18, v19, v20, v21, v22, v23, _, v25, v26, v27, v28, v29, v30, v5, B, f, rfl, { hs with e24 := fun _ => rfl }, ⟨hw.kx, hw.hb, hw.m, hw.f1, hw.ne, hw.o18⟩⟩
    | 11, _ =>
      have e24x := hs.e24 (haft 10 (by decide))
      subst e24x
      have q := hw.kx.cell 5
      simp only [List.getElem?_toArray, List.getElem?_cons_zero, List.getElem?_cons_succ] at q
      exact i_val rfl (.int .u16 (x5 : Nat)) W (by rfl) (by go_simp) ⟨v14, v15, v16, v17, v18, v19, v20, v21, v22, v23, _, _, v26, v27, v28, v29, v30, v5, B, f, rfl, { hs with e25 := fun _ => rfl }, ⟨hw.kx, hw.hb, hw.m, hw.f1, hw.ne, hw.o18⟩⟩
    | 12, _ =>
      have e25x := hs.e25 (haft 11 (by decide))
      subst e25x
      exact i_val rfl (.int .i64 (x5 : Nat)) W (by rfl) (by have q := EW.out; go_simp) ⟨v14, v15, v16, v17, v18, v19, v20, v21, v22, v23, v24, _, _, v27, v28, v29, v30, v5, B, f, rfl, { hs with e26 := fun _ => rfl }, ⟨hw.kx, hw.hb, hw.m, hw.f1, hw.ne, hw.o18⟩⟩
    | 13, _ =>
      have e26x := hs.e26 (haft 12 (by decide))
      subst e26x
      exact i_val rfl (.int .i64 (n : Nat)) W (by rfl) (by have q := ET.out; go_simp) ⟨v14, v15, v16, v17, v18, v19, v20, v21, v22, v23, v24, v25, _, _, v28, v29, v30, v5, B, f, rfl, { hs with e27 := fun _ => rfl }, ⟨hw.kx, hw.hb, hw.m, hw.f1, hw.ne, hw.o18⟩⟩
    | 14, _ =>
      have e27x := hs.e27 (haft 13 (by decide))
      subst e27x
      have hA : Below W.heap.size W (W.alloc (.cells (madeCells #[.int .u8 0] n) 5)) := (Below.refl _ _).alloc (Nat.le_refl _) _
      exact i_val rfl (.slice (some ⟨W.heap.size, 0, none⟩) n n) (W.alloc (.cells (madeCells #[.int .u8 0] n) 5)) (by rfl) (run_make_of _ _ rfl n NL.out rfl rfl) ⟨v14, v15, v16, v17, v18, v19, v20, v21, v22, v23, v24, v25, v26, _, _, v29, v30, v5, W.heap.size, f, rfl, { hs with e28 := fun _ => rfl }, ⟨hw.kx.below hA hw.kx.lt, hw.hb.trans (hA.mono hw.hb.size), (fun _ => Blk.new _ _ _), (fun h => ⟨(hw.f1 h).1.below hA (hw.f1 h).1.lt, (hw.f1 h).2⟩), (fun _ h => Nat.ne_of_gt (hw.f1 h).1.lt), hw.o18⟩⟩
    | 15, _ =>
      have e28x := hs.e28 (haft 14 (by decide))
      subst e28x
      exact i_val rfl (.string (zT n)) W (by rfl) (run_text_of _ rfl n B rfl (hw.m (haft 14 (by decide)))) ⟨v14, v15, v16, v17, v18, v19, v20, v21, v22, v23, v24, v25, v26, v27, _, _, v30, v5, B, f, rfl, { hs with e29 := fun _ => rfl }, ⟨hw.kx, hw.hb, hw.m, hw.f1, hw.ne, hw.o18⟩⟩
    | 16, _ =>
      have e15x := hs.e15 (haft 1 (by decide))
      subst e15x
      have e17x := hs.e17 (haft 3 (by decide))
      subst e17x
      have e19x := hs.e19 (haft 5 (by decide))
      subst e19x
      have e21x := hs.e21 (haft 7 (by decide))
      subst e21x
      have e23x := hs.e23 (haft 9 (by decide))
      subst e23x
      have e29x := hs.e29 (haft 15 (by decide))
      subst e29x
      exact i_val rfl (.agg arr) W (by rfl) (run_build_of 46 [(2, .tmp 15), (3, .tmp 17), (4, .tmp 19), (5, .tmp 21), (6, .tmp 23), (7, .tmp 29)] rfl [(2, .bool x0), (3, .int .u8 (x1 : Nat)), (4, .bool x2), (5, .int .u16 (x3 : Nat)), (6, .int .u16 (x4 : Nat)), (7, .string (zT n))] arr rfl (by rw [HA.out]; exact built_fr x0 x1 x2 x3 x4 (zT n))) ⟨v14, _, v16, _, v18, _, v20, _, v22, _, v24, v25, v26, v27, v28, _, _, v5, B, f, rfl, { hs with e30 := fun _ => rfl }, ⟨hw.kx, hw.hb, hw.m, hw.f1, hw.ne, hw.o18⟩⟩
    | 17, _ =>
      have h18 : L 18 = false := by cases c : L 18 with | false => rfl | true => have := hw.o18 c; rw [hL] at this; cases this
      have hA : Below W.heap.size W (W.alloc (.cells nil18 46)) := (Below.refl _ _).alloc (Nat.le_refl _) _
      exact i_val rfl (.pointer (some ⟨W.heap.size, 0, none⟩)) (W.alloc (.cells nil18 46)) (by rfl) (run_alloc_of 46 rfl nil18 zero46') ⟨v14, v15, v16, v17, v18, v19, v20, v21, v22, v23, v24, v25, v26, v27, v28, v29, v30, _, B, W.heap.size, rfl, { hs with e5 := fun _ => rfl }, ⟨hw.kx.below hA hw.kx.lt, hw.hb.trans (hA.mono hw.hb.size), (fun h => (hw.m h).below hA (hw.m h).lt), (fun _ => ⟨by show Blk _ _ (if L 18 = true then arr else nil18) 46; rw [h18]; exact Blk.new _ _ _, hw.hb.size, hw.kx.lt⟩), (fun h _ => Nat.ne_of_lt (hw.m h).lt), (fun _ => rfl)⟩⟩
    | 18, _ =>
      have h17 := haft 17 (by decide)
      have e30x := hs.e30 (haft 16 (by decide))
      subst e30x
      have e5x := hs.e5 h17
      subst e5x
      obtain ⟨b1, b2, b3⟩ := hw.f1 h17
      rw [show (if L 18 = true then arr else nil18) = nil18 by rw [hL]; rfl] at b1
      refine i_wp rfl (by rfl) (wp_store_row 46 _ _ rfl f arr rfl rfl 46 nil18 b1 SZA.out (by rw [HA.out]; rfl) ONE.out ?_)
      refine ⟨v14, v15, v16, v17, v18, v19, v20, v21, v22, v23, v24, v25, v26, v27, v28, v29, _, _, B, f, rfl, { hs with }, ⟨hw.kx.rowOther (Nat.ne_of_lt b3) arr, below_setRow hw.hb b2 arr, (fun h => (hw.m h).rowOther (hw.ne h h17) arr), (fun _ => ⟨?_, b2, b3⟩), hw.ne, (fun _ => h17)⟩⟩
      exact b1.row arr
    | k + 19, h =>
      exfalso
      have h2 : k + 19 < 19 := h
      omega
  rintro L ac w3 ⟨v14, v15, v16, v17, v18, v19, v20, v21, v22, v23, v24, v25, v26, v27, v28, v29, v30, v5, B, f, rfl, hs, hw⟩ hall
  have e14x := hs.e14 (hall 0 (by decide))
  subst e14x
  have e15x := hs.e15 (hall 1 (by decide))
  subst e15x
  have e16x := hs.e16 (hall 2 (by decide))
  subst e16x
  have e17x := hs.e17 (hall 3 (by decide))
  subst e17x
  have e18x := hs.e18 (hall 4 (by decide))
  subst e18x
  have e19x := hs.e19 (hall 5 (by decide))
  subst e19x
  have e20x := hs.e20 (hall 6 (by decide))
  subst e20x
  have e21x := hs.e21 (hall 7 (by decide))
  subst e21x
  have e22x := hs.e22 (hall 8 (by decide))
  subst e22x
  have e23x := hs.e23 (hall 9 (by decide))
  subst e23x
  have e24x := hs.e24 (hall 10 (by decide))
  subst e24x
  have e25x := hs.e25 (hall 11 (by decide))
  subst e25x
  have e26x := hs.e26 (hall 12 (by decide))
  subst e26x
  have e27x := hs.e27 (hall 13 (by decide))
  subst e27x
  have e28x := hs.e28 (hall 14 (by decide))
  subst e28x
  have e29x := hs.e29 (hall 15 (by decide))
  subst e29x
  have e30x := hs.e30 (hall 16 (by decide))
  subst e30x
  have e5x := hs.e5 (hall 17 (by decide))
  subst e5x
  have F3 := Lib.hid (show Blk w3 f arr 46 by have := (hw.f1 (hall 17 (by decide))).1; rw [if_pos (hall 18 (by decide))] at this; exact this)
  have FG := Lib.hid (hw.f1 (hall 17 (by decide))).2
  have K3 := Lib.hid hw.kx
  have HB3 := Lib.hid hw.hb
  clear hs hw hall
  obtain ⟨r8, hr8⟩ : ∃ r8, r8 = x8 % 4094 := ⟨_, rfl⟩
  obtain ⟨vid, hvid⟩ : ∃ vid, vid = 1 + r8 := ⟨_, rfl⟩
  obtain ⟨unt, hunt⟩ : ∃ unt, unt = x6 &&& x7 := ⟨_, rfl⟩
  have c6 : w3.cell? ⟨g, 6, none⟩ = some (.int .u16 (x6 : Nat)) := K3.out.cell 6
  have c7 : w3.cell? ⟨g, 7, none⟩ = some (.int .u16 (x7 : Nat)) := K3.out.cell 7
  have c8 : w3.cell? ⟨g, 8, none⟩ = some (.int .u16 (x8 : Nat)) := K3.out.cell 8
  have q8 : (x8 : Int).tmod 4094 = (r8 : Int) := by rw [Int.tmod_eq_emod_of_nonneg (by omega), hr8]; omega
  have q9 : IntKind.u16.wrap (1 + (r8 : Int)) = (vid : Int) := by simp [IntKind.wrap, IntKind.bits, IntKind.signed]; omega
  have E8 := Lib.hid (show (x8 : Int) % 4094 = (r8 : Int) by rw [hr8]; omega)
  have E9 := Lib.hid (show 1 + (r8 : Int) = (vid : Int) by rw [hvid]; omega)
  have EB := Lib.hid (show bits BinOp.and IntKind.u16 (x6 : Int) (x7 : Int) = (unt : Int) by rw [hunt]; exact u16_and_nat x6 x7 H6.out H7.out)
  have UL := Lib.hid (show unt < 65536 by rw [hunt]; exact Nat.lt_of_le_of_lt Nat.and_le_left H6.out)
  have EU := Lib.hid (show (unt : Int) % 4294967296 = (unt : Int) by have := UL.out; omega)
  have em : (x6 : Int) % 4294967296 = (x6 : Int) := by have := H6.out; omega
  go_upto_region 4 with fail
  conv => arg 4; zeta
  go_upto_region 5 with fail
  rw [E8.out, E9.out, EB.out, EU.out]
  clear q8 q9 em c6 c7 c8 hr8 hvid hunt
  obtain ⟨v, hv⟩ : ∃ v, v = w3.heap.size := ⟨_, rfl⟩
  obtain ⟨w4, hw4⟩ : ∃ w4, w4 = w3.alloc (.cells #[.int .u16 (vid : Nat), .int .u32 (x6 : Nat), .int .u32 (unt : Nat)] 37) := ⟨_, rfl⟩
  have V4 := Lib.hid (show Blk w4 v #[.int .u16 (vid : Nat), .int .u32 (x6 : Nat), .int .u32 (unt : Nat)] 37 by rw [hw4, hv]; exact Blk.new _ _ _)
  have F4 := Lib.hid (show Blk w4 f arr 46 by rw [hw4]; exact F3.out.alloc _)
  have HB4 := Lib.hid (show Below w.heap.size w w4 by rw [hw4]; exact HB3.out.alloc HB3.out.size _)
  have VG := Lib.hid (show w.heap.size ≤ v by rw [hv]; exact HB3.out.size)
  rw [← hw4, ← hv]
  clear hw4 hv
  have R4 := Lib.hid (Blk.new w4 nil18 46)
  go_upto_region 6 with (first
    | (refine wpList_load_row rfl 46 _ rfl f rfl 46 _ (0, 0) _ F4.out Try.underlying46 rfl SZA.out ?_)
    | (refine wpList_alloc 46 rfl (by rfl) nil18 zero46' ?_)
    | (refine wpList_store_row rfl 46 _ _ rfl w4.heap.size arr rfl rfl 46 nil18 R4.out SZA.out (by rw [HA.out]; rfl) ONE.out ?_))
  obtain ⟨p, hp⟩ : ∃ p, p = w4.heap.size := ⟨_, rfl⟩
  obtain ⟨w5, hw5⟩ : ∃ w5, w5 = (w4.alloc (.cells nil18 46)).setRow w4.heap.size arr := ⟨_, rfl⟩
  have P5 := Lib.hid (show Blk w5 p arr 46 by rw [hw5, hp]; exact R4.out.row arr)
  have F5 := Lib.hid (show Blk w5 f arr 46 by rw [hw5]; exact (F4.out.alloc _).rowOther (Nat.ne_of_lt F4.out.lt) arr)
  have V5 := Lib.hid (show Blk w5 v #[.int .u16 (vid : Nat), .int .u32 (x6 : Nat), .int .u32 (unt : Nat)] 37 by rw [hw5]; exact (V4.out.alloc _).rowOther (Nat.ne_of_lt V4.out.lt) arr)
  have HB5 := Lib.hid (show Below w.heap.size w w5 by rw [hw5]; exact below_setRow (HB4.out.alloc HB4.out.size _) HB4.out.size arr)
  have PG := Lib.hid (show w.heap.size ≤ p ∧ f ≠ p ∧ v ≠ p by rw [hp]; exact ⟨HB4.out.size, Nat.ne_of_lt F4.out.lt, Nat.ne_of_lt V4.out.lt⟩)
  rw [← hw5, ← hp]
  clear hw5 hp R4
  have d2 : w5.cell? ⟨v, 2, none⟩ = some (.int .u32 (unt : Nat)) := V5.out.cell 2
  have d16 : w5.cell? ⟨f, 16, none⟩ = some (.int .u16 (x4 : Nat)) := by rw [F5.out.cell, HA.out]; rfl
  have d17 : w5.cell? ⟨f, 17, none⟩ = some (.string (zT n)) := by rw [F5.out.cell, HA.out]; rfl
  have UL2 := Lib.hid (show unt < 4294967296 from Nat.lt_trans UL.out (by decide))
  cases hh : hasB unt port
  · have HH := Lib.hid (show ∀ W : World, Calls Try.prog 13 #[.int .u32 (unt : Nat), .int .i64 port] W fun e w' => e = .returned (.bool false) ∧ W = w' from fun W => by rw [← hh]; exact has_any unt port W UL2.out)
    go_upto_region 8 with (go_at_call 13; refine (HH.out _).mono ?_; rintro e w6 ⟨rfl, rfl⟩)
    refine wp_region_inv (I := fun L ac W => ∃ v55 v56 v57 v58 : Value, ac = { tmps := #[.agg #[.bool x0, .int .u8 (x1 : Nat), .bool x2, .int .u16 (x3 : Nat), .int .u16 (x4 : Nat), .int .u16 (x5 : Nat), .int .u16 (x6 : Nat), .int .u16 (x7 : Nat), .int .u16 (x8 : Nat)], .int .i64 port, .pointer (some ⟨g, 0, none⟩), undef, .bool false, .pointer (some ⟨f, 0, none⟩), .pointer (some ⟨v, 0, none⟩), .pointer (some ⟨p, 0, none⟩), undef, undef, undef, undef, .bool true, .bool false, .pointer (some ⟨g, 0, none⟩), .bool x0, .pointer (some ⟨g, 1, none⟩), .int .u8 (x1 : Nat), .pointer (some ⟨g, 2, none⟩), .bool x2, .pointer (some ⟨g, 3, none⟩), .int .u16 (x3 : Nat), .pointer (some ⟨g, 4, none⟩), .int .u16 (x4 : Nat), .pointer (some ⟨g, 5, none⟩), .int .u16 (x5 : Nat), .int .i64 (x5 : Nat), .int .i64 (n : Nat), .slice (some ⟨B, 0, none⟩) n n, .string (zT n), .agg arr, .pointer (some ⟨g, 8, none⟩), .int .u16 (x8 : Nat), .int .u16 (r8 : Nat), .int .u16 (vid : Nat), .pointer (some ⟨g, 6, none⟩), .int .u16 (x6 : Nat), .int .u32 (x6 : Nat), .pointer (some ⟨g, 6, none⟩), .int .u16 (x6 : Nat), .pointer (some ⟨g, 7, none⟩), .int .u16 (x7 : Nat), .int .u16 (unt : Nat), .int .u32 (unt : Nat), .agg #[.int .u16 (vid : Nat), .int .u32 (x6 : Nat), .int .u32 (unt : Nat)], .agg arr, .pointer (some ⟨v, 2, none⟩), .int .u32 (unt : Nat), .int .i64 port, .bool false, undef, undef, undef, undef, undef, v55, v56, v57, v58, undef, undef, undef, undef, undef, undef, undef, undef, undef, undef, undef, undef, undef, undef, undef, undef, undef, undef, undef, undef, undef, undef, undef, undef], defers := [] } ∧ (L 0 = true → v55 = .pointer (some ⟨v, 0, none⟩)) ∧ (L 1 = true → v56 = .int .u16 (vid : Nat)) ∧ (L 2 = true → v57 = .pointer (some ⟨p, 12, none⟩)) ∧ (L 4 = true → v58 = .pointer (some ⟨p, 15, none⟩)) ∧
      Blk W p (frA z0 z0 (if L 3 = true then true else x0) x1 x2 (if L 5 = true then vid else x3) x4 (zT n)) 46 ∧ Blk W v #[.int .u16 (vid : Nat), .int .u32 (x6 : Nat), .int .u32 (unt : Nat)] 37 ∧ Blk W f arr 46 ∧ Below w.heap.size w W) (by kernel_rfl) (by kernel_rfl) ⟨_, _, _, _, rfl, (fun h => Bool.noConfusion h), (fun h => Bool.noConfusion h), (fun h => Bool.noConfusion h), (fun h => Bool.noConfusion h), (by have := P5.out.drew; rw [HA.out] at this; exact this), V5.out.drew, F5.out.drew, HB5.out.drew⟩ ?_ ?_
    · rintro k hk L ac W ⟨v55, v56, v57, v58, rfl, e55, e56, e57, e58, bP, bV, bF, hb⟩ hL haft
      match k, hk with
      | 0, _ =>
        exact i_val rfl (.pointer (some ⟨v, 0, none⟩)) W (by rfl) (by go_simp) ⟨_, v56, v57, v58, rfl, (fun _ => rfl), e56, e57, e58, bP, bV, bF, hb⟩
      | 1, _ =>
        have e := e55 (haft 0 (by decide))
        subst e
        have q := bV.cell 0
        simp only [List.getElem?_toArray, List.getElem?_cons_zero, List.getElem?_cons_succ] at q
        exact i_val rfl (.int .u16 (vid : Nat)) W (by rfl) (by go_simp) ⟨_, _, v57, v58, rfl, e55, (fun _ => rfl), e57, e58, bP, bV, bF, hb⟩
      | 2, _ =>
        exact i_val rfl (.pointer (some ⟨p, 12, none⟩)) W (by rfl) (by go_simp) ⟨v55, v56, _, v58, rfl, e55, e56, (fun _ => rfl), e58, bP, bV, bF, hb⟩
      | 3, _ =>
        have e := e57 (haft 2 (by decide))
        subst e
        refine i_wp rfl (by rfl) ?_
        have q := bP.cell 12
        have q2 := bP.free 12
        simp only [List.getElem?_toArray, List.getElem?_cons_zero, List.getElem?_cons_succ] at q
        go_simp
        refine ⟨v55, v56, .pointer (some ⟨p, 12, none⟩), v58, ⟨rfl, rfl, rfl, rfl⟩, e55, e56, e57, e58, ?_, ?_, ?_, ?_⟩
        · have := bP.set 12 (.bool true)
          exact this
        · exact bV.other (Ne.symm PG.out.2.2) _
        · exact bF.other (Ne.symm PG.out.2.1) _
        · exact hb.setCell PG.out.1 _
      | 4, _ =>
        exact i_val rfl (.pointer (some ⟨p, 15, none⟩)) W (by rfl) (by go_simp) ⟨v55, v56, v57, _, rfl, e55, e56, e57, (fun _ => rfl), bP, bV, bF, hb⟩
      | 5, _ =>
        have e := e58 (haft 4 (by decide))
        subst e
        have e := e56 (haft 1 (by decide))
        subst e
        refine i_wp rfl (by rfl) ?_
        have q := bP.cell 15
        have q2 := bP.free 15
        simp only [List.getElem?_toArray, List.getElem?_cons_zero, List.getElem?_cons_succ] at q
        go_simp
        refine ⟨v55, .int .u16 (vid : Nat), v57, .pointer (some ⟨p, 15, none⟩), ⟨rfl, rfl, rfl, rfl⟩, e55, e56, e57, e58, ?_, ?_, ?_, ?_⟩
        · have := bP.set 15 (.int .u16 (vid : Nat))
          rw [show (upd L 5 3 || x0) = (if L 3 = true then true else x0) from by show (L 3 || x0) = _; cases L 3 <;> rfl]
          exact this
        · exact bV.other (Ne.symm PG.out.2.2) _
        · exact bF.other (Ne.symm PG.out.2.1) _
        · exact hb.setCell PG.out.1 _
      | k + 6, h =>
        exfalso
        have h2 : k + 6 < 6 := h
        omega
    rintro L ac w6 ⟨v55, v56, v57, v58, rfl, e55, e56, e57, e58, bP, bV, bF, hb⟩ hall
    rw [if_pos (hall 3 (by decide)), if_pos (hall 5 (by decide))] at bP
    obtain ⟨arr2, harr2⟩ : ∃ arr2, arr2 = frA z0 z0 true x1 x2 vid x4 (zT n) := ⟨_, rfl⟩
    have HA2 := Lib.hid harr2
    have SZ2 := Lib.hid (show (Try.prog.info? 46).map (·.size) = some arr2.size by rw [harr2]; exact size52)
    rw [← harr2] at bP
    have P6 := Lib.hid bP
    have F6 := Lib.hid bF
    have V6 := Lib.hid bV
    have HB6 := Lib.hid hb
    clear harr2 e55 e56 e57 e58 bP bV bF hb hall d2 d16 d17
    conv => arg 4; zeta
    have ONE2 := Lib.hid (show arr2.all (·.oneCell') = true by rw [HA2.out]; exact frA_one _ _ _ _ _ _ _ _)
    have HEN := Lib.hid (show ∀ W : World, Calls Try.prog 24 #[.agg arr2] W fun e w' => e = .returned (.tuple #[.string (encS z0 z0 true x1 x2 vid x4 (zT n)), .int .i64 (encE true x1 x2 vid x4 (zT n))]) ∧ Below W.heap.size W w' from fun W => by rw [HA2.out]; exact encode_any z0 z0 true x1 x2 vid x4 (zT n) W six0 six0 H4.out (by rw [zT_size]; exact NL.out))
    obtain ⟨S, hS⟩ : ∃ S, S = encS z0 z0 true x1 x2 vid x4 (zT n) := ⟨_, rfl⟩
    obtain ⟨E, hE⟩ : ∃ E, E = encE true x1 x2 vid x4 (zT n) := ⟨_, rfl⟩
    obtain ⟨R, hR⟩ : ∃ R, R = if E = 0 then arr2 else nil18 := ⟨_, rfl⟩
    have HFO := Lib.hid (show ∀ W : World, Calls Try.prog 25 #[.agg arr, .agg #[.int .u16 (vid : Nat), .int .u32 (x6 : Nat), .int .u32 (unt : Nat)], .int .i64 port] W fun e w' => e = .returned (.tuple #[.agg R, .bool (decide (E = 0))]) ∧ Below W.heap.size W w' from fun W => by
      have := form_false z0 z0 x0 x1 x2 x3 x4 (zT n) vid x6 unt port W six0 six0 H4.out (by rw [zT_size]; exact NL.out) UL2.out hh
      unfold formR formO at this
      rw [← hE, ← HA2.out, ← hR, ← HA.out] at this
      exact this)
    have RS := Lib.hid (show (Try.prog.info? 46).map (·.size) = some R.size by rw [hR]; split; exact SZ2.out; exact size52)
    have RO := Lib.hid (show R.all (·.oneCell') = true by rw [hR]; split; exact ONE2.out; exact nil18_one')
    have RZ := Lib.hid (show nil18.size = R.size by rw [hR]; split; rw [HA2.out]; rfl; rfl)
    have heq : ∀ W, (Op.equalIn 10000 46 (.agg R) (.agg R)).run Try.prog W = .ok true W := fun W => by
      rw [hR]
      split
      · rw [HA2.out]; exact equal_frame _ _ _ _ _ _ _ _ W
      · exact equal_frame z0 z0 false 0 false 0 0 ⟨#[]⟩ W
    have HEQ := Lib.hid heq
    rw [← hS, ← hE] at HEN
    clear hS hE heq
    have VSZ := Lib.hid vl_info
    go_upto_region 10 with (first
      | (refine wpList_load_row rfl 46 _ rfl p rfl 46 _ (0, 0) _ P6.out Try.underlying46 rfl SZ2.out ?_)
      | (go_at_call 24; refine (HEN.out _).mono ?_; rintro e w7 ⟨rfl, hb7⟩))
    have P7 := Lib.hid (P6.out.below hb7 P6.out.lt)
    have F7 := Lib.hid (F6.out.below hb7 F6.out.lt)
    have V7 := Lib.hid (V6.out.below hb7 V6.out.lt)
    have HB7 := Lib.hid (HB6.out.trans (hb7.mono HB6.out.size))
    clear hb7
    by_cases h0 : E = 0
    · have e1 : (E != 0) = false := by rw [h0]; rfl
      have e2 : (E == 0) = true := by rw [h0]; rfl
      have e3 : decide (E = 0) = true := by rw [h0]; rfl
      rw [if_pos h0] at hR
      rw [e3] at HFO
      clear h0
      go_upto_region 12 with fail
      obtain ⟨w8, hw8⟩ : ∃ w8, w8 = w7 := ⟨_, rfl⟩
      rw [← hw8]
      have P8 := Lib.hid (show Blk w8 p R 46 by rw [hw8, hR]; exact P7.out)
      have F8 := Lib.hid (show Blk w8 f arr 46 by rw [hw8]; exact F7.out)
      have V8 := Lib.hid (show Blk w8 v #[.int .u16 (vid : Nat), .int .u32 (x6 : Nat), .int .u32 (unt : Nat)] 37 by rw [hw8]; exact V7.out)
      have HB8 := Lib.hid (show Below w.heap.size w w8 by rw [hw8]; exact HB7.out)
      clear hw8
      clear hR
      have RN := Lib.hid (fun W : World => Blk.new W nil18 46)
      go_upto_region 13 with (first
        | (refine wpList_load_row rfl 46 _ rfl f rfl 46 _ (0, 0) _ F8.out Try.underlying46 rfl SZA.out ?_)
        | (refine wpList_load_row rfl 37 _ rfl v rfl 37 _ (0, 0) _ V8.out Try.underlying37 rfl VSZ.out ?_)
        | (go_at_call 25; refine (HFO.out _).mono ?_; rintro e w9 ⟨rfl, hb9⟩)
        | (refine wpList_alloc 46 rfl (by rfl) nil18 zero46' ?_)
        | (refine wpList_store_row rfl 46 _ _ rfl _ R rfl rfl 46 nil18 (RN.out _) RS.out RZ.out RO.out ?_))
      obtain ⟨q, hq⟩ : ∃ q, q = w9.heap.size := ⟨_, rfl⟩
      obtain ⟨w10, hw10⟩ : ∃ w10, w10 = (w9.alloc (.cells nil18 46)).setRow w9.heap.size R := ⟨_, rfl⟩
      have P9 := P8.out.below hb9 P8.out.lt
      have HB9 := HB8.out.trans (hb9.mono HB8.out.size)
      have Q10 := Lib.hid (show Blk w10 q R 46 by rw [hw10, hq]; exact (RN.out w9).row R)
      have P10 := Lib.hid (show Blk w10 p R 46 by rw [hw10]; exact (P9.alloc _).rowOther (Nat.ne_of_lt P9.lt) R)
      have HB10 := Lib.hid (show Below w.heap.size w w10 by rw [hw10]; exact below_setRow (HB9.alloc HB9.size _) HB9.size R)
      rw [← hw10, ← hq]
      clear hw10 hq hb9 P9 HB9
      have heq := HEQ.out
      go_wp2_with (first
        | (refine wpList_val (.agg R) (by rfl) (run_loadVar_of 46 _ rfl q rfl 46 R _ Q10.out Try.underlying46 rfl RS.out) ?_)
        | (refine wpList_val (.agg R) (by rfl) (run_loadVar_of 46 _ rfl p rfl 46 R _ P10.out Try.underlying46 rfl RS.out) ?_))
      go_ret
      exact ⟨rfl, HB10.out⟩
    · have e1 : (E != 0) = true := by rw [bne_iff_ne]; exact h0
      have e2 : (E == 0) = false := by rw [beq_eq_false_iff_ne]; exact h0
      have e3 : decide (E = 0) = false := decide_eq_false h0
      rw [if_neg h0] at hR
      rw [e3] at HFO
      clear h0
      go_upto_region 12 with (first
        | (refine wpList_val (.agg nil18) (by rfl) (run_build_of 46 [] rfl [] nil18 rfl built_nil) ?_)
        | (refine wpList_store_row rfl 46 _ _ rfl p nil18 rfl rfl 46 arr2 P7.out size52 (by rw [HA2.out]; rfl) nil18_one' ?_))
      obtain ⟨w8, hw8⟩ : ∃ w8, w8 = w7.setRow p nil18 := ⟨_, rfl⟩
      rw [← hw8]
      have P8 := Lib.hid (show Blk w8 p R 46 by rw [hw8, hR]; exact P7.out.row nil18)
      have F8 := Lib.hid (show Blk w8 f arr 46 by rw [hw8]; exact F7.out.rowOther PG.out.2.1 nil18)
      have V8 := Lib.hid (show Blk w8 v #[.int .u16 (vid : Nat), .int .u32 (x6 : Nat), .int .u32 (unt : Nat)] 37 by rw [hw8]; exact V7.out.rowOther PG.out.2.2 nil18)
      have HB8 := Lib.hid (show Below w.heap.size w w8 by rw [hw8]; exact below_setRow HB7.out PG.out.1 nil18)
      clear hw8
      clear hR
      have RN := Lib.hid (fun W : World => Blk.new W nil18 46)
      go_upto_region 13 with (first
        | (refine wpList_load_row rfl 46 _ rfl f rfl 46 _ (0, 0) _ F8.out Try.underlying46 rfl SZA.out ?_)
        | (refine wpList_load_row rfl 37 _ rfl v rfl 37 _ (0, 0) _ V8.out Try.underlying37 rfl VSZ.out ?_)
        | (go_at_call 25; refine (HFO.out _).mono ?_; rintro e w9 ⟨rfl, hb9⟩)
        | (refine wpList_alloc 46 rfl (by rfl) nil18 zero46' ?_)
        | (refine wpList_store_row rfl 46 _ _ rfl _ R rfl rfl 46 nil18 (RN.out _) RS.out RZ.out RO.out ?_))
      obtain ⟨q, hq⟩ : ∃ q, q = w9.heap.size := ⟨_, rfl⟩
      obtain ⟨w10, hw10⟩ : ∃ w10, w10 = (w9.alloc (.cells nil18 46)).setRow w9.heap.size R := ⟨_, rfl⟩
      have P9 := P8.out.below hb9 P8.out.lt
      have HB9 := HB8.out.trans (hb9.mono HB8.out.size)
      have Q10 := Lib.hid (show Blk w10 q R 46 by rw [hw10, hq]; exact (RN.out w9).row R)
      have P10 := Lib.hid (show Blk w10 p R 46 by rw [hw10]; exact (P9.alloc _).rowOther (Nat.ne_of_lt P9.lt) R)
      have HB10 := Lib.hid (show Below w.heap.size w w10 by rw [hw10]; exact below_setRow (HB9.alloc HB9.size _) HB9.size R)
      rw [← hw10, ← hq]
      clear hw10 hq hb9 P9 HB9
      have heq := HEQ.out
      go_wp2_with (first
        | (refine wpList_val (.agg R) (by rfl) (run_loadVar_of 46 _ rfl q rfl 46 R _ Q10.out Try.underlying46 rfl RS.out) ?_)
        | (refine wpList_val (.agg R) (by rfl) (run_loadVar_of 46 _ rfl p rfl 46 R _ P10.out Try.underlying46 rfl RS.out) ?_))
      go_ret
      exact ⟨rfl, HB10.out⟩
  · have HH := Lib.hid (show ∀ W : World, Calls Try.prog 13 #[.int .u32 (unt : Nat), .int .i64 port] W fun e w' => e = .returned (.bool true) ∧ W = w' from fun W => by rw [← hh]; exact has_any unt port W UL2.out)
    obtain ⟨arr2, harr2⟩ : ∃ arr2, arr2 = frA z0 z0 false 0 false 0 x4 (zT n) := ⟨_, rfl⟩
    have HA2 := Lib.hid harr2
    have SZ2 := Lib.hid (show (Try.prog.info? 46).map (·.size) = some arr2.size by rw [harr2]; exact size52)
    have SZE := Lib.hid (show arr.size = arr2.size by rw [harr2, HA.out]; rfl)
    have ONE3 := Lib.hid (show arr2.all (·.oneCell') = true by rw [harr2]; exact frA_one _ _ _ _ _ _ _ _)
    clear harr2
    go_upto_region 9 with (first
      | (go_at_call 13; refine (HH.out _).mono ?_; rintro e w6 ⟨rfl, rfl⟩)
      | (refine wpList_val (.agg arr2) (by rfl) (run_build_of 46 [(6, .tmp 51), (7, .tmp 53)] rfl [(6, .int .u16 (x4 : Nat)), (7, .string (zT n))] arr2 rfl (by rw [HA2.out]; exact built_two x4 (zT n))) ?_)
      | (refine wpList_store_row rfl 46 _ _ rfl p arr2 rfl rfl 46 arr P5.out SZ2.out SZE.out ONE3.out ?_))
    obtain ⟨w6, hw6⟩ : ∃ w6, w6 = w5.setRow p arr2 := ⟨_, rfl⟩
    rw [← hw6]
    have P6 := Lib.hid (show Blk w6 p arr2 46 by rw [hw6]; exact P5.out.row arr2)
    have F6 := Lib.hid (show Blk w6 f arr 46 by rw [hw6]; exact F5.out.rowOther PG.out.2.1 arr2)
    have V6 := Lib.hid (show Blk w6 v #[.int .u16 (vid : Nat), .int .u32 (x6 : Nat), .int .u32 (unt : Nat)] 37 by rw [hw6]; exact V5.out.rowOther PG.out.2.2 arr2)
    have HB6 := Lib.hid (show Below w.heap.size w w6 by rw [hw6]; exact below_setRow HB5.out PG.out.1 arr2)
    clear hw6 d2 d16 d17
    have ONE2 := Lib.hid (show arr2.all (·.oneCell') = true by rw [HA2.out]; exact frA_one _ _ _ _ _ _ _ _)
    have HEN := Lib.hid (show ∀ W : World, Calls Try.prog 24 #[.agg arr2] W fun e w' => e = .returned (.tuple #[.string (encS z0 z0 false 0 false 0 x4 (zT n)), .int .i64 (encE false 0 false 0 x4 (zT n))]) ∧ Below W.heap.size W w' from fun W => by rw [HA2.out]; exact encode_any z0 z0 false 0 false 0 x4 (zT n) W six0 six0 H4.out (by rw [zT_size]; exact NL.out))
    obtain ⟨S, hS⟩ : ∃ S, S = encS z0 z0 false 0 false 0 x4 (zT n) := ⟨_, rfl⟩
    obtain ⟨E, hE⟩ : ∃ E, E = encE false 0 false 0 x4 (zT n) := ⟨_, rfl⟩
    obtain ⟨R, hR⟩ : ∃ R, R = if E = 0 then arr2 else nil18 := ⟨_, rfl⟩
    have HFO := Lib.hid (show ∀ W : World, Calls Try.prog 25 #[.agg arr, .agg #[.int .u16 (vid : Nat), .int .u32 (x6 : Nat), .int .u32 (unt : Nat)], .int .i64 port] W fun e w' => e = .returned (.tuple #[.agg R, .bool (decide (E = 0))]) ∧ Below W.heap.size W w' from fun W => by
      have := form_true z0 z0 x0 x1 x2 x3 x4 (zT n) vid x6 unt port W six0 six0 H4.out (by rw [zT_size]; exact NL.out) UL2.out hh
      unfold formR formO at this
      rw [← hE, ← HA2.out, ← hR, ← HA.out] at this
      exact this)
    have RS := Lib.hid (show (Try.prog.info? 46).map (·.size) = some R.size by rw [hR]; split; exact SZ2.out; exact size52)
    have RO := Lib.hid (show R.all (·.oneCell') = true by rw [hR]; split; exact ONE2.out; exact nil18_one')
    have RZ := Lib.hid (show nil18.size = R.size by rw [hR]; split; rw [HA2.out]; rfl; rfl)
    have heq : ∀ W, (Op.equalIn 10000 46 (.agg R) (.agg R)).run Try.prog W = .ok true W := fun W => by
      rw [hR]
      split
      · rw [HA2.out]; exact equal_frame _ _ _ _ _ _ _ _ W
      · exact equal_frame z0 z0 false 0 false 0 0 ⟨#[]⟩ W
    have HEQ := Lib.hid heq
    rw [← hS, ← hE] at HEN
    clear hS hE heq
    have VSZ := Lib.hid vl_info
    go_upto_region 10 with (first
      | (refine wpList_load_row rfl 46 _ rfl p rfl 46 _ (0, 0) _ P6.out Try.underlying46 rfl SZ2.out ?_)
      | (go_at_call 24; refine (HEN.out _).mono ?_; rintro e w7 ⟨rfl, hb7⟩))
    have P7 := Lib.hid (P6.out.below hb7 P6.out.lt)
    have F7 := Lib.hid (F6.out.below hb7 F6.out.lt)
    have V7 := Lib.hid (V6.out.below hb7 V6.out.lt)
    have HB7 := Lib.hid (HB6.out.trans (hb7.mono HB6.out.size))
    clear hb7
    by_cases h0 : E = 0
    · have e1 : (E != 0) = false := by rw [h0]; rfl
      have e2 : (E == 0) = true := by rw [h0]; rfl
      have e3 : decide (E = 0) = true := by rw [h0]; rfl
      rw [if_pos h0] at hR
      rw [e3] at HFO
      clear h0
      go_upto_region 12 with fail
      obtain ⟨w8, hw8⟩ : ∃ w8, w8 = w7 := ⟨_, rfl⟩
      rw [← hw8]
      have P8 := Lib.hid (show Blk w8 p R 46 by rw [hw8, hR]; exact P7.out)
      have F8 := Lib.hid (show Blk w8 f arr 46 by rw [hw8]; exact F7.out)
      have V8 := Lib.hid (show Blk w8 v #[.int .u16 (vid : Nat), .int .u32 (x6 : Nat), .int .u32 (unt : Nat)] 37 by rw [hw8]; exact V7.out)
      have HB8 := Lib.hid (show Below w.heap.size w w8 by rw [hw8]; exact HB7.out)
      clear hw8
      clear hR
      have RN := Lib.hid (fun W : World => Blk.new W nil18 46)
      go_upto_region 13 with (first
        | (refine wpList_load_row rfl 46 _ rfl f rfl 46 _ (0, 0) _ F8.out Try.underlying46 rfl SZA.out ?_)
        | (refine wpList_load_row rfl 37 _ rfl v rfl 37 _ (0, 0) _ V8.out Try.underlying37 rfl VSZ.out ?_)
        | (go_at_call 25; refine (HFO.out _).mono ?_; rintro e w9 ⟨rfl, hb9⟩)
        | (refine wpList_alloc 46 rfl (by rfl) nil18 zero46' ?_)
        | (refine wpList_store_row rfl 46 _ _ rfl _ R rfl rfl 46 nil18 (RN.out _) RS.out RZ.out RO.out ?_))
      obtain ⟨q, hq⟩ : ∃ q, q = w9.heap.size := ⟨_, rfl⟩
      obtain ⟨w10, hw10⟩ : ∃ w10, w10 = (w9.alloc (.cells nil18 46)).setRow w9.heap.size R := ⟨_, rfl⟩
      have P9 := P8.out.below hb9 P8.out.lt
      have HB9 := HB8.out.trans (hb9.mono HB8.out.size)
      have Q10 := Lib.hid (show Blk w10 q R 46 by rw [hw10, hq]; exact (RN.out w9).row R)
      have P10 := Lib.hid (show Blk w10 p R 46 by rw [hw10]; exact (P9.alloc _).rowOther (Nat.ne_of_lt P9.lt) R)
      have HB10 := Lib.hid (show Below w.heap.size w w10 by rw [hw10]; exact below_setRow (HB9.alloc HB9.size _) HB9.size R)
      rw [← hw10, ← hq]
      clear hw10 hq hb9 P9 HB9
      have heq := HEQ.out
      go_wp2_with (first
        | (refine wpList_val (.agg R) (by rfl) (run_loadVar_of 46 _ rfl q rfl 46 R _ Q10.out Try.underlying46 rfl RS.out) ?_)
        | (refine wpList_val (.agg R) (by rfl) (run_loadVar_of 46 _ rfl p rfl 46 R _ P10.out Try.underlying46 rfl RS.out) ?_))
      go_ret
      exact ⟨rfl, HB10.out⟩
    · have e1 : (E != 0) = true := by rw [bne_iff_ne]; exact h0
      have e2 : (E == 0) = false := by rw [beq_eq_false_iff_ne]; exact h0
      have e3 : decide (E = 0) = false := decide_eq_false h0
      rw [if_neg h0] at hR
      rw [e3] at HFO
      clear h0
      go_upto_region 12 with (first
        | (refine wpList_val (.agg nil18) (by rfl) (run_build_of 46 [] rfl [] nil18 rfl built_nil) ?_)
        | (refine wpList_store_row rfl 46 _ _ rfl p nil18 rfl rfl 46 arr2 P7.out size52 (by rw [HA2.out]; rfl) nil18_one' ?_))
      obtain ⟨w8, hw8⟩ : ∃ w8, w8 = w7.setRow p nil18 := ⟨_, rfl⟩
      rw [← hw8]
      have P8 := Lib.hid (show Blk w8 p R 46 by rw [hw8, hR]; exact P7.out.row nil18)
      have F8 := Lib.hid (show Blk w8 f arr 46 by rw [hw8]; exact F7.out.rowOther PG.out.2.1 nil18)
      have V8 := Lib.hid (show Blk w8 v #[.int .u16 (vid : Nat), .int .u32 (x6 : Nat), .int .u32 (unt : Nat)] 37 by rw [hw8]; exact V7.out.rowOther PG.out.2.2 nil18)
      have HB8 := Lib.hid (show Below w.heap.size w w8 by rw [hw8]; exact below_setRow HB7.out PG.out.1 nil18)
      clear hw8
      clear hR
      have RN := Lib.hid (fun W : World => Blk.new W nil18 46)
      go_upto_region 13 with (first
        | (refine wpList_load_row rfl 46 _ rfl f rfl 46 _ (0, 0) _ F8.out Try.underlying46 rfl SZA.out ?_)
        | (refine wpList_load_row rfl 37 _ rfl v rfl 37 _ (0, 0) _ V8.out Try.underlying37 rfl VSZ.out ?_)
        | (go_at_call 25; refine (HFO.out _).mono ?_; rintro e w9 ⟨rfl, hb9⟩)
        | (refine wpList_alloc 46 rfl (by rfl) nil18 zero46' ?_)
        | (refine wpList_store_row rfl 46 _ _ rfl _ R rfl rfl 46 nil18 (RN.out _) RS.out RZ.out RO.out ?_))
      obtain ⟨q, hq⟩ : ∃ q, q = w9.heap.size := ⟨_, rfl⟩
      obtain ⟨w10, hw10⟩ : ∃ w10, w10 = (w9.alloc (.cells nil18 46)).setRow w9.heap.size R := ⟨_, rfl⟩
      have P9 := P8.out.below hb9 P8.out.lt
      have HB9 := HB8.out.trans (hb9.mono HB8.out.size)
      have Q10 := Lib.hid (show Blk w10 q R 46 by rw [hw10, hq]; exact (RN.out w9).row R)
      have P10 := Lib.hid (show Blk w10 p R 46 by rw [hw10]; exact (P9.alloc _).rowOther (Nat.ne_of_lt P9.lt) R)
      have HB10 := Lib.hid (show Below w.heap.size w w10 by rw [hw10]; exact below_setRow (HB9.alloc HB9.size _) HB9.size R)
      rw [← hw10, ← hq]
      clear hw10 hq hb9 P9 HB9
      have heq := HEQ.out
      go_wp2_with (first
        | (refine wpList_val (.agg R) (by rfl) (run_loadVar_of 46 _ rfl q rfl 46 R _ Q10.out Try.underlying46 rfl RS.out) ?_)
        | (refine wpList_val (.agg R) (by rfl) (run_loadVar_of 46 _ rfl p rfl 46 R _ P10.out Try.underlying46 rfl RS.out) ?_))
      go_ret
      exact ⟨rfl, HB10.out⟩
end Go.Proofs.Ytpjfpcebjneblaa
end
section
namespace Go.Proofs.Ytpjfpcebjneblaa
open Go.RowKit
set_option linter.unusedVariables false
theorem fm_law (x0 : Bool) (x1 : Int) (x2 : Bool) (x3 x4 x5 x6 x7 x8 : Int) (port : Int) (w : World) (h1 : (Lit.int .u8 x1).wf = true) (h3 : (Lit.int .u16 x3).wf = true) (h4 : (Lit.int .u16 x4).wf = true) (h5 : (Lit.int .u16 x5).wf = true) (h6 : (Lit.int .u16 x6).wf = true) (h7 : (Lit.int .u16 x7).wf = true) (h8 : (Lit.int .u16 x8).wf = true) (hp : (Lit.int .i64 port).wf = true) :
    Calls Try.prog 6 #[.agg #[.bool x0, .int .u8 x1, .bool x2, .int .u16 x3, .int .u16 x4, .int .u16 x5, .int .u16 x6, .int .u16 x7, .int .u16 x8], .int .i64 port] w fun e w' => e = .returned (.bool true) ∧ Below w.heap.size w w' := by
  obtain ⟨y1, rfl, g1⟩ := nat_of_u8 h1
  obtain ⟨y3, rfl, g3⟩ := nat_of_u16 h3
  obtain ⟨y4, rfl, g4⟩ := nat_of_u16 h4
  obtain ⟨y5, rfl, g5⟩ := nat_of_u16 h5
  obtain ⟨y6, rfl, g6⟩ := nat_of_u16 h6
  obtain ⟨y7, rfl, g7⟩ := nat_of_u16 h7
  obtain ⟨y8, rfl, g8⟩ := nat_of_u16 h8
  exact fm_walk x0 y1 x2 y3 y4 y5 y6 y7 y8 port g1 g3 g4 g5 g6 g7 g8 w
end Go.Proofs.Ytpjfpcebjneblaa
end
