/- Made: what it reads, what it makes. -/
import Derived.Test.YtpbdamnlfpfclaaStrs
import Derived.Test.YtpbdamnlfpfclaaAddr
import Derived.Test.YtpbdamnlfpfclaaCst
namespace Go.Proofs.Ytpbdamnlfpfclaa
open Go.RowKit
set_option linter.unusedSimpArgs false
set_option linter.unusedVariables false

/-- Three numbers; four. -/
structure V3 where
  x0 : Nat
  x1 : Nat
  x2 : Nat
structure V4 where
  x0 : Nat
  x1 : Nat
  x2 : Nat
  x3 : Nat
def v3C (y : V3) : List Value := [.int .u16 (y.x0 : Nat), .int .u16 (y.x1 : Nat), .int .u16 (y.x2 : Nat)]
def v4C (y : V4) : List Value := [.int .u16 (y.x0 : Nat), .int .u16 (y.x1 : Nat), .int .u16 (y.x2 : Nat), .int .u16 (y.x3 : Nat)]
def V3.ok (y : V3) : Prop := y.x0 < 65536 ∧ y.x1 < 65536 ∧ y.x2 < 65536
def V4.ok (y : V4) : Prop := y.x0 < 65536 ∧ y.x1 < 65536 ∧ y.x2 < 65536 ∧ y.x3 < 65536
/-- What they make. -/
def vrOf (y : V3) : Vr := ⟨(y.x0 : Nat), (y.x1 : Nat), (y.x2 : Nat)⟩
def srOf (y : V3) : Sr := ⟨(y.x0 : Nat), (byteF y.x1 0 : Nat), (byteF y.x1 1 : Nat), (byteF y.x1 2 : Nat), (byteF y.x1 3 : Nat), (byteF y.x1 4 : Nat), (byteF y.x1 5 : Nat), (y.x2 : Nat)⟩
def frOf (y : V4) : Fr := ⟨(y.x0 : Nat), (byteF y.x1 0 : Nat), (byteF y.x1 1 : Nat), (byteF y.x1 2 : Nat), (byteF y.x1 3 : Nat), (byteF y.x1 4 : Nat), (byteF y.x1 5 : Nat), (y.x2 : Nat), (y.x3 : Nat)⟩
theorem built_vr (a b c : Nat) : Try.prog.built 54 [(0, .int .u16 (a : Nat)), (1, .int .u32 (b : Nat)), (2, .int .u32 (c : Nat))] = some (vrA (vrOf ⟨a, b, c⟩)) := by kernel_rfl
abbrev keyA (a b : Nat) : Array Value := #[.int .u16 (a : Nat), .int .u8 (byteF b 0 : Nat), .int .u8 (byteF b 1 : Nat), .int .u8 (byteF b 2 : Nat), .int .u8 (byteF b 3 : Nat), .int .u8 (byteF b 4 : Nat), .int .u8 (byteF b 5 : Nat)]
theorem built_key (a b : Nat) : Try.prog.built 58 [(0, .int .u16 (a : Nat)), (1, mac (byteF b))] = some (keyA a b) := by kernel_rfl
theorem built_sr (a b c : Nat) : Try.prog.built 60 [(0, .agg (keyA a b)), (1, .int .u32 (c : Nat))] = some (srA (srOf ⟨a, b, c⟩)) := by kernel_rfl
theorem built_fr (a b c d : Nat) : Try.prog.built 64 [(0, .agg (keyA a b)), (1, .int .i64 (c : Nat)), (2, .int .i64 (d : Nat))] = some (frA (frOf ⟨a, b, c, d⟩)) := by kernel_rfl
theorem wrap_small32 {x : Nat} (h : x < 65536) : IntKind.u32.wrap (x : Int) = (x : Int) := by
  simp [IntKind.wrap, IntKind.bits, IntKind.signed]
  omega
theorem wrap_small64 {x : Nat} (h : x < 65536) : IntKind.u64.wrap (x : Int) = (x : Int) := by
  simp [IntKind.wrap, IntKind.bits, IntKind.signed]
  omega
theorem wrap_smalli {x : Nat} (h : x < 65536) : IntKind.i64.wrap (x : Int) = (x : Int) := by
  simp [IntKind.wrap, IntKind.bits, IntKind.signed]
  omega
/-- A slice that came in. -/
structure RowsOk {α : Type} (w : World) (a : Option Addr) (n m size : Nat) (enc : α → List Value) (ok : α → Prop) (l : List α) : Prop where
  len : l.length = n
  rows : RowsAt w a size enc l
  ok : ∀ y ∈ l, ok y
  cap : n ≤ m ∧ m ≤ maxLen
theorem RowsOk.row {α : Type} {w0 w1 : World} {a : Option Addr} {n m size : Nat} {enc : α → List Value} {ok : α → Prop} {l : List α} (hb : Below w0.heap.size w0 w1) (h : RowsOk w0 a n m size enc ok l) {k : Nat} (hk : k < n) :
    ∃ ab off y, a = some ⟨ab, off, none⟩ ∧ l[k]? = some y ∧ ok y ∧ (k ≤ m ∧ n ≤ m) ∧ ∀ W, Below w1.heap.size w1 W → W.rangeAt ab (off + k * size) (enc y) := by
  obtain ⟨hl, hr, hok, hc⟩ := h
  obtain ⟨y, hy⟩ : ∃ y, l[k]? = some y := ⟨_, List.getElem?_eq_getElem (show k < l.length by omega)⟩
  rcases hr with hnil | ⟨ab, off, rfl, hab, hcells⟩
  · rw [hnil] at hy; simp at hy
  refine ⟨ab, off, y, rfl, hy, hok y (List.mem_of_getElem? hy), by omega, fun W hW j u hu => ?_⟩
  rw [(hb.trans (hW.mono hb.size)).cell (p := ⟨ab, off + k * size + j, none⟩) hab, Nat.add_assoc]
  exact hcells k y hy j u hu
/-- What came in, but for its slices. -/
structure Sd where
  cf : Cf
  beat : Int
  ct : Nat → Int
  ps : List Pp
  vs : List V3
  ss : List V3
  fs : List V4
def inL (s : Sd) (a1 : Option Addr) (n1 m1 : Nat) (a2 : Option Addr) (n2 m2 : Nat) (a3 : Option Addr) (n3 m3 : Nat) (a4 : Option Addr) (n4 m4 : Nat) : List Value := cfC s.cf ++ ([.int .i64 s.beat, .slice a1 n1 m1, .slice a2 n2 m2, .slice a3 n3 m3, .slice a4 n4 m4] ++ cL s.ct)
def inA (s : Sd) (a1 : Option Addr) (n1 m1 : Nat) (a2 : Option Addr) (n2 m2 : Nat) (a3 : Option Addr) (n3 m3 : Nat) (a4 : Option Addr) (n4 m4 : Nat) : Array Value := (inL s a1 n1 m1 a2 n2 m2 a3 n3 m3 a4 n4 m4).toArray
/-- What is made, so far. -/
def stK (s : Sd) (i j k l : Nat) : St := ⟨s.cf, (s.ps.take i).map toldP, (s.vs.take j).map vrOf, (s.ss.take k).map srOf, (s.fs.take l).map frOf, s.ct, s.beat⟩
abbrev madeS (s : Sd) : St := stK s 16 16 16 64
theorem stK_few (s : Sd) {i j k l : Nat} (hi : i ≤ 64) (hj : j ≤ 64) (hk : k ≤ 64) (hl : l ≤ 64) : (stK s i j k l).po.length ≤ 100 ∧ (stK s i j k l).vl.length ≤ 100 ∧ (stK s i j k l).st.length ≤ 100 ∧ (stK s i j k l).fd.length ≤ 100 := by
  simp only [stK, List.length_map, List.length_take]
  omega
theorem tm_step {α β : Type} {f : α → β} {l : List α} {k : Nat} {y : α} (h : l[k]? = some y) : (l.take k).map f ++ [f y] = (l.take (k + 1)).map f := by
  rw [List.take_add_one, h]
  simp
theorem tm_len {α β : Type} {f : α → β} {l : List α} {k : Nat} (h : k ≤ l.length) : ((l.take k).map f).length = k := by rw [List.length_map, List.length_take]; omega
theorem take_stop {α : Type} {l : List α} {k n m : Nat} (hl : l.length = n) (hk : k ≤ n) (hm : k ≤ m) (h : ¬ (k < n ∧ k < m)) : l.take k = l.take m := by
  by_cases c : k = m
  · rw [c]
  · rw [List.take_of_length_le (by omega), List.take_of_length_le (by omega)]
/-- What stays as it is. -/
structure MdH (w0 w1 : World) (zz : Array Value) (g c : Nat) (s : Sd) (a1 : Option Addr) (n1 m1 : Nat) (a2 : Option Addr) (n2 m2 : Nat) (a3 : Option Addr) (n3 m3 : Nat) (a4 : Option Addr) (n4 m4 : Nat) : Prop where
  below : Below w0.heap.size w0 w1
  hg : g = w0.heap.size
  hc : c = w1.heap.size
  hz : g + 1 < w1.heap.size
  kx : Blk w1 g (inA s a1 n1 m1 a2 n2 m2 a3 n3 m3 a4 n4 m4) 30
  kz : Blk w1 (g + 1) zz 41
  zs : zz.size = 25
  rp : RowsOk w0 a1 n1 m1 21 ppC (fun _ => True) s.ps
  rv : RowsOk w0 a2 n2 m2 3 v3C V3.ok s.vs
  rs : RowsOk w0 a3 n3 m3 3 v3C V3.ok s.ss
  rf : RowsOk w0 a4 n4 m4 4 v4C V4.ok s.fs
theorem MdH.cells {w0 w1 : World} {zz : Array Value} {g c : Nat} {s : Sd} {a1 : Option Addr} {n1 m1 : Nat} {a2 : Option Addr} {n2 m2 : Nat} {a3 : Option Addr} {n3 m3 : Nat} {a4 : Option Addr} {n4 m4 : Nat} (h : MdH w0 w1 zz g c s a1 n1 m1 a2 n2 m2 a3 n3 m3 a4 n4 m4) (W : World) (hW : Below w1.heap.size w1 W) :
    W.cell? ⟨g, 7, none⟩ = some (.slice a1 n1 m1) ∧ W.cell? ⟨g, 8, none⟩ = some (.slice a2 n2 m2) ∧ W.cell? ⟨g, 9, none⟩ = some (.slice a3 n3 m3) ∧ W.cell? ⟨g, 10, none⟩ = some (.slice a4 n4 m4) := by
  have q := h.kx.below hW h.kx.lt
  exact ⟨q.cell 7, q.cell 8, q.cell 9, q.cell 10⟩
/-- The world between two loops. -/
structure MjW (w1 : World) (c : Nat) (st : St) (v1 v2 v3 v4 : Value) (w : World) : Prop where
  below : Below w1.heap.size w1 w
  kc : Blk w c (stA st v1 v2 v3 v4) 41
  own : OwS w (c + 1) st v1 v2 v3 v4
/-- The world in a loop. -/
structure LpW {α : Type} (wj : World) (c : Nat) (st : St) (v1 v2 v3 v4 : Value) (e : TypeId) (size : Nat) (enc : α → List Value) (cur : Value) (l : List α) (w : World) : Prop where
  gr : wj.grownBy w (some c)
  kc : Blk w c (stA st v1 v2 v3 v4) 41
  own : Own w wj.heap.size e size enc cur l
/-- The code from a statement on, that is in no loop. -/
def fromC (n : Nat) : Code → Option Code
  | .region id ops d => if id = n then some (.region id ops d) else none
  | .seq x y => match fromC n x with
    | some x' => some (.seq x' y)
    | none => fromC n y
  | .block _ c => fromC n c
  | .scope c => fromC n c
  | _ => none
noncomputable def tail6 (n : Nat) : Code := ((Try.f6.body.bind (fromC n)).getD .skip)
end Go.Proofs.Ytpbdamnlfpfclaa
