import Derived.Shelf.Strings.Builder1
import Derived.Shelf.Strings.Builder2
import Derived.Shelf.Strings.OnBuilder
import Derived.Shelf.Strconv.Itoa0
import Derived.Shelf.Strconv.Itoa1
import Derived.Shelf.LaysM
import Derived.Shelf.Strconv.Itoa2
import Derived.Shelf.Strconv.Itoa4
import Derived.Test.YtccbdmccfbjmeaaDoorProg
import Derived.Laws.CopyOwn
import Derived.Laws.Rows
import Derived.Laws.Tables
import Derived.Deep.MidRow
import Derived.BigFrame
import Derived.Below
import Derived.WalkKit
import Derived.Lib.Hide
import Derived.Deep.QuietTactic
import Derived.BigQuiet
import Derived.RegionTactic
import Derived.Deep.DeepCutAuto
import Derived.IntWalk
import Derived.WalkLawsBesides
import Derived.WalkSpells
import Derived.Shelf.Abstract
import Derived.Laws.StructEq
import Derived.ChangeKeysEq
set_option linter.unusedSimpArgs false
set_option linter.unusedVariables false
namespace Go.Proofs.YtccbdmccfbjmeaaDoor
section
/- Contracts of the library, laid at the seat: strings.Join, strconv.FormatInt, and what strconv.FormatUint calls. -/
open Go.Shelf
def shJ_ren : Go.Shelf.Ren := ⟨fun | 156 => 22 | 165 => 27 | 166 => 28 | 169 => 29 | 240 => 37 | 241 => 38 | 276 => 45 | 277 => 46 | n => n, fun | 31 => 42 | 70 => 73 | 72 => 75 | 75 => 78 | 76 => 79 | 127 => 87 | 164 => 94 | 37 => 58 | 80 => 56 | 20 => 20 | n => n, fun  | n => n⟩
theorem shJ : Go.Proofs.Lays.n156 Tryd.prog shJ_ren := {
  mixed := by kernel_rfl
  f156 := Tryd.func22.trans (congrArg some (by kernel_rfl))
  f165 := Tryd.func27.trans (congrArg some (by kernel_rfl))
  f166 := Tryd.func28.trans (congrArg some (by kernel_rfl))
  f169 := Tryd.func29.trans (congrArg some (by kernel_rfl))
  f240 := Tryd.func37.trans (congrArg some (by kernel_rfl))
  f241 := Tryd.func38.trans (congrArg some (by kernel_rfl))
  f276 := Tryd.func45.trans (congrArg some (by kernel_rfl))
  f277 := Tryd.func46.trans (congrArg some (by kernel_rfl))
  t0 := Tryd.underlying0
  a0 := Tryd.isAgg0
  z0 := Tryd.sizeOf0
  v0 := Tryd.zeroValue0
  t3 := Tryd.underlying3
  a3 := Tryd.isAgg3
  z3 := Tryd.sizeOf3
  v3 := Tryd.zeroValue3
  t4 := Tryd.underlying4
  a4 := Tryd.isAgg4
  z4 := Tryd.sizeOf4
  v4 := Tryd.zeroValue4
  t9 := Tryd.underlying9
  a9 := Tryd.isAgg9
  z9 := Tryd.sizeOf9
  v9 := Tryd.zeroValue9
  t20 := Tryd.underlying20
  a20 := Tryd.isAgg20
  z20 := Tryd.sizeOf20
  v20 := Tryd.zeroValue20
  t31 := Tryd.underlying42
  a31 := Tryd.isAgg42
  z31 := Tryd.sizeOf42
  v31 := Tryd.zeroValue42
  t37 := Tryd.underlying58
  a37 := Tryd.isAgg58
  z37 := Tryd.sizeOf58
  v37 := Tryd.zeroValue58
  t70 := Tryd.underlying73
  a70 := Tryd.isAgg73
  z70 := Tryd.sizeOf73
  v70 := Tryd.zeroValue73
  t72 := Tryd.underlying75
  a72 := Tryd.isAgg75
  z72 := Tryd.sizeOf75
  v72 := Tryd.zeroValue75
  t75 := Tryd.underlying78
  a75 := Tryd.isAgg78
  z75 := Tryd.sizeOf78
  v75 := Tryd.zeroValue78
  t76 := Tryd.underlying79
  a76 := Tryd.isAgg79
  z76 := Tryd.sizeOf79
  v76 := Tryd.zeroValue79
  t127 := Tryd.underlying87
  a127 := Tryd.isAgg87
  z127 := Tryd.sizeOf87
  v127 := Tryd.zeroValue87
  t164 := Tryd.underlying94
  a164 := Tryd.isAgg94
  z164 := Tryd.sizeOf94
  v164 := Tryd.zeroValue94 }
theorem shX : Builder.Extra Tryd.prog shJ_ren := {
  sizeBuilder := by kernel_rfl
  liesBuilder := by kernel_rfl
  t5 := Tryd.underlying5
  a5 := Tryd.isAgg5
  z5 := Tryd.sizeOf5
  v5 := Tryd.zeroValue5
  infoByte := by kernel_rfl
  cellsByte := by kernel_rfl
  sizeByte := by kernel_rfl
  neB5 := by decide }
open Go.RowKit in
/-- No element: the empty string; the world is as it was. (Whatever the slice's address and capacity: a nil slice too.) (LAID: no walk: one application.) -/
theorem sh_join_none (a : Option Addr) (c : Nat) (sep : ByteArray) (w : World) :
    Calls Tryd.prog 22 #[.slice a 0 c, .string sep] w fun e w' => e = .returned (.string ⟨#[]⟩) ∧ w' = w := Any.strings_Join_none shJ shX a c sep w
open Go.RowKit in
/-- strings.Join: "Join concatenates the elements of its first argument to create a single string. The separator string sep is placed between elements in the resulting string.": HOWEVER MANY ELEMENTS. Below the heap's end the world is as it was. (LAID: no walk: one application.) -/
theorem sh_join (bk o c : Nat) (xs : List ByteArray) (sep : ByteArray) (w : World) (hcells : ∀ (j : Nat) x, xs[j]? = some x → w.cell? ⟨bk, o + j, none⟩ = some (.string x)) (hbk : bk < w.heap.size) (hN : xs.length ≤ 140737488355328) (hcap : xs.length ≤ c) (hlen : (Lib.join (xs.map (·.data.toList)) sep.data.toList).length ≤ 140737488355328) :
    Calls Tryd.prog 22 #[.slice (some ⟨bk, o, none⟩) xs.length c, .string sep] w fun e w' => e = .returned (.string ⟨(Lib.join (xs.map (·.data.toList)) sep.data.toList).toArray⟩) ∧ Below w.heap.size w w' := Any.strings_Join shJ shX bk o c xs sep w hcells hbk hN hcap hlen
def shS_ren : Go.Shelf.Ren := ⟨fun | 283 => 33 | n => n, fun  | n => n, fun  | n => n⟩
theorem shS : Go.Proofs.Lays.n283 Tryd.prog shS_ren := {
  mixed := by kernel_rfl
  f283 := Tryd.func33.trans (congrArg some (by kernel_rfl))
  t3 := Tryd.underlying3
  a3 := Tryd.isAgg3
  z3 := Tryd.sizeOf3
  v3 := Tryd.zeroValue3
  t4 := Tryd.underlying4
  a4 := Tryd.isAgg4
  z4 := Tryd.sizeOf4
  v4 := Tryd.zeroValue4
  t9 := Tryd.underlying9
  a9 := Tryd.isAgg9
  z9 := Tryd.sizeOf9
  v9 := Tryd.zeroValue9 }
open Go.Lib in
/-- internal/strconv.small: "small returns the string for an i with 0 <= i < nSmalls.": i's decimal numeral. The world is as it was. (LAID: no walk: one application.) -/
theorem sh_small (i : Nat) (h : i < 100) (w : World) :
    Calls Tryd.prog 33 #[.int .i64 i] w fun e w' => e = .returned (.string ⟨(Lib.decDigits i).toArray⟩) ∧ w' = w := Any.internal_strconv_small shS i h w
def shD_ren : Go.Shelf.Ren := ⟨fun | 129 => 41 | 284 => 34 | 317 => 40 | 318 => 42 | n => n, fun | 46 => 40 | 53 => 22 | 212 => 91 | n => n, fun | 17 => 2 | n => n⟩
theorem shD : Go.Proofs.LaysM.n284 Tryd.prog shD_ren := {
  mixed := by kernel_rfl
  f129 := Tryd.func41.trans (congrArg some (by kernel_rfl))
  f284 := Tryd.func34.trans (congrArg some (by kernel_rfl))
  f317 := Tryd.func40.trans (congrArg some (by kernel_rfl))
  f318 := Tryd.func42.trans (congrArg some (by kernel_rfl))
  t0 := Tryd.underlying0
  a0 := Tryd.isAgg0
  z0 := Tryd.sizeOf0
  v0 := Tryd.zeroValue0
  t3 := Tryd.underlying3
  a3 := Tryd.isAgg3
  z3 := Tryd.sizeOf3
  v3 := Tryd.zeroValue3
  t4 := Tryd.underlying4
  a4 := Tryd.isAgg4
  z4 := Tryd.sizeOf4
  v4 := Tryd.zeroValue4
  t5 := Tryd.underlying5
  a5 := Tryd.isAgg5
  z5 := Tryd.sizeOf5
  v5 := Tryd.zeroValue5
  t9 := Tryd.underlying9
  a9 := Tryd.isAgg9
  z9 := Tryd.sizeOf9
  v9 := Tryd.zeroValue9
  t46 := Tryd.underlying40
  a46 := Tryd.isAgg40
  z46 := Tryd.sizeOf40
  v46 := Tryd.zeroValue40
  t53 := Tryd.underlying22
  a53 := Tryd.isAgg22
  z53 := Tryd.sizeOf22
  v53 := Tryd.zeroValue22
  t212 := Tryd.underlying91
  a212 := Tryd.isAgg91
  z212 := Tryd.sizeOf91
  v212 := Tryd.zeroValue91
  g17 := by kernel_rfl
  i0 := by kernel_rfl
  i3 := by kernel_rfl
  i4 := by kernel_rfl
  i5 := by kernel_rfl
  i9 := by kernel_rfl
  i46 := by kernel_rfl
  i53 := by kernel_rfl
  i212 := by kernel_rfl
  m17 := by kernel_rfl }
open Go.Lib in
/-- internal/strconv.numDigits, at a d that is not 0: THE NUMBER OF d's DECIMAL DIGITS. The world is as it was. (LAID: no walk: one application.) -/
theorem sh_digits (u : Nat) (h1 : 1 ≤ u) (h2 : u < 18446744073709551616) (w : World) (htab : Lib.TabIs Tryd.prog w "internal/strconv.uint64pow10" .u64 Lib.pow10Tab) :
    Calls Tryd.prog 34 #[.int .u64 u] w fun e w' => e = .returned (.int .i64 (Lib.nDigits u)) ∧ w' = w := Any.internal_strconv_numDigits shD u h1 h2 w htab
def shF_ren : Go.Shelf.Ren := ⟨fun | 285 => 35 | n => n, fun | 37 => 58 | 51 => 24 | 53 => 22 | n => n, fun  | n => n⟩
theorem shF : Go.Proofs.Lays.n285 Tryd.prog shF_ren := {
  mixed := by kernel_rfl
  f285 := Tryd.func35.trans (congrArg some (by kernel_rfl))
  t0 := Tryd.underlying0
  a0 := Tryd.isAgg0
  z0 := Tryd.sizeOf0
  v0 := Tryd.zeroValue0
  t3 := Tryd.underlying3
  a3 := Tryd.isAgg3
  z3 := Tryd.sizeOf3
  v3 := Tryd.zeroValue3
  t4 := Tryd.underlying4
  a4 := Tryd.isAgg4
  z4 := Tryd.sizeOf4
  v4 := Tryd.zeroValue4
  t5 := Tryd.underlying5
  a5 := Tryd.isAgg5
  z5 := Tryd.sizeOf5
  v5 := Tryd.zeroValue5
  t9 := Tryd.underlying9
  a9 := Tryd.isAgg9
  z9 := Tryd.sizeOf9
  v9 := Tryd.zeroValue9
  t37 := Tryd.underlying58
  a37 := Tryd.isAgg58
  z37 := Tryd.sizeOf58
  v37 := Tryd.zeroValue58
  t51 := Tryd.underlying24
  a51 := Tryd.isAgg24
  z51 := Tryd.sizeOf24
  v51 := Tryd.zeroValue24
  t53 := Tryd.underlying22
  a53 := Tryd.isAgg22
  z53 := Tryd.sizeOf22
  v53 := Tryd.zeroValue22 }
open Go.RowKit Go.Sort Go.Lib in
/-- internal/strconv.formatBase10: "formatBase10 formats the decimal representation of u into a. The caller is responsible for ensuring that a is big enough to hold u. If a is too big, leading zeros will be filled in as needed.": THE ROW HOLDS u's DIGITS ('FmtInv .. 0 ..': every place t holds 'dg u (len - 1 - t)'); all else is as it was but for the count of draws. (LAID: no walk: one application.) -/
theorem sh_format (blk off cap : Nat) (u : Nat) (d : Array UInt8) (w : World) (hH : Holds (fun (b : UInt8) => Value.int .u8 (b.toNat : Int)) w blk off d) (hu : u < 10 ^ d.size) (hu64 : u < 18446744073709551616) (hsz : d.size < 4611686018427387904) :
    Calls Tryd.prog 35 #[.slice (some ⟨blk, off, none⟩) d.size cap, .int .u64 u] w fun e w' =>
      e = .returned (.tuple #[]) ∧ ∃ (n v' : Nat) (dk : Array UInt8), w' = (putRow (fun (b : UInt8) => Value.int .u8 (b.toNat : Int)) w blk off dk).drewN n ∧ FmtInv d.size u 0 v' dk := Any.internal_strconv_formatBase10 shF blk off cap u d w hH hu hu64 hsz
def shI_ren : Go.Shelf.Ren := ⟨fun | 129 => 41 | 173 => 23 | 246 => 30 | 283 => 33 | 284 => 34 | 285 => 35 | 286 => 36 | 317 => 40 | 318 => 42 | 319 => 43 | 320 => 44 | 337 => 47 | 338 => 48 | n => n, fun | 37 => 58 | 46 => 40 | 51 => 24 | 53 => 22 | 171 => 82 | 173 => 85 | 212 => 91 | 213 => 92 | 232 => 98 | 233 => 99 | 20 => 20 | n => n, fun | 17 => 2 | 18 => 4 | 19 => 5 | n => n⟩
theorem shI : Go.Proofs.LaysM.n173 Tryd.prog shI_ren := {
  mixed := by kernel_rfl
  f129 := Tryd.func41.trans (congrArg some (by kernel_rfl))
  f173 := Tryd.func23.trans (congrArg some (by kernel_rfl))
  f246 := Tryd.func30.trans (congrArg some (by kernel_rfl))
  f283 := Tryd.func33.trans (congrArg some (by kernel_rfl))
  f284 := Tryd.func34.trans (congrArg some (by kernel_rfl))
  f285 := Tryd.func35.trans (congrArg some (by kernel_rfl))
  f286 := Tryd.func36.trans (congrArg some (by kernel_rfl))
  f317 := Tryd.func40.trans (congrArg some (by kernel_rfl))
  f318 := Tryd.func42.trans (congrArg some (by kernel_rfl))
  f319 := Tryd.func43.trans (congrArg some (by kernel_rfl))
  f320 := Tryd.func44.trans (congrArg some (by kernel_rfl))
  f337 := Tryd.func47.trans (congrArg some (by kernel_rfl))
  f338 := Tryd.func48.trans (congrArg some (by kernel_rfl))
  t0 := Tryd.underlying0
  a0 := Tryd.isAgg0
  z0 := Tryd.sizeOf0
  v0 := Tryd.zeroValue0
  t2 := Tryd.underlying2
  a2 := Tryd.isAgg2
  z2 := Tryd.sizeOf2
  v2 := Tryd.zeroValue2
  t3 := Tryd.underlying3
  a3 := Tryd.isAgg3
  z3 := Tryd.sizeOf3
  v3 := Tryd.zeroValue3
  t4 := Tryd.underlying4
  a4 := Tryd.isAgg4
  z4 := Tryd.sizeOf4
  v4 := Tryd.zeroValue4
  t5 := Tryd.underlying5
  a5 := Tryd.isAgg5
  z5 := Tryd.sizeOf5
  v5 := Tryd.zeroValue5
  t9 := Tryd.underlying9
  a9 := Tryd.isAgg9
  z9 := Tryd.sizeOf9
  v9 := Tryd.zeroValue9
  t20 := Tryd.underlying20
  a20 := Tryd.isAgg20
  z20 := Tryd.sizeOf20
  v20 := Tryd.zeroValue20
  t37 := Tryd.underlying58
  a37 := Tryd.isAgg58
  z37 := Tryd.sizeOf58
  v37 := Tryd.zeroValue58
  t46 := Tryd.underlying40
  a46 := Tryd.isAgg40
  z46 := Tryd.sizeOf40
  v46 := Tryd.zeroValue40
  t51 := Tryd.underlying24
  a51 := Tryd.isAgg24
  z51 := Tryd.sizeOf24
  v51 := Tryd.zeroValue24
  t53 := Tryd.underlying22
  a53 := Tryd.isAgg22
  z53 := Tryd.sizeOf22
  v53 := Tryd.zeroValue22
  t171 := Tryd.underlying82
  a171 := Tryd.isAgg82
  z171 := Tryd.sizeOf82
  v171 := Tryd.zeroValue82
  t173 := Tryd.underlying85
  a173 := Tryd.isAgg85
  z173 := Tryd.sizeOf85
  v173 := Tryd.zeroValue85
  t212 := Tryd.underlying91
  a212 := Tryd.isAgg91
  z212 := Tryd.sizeOf91
  v212 := Tryd.zeroValue91
  t213 := Tryd.underlying92
  a213 := Tryd.isAgg92
  z213 := Tryd.sizeOf92
  t232 := Tryd.underlying98
  a232 := Tryd.isAgg98
  z232 := Tryd.sizeOf98
  v232 := Tryd.zeroValue98
  t233 := Tryd.underlying99
  a233 := Tryd.isAgg99
  z233 := Tryd.sizeOf99
  v233 := Tryd.zeroValue99
  g17 := by kernel_rfl
  g18 := by kernel_rfl
  g19 := by kernel_rfl
  i0 := by kernel_rfl
  i2 := by kernel_rfl
  i3 := by kernel_rfl
  i4 := by kernel_rfl
  i5 := by kernel_rfl
  i9 := by kernel_rfl
  i20 := by kernel_rfl
  i37 := by kernel_rfl
  i46 := by kernel_rfl
  i51 := by kernel_rfl
  i53 := by kernel_rfl
  i171 := by kernel_rfl
  i173 := by kernel_rfl
  i212 := by kernel_rfl
  i232 := by kernel_rfl
  i233 := by kernel_rfl
  m17 := by kernel_rfl
  m18 := by kernel_rfl
  m19 := by kernel_rfl }
open Go.RowKit Go.Sort Go.Lib in
/-- strconv.FormatInt at base 10: any int64's decimal numeral. -/
theorem sh_int (n : Int) (h0 : -9223372036854775808 ≤ n) (h1 : n ≤ 9223372036854775807) (w : World) (htab : Lib.TabIs Tryd.prog w "internal/strconv.uint64pow10" .u64 Lib.pow10Tab) :
    Calls Tryd.prog 23 #[.int .i64 n, .int .i64 10] w fun e w' => e = .returned (.string ⟨(Lib.itoa n).toArray⟩) ∧ ∃ k os, w' = grow (w.drewN k) os := Any.strconv_FormatInt_10 shI n h0 h1 w htab
end
section
/- Blocks of cells that are known whole; loads of rows and of parts of rows; stores of one cell; with no program in sight. -/
open Go.RowKit

/-- Block g is just these cells. -/
def Blk (w : World) (g : Nat) (cs : Array Value) (t : TypeId) : Prop := w.heap[g]? = some (.cells cs t (0, 0))

theorem Blk.set {w : World} {g : Nat} {cs : Array Value} {t : TypeId} (h : Blk w g cs t) (j : Nat) (u : Value) : Blk (w.setCell ⟨g, j, none⟩ u) g (cs.setIfInBounds j u) t := heap_setCell_same w g j cs t u h
theorem Blk.other {w : World} {g : Nat} {cs : Array Value} {t : TypeId} (h : Blk w g cs t) {a : Addr} (ha : a.block ≠ g) (u : Value) : Blk (w.setCell a u) g cs t := (heap_setCell_other w a g u (fun e => ha e.symm)).trans h
theorem Blk.cell {w : World} {g : Nat} {cs : Array Value} {t : TypeId} (h : Blk w g cs t) (j : Nat) : w.cell? ⟨g, j, none⟩ = cs[j]? := cell_of_row w g j cs t (0, 0) h
theorem Blk.free {w : World} {g : Nat} {cs : Array Value} {t : TypeId} (h : Blk w g cs t) (j : Nat) : w.frozen? ⟨g, j, none⟩ = false := frozen_of_row w g j cs t h
theorem Blk.lt {w : World} {g : Nat} {cs : Array Value} {t : TypeId} (h : Blk w g cs t) : g < w.heap.size := by
  rcases Nat.lt_or_ge g w.heap.size with c | c
  · exact c
  · unfold Blk at h
    rw [Array.getElem?_eq_none c] at h
    cases h
theorem Blk.below {w w' : World} {B g : Nat} {cs : Array Value} {t : TypeId} (h : Blk w g cs t) (hb : Below B w w') (hg : g < B) : Blk w' g cs t := (hb.block g hg).trans h
theorem Blk.alloc {w : World} {g : Nat} {cs : Array Value} {t : TypeId} (h : Blk w g cs t) (o : Obj) : Blk (w.alloc o) g cs t := (Below.heap_alloc w o g h.lt).trans h
theorem Blk.new (w : World) (cs : Array Value) (t : TypeId) : Blk (w.alloc (.cells cs t)) w.heap.size cs t := by
  show (w.heap.push _)[w.heap.size]? = _
  simp
theorem Blk.drew {w : World} {g : Nat} {cs : Array Value} {t : TypeId} (h : Blk w g cs t) : Blk w.drew g cs t := h
theorem Blk.row {w : World} {g : Nat} {cs : Array Value} {t : TypeId} (h : Blk w g cs t) (new : Array Value) : Blk (w.setRow g new) g new t := setRow_heap w g cs new t (0, 0) h
theorem Blk.grown {w w' : World} {g : Nat} {cs : Array Value} {t : TypeId} {r : Option Nat} (h : Blk w g cs t) (hg : w.grownBy w' r) (hr : some g ≠ r) : Blk w' g cs t := (hg.block g h.lt hr).trans h

theorem Blk.rowOther {w : World} {g k : Nat} {cs : Array Value} {t : TypeId} (h : Blk w g cs t) (hk : g ≠ k) (new : Array Value) : Blk (w.setRow k new) g cs t := (setRow_other w k g new hk).trans h

/-- Two results: a row, and a slot. -/
theorem results_row_tmp {P : Program} {fn : Func} {p u : Tmp} {ty : TypeId} (h : fn.results = #[.cell p ty, .tmp u]) (tmps : Array Value) (w : World) (g : Nat) (t : TypeId) (cs : Array Value) (v : Value) (d : TypeDesc)
    (hp : tmps.getD p undef = .pointer (some ⟨g, 0, none⟩)) (hv : tmps.getD u undef = v) (hg : Blk w g cs t)
    (hu : P.underlying ty = some d) (hd : (match d with | .struct _ | .array _ _ => true | _ => false) = true) (hi : (P.info? ty).map (·.size) = some cs.size) :
    (results fn tmps).run P w = .ok (.tuple #[.agg cs, v]) w := by
  have hp' : tmps[p]?.getD undef = .pointer (some ⟨g, 0, none⟩) := by simpa using hp
  have hv' : tmps[u]?.getD undef = v := by simpa using hv
  simp [results, h, hp', hv', asAddr, run_loadVar_row w g t ty cs (0, 0) d hg hu hd hi]

theorem run_loadVar_of {P : Program} {o : Oper} {a : Act} {w : World} (ty : TypeId) (x : Operand) (ho : o.op = .load ty x) (g : Nat) (hx : a.eval x = .pointer (some ⟨g, 0, none⟩)) (t : TypeId) (cs : Array Value) (d : TypeDesc) (hg : Blk w g cs t)
    (hu : P.underlying ty = some d) (hd : (match d with | .struct _ | .array _ _ => true | _ => false) = true) (hi : (P.info? ty).map (·.size) = some cs.size) :
    (execOp a.eval o).run P w = .ok (.value (.agg cs)) w := by
  unfold execOp
  simp only [ho, hx, Instr.loadAt, Instr.sureAddr, Sem.run_bind, Sem.run_pure, Result.andThen_ok, run_loadVar_row w g t ty cs (0, 0) d hg hu hd hi]

/-- These blocks are known whole; nothing that was there at first has turned. -/
structure Kn (w0 : World) (l : List (Nat × Array Value × TypeId)) (w : World) : Prop where
  all : ∀ x ∈ l, Blk w x.1 x.2.1 x.2.2
  below : Below w0.heap.size w0 w
section
variable {w0 w w' : World} {l l' : List (Nat × Array Value × TypeId)} {c : Nat} {a : Array Value} {t : TypeId}
theorem Kn.nil (w0 : World) : Kn w0 [] w0 := ⟨fun _ h => (by cases h), Below.refl _ _⟩
theorem Kn.at (h : Kn w0 l w) (i : Nat) {c : Nat} {a : Array Value} {t : TypeId} (e : l[i]? = some (c, a, t)) : Blk w c a t := h.all _ (List.mem_of_getElem? e)
theorem Kn.drew (h : Kn w0 l w) : Kn w0 l w.drew := ⟨fun x hx => (h.all x hx).drew, h.below.drew⟩
theorem Kn.next (h : Kn w0 l w) (hb : Below w.heap.size w w') : Kn w0 l w' := ⟨fun x hx => (h.all x hx).below hb (h.all x hx).lt, h.below.trans (hb.mono h.below.size)⟩
theorem Kn.alloc (h : Kn w0 l w) (a : Array Value) (t : TypeId) : Kn w0 ((w.heap.size, a, t) :: l) (w.alloc (.cells a t)) := by
  refine ⟨fun x hx => ?_, h.below.alloc h.below.size _⟩
  rcases List.mem_cons.1 hx with rfl | hx
  · exact Blk.new _ _ _
  · exact (h.all x hx).alloc _
theorem Kn.row (h : Kn w0 ((c, a, t) :: l) w) (hc : ∀ x ∈ l, x.1 ≠ c) (h0 : w0.heap.size ≤ c) (n : Array Value) : Kn w0 ((c, n, t) :: l) (w.setRow c n) := by
  refine ⟨fun x hx => ?_, below_setRow h.below h0 n⟩
  rcases List.mem_cons.1 hx with rfl | hx
  · exact (h.all (c, a, t) List.mem_cons_self).row n
  · exact (h.all x (List.mem_cons_of_mem _ hx)).rowOther (hc x hx) n
theorem Kn.set (h : Kn w0 ((c, a, t) :: l) w) (hc : ∀ x ∈ l, x.1 ≠ c) (h0 : w0.heap.size ≤ c) (j : Nat) (v : Value) : Kn w0 ((c, a.setIfInBounds j v, t) :: l) (w.setCell ⟨c, j, none⟩ v) := by
  refine ⟨fun x hx => ?_, h.below.setCell h0 _⟩
  rcases List.mem_cons.1 hx with rfl | hx
  · exact (h.all (c, a, t) List.mem_cons_self).set j v
  · exact (h.all x (List.mem_cons_of_mem _ hx)).other (a := ⟨c, j, none⟩) (fun e => hc x hx e.symm) v
/-- A block that is made and filled at once. -/
theorem Kn.laid (h : Kn w0 l w) (n a : Array Value) (t : TypeId) : Kn w0 ((w.heap.size, n, t) :: l) ((w.alloc (.cells a t)).setRow w.heap.size n) :=
  (h.alloc a t).row (fun x hx => Nat.ne_of_lt (h.all x hx).lt) h.below.size n
theorem Kn.sub (h : Kn w0 l w) (s : ∀ x ∈ l', x ∈ l) : Kn w0 l' w := ⟨fun x hx => h.all x (s x hx), h.below⟩
theorem Kn.fresh (h : Kn w0 l w) : ∀ x ∈ l, x.1 ≠ w.heap.size := fun x hx => Nat.ne_of_lt (h.all x hx).lt
theorem Kn.size (h : Kn w0 l w) : w0.heap.size ≤ w.heap.size := h.below.size
end

/-- An operation that yields a value, guarded or not. -/
theorem wpList_val {P : Program} {ops : Array Oper} {Q : Exit → Act → World → Prop} {a : Act} {w : World} {rest : List Oper} {o : Oper} (v : Value) (hw : Region.wanted o (yielded ops a.tmps) = true)
    (hrun : (execOp a.eval o).run P w = .ok (.value v) w) (h : wpList P ops Q rest (a.put o.dst v) w) : wpList P ops Q (o :: rest) a w :=
  BigFrame.wpList_want hw fun K hK => by unfold Oper.wp; simp only [hrun]; exact hK _ _ h

/-- A part of a row. -/
theorem run_loadPart_of {P : Program} {o : Oper} {a : Act} {w : World} (ty : TypeId) (x : Operand) (ho : o.op = .load ty x) (g j : Nat) (hx : a.eval x = .pointer (some ⟨g, j, none⟩)) (t : TypeId) (cs : Array Value) (part : List Value) (d : TypeDesc) (hg : Blk w g cs t)
    (hp : ∀ i v, part[i]? = some v → cs[j + i]? = some v)
    (hu : P.underlying ty = some d) (hd : d.isRow = true) (hi : (P.info? ty).map (·.size) = some part.length) :
    (execOp a.eval o).run P w = .ok (.value (.agg part.toArray)) w := by
  unfold execOp
  have hr : w.rangeAt g j part := fun i v hv => by rw [hg.cell]; exact hp i v hv
  simp only [ho, hx, Instr.loadAt, Instr.sureAddr, Sem.run_bind, Sem.run_pure, Result.andThen_ok, run_loadVar_mid w g j ty part d hr hu hd hi]
/-- A store of one cell. -/
theorem wp_store_cell {P : Program} {o : Oper} {a : Act} {w : World} {K : Act → World → Prop} {Q : Exit → Act → World → Prop} (ty : TypeId) (x y : Operand) (ho : o.op = .store ty x y)
    (p : Addr) (v : Value) (hx : a.eval x = .pointer (some p)) (hy : a.eval y = v) (hrun : (Instr.storeAt ty (.pointer (some p)) v).run P w = .ok () (w.setCell p v))
    (h : K (a.put o.dst undef) (w.setCell p v)) : o.wp P a w K Q := by
  unfold Oper.wp execOp
  simp only [ho, hx, hy, Sem.run_bind, Sem.run_pure, hrun, Result.andThen_ok]
  exact h
end
end Go.Proofs.YtccbdmccfbjmeaaDoor
section
/- Plain arithmetic on bits and bytes, with no program in sight: what the contracts of layer 1 say. -/
namespace Go.Proofs.YtccbdmccfbjmeaaDoor.Nums

/-- Are 'a' and 'n' a place and a width of bits of a number? -/
def good (a n : Int) : Prop := 0 ≤ a ∧ a ≤ 63 ∧ 1 ≤ n ∧ n ≤ 64 - a
instance (a n : Int) : Decidable (good a n) := by unfold good; infer_instance

/-- The mask of the bits at a place. -/
def maskN (a n : Int) : Nat := if good a n then (2 ^ n.toNat - 1) * 2 ^ a.toNat else 0
/-- Some bits of a number. -/
def fieldN (x : Nat) (a n : Int) : Nat := if good a n then x / 2 ^ a.toNat % 2 ^ n.toNat else 0
/-- A number with some bits of another one. -/
def withN (x : Nat) (a n : Int) (v : Nat) : Nat :=
  if good a n then (x &&& (18446744073709551615 - maskN a n)) ||| ((v * 2 ^ a.toNat % 18446744073709551616) &&& maskN a n) else x

theorem pow_le (k : Nat) (h : k ≤ 64) : 2 ^ k ≤ 18446744073709551616 := by
  have := Nat.pow_le_pow_right (n := 2) (by omega) h
  simpa using this

theorem two_pos (k : Nat) : 0 < 2 ^ k := Nat.two_pow_pos k

theorem maskN_lt (a n : Int) : maskN a n < 18446744073709551616 := by
  unfold maskN
  split
  · rename_i h
    obtain ⟨h1, h2, h3, h4⟩ := h
    have e : 2 ^ n.toNat * 2 ^ a.toNat = 2 ^ (n.toNat + a.toNat) := (Nat.pow_add ..).symm
    have l := pow_le (n.toNat + a.toNat) (by omega)
    have p := two_pos a.toNat
    rw [Nat.sub_mul, e]
    omega
  · omega

theorem maskN_pos (a n : Int) (h : good a n) : 0 < maskN a n := by
  unfold maskN
  rw [if_pos h]
  obtain ⟨h1, h2, h3, h4⟩ := h
  have : 2 ^ 1 ≤ 2 ^ n.toNat := Nat.pow_le_pow_right (by omega) (by omega)
  exact Nat.mul_pos (by omega) (two_pos _)

theorem maskN_no (a n : Int) (h : ¬ good a n) : maskN a n = 0 := by unfold maskN; rw [if_neg h]

theorem testBit_mask (w a i : Nat) : ((2 ^ w - 1) * 2 ^ a).testBit i = (decide (a ≤ i) && decide (i < w + a)) := by
  rw [Nat.testBit_mul_two_pow, Nat.testBit_two_pow_sub_one]
  by_cases h : a ≤ i
  · simp [h]; omega
  · simp [h]

theorem and_mask_div (x w a : Nat) : (x &&& ((2 ^ w - 1) * 2 ^ a)) / 2 ^ a = x / 2 ^ a % 2 ^ w := by
  apply Nat.eq_of_testBit_eq
  intro i
  rw [Nat.testBit_div_two_pow, Nat.testBit_and, testBit_mask, Nat.testBit_mod_two_pow, Nat.testBit_div_two_pow]
  have e : decide (a ≤ i + a) = true := by simp
  have f : decide (i + a < w + a) = decide (i < w) := by simp
  rw [e, f]
  cases x.testBit (i + a) <;> simp

theorem full_div (n : Nat) (h1 : n ≤ 64) : 18446744073709551615 / 2 ^ (64 - n) = 2 ^ n - 1 := by
  have e : 2 ^ n * 2 ^ (64 - n) = 18446744073709551616 := by rw [← Nat.pow_add, show n + (64 - n) = 64 by omega]
  have p := two_pos (64 - n)
  have q := two_pos n
  apply Nat.div_eq_of_lt_le
  · rw [Nat.sub_mul, e]; omega
  · have r : 2 ^ n - 1 + 1 = 2 ^ n := by omega
    rw [r, e]; omega

theorem fieldN_eq (x : Nat) (a n : Int) (h : good a n) : (x &&& maskN a n) / 2 ^ a.toNat = fieldN x a n := by
  unfold maskN fieldN
  rw [if_pos h, if_pos h, and_mask_div]

theorem fieldN_no (x : Nat) (a n : Int) (h : ¬ good a n) : fieldN x a n = 0 := by unfold fieldN; rw [if_neg h]

theorem fieldN_le (x : Nat) (a n : Int) (hx : x < 18446744073709551616) : fieldN x a n < 18446744073709551616 := by
  unfold fieldN
  split
  · exact Nat.lt_of_le_of_lt (Nat.mod_le _ _) (Nat.lt_of_le_of_lt (Nat.div_le_self _ _) hx)
  · omega

/-- bit i of a number, as 0 or 1 -/
theorem fieldN_one (x : Nat) (i : Int) (h0 : 0 ≤ i) (h1 : i ≤ 63) : fieldN x i 1 = x / 2 ^ i.toNat % 2 := by
  unfold fieldN
  rw [if_pos ⟨h0, h1, by omega, by omega⟩]
  simp

theorem withN_lt (x : Nat) (a n : Int) (v : Nat) (hx : x < 18446744073709551616) : withN x a n v < 18446744073709551616 := by
  unfold withN
  split
  · have h1 : x &&& (18446744073709551615 - maskN a n) < 2 ^ 64 := Nat.and_lt_two_pow _ (by omega)
    have h2 : (v * 2 ^ a.toNat % 18446744073709551616) &&& maskN a n < 2 ^ 64 := Nat.and_lt_two_pow _ (by have := maskN_lt a n; omega)
    have := Nat.or_lt_two_pow h1 h2
    omega
  · exact hx

theorem testBit_full_sub (m i : Nat) (hm : m < 18446744073709551616) : (18446744073709551615 - m).testBit i = (decide (i < 64) && !m.testBit i) := by
  have := Nat.testBit_two_pow_sub_succ (x := m) (n := 64) (by simpa using hm) i
  rw [show 2 ^ 64 - (m + 1) = 18446744073709551615 - m by omega] at this
  exact this

theorem testBit_withN (x : Nat) (a n : Int) (v i : Nat) (h : good a n) (hi : i < 64) :
    (withN x a n v).testBit i = if a.toNat ≤ i ∧ i < a.toNat + n.toNat then v.testBit (i - a.toNat) else x.testBit i := by
  unfold withN
  rw [if_pos h, Nat.testBit_or, Nat.testBit_and, Nat.testBit_and, testBit_full_sub _ _ (maskN_lt a n)]
  have hm : (maskN a n).testBit i = (decide (a.toNat ≤ i) && decide (i < n.toNat + a.toNat)) := by
    unfold maskN; rw [if_pos h, testBit_mask]
  rw [hm, show (18446744073709551616 : Nat) = 2 ^ 64 by decide, Nat.testBit_mod_two_pow, Nat.testBit_mul_two_pow]
  by_cases h1 : a.toNat ≤ i
  · by_cases h2 : i < n.toNat + a.toNat
    · have h3 : i < a.toNat + n.toNat := by omega
      simp [h1, h2, h3, hi]
    · have h3 : ¬ i < a.toNat + n.toNat := by omega
      simp [h1, h2, h3, hi]
  · simp [h1, hi]

theorem bit_of_testBit (x i : Nat) : x / 2 ^ i % 2 = if x.testBit i then 1 else 0 := by
  rw [Nat.testBit_eq_decide_div_mod_eq]
  by_cases h : x / 2 ^ i % 2 = 1
  · simp [h]
  · simp [h]; omega

/-- what WireNumbers asks of each bit -/
theorem withN_bit (x : Nat) (a n : Int) (v : Nat) (h : good a n) (i : Int) (h0 : 0 ≤ i) (h1 : i ≤ 63) :
    fieldN (withN x a n v) i 1 = if a ≤ i ∧ i < a + n then fieldN v (i - a) 1 else fieldN x i 1 := by
  rw [fieldN_one _ i h0 h1, bit_of_testBit, testBit_withN x a n v i.toNat h (by omega)]
  obtain ⟨g1, g2, g3, g4⟩ := h
  by_cases c : a ≤ i ∧ i < a + n
  · have e : a.toNat ≤ i.toNat ∧ i.toNat < a.toNat + n.toNat := ⟨by omega, by omega⟩
    rw [if_pos c, if_pos e, fieldN_one _ _ (by omega) (by omega), bit_of_testBit, show (i - a).toNat = i.toNat - a.toNat by omega]
  · have e : ¬ (a.toNat ≤ i.toNat ∧ i.toNat < a.toNat + n.toNat) := by omega
    rw [if_neg c, if_neg e, fieldN_one _ _ h0 h1, bit_of_testBit]

/-- The bytes of a number, the highest first. -/
def bytesN (x : Nat) : Nat → List UInt8
  | 0 => []
  | k + 1 => UInt8.ofNat (x / 256 ^ k % 256) :: bytesN x k

theorem bytesN_length (x k : Nat) : (bytesN x k).length = k := by induction k with
  | zero => rfl
  | succ k ih => simp [bytesN, ih]

/-- A row of bytes, filled from its end on. -/
def rowU (x size k : Nat) : List UInt8 := (List.range size).map fun j => if size - k ≤ j then UInt8.ofNat (x / 256 ^ (size - 1 - j) % 256) else 0

theorem rowU_length (x size k : Nat) : (rowU x size k).length = size := by simp [rowU]

theorem rowU_zero (x size : Nat) : rowU x size 0 = List.replicate size 0 := by
  apply List.ext_getElem
  · simp [rowU]
  · intro i h1 h2
    have : i < size := by simpa [rowU] using h1
    simp [rowU]
    omega

theorem rowU_step (x size k : Nat) (h : k < size) : (rowU x size k).set (size - 1 - k) (UInt8.ofNat (x / 256 ^ k % 256)) = rowU x size (k + 1) := by
  apply List.ext_getElem
  · simp [rowU]
  · intro i h1 h2
    have hi : i < size := by simpa [rowU] using h2
    rw [List.getElem_set]
    by_cases c : size - 1 - k = i
    · subst c
      have e : size - 1 - (size - 1 - k) = k := by omega
      have f : size - (k + 1) ≤ size - 1 - k := by omega
      simp only [rowU, List.getElem_map, List.getElem_range, if_true]
      rw [if_pos f, e]
    · rw [if_neg c]
      simp only [rowU, List.getElem_map, List.getElem_range]
      by_cases d : size - k ≤ i
      · rw [if_pos d, if_pos (by omega)]
      · rw [if_neg d, if_neg (by omega)]

theorem rowU_all (x size : Nat) : rowU x size size = bytesN x size := by
  have key : ∀ n, (List.range n).map (fun j => UInt8.ofNat (x / 256 ^ (n - 1 - j) % 256)) = bytesN x n := by
    intro n
    induction n with
    | zero => rfl
    | succ n ih =>
      rw [List.range_succ_eq_map, List.map_cons, List.map_map, bytesN, ← ih]
      congr 1
      apply List.map_congr_left
      intro j hj
      have : n - (j + 1) = n - 1 - j := by omega
      simp [this]
  rw [← key]
  unfold rowU
  apply List.map_congr_left
  intro j _
  rw [if_pos (by omega)]

/-- The number in some bytes, the highest first. -/
def numL (l : List UInt8) : Nat := l.foldl (fun n c => 256 * n + c.toNat) 0

theorem numL_snoc (l : List UInt8) (c : UInt8) : numL (l ++ [c]) = 256 * numL l + c.toNat := by simp [numL]

theorem foldl_num (l : List UInt8) (a : Nat) : l.foldl (fun n c => 256 * n + c.toNat) a = a * 256 ^ l.length + numL l := by
  induction l generalizing a with
  | nil => simp [numL]
  | cons c l ih =>
    have e : numL (c :: l) = c.toNat * 256 ^ l.length + numL l := by
      show l.foldl (fun n c => 256 * n + c.toNat) (256 * 0 + c.toNat) = _
      rw [ih]
      simp
    rw [e, List.foldl_cons, ih, List.length_cons, Nat.pow_succ, Nat.add_mul, Nat.mul_comm 256 a, Nat.mul_assoc, Nat.mul_comm 256 (256 ^ l.length)]
    omega

theorem numL_cons (c : UInt8) (l : List UInt8) : numL (c :: l) = c.toNat * 256 ^ l.length + numL l := by
  show l.foldl (fun n c => 256 * n + c.toNat) (256 * 0 + c.toNat) = _
  rw [foldl_num]
  simp

theorem numL_lt (l : List UInt8) : numL l < 256 ^ l.length := by
  induction l with
  | nil => decide
  | cons c l ih =>
    rw [numL_cons, List.length_cons, Nat.pow_succ]
    have := c.toNat_lt
    have : c.toNat * 256 ^ l.length ≤ 255 * 256 ^ l.length := Nat.mul_le_mul_right _ (by omega)
    omega

theorem numL_bytesN (x k : Nat) : numL (bytesN x k) = x % 256 ^ k := by
  induction k with
  | zero => simp [bytesN, numL, Nat.mod_one]
  | succ k ih =>
    rw [bytesN, numL_cons, ih, bytesN_length]
    have : (UInt8.ofNat (x / 256 ^ k % 256)).toNat = x / 256 ^ k % 256 := by simp
    rw [this, Nat.pow_succ, Nat.mod_mul, Nat.mul_comm, Nat.add_comm]

end Go.Proofs.YtccbdmccfbjmeaaDoor.Nums
end
namespace Go.Proofs.YtccbdmccfbjmeaaDoor
section
/- Regions that draw their order, whose operations only read or call: walked once, in the order of the text, over a class of worlds; with no program in sight. -/
open Go.RowKit

section
variable {P : Program} {ops : Array Oper} {C : World → Prop} {Q : Act → Prop} {a : Act} {o : Oper} {rest : List Oper}

/-- An operation that is passed over. -/
theorem q_skip (hw : Region.wanted o (yielded ops a.tmps) = false) (h : wpQuiet P ops C Q rest (a.put o.dst undef)) : wpQuiet P ops C Q (o :: rest) a :=
  BigFrame.wpQuiet_skip hw h

/-- One that yields this value in every world of the class. -/
theorem q_val (v : Value) (hw : Region.wanted o (yielded ops a.tmps) = true) (hv : ∀ w, C w → (execOp a.eval o).run P w = .ok (.value v) w) (h : wpQuiet P ops C Q rest (a.put o.dst v)) : wpQuiet P ops C Q (o :: rest) a :=
  BigFrame.wpQuiet_want hw fun K hK => ⟨v, fun w hC => by unfold Oper.quietAt; rw [hv w hC]; exact ⟨rfl, rfl⟩, hK _ h⟩

/-- A call that hands back this value and leaves a world of the class. -/
theorem q_call (v : Value) (f : FuncId) (args : Array Value) (hw : Region.wanted o (yielded ops a.tmps) = true) (hv : ∀ w, C w → (execOp a.eval o).run P w = .ok (.enter f args) w)
    (hc : ∀ w, C w → Calls P f args w fun e w' => e = .returned v ∧ C w') (h : wpQuiet P ops C Q rest (a.put o.dst v)) : wpQuiet P ops C Q (o :: rest) a :=
  BigFrame.wpQuiet_want hw fun K hK => ⟨v, fun w hC => by unfold Oper.quietAt; rw [hv w hC]; exact ⟨rfl, hc w hC⟩, hK _ h⟩
end

/-- A contract that ends in 'Below', in a class that such worlds keep. -/
theorem calls_in {P : Program} {f : FuncId} {args : Array Value} {w : World} {v : Value} {C : World → Prop} (h : Calls P f args w fun e w' => e = .returned v ∧ Below w.heap.size w w') (k : ∀ w', Below w.heap.size w w' → C w') :
    Calls P f args w fun e w' => e = .returned v ∧ C w' := h.mono fun _ _ ⟨he, hb⟩ => ⟨he, k _ hb⟩
end
section
/- Regions that draw their order, by an invariant over what has come up; with no program in sight. -/
open Go.RowKit

/-- .. and operation i, too. -/
def upd (L : Nat → Bool) (i j : Nat) : Bool := if j = i then true else L j

/-- For which ones operation i waits. -/
def afters (ops : Array Oper) (i : Nat) : List Nat :=
  match ops[i]? with
  | some o => (o.after.toList.filter (Region.binds .any)).map (·.on)
  | none => []

/-- Each waits for earlier ones alone. -/
def dag (ops : Array Oper) : Bool := (List.range ops.size).all fun i => (afters ops i).all fun j => decide (j < i)

section
variable {P : Program} {ops : Array Oper} {Q : Exit → Act → World → Prop}

def lis (l : Array Bool) (j : Nat) : Bool := l.getD j false

theorem lis_set {l : Array Bool} {i : Nat} (h : i < l.size) : lis (l.setIfInBounds i true) = upd (lis l) i := by
  funext j
  unfold lis upd
  by_cases c : j = i
  · subst c
    simp [h]
  · rw [if_neg c]
    simp only [Array.getD_eq_getD_getElem?]
    rw [Array.getElem?_setIfInBounds_ne (by omega)]

theorem count_set {l : Array Bool} {i : Nat} (h : i < l.size) (hf : lis l i = false) : (l.setIfInBounds i true).toList.count false + 1 = l.toList.count false := by
  have hl : i < l.toList.length := by simpa using h
  have hv : l.toList[i] = false := by
    unfold lis at hf
    simpa [h] using hf
  rw [Array.toList_setIfInBounds, List.count_set hl, hv]
  have : 0 < l.toList.count false := List.count_pos_iff.2 (by rw [← hv]; exact List.getElem_mem hl)
  have a1 : (if (false == false) = true then 1 else 0) = 1 := by decide
  have a2 : (if (true == false) = true then 1 else 0) = 0 := by decide
  rw [a1, a2]
  omega

theorem mem_afters {i : Nat} {o : Oper} (ho : ops[i]? = some o) (j : Nat) : j ∈ afters ops i ↔ ∃ e ∈ o.after, Region.binds .any e = true ∧ e.on = j := by
  unfold afters
  rw [ho]
  simp [and_assoc]

theorem dag_at (hd : dag ops = true) {i : Nat} (hi : i < ops.size) {j : Nat} (hj : j ∈ afters ops i) : j < i := by
  unfold dag at hd
  rw [List.all_eq_true] at hd
  have h1 := hd i (List.mem_range.2 hi)
  rw [List.all_eq_true] at h1
  simpa using h1 j hj

/-- Where nothing may come up, all has come up. -/
theorem all_of_none (hd : dag ops = true) {l : Array Bool} (hl : l.size = ops.size) (hr : Region.ready .any ops l = []) : ∀ i, i < ops.size → lis l i = true := by
  intro i
  induction i using Nat.strongRecOn with
  | _ i ih =>
    intro hi
    cases hc : lis l i with
    | true => rfl
    | false =>
      have : i ∈ Region.ready .any ops l := by
        rw [mem_ready]
        refine ⟨?_, ops[i], Array.getElem?_eq_getElem hi, fun e he hb => ?_⟩
        · unfold lis at hc
          simpa [hl, hi] using hc
        · have hj : e.on ∈ afters ops i := (mem_afters (Array.getElem?_eq_getElem hi) _).2 ⟨e, he, hb, rfl⟩
          have hlt := dag_at hd hi hj
          exact ih e.on hlt (by omega)
      rw [hr] at this
      cases this

theorem wpAny_inv (I : (Nat → Bool) → Act → World → Prop) (hd : dag ops = true)
    (hstep : ∀ i, i < ops.size → ∀ L a w, I L a w → L i = false → (∀ j ∈ afters ops i, L j = true) → wpOp P ops Q i (fun a' w' => I (upd L i) a' w') a w)
    (hend : ∀ L a w, I L a w → (∀ i, i < ops.size → L i = true) → Q .normal a w) :
    ∀ fuel (l : Array Bool) a w, l.size = ops.size → l.toList.count false ≤ fuel → I (lis l) a w → wpAny P .any ops Q fuel l a w := by
  intro fuel
  induction fuel with
  | zero =>
    intro l a w hl hc hI
    have hall : ∀ i, i < ops.size → lis l i = true := by
      intro i hi
      cases hv : lis l i with
      | true => rfl
      | false =>
        have := count_set (l := l) (by omega) hv
        omega
    refine ⟨?_, hend _ _ _ hI hall⟩
    cases hr : Region.ready .any ops l with
    | nil => rfl
    | cons i r =>
      have hm : i ∈ Region.ready .any ops l := by rw [hr]; exact List.mem_cons_self
      obtain ⟨h1, o, ho, -⟩ := mem_ready.1 hm
      have hi := (Array.getElem?_eq_some_iff.1 ho).1
      have h2 := hall i hi
      unfold lis at h2
      simp [hl, hi] at h1 h2
      rw [h1] at h2
      cases h2
  | succ fuel ih =>
    intro l a w hl hc hI
    refine ⟨fun hr => hend _ _ _ hI (all_of_none hd hl hr), fun i hm => ?_⟩
    obtain ⟨h1, o, ho, h2⟩ := mem_ready.1 hm
    have hi := (Array.getElem?_eq_some_iff.1 ho).1
    have hf : lis l i = false := by
      unfold lis
      simpa [hl, hi] using h1
    refine wpOp_mono (fun a' w' hI' => ?_) (hstep i hi (lis l) a w hI hf (fun j hj => ?_))
    · refine ih _ a' w' (by simpa using hl) ?_ ?_
      · have := count_set (l := l) (by omega) hf
        omega
      · rw [lis_set (by omega)]
        exact hI'
    · obtain ⟨e, he, hb, rfl⟩ := (mem_afters ho j).1 hj
      exact h2 e he hb

theorem wp_region_inv {id : Nat} {a : Act} {w : World} (I : (Nat → Bool) → Act → World → Prop) (hm : P.follows .mixedOrders = true) (hd : dag ops = true) (h0 : I (fun _ => false) a w.drew)
    (hstep : ∀ i, i < ops.size → ∀ L a w, I L a w → L i = false → (∀ j ∈ afters ops i, L j = true) → wpOp P ops Q i (fun a' w' => I (upd L i) a' w') a w)
    (hend : ∀ L a w, I L a w → (∀ i, i < ops.size → L i = true) → Q .normal a w) : (Code.region id ops true).wp P Q a w := by
  refine wp_region_any hm (wpAny_inv I hd hstep hend ops.size _ a _ (by simp) (by simp) ?_)
  have e : lis (Array.replicate ops.size false) = fun _ => false := by
    funext j
    unfold lis
    by_cases c : j < ops.size <;> simp [c]
  rw [e]
  exact h0

variable {i : Nat} {o : Oper} {a : Act} {w : World} {K : Act → World → Prop}

/-- One that yields a value. -/
theorem i_val (ho : ops[i]? = some o) (v : Value) (w' : World) (hw : Region.wanted o (yielded ops a.tmps) = true) (hv : (execOp a.eval o).run P w = .ok (.value v) w') (h : K (a.put o.dst v) w') : wpOp P ops Q i K a w := by
  unfold wpOp
  simp only [ho, hw, if_true, Oper.wp, hv, Oper.upon]
  exact .inl h

/-- A call. -/
theorem i_call (ho : ops[i]? = some o) (v : Value) (f : FuncId) (args : Array Value) (R : World → Prop) (hw : Region.wanted o (yielded ops a.tmps) = true) (hv : (execOp a.eval o).run P w = .ok (.enter f args) w)
    (hc : Calls P f args w fun e w' => e = .returned v ∧ R w') (h : ∀ w', R w' → K (a.put o.dst v) w') : wpOp P ops Q i K a w := by
  unfold wpOp
  simp only [ho, hw, if_true, Oper.wp, hv, Oper.upon]
  exact .inl (hc.mono fun e w' ⟨he, hr⟩ => by subst he; exact h w' hr)

/-- One whose step is known by itself. -/
theorem i_wp (ho : ops[i]? = some o) (hw : Region.wanted o (yielded ops a.tmps) = true) (h : o.wp P a w K Q) : wpOp P ops Q i K a w := by
  unfold wpOp
  simp only [ho, hw, if_true]
  exact .inl h
end
end
section
/- Counts as a row of fourteen numbers; Plus and Add. -/
open Go.RowKit
attribute [local irreducible] wpQuiet

theorem wrap_n64 {a : Nat} (h : a < 18446744073709551616) : IntKind.u64.wrap (a : Int) = (a : Int) := by rw [IntKind.wrap_u64]; omega
theorem wrap_n32 {a : Nat} (h : a < 4294967296) : IntKind.u32.wrap (a : Int) = (a : Int) := by
  simp [IntKind.wrap, IntKind.bits, IntKind.signed]
  omega
/-- Fourteen numbers. -/
def cA (c : Nat → Nat) : Array Value := ((List.range 14).map fun j => Value.int .u32 (c j : Nat)).toArray
theorem cA_size (c : Nat → Nat) : (cA c).size = 14 := by simp [cA]
theorem cA_at (c : Nat → Nat) {k : Nat} (h : k < 14) : (cA c)[k]? = some (.int .u32 (c k : Nat)) := by simp [cA, h]
theorem cA_set (c : Nat → Nat) {k : Nat} (h : k < 14) (x : Nat) : (cA c).setIfInBounds k (.int .u32 (x : Nat)) = cA fun j => if j = k then x else c j := by
  refine Array.ext' (List.ext_getElem? fun i => ?_)
  simp only [cA, Array.toList_setIfInBounds, List.getElem?_set, List.getElem?_map, List.length_map, List.length_range]
  by_cases e : k = i
  · subst e
    simp [h]
  · rw [if_neg e]
    by_cases hi : i < 14
    · simp [hi, show ¬ i = k from fun q => e q.symm]
    · simp [hi]
theorem cA_ext {c d : Nat → Nat} (h : ∀ j, j < 14 → c j = d j) : cA c = cA d := by
  unfold cA
  congr 1
  exact List.map_congr_left fun j hj => by rw [h j (List.mem_range.1 hj)]
theorem cA_one (c : Nat → Nat) : (cA c).all (·.oneCell') = true := by
  simp [cA, Value.oneCell']
abbrev cV (c : Nat → Nat) : Value := .agg (cA c)
/-- Are they numbers? -/
def okC (c : Nat → Nat) : Prop := ∀ j, j < 14 → c j < 4294967296
theorem cSize30 : (Tryd.prog.info? 30).map (·.size) = some 14 := by kernel_rfl
theorem cSize25 : (Tryd.prog.info? 25).map (·.size) = some 14 := by kernel_rfl

theorem info24 : (Tryd.prog.info? 24).map (fun i => (i.zero, i.size, i.bytes)) = some (some (.int .u32 0), 1, 4) := by kernel_rfl
theorem cells24 : Tryd.prog.cellsOf 24 = 1 := by kernel_rfl
theorem run_index_c (t : TypeId) (ht : Tryd.prog.underlying t = some (.array 14 24)) (c : Nat → Nat) (k : Nat) (W : World) (hk : k < 14) :
    (Instr.index t (cV c) (.int .i64 (k : Int))).run Tryd.prog W = .ok (.int .u32 (c k : Nat)) W := by
  have h1 : (0 : Int) ≤ (k : Int) ∧ (k : Int) < 14 := by omega
  obtain ⟨i, hi, _⟩ := info_parts info24
  have hs := run_sizeOf (P := Tryd.prog) (w := W) hi
  rw [cells24] at hs
  have hl : (cA c)[k]? = some (.int .u32 (c k : Nat)) := cA_at c hk
  have hz : k < (cA c).size := by rw [cA_size]; exact hk
  have hl2 : (cA c)[k] = .int .u32 (c k : Nat) := by rw [Array.getElem?_eq_getElem hz] at hl; exact Option.some.inj hl
  simp [Instr.index, run_underlying ht, asIntOf, h1, go_sem, part, hs, hk, hl2, hz]
end
end Go.Proofs.YtccbdmccfbjmeaaDoor
