/- Ports as layer 17 sees them; what its functions answer. -/
import Derived.Test.YteeinlbhcdpnnaaLess
import Derived.Test.YteeinlbhcdpnnaaKb3
import Derived.Test.YteeinlbhcdpnnaaQuietly
namespace Go.Proofs.Yteeinlbhcdpnnaa
open Go.RowKit
attribute [local irreducible] wpQuiet wpList
set_option linter.unusedSimpArgs false
set_option linter.unusedVariables false

abbrev nil21 : Array Value := #[.int .u16 0, .int .i64 0, .bool false, .int .u32 0, .int .i64 0, .bool false, .bool false, .bool false, .bool false, .bool false, .int .i64 0, .int .i64 0, .int .i64 0, .int .u64 0, .int .u32 0, .int .u64 0, .int .u16 0, .int .i64 0, .int .i64 0, .int .i64 0, .int .i64 0]
abbrev nil6 : Array Value := #[.int .u64 0, .int .i64 0, .int .i64 0, .int .i64 0, .int .i64 0, .int .i64 0]
theorem z50 : ∀ W : World, (zeroValue 42).run Try.prog W = .ok (.agg nil21) W := fun W => Try.zeroValue42 W
theorem zV : ∀ W : World, (zeroValue 35).run Try.prog W = .ok (.agg nil4) W := fun W => Try.zeroValue35 W
theorem zC : ∀ W : World, (zeroValue 38).run Try.prog W = .ok (.agg nil6) W := fun W => Try.zeroValue38 W
/-- A port whose vector is that one. -/
def poU (x : Po) (u : Vc) : Po := ⟨x.p0, x.p1, x.p2, x.p3, x.p4, x.p5, x.p6, x.p7, x.p8, x.p9, x.p10, x.p11, x.p12, (u.r : Nat), (u.c : Nat), (u.b : Nat), (u.p : Nat), x.p17, x.p18, x.p19, x.p20⟩
theorem gA {α : Type} {l : List α} {i : Nat} (h : i < l.toArray.size) : l.toArray[i] = l[i]'(by simpa using h) := List.getElem_toArray h
theorem gS {α : Type} {a : α} {l : List α} {i : Nat} (h : i + 1 < (a :: l).length) : (a :: l)[i + 1] = l[i]'(Nat.lt_of_succ_lt_succ h) := List.getElem_cons_succ ..
theorem gZ {α : Type} {a : α} {l : List α} (h : 0 < (a :: l).length) : (a :: l)[0] = a := rfl
theorem sA {α : Type} {l : List α} {i : Nat} {a : α} : l.toArray.setIfInBounds i a = (l.set i a).toArray := List.setIfInBounds_toArray ..
theorem sZ {α : Type} {a b : α} {l : List α} : (a :: l).set 0 b = b :: l := rfl
theorem sS {α : Type} {a b : α} {l : List α} {n : Nat} : (a :: l).set (n + 1) b = a :: l.set n b := rfl
theorem wv {P : Program} {ops : Array Oper} {Q : Exit → Act → World → Prop} {a : Act} {w : World} {rest : List Oper} {o : Oper} (v : Value) (h : wpList P ops Q rest (a.put o.dst v) w) (hw : Region.wanted o (yielded ops a.tmps) = true := by rfl)
  (hrun : (execOp a.eval o).run P w = .ok (.value v) w := by go_simp) : wpList P ops Q (o :: rest) a w := wpList_val v hw hrun h
theorem results_row_tmp2 {P : Program} {fn : Func} {p u r : Tmp} {ty : TypeId} (h : fn.results = #[.cell p ty, .tmp u, .tmp r]) (tmps : Array Value) (w : World) (g : Nat) (t : TypeId) (cs : Array Value) (v v2 : Value) (d : TypeDesc)
  (hp : tmps.getD p undef = .pointer (some ⟨g, 0, none⟩)) (hv : tmps.getD u undef = v) (hv2 : tmps.getD r undef = v2) (hg : Blk w g cs t)
  (hu : P.underlying ty = some d) (hd : (match d with | .struct _ | .array _ _ => true | _ => false) = true) (hi : (P.info? ty).map (·.size) = some cs.size) :
  (results fn tmps).run P w = .ok (.tuple #[.agg cs, v, v2]) w := by
 have hp' : tmps[p]?.getD undef = .pointer (some ⟨g, 0, none⟩) := by simpa using hp
 have hv' : tmps[u]?.getD undef = v := by simpa using hv
 have hv2' : tmps[r]?.getD undef = v2 := by simpa using hv2
 simp [results, h, hp', hv', hv2', asAddr, run_loadVar_row w g t ty cs (0, 0) d hg hu hd hi]
def edgeB (x : Po) : Bool := x.p5 && x.p8
def openedB (x y : Po) : Bool := decide (y.p11 = 2) && !decide (x.p11 = 2)
def restP (x : Po) (s : Int) : Po := ⟨x.p0, x.p1, x.p2, x.p3, x.p4, x.p5, x.p6, x.p7, x.p8, false, x.p10, s, x.p12, x.p13, x.p14, x.p15, x.p16, x.p17, x.p18, 0, x.p20⟩
def desB (x : Po) (u v : Vc) : Bool := !decide (x.p10 = 4) || (!decide (x.p12 = 1) || !eqV u v)
def desV (x : Po) (u v : Vc) : Vc := bif desB x u v then v else u
def desP (x : Po) (u v : Vc) (dl : Int) : Po := ⟨x.p0, x.p1, x.p2, x.p3, x.p4, x.p5, x.p6, x.p7, x.p8, (bif desB x u v then false else x.p9), 4, (bif edgeB x then 2 else (bif decide (x.p10 = 4) then x.p11 else 0)), (bif desB x u v then 1 else x.p12), ((desV x u v).r : Nat), ((desV x u v).c : Nat), ((desV x u v).b : Nat), ((desV x u v).p : Nat), (bif desB x u v then 0 else x.p17), (bif desB x u v then 0 else x.p18), (bif edgeB x then 0 else (bif decide (x.p10 = 4) then x.p19 else dl)), x.p20⟩
def roleP (x : Po) (u : Vc) (r : Int) : Po := ⟨x.p0, x.p1, x.p2, x.p3, x.p4, x.p5, x.p6, x.p7, x.p8, x.p9, r, x.p11, x.p12, (u.r : Nat), (u.c : Nat), (u.b : Nat), (u.p : Nat), x.p17, x.p18, x.p19, x.p20⟩
def assumeP (x : Po) (u : Vc) (r : Int) (v : Vc) (dl : Int) : Po := if r = 1 ∨ r = 2 then restP (roleP x u r) 0 else if r = 3 then (if x.p10 = 3 then roleP x u r else restP (roleP x u r) 2) else if r = 4 then desP x u v dl else roleP x u r
def assumeN (x : Po) (u : Vc) (r : Int) (v : Vc) : Bool := decide (r = 4) && desB x u v
def stepP (x : Po) (dl : Int) : Po := if x.p10 = 4 then (if x.p11 = 2 then x else if 1 < x.p19 then ⟨x.p0, x.p1, x.p2, x.p3, x.p4, x.p5, x.p6, x.p7, x.p8, x.p9, x.p10, x.p11, x.p12, x.p13, x.p14, x.p15, x.p16, x.p17, x.p18, IntKind.i64.wrap (x.p19 - 1), x.p20⟩ else if x.p11 = 0 then ⟨x.p0, x.p1, x.p2, x.p3, x.p4, x.p5, x.p6, x.p7, x.p8, x.p9, x.p10, 1, x.p12, x.p13, x.p14, x.p15, x.p16, x.p17, x.p18, dl, x.p20⟩ else if x.p11 = 1 then ⟨x.p0, x.p1, x.p2, x.p3, x.p4, x.p5, x.p6, x.p7, x.p8, x.p9, x.p10, 2, x.p12, x.p13, x.p14, x.p15, x.p16, x.p17, x.p18, 0, x.p20⟩ else ⟨x.p0, x.p1, x.p2, x.p3, x.p4, x.p5, x.p6, x.p7, x.p8, x.p9, x.p10, x.p11, x.p12, x.p13, x.p14, x.p15, x.p16, x.p17, x.p18, IntKind.i64.wrap (x.p19 - 1), x.p20⟩) else x
def agreeP (x : Po) : Po := if x.p10 = 4 then ⟨x.p0, x.p1, x.p2, x.p3, x.p4, x.p5, x.p6, x.p7, x.p8, true, x.p10, 2, x.p12, x.p13, x.p14, x.p15, x.p16, x.p17, x.p18, 0, x.p20⟩ else x
def blockP (x : Po) (dl : Int) : Po := if x.p10 = 4 ∧ edgeB x = false ∧ x.p9 = false ∧ ¬ x.p11 = 0 then ⟨x.p0, x.p1, x.p2, x.p3, x.p4, x.p5, x.p6, x.p7, x.p8, x.p9, x.p10, 0, x.p12, x.p13, x.p14, x.p15, x.p16, x.p17, x.p18, dl, x.p20⟩ else x
end Go.Proofs.Yteeinlbhcdpnnaa
