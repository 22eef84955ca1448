import Derived.Test.YtebnpblincgjlaaDoorG23
import Derived.Test.YtebnpblincgjlaaDoorRows
import Derived.WalkKit
import Derived.ProofKit
import Derived.OpenShut
import Derived.ShutString
import Derived.ChangeOld
import Derived.Below
import Derived.Laws.IdiomArrays
import Derived.Lib.SmallJoins
import Derived.Lay
import Derived.LaidSub
import Derived.LaidMore
import Derived.Stop.Joined
import Derived.Lib.LaidTab
set_option linter.unusedSimpArgs false
set_option linter.unusedVariables false
namespace Go.Proofs.YtebnpblincgjlaaDoor
section
/- Layer 18's law: TreePlays. -/
open Go.RowKit
open Ev
set_option maxRecDepth 100000
theorem pn1 : (List.range 11).Perm [1, 2, 3, 4, 0, 5, 6, 7, 8, 9, 10] := by decide
theorem pn2 : (List.range 19).Perm [0, 1, 2, 9, 6, 7, 8, 3, 4, 5, 10, 11, 12, 13, 14, 15, 16, 17, 18] := by decide
theorem pn3 : (List.range 19).Perm [4, 0, 1, 2, 5, 6, 3, 7, 8, 9, 10, 11, 12, 13, 14, 15, 16, 17, 18] := by decide
theorem pn4 : (List.range 19).Perm [7, 8, 9, 1, 2, 3, 6, 0, 10, 11, 12, 17, 18, 4, 5, 13, 14, 15, 16] := by decide
theorem made_st (x : Sg) (l : List Pg) : stB ((l.take 6).map madeP) := fun k y h => by
  rw [List.getElem?_map] at h
  cases c : (l.take 6)[k]? with
  | none => rw [c] at h; cases h
  | some z =>
    rw [c] at h
    have h : some (madeP z) = some y := h
    injection h with h
    rw [← h]
    exact ⟨Int.le_refl _, by show (0 : Int) ≤ 2; omega⟩
theorem plays_fun (x0 : Sg) (a : Option Addr) (n m : Nat) (l : List Pg) (a2 : Option Addr) (n2 m2 : Nat) (l2 : List Ac) (X1 X2 : Bd) (hX1 : Reads X1 a 5 pgC l) (hl : l.length = n) (hX2 : Reads X2 a2 14 aqC l2) (hl2 : l2.length = n2) :
    Fun Tryd.prog 3 [.agg (sgA x0 (.slice a n m)), .slice a2 n2 m2] [bdR, X1, X2] Unit (fun _ => .bool true) (fun _ => [bdR, X1, X2]) := by
  have hmade := made_fun X1 a n m x0 l hX1 hl
  have hiv := made_iv x0 l
  have hok := made_ok x0 l
  have hfew := made_few x0 l
  have hid := made_id x0 l
  have hst := made_st x0 l
  have es : madeS x0 l = bare (madeCf x0) ((l.take 6).map madeP) (fun _ => 0) 0 := rfl
  rw [es] at hmade hiv hok hfew hid
  obtain ⟨po, hpo⟩ : ∃ po, (l.take 6).map madeP = po := ⟨_, rfl⟩
  rw [hpo] at hmade hiv hok hfew hid hst
  obtain ⟨cf, hcf⟩ : ∃ cf, madeCf x0 = cf := ⟨_, rfl⟩
  rw [hcf] at hmade hiv hok hfew hid
  have hfew : po.length ≤ 6 := hfew
  have g : Gd ⟨bare cf po (fun _ => 0) 0, [], []⟩ := ⟨by show po.length ≤ 16; omega, Nat.zero_le _, Nat.zero_le _, hid.1, hok, hst⟩
  have few : Few (bare cf po (fun _ => 0) 0) := ⟨by show po.length ≤ 1000; omega, Nat.zero_le _, Nat.zero_le _, Nat.zero_le _⟩
  obtain ⟨N, hN⟩ : ∃ N, po.length = N := ⟨_, rfl⟩
  have hmade : Fun Tryd.prog 7 [.agg (sgA x0 (.slice a n m))] [X1] Hd (fun y => sV N (bare cf po (fun _ => 0) 0) (spx y)) (fun y => [pO N (spx y) po, X1]) := by
    subst hN
    exact hmade
  have hcame := start_came (N := N) hN hfew hok hiv hst
  have hstart := fun x : H4 => start_fun (bare cf po (fun _ => 0) 0) x few (by show po.length ≤ 16; omega) hid.1 (startG_gd g).1.ok
  have hclone := fun x : H4 => clone_N cf (fun _ => 0) 0 hN (by omega) x
  exact ev_fun (fun R fin => [oF speaks_fun () 0 fun _ => [No, oF hmade (none, 0) 1 fun y0 => [.a 2 [] _ (nil3_own []), oF (hclone (spx y0)) ((none, 0), (none, 0), (none, 0), (none, 0)) 1 fun y => [
    .ob (Rst cf (fun _ => 0) N (startM (bare cf po (fun _ => 0) 0))) hcame.y fun z => [
    oPm _ ([bdR, pO N y po] ++ (V3 y ++ (pO N (spx y0) po :: (V3 (spx y0) ++ [X1, X2])))) 11 rfl pn1,
    oF (call_N hN (spx y0) (hstart (spx y0)) z.2.1) (((none, 0), (none, 0), (none, 0), (none, 0)), ((none, 0), (none, 0))) 4 fun y1 => [.a 1 [] _ (nil2_own []),
    oPm _ ([pO N y po, tO z00 [], fO z00 []] ++ (V3 y ++ ([pO N y1.1 z.1.1.1, tO y1.2 z.1.2.1, fO y1.2 z.1.2.2, bdR] ++ (V3 y1.1 ++ (pO N (spx y0) po :: (V3 (spx y0) ++ [X1, X2])))))) 19 rfl pn2,
    oM (acts_N (tw_start g) rfl z.2.1 hN y) 2 0 fun zt => [
    oPm _ ([pO N y z.1.1.1, tO zt z.1.2.1, fO zt z.1.2.2, bdR, pO N y1.1 z.1.1.1, tO y1.2 z.1.2.1, fO y1.2 z.1.2.2] ++ (V3 y ++ (V3 y1.1 ++ (pO N (spx y0) po :: (V3 (spx y0) ++ [X1, X2]))))) 19 rfl pn3,
    oM (twsame_N cf (fun _ => 0) z.1.1.2 z.1.2.1 z.1.2.2 z.2.2.1 (by omega) (by have := z.2.2.2.2.2.1; omega) (by have := z.2.2.2.2.2.2; omega) y1.1 y zt y1.2) 2 0 fun _ => [No,
    oPm _ ([pO N y1.1 z.1.1.1, pO N y z.1.1.1, tO z00 [], fO z00 [], tO y1.2 z.1.2.1, fO y1.2 z.1.2.2, bdR] ++ (V3 y ++ (V3 y1.1 ++ (pO N (spx y0) po :: (V3 (spx y0) ++ [X1, X2]))))) 19 rfl pn4,
    oDr 13 ([tO y1.2 z.1.2.1, fO y1.2 z.1.2.2, pO N (spx y0) po] ++ V3 (spx y0)),
    .l _ _ _ _ _ _ (lw_loop x0 a n m a2 n2 m2 l2 cf (fun _ => 0) N X1 X2 R hX2 hl2 ⟨0, Nat.zero_le _, z.1.1.1, z.1.1.2, z.2.2.1, z.2.2.2.1, z.2.2.2.2.1, y1.1, y, (.slice y1.2.1.1 z.1.2.1.length y1.2.1.2, .slice y1.2.2.1 z.1.2.2.length y1.2.2.2)⟩ rfl) fun j => [
    oDr 0 (V3 j.y ++ [pO N j.y j.po, tO z00 [], fO z00 []]), oDr 1 (pO N j.x j.po :: V3 j.x), fin ()]]]]]]]]]) (fun R β w => by kernel_rfl)
/-- A list that came in. -/
def Ev.bdY {α : Type} (B size : Nat) (enc : α → List Value) (a : Option Addr) (l : List α) : Bd :=
  ⟨fun W => RowsAt W a size enc l ∧ (l ≠ [] → ∀ x, a = some x → x.block < B), fun _ => False, B, fun _ h => h.elim, fun h hm _ hG => ⟨by
    by_cases e : l = []
    · exact .inl e
    · exact rows_mv h.1 (h.2 e) hm hG, h.2⟩⟩
theorem Ev.reads_y {α : Type} (B : Nat) (a : Option Addr) (size : Nat) (enc : α → List Value) (l : List α) : Reads (bdY B size enc a l) a size enc l := fun W h => h.1
theorem Ev.bdY_at {α : Type} {w : World} {size : Nat} {enc : α → List Value} {a : Option Addr} {l : List α} (h : RowsAt w a size enc l) : (bdY w.heap.size size enc a l).p w := ⟨h, fun hl x hx => by
  rcases h with rfl | ⟨b, off, rfl, hlt, -⟩
  · exact absurd rfl hl
  · injection hx with hx
    rw [← hx]
    exact hlt⟩
/-- TreePlays is true, for every setting and any acts. -/
theorem plays_law (x : Sg) (pl : List Pg) (n m : Nat) (a : Option Addr) (l : List Ac) (n2 m2 : Nat) (a2 : Option Addr) (w : World) (hrl : RolesAt w) (hl : pl.length = n) (hr : RowsAt w a 5 pgC pl) (hl2 : l.length = n2) (hr2 : RowsAt w a2 14 aqC l) : Calls Tryd.prog 3 #[.agg (sgA x (.slice a n m)), .slice a2 n2 m2] w fun e w' => e = .returned (.bool true) ∧ Below w.heap.size w w' := by
  have h := plays_fun x a n m pl a2 n2 m2 l (bdY w.heap.size 5 pgC a pl) (bdY w.heap.size 14 aqC a2 l) (reads_y _ _ _ _ _) hl (reads_y _ _ _ _ _) hl2
  have h0 := hrl.lt
  have K : Kf w (fun _ => none) ((sepL [bdR, bdY w.heap.size 5 pgC a pl, bdY w.heap.size 14 aqC a2 l]).sep Bd.nil) w :=
    ⟨fun _ _ h => by (cases h), Below.refl _ _, fun _ _ h => by (cases h), fun _ _ _ _ h => by (cases h), ⟨⟨hrl, ⟨bdY_at hr, ⟨bdY_at hr2, trivial, fun _ h => h.elim⟩, fun _ h => h.elim⟩, fun _ h => h.elim⟩, trivial, fun _ _ h => h⟩, fun _ _ h => by (cases h), fun k h => by
      rcases h with (h | h | h | h) | h <;> exact h.elim, by
      show max (max 1 (max w.heap.size (max w.heap.size 0))) 0 ≤ w.heap.size
      omega⟩
  exact (h w (fun _ => none) Bd.nil w K).mono fun e w' ⟨_, e1, k⟩ => ⟨e1, k.below⟩
end
section
open Go.ChangeShapes Go.WideShapes Go.ChangeAt Go.RowKit
theorem own : ownKnob Tryd.prog.godebug = none := by kernel_rfl
theorem laidOut : laidOutB Tryd.prog = true := by kernel_rfl
end
section
open Go.ChangeShapes Go.WideShapes Go.ChangeAt Go.RowKit
section
variable {H : Type} {enc : TypeId × Value → H} {P : Program} {w : World} {base : Nat} {spare : Nat → Bool} {held : Bool}
theorem arr_ints {n : Nat} {t e : TypeId} {k : IntKind} {fuel : Nat} {cs : List Value} {x : DataW H × List MemPlace} (ht : P.underlying t = some (.array n e)) (he : P.underlying e = some (.int k)) (hce : P.cellsOf e = 1) (hc : P.cellsOf t = n)
 (h : DataW.trod enc P w base spare held fuel t cs = some x) : cs.length = n ∧ ∀ i, i < n → ∃ a, cs[i]? = some (.int k a) ∧ (Lit.int k a).wf = true := by
 obtain ⟨xs, m, _, _, hl, hx, hi⟩ := DataW.trod_array ht h
 refine ⟨hl.trans hc, fun i hin => ?_⟩
 have h1 := hi i hin
 rw [hce, Nat.mul_one] at h1
 have hlen : i < cs.length := by omega
 rw [List.drop_eq_getElem_cons hlen, show List.take 1 (cs[i] :: List.drop (i + 1) cs) = [cs[i]] from rfl, List.getElem?_eq_getElem (by omega)] at h1
 obtain ⟨a, e1, _, w1⟩ := DataW.trod_int he h1
 simp only [List.cons.injEq, and_true] at e1
 exact ⟨a, by rw [List.getElem?_eq_getElem hlen, e1], w1⟩
end
end
section
open Go.RowKit
theorem nat_of_u8 {a : Int} (h : (Lit.int .u8 a).wf = true) : ∃ n : Nat, a = (n : Int) ∧ n < 256 := by
 have hb := bounds_u8 h
 obtain ⟨n, rfl⟩ := Int.eq_ofNat_of_zero_le hb.1
 exact ⟨n, rfl, by omega⟩
end
section
open Go.ChangeShapes Go.WideShapes Go.ChangeAt Go.RowKit Go.Deep
theorem cellsT5 : Tryd.prog.cellsOf 5 = 1 := by kernel_rfl
theorem cellsT4 : Tryd.prog.cellsOf 4 = 1 := by kernel_rfl
theorem cellsT22 : Tryd.prog.cellsOf 22 = 3 := by kernel_rfl
theorem cellsT53 : Tryd.prog.cellsOf 53 = 4 := by kernel_rfl
theorem cellsT54 : Tryd.prog.cellsOf 54 = 4 := by kernel_rfl
theorem cellsT84 : Tryd.prog.cellsOf 84 = 5 := by kernel_rfl
theorem cellsT56 : Tryd.prog.cellsOf 56 = 14 := by kernel_rfl
theorem cellsT25 : Tryd.prog.cellsOf 25 = 5 := by kernel_rfl
theorem cellsT23 : Tryd.prog.cellsOf 23 = 1 := by kernel_rfl
section
variable {H : Type} {enc : TypeId × Value → H} {P : Program} {w : World} {base : Nat} {spare : Nat → Bool} {held : Bool}
theorem arr_bools {n : Nat} {t e : TypeId} {fuel : Nat} {cs : List Value} {x : DataW H × List MemPlace} (ht : P.underlying t = some (.array n e)) (he : P.underlying e = some .bool) (hce : P.cellsOf e = 1) (hc : P.cellsOf t = n)
 (h : DataW.trod enc P w base spare held fuel t cs = some x) : cs.length = n ∧ ∀ i, i < n → ∃ a, cs[i]? = some (.bool a) := by
 obtain ⟨xs, m, _, _, hl, hx, hi⟩ := DataW.trod_array ht h
 refine ⟨hl.trans hc, fun i hin => ?_⟩
 have h1 := hi i hin
 rw [hce, Nat.mul_one] at h1
 have hlen : i < cs.length := by omega
 rw [List.drop_eq_getElem_cons hlen, show List.take 1 (cs[i] :: List.drop (i + 1) cs) = [cs[i]] from rfl, List.getElem?_eq_getElem (by omega)] at h1
 obtain ⟨a, e1, _⟩ := DataW.trod_bool he h1
 simp only [List.cons.injEq, and_true] at e1
 exact ⟨a, by rw [List.getElem?_eq_getElem hlen, e1]⟩
end
section
variable {H : Type} {enc : TypeId × Value → H} {w : World} {base : Nat} {spare : Nat → Bool} {held : Bool}
set_option maxRecDepth 100000 in
theorem cells_84 {l : List Value} {fuel : Nat} {x : DataW H × List MemPlace} (hsz : l.length = 5) (hf : DataW.trod enc Tryd.prog w base spare held fuel 84 l = some x) : ∃ x : Pg, l = pgC x ∧ x.ok := by
 obtain ⟨xs, n, _, _, _, hlen, hg⟩ := DataW.trod_struct Tryd.underlying84 hf
 match l, hsz with
 | [c0, c1, c2, c3, c4], _ =>
  match xs, hlen with
  | [z0, z1, z2, z3, z4], _ =>
   have g0 : DataW.trod enc Tryd.prog w base spare held n 5 (([c0, c1, c2, c3, c4].drop 0).take (Tryd.prog.cellsOf 5)) = some z0 := hg 0 _ rfl
   have g1 : DataW.trod enc Tryd.prog w base spare held n 5 (([c0, c1, c2, c3, c4].drop 1).take (Tryd.prog.cellsOf 5)) = some z1 := hg 1 _ rfl
   have g2 : DataW.trod enc Tryd.prog w base spare held n 4 (([c0, c1, c2, c3, c4].drop 2).take (Tryd.prog.cellsOf 4)) = some z2 := hg 2 _ rfl
   have g3 : DataW.trod enc Tryd.prog w base spare held n 4 (([c0, c1, c2, c3, c4].drop 3).take (Tryd.prog.cellsOf 4)) = some z3 := hg 3 _ rfl
   have g4 : DataW.trod enc Tryd.prog w base spare held n 4 (([c0, c1, c2, c3, c4].drop 4).take (Tryd.prog.cellsOf 4)) = some z4 := hg 4 _ rfl
   rw [cellsT5] at g0
   rw [cellsT5] at g1
   rw [cellsT4] at g2
   rw [cellsT4] at g3
   rw [cellsT4] at g4
   obtain ⟨x0, e0, _, w0⟩ := DataW.trod_int Tryd.underlying5 g0
   obtain ⟨n0, rfl, l0⟩ := nat_of_u8 w0
   obtain ⟨x1, e1, _, w1⟩ := DataW.trod_int Tryd.underlying5 g1
   obtain ⟨n1, rfl, l1⟩ := nat_of_u8 w1
   obtain ⟨x2, e2, _⟩ := DataW.trod_bool Tryd.underlying4 g2
   obtain ⟨x3, e3, _⟩ := DataW.trod_bool Tryd.underlying4 g3
   obtain ⟨x4, e4, _⟩ := DataW.trod_bool Tryd.underlying4 g4
   simp [Value.cells] at e0 e1 e2 e3 e4
   subst e0 e1 e2 e3 e4
   exact ⟨⟨n0, n1, x2, x3, x4⟩, rfl, l0, l1⟩
set_option maxRecDepth 100000 in
theorem cells_56 {l : List Value} {fuel : Nat} {x : DataW H × List MemPlace} (hsz : l.length = 14) (hf : DataW.trod enc Tryd.prog w base spare held fuel 56 l = some x) : ∃ x : Ac, l = aqC x ∧ x.ok := by
 obtain ⟨xs, n, _, _, _, hlen, hg⟩ := DataW.trod_struct Tryd.underlying56 hf
 match l, hsz with
 | [c0, c1, c2, c3, c4, c5, c6, c7, c8, c9, c10, c11, c12, c13], _ =>
  match xs, hlen with
  | [z0, z1, z2, z3, z4, z5, z6, z7], _ =>
   have g0 : DataW.trod enc Tryd.prog w base spare held n 5 (([c0, c1, c2, c3, c4, c5, c6, c7, c8, c9, c10, c11, c12, c13].drop 0).take (Tryd.prog.cellsOf 5)) = some z0 := hg 0 _ rfl
   have g1 : DataW.trod enc Tryd.prog w base spare held n 5 (([c0, c1, c2, c3, c4, c5, c6, c7, c8, c9, c10, c11, c12, c13].drop 1).take (Tryd.prog.cellsOf 5)) = some z1 := hg 1 _ rfl
   have g2 : DataW.trod enc Tryd.prog w base spare held n 5 (([c0, c1, c2, c3, c4, c5, c6, c7, c8, c9, c10, c11, c12, c13].drop 2).take (Tryd.prog.cellsOf 5)) = some z2 := hg 2 _ rfl
   have g3 : DataW.trod enc Tryd.prog w base spare held n 5 (([c0, c1, c2, c3, c4, c5, c6, c7, c8, c9, c10, c11, c12, c13].drop 3).take (Tryd.prog.cellsOf 5)) = some z3 := hg 3 _ rfl
   have g4 : DataW.trod enc Tryd.prog w base spare held n 53 (([c0, c1, c2, c3, c4, c5, c6, c7, c8, c9, c10, c11, c12, c13].drop 4).take (Tryd.prog.cellsOf 53)) = some z4 := hg 4 _ rfl
   have g5 : DataW.trod enc Tryd.prog w base spare held n 54 (([c0, c1, c2, c3, c4, c5, c6, c7, c8, c9, c10, c11, c12, c13].drop 8).take (Tryd.prog.cellsOf 54)) = some z5 := hg 5 _ rfl
   have g6 : DataW.trod enc Tryd.prog w base spare held n 5 (([c0, c1, c2, c3, c4, c5, c6, c7, c8, c9, c10, c11, c12, c13].drop 12).take (Tryd.prog.cellsOf 5)) = some z6 := hg 6 _ rfl
   have g7 : DataW.trod enc Tryd.prog w base spare held n 4 (([c0, c1, c2, c3, c4, c5, c6, c7, c8, c9, c10, c11, c12, c13].drop 13).take (Tryd.prog.cellsOf 4)) = some z7 := hg 7 _ rfl
   rw [cellsT5] at g0
   rw [cellsT5] at g1
   rw [cellsT5] at g2
   rw [cellsT5] at g3
   rw [cellsT53] at g4
   rw [cellsT54] at g5
   rw [cellsT5] at g6
   rw [cellsT4] at g7
   obtain ⟨x0, e0, _, w0⟩ := DataW.trod_int Tryd.underlying5 g0
   obtain ⟨n0, rfl, l0⟩ := nat_of_u8 w0
   obtain ⟨x1, e1, _, w1⟩ := DataW.trod_int Tryd.underlying5 g1
   obtain ⟨n1, rfl, l1⟩ := nat_of_u8 w1
   obtain ⟨x2, e2, _, w2⟩ := DataW.trod_int Tryd.underlying5 g2
   obtain ⟨n2, rfl, l2⟩ := nat_of_u8 w2
   obtain ⟨x3, e3, _, w3⟩ := DataW.trod_int Tryd.underlying5 g3
   obtain ⟨n3, rfl, l3⟩ := nat_of_u8 w3
   obtain ⟨x12, e12, _, w12⟩ := DataW.trod_int Tryd.underlying5 g6
   obtain ⟨n12, rfl, l12⟩ := nat_of_u8 w12
   obtain ⟨x13, e13, _⟩ := DataW.trod_bool Tryd.underlying4 g7
   obtain ⟨_, i4⟩ := arr_bools Tryd.underlying53 Tryd.underlying4 cellsT4 cellsT53 g4
   obtain ⟨_, i5⟩ := arr_ints Tryd.underlying54 Tryd.underlying5 cellsT5 cellsT54 g5
   obtain ⟨x4, e4⟩ := i4 0 (by omega)
   obtain ⟨x5, e5⟩ := i4 1 (by omega)
   obtain ⟨x6, e6⟩ := i4 2 (by omega)
   obtain ⟨x7, e7⟩ := i4 3 (by omega)
   obtain ⟨x8, e8, w8⟩ := i5 0 (by omega)
   obtain ⟨n8, rfl, l8⟩ := nat_of_u8 w8
   obtain ⟨x9, e9, w9⟩ := i5 1 (by omega)
   obtain ⟨n9, rfl, l9⟩ := nat_of_u8 w9
   obtain ⟨x10, e10, w10⟩ := i5 2 (by omega)
   obtain ⟨n10, rfl, l10⟩ := nat_of_u8 w10
   obtain ⟨x11, e11, w11⟩ := i5 3 (by omega)
   obtain ⟨n11, rfl, l11⟩ := nat_of_u8 w11
   simp [Value.cells] at e0 e1 e2 e3 e4 e5 e6 e7 e8 e9 e10 e11 e12 e13
   subst e0 e1 e2 e3 e4 e5 e6 e7 e8 e9 e10 e11 e12 e13
   exact ⟨⟨n0, n1, n2, n3, x4, x5, x6, x7, n8, n9, n10, n11, n12, x13⟩, rfl, l0, l1, l2, l3, l8, l9, l10, l11, l12⟩
theorem rows23 {a : Option Addr} {len cap : Nat} {d : DataW H} {p : List MemPlace} (h : DataW.Trod enc Tryd.prog w base spare held 23 (.slice a len cap) d p) : ∃ l : List Pg, l.length = len ∧ RowsAt w a 5 pgC l ∧ (∀ x ∈ l, x.ok) ∧ (len ≤ cap ∧ cap ≤ maxLen) := by
 have key : ∃ l : List Pg, l.length = len ∧ RowsAt w a 5 pgC l ∧ (∀ x ∈ l, Pg.ok x) ∧ (len ≤ cap ∧ cap ≤ maxLen) ∧ (a = none → len = 0 ∧ cap = 0) := by
  refine open_rows pgC Pg.ok Tryd.underlying23 cellsT84 (by decide) (fun _ => rfl) ?_ h
  intro fuel cs y hcs hf
  exact cells_84 hcs hf
 obtain ⟨l, h1, h2, h3, h4, -⟩ := key
 exact ⟨l, h1, h2, h3, h4⟩
theorem rows26 {a : Option Addr} {len cap : Nat} {d : DataW H} {p : List MemPlace} (h : DataW.Trod enc Tryd.prog w base spare held 26 (.slice a len cap) d p) : ∃ l : List Ac, l.length = len ∧ RowsAt w a 14 aqC l ∧ (∀ x ∈ l, x.ok) ∧ (len ≤ cap ∧ cap ≤ maxLen) := by
 have key : ∃ l : List Ac, l.length = len ∧ RowsAt w a 14 aqC l ∧ (∀ x ∈ l, Ac.ok x) ∧ (len ≤ cap ∧ cap ≤ maxLen) ∧ (a = none → len = 0 ∧ cap = 0) := by
  refine open_rows aqC Ac.ok Tryd.underlying26 cellsT56 (by decide) (fun _ => rfl) ?_ h
  intro fuel cs y hcs hf
  exact cells_56 hcs hf
 obtain ⟨l, h1, h2, h3, h4, -⟩ := key
 exact ⟨l, h1, h2, h3, h4⟩
set_option maxRecDepth 100000 in
theorem cells_25 {l : List Value} {fuel : Nat} {x : DataW H × List MemPlace} (hsz : l.length = 5) (hf : DataW.trod enc Tryd.prog w base spare held fuel 25 l = some x) : ∃ (x : Sg) (a : Option Addr) (len cap : Nat) (pl : List Pg), l = (sgA x (.slice a len cap)).toList ∧ x.ok ∧ pl.length = len ∧ RowsAt w a 5 pgC pl ∧ (∀ y ∈ pl, y.ok) ∧ (len ≤ cap ∧ cap ≤ maxLen) := by
 obtain ⟨xs, n, _, _, _, hlen, hg⟩ := DataW.trod_struct Tryd.underlying25 hf
 match l, hsz with
 | [c0, c1, c2, c3, c4], _ =>
  match xs, hlen with
  | [z0, z1, z2], _ =>
   have g0 : DataW.trod enc Tryd.prog w base spare held n 5 (([c0, c1, c2, c3, c4].drop 0).take (Tryd.prog.cellsOf 5)) = some z0 := hg 0 _ rfl
   have g1 : DataW.trod enc Tryd.prog w base spare held n 22 (([c0, c1, c2, c3, c4].drop 1).take (Tryd.prog.cellsOf 22)) = some z1 := hg 1 _ rfl
   have g2 : DataW.trod enc Tryd.prog w base spare held n 23 (([c0, c1, c2, c3, c4].drop 4).take (Tryd.prog.cellsOf 23)) = some z2 := hg 2 _ rfl
   rw [cellsT5] at g0
   rw [cellsT22] at g1
   rw [cellsT23] at g2
   obtain ⟨x0, e0, _, w0⟩ := DataW.trod_int Tryd.underlying5 g0
   obtain ⟨n0, rfl, l0⟩ := nat_of_u8 w0
   obtain ⟨_, i1⟩ := arr_ints Tryd.underlying22 Tryd.underlying5 cellsT5 cellsT22 g1
   obtain ⟨x1, e1, w1⟩ := i1 0 (by omega)
   obtain ⟨n1, rfl, l1⟩ := nat_of_u8 w1
   obtain ⟨x2, e2, w2⟩ := i1 1 (by omega)
   obtain ⟨n2, rfl, l2⟩ := nat_of_u8 w2
   obtain ⟨x3, e3, w3⟩ := i1 2 (by omega)
   obtain ⟨n3, rfl, l3⟩ := nat_of_u8 w3
   have hsl : ∃ a len cap, c4 = .slice a len cap := by
    rcases open_slice Tryd.underlying23 g2 with ⟨hcs, -⟩ | ⟨x, len', cap', m, n', D, Pl, hcs, -⟩
    ·
     simp [Value.cells] at hcs; exact ⟨_, _, _, hcs⟩
    ·
     simp [Value.cells] at hcs; exact ⟨_, _, _, hcs⟩
   obtain ⟨a, len, cap, rfl⟩ := hsl
   obtain ⟨y1, y2, y3, y4, y5⟩ := rows23 (d := z2.1) (p := z2.2) ⟨n, by simpa [Value.cells] using g2⟩
   simp [Value.cells] at e0 e1 e2 e3
   subst e0 e1 e2 e3
   exact ⟨⟨n0, n1, n2, n3⟩, a, len, cap, y1, rfl, ⟨l0, l1, l2, l3⟩, y2, y3, y4, y5⟩
set_option maxRecDepth 100000 in
theorem open_s25 {v : Value} {d : DataW H} {p : List MemPlace} {b0 : Nat} {r : Reach} (hv : Value.okWide Tryd.prog w r b0 25 v) (h : DataW.Trod enc Tryd.prog w base spare held 25 v d p) : ∃ (x : Sg) (a : Option Addr) (len cap : Nat) (pl : List Pg), v = .agg (sgA x (.slice a len cap)) ∧ x.ok ∧ pl.length = len ∧ RowsAt w a 5 pgC pl ∧ (∀ y ∈ pl, y.ok) ∧ (len ≤ cap ∧ cap ≤ maxLen) := by
 obtain ⟨cs, rfl, hsz⟩ := okWide_struct Tryd.underlying25 hv
 obtain ⟨fuel, hf⟩ := h
 obtain ⟨x, a, len, cap, pl, hx, h1⟩ := cells_25 (by rw [Array.length_toList]; exact hsz.trans cellsT25) hf
 exact ⟨x, a, len, cap, pl, by rw [← Array.toArray_toList (xs := cs), show cs.toList = _ from hx], h1⟩
end
theorem roles_laid {W : World} (h : laidMetH Tryd.prog [("girder/tree.roles", Rows.laid_girder_tree_roles)] W) : RolesAt W := by
 rw [MakeChecks.laidMetH_plain _ _ _ (by kernel_rfl)] at h
 have h1 := laidMet.filter (fun x => x.1 == "girder/tree.roles") h
 exact Lib.tabIs_of_head (g := 0) (t := 153) (e := 5) (n := 5) (k := .u8) (zs := [0, 1, 1, 2, 3]) (rest := []) (by kernel_rfl) (by kernel_rfl) Tryd.underlying153 Tryd.underlying5 (by kernel_rfl) (by kernel_rfl) h1
end
end Go.Proofs.YtebnpblincgjlaaDoor
