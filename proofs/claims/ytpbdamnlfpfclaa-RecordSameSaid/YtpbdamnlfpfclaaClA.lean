/- RecordCold: what stays. -/
import Derived.Test.YtpbdamnlfpfclaaSpk
namespace Go.Proofs.Ytpbdamnlfpfclaa
open Go.RowKit
attribute [local irreducible] wpQuiet
set_option linter.unusedSimpArgs false
set_option linter.unusedVariables false

theorem wpList_callx {P : Program} {ops : Array Oper} {Q : Exit → Act → World → Prop} {a : Act} {w : World} {rest : List Oper} {o : Oper} (f : FuncId) (args : Array Value) (R : Value → World → Prop) (hw : Region.wanted o (yielded ops a.tmps) = true)
    (hv : (execOp a.eval o).run P w = .ok (.enter f args) w) (hc : Calls P f args w fun e w' => ∃ v, e = .returned v ∧ R v w') (h : ∀ v w', R v w' → wpList P ops Q rest (a.put o.dst v) w') : wpList P ops Q (o :: rest) a w :=
  BigFrame.wpList_want hw fun K hK => by
    unfold Oper.wp
    simp only [hv, Oper.upon]
    exact hc.mono fun e w' ⟨v, he, hr⟩ => by subst he; exact hK _ _ (h v w' hr)
theorem RowsOk.next {α : Type} {w w' : World} {a : Option Addr} {n m size : Nat} {enc : α → List Value} {ok : α → Prop} {l : List α} (h : RowsOk w a n m size enc ok l) (hb : Below w.heap.size w w') : RowsOk w' a n m size enc ok l :=
  ⟨h.len, h.rows.same hb, h.ok, h.cap⟩
/-- What stays as it is: what came in, the state, the state begun cold. -/
structure ClH (w0 wB : World) (x A5 A6 : Array Value) (g b5 b6 : Nat) (t : St) (a1 : Option Addr) (n1 c1 : Nat) (d1 : Option Addr) (e1 : Nat) (a2 : Option Addr) (n2 c2 : Nat) (d2 : Option Addr) (e2 : Nat) (a3 : Option Addr) (n3 c3 : Nat) (d3 : Option Addr) (e3 : Nat) (y4 : Value) : Prop where
  below : Below w0.heap.size w0 wB
  ki : Blk wB g x 30
  xi : (Try.prog.info? 30).map (·.size) = some x.size
  k5 : Blk wB b5 A5 41
  k6 : Blk wB b6 A6 41
  q5 : A5 = stA t (.slice a1 n1 c1) (.slice a2 n2 c2) (.slice a3 n3 c3) y4
  q6 : A6 = stA (coldS t) (.slice d1 n1 e1) (.slice d2 n2 e2) (.slice d3 n3 e3) (.slice none 0 0)
  o5 : OwS wB 0 t (.slice a1 n1 c1) (.slice a2 n2 c2) (.slice a3 n3 c3) y4
  o6 : OwS wB 0 (coldS t) (.slice d1 n1 e1) (.slice d2 n2 e2) (.slice d3 n3 e3) (.slice none 0 0)
  l1 : n1 = t.po.length
  l2 : n2 = t.vl.length
  l3 : n3 = t.st.length
  made : ∀ W, Below wB.heap.size wB W → Calls Try.prog 6 #[.agg x] W fun e w' => ∃ v, e = .returned v ∧ (IsSt w' t v ∧ Below W.heap.size W w')
section
variable {w0 wB : World} {x A5 A6 : Array Value} {g b5 b6 : Nat} {t : St} {a1 : Option Addr} {n1 c1 : Nat} {d1 : Option Addr} {e1 : Nat} {a2 : Option Addr} {n2 c2 : Nat} {d2 : Option Addr} {e2 : Nat} {a3 : Option Addr} {n3 c3 : Nat} {d3 : Option Addr} {e3 : Nat} {y4 : Value}
theorem ClH.c5 (h : ClH w0 wB x A5 A6 g b5 b6 t a1 n1 c1 d1 e1 a2 n2 c2 d2 e2 a3 n3 c3 d3 e3 y4) (W : World) (hW : Below wB.heap.size wB W) : W.cell? ⟨b5, 6, none⟩ = some (.slice a1 n1 c1) ∧ W.cell? ⟨b5, 7, none⟩ = some (.slice a2 n2 c2) ∧ W.cell? ⟨b5, 8, none⟩ = some (.slice a3 n3 c3) := by
  have k := h.k5.below hW h.k5.lt
  rw [h.q5] at k
  have q := st_cells k
  exact ⟨q.1, q.2.1, q.2.2.1⟩
theorem ClH.c6 (h : ClH w0 wB x A5 A6 g b5 b6 t a1 n1 c1 d1 e1 a2 n2 c2 d2 e2 a3 n3 c3 d3 e3 y4) (W : World) (hW : Below wB.heap.size wB W) : W.cell? ⟨b6, 6, none⟩ = some (.slice d1 n1 e1) ∧ W.cell? ⟨b6, 7, none⟩ = some (.slice d2 n2 e2) ∧ W.cell? ⟨b6, 8, none⟩ = some (.slice d3 n3 e3) := by
  have k := h.k6.below hW h.k6.lt
  rw [h.q6] at k
  have q := st_cells k
  exact ⟨q.1, q.2.1, q.2.2.1⟩
theorem own_cap {α : Type} {w : World} {B : Nat} {e : TypeId} {size : Nat} {enc : α → List Value} {a : Option Addr} {n c : Nat} {l : List α} (h : Own w B e size enc (.slice a n c) l) : n ≤ c ∧ c ≤ maxLen := by
  obtain ⟨a', c', e, h1, h2⟩ := h.shape
  injection e with _ e2 e3
  subst e2
  subst e3
  exact ⟨h1, h2⟩
theorem ClH.is5 (h : ClH w0 wB x A5 A6 g b5 b6 t a1 n1 c1 d1 e1 a2 n2 c2 d2 e2 a3 n3 c3 d3 e3 y4) (W : World) (hW : Below wB.heap.size wB W) : IsSt W t (.agg A5) := ⟨0, _, _, _, _, by rw [h.q5], h.o5.next hW⟩
theorem ClH.is6 (h : ClH w0 wB x A5 A6 g b5 b6 t a1 n1 c1 d1 e1 a2 n2 c2 d2 e2 a3 n3 c3 d3 e3 y4) (W : World) (hW : Below wB.heap.size wB W) : IsSt W (coldS t) (.agg A6) := ⟨0, _, _, _, _, by rw [h.q6], h.o6.next hW⟩
theorem ClH.i5 (h : ClH w0 wB x A5 A6 g b5 b6 t a1 n1 c1 d1 e1 a2 n2 c2 d2 e2 a3 n3 c3 d3 e3 y4) : (Try.prog.info? 41).map (·.size) = some A5.size := by rw [h.q5]; exact st_info _ _ _ _ _
theorem ClH.i6 (h : ClH w0 wB x A5 A6 g b5 b6 t a1 n1 c1 d1 e1 a2 n2 c2 d2 e2 a3 n3 c3 d3 e3 y4) : (Try.prog.info? 41).map (·.size) = some A6.size := by rw [h.q6]; exact st_info _ _ _ _ _
end
noncomputable def tail3 (n : Nat) : Code := ((Try.f3.body.bind (fromC n)).getD .skip)
end Go.Proofs.Ytpbdamnlfpfclaa
