/- ClassifyTells: pairs that came in, the table beside a block of the law's own; the code behind a loop. -/
import Derived.Test.YtpjfpcebjneblaaSp11
import Derived.Test.YtpjfpcebjneblaaBld
import Derived.Test.YtpjfpcebjneblaaStrs
import Derived.Test.YtpjfpcebjneblaaOp11
import Derived.Deep.DeepCutAuto
namespace Go.Proofs.Ytpjfpcebjneblaa
open Go.RowKit
attribute [local irreducible] wpQuiet
set_option linter.unusedSimpArgs false
set_option linter.unusedVariables false

theorem wrap_u32 (x : Int) : IntKind.u32.wrap x = x % 4294967296 := rfl
/-- Pairs of numbers that came in. -/
def pC (p : Nat × Nat) : List Value := [.int .u16 (p.1 : Nat), .int .u16 (p.2 : Nat)]
def IsPairs (w : World) (a : Option Addr) (len cap : Nat) (l : List (Nat × Nat)) : Prop :=
  l.length = len ∧ RowsAt w a 2 pC l ∧ (∀ x ∈ l, x.1 < 65536 ∧ x.2 < 65536) ∧ (len ≤ cap ∧ cap ≤ maxLen) ∧ (a = none → len = 0 ∧ cap = 0)
/-- One that is there has a place. -/
theorem mem_at {x : Vl} {l : List Vl} (h : x ∈ l) : 0 ≤ atV x.vid l := by
  rcases atV_cases x.vid l with ⟨-, h2⟩ | ⟨k, y, h1, -, -⟩
  · exact absurd rfl (h2 x h)
  · omega
/-- Set twice is set once. -/
theorem setVE_again (l : List Vl) (x : Vl) : setVE (setV l x) x = setVE l x := by
  by_cases hg : goodV x = 0
  · by_cases h0 : 0 ≤ atV x.vid l
    · have e : setV l x = l.set (atV x.vid l).toNat x := by unfold setV; rw [if_neg (by simpa using hg), if_pos h0]
      have hm : x ∈ setV l x := by
        rcases atV_cases x.vid l with ⟨h1, -⟩ | ⟨k, y, h1, h2, -⟩
        · omega
        · rw [e, h1]
          have := (List.getElem?_eq_some_iff.1 h2).1
          exact List.mem_of_getElem? (i := k) (by simp [this])
      have := mem_at hm
      unfold setVE
      rw [if_neg (by simpa using hg), if_pos this, if_neg (by simpa using hg), if_pos h0]
    · by_cases hf : 16 ≤ l.length
      · have e : setV l x = l := by unfold setV; rw [if_neg (by simpa using hg), if_neg h0, if_pos hf]
        rw [e]
      · have e : setV l x = l.take (posV x.vid l) ++ [x] ++ l.drop (posV x.vid l) := by unfold setV; rw [if_neg (by simpa using hg), if_neg h0, if_neg hf]
        have hm : x ∈ setV l x := by rw [e]; simp
        have := mem_at hm
        unfold setVE
        rw [if_neg (by simpa using hg), if_pos this, if_neg (by simpa using hg), if_neg h0, if_neg hf]
  · have e : setV l x = l := by unfold setV; rw [if_pos hg]
    rw [e]

/-- The table, and a block of the law's own. -/
structure Ctx (w1 : World) (b A B P : Nat) (po : Array Value) (l : List Vl) (w : World) : Prop where
  one : OneV w1 b A B l w
  small : Small l
  low : B ≤ P
  blk : Blk w P po 30
theorem Ctx.next {w1 w w' : World} {b A B P : Nat} {po : Array Value} {l : List Vl} (h : Ctx w1 b A B P po l w) (hb : Below w.heap.size w w') : Ctx w1 b A B P po l w' :=
  ⟨h.one.next hb, h.small, h.low, h.blk.below hb h.blk.lt⟩
/-- Set: it answers this, and may have been set. -/
def CtxE (w1 : World) (b A B P : Nat) (po : Array Value) (x : Vl) (er : Int) (w : World) : Prop := ∃ l, Ctx w1 b A B P po l w ∧ setVE l x = er
theorem CtxE.below {w1 w : World} {b A B P : Nat} {po : Array Value} {x : Vl} {er : Int} (h : CtxE w1 b A B P po x er w) : Below w1.heap.size w1 w := by
  obtain ⟨l, h1, -⟩ := h
  exact h1.one.below
theorem CtxE.set {w1 w : World} {b A B P : Nat} {po : Array Value} {x : Vl} {er : Int} (h : CtxE w1 b A B P po x er w) :
    Calls Try.prog 10 #[.pointer (some ⟨b, 0, none⟩), vlV x] w fun e w' => e = .returned (.int .i64 er) ∧ CtxE w1 b A B P po x er w' := by
  obtain ⟨l, h1, h2⟩ := h
  refine (set_tm x h1.one.tab h1.one.low.2.1 h1.one.low.2.2).mono fun e w' ⟨q1, q2, q3⟩ => ⟨by rw [q1, h2], setV l x, ⟨h1.one.after q2 q3, setV_small h1.small x, h1.low, ?_⟩, by rw [setVE_again, h2]⟩
  exact (q3.block P (.inr h1.low) h1.blk.lt).trans h1.blk

/-- The cells of what is asked. -/
def Cells3 (w1 : World) (g : Nat) (pv : Nat) (ac : Int) (fi : Bool) (no : Int) (tg : Bool) (vi : Nat) (sl : Value) : Prop :=
  ∀ W, Below w1.heap.size w1 W → W.cell? ⟨g, 0, none⟩ = some (.int .u16 (pv : Nat)) ∧ W.cell? ⟨g, 1, none⟩ = some (.int .i64 ac) ∧ W.cell? ⟨g, 2, none⟩ = some (.bool fi) ∧ W.cell? ⟨g, 3, none⟩ = some (.int .i64 no) ∧
      W.cell? ⟨g, 4, none⟩ = some (.bool tg) ∧ W.cell? ⟨g, 5, none⟩ = some (.int .u16 (vi : Nat)) ∧ W.cell? ⟨g, 6, none⟩ = some sl
/-- The code from a statement on, that is in no loop. -/
def fromC (n : Nat) : Code → Option Code
  | .region id ops d => if id = n then some (.region id ops d) else none
  | .seq x y => match fromC n x with
    | some x' => some (.seq x' y)
    | none => fromC n y
  | .block _ c => fromC n c
  | .scope c => fromC n c
  | _ => none
noncomputable def tail3 (n : Nat) : Code := ((Try.f3.body.bind (fromC n)).getD .skip)
end Go.Proofs.Ytpjfpcebjneblaa
