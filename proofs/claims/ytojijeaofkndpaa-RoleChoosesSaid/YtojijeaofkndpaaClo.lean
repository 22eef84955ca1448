/- State.Clone: a state whose lists are new memory. What regions that append one element share. -/
import Derived.Test.YtojijeaofkndpaaSta
import Derived.Test.YtojijeaofkndpaaThree
namespace Go.Proofs.Ytojijeaofkndpaa
open Go.RowKit
set_option linter.unusedSimpArgs false
set_option linter.unusedVariables false

/-- The four lists lie apart. -/
structure Apart (v1 v2 v3 v4 : Value) : Prop where
  n12 : ∀ g, v1.ownBlock = some g → v2.ownBlock ≠ some g
  n13 : ∀ g, v1.ownBlock = some g → v3.ownBlock ≠ some g
  n14 : ∀ g, v1.ownBlock = some g → v4.ownBlock ≠ some g
  n23 : ∀ g, v2.ownBlock = some g → v3.ownBlock ≠ some g
  n24 : ∀ g, v2.ownBlock = some g → v4.ownBlock ≠ some g
  n34 : ∀ g, v3.ownBlock = some g → v4.ownBlock ≠ some g
theorem own_apart {α β : Type} {ea : α → List Value} {eb : β → List Value} {sa sb B B' : Nat} {w w' : World} {ta tb : TypeId} {v u : Value} {la : List α} {lb : List β} (h : Own w B ta sa ea v la) (hu : Own w' B' tb sb eb u lb) (hB : w.heap.size ≤ B') : ∀ g, v.ownBlock = some g → u.ownBlock ≠ some g := fun g h1 h2 => by
  have a := (h.lt g h1).2
  have b := (hu.lt g h2).1
  omega
theorem own_not {α : Type} {ea : α → List Value} {sa B g : Nat} {w : World} {ta : TypeId} {v : Value} {la : List α} (h : Own w B ta sa ea v la) (hg : g < B) : v.ownBlock ≠ some g := fun e => by
  have := (h.lt g e).1
  omega
theorem st_set6 (s : St) (v1 v2 v3 v4 u : Value) : (stA s v1 v2 v3 v4).setIfInBounds 6 u = stA s u v2 v3 v4 := rfl
theorem st_set7 (s : St) (v1 v2 v3 v4 u : Value) : (stA s v1 v2 v3 v4).setIfInBounds 7 u = stA s v1 u v3 v4 := rfl
theorem st_set8 (s : St) (v1 v2 v3 v4 u : Value) : (stA s v1 v2 v3 v4).setIfInBounds 8 u = stA s v1 v2 u v4 := rfl
theorem st_set9 (s : St) (v1 v2 v3 v4 u : Value) : (stA s v1 v2 v3 v4).setIfInBounds 9 u = stA s v1 v2 v3 u := rfl
theorem Own.rowOther {α : Type} {enc : α → List Value} {size base k : Nat} {w : World} {e : TypeId} {v : Value} {l : List α} (h : Own w base e size enc v l) (hk : v.ownBlock ≠ some k) (new : Array Value) : Own (w.setRow k new) base e size enc v l := by
  refine ⟨h.1, ?_⟩
  rcases h.2 with hn | ⟨g, cap, cur, rfl, h2, h3, h4⟩
  · exact .inl hn
  · exact .inr ⟨g, cap, cur, rfl, h2, (setRow_other w k g new (fun e => hk (by rw [← e]; rfl))).trans h3, h4⟩
theorem own_row {w : World} {B k : Nat} {s : St} {v1 v2 v3 v4 : Value} (h : OwS w B s v1 v2 v3 v4) (h1 : v1.ownBlock ≠ some k) (h2 : v2.ownBlock ≠ some k) (h3 : v3.ownBlock ≠ some k) (h4 : v4.ownBlock ≠ some k) (new : Array Value) : OwS (w.setRow k new) B s v1 v2 v3 v4 :=
  ⟨h.o1.rowOther h1 new, h.o2.rowOther h2 new, h.o3.rowOther h3 new, h.o4.rowOther h4 new, h.few⟩
abbrev nil25 : Array Value := #[.int .u64 0, .int .i64 0, .int .i64 0, .int .i64 0, .int .i64 0, .int .i64 0, .slice none 0 0, .slice none 0 0, .slice none 0 0, .slice none 0 0, .int .u32 0, .int .u32 0, .int .u32 0, .int .u32 0, .int .u32 0, .int .u32 0, .int .u32 0, .int .u32 0, .int .u32 0, .int .u32 0, .int .u32 0, .int .u32 0, .int .u32 0, .int .u32 0, .int .i64 0]

end Go.Proofs.Ytojijeaofkndpaa
