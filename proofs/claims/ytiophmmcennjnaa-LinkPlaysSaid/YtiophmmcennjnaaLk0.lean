/- One-line laws, short; what is owned, turned. -/
import Derived.Test.YtiophmmcennjnaaBd
import Derived.Test.YtiophmmcennjnaaApp
import Derived.Test.YtiophmmcennjnaaQuietly
import Derived.Test.YtiophmmcennjnaaNums
import Derived.Test.YtiophmmcennjnaaStrs
import Derived.Deep.DeepCutAuto
namespace Go.Proofs.Ytiophmmcennjnaa
open Go.RowKit
attribute [local irreducible] wpQuiet wpList
set_option linter.unusedSimpArgs false
set_option linter.unusedVariables false

theorem gA {α : Type} {l : List α} {i : Nat} (h : i < l.toArray.size) : l.toArray[i] = l[i]'(by simpa using h) := List.getElem_toArray h
theorem gS {α : Type} {a : α} {l : List α} {i : Nat} (h : i + 1 < (a :: l).length) : (a :: l)[i + 1] = l[i]'(Nat.lt_of_succ_lt_succ h) := List.getElem_cons_succ ..
theorem gZ {α : Type} {a : α} {l : List α} (h : 0 < (a :: l).length) : (a :: l)[0] = a := rfl
theorem sA {α : Type} {l : List α} {i : Nat} {a : α} : l.toArray.setIfInBounds i a = (l.set i a).toArray := List.setIfInBounds_toArray ..
theorem sZ {α : Type} {a b : α} {l : List α} : (a :: l).set 0 b = b :: l := rfl
theorem sS {α : Type} {a b : α} {l : List α} {n : Nat} : (a :: l).set (n + 1) b = a :: l.set n b := rfl
theorem wv {P : Program} {ops : Array Oper} {Q : Exit → Act → World → Prop} {a : Act} {w : World} {rest : List Oper} {o : Oper} (v : Value) (h : wpList P ops Q rest (a.put o.dst v) w) (hw : Region.wanted o (yielded ops a.tmps) = true := by rfl)
    (hrun : (execOp a.eval o).run P w = .ok (.value v) w := by go_simp) : wpList P ops Q (o :: rest) a w := wpList_val v hw hrun h
section
variable {α : Type} {enc : α → List Value} {size : Nat} {w w' : World} {base : Nat} {e : TypeId} {v : Value} {l : List α}
/-- Its address, its room. -/
theorem Own.shape (h : Own w base e size enc v l) : ∃ a c, v = .slice a l.length c ∧ l.length ≤ c ∧ c ≤ maxLen := by
  rcases h.cases with ⟨rfl, rfl⟩ | ⟨g, cap, rfl, -, -, h1, h2⟩
  · exact ⟨none, 0, rfl, Nat.le_refl _, by unfold maxLen; omega⟩
  · exact ⟨_, cap, rfl, h1, h2⟩
/-- An element of it. -/
theorem Own.elem (henc : ∀ x, (enc x).length = size) {a : Option Addr} {c : Nat} (h : Own w base e size enc (.slice a l.length c) l) {k : Nat} {x : α} (hx : l[k]? = some x) :
    ∃ g, a = some ⟨g, 0, none⟩ ∧ base ≤ g ∧ g < w.heap.size ∧ ∀ W, Below w.heap.size w W → W.rangeAt g (k * size) (enc x) := by
  have hk : k < l.length := (List.getElem?_eq_some_iff.1 hx).1
  rcases h.cases with ⟨h1, rfl⟩ | ⟨g, cap, h1, h2, h3, -, -⟩
  · simp at hk
  · injection h1 with h1 _ h4
    subst h1
    subst h4
    refine ⟨g, rfl, h2, h3, fun W hW j u hu => ?_⟩
    have hj : j < size := by have := (List.getElem?_eq_some_iff.1 hu).1; rw [henc] at this; exact this
    rw [(h.next hW).at henc k j x hx hj, hu]
end
theorem range_part {w : World} {g b o : Nat} {arr part : Array Value} (h : w.rangeAt g b arr.toList) (hp : ∀ k v, part.toList[k]? = some v → arr[o + k]? = some v) : w.rangeAt g (b + o) part.toList := fun j u hu => by
  have q := hp j u hu
  have := h (o + j) u (by simpa using q)
  rw [Nat.add_assoc]
  exact this
theorem range_cell {w : World} {g b o : Nat} {arr : Array Value} {v : Value} (h : w.rangeAt g b arr.toList) (hp : arr[o]? = some v) : w.cell? ⟨g, b + o, none⟩ = some v := h o v (by simpa using hp)

/-- Blocks as something owned. -/
def bdK (l : List (Nat × Array Value × TypeId)) : Bd :=
  ⟨fun W => ∀ x ∈ l, Blk W x.1 x.2.1 x.2.2, fun k => k ∈ l.map (·.1), fun h q => by obtain ⟨x, hx, rfl⟩ := List.mem_map.1 q; exact (h x hx).lt, fun h m n x hx => (h x hx).fr m (n x.1 (List.mem_map.2 ⟨x, hx, rfl⟩))⟩
section
variable {w0 w w' : World} {l : List (Nat × Array Value × TypeId)} {A A' C : Bd}
theorem Kx.fold (K : Kx w0 l A w) : Kx w0 [] (A.and (bdK l)) w :=
  ⟨⟨fun _ h => (by cases h), K.below, fun _ h => (by cases h), List.nodup_nil⟩, ⟨K.a, K.kb.all⟩, fun _ h => (by cases h), fun k h => by
    rcases h with h | h
    · exact K.nw k h
    · obtain ⟨x, hx, rfl⟩ := List.mem_map.1 h; exact K.kb.new x hx⟩
theorem Kx.back (K : Kx w0 l A w) (h : Kx w0 [] (A'.and (bdK l)) w') (hf : ∀ k, A'.f k → A.f k ∨ w.heap.size ≤ k) : Kx w0 l A' w' :=
  ⟨⟨h.a.2, h.below, K.kb.new, K.kb.nd⟩, h.a.1, fun x hx q => by
    rcases hf _ q with q | q
    · exact K.ap x hx q
    · have := (K.kb.all x hx).lt; omega, fun k q => h.nw k (.inl q)⟩
theorem Kx.turn (K : Kx w0 l A w) (h : A.p w → A'.p w) (hf : ∀ k, A'.f k → A.f k) : Kx w0 l A' w := ⟨K.kb, h K.a, fun x hx q => K.ap x hx (hf _ q), fun k q => K.nw k (hf k q)⟩
/-- Some of one's owned things change, and nothing else. -/
theorem Kx.moved (K : Kx w0 l (A.and C) w) (m : Mv A.f w w') (h : A'.p w') (hf : ∀ k, A'.f k → A.f k ∨ w.heap.size ≤ k) (hd : ∀ k, C.f k → ¬ A.f k) : Kx w0 l (A'.and C) w' := by
  refine ⟨⟨fun x hx => (K.kb.all x hx).fr m (fun q => K.ap x hx (.inl q)), ?_, K.kb.new, K.kb.nd⟩, ⟨h, C.mv K.a.2 m hd⟩, fun x hx q => ?_, fun k q => ?_⟩
  · refine K.below.trans ⟨m.os, m.tape, m.output, m.size, fun k hk => m.block k (Nat.lt_of_lt_of_le hk K.below.size) (fun q => ?_)⟩
    have := K.nw k (.inl q)
    omega
  · rcases q with q | q
    · rcases hf _ q with q | q
      · exact K.ap x hx (.inl q)
      · have := (K.kb.all x hx).lt; omega
    · exact K.ap x hx (.inr q)
  · rcases q with q | q
    · rcases hf _ q with q | q
      · exact K.nw k (.inl q)
      · exact Nat.le_trans K.below.size q
    · exact K.nw k (.inr q)
end
end Go.Proofs.Ytiophmmcennjnaa
