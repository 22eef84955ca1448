/- Up to two rows of their own types that are made and filled in one region, in whatever order; with no program in sight. -/
import Derived.Test.YtiophmmcennjnaaKb
import Derived.Test.YtiophmmcennjnaaThree
namespace Go.Proofs.Ytiophmmcennjnaa
open Go.RowKit
set_option linter.unusedVariables false

structure W2 (w1 : World) (t t' : TypeId) (n n' : Nat) (x y : Array Value) (a b p q : Bool) (v7 v8 : Value) (w : World) : Prop where
  from1 : Below w1.heap.size w1 w
  p7 : a = true → PtrAt w1.heap.size t n w v7 p x
  p8 : b = true → PtrAt w1.heap.size t' n' w v8 q y
  d78 : a = true → b = true → v7 ≠ v8
  o7 : p = true → a = true
  o8 : q = true → b = true
section
variable {w1 w w' : World} {t t' : TypeId} {n n' : Nat} {x y nil : Array Value} {a b p q : Bool} {v7 v8 : Value} {g : Nat} {cs : Array Value}
theorem W2.start (w : World) : W2 w t t' n n' x y false false false false v7 v8 w.drew :=
  ⟨(Below.refl _ _).drew, (fun h => Bool.noConfusion h), (fun h => Bool.noConfusion h), (fun h => Bool.noConfusion h), (fun h => Bool.noConfusion h), (fun h => Bool.noConfusion h)⟩
theorem W2.next (h : W2 w1 t t' n n' x y a b p q v7 v8 w) (hb : Below w.heap.size w w') : W2 w1 t t' n n' x y a b p q v7 v8 w' :=
  ⟨h.from1.trans (hb.mono h.from1.size), fun hu => (h.p7 hu).below hb, fun hu => (h.p8 hu).below hb, h.d78, h.o7, h.o8⟩
theorem W2.alloc7 (h : W2 w1 t t' n n' x y a b p q v7 v8 w) (hn : nil.size = n) (hl : a = false) : W2 w1 t t' n n' x y true b p q (.pointer (some ⟨w.heap.size, 0, none⟩)) v8 (w.alloc (.cells nil t)) :=
  ⟨h.from1.alloc h.from1.size _, fun _ => ⟨w.heap.size, nil, rfl, h.from1.size, hn, Blk.new w nil t, fun hd => by rw [h.o7 hd] at hl; cases hl⟩, fun hu => (h.p8 hu).below ((Below.refl _ _).alloc (Nat.le_refl _) _), fun _ hu e => (h.p8 hu).old e.symm, fun hd => rfl, h.o8⟩
theorem W2.alloc8 (h : W2 w1 t t' n n' x y a b p q v7 v8 w) (hn : nil.size = n') (hl : b = false) : W2 w1 t t' n n' x y a true p q v7 (.pointer (some ⟨w.heap.size, 0, none⟩)) (w.alloc (.cells nil t')) :=
  ⟨h.from1.alloc h.from1.size _, fun hu => (h.p7 hu).below ((Below.refl _ _).alloc (Nat.le_refl _) _), fun _ => ⟨w.heap.size, nil, rfl, h.from1.size, hn, Blk.new w nil t', fun hd => by rw [h.o8 hd] at hl; cases hl⟩, fun hu _ e => (h.p7 hu).old e, h.o7, fun hd => rfl⟩
theorem W2.store7 (h : W2 w1 t t' n n' x y a b p q (.pointer (some ⟨g, 0, none⟩)) v8 w) (ha : a = true) (hx : x.size = n) (hk : Blk w g cs t) (hc : w1.heap.size ≤ g) : W2 w1 t t' n n' x y a b true q (.pointer (some ⟨g, 0, none⟩)) v8 (w.setRow g x) :=
  ⟨below_setRow h.from1 hc _, fun _ => ⟨g, x, rfl, hc, hx, hk.row _, fun _ => rfl⟩, fun hu => (h.p8 hu).rowOther (fun e => h.d78 ha hu e.symm), h.d78, fun _ => ha, h.o8⟩
theorem W2.store8 (h : W2 w1 t t' n n' x y a b p q v7 (.pointer (some ⟨g, 0, none⟩)) w) (ha : b = true) (hy : y.size = n') (hk : Blk w g cs t') (hc : w1.heap.size ≤ g) : W2 w1 t t' n n' x y a b p true v7 (.pointer (some ⟨g, 0, none⟩)) (w.setRow g y) :=
  ⟨below_setRow h.from1 hc _, fun hu => (h.p7 hu).rowOther (fun e => h.d78 hu ha e), fun _ => ⟨g, y, rfl, hc, hy, hk.row _, fun _ => rfl⟩, h.d78, h.o7, fun _ => ha⟩
end
theorem kb_add {w0 w : World} {l : List (Nat × Array Value × TypeId)} {b : Nat} {cs : Array Value} {t : TypeId} (K : Kb w0 l w) (hk : Blk w b cs t) (hf : ∀ x ∈ l, x.1 ≠ b) (h0 : w0.heap.size ≤ b) : Kb w0 (l ++ [(b, cs, t)]) w := by
  refine ⟨fun x hx => ?_, K.below, fun x hx => ?_, ?_⟩
  · rcases List.mem_append.1 hx with hx | hx
    · exact K.all x hx
    · rw [List.mem_singleton.1 hx]; exact hk
  · rcases List.mem_append.1 hx with hx | hx
    · exact K.new x hx
    · rw [List.mem_singleton.1 hx]; exact h0
  · rw [List.map_append, List.nodup_append]
    refine ⟨K.nd, by simp, fun x hx y hy => ?_⟩
    obtain ⟨z, hz, rfl⟩ := List.mem_map.1 hx
    have := hf z hz
    simp at hy
    omega
theorem cast_blk {w0 w : World} {l l' : List (Nat × Array Value × TypeId)} (K : Kb w0 l w) (e : l = l') : Kb w0 l' w := e ▸ K
/-- A guard that is known. -/
theorem wanted_of {ops : Array Oper} {o : Oper} {tmps : Array Value} {j d : Nat} {want b c : Bool} (ho : o.guard = some (j, want)) (hd : (ops[j]?).bind (·.dst) = some d) (ht : tmps[d]? = some (.bool b)) (hc : (b == want) = c) : Region.wanted o (yielded ops tmps) = c := by
  unfold Region.wanted yielded
  simp only [ho, hd, Option.bind_some, ht]
  rw [← hc]
  cases b <;> cases want <;> rfl
theorem wanted_of_undef {ops : Array Oper} {o : Oper} {tmps : Array Value} {j d : Nat} {want c : Bool} (ho : o.guard = some (j, want)) (hd : (ops[j]?).bind (·.dst) = some d) (ht : tmps[d]? = some undef) (hc : false = c) : Region.wanted o (yielded ops tmps) = c := by
  unfold Region.wanted yielded
  simp only [ho, hd, Option.bind_some, ht]
  rw [← hc]
  rfl
theorem i_not {P : Program} {ops : Array Oper} {Q : Exit → Act → World → Prop} {i : Nat} {o : Oper} {a : Act} {w : World} {K : Act → World → Prop} (ho : ops[i]? = some o) (hw : Region.wanted o (yielded ops a.tmps) = false) (h : K (a.put o.dst undef) w) : wpOp P ops Q i K a w := by
  unfold wpOp
  simp [ho, hw]
  exact h
end Go.Proofs.Ytiophmmcennjnaa
