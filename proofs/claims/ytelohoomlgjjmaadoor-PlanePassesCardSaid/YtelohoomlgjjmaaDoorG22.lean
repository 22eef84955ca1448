import Derived.Test.YtelohoomlgjjmaaDoorG21
import Derived.Test.YtelohoomlgjjmaaDoorG5
set_option linter.unusedSimpArgs false
set_option linter.unusedVariables false
namespace Go.Proofs.YtelohoomlgjjmaaDoor
section
/- PlanePasses: what was sent, and an entry, are the same as themselves; a world that stays from a moment on; what is sent, port by port. -/
open Go.RowKit

set_option maxRecDepth 100000 in
set_option maxHeartbeats 1000000 in
theorem equal_frame9 (x : Fr) (w : World) : (Op.equalIn 9999 42 (.agg (fA x)) (.agg (fA x))).run Tryd.prog w = .ok true w := by
  have hS : Tryd.prog.underlying 42 = some (.struct (Tryd.prog.fieldsOf 42)) := by kernel_rfl
  have hp : Tryd.prog.stoodInHeld 42 = false := by kernel_rfl
  rw [show (9999 : Nat) = 9998 + 1 from rfl, run_equalIn_agg w 9998 42 _ _ hS hp]
  simp only [Program.fieldsOf, Tryd.underlying42]
  have u5 := Tryd.underlying5
  have u4 := Tryd.underlying4
  have u9 := Tryd.underlying9
  have u40 := Tryd.underlying23
  have e1 : ∀ W, (Op.equalIn 9998 40 (mac x.d) (mac x.d)).run Tryd.prog W = .ok true W := fun W => by rw [equal_mac 9996 40 Tryd.underlying40, eqMac_self]
  have e2 : ∀ W, (Op.equalIn 9998 40 (mac x.s) (mac x.s)).run Tryd.prog W = .ok true W := fun W => by rw [equal_mac 9996 40 Tryd.underlying40, eqMac_self]
  unfold fA frB
  go_simp
set_option maxRecDepth 100000 in
set_option maxHeartbeats 1000000 in
theorem equal_sn (x : Sn) (w : World) : (Op.equalIn 10000 81 (.agg (snA x)) (.agg (snA x))).run Tryd.prog w = .ok true w := by
  have hS : Tryd.prog.underlying 81 = some (.struct (Tryd.prog.fieldsOf 81)) := by kernel_rfl
  have hp : Tryd.prog.stoodInHeld 81 = false := by kernel_rfl
  rw [show (10000 : Nat) = 9999 + 1 from rfl, run_equalIn_agg w 9999 81 _ _ hS hp]
  simp only [Program.fieldsOf, Tryd.underlying81]
  have u3 := Tryd.underlying3
  have e1 : ∀ W, (Op.equalIn 9999 42 (.agg (fA x.fr)) (.agg (fA x.fr))).run Tryd.prog W = .ok true W := fun W => equal_frame9 x.fr W
  unfold fA frB at e1
  unfold snA
  go_simp
set_option maxRecDepth 100000 in
set_option maxHeartbeats 1000000 in
theorem equal_ky (v a : Nat) (w : World) : (Op.equalIn 9999 63 (.agg (kyA v a)) (.agg (kyA v a))).run Tryd.prog w = .ok true w := by
  have hS : Tryd.prog.underlying 63 = some (.struct (Tryd.prog.fieldsOf 63)) := by kernel_rfl
  have hp : Tryd.prog.stoodInHeld 63 = false := by kernel_rfl
  rw [show (9999 : Nat) = 9998 + 1 from rfl, run_equalIn_agg w 9998 63 _ _ hS hp]
  simp only [Program.fieldsOf, Tryd.underlying63]
  have u30 := Tryd.underlying23
  have e1 : ∀ W, (Op.equalIn 9998 40 (mac (byteF a)) (mac (byteF a))).run Tryd.prog W = .ok true W := fun W => by rw [equal_mac 9996 40 Tryd.underlying40, eqMac_self]
  go_simp
set_option maxRecDepth 100000 in
set_option maxHeartbeats 1000000 in
theorem equal_en (x : En) (w : World) : (Op.equalIn 10000 67 (.agg (enA x)) (.agg (enA x))).run Tryd.prog w = .ok true w := by
  have hS : Tryd.prog.underlying 67 = some (.struct (Tryd.prog.fieldsOf 67)) := by kernel_rfl
  have hp : Tryd.prog.stoodInHeld 67 = false := by kernel_rfl
  rw [show (10000 : Nat) = 9999 + 1 from rfl, run_equalIn_agg w 9999 67 _ _ hS hp]
  simp only [Program.fieldsOf, Tryd.underlying67]
  have u3 := Tryd.underlying3
  have e1 : ∀ W, (Op.equalIn 9999 63 (.agg (kyA x.vid x.mac)) (.agg (kyA x.vid x.mac))).run Tryd.prog W = .ok true W := fun W => equal_ky x.vid x.mac W
  go_simp
/-- All that is new stays as it is from this world on. -/
def bdF (w0 W : World) : Bd :=
  ⟨fun W' => W.heap.size ≤ W'.heap.size ∧ ∀ k, w0.heap.size ≤ k → k < W.heap.size → W'.heap[k]? = W.heap[k]?, fun k => w0.heap.size ≤ k ∧ k < W.heap.size,
   fun h q => by have := h.1; omega,
   fun h m n => ⟨Nat.le_trans h.1 m.size, fun k k1 k2 => (m.block k (Nat.lt_of_lt_of_le k2 h.1) (n k ⟨k1, k2⟩)).trans (h.2 k k1 k2)⟩⟩
section
variable {w0 w w' W : World} {l : List (Nat × Array Value × TypeId)} {A : Bd}
theorem Kx.freeze (K : Kx w0 l A W) : Kx w0 [] (bdF w0 W) W :=
  ⟨⟨fun _ h => (by cases h), K.below, fun _ h => (by cases h), List.nodup_nil⟩, ⟨Nat.le_refl _, fun _ _ _ => rfl⟩, fun _ h => (by cases h), fun k h => h.1⟩
theorem Kx.frozen (K : Kx w0 l A W) (F : Kx w0 [] (bdF w0 W) w) : Below W.heap.size W w :=
  ⟨F.below.os.trans K.below.os.symm, F.below.tape.trans K.below.tape.symm, F.below.output.trans K.below.output.symm, F.a.1, fun k hk => by
    rcases Nat.lt_or_ge k w0.heap.size with q | q
    · exact (F.below.block k q).trans (K.below.block k q).symm
    · exact F.a.2 k q hk⟩
end
theorem src_rows {α : Type} {w : World} {enc : α → List Value} {size : Nat} {sv : Value} {l : List α} (hl : ∀ x, (enc x).length = size) (hs : 0 < size) (h : Src w enc sv l) :
    ∃ A c, sv = .slice A l.length c ∧ RowsAt w A size enc l := by
  rcases h with ⟨rfl, rfl⟩ | ⟨ad, c, rfl, hc⟩
  · exact ⟨none, 0, rfl, .inl rfl⟩
  · refine ⟨some ad, c, rfl, ?_⟩
    cases l with
    | nil => exact .inl rfl
    | cons y l =>
      have h0 := cellsL_at hl (y :: l) 0 0 y rfl hs
      have hy : 0 < (enc y).length := by rw [hl]; exact hs
      rw [List.getElem?_eq_getElem hy] at h0
      have q := cell_spot (hc 0 _ (by simpa using h0))
      have e0 : ad.add 0 = ad := by
        unfold Addr.add
        split <;> simp_all
      rw [e0] at q
      obtain ⟨b, o, s⟩ := ad
      simp only at q
      obtain ⟨rfl, hb⟩ := q
      refine .inr ⟨b, o, rfl, hb, fun i x hx j u hu => ?_⟩
      have hj : j < size := by
        rw [← hl x]
        exact (List.getElem?_eq_some_iff.1 hu).1
      have := hc (i * size + j) u (by rw [cellsL_at hl (y :: l) i j x hx hj]; exact hu)
      rw [add_none] at this
      exact this
theorem src_next {α : Type} {w w' : World} {enc : α → List Value} {v : Value} {l : List α} (h : Src w enc v l) (hb : Below w.heap.size w w') : Src w' enc v l := by
  rcases h with h | ⟨ad, c, rfl, hc⟩
  · exact .inl h
  · exact .inr ⟨ad, c, rfl, fun j u hu => (hb.cell (cell_spot (hc j u hu)).2).trans (hc j u hu)⟩
theorem sendL_up (x : Fr) (v : Vl) (S k : Nat) : sendL x v (upto S (k + 1)) = sendL x v (upto S k) ++ (if forK x v ((k : Int) + 1) = true ∧ hasB S ((k : Int) + 1) = true then [⟨(k : Int) + 1, forT x v ((k : Int) + 1)⟩] else []) := by
  by_cases h : hasB S ((k : Int) + 1) = true
  · rw [upto_yes h, sendL_snoc]
    simp [h]
  · rw [upto_no (by simpa using h)]
    simp [h]
end
end Go.Proofs.YtelohoomlgjjmaaDoor
