/- Package tlv: what its smaller functions answer. -/
import Derived.Test.YtmbafeemiclmeaaTv0
import Derived.Test.YtmbafeemiclmeaaShelf
import Derived.Test.YtmbafeemiclmeaaRead
import Derived.Test.YtmbafeemiclmeaaCrcSums
import Derived.Test.YtmbafeemiclmeaaLst
import Derived.Test.YtmbafeemiclmeaaRg7
import Derived.Test.YtmbafeemiclmeaaQuietly
namespace Go.Proofs.Ytmbafeemiclmeaa
open Go.RowKit
set_option linter.unusedSimpArgs false
set_option linter.unusedVariables false

def secV (s : Sec) : Value := .agg #[bv s.k, .string s.d]
def secC (s : Sec) : List Value := [bv s.k, .string s.d]
theorem secC_len (s : Sec) : (secC s).length = 2 := rfl
theorem secC_one (s : Sec) : ∀ u ∈ secC s, u.oneCell' = true := by
  intro u hu
  simp only [secC, List.mem_cons, List.not_mem_nil, or_false] at hu
  rcases hu with rfl | rfl <;> rfl
theorem ret_bool {a b : Bool} (h : a = b) : Ending.returned (.bool a) = .returned (.bool b) := by rw [h]
set_option maxHeartbeats 400000 in
theorem goodV_any (v : UInt8) (w : World) : Calls Try.prog 16 #[bv v] w fun e w' => e = .returned (.bool (goodV v)) ∧ w = w' := by
  unfold bv
  have g : goodV v = (decide (1 ≤ v.toNat) && decide (v.toNat ≤ 3)) := rfl
  rw [g]
  generalize v.toNat = n
  go_enter Try.func16, Try.ntmps16
  go_wp2
  all_goals (go_ret; exact ⟨ret_bool (by rw [Bool.eq_iff_iff]; simp; omega), rfl⟩)
set_option maxHeartbeats 400000 in
theorem ahead_any (a b : Sec) (w : World) : Calls Try.prog 18 #[secV a, secV b] w fun e w' => e = .returned (.bool (decide (a.k.toNat < b.k.toNat))) ∧ Below w.heap.size w w' := by
  unfold secV bv
  generalize a.k.toNat = x
  generalize b.k.toNat = y
  generalize a.d = p
  generalize b.d = q
  go_enter Try.func18, Try.ntmps18
  go_wp2
  all_goals (go_ret; exact ⟨ret_bool (by first | rfl | (rw [Bool.eq_iff_iff]; simp)), (((Below.refl _ _).alloc (Nat.le_refl _) _).alloc (by simp) _)⟩)
set_option maxHeartbeats 400000 in
theorem size_any (a : Sec) (w : World) (h : a.d.size ≤ 1000000) : Calls Try.prog 19 #[secV a] w fun e w' => e = .returned (.int .i64 (a.bytes.length : Nat)) ∧ Below w.heap.size w w' := by
  rw [bytes_len]
  unfold secV bv
  generalize a.k.toNat = x
  generalize a.d = p at *
  go_enter Try.func19, Try.ntmps19
  go_wp2
  go_ret
  exact ⟨by congr 2, ((Below.refl _ _).alloc (Nat.le_refl _) _)⟩

/-- A slice that holds these sections. -/
def SL (w : World) (v : Value) (l : List Sec) : Prop := (v = .slice none 0 0 ∧ l = []) ∨ ∃ g cap, v = .slice (some ⟨g, 0, none⟩) l.length cap ∧ g < w.heap.size ∧ l.length ≤ cap ∧ cap ≤ maxLen ∧ ∀ i x, l[i]? = some x → w.rangeAt g (i * 2) (secC x)
theorem Own.sl {w : World} {B : Nat} {e : TypeId} {v : Value} {l : List Sec} (h : Own w B e 2 secC v l) : SL w v l := by
  rcases h.cases with ⟨rfl, rfl⟩ | ⟨g, cap, rfl, h1, h2, h3, h4⟩
  · exact .inl ⟨rfl, rfl⟩
  · refine .inr ⟨g, cap, rfl, h2, h3, h4, fun i x hx j u hu => ?_⟩
    have hj : j < 2 := (List.getElem?_eq_some_iff.1 hu).1
    rw [h.at secC_len i j x hx hj, hu]
theorem SL.below {w w' : World} {v : Value} {l : List Sec} (h : SL w v l) (hb : Below w.heap.size w w') : SL w' v l := by
  rcases h with ⟨rfl, rfl⟩ | ⟨g, cap, rfl, h1, h2, h3, h4⟩
  · exact .inl ⟨rfl, rfl⟩
  · exact .inr ⟨g, cap, rfl, Nat.lt_of_lt_of_le h1 hb.size, h2, h3, fun i x hx j u hu => by rw [hb.cell (p := ⟨g, i * 2 + j, none⟩) h1]; exact h4 i x hx j u hu⟩
theorem SL.cell {w : World} {g n cap : Nat} {l : List Sec} (h : SL w (.slice (some ⟨g, 0, none⟩) n cap) l) {i : Nat} {x : Sec} (hx : l[i]? = some x) : w.cell? ⟨g, i * 2, none⟩ = some (bv x.k) ∧ w.cell? ⟨g, i * 2 + 1, none⟩ = some (.string x.d) := by
  rcases h with ⟨h, -⟩ | ⟨g, cap, h, h1, h2, h3, h4⟩
  · cases h
  · cases h
    exact ⟨h4 i x hx 0 _ rfl, h4 i x hx 1 _ rfl⟩
theorem SL.range {w : World} {g n cap : Nat} {l : List Sec} (h : SL w (.slice (some ⟨g, 0, none⟩) n cap) l) {i : Nat} {x : Sec} (hx : l[i]? = some x) : w.rangeAt g (i * 2) (secC x) := by
  rcases h with ⟨h, -⟩ | ⟨g, cap, h, h1, h2, h3, h4⟩
  · cases h
  · cases h
    exact h4 i x hx
theorem SL.cases {w : World} {v : Value} {l : List Sec} (h : SL w v l) : (v = .slice none 0 0 ∧ l = []) ∨ ∃ g cap, v = .slice (some ⟨g, 0, none⟩) l.length cap ∧ g < w.heap.size ∧ l.length ≤ cap ∧ cap ≤ maxLen := by
  rcases h with ⟨rfl, rfl⟩ | ⟨g, cap, rfl, h1, h2, h3, h4⟩
  · exact .inl ⟨rfl, rfl⟩
  · exact .inr ⟨g, cap, rfl, h1, h2, h3⟩
theorem run_loadRow {P : Program} {o : Oper} {ρ : Operand → Value} {w : World} (ty : TypeId) (x : Operand) (ho : o.op = .load ty x) (g j : Nat) (hx : ρ x = .pointer (some ⟨g, j, none⟩)) (arr : Array Value) (d : TypeDesc) (hr : w.rangeAt g j arr.toList)
    (hu : P.underlying ty = some d) (hd : d.isRow = true) (hi : (P.info? ty).map (·.size) = some arr.size) : (execOp ρ o).run P w = .ok (.value (.agg arr)) w := by
  unfold execOp
  simp only [ho, hx, Instr.loadAt, Instr.sureAddr, Sem.run_bind, Sem.run_pure, Result.andThen_ok, run_loadVar_mid w g j ty arr.toList d hr hu hd (by simpa using hi), Array.toArray_toList]
theorem size54 : (Try.prog.info? 54).map (·.size) = some 2 := by kernel_rfl
theorem rises_take : ∀ (l : List Sec) (k : Nat), (∀ i a b, i + 1 ≤ k → l[i]? = some a → l[i + 1]? = some b → a.k.toNat < b.k.toNat) → k + 1 ≥ l.length → risesL l = true
  | [], k, h, hk => rfl
  | [_], k, h, hk => rfl
  | a :: b :: l, k, h, hk => by
    simp only [List.length_cons] at hk
    have h0 := h 0 a b (by omega) rfl rfl
    have := rises_take (b :: l) (k - 1) (fun i x y hi hx hy => h (i + 1) x y (by omega) (by simpa using hx) (by simpa using hy)) (by simp only [List.length_cons]; omega)
    show (decide (a.k.toNat < b.k.toNat) && risesL (b :: l)) = true
    rw [this]
    simp [h0]
theorem rises_not : ∀ (l : List Sec) (i : Nat) (a b : Sec), l[i]? = some a → l[i + 1]? = some b → ¬ a.k.toNat < b.k.toNat → risesL l = false
  | [], i, a, b, ha, hb, h => by simp at ha
  | [_], i, a, b, ha, hb, h => by simp at hb
  | x :: y :: l, 0, a, b, ha, hb, h => by
    simp at ha hb
    subst ha hb
    show (decide _ && _) = false
    simp [h]
  | x :: y :: l, i + 1, a, b, ha, hb, h => by
    have := rises_not (y :: l) i a b (by simpa using ha) (by simpa using hb) h
    show (decide _ && risesL (y :: l)) = false
    rw [this]
    simp
end Go.Proofs.Ytmbafeemiclmeaa
