/- A link beside lists that a law keeps itself. -/
import Derived.Test.YtiophmmcennjnaaLk5
namespace Go.Proofs.Ytiophmmcennjnaa
open Go.RowKit
attribute [local irreducible] wpQuiet wpList
set_option linter.unusedSimpArgs false
set_option linter.unusedVariables false

theorem run_loadRange {P : Program} {o : Oper} {a : Act} {w : World} (ty : TypeId) (x : Operand) (ho : o.op = .load ty x) (g j : Nat) (hx : a.eval x = .pointer (some ⟨g, j, none⟩)) (arr : Array Value) (d : TypeDesc) (hr : w.rangeAt g j arr.toList)
    (hu : P.underlying ty = some d) (hd : d.isRow = true) (hi : (P.info? ty).map (·.size) = some arr.size) : (execOp a.eval o).run P w = .ok (.value (.agg arr)) w := by
  unfold execOp
  simp only [ho, hx, Instr.loadAt, Instr.sureAddr, Sem.run_bind, Sem.run_pure, Result.andThen_ok, run_loadVar_mid w g j ty arr.toList d hr hu hd (by simpa using hi), Array.toArray_toList]
/-- A list that is read, in a block that does not turn. -/
def SrcB (W : World) (v : Value) (l : List ByteArray) : Prop :=
  (v = .slice none 0 0 ∧ l = []) ∨ ∃ G o c, v = .slice (some ⟨G, o, none⟩) l.length c ∧ l.length ≤ c ∧ c ≤ maxLen ∧ G < W.heap.size ∧ ∀ j s, l[j]? = some s → W.cell? ⟨G, o + j, none⟩ = some (.string s)
theorem SrcB.shape {W : World} {v : Value} {l : List ByteArray} (h : SrcB W v l) : ∃ a c, v = .slice a l.length c ∧ l.length ≤ c ∧ c ≤ maxLen := by
  rcases h with ⟨rfl, rfl⟩ | ⟨G, o, c, rfl, h1, h2, -⟩
  · exact ⟨none, 0, rfl, Nat.le_refl _, by unfold maxLen; omega⟩
  · exact ⟨_, c, rfl, h1, h2⟩
theorem SrcB.src {W : World} {v : Value} {l : List ByteArray} (h : SrcB W v l) : Src W stC v l := by
  rcases h with ⟨rfl, rfl⟩ | ⟨G, o, c, rfl, h1, h2, h3, h4⟩
  · exact .inl ⟨rfl, rfl⟩
  · refine .inr ⟨⟨G, o, none⟩, c, rfl, fun j u hu => ?_⟩
    rw [cells_st, List.getElem?_map] at hu
    obtain ⟨s, hs, rfl⟩ := Option.map_eq_some_iff.1 hu
    rw [add_none]
    exact h4 j s hs
theorem SrcB.fr {W W' : World} {v : Value} {l : List ByteArray} {G : Nat → Prop} (h : SrcB W v l) (m : Mv G W W') (n : ∀ k, v.ownBlock = some k → ¬ G k) : SrcB W' v l := by
  rcases h with h | ⟨g, o, c, rfl, h1, h2, h3, h4⟩
  · exact .inl h
  · refine .inr ⟨g, o, c, rfl, h1, h2, Nat.lt_of_lt_of_le h3 m.size, fun j s hs => ?_⟩
    have q := h4 j s hs
    have e := m.block g h3 (n g rfl)
    unfold World.cell? at q ⊢
    rw [e]
    exact q
theorem SrcB.lt {W : World} {v : Value} {l : List ByteArray} {k : Nat} (h : SrcB W v l) (q : v.ownBlock = some k) : k < W.heap.size := by
  rcases h with ⟨rfl, -⟩ | ⟨g, o, c, rfl, h1, h2, h3, h4⟩
  · cases q
  · injection q with q; rw [← q]; exact h3
theorem SrcB.of_own {W : World} {B : Nat} {v : Value} {l : List ByteArray} (h : Own W B 9 1 stC v l) : SrcB W v l := by
  rcases h.cases with ⟨rfl, rfl⟩ | ⟨g, cap, rfl, h1, h2, h3, h4⟩
  · exact .inl ⟨rfl, rfl⟩
  · refine .inr ⟨g, 0, cap, rfl, h3, h4, h2, fun j s hs => ?_⟩
    have := h.at stC_len j 0 s hs (by decide)
    rw [Nat.mul_one, Nat.add_zero] at this
    rw [Nat.zero_add, this]
    rfl
/-- Its first, and what is behind it. -/
theorem SrcB.cons {W : World} {v : Value} {s : ByteArray} {l : List ByteArray} (h : SrcB W v (s :: l)) : ∃ G o c, v = .slice (some ⟨G, o, none⟩) (l.length + 1) c ∧ l.length + 1 ≤ c ∧ c ≤ maxLen ∧ W.cell? ⟨G, o, none⟩ = some (.string s) ∧
    SrcB W (.slice (if c = 1 then some ⟨G, o, none⟩ else some ⟨G, o + 1, none⟩) l.length (c - 1)) l := by
  rcases h with ⟨-, h⟩ | ⟨G, o, c, rfl, h1, h2, h3, h4⟩
  · cases h
  · rw [List.length_cons] at h1
    refine ⟨G, o, c, rfl, h1, h2, h4 0 s rfl, ?_⟩
    by_cases hc : c = 1
    · rw [if_pos hc]
      have hl : l = [] := List.eq_nil_of_length_eq_zero (by omega)
      subst hl
      exact .inr ⟨G, o, c - 1, rfl, by simp, by omega, h3, fun j s hs => by simp at hs⟩
    · rw [if_neg hc]
      exact .inr ⟨G, o + 1, c - 1, rfl, by omega, by omega, h3, fun j s hs => by
        have := h4 (j + 1) s (by simpa using hs)
        rw [show o + 1 + j = o + (j + 1) by omega]
        exact this⟩
def bdS (v : Value) (l : List ByteArray) : Bd := ⟨fun W => SrcB W v l, fun k => v.ownBlock = some k, fun h q => h.lt q, fun h m n => h.fr m n⟩

/-- A link beside other things. -/
structure KL (w0 : World) (l : List (Nat × Array Value × TypeId)) (g : Nat) (up : Bool) (a b : List ByteArray) (C : Bd) (w : World) : Prop where
  ex : ∃ u0 u1, Kx w0 l ((bdL w0.heap.size g up u0 u1 a b).and C) w ∧ ∀ k, C.f k → ¬ lkF g u0 u1 k
section
variable {w0 w w' : World} {l l' : List (Nat × Array Value × TypeId)} {g : Nat} {up up' : Bool} {a b a' b' : List ByteArray} {C C' : Bd} {u0 u1 v0 v1 : Value}
theorem KL.of (K : Kx w0 l ((bdL w0.heap.size g up u0 u1 a b).and C) w) (hd : ∀ k, C.f k → ¬ lkF g u0 u1 k) (r : LkR w w0.heap.size g u0 u1 up' v0 v1 a' b' w') : KL w0 l g up' a' b' C w' :=
  ⟨v0, v1, K.moved r.mv r.lk r.nw hd, fun k hk q => by
    rcases r.nw k q with q | q
    · exact hd k hk q
    · have := C.lt K.a.2 hk; omega⟩
theorem KL.below (h : KL w0 l g up a b C w) : Below w0.heap.size w0 w := by obtain ⟨u0, u1, K, -⟩ := h.ex; exact K.below
theorem KL.left {r : List (Nat × Array Value × TypeId)} (h : KL w0 (l ++ r) g up a b C w) : KL w0 l g up a b C w := by obtain ⟨u0, u1, K, hd⟩ := h.ex; exact ⟨u0, u1, K.left, hd⟩
theorem kl_has (h : KL w0 l g up a b C w) (e : Int) : Calls Try.prog 12 #[.pointer (some ⟨g, 0, none⟩), .int .i64 e] w fun x w' => x = .returned (.int .i64 (unN e a b : Nat)) ∧ w' = w := by
  obtain ⟨u0, u1, K, hd⟩ := h.ex
  exact under_any K.a.1 e
theorem kl_up (h : KL w0 l g up a b C w) : Calls Try.prog 11 #[.pointer (some ⟨g, 0, none⟩)] w fun x w' => x = .returned (.bool up) ∧ w' = w := by
  obtain ⟨u0, u1, K, hd⟩ := h.ex
  exact up_any K.a.1
theorem kl_cut (h : KL w0 l g up a b C w) (u : Bool) : Calls Try.prog 9 #[.pointer (some ⟨g, 0, none⟩), .bool u] w fun x w' => x = .returned (.bool (u != up)) ∧ KL w0 l g u (if u then a else []) (if u then b else []) C w' := by
  obtain ⟨u0, u1, K, hd⟩ := h.ex
  exact (cut_any K.a.1 u).mono fun x w' ⟨h1, p, q, h2⟩ => ⟨h1, KL.of K hd h2⟩
theorem kl_send0 (h : KL w0 l g true a b C w) (x : ByteArray) (hn : a.length < 1000) : Calls Try.prog 10 #[.pointer (some ⟨g, 0, none⟩), .int .i64 0, .string x] w fun y w' => y = .returned (.bool true) ∧ KL w0 l g true (a ++ [x]) b C w' := by
  obtain ⟨u0, u1, K, hd⟩ := h.ex
  exact (send_yes0 K.a.1 K.below.size x hn).mono fun y w' ⟨h1, p, q, h2⟩ => ⟨h1, KL.of K hd h2⟩
theorem kl_send1 (h : KL w0 l g true a b C w) (x : ByteArray) (hn : b.length < 1000) : Calls Try.prog 10 #[.pointer (some ⟨g, 0, none⟩), .int .i64 1, .string x] w fun y w' => y = .returned (.bool true) ∧ KL w0 l g true a (b ++ [x]) C w' := by
  obtain ⟨u0, u1, K, hd⟩ := h.ex
  exact (send_yes1 K.a.1 K.below.size x hn).mono fun y w' ⟨h1, p, q, h2⟩ => ⟨h1, KL.of K hd h2⟩
theorem kl_sendno (h : KL w0 l g up a b C w) (e : Int) (x : ByteArray) (hn : goes e up a b = false) : Calls Try.prog 10 #[.pointer (some ⟨g, 0, none⟩), .int .i64 e, .string x] w fun y w' => y = .returned (.bool false) ∧ w' = w := by
  obtain ⟨u0, u1, K, hd⟩ := h.ex
  exact send_no K.a.1 e x hn
theorem kl_come0 {x : ByteArray} {r : List ByteArray} (h : KL w0 l g up (x :: r) b C w) (hn : r.length < 1000) : Calls Try.prog 8 #[.pointer (some ⟨g, 0, none⟩), .int .i64 0] w fun y w' => y = .returned (.tuple #[.string x, .bool true]) ∧ KL w0 l g up r b C w' := by
  obtain ⟨u0, u1, K, hd⟩ := h.ex
  exact (come_yes0 K.a.1 hn).mono fun y w' ⟨h1, p, q, h2⟩ => ⟨h1, KL.of K hd h2⟩
theorem kl_come1 {x : ByteArray} {r : List ByteArray} (h : KL w0 l g up a (x :: r) C w) (hn : r.length < 1000) : Calls Try.prog 8 #[.pointer (some ⟨g, 0, none⟩), .int .i64 1] w fun y w' => y = .returned (.tuple #[.string x, .bool true]) ∧ KL w0 l g up a r C w' := by
  obtain ⟨u0, u1, K, hd⟩ := h.ex
  exact (come_yes1 K.a.1 hn).mono fun y w' ⟨h1, p, q, h2⟩ => ⟨h1, KL.of K hd h2⟩
theorem kl_comeno (h : KL w0 l g up a b C w) (e : Int) (hn : unN e a b = 0) : Calls Try.prog 8 #[.pointer (some ⟨g, 0, none⟩), .int .i64 e] w fun y w' => y = .returned (.tuple #[.string ⟨#[]⟩, .bool false]) ∧ w' = w := by
  obtain ⟨u0, u1, K, hd⟩ := h.ex
  exact come_no K.a.1 e hn
/-- The other things alone. -/
theorem KL.turn (h : KL w0 l g up a b C w) (hp : C.p w → C'.p w) (hf : ∀ k, C'.f k → C.f k) : KL w0 l g up a b C' w := by
  obtain ⟨u0, u1, K, hd⟩ := h.ex
  exact ⟨u0, u1, K.turn (fun h => ⟨h.1, hp h.2⟩) (fun k q => q.imp id (hf k)), fun k q => hd k (hf k q)⟩
theorem KL.next (h : KL w0 l g up a b C w) (hb : Below w.heap.size w w') : KL w0 l g up a b C w' := by
  obtain ⟨u0, u1, K, hd⟩ := h.ex
  exact ⟨u0, u1, K.next hb, hd⟩
/-- More is owned beside it, all of it new. -/
theorem KL.more (h : KL w0 l g up a b C w) (hb : Below w.heap.size w w') (hp : C'.p w') (hn : ∀ k, C'.f k → w.heap.size ≤ k) : KL w0 l g up a b (C.and C') w' := by
  obtain ⟨u0, u1, K, hd⟩ := h.ex
  have q := K.more hb hp hn
  refine ⟨u0, u1, q.turn (fun h => ⟨h.1.1, h.1.2, h.2⟩) (fun k q => ?_), fun k q => ?_⟩
  · rcases q with q | q | q
    · exact .inl (.inl q)
    · exact .inl (.inr q)
    · exact .inr q
  · rcases q with q | q
    · exact hd k q
    · intro z; have := K.a.1.lt z; have := hn k q; omega
end
/-- What a call answers, and what is known then. -/
theorem calls_kl {P : Program} {f : FuncId} {args : Array Value} {w : World} {v : Value} {R : World → Prop} (h : Calls P f args w fun e w' => e = .returned v ∧ R w') : Calls P f args w fun e w' => ∃ u, e = .returned u ∧ (u = v ∧ R w') := calls_one h
/-- An act. -/
structure Ac where
  what : Nat
  fr : Int
  da : ByteArray
  up : Bool
abbrev acA (x : Ac) : Array Value := #[.int .u8 (x.what : Nat), .int .i64 x.fr, .string x.da, .bool x.up]
def acC (x : Ac) : List Value := [.int .u8 (x.what : Nat), .int .i64 x.fr, .string x.da, .bool x.up]
theorem acC_len (x : Ac) : (acC x).length = 4 := rfl
structure Ac.ok (x : Ac) : Prop where
  what : x.what < 256
  lo : -9223372036854775808 ≤ x.fr
  hi : x.fr ≤ 9223372036854775807
  da : x.da.size ≤ maxLen
end Go.Proofs.Ytiophmmcennjnaa
