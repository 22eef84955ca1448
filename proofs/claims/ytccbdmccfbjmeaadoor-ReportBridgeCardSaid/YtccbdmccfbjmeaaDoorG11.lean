import Derived.Test.YtccbdmccfbjmeaaDoorG10
import Derived.Deep.Slices
import Derived.OpenShut
import Derived.Below
import Derived.WalkKit
import Derived.ProofKit
import Derived.Test.YtccbdmccfbjmeaaDoorG2
import Derived.Test.YtccbdmccfbjmeaaDoorRows
import Derived.Test.YtccbdmccfbjmeaaDoorG1
import Derived.WalkSpells
import Derived.WalkLawsBesides
import Derived.IntWalk
import Derived.Lib.Hide
import Derived.Laws.IdiomStrings
set_option linter.unusedSimpArgs false
set_option linter.unusedVariables false
section
/- Arrays that are owned. -/
namespace Go.Proofs.YtccbdmccfbjmeaaDoor.Ev
open Go.RowKit
section
variable {P : Program}
/-- A variable that is made is owned. -/
def oNw (ty : TypeId) (cs : Array Value) (hz : ∀ w, ∃ z, (zeroValue ty).run P w = .ok z w ∧ z.cells = cs) (rest : Nat → List (Ora P)) : Ora P :=
  .e Nat 0 (.s fun _ => do pure (.value (← Instr.alloc ty true (.tuple #[])))) [] 0 [] (fun b => [bdB b cs ty]) (fun b => pB b)
    (fun w0 F R β w hlo K => by
      show stepS P _ _ w
      unfold stepS
      obtain ⟨z, h1, h2⟩ := hz w
      simp only [Instr.alloc, Sem.run_bind, h1, Result.andThen_ok, newVar, Sem.run_pure]
      refine ⟨w.heap.size, rfl, ?_⟩
      rw [h2]
      exact sep_out (Kf.fresh K ((Below.refl _ _).alloc (Nat.le_refl _) _) (X := bdB w.heap.size cs ty) (Blk.new _ _ _) (fun k hk => Nat.le_of_eq (Eq.symm hk)) rfl)) rest
/-- A place in an array that is owned. -/
def oBx {b : Nat} (ty e : TypeId) (n : Nat) {k : Nat} (hk : k < n) (h1 : P.underlying ty = some (.array (P.arrayLen ty) (P.elem ty))) (hn : P.arrayLen ty = n) (he : P.elem ty = e) (h2 : ∀ w, (sizeOf e).run P w = .ok 1 w) : Ora P :=
  .x true (.s fun _ => do pure (.value (← Instr.indexAt ty (.pointer (some ⟨b, 0, none⟩)) (.int .i64 (k : Nat))))) 0 [] [] (pB b k)
    (fun w0 F R β w K => by
      show stepS _ _ _ w
      unfold stepS
      simp only [Sem.run_bind, Sem.run_pure, Result.andThen_ok, run_indexAt_array w ty _ _ _ h1, hn, he]
      rw [if_pos (by omega)]
      simp only [h2, Result.andThen_ok]
      refine ⟨?_, K⟩
      simp [Addr.add]
      try omega)
/-- A cell of a block that is owned is set. -/
def oBs {b : Nat} {cs cs2 : Array Value} {ty : TypeId} (p : Nat) (t2 : TypeId) (j : Nat) (u : Value) (hj : j < cs.size) (hi : (P.info? t2).map (·.size) = some 1) (hc : u.cells = #[u]) (h1 : u.oneCell' = true) (h2 : cs.setIfInBounds j u = cs2) : Ora P :=
  .x false (.s fun _ => do (Instr.storeAt t2 (.pointer (some ⟨b, j, none⟩)) u); pure .skip) p [bdB b cs ty] [bdB b cs2 ty] undef
    (fun w0 F R β w K => by
      subst h2
      show stepS P _ _ w
      unfold stepS
      have h : Blk w b cs ty := K.one
      have ht : w.there b j u.cells.size := h.thereN j _ (by rw [hc]; show j + 1 ≤ _; omega)
      have e2 := run_storeVar_any (P := P) w b j t2 u ht (by rw [hc]; exact hi) (by rw [hc]; simp [h1])
      simp only [Sem.run_bind, Sem.run_pure, Result.andThen_ok, Instr.storeAt, Instr.sureAddr, e2, hc]
      refine ⟨trivial, ?_⟩
      have hb := Blk.setCells [u] j cs w h
      have hm := Mv.setCells b [u] j w
      exact Kf.chg (A' := sepL [bdB b (cs.setIfInBounds j u) ty]) K hm (fun k hk => .inl (.inl hk)) ⟨hb, trivial, fun _ _ h => h⟩ (fun k hk => .inl hk) (Nat.le_refl _))
end
section
variable {α : Type} {P : Program} {t e : TypeId} {size : Nat} {enc : α → List Value} {val : α → Value}
/-- A part of an element is read. -/
def oLr (E : ElV P t e size enc val) (p : Nat) (g n m : Nat) {l : List α} {k : Nat} (t2 : TypeId) (j : Nat) (us : List Value) {x : α} (hx : l[k]? = some x) (hn : l.length = n) (hd : rowT P t2 = true) (hs : (P.info? t2).map (·.size) = some us.length) (hj : j + us.length ≤ size) (hc : ∀ i u, us[i]? = some u → (enc x)[j + i]? = some u) : Ora P :=
  .x true (.s fun _ => do pure (.value (← Instr.loadAt t2 (.pointer (some ⟨g, k * size + j, none⟩))))) p [bdO e size enc (.slice (some ⟨g, 0, none⟩) n m) l] [bdO e size enc (.slice (some ⟨g, 0, none⟩) n m) l] (.agg us.toArray)
    (fun w0 F R β w K => by
      subst hn
      show stepS P _ _ w
      unfold stepS
      have h : Own w 0 e size enc (.slice (some ⟨g, 0, none⟩) l.length m) l := K.one
      unfold rowT at hd
      split at hd
      · next d hd2 =>
        have hr : w.rangeAt g (k * size + j) us := fun i u hu => by
          have hi := (List.getElem?_eq_some_iff.1 hu).1
          have q := h.at E.len k (j + i) x hx (by omega)
          rw [hc i u hu] at q
          rw [← q, Nat.add_assoc]
        have e2 := run_loadVar_mid w g (k * size + j) t2 us d hr hd2 hd hs
        simp only [Instr.loadAt, Instr.sureAddr, Sem.run_bind, Sem.run_pure, Result.andThen_ok, e2]
        exact ⟨trivial, K⟩
      · cases hd)
end
def bA (l : List Bool) : Array Value := (l.map Value.bool).toArray
def flB (f : Nat → Bool) (k : Nat) : List Bool := (List.range 16).map fun j => decide (j < k) && f j
theorem flB_len (f : Nat → Bool) (k : Nat) : (flB f k).length = 16 := by simp [flB]
theorem bA_size (l : List Bool) : (bA l).size = l.length := by simp [bA]
theorem flB_set (f : Nat → Bool) (k : Nat) (hk : k < 16) : (bA (flB f k)).setIfInBounds k (.bool (f k)) = bA (flB f (k + 1)) := by
  unfold bA
  rw [List.setIfInBounds_toArray]
  congr 1
  apply List.ext_getElem?
  intro j
  rw [List.getElem?_set]
  simp only [flB, List.map_map, List.getElem?_map, List.length_map, List.length_range]
  by_cases c : k = j
  · subst c
    rw [if_pos rfl, if_pos hk, List.getElem?_range hk]
    simp
  · rw [if_neg c]
    by_cases d : j < 16
    · rw [List.getElem?_range d]
      simp only [Option.map_some, Function.comp, Option.some.injEq, Value.bool.injEq]
      have : decide (j < k) = decide (j < k + 1) := by rw [decide_eq_decide]; omega
      rw [this]
    · rw [List.getElem?_eq_none (by simpa using d)]
      rfl
theorem flB_get (f : Nat → Bool) (k j : Nat) (hj : j < k) (hk : k ≤ 16) : (bA (flB f k))[j]? = some (.bool (f j)) := by
  unfold bA flB
  rw [List.getElem?_toArray, List.map_map, List.getElem?_map, List.getElem?_range (by omega)]
  simp [hj]
end Go.Proofs.YtccbdmccfbjmeaaDoor.Ev
end
namespace Go.Proofs.YtccbdmccfbjmeaaDoor
section
/- A slice of structs that came in, as a list. No program in sight. -/
open Go.ChangeShapes Go.WideShapes Go.RowKit Go.Deep

/-- The structs of a slice that came in, by their cells. -/
def RowsAt {α : Type} (w : World) (A : Option Addr) (size : Nat) (enc : α → List Value) (l : List α) : Prop :=
  l = [] ∨ ∃ b off, A = some ⟨b, off, none⟩ ∧ b < w.heap.size ∧ ∀ (i : Nat) (x : α), l[i]? = some x → ∀ (j : Nat) (u : Value), (enc x)[j]? = some u → w.cell? ⟨b, off + (i * size + j), none⟩ = some u

theorem cell_spot {w : World} {x : Addr} {u : Value} (h : w.cell? x = some u) : x.spot = none ∧ x.block < w.heap.size := by
  unfold World.cell? at h
  split at h
  · rename_i hb
    refine ⟨?_, (Array.getElem?_eq_some_iff.1 hb).1⟩
    split at h
    · simp at h
    · rename_i hs; simpa using hs
  · simp at h

theorem add_none (b o n : Nat) : (⟨b, o, none⟩ : Addr).add n = ⟨b, o + n, none⟩ := by
  unfold Addr.add
  split <;> simp_all

theorem RowsAt.same {α : Type} {w w' : World} {A : Option Addr} {size : Nat} {enc : α → List Value} {l : List α} (h : RowsAt w A size enc l) (hb : Below w.heap.size w w') : RowsAt w' A size enc l := by
  rcases h with rfl | ⟨b, off, rfl, hlt, h⟩
  · exact .inl rfl
  · refine .inr ⟨b, off, rfl, Nat.lt_of_lt_of_le hlt hb.size, fun i x hx j u hu => ?_⟩
    have e := hb.block b hlt
    have := h i x hx j u hu
    unfold World.cell? at this ⊢
    rw [e]
    exact this

theorem open_rows {P : Program} {H : Type} {en : TypeId × Value → H} {w : World} {base : Nat} {spare : Nat → Bool} {held : Bool} {t e : TypeId} {size : Nat} {α : Type} {a : Option Addr} {len cap : Nat} {d : DataW H} {p : List MemPlace}
    (enc : α → List Value) (ok : α → Prop) (ht : P.underlying t = some (.slice e)) (hc : P.cellsOf e = size) (hs : 0 < size) (henc : ∀ x, (enc x).length = size)
    (each : ∀ (fuel : Nat) (cs : List Value) (y : DataW H × List MemPlace), cs.length = size → DataW.trod en P w base spare held fuel e cs = some y → ∃ x : α, cs = enc x ∧ ok x)
    (h : DataW.Trod en P w base spare held t (.slice a len cap) d p) :
    ∃ l : List α, l.length = len ∧ RowsAt w a size enc l ∧ (∀ x ∈ l, ok x) ∧ (len ≤ cap ∧ cap ≤ maxLen) ∧ (a = none → len = 0 ∧ cap = 0) := by
  obtain ⟨fuel, hf⟩ := h
  rcases open_slice ht hf with ⟨hcs, -⟩ | ⟨x, len', cap', m, n, D, Pl, hcs, -, hl, hm, hmm, -, hi⟩
  · simp [Value.cells] at hcs
    obtain ⟨rfl, rfl, rfl⟩ := hcs
    exact ⟨[], rfl, .inl rfl, by simp, ⟨Nat.le_refl _, Nat.zero_le _⟩, fun _ => ⟨rfl, rfl⟩⟩
  · simp [Value.cells] at hcs
    obtain ⟨rfl, rfl, rfl⟩ := hcs
    have hlm : len ≤ m := by rw [hmm]; split <;> omega
    rw [hc] at hi
    have key : ∀ i : Fin len, ∃ v : α, ok v ∧ ∀ (j : Nat) (u : Value), (enc v)[j]? = some u → w.cell? ((x.add (i * size)).add j) = some u := by
      intro ⟨i, hil⟩
      obtain ⟨cs', hcell, htr⟩ := hi i (by omega)
      obtain ⟨_, hcl, hat⟩ := World.cells?_some hcell
      obtain ⟨v, rfl, hok⟩ := each _ _ _ hcl htr
      refine ⟨v, hok, fun j u hu => ?_⟩
      have hj : j < size := by rw [← henc v]; exact (List.getElem?_eq_some_iff.1 hu).1
      have := hat j (by omega)
      rw [this]
      simpa [List.getElem?_eq_some_iff] using hu
    let f : Fin len → α := fun i => Classical.choose (key i)
    have fs : ∀ i, ok (f i) ∧ ∀ (j : Nat) (u : Value), (enc (f i))[j]? = some u → w.cell? ((x.add (i * size)).add j) = some u := fun i => Classical.choose_spec (key i)
    refine ⟨List.ofFn f, by simp, ?_, ?_, ⟨hl, hm⟩, by simp⟩
    · rcases Nat.eq_zero_or_pos len with h0 | h0
      · subst h0; exact .inl (by simp)
      · have hx : x.spot = none ∧ x.block < w.heap.size := by
          have h1 : 0 < (enc (f ⟨0, h0⟩)).length := by rw [henc]; exact hs
          have := (fs ⟨0, h0⟩).2 0 _ (List.getElem?_eq_getElem h1)
          have q := cell_spot this
          simpa [Addr.add] using q
        obtain ⟨b, o, sp⟩ := x
        obtain ⟨h1, h2⟩ := hx
        simp only at h1 h2
        subst h1
        refine .inr ⟨b, o, rfl, h2, fun i v hv j u hu => ?_⟩
        obtain ⟨hil, rfl⟩ := List.getElem?_eq_some_iff.1 hv
        rw [List.length_ofFn] at hil
        rw [List.getElem_ofFn] at hu
        have := (fs ⟨i, hil⟩).2 j u hu
        rw [add_none, add_none, Nat.add_assoc] at this
        exact this
    · intro v hv
      obtain ⟨i, rfl⟩ := List.mem_ofFn.1 hv
      exact (fs i).1
end
end Go.Proofs.YtccbdmccfbjmeaaDoor
section
/- Lists that are read alone, wherever they lie; slices that are made are owned. -/
namespace Go.Proofs.YtccbdmccfbjmeaaDoor.Ev
open Go.RowKit
theorem rows_mv {α : Type} {G : Nat → Prop} {w w' : World} {a : Option Addr} {size : Nat} {enc : α → List Value} {l : List α} {B : Nat} (h : RowsAt w a size enc l) (hb : ∀ x, a = some x → x.block < B) (hm : Mv G w w') (hG : ∀ k, G k → B ≤ k) : RowsAt w' a size enc l := by
  rcases h with rfl | ⟨b, off, rfl, hlt, h⟩
  · exact .inl rfl
  · have hbB : b < B := hb _ rfl
    refine .inr ⟨b, off, rfl, Nat.lt_of_lt_of_le hlt hm.size, fun i x hx j u hu => ?_⟩
    have e := hm.block b hlt (fun g => by have := hG b g; omega)
    have := h i x hx j u hu
    unfold World.cell? at this ⊢
    rw [e]
    exact this
/-- A list that lies ahead of block B. -/
def bdX {α : Type} (B size : Nat) (enc : α → List Value) (a : Option Addr) (l : List α) : Bd :=
  ⟨fun W => RowsAt W a size enc l ∧ ∀ x, a = some x → x.block < B, fun _ => False, B, fun _ h => h.elim, fun h hm _ hG => ⟨rows_mv h.1 h.2 hm hG, h.2⟩⟩
def hopX (a : Option Addr) (j : Nat) : Option Addr := match a with
  | none => none
  | some x => some ⟨x.1, x.2 + j, none⟩
section
variable {α : Type} {P : Program} {t e : TypeId} {size : Nat} {enc : α → List Value} {val : α → Value}
theorem run_ixo (E : ElV P t e size enc val) {k g off : Nat} (n m : Nat) (hk : k < n) (W : World) : (Instr.indexAt t (.slice (some ⟨g, off, none⟩) n m) (.int .i64 (k : Nat))).run P W = .ok (.pointer (some ⟨g, off + k * size, none⟩)) W := by
  have hs := E.sz
  rw [run_indexAt_slice (h := by rw [E.el]; exact E.ht), if_pos (by omega), E.el]
  cases c : P.info? e with
  | none => rw [c] at hs; cases hs
  | some i =>
    rw [c] at hs
    have hs : i.size = size := by simpa using hs
    simp [sizeOf, typeInfo, c, Addr.add, hs]
    try omega
def Reads (X : Bd) (a : Option Addr) (size : Nat) (enc : α → List Value) (l : List α) : Prop := ∀ W, X.p W → RowsAt W a size enc l
theorem reads_x (B : Nat) (a : Option Addr) (size : Nat) (enc : α → List Value) (l : List α) : Reads (bdX B size enc a l) a size enc l := fun W h => h.1
/-- A place in such a list. -/
def oXx {X : Bd} (E : ElV P t e size enc val) (p : Nat) {a : Option Addr} (n m : Nat) {l : List α} (hX : Reads X a size enc l) {k : Nat} (hk : k < n) (hn : l.length = n) : Ora P :=
  .x true (.s fun _ => do pure (.value (← Instr.indexAt t (.slice a n m) (.int .i64 (k : Nat))))) p [X] [X] (.pointer (hopX a (k * size)))
    (fun w0 F R β w K => by
      rcases hX w K.one with rfl | ⟨b, off, rfl, -, -⟩
      · simp at hn; omega
      · show stepS P _ _ w
        unfold stepS
        simp only [Sem.run_bind, Sem.run_pure, Result.andThen_ok, run_ixo E n m hk w]
        exact ⟨rfl, K⟩)
/-- An element of such a list. -/
def oXd {X : Bd} (E : ElV P t e size enc val) (hv : ∀ x, val x = .agg (enc x).toArray) (hd : rowT P e = true) (p : Nat) {a : Option Addr} {l : List α} (hX : Reads X a size enc l) {k : Nat} {x : α} (hx : l[k]? = some x) : Ora P :=
  .x true (.s fun _ => do pure (.value (← Instr.loadAt e (.pointer (hopX a (k * size)))))) p [X] [X] (val x)
    (fun w0 F R β w K => by
      rcases hX w K.one with rfl | ⟨b, off, rfl, -, h⟩
      · cases hx
      · show stepS P _ _ w
        unfold stepS
        unfold rowT at hd
        split at hd
        · next d hd2 =>
          have hr : w.rangeAt b (off + k * size) (enc x) := fun j u hu => by
            have q := h k x hx j u hu
            rw [show off + (k * size + j) = off + k * size + j by omega] at q
            exact q
          have e2 := run_loadVar_mid w b (off + k * size) e (enc x) d hr hd2 hd (by rw [E.len]; exact E.sz)
          simp only [hopX, Instr.loadAt, Instr.sureAddr, Sem.run_bind, Sem.run_pure, Result.andThen_ok, e2, hv]
          exact ⟨trivial, K⟩
        · cases hd)
/-- A slice that is made of its parts is owned. -/
def oNs (t e : TypeId) (n : Nat) (op : Sem Next) (cs : Array Value) (hz : ∀ w, op.run P w = .ok (.value (.slice (some ⟨w.heap.size, 0, none⟩) n n)) (w.alloc (.cells cs e))) (rest : Nat → List (Ora P)) : Ora P :=
  .e Nat 0 (.s fun _ => op) [] 0 [] (fun b => [bdB b cs e]) (fun b => .slice (some ⟨b, 0, none⟩) n n)
    (fun w0 F R β w hlo K => by
      show stepS P _ _ w
      unfold stepS
      rw [hz w]
      refine ⟨w.heap.size, rfl, ?_⟩
      exact sep_out (Kf.fresh K ((Below.refl _ _).alloc (Nat.le_refl _) _) (X := bdB w.heap.size cs e) (Blk.new _ _ _) (fun k hk => Nat.le_of_eq (Eq.symm hk)) rfl)) rest
theorem reads_b {b n : Nat} {cs : Array Value} {ty : TypeId} (l : List α) (henc : ∀ x, (enc x).length = size) (hc : cs = (cellsL enc l).toArray) : Reads (bdB b cs ty) (some ⟨b, 0, none⟩) size enc l := fun W h => by
  have h : Blk W b cs ty := h
  refine .inr ⟨b, 0, rfl, h.lt, fun i x hx j u hu => ?_⟩
  rw [Nat.zero_add, h.cell, hc, List.getElem?_toArray]
  rw [cellsL_at henc l i j x hx (by have := (List.getElem?_eq_some_iff.1 hu).1; rw [henc] at this; exact this)]
  exact hu
end
end Go.Proofs.YtccbdmccfbjmeaaDoor.Ev
end
section
/- What is owned, in another order. -/
namespace Go.Proofs.YtccbdmccfbjmeaaDoor.Ev
open Go.RowKit
theorem lo_mem {l : Bds} {A : Bd} (h : A ∈ l) : A.lo ≤ (sepL l).lo := by
  induction l with
  | nil => cases h
  | cons B l ih =>
    show A.lo ≤ max B.lo (sepL l).lo
    rcases List.mem_cons.1 h with rfl | h
    · omega
    · have := ih h; omega
theorem lo_le {l : Bds} {n : Nat} (h : ∀ A ∈ l, A.lo ≤ n) : (sepL l).lo ≤ n := by
  induction l with
  | nil => exact Nat.zero_le _
  | cons B l ih =>
    show max B.lo (sepL l).lo ≤ n
    have h1 := h B List.mem_cons_self
    have h2 := ih fun A hA => h A (List.mem_cons_of_mem _ hA)
    omega
theorem perm_own {A A' : Bds} (h : A.Perm A') : ∀ w0 F R w, Kf w0 F ((sepL A).sep R) w → Kf w0 F ((sepL A').sep R) w := fun w0 F R w K =>
  Kf.iff K (fun q => ⟨sepL_p.2 ⟨fun B hB => (sepL_p.1 q.1).1 B (h.mem_iff.2 hB), h.pairwise (sepL_p.1 q.1).2 Apart.symm⟩, q.2.1, fun k hk => q.2.2 k (by
      obtain ⟨B, hB, hb⟩ := sepL_f.1 hk
      exact sepL_f.2 ⟨B, h.mem_iff.2 hB, hb⟩)⟩)
    (fun k hk => hk.elim (fun hk => .inl (by
      obtain ⟨B, hB, hb⟩ := sepL_f.1 hk
      exact sepL_f.2 ⟨B, h.mem_iff.2 hB, hb⟩)) .inr) (by
    have : (sepL A').lo ≤ (sepL A).lo := lo_le fun B hB => lo_mem (h.mem_iff.2 hB)
    show max (sepL A').lo R.lo ≤ max (sepL A).lo R.lo
    omega)
def permB (idx : List Nat) (A : Bds) : Bds := idx.filterMap fun i => A[i]?
theorem permB_all : ∀ (A B : Bds), (List.range' B.length A.length).filterMap (fun i => (B ++ A)[i]?) = A
  | [], B => rfl
  | x :: A, B => by
    rw [List.length_cons, List.range'_succ, List.filterMap_cons, List.getElem?_append_right (Nat.le_refl _), Nat.sub_self]
    show x :: _ = x :: A
    have q := permB_all A (B ++ [x])
    rw [List.length_append, List.length_singleton, List.append_assoc] at q
    exact congrArg (x :: ·) q
theorem permB_perm {idx : List Nat} {A : Bds} (h : (List.range A.length).Perm idx) : A.Perm (permB idx A) := by
  have e := permB_all A []
  rw [List.length_nil, ← List.range_eq_range', List.nil_append] at e
  have q := h.filterMap fun i => A[i]?
  rw [e] at q
  exact q
/-- What is owned is told in another order. -/
def oPm {P : Program} (idx : List Nat) (A : Bds) (n : Nat) (hn : A.length = n) (h : (List.range n).Perm idx) : Ora P := .a 0 A (permB idx A) (perm_own (permB_perm (by rw [hn]; exact h)))
end Go.Proofs.YtccbdmccfbjmeaaDoor.Ev
end
namespace Go.Proofs.YtccbdmccfbjmeaaDoor
section
/- The document's same, of lists of words that are the same. -/
open Go.RowKit
open Ev
set_option maxRecDepth 100000
def wdC (s : ByteArray) : List Value := [.string s]
theorem wd_info : ∃ i z b, Tryd.prog.info? 9 = some i ∧ i.zero = some z ∧ i.size = 1 ∧ i.bytes = b ∧ z.cells.size = 1 ∧ b ≤ 1000 := by
  refine ⟨_, _, _, rfl, rfl, rfl, rfl, rfl, by decide⟩
theorem wdT : ElT Tryd.prog 42 9 1 wdC := ⟨Tryd.underlying42, wd_info, by decide, fun _ => rfl, fun x u hu => by simp [wdC] at hu; rw [hu]; rfl⟩
theorem wdE : ElV Tryd.prog 42 9 1 wdC (fun x => .string x) := ⟨wdT, by kernel_rfl, fun x => by simp [Value.cells, wdC], .inr ⟨by kernel_rfl, rfl, fun x => rfl⟩⟩
abbrev iv (n : Int) : Value := .int .i64 n
theorem wrap_next {k n : Nat} (h : k < n) (hn : n ≤ 100000) : Value.int .i64 (IntKind.i64.wrap ((k : Int) + 1)) = .int .i64 ((k + 1 : Nat) : Int) := by
  simp [IntKind.wrap, IntKind.bits, IntKind.signed]
  omega
abbrev Yes : Ora Tryd.prog := .b true true rfl
abbrev No : Ora Tryd.prog := .b false false rfl
section
variable (a a2 : Option Addr) (n m m2 : Nat) (l : List ByteArray) (R : Bd)
def smS (k : Nat) : Ev.St := ⟨sp 32 [(0, .v (.slice a n m)), (1, .v (.slice a2 n m2)), (4, .v (.bool false)), (5, .v (iv (k : Nat)))], [], [bdO 9 1 wdC (.slice a n m) l, bdO 9 1 wdC (.slice a2 n m2) l, R]⟩
theorem sm_loop (hl : l.length = n) (hn : n ≤ 1000) : TY Tryd.prog 0 (.loop (loopN Tryd.prog 8 0)) (smS a a2 n m m2 l R 0) Unit (.exit 0) (fun _ => smS a a2 n m m2 l R n) := by
  refine T_loop (I := {k : Nat // k ≤ n}) (fun j => smS a a2 n m m2 l R j.1) (fun j => n - j.1) (by simp) _ (fun ⟨k, hk⟩ => ?_) ⟨0, Nat.zero_le _⟩
  refine step_at (smS a a2 n m m2 l R k) rfl ?_ ?_ (Nat.zero_le _)
  exact fun go out => [.sp (decide ((k : Int) < (n : Int)))
    (fun d =>
      have h : k < n := by simpa using d
      [.b _ _ d, .b _ _ d, .so _ l[k]? (fun hx => [.no (by simp at hx; omega)]) fun x hx => [oJx wdE 0 a n m h hl, oJd wdE 0 a n m hx hl, oJx wdE 1 a2 n m2 h hl, oJd wdE 1 a2 n m2 hx hl, .b (!(x.toList == x.toList)) false (by simp), .r _ _ (wrap_next h (by omega)), go ⟨k + 1, h⟩ (by show n - (k + 1) < n - k; omega) _ rfl]])
    (fun d => [.b _ _ d, No, out () (smS a a2 n m m2 l R k) (by rw [show k = n by simp at d; omega])])]
  intro _ _; kernel_rfl
end
theorem same_fun (a a2 : Option Addr) (n m m2 : Nat) (l : List ByteArray) (hl : l.length = n) (hn : n ≤ 1000) : Fun Tryd.prog 8 [.slice a n m, .slice a2 n m2] [bdO 9 1 wdC (.slice a n m) l, bdO 9 1 wdC (.slice a2 n m2) l] Unit (fun _ => .bool true) (fun _ => [bdO 9 1 wdC (.slice a n m) l, bdO 9 1 wdC (.slice a2 n m2) l]) :=
  ev_funE (fun R fin => [.l _ _ _ _ _ _ (sm_loop a a2 n m m2 l R hl hn) fun _ => [fin () (.bool (decide ((n : Int) = (n : Int)))) _ (by simp) rfl]]) (fun R β w => by kernel_rfl)
end
section
/- report.join; an owned block as an owned list. -/
open Go.RowKit
open Ev
set_option maxRecDepth 100000
/-- Words, with a blank between. -/
def jnL (xs : List ByteArray) : List UInt8 := Lib.join (xs.map (·.data.toList)) [32]
def jn (xs : List ByteArray) : ByteArray := ⟨(jnL xs).toArray⟩
theorem wd_cells (xs : List ByteArray) {j : Nat} {x : ByteArray} (h : xs[j]? = some x) : (cellsL wdC xs)[j]? = some (.string x) := by
  have := cellsL_at (enc := wdC) (size := 1) (fun _ => rfl) xs j 0 x h (by omega)
  simpa [wdC] using this
theorem join_any (g : Nat) (xs : List ByteArray) (w : World) (h : Blk w g (cellsL wdC xs).toArray 9) (hN : xs.length ≤ 1000) (hlen : (jnL xs).length ≤ 100000) :
    Calls Tryd.prog 12 #[.slice (some ⟨g, 0, none⟩) xs.length xs.length] w fun e w' => e = .returned (.string (jn xs)) ∧ Below w.heap.size w w' := by
  have H := Lib.hid (show Calls Tryd.prog 22 #[.slice (some ⟨g, 0, none⟩) xs.length xs.length, .string ⟨#[32]⟩] w fun e w' => e = .returned (.string (jn xs)) ∧ Below w.heap.size w w' from
    sh_join g 0 xs.length xs ⟨#[32]⟩ w (fun j x hx => by
      rw [Nat.zero_add, h.cell, List.getElem?_toArray]
      exact wd_cells xs hx) h.lt (by omega) (Nat.le_refl _) (by
        have : (jnL xs).length ≤ 100000 := hlen
        unfold jnL at this
        exact Nat.le_trans this (by decide)))
  generalize jn xs = r at H ⊢
  generalize xs.length = n at H ⊢
  clear h
  go_enter Tryd.func12, Tryd.ntmps12
  go_wp2_with (go_at_call 22; refine H.out.mono ?_; rintro e w2 ⟨rfl, hb⟩)
  go_ret
  exact ⟨rfl, hb⟩
/-- A slice of words of one's own is joined. -/
def oJn (lb : Nat) (xs : List ByteArray) (n : Nat) (hn : xs.length = n) (hN : n ≤ 1000) (hlen : (jnL xs).length ≤ 100000) : Ora Tryd.prog :=
  .y (.c 12 [.s lb n]) [(lb, (cellsL wdC xs).toArray, 9)] 0 [] [] (.string (jn xs)) (fun w0 F R β w hlo K => by
    subst hn
    obtain ⟨k, hk⟩ := hlo (lb, (cellsL wdC xs).toArray, 9) List.mem_cons_self
    have hb := K.all k _ hk
    exact (join_any (β.getD lb 0) xs w hb hN hlen).mono fun e w' ⟨e1, e2⟩ => ⟨_, e1, rfl, K.next e2⟩)
theorem own_blk {α : Type} {e : TypeId} {size : Nat} {enc : α → List Value} {b n : Nat} {cs : Array Value} {l : List α} (hc : cs = (cellsL enc l).toArray) (hn : l.length = n) (hm : n ≤ maxLen) (hs : (cellsL enc l).length = n * size) (A : Bds) : ∀ w0 F R w, Kf w0 F ((sepL (bdB b cs e :: A)).sep R) w → Kf w0 F ((sepL (bdO e size enc (.slice (some ⟨b, 0, none⟩) n n) l :: A)).sep R) w := fun w0 F R w K => by
  subst hn
  refine Kf.iff K (fun h => ⟨⟨?_, h.1.2.1, fun k hk => ?_⟩, h.2.1, fun k hk => h.2.2 k ?_⟩) (fun k hk => ?_) (Nat.le_refl _)
  · have hb : Blk w b cs e := h.1.1
    exact ⟨hs, .inr ⟨b, l.length, cs, rfl, Nat.zero_le _, hb, Nat.le_refl _, hm, by rw [hc]; simpa using hs, by rw [hc]; simp [← hs]⟩⟩
  · have : some b = some k := hk
    exact h.1.2.2 k (Option.some.inj this).symm
  · exact hk.elim (fun q => .inl (by have : some b = some k := q; exact (Option.some.inj this).symm)) .inr
  · exact hk.elim (fun q => .inl (q.elim (fun q => .inl (by have : some b = some k := q; exact (Option.some.inj this).symm)) .inr)) .inr
end
section
/- What each function of package wire that only computes does, and the document's own answers for them. -/
open Go.RowKit

theorem ret_int {k : IntKind} {a b : Int} (h : a = b) : Ending.returned (.int k a) = .returned (.int k b) := by rw [h]

def goodSizeB (n : Int) : Bool := decide (1 ≤ n) && decide (n ≤ 8)

set_option maxHeartbeats 400000 in
theorem goodSize_any (n : Int) (w : World) :
    Calls Tryd.prog 39 #[.int .i64 n] w fun e w' => e = .returned (.bool (goodSizeB n)) ∧ w = w' := by
  unfold goodSizeB
  by_cases h1 : 1 ≤ n
  · go_enter Tryd.func39, Tryd.ntmps39
    go_wp2
    go_ret
    exact ⟨by simp; omega, rfl⟩
  · go_enter Tryd.func39, Tryd.ntmps39
    go_wp2
    go_ret
    exact ⟨by simp; omega, rfl⟩

theorem maskN_walk (a n : Int) (h : Nums.good a n) :
    IntKind.u64.wrap (18446744073709551615 / 2 ^ (64 - n).toNat * 2 ^ a.toNat) = (Nums.maskN a n : Int) := by
  have l := Nums.maskN_lt a n
  obtain ⟨h1, h2, h3, h4⟩ := h
  have e : (18446744073709551615 : Int) / 2 ^ (64 - n).toNat = ((2 ^ n.toNat - 1 : Nat) : Int) := by
    have := Nums.full_div n.toNat (by omega)
    rw [← this, show (64 - n).toNat = 64 - n.toNat by omega]
    simp
  have m : Nums.maskN a n = (2 ^ n.toNat - 1) * 2 ^ a.toNat := by unfold Nums.maskN; rw [if_pos ⟨h1, h2, h3, h4⟩]
  rw [e, IntKind.wrap_u64, m]
  rw [m] at l
  have c : ((2 ^ n.toNat - 1 : Nat) : Int) * 2 ^ a.toNat = (((2 ^ n.toNat - 1) * 2 ^ a.toNat : Nat) : Int) := by simp
  rw [c]
  omega

set_option maxHeartbeats 400000 in
theorem mask_any (a n : Int) (w : World) :
    Calls Tryd.prog 31 #[.int .i64 a, .int .i64 n] w fun e w' => e = .returned (.int .u64 (Nums.maskN a n)) ∧ w = w' := by
  by_cases h : Nums.good a n
  · have m := Lib.hid (maskN_walk a n h)
    obtain ⟨h1, h2, h3, h4⟩ := h
    go_enter Tryd.func31, Tryd.ntmps31
    go_wp2
    go_ret
    exact ⟨ret_int m.out, rfl⟩
  · have m := Lib.hid (Nums.maskN_no a n h)
    unfold Nums.good at h
    by_cases c1 : a < 0
    · go_enter Tryd.func31, Tryd.ntmps31
      go_wp2
      go_ret
      exact ⟨ret_int (by rw [m.out]; rfl), rfl⟩
    · by_cases c2 : 64 ≤ a
      · go_enter Tryd.func31, Tryd.ntmps31
        go_wp2
        go_ret
        exact ⟨ret_int (by rw [m.out]; rfl), rfl⟩
      · by_cases c3 : n < 1
        · go_enter Tryd.func31, Tryd.ntmps31
          go_wp2
          go_ret
          exact ⟨ret_int (by rw [m.out]; rfl), rfl⟩
        · have c4 : 64 - a < n := by omega
          clear h
          go_enter Tryd.func31, Tryd.ntmps31
          go_wp2
          go_ret
          exact ⟨ret_int (by rw [m.out]; rfl), rfl⟩

theorem field_walk (x : Nat) (a n : Int) (hx : x < 18446744073709551616) (h : Nums.good a n) :
    bits .and .u64 (x : Int) (Nums.maskN a n : Int) / 2 ^ a.toNat = (Nums.fieldN x a n : Int) := by
  rw [u64_and_nat x _ hx (Nums.maskN_lt a n), ← Nums.fieldN_eq x a n h]
  simp

set_option maxHeartbeats 400000 in
theorem field_any (x : Nat) (a n : Int) (w : World) (hx : x < 18446744073709551616) :
    Calls Tryd.prog 24 #[.int .u64 x, .int .i64 a, .int .i64 n] w fun e w' => e = .returned (.int .u64 (Nums.fieldN x a n)) ∧ w = w' := by
  by_cases h : Nums.good a n
  · have m := Lib.hid (field_walk x a n hx h)
    have p : (((Nums.maskN a n : Nat) : Int) == 0) = false := by have := Nums.maskN_pos a n h; simp; omega
    have h1 := h.1
    have h2 := h.2.1
    have hh := Lib.hid h
    clear h
    go_enter Tryd.func24, Tryd.ntmps24
    go_wp2_with (go_at_call 31; refine (mask_any _ _ _).mono ?_; rintro e w' ⟨rfl, rfl⟩)
    go_ret
    exact ⟨ret_int m.out, rfl⟩
  · have m := Lib.hid (Nums.fieldN_no x a n h)
    have p : (((Nums.maskN a n : Nat) : Int) == 0) = true := by rw [Nums.maskN_no a n h]; rfl
    clear h
    go_enter Tryd.func24, Tryd.ntmps24
    go_wp2_with (go_at_call 31; refine (mask_any _ _ _).mono ?_; rintro e w' ⟨rfl, rfl⟩)
    go_ret
    exact ⟨ret_int (by rw [m.out]; rfl), rfl⟩

theorem with_walk (x : Nat) (a n : Int) (v : Nat) (hx : x < 18446744073709551616) (h : Nums.good a n) :
    bits .or .u64 (bits .andNot .u64 (x : Int) (Nums.maskN a n : Int)) (bits .and .u64 (IntKind.u64.wrap ((v : Int) * 2 ^ a.toNat)) (Nums.maskN a n : Int)) = (Nums.withN x a n v : Int) := by
  have l := Nums.maskN_lt a n
  have e : IntKind.u64.wrap ((v : Int) * 2 ^ a.toNat) = ((v * 2 ^ a.toNat % 18446744073709551616 : Nat) : Int) := by
    rw [IntKind.wrap_u64]; simp
  rw [u64_andNot_nat x _ hx l, e, u64_and_nat _ _ (by omega) l]
  have h1 : x &&& (18446744073709551615 - Nums.maskN a n) < 2 ^ 64 := Nat.and_lt_two_pow _ (by omega)
  have h2 : (v * 2 ^ a.toNat % 18446744073709551616) &&& Nums.maskN a n < 2 ^ 64 := Nat.and_lt_two_pow _ (by omega)
  rw [u64_or_nat _ _ (by omega) (by omega)]
  unfold Nums.withN
  rw [if_pos h]
end
section
/- Blocks of cells that a call has made itself: what they hold, what a store makes of them, and a text out of them; with no program in sight. -/
open Go.RowKit

/-- Block g begins with these cells, none of them frozen. -/
def Has (w : World) (g : Nat) (l : List Value) : Prop := ∀ j (hj : j < l.length), w.cell? ⟨g, j, none⟩ = some l[j] ∧ w.frozen? ⟨g, j, none⟩ = false

theorem Has.of_owns {w : World} {base : Nat} {e : TypeId} {g cap n : Nat} {xs : List Value} (h : w.ownsRow base e 1 (.slice (some ⟨g, 0, none⟩) n cap) n xs) : Has w g xs := by
  intro j hj
  have hl : xs.length = n * 1 := h.1
  refine ⟨?_, h.frozenAt j⟩
  rw [h.cellAt j (by omega), List.getElem?_eq_getElem hj]

theorem Has.set {w : World} {g : Nat} {l : List Value} (h : Has w g l) (j : Nat) (u : Value) : Has (w.setCell ⟨g, j, none⟩ u) g (l.set j u) := by
  intro i hi
  have hi' : i < l.length := by simpa using hi
  obtain ⟨h1, h2⟩ := h i hi'
  refine ⟨?_, by simpa using h2⟩
  by_cases c : j = i
  · subst c
    rw [World.cell?_setCell_same (w := w) (h := h1)]
    simp
  · rw [World.cell?_setCell_other (w := w) (h := by simp only [ne_eq, Addr.mk.injEq, true_and, and_true]; omega), h1]
    simp [c]

theorem Has.other {w : World} {g : Nat} {l : List Value} (h : Has w g l) {a : Addr} (ha : a.block ≠ g) (u : Value) : Has (w.setCell a u) g l := by
  intro i hi
  obtain ⟨h1, h2⟩ := h i hi
  refine ⟨?_, by simpa using h2⟩
  rw [World.cell?_setCell_other (w := w) (h := by intro e; apply ha; rw [e]), h1]

theorem Has.below {w w' : World} {B g : Nat} {l : List Value} (h : Has w g l) (hb : Below B w w') (hg : g < B) : Has w' g l := by
  intro i hi
  obtain ⟨h1, h2⟩ := h i hi
  exact ⟨by rw [hb.cell (p := ⟨g, i, none⟩) hg, h1], by rw [hb.frozen (p := ⟨g, i, none⟩) hg, h2]⟩

theorem Has.drew {w : World} {g : Nat} {l : List Value} (h : Has w g l) : Has w.drew g l := fun j hj => by
  simpa using h j hj

theorem Has.cellAt {w : World} {g : Nat} {l : List Value} (h : Has w g l) (j : Nat) (hj : j < l.length) : w.cell? ⟨g, j, none⟩ = some l[j] := (h j hj).1
theorem Has.freeAt {w : World} {g : Nat} {l : List Value} (h : Has w g l) (j : Nat) (hj : j < l.length) : w.frozen? ⟨g, j, none⟩ = false := (h j hj).2

theorem Has.someAt {w : World} {g : Nat} {l : List Value} (h : Has w g l) (j : Nat) (hj : j < l.length) : ∃ v, w.cell? ⟨g, j, none⟩ = some v := ⟨_, (h j hj).1⟩

theorem made_one (v : Value) (h : v.cells = #[v]) (n : Nat) : (madeCells v.cells (n * 1)).toList = List.replicate n v := by
  rw [h, Nat.mul_one]
  apply List.ext_getElem
  · simp [madeCells]
  · intro i h1 h2
    simp [madeCells, Nat.mod_one]

/-- A byte as a cell holds it. -/
def bv (b : UInt8) : Value := .int .u8 (b.toNat : Int)

/-- A text out of such a block. -/
theorem Has.text {P : Program} {w : World} {g cap : Nat} {l : List UInt8} (h : Has w g (l.map bv)) (src dst e : TypeId) (hs : P.underlying src = some (.slice e)) (he : P.underlying e = some (.int .u8)) (hd : P.underlying dst = some .string) (n : Nat) (hn : n = l.length) :
    (convert src dst (.slice (some ⟨g, 0, none⟩) n cap)).run P w = .ok (.string ⟨l.toArray⟩) w := by
  subst hn
  refine run_convert_bytes_back w src dst e ⟨g, 0, none⟩ cap l hs he hd ?_
  intro j hj
  have := (h j (by simpa using hj)).1
  have e : (⟨g, 0, none⟩ : Addr).add j = ⟨g, j, none⟩ := by cases j <;> simp [Addr.add]
  rw [e, this]
  simp [bv]

/-- The bytes of a text as a block of its own. -/
theorem Has.of_text (w : World) (s : ByteArray) (e : TypeId) (cap : Nat) : Has (w.drew.alloc (.cells (bytesRow s cap) e ((bytesRow s cap).size, (bytesRow s cap).size + 1))) w.heap.size (s.data.toList.map bv) := by
  intro j hj
  have hj' : j < s.data.size := by simpa using hj
  refine ⟨?_, ?_⟩
  · have := World.cell?_alloc_mark w.drew (bytesRow s cap) e ((bytesRow s cap).size, (bytesRow s cap).size + 1) j
    rw [show w.drew.heap.size = w.heap.size from rfl] at this
    rw [this, bytesRow_at s cap j hj']
    simp [bv]
  · have := World.frozen?_alloc_mark w.drew (bytesRow s cap) e (bytesRow s cap).size ((bytesRow s cap).size + 1) j
    rw [show w.drew.heap.size = w.heap.size from rfl] at this
    rw [this]
    have : j < (bytesRow s cap).size := by
      have := bytesRow_at s cap j hj'
      exact (Array.getElem?_eq_some_iff.1 this).1
    simp
    omega

theorem Has.lt {w : World} {g : Nat} {l : List Value} (h : Has w g l) (hl : 0 < l.length) : g < w.heap.size := by
  have h0 := (h 0 hl).1
  rcases Nat.lt_or_ge g w.heap.size with c | c
  · exact c
  · simp [World.cell?, Array.getElem?_eq_none c] at h0

theorem setCell_grown (w : World) (a : Addr) (v : Value) : w.grownBy (w.setCell a v) (some a.block) :=
  ⟨rfl, rfl, rfl, by simp [World.setCell], fun k _ hk => Below.heap_setCell _ _ _ _ (fun e => hk (by rw [e]))⟩

theorem grown_trans {a b c : World} {r : Option Nat} (h : a.grownBy b r) (k : b.grownBy c r) : a.grownBy c r :=
  ⟨k.os.trans h.os, k.tape.trans h.tape, k.output.trans h.output, Nat.le_trans h.size k.size, fun i hi hr => (k.block i (Nat.lt_of_lt_of_le hi h.size) hr).trans (h.block i hi hr)⟩

theorem grown_none {a b : World} {r : Option Nat} (h : a.grownBy b none) : a.grownBy b r :=
  ⟨h.os, h.tape, h.output, h.size, fun i hi _ => h.block i hi (by simp)⟩

theorem grown_drew (w : World) (r : Option Nat) : w.grownBy w.drew r := ⟨rfl, rfl, rfl, Nat.le_refl _, fun _ _ _ => rfl⟩

theorem Below.grownBy {a b : World} (h : Below a.heap.size a b) (r : Option Nat) : a.grownBy b r :=
  ⟨h.os, h.tape, h.output, h.size, fun i hi _ => h.block i hi⟩

theorem Has.grown {w w' : World} {g : Nat} {l : List Value} {r : Option Nat} (h : Has w g l) (hg : w.grownBy w' r) (hr : some g ≠ r) : Has w' g l := by
  intro i hi
  obtain ⟨h1, h2⟩ := h i hi
  have hl := h.lt (by omega)
  have hb := hg.block g hl hr
  exact ⟨by rw [World.cell?_of_block (w := w) (a := ⟨g, i, none⟩) hb, h1], by rw [World.frozen?_of_block (w := w) (a := ⟨g, i, none⟩) hb, h2]⟩

/-- The bytes of a text, as a conversion lays them. -/
theorem bytes_of_text {P : Program} (w : World) (src dst e : TypeId) (s : ByteArray) (hs : P.underlying src = some .string) (hd : P.underlying dst = some (.slice e)) (he : P.underlying e = some (.int .u8)) :
    ∃ cap w2, (convert src dst (.string s)).run P w = .ok (.slice (some ⟨w.heap.size, 0, none⟩) s.size cap) w2 ∧ Has w2 w.heap.size (s.data.toList.map bv) ∧ w.grownBy w2 none ∧ w2.heap.size = w.heap.size + 1 :=
  ⟨_, _, run_bytes_of_string w src dst e s hs hd he, Has.of_text w s e _, grown_trans (grown_drew w none) (World.grownBy_alloc _ _ _), by simp⟩
end
section
/- What wire.Bytes makes of a number. -/
open Go.RowKit
theorem Tryd.info5 : (Tryd.prog.info? 5).map (fun i => (i.zero, i.size, i.bytes)) = some (some (.int .u8 0), 1, 1) := by kernel_rfl

theorem bytes_val (x k : Nat) : Value.int .u8 ((x : Int) / 2 ^ (8 * k) % 256) = bv (UInt8.ofNat (x / 256 ^ k % 256)) := by
  have e : (UInt8.ofNat (x / 256 ^ k % 256)).toNat = x / 256 ^ k % 256 := by simp
  unfold bv
  rw [e, show (256 : Nat) = 2 ^ 8 by decide, ← Nat.pow_mul]
  simp

set_option maxHeartbeats 400000 in
theorem bytes_yes (x : Nat) (size : Nat) (w : World) (h1 : 1 ≤ size) (h8 : size ≤ 8) :
    Calls Tryd.prog 32 #[.int .u64 x, .int .i64 size] w fun e w' => e = .returned (.string ⟨(Nums.bytesN x size).toArray⟩) ∧ Below w.heap.size w w' := by
  have hg : goodSizeB (size : Int) = true := by unfold goodSizeB; simp; omega
  obtain ⟨i0, hi, hz0, hz1, hz2⟩ := info_parts Tryd.info5
  have hi1 := Lib.hid hz1
  have hi2 := Lib.hid hz2
  clear hz1 hz2
  have hb0 : Below w.heap.size w w := Below.refl _ _
  go_enter Tryd.func32, Tryd.ntmps32
  go_wp2_with (first
    | (go_at_call 39; refine (goodSize_any _ _).mono ?_; rintro e w' ⟨rfl, rfl⟩; rw [hg])
    | (at_make; refine wpList_make_full _ rfl _ _ 58 rfl w.heap.size 5 i0 (.int .u8 0) 1 Tryd.underlying58 hi hz0 hi1.out .i64 .i64 _ _ size rfl rfl rfl rfl (by rw [hi2.out]; omega) (by unfold maxLen; omega) (Nat.le_refl _) ?_; intro w1 hown hgrow))
  have hb := hb0.grown hgrow (Nat.le_refl _) (by simp)
  have hh := Has.of_owns hown
  clear hown hgrow
  go_loopw [6, 13] (fun _ i wr => ∃ k : Nat, k ≤ size ∧ i = .int .i64 k ∧ Has wr w.heap.size ((Nums.rowU x size k).map bv) ∧ Below w.heap.size w wr) (fun _ i _ => size - (intOf i).toNat)
  case atStart =>
    refine ⟨0, Nat.zero_le _, rfl, ?_, hb⟩
    rw [Nums.rowU_zero]
    rw [made_one _ rfl] at hh
    simpa [bv] using hh
  case round =>
    obtain ⟨k, hk, rfl, hown, hb⟩ := hrel
    by_cases hlt : k < size
    · have hl : ((Nums.rowU x size k).map bv).length = size := by simp [Nums.rowU_length]
      obtain ⟨v0, hc⟩ := hown.someAt (size - 1 - k) (by omega)
      have hf := hown.freeAt (size - 1 - k) (by omega)
      have hs := Lib.hid (hown.set (size - 1 - k) (bv (UInt8.ofNat (x / 256 ^ k % 256))))
      have hv := Lib.hid (bytes_val x k)
      have hl' := Lib.hid hl
      clear hl hh
      go_wp2
      go_roundw
      case rel =>
        refine ⟨k + 1, by omega, by go_num, ?_, hb.setCell (Nat.le_refl _) _⟩
        rw [hv.out]
        have := hs.out
        rw [← List.map_set, Nums.rowU_step x size k hlt] at this
        exact this
      case measure => simp [intOf]; omega
    · have : k = size := by omega
      subst this
      have hr := hown.text (P := Tryd.prog) (cap := k) 58 9 5 Tryd.underlying58 Tryd.underlying5 Tryd.underlying9 k (by simp [Nums.rowU_length])
      rw [Nums.rowU_all] at hr
      clear hown hh
      go_wp2
      go_ret
      exact ⟨rfl, hb⟩
end
end Go.Proofs.YtccbdmccfbjmeaaDoor
