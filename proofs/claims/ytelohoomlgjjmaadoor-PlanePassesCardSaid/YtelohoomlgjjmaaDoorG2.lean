import Derived.Maps.RangeRun
import Derived.Below
import Derived.WalkKit
import Derived.Lib.Hide
import Derived.Maps.RangeWalk
import Derived.Test.YtelohoomlgjjmaaDoorG1
import Derived.Test.YtelohoomlgjjmaaDoorProg
import Derived.Deep.DeepCutAuto
import Derived.RangeFuncNested
import Derived.RangeFuncBound
import Derived.RangeFuncCalls
import Derived.RangeFuncLeaves
import Derived.RangeFuncFrom
import Derived.Shelf.Abstract
import Derived.Shelf.RegionOpen
import Derived.OwnWalkIn
import Derived.TacticsInMore
import Derived.LoopNIn
import Derived.LoopIn
set_option linter.unusedSimpArgs false
set_option linter.unusedVariables false
namespace Go.Proofs.YtelohoomlgjjmaaDoor
section
/- Maps: what they hold, as a list of keys and values; with no program in sight. -/
open Go.RowKit
open Go.ChangeMaps (setBlock)

section
variable {κ ν : Type} [DecidableEq κ]

/-- The place of a key, and what stands there. -/
def findIn (x : κ) : List κ → List Value → Nat → Option (Nat × Value)
  | y :: ks, v :: vs, i => if x = y then some (i, v) else findIn x ks vs (i + 1)
  | _, _, _ => none

/-- Keys of a type that are told apart as these are. -/
structure KeyEq (P : Program) (k : TypeId) (kv : κ → Value) (ok : κ → Prop) : Prop where
  chk : ∀ (b : Bool) (x : κ) (w : World), ok x → (Instr.checkKey b 10000 k (kv x)).run P w = .ok () w
  find : ∀ (x : κ) (es : List MapEntry) (ks : List κ) (w : World), ok x → (∀ y ∈ ks, ok y) → es.map (·.key) = ks.map kv → (Instr.findKey k (kv x) es).run P w = .ok (findIn x ks (es.map (·.val)) 0) w
  stays : ∀ (x : κ) (w : World), ok x → (Instr.keyThatStays (kv x) (kv x)).run P w = .ok (kv x) w
  inj : ∀ x y : κ, ok x → ok y → kv x = kv y → x = y

theorem findNow_int (q : IntKind) (x : Nat) : ∀ (es : List MapEntry) (ks : List Nat) (i : Nat), es.map (·.key) = ks.map (fun n : Nat => Value.int q n) →
    Instr.findNow (.int q) (.int q x) es i = some (findIn x ks (es.map (·.val)) i)
  | [], [], _, _ => rfl
  | [], _ :: _, _, h => by simp at h
  | _ :: _, [], _, h => by simp at h
  | e :: es, y :: ks, i, h => by
    simp only [List.map_cons, List.cons.injEq] at h
    have ih := findNow_int q x es ks (i + 1) h.2
    unfold Instr.findNow
    rw [h.1]
    simp only [Instr.sameNow, if_true]
    by_cases c : x = y
    · subst c
      simp [findIn]
    · have : ((x : Int) == (y : Int)) = false := by simp; omega
      rw [this]
      simp only [List.map_cons, findIn, if_neg c]
      exact ih

theorem int_keys (P : Program) (k : TypeId) (q : IntKind) (hk : P.underlying k = some (.int q)) : KeyEq P k (fun n : Nat => Value.int q n) (fun _ => True) where
  chk b x w _ := by
    unfold Instr.checkKey
    simp only [Sem.run_bind, run_underlying hk, Result.andThen]
    rfl
  find x es ks w _ _ h := by
    simp only [Instr.findKey, Sem.run_bind, run_underlying hk, Result.andThen, findNow_int q x es ks 0 h]
    rfl
  stays x w _ := by simp [Instr.keyThatStays, Instr.sameBits]
  inj x y _ _ h := by injection h with _ h; omega

/-- Keys that are structs or arrays: by their equality. -/
theorem asked_keys (P : Program) (k : TypeId) (d : TypeDesc) (kv : κ → Value) (ok : κ → Prop) (hk : P.underlying k = some d)
    (hchk : ∀ (b : Bool) (x : κ) (w : World), ok x → (Instr.checkKey b 10000 k (kv x)).run P w = .ok () w)
    (hnow : ∀ x y, Instr.sameNow d (kv x) (kv y) = none)
    (heq : ∀ x y (w : World), ok x → ok y → (Op.equal k (kv x) (kv y)).run P w = .ok (decide (x = y)) w)
    (hbits : ∀ x, ok x → Instr.sameBits 10000 (kv x) (kv x) = true) (hinj : ∀ x y : κ, ok x → ok y → kv x = kv y → x = y) : KeyEq P k kv ok where
  chk := hchk
  find x es ks w hx hks h := by
    have asking : ∀ (es : List MapEntry) (ks : List κ) (i : Nat), (∀ y ∈ ks, ok y) → es.map (·.key) = ks.map kv → (Instr.findAsking k (kv x) es i).run P w = .ok (findIn x ks (es.map (·.val)) i) w := by
      intro es
      induction es with
      | nil =>
        intro ks i _ h
        cases ks with
        | nil => rfl
        | cons y ks => simp at h
      | cons e es ih =>
        intro ks i hks h
        cases ks with
        | nil => simp at h
        | cons y ks =>
          simp only [List.map_cons, List.cons.injEq] at h
          unfold Instr.findAsking
          rw [h.1]
          simp only [Sem.run_bind, heq x y w hx (hks y (by simp)), Result.andThen]
          by_cases c : x = y
          · subst c
            simp [findIn]
          · simp only [decide_eq_true_eq, if_neg c, List.map_cons, findIn]
            exact ih ks (i + 1) (fun z hz => hks z (by simp [hz])) h.2
    simp only [Instr.findKey, Sem.run_bind, run_underlying hk, Result.andThen]
    cases es with
    | nil =>
      cases ks with
      | nil => rfl
      | cons y ks => simp at h
    | cons e es =>
      cases ks with
      | nil => simp at h
      | cons y ks =>
        have h1 := h
        simp only [List.map_cons, List.cons.injEq] at h1
        have : Instr.findNow d (kv x) (e :: es) 0 = none := by
          unfold Instr.findNow
          rw [h1.1, hnow]
        rw [this]
        exact asking (e :: es) (y :: ks) 0 hks h
  stays x w hx := by simp [Instr.keyThatStays, hbits x hx]
  inj := hinj

/-- What a list of keys and values tells of a key; with it; without it. -/
def getL (x : κ) : List (κ × ν) → Option ν
  | [] => none
  | y :: l => if x = y.1 then some y.2 else getL x l
def putL (x : κ) (n : ν) : List (κ × ν) → List (κ × ν)
  | [] => [(x, n)]
  | y :: l => if x = y.1 then (x, n) :: l else y :: putL x n l
def delL (x : κ) : List (κ × ν) → List (κ × ν)
  | [] => []
  | y :: l => if x = y.1 then l else y :: delL x l

theorem findIn_spec (vv : ν → Value) (x : κ) : ∀ (L : List (κ × ν)) (i : Nat),
    (getL x L = none ∧ findIn x (L.map (·.1)) (L.map fun y => vv y.2) i = none ∧ (∀ n, putL x n L = L ++ [(x, n)]) ∧ delL x L = L ∧ x ∉ L.map (·.1)) ∨
    ∃ j n, getL x L = some n ∧ findIn x (L.map (·.1)) (L.map fun y => vv y.2) i = some (i + j, vv n) ∧ L[j]? = some (x, n) ∧ (∀ n', putL x n' L = L.set j (x, n')) ∧ delL x L = L.eraseIdx j
  | [], _ => .inl ⟨rfl, rfl, fun _ => rfl, rfl, by simp⟩
  | y :: l, i => by
    by_cases c : x = y.1
    · refine .inr ⟨0, y.2, by simp [getL, c], by simp [findIn, c], ?_, fun n' => by simp [putL, c], by simp [delL, c]⟩
      rw [c]
      rfl
    · rcases findIn_spec vv x l (i + 1) with ⟨h1, h2, h3, h4, h5⟩ | ⟨j, n, h1, h2, h3, h4, h5⟩
      · refine .inl ⟨by simp [getL, c, h1], by simp [findIn, c, h2], fun n => by simp [putL, c, h3], by simp [delL, c, h4], ?_⟩
        rw [List.map_cons, List.mem_cons, not_or]
        exact ⟨c, h5⟩
      · exact .inr ⟨j + 1, n, by simp [getL, c, h1], by simp [findIn, c, h2]; omega, by simpa using h3, fun n' => by simp [putL, c, h4], by simp [delL, c, h5]⟩

end

section
variable {κ ν : Type}
/-- Block b is a map of these keys and values, in the order in which they came. -/
def Tb (w : World) (b : Nat) (kv : κ → Value) (vv : ν → Value) (L : List (κ × ν)) : Prop :=
  ∃ es clock, w.heap[b]? = some (.map es clock) ∧ es.toList.map (fun e => (e.key, e.val)) = L.map (fun y => (kv y.1, vv y.2)) ∧ (L.map (·.1)).Nodup ∧ (es.toList.map (·.born)).Nodup ∧ ∀ e ∈ es.toList, e.born < clock

variable {P : Program} {w w' : World} {b : Nat} {kv : κ → Value} {vv : ν → Value} {L : List (κ × ν)} {t k e : TypeId}

theorem Tb.new (w : World) (kv : κ → Value) (vv : ν → Value) : Tb (w.alloc (.map #[] 0)) w.heap.size kv vv [] :=
  ⟨#[], 0, heap_alloc_new w _, rfl, by simp, by simp, by simp⟩
theorem Tb.lt (h : Tb w b kv vv L) : b < w.heap.size := by
  obtain ⟨es, clock, hb, -⟩ := h
  exact (Array.getElem?_eq_some_iff.1 hb).1
theorem Tb.same (h : Tb w b kv vv L) (hb : w'.heap[b]? = w.heap[b]?) : Tb w' b kv vv L := by
  obtain ⟨es, clock, h1, h2⟩ := h
  exact ⟨es, clock, hb.trans h1, h2⟩
theorem Tb.below {B : Nat} (h : Tb w b kv vv L) (hb : Below B w w') (hB : b < B) : Tb w' b kv vv L := h.same (hb.block b hB)
theorem Tb.next (h : Tb w b kv vv L) (hb : Below w.heap.size w w') : Tb w' b kv vv L := h.below hb h.lt
theorem Tb.grown {row : Option Nat} (h : Tb w b kv vv L) (hg : w.grownBy w' row) (hr : some b ≠ row) : Tb w' b kv vv L := h.same (hg.block b h.lt hr)
theorem Tb.drew (h : Tb w b kv vv L) : Tb w.drew b kv vv L := h
theorem Tb.alloc (h : Tb w b kv vv L) (o : Obj) : Tb (w.alloc o) b kv vv L := h.same (Below.heap_alloc w o b h.lt)
theorem Tb.setCell (h : Tb w b kv vv L) {a : Addr} (ha : b ≠ a.block) (u : Value) : Tb (w.setCell a u) b kv vv L := h.same (Below.heap_setCell w a u b ha)
theorem Tb.nodup (h : Tb w b kv vv L) : (L.map (·.1)).Nodup := by obtain ⟨_, _, _, _, h, _⟩ := h; exact h

theorem Tb.keys {es : Array MapEntry} (h : es.toList.map (fun e => (e.key, e.val)) = L.map (fun y => (kv y.1, vv y.2))) : es.toList.map (·.key) = (L.map (·.1)).map kv ∧ es.toList.map (·.val) = L.map (fun y => vv y.2) := by
  have h1 := congrArg (List.map (·.1)) h
  have h2 := congrArg (List.map (·.2)) h
  simpa [Function.comp_def] using And.intro h1 h2

theorem setBlock_below {B : Nat} {w0 : World} (h : Below B w0 w) (hB : B ≤ b) (o : Obj) : Below B w0 (setBlock w b o) :=
  h.trans ⟨rfl, rfl, rfl, by simp [setBlock], fun i hi => by simp [setBlock, Array.getElem?_setIfInBounds_ne (show b ≠ i by omega)]⟩
theorem setBlock_grown (w : World) (b : Nat) (o : Obj) : w.grownBy (setBlock w b o) (some b) :=
  ⟨rfl, rfl, rfl, by simp [setBlock], fun i _ hi => by simp [setBlock, Array.getElem?_setIfInBounds_ne (show b ≠ i from fun e => hi (by rw [e]))]⟩
theorem setBlock_at (hb : b < w.heap.size) (o : Obj) : (setBlock w b o).heap[b]? = some o := by simp [setBlock, hb]
theorem setBlock_size (w : World) (b : Nat) (o : Obj) : (setBlock w b o).heap.size = w.heap.size := by simp [setBlock]

theorem keys_set {j : Nat} {x : κ} {n n' : ν} (h : L[j]? = some (x, n)) : (L.set j (x, n')).map (·.1) = L.map (·.1) := by
  apply List.ext_getElem?
  intro i
  rw [List.getElem?_map, List.getElem?_map, List.getElem?_set]
  by_cases c : j = i
  · subst c
    rw [if_pos rfl, h]
    have : j < L.length := (List.getElem?_eq_some_iff.1 h).1
    simp [this]
  · rw [if_neg c]

theorem Tb.len (h : Tb w b kv vv L) (ht : P.underlying t = some (.map k e)) (ty : TypeId) : (Builtin.len_ #[t] ty #[.map (some b)]).run P w = .ok (.int .i64 (L.length : Nat)) w := by
  obtain ⟨es, clock, hb, hes, -, -, -⟩ := h
  have hl : es.size = L.length := by
    have := congrArg List.length hes
    simpa using this
  simp [Builtin.len_, run_underlying ht, MapKept.run_getObj_map hb, hl, goInt, Result.andThen]
end

section
variable {κ ν : Type} [DecidableEq κ]
variable {P : Program} {w w' : World} {b : Nat} {kv : κ → Value} {vv : ν → Value} {L : List (κ × ν)} {t k e : TypeId} {ok : κ → Prop}
/-- A look-up. -/
theorem Tb.look (h : Tb w b kv vv L) (K : KeyEq P k kv ok) (ht : P.underlying t = some (.map k e)) (x : κ) (hx : ok x) (hL : ∀ y ∈ L, ok y.1) {z : Value} (hz : (zeroValue e).run P w = .ok z w) (c : Bool) :
    (Instr.lookup t (.map (some b)) (kv x) c).run P w = .ok (match getL x L with
      | some n => if c then .tuple #[vv n, .bool true] else vv n
      | none => if c then .tuple #[z, .bool false] else z) w := by
  obtain ⟨es, clock, hb, hes, -, -, -⟩ := h
  obtain ⟨hk, hv⟩ := Tb.keys hes
  have hf := K.find x es.toList (L.map (·.1)) w hx (fun y hy => by obtain ⟨p, hp, rfl⟩ := List.mem_map.1 hy; exact hL p hp) hk
  rw [hv] at hf
  have hc := K.chk es.isEmpty x w hx
  rcases findIn_spec vv x L 0 with ⟨h1, h2, -⟩ | ⟨j, n, h1, h2, -⟩
  · rw [h2] at hf
    simp [Instr.lookup, run_underlying ht, MapKept.run_getObj_map hb, hc, hf, hz, h1, Result.andThen]
  · rw [h2] at hf
    simp [Instr.lookup, run_underlying ht, MapKept.run_getObj_map hb, hc, hf, h1, Result.andThen]

/-- A key and a value are laid in. -/
theorem Tb.put (h : Tb w b kv vv L) (K : KeyEq P k kv ok) (ht : P.underlying t = some (.map k e)) (x : κ) (n : ν) (hx : ok x) (hL : ∀ y ∈ L, ok y.1) :
    ∃ o, (Instr.mapUpdate t (.map (some b)) (kv x) (vv n)).run P w = .ok () (setBlock w b o) ∧ Tb (setBlock w b o) b kv vv (putL x n L) := by
  have hlt := h.lt
  obtain ⟨es, clock, hb, hes, hn, hnb, hc⟩ := h
  obtain ⟨hk, hv⟩ := Tb.keys hes
  have hf := K.find x es.toList (L.map (·.1)) w hx (fun y hy => by obtain ⟨p, hp, rfl⟩ := List.mem_map.1 hy; exact hL p hp) hk
  rw [hv] at hf
  have hck := K.chk false x w hx
  have hlen : es.size = L.length := by
    have := congrArg List.length hes
    simpa using this
  rcases findIn_spec vv x L 0 with ⟨h1, h2, h3, -, h5⟩ | ⟨j, n0, h1, h2, h3, h4, -⟩
  · rw [h2] at hf
    refine ⟨.map (es.push { key := kv x, val := vv n, born := clock }) (clock + 1), ?_, ⟨_, _, setBlock_at hlt _, ?_, ?_, ?_, ?_⟩⟩
    · simp [Instr.mapUpdate, run_underlying ht, MapKept.run_getObj_map hb, hck, hf, MapKept.run_setObj_map _ hb, Result.andThen, setBlock]
    · rw [h3, Array.toList_push, List.map_append, List.map_append, hes]
      rfl
    · rw [h3, List.map_append, List.nodup_append]
      refine ⟨hn, by simp, fun a ha y hy => ?_⟩
      simp only [List.map_cons, List.map_nil, List.mem_singleton] at hy
      subst hy
      exact fun q => h5 (q ▸ ha)
    · rw [Array.toList_push, List.map_append, List.nodup_append]
      refine ⟨hnb, by simp, fun a ha y hy => ?_⟩
      simp only [List.map_cons, List.map_nil, List.mem_singleton] at hy
      subst hy
      obtain ⟨e0, he0, rfl⟩ := List.mem_map.1 ha
      have := hc e0 he0
      omega
    · intro e0 he0
      rw [Array.toList_push, List.mem_append] at he0
      rcases he0 with he0 | he0
      · have := hc e0 he0; omega
      · simp only [List.mem_singleton] at he0
        subst he0
        simp
  · rw [h2] at hf
    have hj : j < L.length := (List.getElem?_eq_some_iff.1 h3).1
    have hje : j < es.size := by omega
    have hkey : (es[j]'hje).key = kv x := by
      have := congrArg (fun l => l[j]?) hes
      simp only [List.getElem?_map, h3, Array.getElem?_toList, Array.getElem?_eq_getElem hje, Option.map_some, Option.some.injEq, Prod.mk.injEq] at this
      exact this.1
    have hgd : ((es[j]?).map (·.key)).getD (kv x) = kv x := by
      rw [Array.getElem?_eq_getElem hje]
      exact hkey
    have hst := K.stays x w hx
    refine ⟨.map (es.modify j fun e => { e with key := kv x, val := vv n }) clock, ?_, ⟨_, _, setBlock_at hlt _, ?_, ?_, ?_, ?_⟩⟩
    · rw [Nat.zero_add] at hf
      simp only [Instr.mapUpdate, Sem.run_bind, run_underlying ht, MapKept.run_getObj_map hb, hck, hf, Result.andThen, hgd, hst, MapKept.run_setObj_map _ hb]
      rfl
    · rw [h4, Array.toList_modify]
      apply List.ext_getElem?
      intro i
      have hi := congrArg (fun l => l[i]?) hes
      simp only [List.getElem?_map, List.getElem?_modify, List.getElem?_set] at hi ⊢
      by_cases c : j = i
      · subst c
        simp [hj, Array.getElem?_toList, Array.getElem?_eq_getElem hje]
      · simp [c]
        simpa using hi
    · rw [h4, keys_set h3]
      exact hn
    · have : (es.modify j fun e => { e with key := kv x, val := vv n }).toList.map (·.born) = es.toList.map (·.born) := by
        rw [Array.toList_modify]
        apply List.ext_getElem?
        intro i
        simp only [List.getElem?_map, List.getElem?_modify]
        by_cases c : j = i <;> cases es.toList[i]? <;> simp [c]
      rw [this]
      exact hnb
    · intro e0 he0
      obtain ⟨i, hi, rfl⟩ := List.mem_iff_getElem.1 he0
      have h0 : i < es.toList.length := by simpa using hi
      have := hc (es.toList[i]) (List.getElem_mem h0)
      simp only [Array.getElem_toList, Array.getElem_modify] at this ⊢
      split <;> simpa using this

/-- A key is struck. -/
theorem Tb.del (h : Tb w b kv vv L) (K : KeyEq P k kv ok) (ht : P.underlying t = some (.map k e)) (x : κ) (hx : ok x) (hL : ∀ y ∈ L, ok y.1) (kt ty : TypeId) :
    ∃ o, (Builtin.delete_ #[t, kt] ty #[.map (some b), kv x]).run P w = .ok (.tuple #[]) (setBlock w b o) ∧ Tb (setBlock w b o) b kv vv (delL x L) := by
  have hlt := h.lt
  obtain ⟨es, clock, hb, hes, hn, hnb, hc⟩ := h
  obtain ⟨hk, hv⟩ := Tb.keys hes
  have hf := K.find x es.toList (L.map (·.1)) w hx (fun y hy => by obtain ⟨p, hp, rfl⟩ := List.mem_map.1 hy; exact hL p hp) hk
  rw [hv] at hf
  have hck := K.chk es.isEmpty x w hx
  rcases findIn_spec vv x L 0 with ⟨h1, h2, -, h4, -⟩ | ⟨j, n0, h1, h2, h3, -, h5⟩
  · rw [h2] at hf
    refine ⟨.map es clock, ?_, ⟨es, clock, setBlock_at hlt _, by rw [h4]; exact hes, by rw [h4]; exact hn, hnb, hc⟩⟩
    simp [Builtin.delete_, run_underlying ht, MapKept.run_getObj_map hb, hck, hf, MapKept.run_setObj_map _ hb, Result.andThen, setBlock]
  · rw [h2, Nat.zero_add] at hf
    have e1 : (es.eraseIdxIfInBounds j).toList = es.toList.eraseIdx j := by
      rw [Array.eraseIdxIfInBounds]
      split
      · simp
      · rename_i hge
        rw [List.eraseIdx_of_length_le (by simpa using hge)]
    refine ⟨.map (es.eraseIdxIfInBounds j) clock, ?_, ⟨_, _, setBlock_at hlt _, ?_, ?_, ?_, ?_⟩⟩
    · simp [Builtin.delete_, run_underlying ht, MapKept.run_getObj_map hb, hck, hf, MapKept.run_setObj_map _ hb, Result.andThen, setBlock]
    · rw [e1, h5, ChangeMaps.map_eraseIdx, hes, ChangeMaps.map_eraseIdx]
    · rw [h5, ChangeMaps.map_eraseIdx]
      exact hn.sublist (List.eraseIdx_sublist _ _)
    · rw [e1, ChangeMaps.map_eraseIdx]
      exact hnb.sublist (List.eraseIdx_sublist _ _)
    · intro e0 he0
      rw [e1] at he0
      exact hc e0 ((List.eraseIdx_sublist _ _).mem he0)
end

section
variable {κ ν : Type}
variable {P : Program} {w w' : World} {r b : Nat} {kv : κ → Value} {vv : ν → Value} {L left : List (κ × ν)} {t k e : TypeId}

/-- Block r goes through the map in block b, which is L; 'left' are those that are still to come. -/
def It (w : World) (r b : Nat) (kv : κ → Value) (vv : ν → Value) (L left : List (κ × ν)) : Prop :=
  ∃ es clock since c0 seen, w.heap[r]? = some (.mapIter (some b) since seen c0) ∧ w.heap[b]? = some (.map es clock) ∧ es.toList.map (fun e => (e.key, e.val)) = L.map (fun y => (kv y.1, vv y.2)) ∧ (L.map (·.1)).Nodup ∧
    (es.toList.map (·.born)).Nodup ∧ (∀ e ∈ es.toList, e.born < since) ∧ since ≤ c0 ∧ since ≤ clock ∧ (leftOf es seen).toList.map (fun e => (e.key, e.val)) = left.map (fun y => (kv y.1, vv y.2)) ∧ left.Sublist L

theorem It.tb (h : It w r b kv vv L left) : Tb w b kv vv L := by
  obtain ⟨es, clock, since, c0, seen, -, hb, hes, hn, hnb, hold, -, hsc, -, -⟩ := h
  exact ⟨es, clock, hb, hes, hn, hnb, fun e he => Nat.lt_of_lt_of_le (hold e he) hsc⟩
theorem It.lt (h : It w r b kv vv L left) : r < w.heap.size := by
  obtain ⟨_, _, _, _, _, hr, -⟩ := h
  exact (Array.getElem?_eq_some_iff.1 hr).1
theorem It.sub (h : It w r b kv vv L left) : left.Sublist L := by
  obtain ⟨_, _, _, _, _, _, _, _, _, _, _, _, _, _, hs⟩ := h
  exact hs
theorem It.same (h : It w r b kv vv L left) (h1 : w'.heap[r]? = w.heap[r]?) (h2 : w'.heap[b]? = w.heap[b]?) : It w' r b kv vv L left := by
  obtain ⟨es, clock, since, c0, seen, hr, hb, h3⟩ := h
  exact ⟨es, clock, since, c0, seen, h1.trans hr, h2.trans hb, h3⟩
theorem It.next_ (h : It w r b kv vv L left) (hb : Below w.heap.size w w') : It w' r b kv vv L left := h.same (hb.block r h.lt) (hb.block b h.tb.lt)
theorem It.grown {row : Option Nat} (h : It w r b kv vv L left) (hg : w.grownBy w' row) (h1 : some r ≠ row) (h2 : some b ≠ row) : It w' r b kv vv L left := h.same (hg.block r h.lt h1) (hg.block b h.tb.lt h2)
theorem It.alloc (h : It w r b kv vv L left) (o : Obj) : It (w.alloc o) r b kv vv L left := h.same (Below.heap_alloc w o r h.lt) (Below.heap_alloc w o b h.tb.lt)
theorem It.setCell (h : It w r b kv vv L left) {a : Addr} (h1 : r ≠ a.block) (h2 : b ≠ a.block) (u : Value) : It (w.setCell a u) r b kv vv L left := h.same (Below.heap_setCell w a u r h1) (Below.heap_setCell w a u b h2)

theorem Tb.range (h : Tb w b kv vv L) (ht : P.underlying t = some (.map k e)) : ∃ o, (Instr.range t (.map (some b))).run P w = .ok (.pointer (some ⟨w.heap.size, 0, none⟩)) (w.alloc o) ∧ It (w.alloc o) w.heap.size b kv vv L L := by
  have hlt := h.lt
  obtain ⟨es, clock, hb, hes, hn, hnb, hc⟩ := h
  refine ⟨_, run_range_map w t k e b es clock ht hb, es, clock, clock, clock, #[], heap_alloc_new w _, (Below.heap_alloc w _ b hlt).trans hb, hes, hn, hnb, hc, Nat.le_refl _, Nat.le_refl _, ?_, List.Sublist.refl _⟩
  rw [← hes]
  congr 1
  simp only [leftOf, Array.toList_filter]
  exact List.filter_eq_self.2 (fun a _ => by simp)

theorem filter_born {e0 : MapEntry} : ∀ (l : List MapEntry) (j : Nat), (l.map (·.born)).Nodup → l[j]? = some e0 → l.filter (fun a => a.born != e0.born) = l.eraseIdx j
  | [], _, _, h => by simp at h
  | a :: l, 0, hn, h => by
    simp only [List.getElem?_cons_zero, Option.some.injEq] at h
    subst h
    simp only [List.map_cons, List.nodup_cons] at hn
    have : l.filter (fun x => x.born != a.born) = l := by
      rw [List.filter_eq_self]
      intro x hx
      simp only [bne_iff_ne, ne_eq]
      exact fun q => hn.1 (q ▸ List.mem_map.2 ⟨x, hx, rfl⟩)
    simp [this]
  | a :: l, j + 1, hn, h => by
    simp only [List.getElem?_cons_succ] at h
    simp only [List.map_cons, List.nodup_cons] at hn
    have ih := filter_born l j hn.2 h
    have hne : (a.born != e0.born) = true := by
      simp only [bne_iff_ne, ne_eq]
      intro q
      obtain ⟨hj, he⟩ := List.getElem?_eq_some_iff.1 h
      exact hn.1 (q ▸ List.mem_map.2 ⟨e0, he ▸ List.getElem_mem hj, rfl⟩)
    simp [hne, ih]

/-- A step: nothing is left, or one of those that are comes. -/
theorem It.step (h : It w r b kv vv L left) (hrb : r ≠ b) (ty : TypeId) :
    (left = [] ∧ (Instr.next (.pointer (some ⟨r, 0, none⟩)) false ty).run P w = .ok (.tuple #[.bool false]) w) ∨
    ∃ j x n w', left[j]? = some (x, n) ∧ (Instr.next (.pointer (some ⟨r, 0, none⟩)) false ty).run P w = .ok (.tuple #[.bool true, kv x, vv n]) w' ∧ It w' r b kv vv L (left.eraseIdx j) ∧ w.grownBy w' (some r) ∧ w'.heap.size = w.heap.size ∧
      (Instr.entry (.pointer (some ⟨r, 0, none⟩))).run P w' = .ok (.tuple #[kv x, vv n]) w' := by
  have hlt := h.lt
  obtain ⟨es, clock, since, c0, seen, hr, hb, hes, hn, hnb, hold, hsc, hsk, hl, hsub⟩ := h
  rcases run_next_at (P := P) w ty r b since c0 seen es clock hr hb hold hsc with ⟨h0, hrun⟩ | ⟨e0, he0, w1, hw1, hrun⟩
  · left
    refine ⟨?_, hrun⟩
    have : (leftOf es seen).toList = [] := by simpa using Array.eq_empty_of_size_eq_zero h0
    rw [this] at hl
    simpa using hl.symm
  · right
    obtain ⟨j, hj, hje⟩ := List.mem_iff_getElem.1 he0
    have hjl : (leftOf es seen).toList[j]? = some e0 := by rw [List.getElem?_eq_getElem hj, hje]
    have hat := congrArg (fun l => l[j]?) hl
    simp only [List.getElem?_map, hjl, Option.map_some] at hat
    cases hlj : left[j]? with
    | none => rw [hlj] at hat; simp at hat
    | some y =>
      rw [hlj] at hat
      simp only [Option.map_some, Option.some.injEq, Prod.mk.injEq] at hat
      obtain ⟨x, n⟩ := y
      obtain ⟨hkx, hvn⟩ := hat
      simp only at hkx hvn
      have hw1h : w1.heap = w.heap := by rcases hw1 with rfl | rfl <;> rfl
      have hw1o : w1.os = w.os ∧ w1.tape = w.tape ∧ w1.output = w.output := by rcases hw1 with rfl | rfl <;> exact ⟨rfl, rfl, rfl⟩
      have hr2 : (setBlock w1 r (.mapIter (some b) since (seen.push e0.born) clock)).heap[r]? = some (.mapIter (some b) since (seen.push e0.born) clock) := by simp [setBlock, hw1h, hlt]
      have hb2 : (setBlock w1 r (.mapIter (some b) since (seen.push e0.born) clock)).heap[b]? = some (.map es clock) := by
        simp only [setBlock, hw1h]
        rw [Array.getElem?_setIfInBounds_ne hrb]
        exact hb
      have hmem : e0 ∈ es.toList := by
        unfold leftOf at he0
        simp at he0
        simpa using he0.1
      refine ⟨j, x, n, _, hlj, by rw [← hkx, ← hvn]; exact hrun, ⟨es, clock, since, clock, seen.push e0.born, hr2, hb2, hes, hn, hnb, hold, hsk, hsk, ?_, (List.eraseIdx_sublist _ _).trans hsub⟩, ⟨hw1o.1, hw1o.2.1, hw1o.2.2, by simp [setBlock, hw1h], fun i _ hi => ?_⟩, by simp [setBlock, hw1h], ?_⟩
      · have hnl : ((leftOf es seen).toList.map (·.born)).Nodup := by
          unfold leftOf
          rw [Array.toList_filter]
          exact hnb.sublist (List.Sublist.map _ List.filter_sublist)
        have e1 : (leftOf es (seen.push e0.born)).toList = (leftOf es seen).toList.eraseIdx j := by
          rw [← filter_born _ j hnl hjl]
          unfold leftOf
          rw [Array.toList_filter, Array.toList_filter, List.filter_filter]
          congr 1
          funext a
          simp only [Array.contains_push, Bool.not_or, bne]
          rw [Bool.and_comm]
        rw [e1, ChangeMaps.map_eraseIdx, hl, ChangeMaps.map_eraseIdx]
      · simp only [setBlock, hw1h]
        rw [Array.getElem?_setIfInBounds_ne (fun q => hi (by rw [q]))]
      · rw [← hkx, ← hvn]
        exact run_entry_at _ r b since seen es clock e0 hr2 hb2 hmem hnb
end

section
variable {κ ν : Type} [DecidableEq κ]
variable {P : Program} {w w' : World} {r b : Nat} {kv : κ → Value} {vv : ν → Value} {L left : List (κ × ν)} {t k e : TypeId} {ok : κ → Prop}

theorem delL_filter (x : κ) : ∀ L : List (κ × ν), (L.map (·.1)).Nodup → delL x L = L.filter (fun y => decide (¬ y.1 = x))
  | [], _ => rfl
  | y :: l, h => by
    simp only [List.map_cons, List.nodup_cons] at h
    unfold delL
    by_cases c : x = y.1
    · rw [if_pos c, List.filter_cons_of_neg (by simp [c])]
      symm
      rw [List.filter_eq_self]
      intro z hz
      simp only [decide_eq_true_eq]
      exact fun q => h.1 (c ▸ q ▸ List.mem_map.2 ⟨z, hz, rfl⟩)
    · rw [if_neg c, List.filter_cons_of_pos (by simp; exact fun q => c q.symm), delL_filter x l h.2]

/-- While one goes through a map, a key that isn't still to come is struck. -/
theorem It.del (h : It w r b kv vv L left) (K : KeyEq P k kv ok) (ht : P.underlying t = some (.map k e)) (hrb : r ≠ b) (x : κ) (hx : ok x) (hL : ∀ y ∈ L, ok y.1) (hno : x ∉ left.map (·.1)) (kt ty : TypeId) :
    ∃ o, (Builtin.delete_ #[t, kt] ty #[.map (some b), kv x]).run P w = .ok (.tuple #[]) (setBlock w b o) ∧ It (setBlock w b o) r b kv vv (delL x L) left := by
  obtain ⟨es, clock, since, c0, seen, hr, hb, hes, hn, hnb, hold, hsc, hsk, hl, hsub⟩ := h
  have hlt : b < w.heap.size := (Array.getElem?_eq_some_iff.1 hb).1
  obtain ⟨hk, hv⟩ := Tb.keys hes
  have hf := K.find x es.toList (L.map (·.1)) w hx (fun y hy => by obtain ⟨p, hp, rfl⟩ := List.mem_map.1 hy; exact hL p hp) hk
  rw [hv] at hf
  have hck := K.chk es.isEmpty x w hx
  have hr2 (o : Obj) : (setBlock w b o).heap[r]? = some (.mapIter (some b) since seen c0) := by
    simp only [setBlock]
    rw [Array.getElem?_setIfInBounds_ne (fun q => hrb q.symm)]
    exact hr
  have hsub2 : left.Sublist (delL x L) := by
    rw [delL_filter x L hn]
    have e1 : left = left.filter (fun y => decide (¬ y.1 = x)) := by
      symm
      rw [List.filter_eq_self]
      intro z hz
      simp only [decide_eq_true_eq]
      exact fun q => hno (q ▸ List.mem_map.2 ⟨z, hz, rfl⟩)
    rw [e1]
    exact hsub.filter _
  rcases findIn_spec vv x L 0 with ⟨h1, h2, -, h4, -⟩ | ⟨j, n0, h1, h2, h3, -, h5⟩
  · rw [h2] at hf
    refine ⟨.map es clock, ?_, ⟨es, clock, since, c0, seen, hr2 _, setBlock_at hlt _, by rw [h4]; exact hes, by rw [h4]; exact hn, hnb, hold, hsc, hsk, hl, hsub2⟩⟩
    simp [Builtin.delete_, run_underlying ht, MapKept.run_getObj_map hb, hck, hf, MapKept.run_setObj_map _ hb, Result.andThen, setBlock]
  · rw [h2, Nat.zero_add] at hf
    have e1 : (es.eraseIdxIfInBounds j).toList = es.toList.eraseIdx j := by
      rw [Array.eraseIdxIfInBounds]
      split
      · simp
      · rename_i hge
        rw [List.eraseIdx_of_length_le (by simpa using hge)]
    have hlen : es.size = L.length := by
      have := congrArg List.length hes
      simpa using this
    have hj : j < L.length := (List.getElem?_eq_some_iff.1 h3).1
    have hje : j < es.size := by omega
    have hjs : es.toList[j]? = some (es[j]'hje) := by rw [Array.getElem?_toList, Array.getElem?_eq_getElem hje]
    have hkey : (es[j]'hje).key = kv x := by
      have := congrArg (fun l => l[j]?) hes
      simp only [List.getElem?_map, h3, hjs, Option.map_some, Option.some.injEq, Prod.mk.injEq] at this
      exact this.1
    have hout : (!seen.contains (es[j]'hje).born) = false := by
      cases hc : (!seen.contains (es[j]'hje).born) with
      | false => rfl
      | true =>
        have hm : (es[j]'hje) ∈ (leftOf es seen).toList := by
          unfold leftOf
          rw [Array.toList_filter, List.mem_filter]
          exact ⟨List.mem_of_getElem? hjs, hc⟩
        have hm2 : ((es[j]'hje).key, (es[j]'hje).val) ∈ left.map (fun y => (kv y.1, vv y.2)) := hl ▸ List.mem_map.2 ⟨_, hm, rfl⟩
        obtain ⟨y, hy, he⟩ := List.mem_map.1 hm2
        simp only [Prod.mk.injEq] at he
        have : y.1 = x := K.inj _ _ (hL y (hsub.mem hy)) hx (by rw [he.1, hkey])
        exact absurd (List.mem_map.2 ⟨y, hy, this⟩) hno
    have e2 : (leftOf (es.eraseIdxIfInBounds j) seen).toList = (leftOf es seen).toList := by
      unfold leftOf
      rw [Array.toList_filter, Array.toList_filter, e1, ← filter_born _ j hnb hjs, List.filter_filter]
      apply List.filter_congr
      intro a ha
      by_cases q : a.born = (es[j]'hje).born
      · rw [q, hout]; rfl
      · have : (a.born != (es[j]'hje).born) = true := by simpa using q
        rw [this, Bool.and_true]
    refine ⟨.map (es.eraseIdxIfInBounds j) clock, ?_, ⟨_, _, since, c0, seen, hr2 _, setBlock_at hlt _, ?_, ?_, ?_, ?_, hsc, hsk, by rw [e2]; exact hl, hsub2⟩⟩
    · simp [Builtin.delete_, run_underlying ht, MapKept.run_getObj_map hb, hck, hf, MapKept.run_setObj_map _ hb, Result.andThen, setBlock]
    · rw [e1, h5, ChangeMaps.map_eraseIdx, hes, ChangeMaps.map_eraseIdx]
    · rw [h5, ChangeMaps.map_eraseIdx]
      exact hn.sublist (List.eraseIdx_sublist _ _)
    · rw [e1, ChangeMaps.map_eraseIdx]
      exact hnb.sublist (List.eraseIdx_sublist _ _)
    · intro e0 he0
      rw [e1] at he0
      exact hold e0 ((List.eraseIdx_sublist _ _).mem he0)
end
end
section
/- Lists whose elements have keys that are numbers; no program in sight. -/
section
variable {α : Type} (key : α → Nat)

/-- The place of the first one that has a key, or -1. -/
def atK (v : Nat) : List α → Int
  | [] => -1
  | x :: l => if key x = v then 0 else if atK v l < 0 then -1 else atK v l + 1
theorem atK_none (v : Nat) : ∀ l : List α, (∀ x ∈ l, key x ≠ v) → atK key v l = -1
  | [], _ => rfl
  | y :: l, h => by
    have h0 := h y List.mem_cons_self
    have ih := atK_none v l (fun x hx => h x (List.mem_cons_of_mem _ hx))
    simp [atK, h0, ih]
theorem atK_some (v : Nat) : ∀ (l : List α) (k : Nat) (x : α), l[k]? = some x → key x = v → (∀ (j : Nat) (y : α), j < k → l[j]? = some y → key y ≠ v) → atK key v l = k
  | [], k, x, h, _, _ => by simp at h
  | y :: l, 0, x, h, hx, _ => by
    simp only [List.getElem?_cons_zero, Option.some.injEq] at h
    subst h
    simp [atK, hx]
  | y :: l, k + 1, x, h, hx, hb => by
    have h0 := hb 0 y (by omega) rfl
    have ih := atK_some v l k x (by simpa using h) hx (fun i z hi hz => hb (i + 1) z (by omega) (by simpa using hz))
    have : ¬ ((k : Int) < 0) := by omega
    simp [atK, h0, ih, this]
/-- What it says: there is one, or there is none. -/
theorem atK_cases (v : Nat) : ∀ l : List α, (atK key v l = -1 ∧ ∀ y ∈ l, key y ≠ v) ∨ ∃ (k : Nat) (x : α), atK key v l = k ∧ l[k]? = some x ∧ key x = v
  | [] => .inl ⟨rfl, by simp⟩
  | y :: l => by
    unfold atK
    by_cases c : key y = v
    · rw [if_pos c]; exact .inr ⟨0, y, rfl, rfl, c⟩
    · rw [if_neg c]
      rcases atK_cases v l with ⟨h, h2⟩ | ⟨k, x, h, h2, h3⟩
      · rw [h]
        refine .inl ⟨by simp, ?_⟩
        intro z hz
        rcases List.mem_cons.1 hz with rfl | hz
        · exact c
        · exact h2 z hz
      · rw [h, if_neg (by omega)]
        exact .inr ⟨k + 1, x, by omega, by simpa using h2, h3⟩

/-- How many stand ahead of a key. -/
def posK (v : Nat) : List α → Nat
  | [] => 0
  | y :: l => if key y < v then posK v l + 1 else 0
theorem posK_spec (v : Nat) : ∀ l : List α, posK key v l ≤ l.length ∧ (∀ (j : Nat) (y : α), j < posK key v l → l[j]? = some y → key y < v) ∧ (∀ y, l[posK key v l]? = some y → ¬ key y < v)
  | [] => ⟨by simp [posK], fun j y hj => by simp [posK] at hj, fun y hy => by simp at hy⟩
  | z :: l => by
    obtain ⟨h1, h2, h3⟩ := posK_spec v l
    by_cases c : key z < v
    · have e : posK key v (z :: l) = posK key v l + 1 := by simp [posK, c]
      rw [e]
      refine ⟨by simp only [List.length_cons]; omega, fun j y hj hy => ?_, fun y hy => h3 y (by simpa using hy)⟩
      cases j with
      | zero =>
        simp only [List.getElem?_cons_zero, Option.some.injEq] at hy
        subst hy
        exact c
      | succ j => exact h2 j y (by omega) (by simpa using hy)
    · have e : posK key v (z :: l) = 0 := by simp [posK, c]
      rw [e]
      refine ⟨by omega, fun j y hj => absurd hj (Nat.not_lt_zero _), fun y hy => ?_⟩
      simp only [List.getElem?_cons_zero, Option.some.injEq] at hy
      subst hy
      exact c
/-- One laid in at its place; one taken out. -/
def layK (l : List α) (x : α) : List α := l.take (posK key (key x) l) ++ [x] ++ l.drop (posK key (key x) l)
def cutK (v : Nat) (l : List α) : List α := if atK key v l < 0 then l else l.eraseIdx (atK key v l).toNat
theorem layK_len (l : List α) (x : α) : (layK key l x).length = l.length + 1 := by
  have := (posK_spec key (key x) l).1
  unfold layK
  simp
  omega
theorem cutK_len (v : Nat) (l : List α) : (cutK key v l).length ≤ l.length := by
  unfold cutK
  split
  · exact Nat.le_refl _
  · exact List.length_eraseIdx_le _ _
theorem cutK_none {v : Nat} {l : List α} (h : ∀ y ∈ l, key y ≠ v) : cutK key v l = l := by
  unfold cutK
  rw [atK_none key v l h, if_pos (by omega)]
end

/-- A VLAN's number and an address as one key. -/
def keyN (vid mac : Nat) : Nat := vid * 281474976710656 + mac
theorem keyN_lt {v a w b : Nat} (ha : a < 281474976710656) (hb : b < 281474976710656) : keyN v a < keyN w b ↔ v < w ∨ v = w ∧ a < b := by unfold keyN; omega
theorem keyN_eq {v a w b : Nat} (ha : a < 281474976710656) (hb : b < 281474976710656) : keyN v a = keyN w b ↔ v = w ∧ a = b := by unfold keyN; omega
end
section
/- A map's content, and a list that stands in the order of its keys. -/

theorem getL_mem {κ ν : Type} [DecidableEq κ] (x : κ) : ∀ (L : List (κ × ν)), (L.map (·.1)).Nodup → ∀ n, getL x L = some n ↔ (x, n) ∈ L
  | [], _, n => by simp [getL]
  | y :: l, h, n => by
    simp only [List.map_cons, List.nodup_cons] at h
    unfold getL
    by_cases c : x = y.1
    · rw [if_pos c]
      constructor
      · intro e
        simp only [Option.some.injEq] at e
        rw [c, ← e]
        exact List.mem_cons_self
      · intro e
        rcases List.mem_cons.1 e with e | e
        · rw [← e]
        · exact absurd (List.mem_map.2 ⟨_, e, rfl⟩) (c ▸ h.1)
    · rw [if_neg c, getL_mem x l h.2 n]
      constructor
      · exact List.mem_cons_of_mem _
      · intro e
        rcases List.mem_cons.1 e with e | e
        · exact absurd (by rw [← e]) c
        · exact e
theorem putL_perm {κ ν : Type} [DecidableEq κ] (x : κ) (n : ν) : ∀ (L : List (κ × ν)), (L.map (·.1)).Nodup → (putL x n L).Perm ((x, n) :: L.filter (fun y => decide (¬ y.1 = x)))
  | [], _ => by simp [putL]
  | y :: l, h => by
    simp only [List.map_cons, List.nodup_cons] at h
    unfold putL
    by_cases c : x = y.1
    · rw [if_pos c, List.filter_cons_of_neg (by simp [c])]
      refine List.Perm.cons _ (.of_eq ?_)
      symm
      rw [List.filter_eq_self]
      intro z hz
      have : z.1 ≠ y.1 := fun e => h.1 (e ▸ List.mem_map.2 ⟨_, hz, rfl⟩)
      simp [c, this]
    · rw [if_neg c, List.filter_cons_of_pos (by simp [Ne.symm c])]
      exact (List.Perm.cons _ (putL_perm x n l h.2)).trans (List.Perm.swap _ _ _)

section
variable {α : Type} (key : α → Nat)
/-- They are the same; the list is in order. -/
def RelK (L : List (Nat × α)) (l : List α) : Prop := l.Pairwise (fun a b => key a < key b) ∧ L.Perm (l.map fun x => (key x, x))
variable {key}
theorem RelK.nil : RelK key [] [] := ⟨List.Pairwise.nil, List.Perm.refl _⟩
variable {L : List (Nat × α)} {l : List α}
theorem RelK.len (h : RelK key L l) : L.length = l.length := by simpa using h.2.length_eq
theorem pairK_inj (h : l.Pairwise (fun a b => key a < key b)) {i j : Nat} {x y : α} (hi : l[i]? = some x) (hj : l[j]? = some y) (e : key x = key y) : i = j := by
  obtain ⟨h1, rfl⟩ := List.getElem?_eq_some_iff.1 hi
  obtain ⟨h2, rfl⟩ := List.getElem?_eq_some_iff.1 hj
  rw [List.pairwise_iff_getElem] at h
  rcases Nat.lt_trichotomy i j with c | c | c
  · have := h i j h1 h2 c; omega
  · exact c
  · have := h j i h2 h1 c; omega
theorem keysK_nodup (h : l.Pairwise (fun a b => key a < key b)) : (l.map key).Nodup := by
  unfold List.Nodup
  rw [List.pairwise_map]
  exact h.imp (fun h => Nat.ne_of_lt h)
theorem RelK.nodup (h : RelK key L l) : (L.map (·.1)).Nodup := by
  have := (h.2.map (·.1)).nodup_iff.2 (by simpa [Function.comp_def] using keysK_nodup h.1)
  exact this
/-- What is found. -/
theorem RelK.get (h : RelK key L l) (v : Nat) :
    (atK key v l = -1 ∧ getL v L = none) ∨ ∃ (k : Nat) (x : α), atK key v l = k ∧ l[k]? = some x ∧ key x = v ∧ getL v L = some x := by
  rcases atK_cases key v l with ⟨h1, h2⟩ | ⟨k, x, h1, h2, h3⟩
  · refine .inl ⟨h1, ?_⟩
    cases hg : getL v L with
    | none => rfl
    | some n =>
      have := h.2.mem_iff.1 ((getL_mem v L h.nodup n).1 hg)
      obtain ⟨y, hy, e⟩ := List.mem_map.1 this
      simp only [Prod.mk.injEq] at e
      exact absurd e.1 (h2 y hy)
  · exact .inr ⟨k, x, h1, h2, h3, (getL_mem v L h.nodup x).2 (h.2.mem_iff.2 (List.mem_map.2 ⟨x, List.mem_of_getElem? h2, by rw [h3]⟩))⟩
theorem eraseK_filter (h : l.Pairwise (fun a b => key a < key b)) {k : Nat} {x : α} (hk : l[k]? = some x) : l.eraseIdx k = l.filter (fun y => decide (¬ key y = key x)) := by
  obtain ⟨h1, rfl⟩ := List.getElem?_eq_some_iff.1 hk
  have e : l = l.take k ++ l[k] :: l.drop (k + 1) := by rw [List.getElem_cons_drop, List.take_append_drop]
  have hne : ∀ y ∈ l.take k ++ l.drop (k + 1), key y ≠ key l[k] := by
    intro y hy
    rw [e, List.pairwise_append, List.pairwise_cons] at h
    rcases List.mem_append.1 hy with hy | hy
    · exact Nat.ne_of_lt (h.2.2 y hy _ List.mem_cons_self)
    · exact Nat.ne_of_gt (h.2.1.1 y hy)
  rw [List.eraseIdx_eq_take_drop_succ]
  have : l.filter (fun y => decide (¬ key y = key l[k])) = (l.take k ++ l[k] :: l.drop (k + 1)).filter (fun y => decide (¬ key y = key l[k])) := by rw [← e]
  rw [this, List.filter_append, List.filter_cons_of_neg (by simp), ← List.filter_append, List.filter_eq_self.2]
  intro y hy
  simpa using hne y hy
theorem filterK_pairs (l : List α) (v : Nat) : (l.map fun x => (key x, x)).filter (fun y => decide (¬ y.1 = v)) = (l.filter (fun y => decide (¬ key y = v))).map fun x => (key x, x) := by
  rw [List.filter_map]; rfl
theorem cutK_filter (h : l.Pairwise (fun a b => key a < key b)) (v : Nat) : cutK key v l = l.filter (fun y => decide (¬ key y = v)) := by
  unfold cutK
  rcases atK_cases key v l with ⟨h1, h2⟩ | ⟨k, x, h1, h2, h3⟩
  · rw [h1, if_pos (by omega)]
    symm
    rw [List.filter_eq_self]
    intro y hy
    simpa using h2 y hy
  · rw [h1, if_neg (by omega), Int.toNat_natCast, eraseK_filter h h2, h3]
/-- Without one. -/
theorem RelK.drop (h : RelK key L l) (v : Nat) : RelK key (delL v L) (cutK key v l) := by
  rw [cutK_filter h.1]
  refine ⟨h.1.filter _, ?_⟩
  rw [delL_filter v L h.nodup, ← filterK_pairs]
  exact h.2.filter _
/-- One laid in among others that have other keys. -/
theorem layK_sorted (hs : l.Pairwise (fun a b => key a < key b)) (x : α) (hn : ∀ y ∈ l, key y ≠ key x) : (layK key l x).Pairwise (fun a b => key a < key b) ∧ (layK key l x).Perm (x :: l) := by
  unfold layK
  obtain ⟨p1, p2, p3⟩ := posK_spec key (key x) l
  generalize posK key (key x) l = k at p1 p2 p3
  constructor
  · rw [List.append_assoc, List.pairwise_append]
    refine ⟨hs.sublist (List.take_sublist _ _), ?_, ?_⟩
    · simp only [List.cons_append, List.nil_append, List.pairwise_cons]
      refine ⟨?_, hs.sublist (List.drop_sublist _ _)⟩
      intro y hy
      obtain ⟨i, hi, rfl⟩ := List.mem_iff_getElem.1 hy
      rw [List.length_drop] at hi
      rw [List.getElem_drop]
      have hk : k < l.length := by omega
      have q := p3 l[k] (List.getElem?_eq_getElem hk)
      have n := hn l[k] (List.getElem_mem hk)
      rcases Nat.eq_zero_or_pos i with rfl | hp
      · simp only [Nat.add_zero]; omega
      · have := List.pairwise_iff_getElem.1 hs k (k + i) hk (by omega) (by omega)
        omega
    · intro a ha b hb
      obtain ⟨i, hi, rfl⟩ := List.mem_iff_getElem.1 ha
      rw [List.length_take] at hi
      have ai := p2 i ((l.take k)[i]'(by rw [List.length_take]; exact hi)) (by omega) (by rw [List.getElem_take]; exact List.getElem?_eq_getElem (by omega))
      simp only [List.cons_append, List.nil_append, List.mem_cons] at hb
      rcases hb with rfl | hb
      · exact ai
      · obtain ⟨m, hm, rfl⟩ := List.mem_iff_getElem.1 hb
        rw [List.length_drop] at hm
        rw [List.getElem_drop, List.getElem_take]
        exact List.pairwise_iff_getElem.1 hs i (k + m) (by omega) (by omega) (by omega)
  · rw [List.append_assoc]
    simp only [List.cons_append, List.nil_append]
    refine List.perm_middle.trans (List.Perm.cons _ (.of_eq (List.take_append_drop _ _)))
/-- One in the place of another one with its key. -/
theorem setK_sorted (hs : l.Pairwise (fun a b => key a < key b)) {k : Nat} {z x : α} (hk : l[k]? = some z) (e : key z = key x) : (l.set k x).Pairwise (fun a b => key a < key b) ∧ (l.set k x).Perm (x :: l.filter (fun y => decide (¬ key y = key x))) := by
  have hlt := (List.getElem?_eq_some_iff.1 hk).1
  constructor
  · rw [List.pairwise_iff_getElem]
    intro i j hi hj hij
    rw [List.length_set] at hi hj
    have := List.pairwise_iff_getElem.1 hs i j hi hj hij
    have hz : l[k] = z := (List.getElem?_eq_some_iff.1 hk).2
    rw [List.getElem_set, List.getElem_set]
    split <;> split <;> subst_vars <;> simp_all <;> omega
  · rw [← e, ← eraseK_filter hs hk, List.set_eq_take_append_cons_drop, if_pos hlt, List.eraseIdx_eq_take_drop_succ]
    exact List.perm_middle
theorem RelK.put_of (h : RelK key L l) (x : α) {l' : List α} (h1 : l'.Pairwise (fun a b => key a < key b)) (h2 : l'.Perm (x :: l.filter (fun y => decide (¬ key y = key x)))) : RelK key (putL (key x) x L) l' := by
  refine ⟨h1, ?_⟩
  refine (putL_perm (key x) x L h.nodup).trans ?_
  refine ((h.2.filter _).cons _).trans ?_
  rw [filterK_pairs]
  exact (h2.map (fun x => (key x, x))).symm
/-- With a new one. -/
theorem RelK.lay (h : RelK key L l) (x : α) (hn : ∀ y ∈ l, key y ≠ key x) : RelK key (putL (key x) x L) (layK key l x) := by
  have q := layK_sorted h.1 x hn
  refine h.put_of x q.1 ?_
  rw [List.filter_eq_self.2 (fun y hy => by simpa using hn y hy)]
  exact q.2
/-- With one in the place of another one. -/
theorem RelK.set (h : RelK key L l) (x : α) {k : Nat} {z : α} (hk : l[k]? = some z) (e : key z = key x) : RelK key (putL (key x) x L) (l.set k x) := by
  have q := setK_sorted h.1 hk e
  exact h.put_of x q.1 q.2
/-- Any arrangement of what the map has that is in order is the list. -/
theorem RelK.sorted (h : RelK key L l) {l' : List α} (hp : l'.Perm (L.map (·.2))) (hs : l'.Pairwise (fun a b => key a ≤ key b)) : l' = l := by
  have hq : l'.Perm l := hp.trans (by simpa [Function.comp_def] using h.2.map (·.2))
  have hl : l.Pairwise (fun a b => key a ≤ key b) := h.1.imp Nat.le_of_lt
  refine List.Perm.eq_of_pairwise ?_ hs hl hq
  intro a b ha hb h1 h2
  have e : key a = key b := Nat.le_antisymm h1 h2
  obtain ⟨i, hi, rfl⟩ := List.mem_iff_getElem.1 (hq.mem_iff.1 ha)
  obtain ⟨j, hj, rfl⟩ := List.mem_iff_getElem.1 hb
  have := pairK_inj h.1 (List.getElem?_eq_getElem hi) (List.getElem?_eq_getElem hj) e
  subst this
  rfl
/-- What is in the map is in the list. -/
theorem RelK.mem (h : RelK key L l) {y : Nat × α} (hy : y ∈ L) : y.1 = key y.2 ∧ y.2 ∈ l := by
  obtain ⟨x, hx, rfl⟩ := List.mem_map.1 (h.2.mem_iff.1 hy)
  exact ⟨rfl, hx⟩
end
theorem It.left_eq {κ ν : Type} {w : World} {r b : Nat} {kv : κ → Value} {vv : ν → Value} {L left : List (κ × ν)} (h : It w r b kv vv L left) : w.rangeLeft b r = left.length := by
  obtain ⟨es, clock, since, c0, seen, hr, hb, -, -, -, -, -, -, hl, -⟩ := h
  simp only [World.rangeLeft, hb, hr]
  have := congrArg List.length hl
  simpa using this
theorem perm_left {α : Type} {L left : List (Nat × α)} {pre : List α} {j : Nat} {x : Nat} {n : α} (h : (pre ++ left.map (·.2)).Perm (L.map (·.2))) (hj : left[j]? = some (x, n)) : (pre ++ [n] ++ (left.eraseIdx j).map (·.2)).Perm (L.map (·.2)) := by
  refine List.Perm.trans ?_ h
  rw [List.append_assoc]
  refine List.Perm.append_left pre ?_
  obtain ⟨hlt, e⟩ := List.getElem?_eq_some_iff.1 hj
  have : left = left.take j ++ (x, n) :: left.drop (j + 1) := by rw [← e, List.getElem_cons_drop, List.take_append_drop]
  rw [List.eraseIdx_eq_take_drop_succ]
  have e2 : left.map (·.2) = (left.take j ++ (x, n) :: left.drop (j + 1)).map (·.2) := by rw [← this]
  rw [e2]
  simp only [List.map_append, List.map_cons, List.cons_append, List.nil_append]
  exact List.perm_middle.symm
end
section
/- A map's content of VLANs, and the document's list of them, that stands by their numbers. -/

/-- They are the same VLANs; the list is in order. -/
def Rel (L : List (Nat × Vl)) (l : List Vl) : Prop := l.Pairwise (fun a b => a.vid < b.vid) ∧ L.Perm (l.map fun x => (x.vid, x))

theorem Rel.nil : Rel [] [] := ⟨List.Pairwise.nil, List.Perm.refl _⟩
theorem Rel.len {L : List (Nat × Vl)} {l : List Vl} (h : Rel L l) : L.length = l.length := by simpa using h.2.length_eq

theorem Pairwise.inj {l : List Vl} (h : l.Pairwise (fun a b => a.vid < b.vid)) {i j : Nat} {x y : Vl} (hi : l[i]? = some x) (hj : l[j]? = some y) (e : x.vid = y.vid) : i = j := by
  obtain ⟨h1, rfl⟩ := List.getElem?_eq_some_iff.1 hi
  obtain ⟨h2, rfl⟩ := List.getElem?_eq_some_iff.1 hj
  rw [List.pairwise_iff_getElem] at h
  rcases Nat.lt_trichotomy i j with c | c | c
  · have := h i j h1 h2 c; omega
  · exact c
  · have := h j i h2 h1 c; omega

theorem keys_nodup {l : List Vl} (h : l.Pairwise (fun a b => a.vid < b.vid)) : (l.map (·.vid)).Nodup := by
  unfold List.Nodup
  rw [List.pairwise_map]
  exact h.imp (fun h => Nat.ne_of_lt h)

theorem Rel.nodup {L : List (Nat × Vl)} {l : List Vl} (h : Rel L l) : (L.map (·.1)).Nodup := by
  have := (h.2.map (·.1)).nodup_iff.2 (by simpa [Function.comp_def] using keys_nodup h.1)
  exact this

/-- What At says: there is one, or there is none. -/
theorem atV_cases (vid : Nat) : ∀ l : List Vl, (atV vid l = -1 ∧ ∀ y ∈ l, y.vid ≠ vid) ∨ ∃ (k : Nat) (x : Vl), atV vid l = k ∧ l[k]? = some x ∧ x.vid = vid
  | [] => .inl ⟨rfl, by simp⟩
  | y :: l => by
    unfold atV
    by_cases c : y.vid = vid
    · rw [if_pos c]; exact .inr ⟨0, y, rfl, rfl, c⟩
    · rw [if_neg c]
      rcases atV_cases vid l with ⟨h, h2⟩ | ⟨k, x, h, h2, h3⟩
      · rw [h]
        refine .inl ⟨by simp, ?_⟩
        intro z hz
        rcases List.mem_cons.1 hz with rfl | hz
        · exact c
        · exact h2 z hz
      · rw [h, if_neg (by omega)]
        exact .inr ⟨k + 1, x, by omega, by simpa using h2, h3⟩

/-- What is found. -/
theorem Rel.get {L : List (Nat × Vl)} {l : List Vl} (h : Rel L l) (vid : Nat) :
    (atV vid l = -1 ∧ getL vid L = none) ∨ ∃ (k : Nat) (x : Vl), atV vid l = k ∧ l[k]? = some x ∧ x.vid = vid ∧ getL vid L = some x := by
  rcases atV_cases vid l with ⟨h1, h2⟩ | ⟨k, x, h1, h2, h3⟩
  · refine .inl ⟨h1, ?_⟩
    cases hg : getL vid L with
    | none => rfl
    | some n =>
      have := h.2.mem_iff.1 ((getL_mem vid L h.nodup n).1 hg)
      obtain ⟨y, hy, e⟩ := List.mem_map.1 this
      simp only [Prod.mk.injEq] at e
      exact absurd e.1 (h2 y hy)
  · refine .inr ⟨k, x, h1, h2, h3, (getL_mem vid L h.nodup x).2 (h.2.mem_iff.2 (List.mem_map.2 ⟨x, List.mem_of_getElem? h2, by rw [h3]⟩))⟩

theorem erase_filter {l : List Vl} (h : l.Pairwise (fun a b => a.vid < b.vid)) {k : Nat} {x : Vl} (hk : l[k]? = some x) : l.eraseIdx k = l.filter (fun y => decide (¬ y.vid = x.vid)) := by
  obtain ⟨h1, rfl⟩ := List.getElem?_eq_some_iff.1 hk
  have e : l = l.take k ++ l[k] :: l.drop (k + 1) := by rw [List.getElem_cons_drop, List.take_append_drop]
  have hne : ∀ y ∈ l.take k ++ l.drop (k + 1), y.vid ≠ l[k].vid := by
    intro y hy
    rw [e, List.pairwise_append, List.pairwise_cons] at h
    rcases List.mem_append.1 hy with hy | hy
    · exact Nat.ne_of_lt (h.2.2 y hy _ List.mem_cons_self)
    · exact Nat.ne_of_gt (h.2.1.1 y hy)
  rw [List.eraseIdx_eq_take_drop_succ]
  have : l.filter (fun y => decide (¬ y.vid = l[k].vid)) = (l.take k ++ l[k] :: l.drop (k + 1)).filter (fun y => decide (¬ y.vid = l[k].vid)) := by rw [← e]
  rw [this, List.filter_append, List.filter_cons_of_neg (by simp), ← List.filter_append, List.filter_eq_self.2]
  intro y hy
  simpa using hne y hy

theorem filter_pairs (l : List Vl) (vid : Nat) : (l.map fun x => (x.vid, x)).filter (fun y => decide (¬ y.1 = vid)) = (l.filter (fun y => decide (¬ y.vid = vid))).map fun x => (x.vid, x) := by
  rw [List.filter_map]; rfl

/-- Without one. -/
theorem Rel.drop {L : List (Nat × Vl)} {l : List Vl} (h : Rel L l) (vid : Nat) : Rel (delL vid L) (dropV l vid) := by
  have e : dropV l vid = l.filter (fun y => decide (¬ y.vid = vid)) := by
    unfold dropV
    rcases atV_cases vid l with ⟨h1, h2⟩ | ⟨k, x, h1, h2, h3⟩
    · rw [h1, if_pos (by omega)]
      symm
      rw [List.filter_eq_self]
      intro y hy
      simpa using h2 y hy
    · rw [h1, if_neg (by omega), Int.toNat_natCast, erase_filter h.1 h2, h3]
  rw [e]
  refine ⟨h.1.filter _, ?_⟩
  rw [delL_filter vid L h.nodup, ← filter_pairs]
  exact h.2.filter _

/-- With one that may be. -/
theorem Rel.put {L : List (Nat × Vl)} {l : List Vl} (h : Rel L l) (x : Vl) (hg : goodV x = 0) (hr : 0 ≤ atV x.vid l ∨ l.length < 16) : Rel (putL x.vid x L) (setV l x) := by
  have key : (setV l x).Pairwise (fun a b => a.vid < b.vid) ∧ (setV l x).Perm (x :: l.filter (fun y => decide (¬ y.vid = x.vid))) := by
    unfold setV
    rw [if_neg (by simp [hg])]
    rcases atV_cases x.vid l with ⟨h1, h2⟩ | ⟨k, z, h1, h2, h3⟩
    · rw [h1, if_neg (by omega), if_neg (by omega)]
      have hf : l.filter (fun y => decide (¬ y.vid = x.vid)) = l := by
        rw [List.filter_eq_self]
        intro y hy
        simpa using h2 y hy
      rw [hf]
      obtain ⟨p1, p2, p3⟩ := posV_spec x.vid l
      generalize posV x.vid l = k at p1 p2 p3
      constructor
      · have hs := h.1
        rw [List.append_assoc, List.pairwise_append]
        refine ⟨hs.sublist (List.take_sublist _ _), ?_, ?_⟩
        · simp only [List.cons_append, List.nil_append, List.pairwise_cons]
          refine ⟨?_, hs.sublist (List.drop_sublist _ _)⟩
          intro y hy
          obtain ⟨i, hi, rfl⟩ := List.mem_iff_getElem.1 hy
          rw [List.length_drop] at hi
          rw [List.getElem_drop]
          have hk : k < l.length := by omega
          have q := p3 l[k] (List.getElem?_eq_getElem hk)
          have n := h2 l[k] (List.getElem_mem hk)
          rcases Nat.eq_zero_or_pos i with rfl | hp
          · simp only [Nat.add_zero]; omega
          · have := List.pairwise_iff_getElem.1 hs k (k + i) hk (by omega) (by omega)
            omega
        · intro a ha b hb
          obtain ⟨i, hi, rfl⟩ := List.mem_iff_getElem.1 ha
          rw [List.length_take] at hi
          have ai := p2 i ((l.take k)[i]'(by rw [List.length_take]; exact hi)) (by omega) (by rw [List.getElem_take]; exact List.getElem?_eq_getElem (by omega))
          simp only [List.cons_append, List.nil_append, List.mem_cons] at hb
          rcases hb with rfl | hb
          · exact ai
          · obtain ⟨m, hm, rfl⟩ := List.mem_iff_getElem.1 hb
            rw [List.length_drop] at hm
            rw [List.getElem_drop, List.getElem_take]
            exact List.pairwise_iff_getElem.1 hs i (k + m) (by omega) (by omega) (by omega)
      · rw [List.append_assoc]
        simp only [List.cons_append, List.nil_append]
        refine List.perm_middle.trans (List.Perm.cons _ (.of_eq (List.take_append_drop _ _)))
    · rw [h1, if_pos (by omega), Int.toNat_natCast]
      have hk := (List.getElem?_eq_some_iff.1 h2).1
      constructor
      · rw [List.pairwise_iff_getElem]
        intro i j hi hj hij
        rw [List.length_set] at hi hj
        have := List.pairwise_iff_getElem.1 h.1 i j hi hj hij
        have hz : l[k] = z := (List.getElem?_eq_some_iff.1 h2).2
        rw [List.getElem_set, List.getElem_set]
        split <;> split <;> subst_vars <;> simp_all <;> omega
      · rw [← h3, ← erase_filter h.1 h2, List.set_eq_take_append_cons_drop, if_pos hk, List.eraseIdx_eq_take_drop_succ]
        exact List.perm_middle
  refine ⟨key.1, ?_⟩
  refine (putL_perm x.vid x L h.nodup).trans ?_
  refine ((h.2.filter _).cons _).trans ?_
  rw [filter_pairs]
  exact (key.2.map (fun x => (x.vid, x))).symm

/-- Any arrangement of the map's VLANs that is in order is the list. -/
theorem Rel.sorted {L : List (Nat × Vl)} {l l' : List Vl} (h : Rel L l) (hp : l'.Perm (L.map (·.2))) (hs : l'.Pairwise (fun a b => a.vid ≤ b.vid)) : l' = l := by
  have hq : l'.Perm l := hp.trans (by simpa [Function.comp_def] using h.2.map (·.2))
  have hn : (l'.map (·.vid)).Nodup := (hq.map (·.vid)).nodup_iff.2 (keys_nodup h.1)
  have hl : l.Pairwise (fun a b => a.vid ≤ b.vid) := h.1.imp Nat.le_of_lt
  refine List.Perm.eq_of_pairwise ?_ hs hl hq
  intro a b ha hb h1 h2
  have e : a.vid = b.vid := Nat.le_antisymm h1 h2
  obtain ⟨i, hi, rfl⟩ := List.mem_iff_getElem.1 (hq.mem_iff.1 ha)
  obtain ⟨j, hj, rfl⟩ := List.mem_iff_getElem.1 hb
  have := Pairwise.inj h.1 (List.getElem?_eq_getElem hi) (List.getElem?_eq_getElem hj) e
  subst this
  rfl
end
section
/- Is a port in a set: the law's own question. -/
open Go.RowKit

/-- Is a port in a set? -/
def hasB (s : Nat) (p : Int) : Bool := decide (1 ≤ p) && decide (p ≤ 16) && decide (s / 2 ^ (p - 1).toNat % 2 = 1)
theorem hasB_low {s : Nat} {p : Int} (h : p < 1) : hasB s p = false := by
  unfold hasB
  rw [decide_eq_false (by omega)]
  rfl
theorem hasB_high {s : Nat} {p : Int} (h : 16 < p) : hasB s p = false := by
  unfold hasB
  rw [decide_eq_false (show ¬ p ≤ 16 by omega), Bool.and_false, Bool.false_and]
theorem hasB_at (s k : Nat) (h : k < 16) : hasB s ((k : Int) + 1) = decide (s / 2 ^ k % 2 = 1) := by
  unfold hasB
  rw [decide_eq_true (by omega), decide_eq_true (by omega), show ((k : Int) + 1 - 1).toNat = k by omega]
  rfl

theorem ret_b7 {a b : Bool} (h : a = b) : Ending.returned (.bool a) = .returned (.bool b) := by rw [h]
end
section
/- A range over a function, for a walk without a fence; with no program in sight. -/
open Go.RowKit Go.Shelf

theorem calls_marks {P : Program} {f : FuncId} {fn : Func} {c : Code} {args : Array Value} {w : World} {R : Ending → World → Prop} (hf : P.funcs[f]? = some fn) (hb : fn.body = some c)
    (h : c.wp P (bodyPostM Fence.wide 3 P fn R) { tmps := args ++ Array.replicate (fn.ntmps - args.size) undef, defers := [] } w) : Calls P f args w R :=
  callsIn_wide.1 (callsIn_of_wp_marks (F := Fence.wide) (n := 3) hf hb trivial (wpIn_wide.2 h) rfl)

/-- What a block of cells holds is kept. -/
def KeepsAt (b : Nat) (W W' : World) : Prop := ∀ o, W.heap[b]? = some o → o.isCells = true → W'.heap[b]? = some o
theorem KeepsAt.trans {b : Nat} {A B C : World} (h : KeepsAt b A B) (k : KeepsAt b B C) : KeepsAt b A C := fun o ho hc => k o (h o ho hc) hc
theorem KeepsAt.refl (b : Nat) (W : World) : KeepsAt b W W := fun _ h _ => h
theorem KeepsAt.putObj {b : Nat} (W : World) (l : Nat) (o o' : Obj) (h : W.heap[l]? = some o) (hc : o.isCells = false) : KeepsAt b W (W.putObj l o') := by
  intro x hx hxc
  by_cases e : b = l
  · subst e
    rw [h] at hx
    cases hx
    rw [hc] at hxc
    cases hxc
  · rw [World.putObj_heap_other e]
    exact hx

/-- 'for x := range seq': the rounds go by an invariant. -/
theorem wp_range {α : Type} {P : Program} {g : Operand} {ps : Array Tmp} {assign body : Code} {Q : Exit → Act → World → Prop} {a : Act} {w : World}
    (gf : Nat) (lb : Array Value) (bs : Nat) (hg : a.eval g = .func (.func gf) #[] lb) (eg : Enters P gf) (encs : α → Array Value) (S Sp : List α → Prop) (N : Nat) (hseq : SeqStopsK Fence.wide 2 P gf lb encs (KeepsAt bs) S Sp N w) (hps : ∀ x, (encs x).size = ps.size)
    (I : List α → World → Prop) (Ix : Code → List α → World → Prop) (hI : OwnFrom w.heap.size I) (hIx : ∀ c, OwnFrom w.heap.size (Ix c)) (h0 : I [] w) (a₁ : α → Act)
    (hassign : ∀ (l : Nat) (x : α) (W : World) (K : Act → World → Prop), K (a₁ x) W →
      assign.wpIn (Fence.wide.inRound l) 1 P (Exit.then K (fun _ _ _ => False)) { tmps := (ps.zip (encs x)).foldl (fun t (p, v) => t.setIfInBounds p v) a.tmps, defers := [] } W)
    (hbody : ∀ (l : Nat) (pre : List α) (x : α) (W : World), I pre W → pre.length < N → body.wpIn (Fence.wide.inRound l) 1 P (ownPostK (KeepsAt bs) I Ix (pre ++ [x]) W) (a₁ x) W)
    (hdone : ∀ (D : Nat) (xs : List α) (W : World), w.heap.size ≤ D → S xs → I xs W → W.heap[D]? = some (.deferred (some [])) → Q .normal { a with defers := { target := .collected D, args := #[] } :: a.defers } W)
    (hstop : ∀ (D : Nat) (c : Code) (pre : List α) (W : World), w.heap.size ≤ D → Sp pre → Ix c pre W → W.heap[D]? = some (.deferred (some [])) → c.wp P Q { a with defers := { target := .collected D, args := #[] } :: a.defers } W) :
    (Code.rangeFunc g ps assign body).wp P Q a w :=
  wpIn_wide.1 (wpIn_rangeFunc_ownF (F := Fence.wide) (n := 3) rfl (by omega) (gf := gf) (lb := lb) hg trivial eg hseq (fun h k => KeepsAt.trans h k) (fun W l o o' _ h hc _ => KeepsAt.putObj W l o o' h hc) (Below.refl _ _) hps I Ix hI hIx h0 a₁ hassign hbody hdone
    (fun D c pre W h1 h2 h3 h4 => wpIn_wide.2 (hstop D c pre W h1 h2 h3 h4)))
end
end Go.Proofs.YtelohoomlgjjmaaDoor
