import Derived.Test.YtelohoomlgjjmaaDoorG3
import Derived.Test.YtelohoomlgjjmaaDoorG2
import Derived.Test.YtelohoomlgjjmaaDoorG13
import Derived.Test.YtelohoomlgjjmaaDoorG5
set_option linter.unusedSimpArgs false
set_option linter.unusedVariables false
namespace Go.Proofs.YtelohoomlgjjmaaDoor
section
/- All the ports of a set, by a range. -/
open Go.RowKit Go.Shelf
attribute [local go_sem] Oper.semAt_some
set_option maxRecDepth 100000 in
set_option maxHeartbeats 2000000 in
theorem all_stops (s bs : Nat) (w : World) (hs : s < 4294967296) (hb : w.heap[bs]? = some (.cells #[.int .u32 (s : Nat)] 70 (0, 0))) :
    SeqStopsK Fence.wide 2 Tryd.prog 63 #[.pointer (some ⟨bs, 0, none⟩)] (fun p : Int => #[.int .i64 p]) (KeepsAt bs) (fun xs => xs = portsL s) (fun pre => pre <+: portsL s) 16 w := by
  intro l J Jx W hW hJ hJx hY h0
  have hbW : W.heap[bs]? = some (.cells #[.int .u32 (s : Nat)] 70 (0, 0)) := (hW.block bs (Array.getElem?_eq_some_iff.1 hb).1).trans hb
  have HY := Lib.hid hY
  clear hY hJ hJx hW hb
  refine callsIn_of_wp Tryd.func63 rfl trivial ?_ rfl
  simp only [Tryd.ntmps63, List.size_toArray, List.length_cons, List.length_nil, Nat.reduceAdd, Nat.reduceSub, Array.replicate_succ, Array.replicate_zero, List.push_toArray, List.append_toArray, List.nil_append, List.cons_append]
  gi_wp2
  gi_loopw [3] (fun p wr => ∃ k : Nat, k ≤ 16 ∧ p = .int .i64 ((k : Int) + 1) ∧ wr.heap[bs]? = some (.cells #[.int .u32 (s : Nat)] 70 (0, 0)) ∧ J (upto s k) wr) (fun p _ => 17 - (intOf p).toNat)
  case atStart => exact ⟨0, by omega, rfl, hbW, h0⟩
  case round =>
    obtain ⟨k, hk, rfl, hbr, hJs⟩ := hrel
    by_cases hlt : k < 16
    · have hc : wr.cell? ⟨bs, 0, none⟩ = some (.int .u32 (s : Nat)) := by rw [World.cell?, hbr]; rfl
      have hk2 : (k : Int) + 1 ≤ 16 := by omega
      cases hq : hasB s ((k : Int) + 1) with
      | false =>
        have HB := Lib.hid hq
        have HU := Lib.hid (upto_no hq)
        clear hq
        gi_wp2_with (refine ⟨trivial, ?_⟩; gi_at_call 19; refine (callsIn_wide.2 (has_any s _ _ hs)).mono ?_; rintro e w' ⟨rfl, rfl⟩; rw [HB.out])
        refine ⟨fun _ h => (by cases h), ?_⟩
        gi_wp2
        go_roundw
        case rel => exact ⟨k + 1, by omega, by go_num, hbr, by rw [HU.out]; exact hJs⟩
        case measure => simp [intOf]; omega
      | true =>
        have HB := Lib.hid hq
        have HU := Lib.hid (upto_yes hq)
        clear hq
        obtain ⟨fn, tmps, assign, body, hy, hR⟩ := HY.out (upto s k) ((k : Int) + 1) wr hJs (by have := upto_len s k; omega)
        gi_wp2_with (refine ⟨trivial, ?_⟩; gi_at_call 19; refine (callsIn_wide.2 (has_any s _ _ hs)).mono ?_; rintro e w' ⟨rfl, rfl⟩; rw [HB.out])
        refine hR.mono ?_
        rintro e W3 (⟨rfl, hJ3, hk3⟩ | ⟨rfl, hJx3⟩)
        · gi_wp2
          go_roundw
          case rel => exact ⟨k + 1, by omega, by go_num, hk3 _ hbr rfl, by rw [HU.out]; exact hJ3⟩
          case measure => simp [intOf]; omega
        · gi_wp2
          refine bodyPost_ret (results_none rfl _ _ _) rfl ?_
          exact ⟨⟨_, rfl⟩, .inr ⟨upto s k ++ [(k : Int) + 1], by rw [← HU.out]; exact upto_prefix s (k + 1) 16 (by omega), hJx3⟩⟩
    · have hk16 : k = 16 := by omega
      subst hk16
      gi_wp2
      go_end0
      exact ⟨⟨_, rfl⟩, .inl ⟨portsL s, rfl, hJs⟩⟩
theorem all_any (s : Nat) (w : World) : Calls Tryd.prog 47 #[.int .u32 (s : Nat)] w fun e w' => e = .returned (.func (.func 63) #[] #[.pointer (some ⟨w.heap.size, 0, none⟩)]) ∧ w' = w.alloc (.cells #[.int .u32 (s : Nat)] 70) := by
  go_enter Tryd.func47, Tryd.ntmps47
  go_wp2
  go_ret
  exact ⟨rfl, rfl⟩
end
section
/- A region inside a round of a range over a function is walked as anywhere; with no program in sight. -/
open Go.RowKit Go.Shelf
section
variable {P : Program} {l n : Nat} {ops : Array Oper} {Q : Exit → Act → World → Prop} {a : Act} {w : World} {rest : List Oper} {o : Oper}
def isDefer : Op → Bool | .defer _ => true | _ => false
theorem oper_in {K : Act → World → Prop} (hp : isDefer o.op = false) (h : o.wp P a w K Q) : o.wpIn (Fence.wide.inRound l) n P a w K Q := by
  refine ⟨fun _ _ => trivial, ?_⟩
  rw [Fence.inRound_round, Oper.semAt_some l _ _ (fun c e => by rw [e] at hp; cases hp)]
  unfold Oper.wp at h
  revert h
  cases (execOp a.eval o).run P w with
  | ok v w' =>
    cases v with
    | value v => exact fun h => h
    | skip => exact fun h => h
    | defer d => exact fun h => h
    | enter f args => exact fun h => ⟨fun q => (by cases q), CallsIn.inRound l (callsIn_wide.2 h)⟩
    | row row args => exact fun h => ⟨fun q => (by cases q), fun c cs _ => let ⟨v, w', r, s⟩ := h c cs; ⟨v, w', r, by rw [fenced_inRound]; exact stepsIn_wide.2 s⟩⟩
    | _ => exact fun h => h.elim
  | halt x w' =>
    cases x with
    | panic v => exact fun h => h
    | _ => exact fun h => h.elim
theorem oper_mono {K K' : Act → World → Prop} (hK : ∀ a w, K a w → K' a w) (h : o.wp P a w K Q) : o.wp P a w K' Q := by
  unfold Oper.wp at h ⊢
  revert h
  cases (execOp a.eval o).run P w with
  | ok v w' =>
    cases v with
    | value v => exact hK _ _
    | skip => exact hK _ _
    | defer d => exact hK _ _
    | enter f args =>
      intro h
      refine Calls.mono h fun e w'' he => ?_
      revert he
      cases e with
      | returned v => exact hK _ _
      | panicked c => exact fun he => he
      | outgrown => exact fun he => he
    | row row args => exact fun h => Rows.mono h fun v w'' he => hK _ _ he
    | _ => exact fun h => h.elim
  | halt x w' =>
    cases x with
    | panic v => exact fun h => h
    | _ => exact fun h => h.elim
theorem list_in (hQ : ¬ LetsOut Q) : ∀ (r : List Oper) (a : Act) (w : World), (∀ o ∈ r, isDefer o.op = false) → wpList P ops Q r a w → wpListIn (Fence.wide.inRound l) n P ops Q r a w
  | [], a, w, _, h => h
  | o :: r, a, w, hp, h => by
    unfold wpListIn
    unfold wpList at h
    split at h
    · rename_i c
      rw [if_pos c]
      exact oper_in (hp o (by simp)) (oper_mono (fun a' w' h' => list_in hQ r a' w' (fun o ho => hp o (List.mem_cons_of_mem _ ho)) h') (h.resolve_right fun q => hQ q.2))
    · rename_i c
      rw [if_neg c]
      exact ⟨fun _ _ => trivial, list_in hQ r _ _ (fun o ho => hp o (List.mem_cons_of_mem _ ho)) h⟩
theorem lit_in {id : Nat} {r : List Oper} (hQ : ¬ LetsOut Q) (hp : r.all (fun o => !isDefer o.op) = true) (h : wpList P r.toArray Q r a w) : (Code.region id r.toArray false).wpIn (Fence.wide.inRound l) n P Q a w :=
  wpIn_region_lit (list_in hQ r a w (fun o ho => by have := List.all_eq_true.1 hp o ho; simpa using this) h)
end
end
section
/- Blocks, and a list that grows, in the rounds of a range over a function. -/
open Go.RowKit Go.Shelf
attribute [local irreducible] wpQuiet wpList

theorem zLst : ∀ W : World, (zeroValue 46).run Tryd.prog W = .ok (.slice none 0 0) W := fun W => Tryd.zeroValue46 W
set_option maxRecDepth 100000 in
theorem one_sn (x : Sn) : ∀ W : World, (Instr.buildSlice 46 1 #[(0, .agg (snA x))]).run Tryd.prog W = .ok (.slice (some ⟨W.heap.size, 0, none⟩) 1 1) (W.alloc (.cells (snA x) 81)) := fun W => by
  unfold snA
  have u := Tryd.underlying46
  go_simp
theorem run_bs1 {P : Program} {o : Oper} {a : Act} {w w' : World} (t : TypeId) (x : Operand) (ho : o.op = .buildSlice t 1 #[(0, x)]) (v s : Value) (hv : a.eval x = v) (h : (Instr.buildSlice t 1 #[(0, v)]).run P w = .ok s w') : (execOp a.eval o).run P w = .ok (.value s) w' := by
  subst hv
  unfold execOp
  simp only [ho, List.map_toArray, List.map_cons, List.map_nil, Sem.run_bind, h, Result.andThen_ok, Sem.run_pure]
/-- What is no cells lies as it lay in W. -/
def bdN (w0 W : World) : Bd :=
  ⟨fun W' => W.heap.size ≤ W'.heap.size ∧ ∀ k o, w0.heap.size ≤ k → W.heap[k]? = some o → o.isCells = false → W'.heap[k]? = some o,
   fun k => w0.heap.size ≤ k ∧ ∃ o, W.heap[k]? = some o ∧ o.isCells = false,
   fun h q => by obtain ⟨-, o, q1, -⟩ := q; exact Nat.lt_of_lt_of_le (Array.getElem?_eq_some_iff.1 q1).1 h.1,
   fun h m n => ⟨Nat.le_trans h.1 m.size, fun k o k1 k2 k3 => (m.block k (Nat.lt_of_lt_of_le (Array.getElem?_eq_some_iff.1 k2).1 h.1) (n k ⟨k1, o, k2, k3⟩)).trans (h.2 k o k1 k2 k3)⟩⟩
section
variable {w0 w w' W : World} {l : List (Nat × Array Value × TypeId)} {A A' X : Bd}
theorem Kx.swap {C : Bd} (K : Kx w0 l (A.and C) w) : Kx w0 l (C.and A) w := K.turn (fun h => ⟨h.2, h.1⟩) (fun k h => h.elim .inr .inl)
theorem own_cells {α : Type} {B size : Nat} {e : TypeId} {enc : α → List Value} {v : Value} {L : List α} (h : Own w B e size enc v L) {k : Nat} (hk : v.ownBlock = some k) : ∃ o, w.heap[k]? = some o ∧ o.isCells = true := by
  rcases h.2 with hn | ⟨g, cap, cur, rfl, h2, h3, h4⟩
  · rw [hn.1] at hk; cases hk
  · injection hk with hk; subst hk; exact ⟨_, h3, rfl⟩
theorem blk_cells {g : Nat} {cs : Array Value} {t : TypeId} (h : Blk w g cs t) : ∃ o, w.heap[g]? = some o ∧ o.isCells = true := ⟨_, h, rfl⟩
theorem cells_no {k : Nat} {o o' : Obj} (h : w.heap[k]? = some o) (hc : o.isCells = true) (h' : w.heap[k]? = some o') (hc' : o'.isCells = false) : False := by
  rw [h] at h'; cases h'; rw [hc] at hc'; cases hc'
/-- A round begins. -/
theorem Kx.round (K : Kx w0 l A w) (hA : ∀ k, A.f k → ∃ o, w.heap[k]? = some o ∧ o.isCells = true) : Kx w0 l (A.and (bdN w0 w)) w :=
  ⟨K.kb, ⟨K.a, Nat.le_refl _, fun _ _ _ h _ => h⟩, fun x hx q => by
    rcases q with q | ⟨-, o, q1, q2⟩
    · exact K.ap x hx q
    · obtain ⟨o', h1, h2⟩ := blk_cells (K.kb.all x hx); exact cells_no h1 h2 q1 q2, fun k q => by
    rcases q with q | q
    · exact K.nw k q
    · exact q.1⟩
theorem Kx.left1 (K : Kx w0 l (A.and X) w) : Kx w0 l A w := K.turn (fun h => h.1) (fun _ h => .inl h)
theorem Kx.others (K0 : Below w0.heap.size w0 W) (K : Kx w0 l (A.and (bdN w0 W)) w) : KeepsOthers W w :=
  ⟨K.a.2.1, fun k o h hc => by
    rcases Nat.lt_or_ge k w0.heap.size with q | q
    · exact (K.below.block k q).trans ((K0.block k q).symm.trans h)
    · exact K.a.2.2 k o q h hc⟩
theorem Kx.own {α : Type} {B : Nat} (hB : w0.heap.size ≤ B) (L : α → List (Nat × Array Value × TypeId)) (A : α → Bd) (hA : ∀ s W, (A s).p W → ∀ k, (A s).f k → ∃ o, W.heap[k]? = some o ∧ o.isCells = true) : OwnFrom B (fun s W => Kx w0 (L s) (A s) W) := by
  intro s W W' row h hg hr
  have hm := Mv.grown hg
  refine ⟨⟨fun x hx => (h.kb.all x hx).fr hm (fun e => ?_), grownBelow h.below hg (fun q e => Nat.le_trans hB (hr q e).1) h.below.size, h.kb.new, h.kb.nd⟩, (A s).mv h.a hm (fun k q e => ?_), h.ap, h.nw⟩
  · obtain ⟨-, o, h1, h2⟩ := hr _ e
    obtain ⟨o', h3, h4⟩ := blk_cells (h.kb.all x hx)
    exact cells_no h3 h4 h1 h2
  · obtain ⟨-, o, h1, h2⟩ := hr _ e
    obtain ⟨o', h3, h4⟩ := hA s W h.a k q
    exact cells_no h3 h4 h1 h2
end
section
variable {P : Program} {ops : Array Oper} {Q : Exit → Act → World → Prop} {a : Act} {w w0 : World} {A X : Bd} {rest : List Oper} {o : Oper} {l : List (Nat × Array Value × TypeId)}
theorem kx_one (K : Kx w0 l A w) (t e : TypeId) (x : Operand) (arr : Array Value) (ho : o.op = .buildSlice t 1 #[(0, x)]) (hx : a.eval x = .agg arr) (hrun : ∀ W : World, (Instr.buildSlice t 1 #[(0, .agg arr)]).run P W = .ok (.slice (some ⟨W.heap.size, 0, none⟩) 1 1) (W.alloc (.cells arr e))) (hw : Region.wanted o (yielded ops a.tmps) = true)
    (h : ∀ b w', b = w.heap.size → Kx w0 (l ++ [(b, arr, e)]) A w' → wpList P ops Q rest (a.put o.dst (.slice (some ⟨b, 0, none⟩) 1 1)) w') : wpList P ops Q (o :: rest) a w := by
  refine BigFrame.wpList_want hw fun K' hK => ?_
  unfold Oper.wp
  rw [run_bs1 t x ho _ _ hx (hrun w)]
  exact hK _ _ (h _ _ rfl (K.alloc arr e))
theorem kx_append {α : Type} {t e : TypeId} {size B i c : Nat} {enc : α → List Value} {cur : Value} {L : List α} {y : α} {arr : Array Value} (E : ElT P t e size enc) (K : Kx w0 l ((bdO B e size enc cur L).and X) w) (hi : l[i]? = some (c, arr, e)) (ha : arr.toList = enc y) (hB : B ≤ w0.heap.size) (hl : L.length ≤ 1000)
    (s z : Operand) (hgd : o.guard = none) (ho : o.op = .call { callee := .builtin .append, args := #[s, z], argTypes := #[t, t] }) (hs : a.eval s = cur) (hz : a.eval z = .slice (some ⟨c, 0, none⟩) 1 1) (hd : ∀ k, X.f k → ¬ cur.ownBlock = some k)
    (h : ∀ v w', (∀ k, v.ownBlock = some k → cur.ownBlock = some k ∨ w.heap.size ≤ k) → Kx w0 l ((bdO B e size enc v (L ++ [y])).and X) w' → wpList P ops Q rest (a.put o.dst v) w') : wpList P ops Q (o :: rest) a w := by
  have hO : Own w B e size enc cur L := K.a.1
  have hk := K.at hi
  have hS : Src w enc (.slice (some ⟨c, 0, none⟩) 1 1) [y] := .inr ⟨⟨c, 0, none⟩, 1, rfl, fun j u hu => by
    rw [cellsL_one, ← ha] at hu
    have ea : (⟨c, 0, none⟩ : Addr).add j = ⟨c, 0 + j, none⟩ := by
      unfold Addr.add
      split <;> simp_all
    rw [ea, Nat.zero_add, hk.cell]
    simpa using hu⟩
  obtain ⟨v', w', hr, ho', hg, hv⟩ := E.app hO hS (by simp; omega) (Nat.le_trans hB K.below.size) o.type
  refine wpList_append_lst hgd s z t ho v' w' (by rw [hs, hz]; exact hr) (h v' w' (fun k q => by rcases hv with c | c; exact .inl (by rw [← c]; exact q); exact .inr (by rw [c] at q; injection q with q; omega)) ?_)
  refine K.moved (A' := bdO B e size enc v' (L ++ [y])) ((Mv.grown hg).mono (fun k q => q)) ho' (fun k q => ?_) hd
  rcases hv with c | c
  · exact .inl (show cur.ownBlock = some k from by rw [← c]; exact q)
  · have q' : v'.ownBlock = some k := q
    rw [c] at q'; injection q' with q'; exact .inr (by omega)
end
end
section
/- plane.send: a frame is sent to where it goes. -/
open Go.RowKit Go.Shelf
attribute [local irreducible] wpQuiet wpList

attribute [local go_sem] Oper.semAt_some
theorem sendL_snoc (x : Fr) (v : Vl) (l : List Int) (y : Int) : sendL x v (l ++ [y]) = sendL x v l ++ (if forK x v y = true then [⟨y, forT x v y⟩] else []) := by
  unfold sendL
  rw [List.filterMap_append]
  congr 1
  simp only [List.filterMap_cons, List.filterMap_nil]
  split <;> simp_all
theorem sendL_len (x : Fr) (v : Vl) (l : List Int) : (sendL x v l).length ≤ l.length := List.length_filterMap_le _ _
theorem portsN_lt {fr : Int} {vid a o : Nat} {lv : List Vl} {ls : List Se} {lf : List En} (ho : o < 4294967296) : portsN fr vid a o lv ls lf < 4294967296 := by
  unfold portsN
  split
  · omega
  · exact Nat.lt_of_le_of_lt (Nat.le_trans Nat.and_le_left Nat.and_le_right) ho
section
variable {ops : Array Oper} {Q : Exit → Act → World → Prop} {a : Act} {w w0 : World} {A : Bd} {rest : List Oper} {o : Oper} {l : List (Nat × Array Value × TypeId)}
theorem kx_allocv (K : Kx w0 l A w) (ty : TypeId) (v : Value) (hc : v.cells = #[v]) (ho : o.op = .alloc ty) (hz : ∀ W : World, (zeroValue ty).run Tryd.prog W = .ok v W) (hw : Region.wanted o (yielded ops a.tmps) = true)
    (h : ∀ b w', b = w.heap.size → Kx w0 (l ++ [(b, #[v], ty)]) A w' → wpList Tryd.prog ops Q rest (a.put o.dst (.pointer (some ⟨b, 0, none⟩))) w') : wpList Tryd.prog ops Q (o :: rest) a w := by
  refine BigFrame.wpList_want hw fun K' hK => ?_
  unfold Oper.wp execOp
  simp only [ho, Instr.alloc, Sem.run_bind, hz, Result.andThen_ok, newVar, Sem.run_pure, hc]
  exact hK _ _ (h _ _ rfl (K.alloc #[v] ty))
theorem kx_each (K : Kx w0 l A w) (S : Nat) (hw : Region.wanted o (yielded ops a.tmps) = true) (hv : (execOp a.eval o).run Tryd.prog w = .ok (.enter 47 #[.int .u32 (S : Nat)]) w)
    (h : ∀ b w', b = w.heap.size → Kx w0 (l ++ [(b, #[.int .u32 (S : Nat)], 70)]) A w' → wpList Tryd.prog ops Q rest (a.put o.dst (.func (.func 63) #[] #[.pointer (some ⟨b, 0, none⟩)])) w') : wpList Tryd.prog ops Q (o :: rest) a w :=
  BigFrame.wpList_want hw fun K' hK => by
    unfold Oper.wp
    simp only [hv, Oper.upon]
    refine (all_any S w).mono fun e w' ⟨he, hb⟩ => ?_
    subst he hb
    exact hK _ _ (h _ _ rfl (K.alloc _ _))
end
set_option maxRecDepth 100000 in
set_option maxHeartbeats 8000000 in
theorem send_any {w0 w : World} {i : Ix} {lv : List Vl} {ls : List Se} {lf : List En} (hT : T3 w0 i lv ls lf w) (x : Fr) (hx : x.ok) (a : Nat) (ha : a < 281474976710656) (hd : x.d = byteF a) (fr : Int) (vid opn : Nat) (ho : opn < 4294967296) :
    Calls Tryd.prog 29 #[.agg (t3A i), .int .u32 (opn : Nat), .int .i64 fr, .int .u16 (vid : Nat), .agg (fA x)] w fun e w' => ∃ sv, e = .returned sv ∧ Own w' w.heap.size 81 19 snC sv (sendL x (findV vid lv).1 (portsL (portsN fr vid a opn lv ls lf))) ∧ Below w.heap.size w w' := by
  have HT := Lib.hid hT
  have HX := Lib.hid hx
  have K := Lib.hid (Kx.start (Kb.nil w))
  obtain ⟨V, hV⟩ : ∃ V, V = (findV vid lv).1 := ⟨_, rfl⟩
  obtain ⟨fo, hfo⟩ : ∃ fo, fo = (findV vid lv).2 := ⟨_, rfl⟩
  obtain ⟨S, hS⟩ : ∃ S, S = portsN fr vid a opn lv ls lf := ⟨_, rfl⟩
  rw [← hV, ← hS]
  have HSL := Lib.hid (show S < 4294967296 by rw [hS]; exact portsN_lt ho)
  have HVU := Lib.hid (show V.unt < 4294967296 by rw [hV]; have := (findV_small hT.smV vid).2; omega)
  have HG := Lib.hid (show ∀ W, Below w.heap.size w W → Calls Tryd.prog 16 #[.pointer (some ⟨i.b1, 0, none⟩), .int .u16 (vid : Nat)] W fun e w' => e = .returned (.tuple #[.agg (vlA V), .bool fo]) ∧ Below W.heap.size W w' from fun W hW => by rw [hV, hfo]; exact get_find vid (HT.out.next hW).tabV)
  have HP := Lib.hid (show ∀ W, Below w.heap.size w W → Calls Tryd.prog 17 #[.agg (t3A i), .int .i64 fr, .int .u16 (vid : Nat), .agg (macA x.d), .int .u32 (opn : Nat)] W fun e w' => e = .returned (.int .u32 (S : Nat)) ∧ Below W.heap.size W w' from fun W hW => by rw [hS, hd]; exact ports_any fr vid a opn ha ho (HT.out.next hW))
  clear hT hx hV hfo hS hd ha ho
  refine calls_marks Tryd.func29 rfl ?_
  simp only [Tryd.ntmps29, List.size_toArray, List.length_cons, List.length_nil, Nat.reduceAdd, Nat.reduceSub, Array.replicate_succ, Array.replicate_zero, List.push_toArray, List.append_toArray, List.nil_append, List.cons_append]
  go_upto_region 0 with fail
  refine wp_region_lit ?_
  refine kx_box K.out 35 (.tmp 0) (t3A i) rfl rfl (by rfl) ?_
  intro b1 w1 hb1 hk
  have K1 := Lib.hid (show Kx w [(b1, t3A i, 35)] (Bd.nil) w1 from hk)
  clear hk hb1
  (try simp only [Act.put, gA, gS, gZ, sA, sZ, sS])
  refine kx_box K1.out 42 (.tmp 4) (fA x) rfl rfl (by rfl) ?_
  intro b2 w2 hb2 hk
  have K2 := Lib.hid (show Kx w [(b1, t3A i, 35), (b2, fA x, 42)] (Bd.nil) w2 from hk)
  clear hk hb2
  (try simp only [Act.put, gA, gS, gZ, sA, sZ, sS])
  refine wv (.slice none 0 0) ?_
  (try simp only [Act.put, gA, gS, gZ, sA, sZ, sS])
  refine wpList_nil ?_
  go_upto_region 1 with fail
  refine wp_region_lit ?_
  refine wv (.pointer (some ⟨b1, 0, none⟩)) ?_
  (try simp only [Act.put, gA, gS, gZ, sA, sZ, sS])
  refine wv (.pointer (some ⟨i.b1, 0, none⟩)) ?_ (hrun := by have q : w2.cell? ⟨b1, 0, none⟩ = some (.pointer (some ⟨i.b1, 0, none⟩)) := K2.out.cell (i := 0) rfl (by rfl); go_simp)
  (try simp only [Act.put, gA, gS, gZ, sA, sZ, sS])
  refine wv (.int .u16 (vid : Nat)) ?_
  (try simp only [Act.put, gA, gS, gZ, sA, sZ, sS])
  refine kx_call K2.out 16 #[.pointer (some ⟨i.b1, 0, none⟩), .int .u16 (vid : Nat)] (.tuple #[.agg (vlA V), .bool fo]) (by rfl) (by go_simp) (HG.out _ K2.out.below) ?_
  intro w3 hk
  have K3 := Lib.hid (show Kx w [(b1, t3A i, 35), (b2, fA x, 42)] (Bd.nil) w3 from hk)
  clear hk
  (try simp only [Act.put, gA, gS, gZ, sA, sZ, sS])
  refine wv (.tuple #[.agg (vlA V), .bool fo]) ?_
  (try simp only [Act.put, gA, gS, gZ, sA, sZ, sS])
  refine wv (.agg (vlA V)) ?_
  (try simp only [Act.put, gA, gS, gZ, sA, sZ, sS])
  refine wv (.bool fo) ?_
  (try simp only [Act.put, gA, gS, gZ, sA, sZ, sS])
  refine kx_alloc K3.out 73 (#[.int .u16 0, .int .u32 0, .int .u32 0]) rfl z3 (by rfl) ?_
  intro b4 w4 hb4 hk
  have K4 := Lib.hid (show Kx w [(b1, t3A i, 35), (b2, fA x, 42), (b4, #[.int .u16 0, .int .u32 0, .int .u32 0], 73)] (Bd.nil) w4 from hk)
  clear hk hb4
  (try simp only [Act.put, gA, gS, gZ, sA, sZ, sS])
  refine kx_row K4.out 2 rfl 73 _ _ (vlA V) rfl rfl rfl rfl (vlSz) (by rfl) (by kernel_rfl) ?_
  intro w5 hk
  have K5 := Lib.hid (show Kx w [(b1, t3A i, 35), (b2, fA x, 42), (b4, vlA V, 73)] (Bd.nil) w5 from hk)
  clear hk
  (try simp only [Act.put, gA, gS, gZ, sA, sZ, sS])
  refine wv (.bool fo) ?_
  (try simp only [Act.put, gA, gS, gZ, sA, sZ, sS])
  refine wpList_nil ?_
  go_upto_region 2 with fail
  refine wp_region_lit ?_
  refine kx_allocv K5.out 46 (.slice none 0 0) rfl rfl zLst (by rfl) ?_
  intro b6 w6 hb6 hk
  have K6 := Lib.hid (show Kx w [(b1, t3A i, 35), (b2, fA x, 42), (b4, vlA V, 73), (b6, #[.slice none 0 0], 46)] (Bd.nil) w6 from hk)
  clear hk hb6
  (try simp only [Act.put, gA, gS, gZ, sA, sZ, sS])
  refine wpList_nil ?_
  go_upto_region 3 with fail
  refine wp_region_lit ?_
  refine wv (.agg (t3A i)) ?_ (hrun := kx_all K6.out 0 rfl 35 _ rfl rfl Tryd.underlying35 rfl (t3Size))
  (try simp only [Act.put, gA, gS, gZ, sA, sZ, sS])
  refine wv (.int .i64 fr) ?_
  (try simp only [Act.put, gA, gS, gZ, sA, sZ, sS])
  refine wv (.int .u16 (vid : Nat)) ?_
  (try simp only [Act.put, gA, gS, gZ, sA, sZ, sS])
  refine wv (.pointer (some ⟨b2, 0, none⟩)) ?_
  (try simp only [Act.put, gA, gS, gZ, sA, sZ, sS])
  refine wv (.agg (macA x.d)) ?_ (hrun := kx_part K6.out 1 rfl 40 _ 0 (macA x.d).toList rfl rfl (part_of (by kernel_rfl)) Tryd.underlying40 rfl (mcSize))
  (try simp only [Act.put, gA, gS, gZ, sA, sZ, sS])
  refine wv (.int .u32 (opn : Nat)) ?_
  (try simp only [Act.put, gA, gS, gZ, sA, sZ, sS])
  refine kx_call K6.out 17 #[.agg (t3A i), .int .i64 fr, .int .u16 (vid : Nat), .agg (macA x.d), .int .u32 (opn : Nat)] (.int .u32 (S : Nat)) (by rfl) (by go_simp) (HP.out _ K6.out.below) ?_
  intro w7 hk
  have K7 := Lib.hid (show Kx w [(b1, t3A i, 35), (b2, fA x, 42), (b4, vlA V, 73), (b6, #[.slice none 0 0], 46)] (Bd.nil) w7 from hk)
  clear hk
  (try simp only [Act.put, gA, gS, gZ, sA, sZ, sS])
  refine kx_each K7.out S (by rfl) (by go_simp) ?_
  intro bs w8 hbs hk
  have K8 := Lib.hid (show Kx w [(b1, t3A i, 35), (b2, fA x, 42), (b4, vlA V, 73), (b6, #[.slice none 0 0], 46), (bs, #[.int .u32 (S : Nat)], 70)] (Bd.nil) w8 from hk)
  clear hk hbs
  (try simp only [Act.put, gA, gS, gZ, sA, sZ, sS])
  refine wpList_nil ?_
  obtain ⟨wR, hwR⟩ : ∃ wR, wR = w8 := ⟨_, rfl⟩
  rw [← hwR] at K8 ⊢
  clear hwR
  have KI := Lib.hid (show Kx w [(b1, t3A i, 35), (b2, fA x, 42), (b4, vlA V, 73), (b6, #[.slice none 0 0], 46), (bs, #[.int .u32 (S : Nat)], 70)] (bdO w.heap.size 81 19 snC (.slice none 0 0) (sendL x V [])) wR from K8.out.turn (fun _ => Own.nil _ _ _ _ _) (fun k q => (by cases q)))
  clear K8
  have hwR := KI.out.below.size
  go_wp2_with fail
  refine wp_range 63 #[.pointer (some ⟨bs, 0, none⟩)] bs rfl (enters_of Tryd.func63 (by kernel_rfl) rfl) (fun p : Int => #[.int .i64 p]) _ _ 16 (all_stops S bs wR HSL.out (KI.out.at (i := 4) rfl)) (fun _ => rfl)
    (fun pre W => ∃ sv : Value, Kx w [(b1, t3A i, 35), (b2, fA x, 42), (b4, vlA V, 73), (b6, #[sv], 46), (bs, #[.int .u32 (S : Nat)], 70)] (bdO w.heap.size 81 19 snC (sv) (sendL x V pre)) W) (fun _ _ _ => False)
    (fun s W W' row ⟨sv, h⟩ hg hr => ⟨sv, Kx.own (α := Value) hwR (fun sv => [(b1, t3A i, 35), (b2, fA x, 42), (b4, vlA V, 73), (b6, #[sv], 46), (bs, #[.int .u32 (S : Nat)], 70)]) (fun sv => bdO w.heap.size 81 19 snC (sv) (sendL x V s)) (fun s W h k q => own_cells h q) sv W W' row h hg hr⟩)
    (fun _ _ _ _ _ h _ _ => h) ⟨_, KI.out⟩
    (fun y => { tmps := #[.agg (t3A i), .int .u32 (opn : Nat), .int .i64 fr, .int .u16 (vid : Nat), .agg (fA x), .pointer (some ⟨b1, 0, none⟩), undef, undef, undef, .pointer (some ⟨b2, 0, none⟩), .slice none 0 0, .pointer (some ⟨b4, 0, none⟩), .bool fo, .pointer (some ⟨b6, 0, none⟩), .int .i64 y, undef, undef, .tuple #[.agg (vlA V), .bool fo], .pointer (some ⟨b1, 0, none⟩), .pointer (some ⟨i.b1, 0, none⟩), .int .u16 (vid : Nat), .tuple #[.agg (vlA V), .bool fo], .agg (vlA V), .bool fo, .agg (t3A i), .int .i64 fr, .int .u16 (vid : Nat), .pointer (some ⟨b2, 0, none⟩), .agg (macA x.d), .int .u32 (opn : Nat), .int .u32 (S : Nat), .func (.func 63) #[] #[.pointer (some ⟨bs, 0, none⟩)], .int .i64 y, undef, undef, undef, undef, undef, undef, undef, undef, undef, undef, undef, undef, undef, undef, undef], defers := [] }) ?assign ?body ?done ?stop
  case assign =>
    intro l x W K hK
    gi_wp2
    simpa using hK
  case stop =>
    rintro D c pre W hD hpre h hK
    exact h.elim
  case body =>
    rintro l pre y W ⟨sv, hI⟩ hN
    have KB := Lib.hid (show Kx w [(b1, t3A i, 35), (b2, fA x, 42), (b4, vlA V, 73), (b6, #[sv], 46), (bs, #[.int .u32 (S : Nat)], 70)] ((bdO w.heap.size 81 19 snC (sv) (sendL x V pre)).and (bdN w W)) W from hI.round (fun k q => own_cells hI.a q))
    have K0 := Lib.hid hI
    clear hI
    have HLN := Lib.hid (show (sendL x V pre).length ≤ 1000 by have := sendL_len x V pre; omega)
    obtain ⟨z, hz⟩ : ∃ z, z = forT x V y := ⟨_, rfl⟩
    have HSN := Lib.hid (sendL_snoc x V pre y)
    rw [← hz] at HSN
    have HF := Lib.hid (show ∀ W, Calls Tryd.prog 18 #[.agg (fA x), .agg (vlA V), .int .i64 y] W fun e w' => e = .returned (.tuple #[.agg (if forK x V y = true then fA z else nil18), .bool (forK x V y)]) ∧ Below W.heap.size W w' from fun W => by rw [hz]; exact form_any x V y W HX.out HVU.out)
    clear hz
    cases hk : forK x V y with
    | true =>
      have HF2 := Lib.hid (show ∀ W, Calls Tryd.prog 18 #[.agg (fA x), .agg (vlA V), .int .i64 y] W fun e w' => e = .returned (.tuple #[.agg (fA z), .bool true]) ∧ Below W.heap.size W w' from fun W => by have c := HF.out W; rw [hk] at c; exact c)
      have HSQ := Lib.hid (show sendL x V (pre ++ [y]) = sendL x V pre ++ [(⟨y, z⟩ : Sn)] by rw [HSN.out, hk]; rfl)
      clear hk
      repeat (first | (apply wpIn_seq_k; intro _ _) | apply wpIn_block)
      refine lit_in (by rintro ⟨_, _, h⟩; exact h) (by kernel_rfl) ?_
      refine wv (.agg (fA x)) ?_ (hrun := kx_all KB.out 1 rfl 42 _ rfl rfl Tryd.underlying42 rfl (fA_size _))
      (try simp only [Act.put, gA, gS, gZ, sA, sZ, sS])
      refine wv (.agg (vlA V)) ?_ (hrun := kx_all KB.out 2 rfl 73 _ rfl rfl Tryd.underlying73 rfl (vlSz))
      (try simp only [Act.put, gA, gS, gZ, sA, sZ, sS])
      refine wv (.int .i64 y) ?_
      (try simp only [Act.put, gA, gS, gZ, sA, sZ, sS])
      refine kx_call KB.out 18 #[.agg (fA x), .agg (vlA V), .int .i64 y] (.tuple #[.agg (fA z), .bool true]) (by rfl) (by go_simp) (HF2.out _) ?_
      intro w41 hk
      have K41 := Lib.hid (show Kx w [(b1, t3A i, 35), (b2, fA x, 42), (b4, vlA V, 73), (b6, #[sv], 46), (bs, #[.int .u32 (S : Nat)], 70)] ((bdO w.heap.size 81 19 snC (sv) (sendL x V pre)).and (bdN w W)) w41 from hk)
      clear hk
      (try simp only [Act.put, gA, gS, gZ, sA, sZ, sS])
      refine wv (.tuple #[.agg (fA z), .bool true]) ?_
      (try simp only [Act.put, gA, gS, gZ, sA, sZ, sS])
      refine wv (.agg (fA z)) ?_
      (try simp only [Act.put, gA, gS, gZ, sA, sZ, sS])
      refine wv (.bool true) ?_
      (try simp only [Act.put, gA, gS, gZ, sA, sZ, sS])
      refine kx_alloc K41.out 42 (nil18) rfl z18 (by rfl) ?_
      intro b42 w42 hb42 hk
      have K42 := Lib.hid (show Kx w [(b1, t3A i, 35), (b2, fA x, 42), (b4, vlA V, 73), (b6, #[sv], 46), (bs, #[.int .u32 (S : Nat)], 70), (b42, nil18, 42)] ((bdO w.heap.size 81 19 snC (sv) (sendL x V pre)).and (bdN w W)) w42 from hk)
      clear hk hb42
      (try simp only [Act.put, gA, gS, gZ, sA, sZ, sS])
      refine kx_row K42.out 5 rfl 42 _ _ (fA z) rfl rfl rfl rfl (fA_size _) (by rfl) (fA_one z) ?_
      intro w43 hk
      have K43 := Lib.hid (show Kx w [(b1, t3A i, 35), (b2, fA x, 42), (b4, vlA V, 73), (b6, #[sv], 46), (bs, #[.int .u32 (S : Nat)], 70), (b42, fA z, 42)] ((bdO w.heap.size 81 19 snC (sv) (sendL x V pre)).and (bdN w W)) w43 from hk)
      clear hk
      (try simp only [Act.put, gA, gS, gZ, sA, sZ, sS])
      refine wv (.bool true) ?_
      (try simp only [Act.put, gA, gS, gZ, sA, sZ, sS])
      refine wpList_nil ?_
      simp only [Exit.then]
      gi_step
      repeat (first | (apply wpIn_seq_k; intro _ _) | apply wpIn_block); refine lit_in (by rintro ⟨_, _, h⟩; exact h) (by kernel_rfl) ?_
      refine wv (.bool true) ?_
      (try simp only [Act.put, gA, gS, gZ, sA, sZ, sS])
      refine wpList_nil ?_
      simp only [Exit.then]
      gi_step
      gi_step
      gi_step
      refine lit_in (by rintro ⟨_, _, h⟩; exact h) (by kernel_rfl) ?_
      refine wv (sv) ?_ (hrun := by have q : w43.cell? ⟨b6, 0, none⟩ = some (sv) := K43.out.cell (i := 3) rfl (by rfl); go_simp)
      (try simp only [Act.put, gA, gS, gZ, sA, sZ, sS])
      refine wv (.int .i64 y) ?_
      (try simp only [Act.put, gA, gS, gZ, sA, sZ, sS])
      refine wv (.agg (fA z)) ?_ (hrun := kx_all K43.out 5 rfl 42 _ rfl rfl Tryd.underlying42 rfl (fA_size _))
      (try simp only [Act.put, gA, gS, gZ, sA, sZ, sS])
      refine wv (.agg (snA ⟨y, z⟩)) ?_ (hrun := run_build_of 81 [(0, .tmp 42), (1, .tmp 43)] rfl _ (snA ⟨y, z⟩) rfl (built_sn y z))
      (try simp only [Act.put, gA, gS, gZ, sA, sZ, sS])
      refine kx_one K43.out 46 81 (.tmp 44) (snA ⟨y, z⟩) rfl rfl (one_sn ⟨y, z⟩) (by rfl) ?_
      intro bc w44 hbc hk
      have K44 := Lib.hid (show Kx w [(b1, t3A i, 35), (b2, fA x, 42), (b4, vlA V, 73), (b6, #[sv], 46), (bs, #[.int .u32 (S : Nat)], 70), (b42, fA z, 42), (bc, snA ⟨y, z⟩, 81)] ((bdO w.heap.size 81 19 snC (sv) (sendL x V pre)).and (bdN w W)) w44 from hk)
      clear hk hbc
      (try simp only [Act.put, gA, gS, gZ, sA, sZ, sS])
      refine kx_append snT K44.out (i := 6) rfl (y := ⟨y, z⟩) rfl (Nat.le_refl _) HLN.out (.tmp 41) (.tmp 45) rfl rfl rfl rfl (fun k q1 q2 => by obtain ⟨-, o, q3, q4⟩ := q1; obtain ⟨o2, q5, q6⟩ := own_cells K0.out.a q2; exact cells_no q5 q6 q3 q4) ?_
      intro sv2 w45 _ hk
      obtain ⟨a2, c2, e2, -, -⟩ := Own.shape (show Own w45 w.heap.size 81 19 snC sv2 (sendL x V pre ++ [(⟨y, z⟩ : Sn)]) from hk.a.1)
      obtain ⟨n2, hn2⟩ : ∃ n2, n2 = (sendL x V pre ++ [(⟨y, z⟩ : Sn)]).length := ⟨_, rfl⟩
      rw [← hn2] at e2
      subst e2
      clear hn2
      have K45 := Lib.hid (show Kx w [(b1, t3A i, 35), (b2, fA x, 42), (b4, vlA V, 73), (b6, #[sv], 46), (bs, #[.int .u32 (S : Nat)], 70), (b42, fA z, 42), (bc, snA ⟨y, z⟩, 81)] ((bdO w.heap.size 81 19 snC (.slice a2 n2 c2) (sendL x V pre ++ [(⟨y, z⟩ : Sn)])).and (bdN w W)) w45 from hk)
      clear hk
      (try simp only [Act.put, gA, gS, gZ, sA, sZ, sS])
      refine kx_set K45.out 3 rfl 46 _ _ 0 (.slice a2 n2 c2) rfl (by rfl) rfl rfl (kx_run_set K45.out (i := 3) rfl 46 0 (sv) (.slice a2 n2 c2) (by rfl) (fun W h1 h2 => by go_simp)) (#[.slice a2 n2 c2]) (by kernel_rfl) ?_
      intro w46 hk
      have K46 := Lib.hid (show Kx w [(b1, t3A i, 35), (b2, fA x, 42), (b4, vlA V, 73), (b6, #[.slice a2 n2 c2], 46), (bs, #[.int .u32 (S : Nat)], 70), (b42, fA z, 42), (bc, snA ⟨y, z⟩, 81)] ((bdO w.heap.size 81 19 snC (.slice a2 n2 c2) (sendL x V pre ++ [(⟨y, z⟩ : Sn)])).and (bdN w W)) w46 from hk)
      clear hk
      (try simp only [Act.put, gA, gS, gZ, sA, sZ, sS])
      refine wpList_nil ?_
      gi_wp2
      have KE : Kx w [(b1, t3A i, 35), (b2, fA x, 42), (b4, vlA V, 73), (b6, #[.slice a2 n2 c2], 46), (bs, #[.int .u32 (S : Nat)], 70)] ((bdO w.heap.size 81 19 snC (.slice a2 n2 c2) (sendL x V pre ++ [(⟨y, z⟩ : Sn)])).and (bdN w W)) w46 := Kx.left (l := [(b1, t3A i, 35), (b2, fA x, 42), (b4, vlA V, 73), (b6, #[.slice a2 n2 c2], 46), (bs, #[.int .u32 (S : Nat)], 70)]) (r := [(b42, fA z, 42), (bc, snA ⟨y, z⟩, 81)]) K46.out
      refine ⟨Kx.others K0.out.below KE, fun o ho hc => ?_, .slice a2 n2 c2, ?_⟩
      · rw [show W.heap[bs]? = _ from K0.out.at (i := 4) rfl] at ho; rw [← ho]; exact KE.at (i := 4) rfl
      · rw [HSQ.out]; exact KE.left1
    | false =>
      have HF2 := Lib.hid (show ∀ W, Calls Tryd.prog 18 #[.agg (fA x), .agg (vlA V), .int .i64 y] W fun e w' => e = .returned (.tuple #[.agg nil18, .bool false]) ∧ Below W.heap.size W w' from fun W => by have c := HF.out W; rw [hk] at c; exact c)
      have HSQ := Lib.hid (show sendL x V (pre ++ [y]) = sendL x V pre ++ [] by rw [HSN.out, hk]; rfl)
      clear hk
      repeat (first | (apply wpIn_seq_k; intro _ _) | apply wpIn_block)
      refine lit_in (by rintro ⟨_, _, h⟩; exact h) (by kernel_rfl) ?_
      refine wv (.agg (fA x)) ?_ (hrun := kx_all KB.out 1 rfl 42 _ rfl rfl Tryd.underlying42 rfl (fA_size _))
      (try simp only [Act.put, gA, gS, gZ, sA, sZ, sS])
      refine wv (.agg (vlA V)) ?_ (hrun := kx_all KB.out 2 rfl 73 _ rfl rfl Tryd.underlying73 rfl (vlSz))
      (try simp only [Act.put, gA, gS, gZ, sA, sZ, sS])
      refine wv (.int .i64 y) ?_
      (try simp only [Act.put, gA, gS, gZ, sA, sZ, sS])
      refine kx_call KB.out 18 #[.agg (fA x), .agg (vlA V), .int .i64 y] (.tuple #[.agg (nil18), .bool false]) (by rfl) (by go_simp) (HF2.out _) ?_
      intro w41 hk
      have K41 := Lib.hid (show Kx w [(b1, t3A i, 35), (b2, fA x, 42), (b4, vlA V, 73), (b6, #[sv], 46), (bs, #[.int .u32 (S : Nat)], 70)] ((bdO w.heap.size 81 19 snC (sv) (sendL x V pre)).and (bdN w W)) w41 from hk)
      clear hk
      (try simp only [Act.put, gA, gS, gZ, sA, sZ, sS])
      refine wv (.tuple #[.agg (nil18), .bool false]) ?_
      (try simp only [Act.put, gA, gS, gZ, sA, sZ, sS])
      refine wv (.agg (nil18)) ?_
      (try simp only [Act.put, gA, gS, gZ, sA, sZ, sS])
      refine wv (.bool false) ?_
      (try simp only [Act.put, gA, gS, gZ, sA, sZ, sS])
      refine kx_alloc K41.out 42 (nil18) rfl z18 (by rfl) ?_
      intro b42 w42 hb42 hk
      have K42 := Lib.hid (show Kx w [(b1, t3A i, 35), (b2, fA x, 42), (b4, vlA V, 73), (b6, #[sv], 46), (bs, #[.int .u32 (S : Nat)], 70), (b42, nil18, 42)] ((bdO w.heap.size 81 19 snC (sv) (sendL x V pre)).and (bdN w W)) w42 from hk)
      clear hk hb42
      (try simp only [Act.put, gA, gS, gZ, sA, sZ, sS])
      refine kx_row K42.out 5 rfl 42 _ _ (nil18) rfl rfl rfl rfl (size52) (by rfl) (by kernel_rfl) ?_
      intro w43 hk
      have K43 := Lib.hid (show Kx w [(b1, t3A i, 35), (b2, fA x, 42), (b4, vlA V, 73), (b6, #[sv], 46), (bs, #[.int .u32 (S : Nat)], 70), (b42, nil18, 42)] ((bdO w.heap.size 81 19 snC (sv) (sendL x V pre)).and (bdN w W)) w43 from hk)
      clear hk
      (try simp only [Act.put, gA, gS, gZ, sA, sZ, sS])
      refine wv (.bool false) ?_
      (try simp only [Act.put, gA, gS, gZ, sA, sZ, sS])
      refine wpList_nil ?_
      simp only [Exit.then]
      gi_step
      repeat (first | (apply wpIn_seq_k; intro _ _) | apply wpIn_block); refine lit_in (by rintro ⟨_, _, h⟩; exact h) (by kernel_rfl) ?_
      refine wv (.bool false) ?_
      (try simp only [Act.put, gA, gS, gZ, sA, sZ, sS])
      refine wpList_nil ?_
      simp only [Exit.then]
      gi_step
      gi_step
      gi_step
      gi_wp2
      have KE : Kx w [(b1, t3A i, 35), (b2, fA x, 42), (b4, vlA V, 73), (b6, #[sv], 46), (bs, #[.int .u32 (S : Nat)], 70)] ((bdO w.heap.size 81 19 snC (sv) (sendL x V pre)).and (bdN w W)) w43 := Kx.left (l := [(b1, t3A i, 35), (b2, fA x, 42), (b4, vlA V, 73), (b6, #[sv], 46), (bs, #[.int .u32 (S : Nat)], 70)]) (r := [(b42, nil18, 42)]) K43.out
      refine ⟨Kx.others K0.out.below KE, fun o ho hc => ?_, sv, ?_⟩
      · rw [show W.heap[bs]? = _ from K0.out.at (i := 4) rfl] at ho; rw [← ho]; exact KE.at (i := 4) rfl
      · rw [HSQ.out]; rw [List.append_nil]; exact KE.left1
  case done =>
    rintro D xs W hD rfl ⟨sv, hI⟩ hK
    have KD := Lib.hid hI
    clear hI
    dsimp only
    go_upto_region 8 with fail
    refine wp_region_lit ?_
    refine wv (sv) ?_ (hrun := by have q : W.cell? ⟨b6, 0, none⟩ = some (sv) := KD.out.cell (i := 3) rfl (by rfl); go_simp)
    (try simp only [Act.put, gA, gS, gZ, sA, sZ, sS])
    refine wv (sv) ?_
    (try simp only [Act.put, gA, gS, gZ, sA, sZ, sS])
    refine wpList_nil ?_
    go_wp2_with fail
    refine ⟨by simp, .inl ⟨_, _, rfl, run_takeDeferred hK, ?_⟩⟩
    refine ⟨_, results_tmp rfl _ _ _, sv, rfl, ?_⟩
    have c6 := Kx.own (α := Unit) hwR (fun _ => [(b1, t3A i, 35), (b2, fA x, 42), (b4, vlA V, 73), (b6, #[sv], 46), (bs, #[.int .u32 (S : Nat)], 70)]) (fun _ => bdO w.heap.size 81 19 snC (sv) (sendL x V (portsL S))) (fun s W h k q => own_cells h q) () _ _ _ KD.out (grownBy_putObj' _ D (.deferred none)) (fun r e => by cases e; exact ⟨hD, _, hK, rfl⟩)
    exact ⟨c6.a, c6.below⟩
end
section
/- plane.open: the ports to which frames may go. -/
open Go.RowKit
attribute [local irreducible] wpQuiet wpList

theorem openM_lt (ps : List Po) : ∀ k, openM ps k < 4294967296
  | 0 => by unfold openM; omega
  | k + 1 => by
    unfold openM
    split
    · split
      · exact withS_lt _ _ (openM_lt ps k)
      · exact openM_lt ps k
    · exact openM_lt ps k
set_option maxRecDepth 100000 in
set_option maxHeartbeats 8000000 in
theorem open_any {w : World} {B : Nat} {ps : List Po} {a : Option Addr} {m : Nat} (hO : Own w B 58 21 poC (.slice a ps.length m) ps) (hm : ps.length ≤ m ∧ m ≤ maxLen) :
    Calls Tryd.prog 30 #[.slice a ps.length m] w fun e w' => e = .returned (.int .u32 (openM ps ps.length : Nat)) ∧ Below w.heap.size w w' := by
  have HO := Lib.hid hO
  have K := Lib.hid (Kb.nil w)
  obtain ⟨n, hn⟩ : ∃ n, n = ps.length := ⟨_, rfl⟩
  rw [← hn]
  have HN := Lib.hid hn
  have i1 : (n : Int) ≤ 9223372036854775807 := by rw [hn]; unfold maxLen at hm; omega
  have i2 : (n : Int) ≤ (m : Int) := by omega
  clear hO hm hn
  go_enter Tryd.func30, Tryd.ntmps30
  go_upto_region 2 with fail
  refine wp_region_lit ?_
  refine wv (.slice a n m) ?_
  (try simp only [Act.put, gA, gS, gZ, sA, sZ, sS])
  refine wv (.int .i64 (n : Nat)) ?_
  (try simp only [Act.put, gA, gS, gZ, sA, sZ, sS])
  refine wv (.int .i64 0) ?_
  (try simp only [Act.put, gA, gS, gZ, sA, sZ, sS])
  refine wpList_nil ?_
  go_upto_region 3 with fail
  go_loopw [3, 8] (fun s i wr => ∃ k : Nat, k ≤ n ∧ s = .int .u32 (openM ps k : Nat) ∧ i = .int .i64 k ∧ Below w.heap.size w wr) (fun _ i _ => n - (intOf i).toNat)
  case atStart => exact ⟨0, Nat.zero_le _, rfl, rfl, Below.refl _ _⟩
  case round =>
    obtain ⟨k, hk, rfl, rfl, hB⟩ := hrel
    have HB := Lib.hid hB
    clear hB
    by_cases hlt : k < n
    · obtain ⟨p, hp⟩ : ∃ p, ps[k]? = some p := ⟨_, List.getElem?_eq_getElem (by rw [← HN.out]; exact hlt)⟩
      obtain ⟨g, hg, -, -, hrow⟩ := HO.out.elem po_len hp
      subst hg
      have HROW := Lib.hid (fun W (hW : Below wr.heap.size wr W) => hrow W (HB.out.trans (hW.mono HB.out.size)))
      have KR := Lib.hid (Kb.nil wr)
      have c2 : (0 : Int) ≤ (k : Int) := by omega
      have c3 : (k : Int) < (n : Int) := by omega
      have c6 : (k : Int) ≤ 9223372036854775807 := by omega
      obtain ⟨od, hod⟩ : ∃ od, od = onP p := ⟨_, rfl⟩
      have HON := Lib.hid (show ∀ W : World, Calls Tryd.prog 9 #[poV p] W fun e w' => e = .returned (.bool od) ∧ Below W.heap.size W w' from fun W => by rw [hod]; exact on_any p W)
      have HS := Lib.hid (show openM ps (k + 1) = if onP p = true ∧ p.p11 = 2 then withS (openM ps k) ((k : Int) + 1) else openM ps k by rw [openM, hp])
      have HOD := Lib.hid hod
      have HOM := Lib.hid (openM_lt ps k)
      obtain ⟨s0, hs0⟩ : ∃ s0, s0 = openM ps k := ⟨_, rfl⟩
      rw [← hs0] at HS HOM ⊢
      clear hod hs0 hrow hp hk
      go_upto_region 4 with fail
      refine wp_region_lit ?_
      refine wv (.int .i64 (k : Nat)) ?_
      (try simp only [Act.put, gA, gS, gZ, sA, sZ, sS])
      refine wv (.pointer (some ⟨g, k * 21, none⟩)) ?_
      (try simp only [Act.put, gA, gS, gZ, sA, sZ, sS])
      refine wv (.agg (poA p)) ?_ (hrun := run_loadRange 58 _ rfl g (k * 21) rfl (poA p) _ (HROW.out _ KR.out.below) Tryd.underlying58 rfl (po_info _))
      (try simp only [Act.put, gA, gS, gZ, sA, sZ, sS])
      refine kb_alloc KR.out 58 (nil21) rfl z21 (by rfl) ?_
      intro b6 w6 hb6 hk
      have K6 := Lib.hid (show Kb wr [(b6, nil21, 58)] w6 from hk)
      clear hk hb6
      (try simp only [Act.put, gA, gS, gZ, sA, sZ, sS])
      refine wv (.int .i64 (k : Nat)) ?_
      (try simp only [Act.put, gA, gS, gZ, sA, sZ, sS])
      refine kb_row K6.out 0 rfl 58 _ _ (poA p) rfl rfl rfl rfl (po_info _) (by rfl) (po_all p) ?_
      intro w7 hk
      have K7 := Lib.hid (show Kb wr [(b6, poA p, 58)] w7 from hk)
      clear hk
      (try simp only [Act.put, gA, gS, gZ, sA, sZ, sS])
      refine wpList_nil ?_
      go_upto_region 5 with fail
      cases od with
      | false =>
        refine wp_region_lit ?_
        refine wv (.agg (poA p)) ?_ (hrun := kb_all K7.out 0 rfl 58 _ rfl rfl Tryd.underlying58 rfl (po_info _))
        (try simp only [Act.put, gA, gS, gZ, sA, sZ, sS])
        refine kb_call K7.out 9 #[.agg (poA p)] (.bool false) (by rfl) (by go_simp) (HON.out _) ?_
        intro w8 hk
        have K8 := Lib.hid (show Kb wr [(b6, poA p, 58)] w8 from hk)
        clear hk
        (try simp only [Act.put, gA, gS, gZ, sA, sZ, sS])
        refine wv (.bool false) ?_
        (try simp only [Act.put, gA, gS, gZ, sA, sZ, sS])
        refine wpList_skip (by kernel_rfl) ?_
        (try simp only [Act.put, gA, gS, gZ, sA, sZ, sS])
        refine wpList_skip (by kernel_rfl) ?_
        (try simp only [Act.put, gA, gS, gZ, sA, sZ, sS])
        refine wpList_skip (by kernel_rfl) ?_
        (try simp only [Act.put, gA, gS, gZ, sA, sZ, sS])
        refine wv (.bool false) ?_ (hrun := run_pick_no (.tmp 15) (.tmp 18) (.const (.bool false)) _ rfl rfl rfl)
        (try simp only [Act.put, gA, gS, gZ, sA, sZ, sS])
        refine wpList_nil ?_
        go_wp2_with fail
        go_roundw
        case rel => exact ⟨k + 1, by omega, by rw [HS.out, if_neg (fun h => by have := h.1.symm.trans HOD.out.symm; cases this)], by go_num, HB.out.trans (K8.out.below.mono HB.out.size)⟩
        case measure => simp [intOf]; omega
      | true =>
        by_cases c4 : p.p11 = 2
        · have HC4 := Lib.hid c4
          clear c4
          refine wp_region_lit ?_
          refine wv (.agg (poA p)) ?_ (hrun := kb_all K7.out 0 rfl 58 _ rfl rfl Tryd.underlying58 rfl (po_info _))
          (try simp only [Act.put, gA, gS, gZ, sA, sZ, sS])
          refine kb_call K7.out 9 #[.agg (poA p)] (.bool true) (by rfl) (by go_simp) (HON.out _) ?_
          intro w8 hk
          have K8 := Lib.hid (show Kb wr [(b6, poA p, 58)] w8 from hk)
          clear hk
          (try simp only [Act.put, gA, gS, gZ, sA, sZ, sS])
          refine wv (.bool true) ?_
          (try simp only [Act.put, gA, gS, gZ, sA, sZ, sS])
          refine wv (.pointer (some ⟨b6, 11, none⟩)) ?_
          (try simp only [Act.put, gA, gS, gZ, sA, sZ, sS])
          refine wv (.int .i64 p.p11) ?_ (hrun := by have q : w8.cell? ⟨b6, 11, none⟩ = some (.int .i64 p.p11) := K8.out.cell (i := 0) rfl (by rfl); go_simp)
          (try simp only [Act.put, gA, gS, gZ, sA, sZ, sS])
          refine wv (.bool true) ?_ (hrun := by have q := HC4.out; go_simp)
          (try simp only [Act.put, gA, gS, gZ, sA, sZ, sS])
          refine wv (.bool true) ?_ (hrun := run_pick_yes (.tmp 15) (.tmp 18) (.const (.bool false)) _ rfl rfl rfl)
          (try simp only [Act.put, gA, gS, gZ, sA, sZ, sS])
          refine wpList_nil ?_
          go_wp2_with (go_at_call 15; refine (pwith_any s0 _ _ HOM.out).mono ?_; rintro e w9 ⟨rfl, rfl⟩)
          go_roundw
          case rel => exact ⟨k + 1, by omega, by rw [HS.out, if_pos ⟨HOD.out.symm, HC4.out⟩], by go_num, HB.out.trans (K8.out.below.mono HB.out.size)⟩
          case measure => simp [intOf]; omega
        · have HC4 := Lib.hid (show decide (p.p11 = 2) = false from decide_eq_false c4)
          have HC5 := Lib.hid (show (p.p11 == 2) = false by simpa using c4)
          have HC6 := Lib.hid c4
          clear c4
          refine wp_region_lit ?_
          refine wv (.agg (poA p)) ?_ (hrun := kb_all K7.out 0 rfl 58 _ rfl rfl Tryd.underlying58 rfl (po_info _))
          (try simp only [Act.put, gA, gS, gZ, sA, sZ, sS])
          refine kb_call K7.out 9 #[.agg (poA p)] (.bool true) (by rfl) (by go_simp) (HON.out _) ?_
          intro w8 hk
          have K8 := Lib.hid (show Kb wr [(b6, poA p, 58)] w8 from hk)
          clear hk
          (try simp only [Act.put, gA, gS, gZ, sA, sZ, sS])
          refine wv (.bool true) ?_
          (try simp only [Act.put, gA, gS, gZ, sA, sZ, sS])
          refine wv (.pointer (some ⟨b6, 11, none⟩)) ?_
          (try simp only [Act.put, gA, gS, gZ, sA, sZ, sS])
          refine wv (.int .i64 p.p11) ?_ (hrun := by have q : w8.cell? ⟨b6, 11, none⟩ = some (.int .i64 p.p11) := K8.out.cell (i := 0) rfl (by rfl); go_simp)
          (try simp only [Act.put, gA, gS, gZ, sA, sZ, sS])
          refine wv (.bool false) ?_ (hrun := by have q := HC4.out; have q2 := HC5.out; go_simp)
          (try simp only [Act.put, gA, gS, gZ, sA, sZ, sS])
          refine wv (.bool false) ?_ (hrun := run_pick_yes (.tmp 15) (.tmp 18) (.const (.bool false)) _ rfl rfl rfl)
          (try simp only [Act.put, gA, gS, gZ, sA, sZ, sS])
          refine wpList_nil ?_
          go_wp2_with fail
          go_roundw
          case rel => exact ⟨k + 1, by omega, by rw [HS.out, if_neg (fun h => HC6.out h.2)], by go_num, HB.out.trans (K8.out.below.mono HB.out.size)⟩
          case measure => simp [intOf]; omega
    · have hk2 : k = n := by omega
      subst hk2
      go_wp2_with fail
      go_ret
      exact ⟨rfl, HB.out⟩
end
end Go.Proofs.YtelohoomlgjjmaaDoor
