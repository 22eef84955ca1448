import Derived.Test.YtccbdmccfbjmeaaDoorG6
set_option linter.unusedSimpArgs false
set_option linter.unusedVariables false
section
/- A verified evaluator: a region that draws its order, whole. -/
namespace Go.Proofs.YtccbdmccfbjmeaaDoor.Ev
open Go.RowKit

universe u
/-! Evaluated at once, not at each use. -/
def spine {α : Type u} {β : Type 1} : List α → (List α → β) → β
  | [], k => k []
  | x :: xs, k => spine xs fun ys => k (x :: ys)
theorem spine_eq {α : Type u} {β : Type 1} : ∀ (l : List α) (k : List α → β), spine l k = k l
  | [], _ => rfl
  | x :: xs, k => spine_eq xs _
def natK {β : Type 1} (n : Nat) (k : Nat → β) : β := match n with | 0 => k 0 | m + 1 => k (m + 1)
theorem natK_eq {β : Type 1} (n : Nat) (k : Nat → β) : natK n k = k n := by cases n <;> rfl
/-- A memory with its cells laid out. -/
def memK {β : Type 1} : Mem → (Mem → β) → β
  | [], k => k []
  | (cs, t) :: m, k => spine cs.toList fun l => memK m fun m' => k ((⟨l⟩, t) :: m')
theorem memK_eq {β : Type 1} : ∀ (m : Mem) (k : Mem → β), memK m k = k m
  | [], _ => rfl
  | (cs, t) :: m, k => by
    show spine cs.toList _ = _
    rw [spine_eq, memK_eq m]
def svK {β : Type 1} (sv : SV) (k : SV → β) : β := match sv with
  | .v x => k (.v x)
  | .u => k .u
  | .s l n => natK l fun l => k (.s l n)
  | .g n f => natK n fun n => k (.g n f)
  | .p l o => natK l fun l => natK o fun o => k (.p l o)
theorem svK_eq {β : Type 1} (sv : SV) (k : SV → β) : svK sv k = k sv := by
  cases sv with
  | v x => rfl
  | u => rfl
  | s l n => unfold svK; simp only [natK_eq]
  | g n f => unfold svK; simp only [natK_eq]
  | p l o => unfold svK; simp only [natK_eq]
def ancsK {β : Type 1} (ops : Array Oper) : Nat → (List Nat → β) → β
  | 0, k => k []
  | n + 1, k => ancsK ops n fun acc => natK (maskOf acc (afters ops n)) fun x => spine (acc ++ [x]) k
theorem ancsK_eq {β : Type 1} (ops : Array Oper) : ∀ (n : Nat) (k : List Nat → β), ancsK ops n k = k (ancs ops n)
  | 0, _ => rfl
  | n + 1, k => by
    show ancsK ops n _ = _
    rw [ancsK_eq ops n, natK_eq, spine_eq]
    rfl
def isGuard (ops : Array Oper) (i : Nat) : Bool := ops.toList.any fun o => match o.guard with | some (j, _) => j == i | none => false
section
variable {P : Program} {ops : Array Oper} {fr : List SV} {ct : Ct P} {β0 : List Nat} {w0 : World} {F : Fm} {a : Act} {t : List Nat} {L : Nat → Bool} {w : World} {i : Nat} {o : Oper}
theorem view_is (hf : ∀ (i : Nat) (sv : SV), fr[i]? = some sv → sv.ok β0 (a.tmps.getD i undef)) (hsz : a.tmps.size = fr.length) (hwf : ∀ sv ∈ fr, sv.lt β0.length) (x : Operand) (hkn : (sview ops fr ct.sv i x).known = true) : view ops (vsD ct β0 t) a i x = (sview ops fr ct.sv i x).den (β0 ++ t) := by
  have key : ∀ u, (fr.getD u (.v undef)).known = true → a.tmps.getD u undef = (fr.getD u (.v undef)).den (β0 ++ t) := fun u hu => by
    rw [List.getD_eq_getElem?_getD] at hu ⊢
    cases c : fr[u]? with
    | none =>
      rw [Array.getD_eq_getD_getElem?, Array.getElem?_eq_none (by rw [hsz]; exact List.getElem?_eq_none_iff.1 c)]
      rfl
    | some sv =>
      rw [c] at hu
      have q := SV.ok_den (hf u sv c) hu
      rw [q]
      exact (SV.den_app (hwf sv (List.mem_of_getElem? c)) rfl t).symm
  cases x with
  | tmp u =>
    unfold view
    unfold sview at hkn ⊢
    dsimp only at hkn ⊢
    cases e : wrOf ops u with
    | none => rw [e] at hkn; exact key u hkn
    | some j =>
      rw [e] at hkn
      dsimp only at hkn ⊢
      cases c : (afters ops i).contains j with
      | true => rfl
      | false => rw [c] at hkn; exact key u hkn
  | _ => rfl
def isG : SV → Bool
  | .g .. => true
  | _ => false
def gdOk (ct : Ct P) (o : Oper) : Bool := match o.guard with | some (j, _) => !isG (ct.sv j) | none => true
theorem want_is (hg : gdOk ct o = true) : wantV (vsD ct β0 t) o = wantD ct.sv o := by
  unfold wantV wantD
  unfold gdOk at hg
  cases cg : o.guard with
  | none => rfl
  | some g =>
    obtain ⟨j, want⟩ := g
    rw [cg] at hg
    dsimp only at hg ⊢
    unfold vsD
    cases c : ct.sv j with
    | v x => cases x <;> rfl
    | p l o => rfl
    | s l o => rfl
    | g n f => rw [c] at hg; cases hg
    | u => rfl
structure Good (ops : Array Oper) (ct : Ct P) (n0 : Nat) : Prop where
  pw : pairUp ops (anO ops) ct.ws = true
  nd : ct.al.Nodup
  men : ∀ j l off, ct.sv j = .p l off → l < n0 ∨ ∃ q, ct.al[l - n0]? = some q ∧ (q = j ∨ up ops (anO ops) j q = true)
  menS : ∀ j l off, ct.sv j = .s l off → l < n0 ∨ ∃ q, ct.al[l - n0]? = some q ∧ (q = j ∨ up ops (anO ops) j q = true)
  menG : ∀ j n f, ct.sv j = .g n f → ∀ l, n0 ≤ l → l < n → ∃ q, ct.al[l - n0]? = some q ∧ (q = j ∨ up ops (anO ops) j q = true)
theorem plain_step (G : Good ops ct β0.length) (N : Now ops ct L i) (hk : ∀ β w, okk (plainChk ops fr β0.length ct (anO ops) i o β w)) (hC : CD ct β0 w0 F t L w) : Does P ct β0 w0 F t L i o (fun x => (sview ops fr ct.sv i x).den (β0 ++ t)) w := by
  unfold plainChk at hk
  cases c : asks o (sview ops fr ct.sv i) with
  | true => rw [c] at hk; exact does_told hC N hk
  | false =>
  rw [c] at hk
  simp only [cond_false] at hk
  split at hk
  · next ty x hop =>
    split at hk
    · next l off hx =>
      have q := hk [] default
      rw [okk_cons] at q
      obtain ⟨q1, q2⟩ := q
      injection q1 with q1
      exact does_load hop hx hC N q1 q2
    · exact (bad_no (hk [] default)).elim
  · next ty x y hop =>
    split at hk
    · next l off hx =>
      split at hk
      · next u cs ty0 hy hM =>
        have q := hk [] default
        simp only [okk_cons] at q
        obtain ⟨q1, q2, q3, q4, q5, q6, q7⟩ := q
        injection q1 with q1
        injection q2 with q2
        injection q3 with q3
        injection q4 with q4
        injection q5 with q5
        injection q6 with q6
        rw [Bool.and_eq_true] at q1
        obtain ⟨q0, q1⟩ := q1
        have q5 := of_decide_eq_true q5
        have hv := N.ver q1
        have hC2 := hC.2
        have hal := N.alive q0
        rw [hv] at hC2
        have e : mixD (β0 ++ t) β0.length ct.al L (ct.Ms.getD (ct.ws.idxOf i) []) F (2 * l) = some ((β0 ++ t).getD l 0, cs, ty0) := by rw [mixD_own, hal, hM]; rfl
        have hb := hC2.all _ _ e
        have hx' : (fun x => (sview ops fr ct.sv i x).den (β0 ++ t)) x = .pointer (some ⟨(β0 ++ t).getD l 0, off, none⟩) := by show (sview ops fr ct.sv i x).den _ = _; rw [hx]; rfl
        have hy' : (fun x => (sview ops fr ct.sv i x).den (β0 ++ t)) y = u := by show (sview ops fr ct.sv i y).den _ = _; rw [hy]; rfl
        have hs : (Instr.storeAt ty (.pointer (some ⟨(β0 ++ t).getD l 0, off, none⟩)) u).run P w = .ok () (w.setCells ((β0 ++ t).getD l 0) off u.cells.toList) := by
          have e2 := run_storeVar_any (P := P) w ((β0 ++ t).getD l 0) off ty u (hb.thereN off _ q5) q4 q6
          simp only [Instr.storeAt, Instr.sureAddr, Sem.run_bind, Sem.run_pure, Result.andThen_ok, e2]
        refine stepW_store hop hx' hy' hs ⟨t, fun _ _ => rfl, ?_, hC.write N q1 q2 q3 (Kf.mid hC2 e off _ fun j => ?_)⟩
        · rw [sv_rw, svIs_eq q7]; rfl
        · have hl := (List.getElem?_eq_some_iff.1 hM).1
          unfold mixD
          by_cases c : j % 2 = 0
          · rw [if_pos c, if_pos c]
            by_cases d : j / 2 = l
            · rw [if_pos (by omega), d, hal, List.getElem?_set_self hl]; rfl
            · rw [if_neg (by omega), List.getElem?_set_ne (fun e => d e.symm)]
          · rw [if_neg c, if_neg (by omega), if_neg c]
      · exact (bad_no (hk [] default)).elim
    · exact (bad_no (hk [] default)).elim
  · next ty x hop =>
    split at hk
    · next u hx =>
      have hx' : (fun x => (sview ops fr ct.sv i x).den (β0 ++ t)) x = u := by show (sview ops fr ct.sv i x).den _ = _; rw [hx]; rfl
      refine does_new hC N G.nd G.men G.menS G.menG (hk [] default) ?_
      unfold execOp
      simp only [hop, hx', Instr.box, Sem.run_bind, newVar, Sem.run_pure]
      rfl
    · exact (bad_no (hk [] default)).elim
  · next ty hop =>
    have q := hk [] w
    rw [okk_cons] at q
    obtain ⟨q1, q2⟩ := q
    injection q1 with q1
    refine does_new hC N G.nd G.men G.menS G.menG q2 ?_
    unfold execOp
    simp only [hop, Instr.alloc, Sem.run_bind, q1, Result.andThen_ok, newVar, Sem.run_pure]
    rfl
  · have q := hk (β0 ++ t) w
    rw [okk_cons] at q
    obtain ⟨q1, q2⟩ := q
    injection q1 with q1
    exact does_sl hC N G.nd G.men G.menS G.menG q2 q1
  · exact does_pure hC hk
theorem step_all (hf : ∀ (i : Nat) (sv : SV), fr[i]? = some sv → sv.ok β0 (a.tmps.getD i undef)) (hsz : a.tmps.size = fr.length) (hwf : ∀ sv ∈ fr, sv.lt β0.length) (G : Good ops ct β0.length) (ho : ops[i]? = some o) (hk : ∀ β w, okk (opChk ops fr β0.length ct (anO ops) i o β w))
    (hC : CD ct β0 w0 F t L w) (N : Now ops ct L i) (hg : gdOk ct o = true) :
    if wantV (vsD ct β0 t) o then Does P ct β0 w0 F t L i o (view ops (vsD ct β0 t) a i) w else undef = vsD ct β0 t i ∧ CD ct β0 w0 F t (upd L i) w := by
  rw [want_is hg]
  unfold opChk at hk
  cases c : wantD ct.sv o with
  | false =>
    rw [c] at hk
    have q := hk [] default
    simp only [cond_false, okk_cons] at q
    obtain ⟨q1, q2⟩ := q
    injection q1 with q1
    rw [if_neg (by simp)]
    refine ⟨?_, hC.stay q1 hC.2⟩
    rw [sv_rw, svIs_eq q2]
    rfl
  | true =>
    rw [c] at hk
    simp only [cond_true, okk_cons] at hk
    rw [if_pos rfl]
    have q := (hk [] default).1
    injection q with q
    exact step_known q (fun x hx => view_is hf hsz hwf x hx) (plain_step G N (fun β w => (hk β w).2) hC)
/-- The frame behind a region. -/
def putSs : List Oper → (Nat → SV) → Nat → List SV → List SV
  | [], _, _, fr => fr
  | o :: l, svs, i, fr => putSs l svs (i + 1) (match o.dst with | some d => fr.set d (svs i) | none => fr)
theorem putSs_ok (β : List Nat) : ∀ (l : List Oper) (svs : Nat → SV) (i : Nat) (fr : List SV) (t : Array Value), t.size = fr.length → (∀ (k : Nat) (sv : SV), fr[k]? = some sv → sv.ok β (t.getD k undef)) →
    (putsZ l ((List.range' i l.length).map fun j => (svs j).den β) t).size = (putSs l svs i fr).length ∧ ∀ (k : Nat) (sv : SV), (putSs l svs i fr)[k]? = some sv → sv.ok β ((putsZ l ((List.range' i l.length).map fun j => (svs j).den β) t).getD k undef)
  | [], svs, i, fr, t, hs, h => by rw [putsZ_nil]; exact ⟨hs, h⟩
  | o :: l, svs, i, fr, t, hs, h => by
    obtain ⟨d, op, ty, pos, aft, g⟩ := o
    rw [List.length_cons, List.range'_succ, List.map_cons]
    cases d with
    | none => rw [putsZ_none]; exact putSs_ok β l svs (i + 1) fr t hs h
    | some d =>
      rw [putsZ_some]
      refine putSs_ok β l svs (i + 1) (fr.set d (svs i)) _ (by simp [hs]) fun k sv hk => ?_
      rw [Array.getD_eq_getD_getElem?, Array.getElem?_setIfInBounds]
      by_cases c : d = k
      · subst c
        have hlt : d < fr.length := by have := (List.getElem?_eq_some_iff.1 hk).1; simpa using this
        rw [List.getElem?_set_self hlt] at hk
        injection hk with hk
        rw [if_pos rfl, if_pos (by rw [hs]; exact hlt), ← hk]
        exact SV.den_ok
      · rw [List.getElem?_set_ne c] at hk
        rw [if_neg c, ← Array.getD_eq_getD_getElem?]
        exact h k sv hk
theorem putSs_wf {n : Nat} (svs : Nat → SV) : ∀ (l : List Oper) (i : Nat) (fr : List SV), (∀ sv ∈ fr, sv.lt n) → (∀ i, (svs i).lt n) → ∀ sv ∈ putSs l svs i fr, sv.lt n
  | [], i, fr, h, _ => h
  | o :: l, i, fr, h, hs => by
    refine putSs_wf svs l (i + 1) _ ?_ hs
    cases o.dst with
    | none => exact h
    | some d =>
      intro sv hsv
      rcases List.mem_or_eq_of_mem_set hsv with q | q
      · exact h sv q
      · rw [q]; exact hs i
theorem take_all : ∀ (l : List Nat), l.takeWhile (fun _ => true) = l
  | [] => rfl
  | x :: l => by rw [List.takeWhile_cons, take_all l]; rfl
def nodupB : List Nat → Bool
  | [] => true
  | x :: xs => !xs.contains x && nodupB xs
theorem nodupB_is : ∀ {l : List Nat}, nodupB l = true → l.Nodup
  | [], _ => List.nodup_nil
  | x :: xs, h => by
    unfold nodupB at h
    rw [Bool.and_eq_true, Bool.not_eq_true'] at h
    refine List.nodup_cons.2 ⟨fun hx => ?_, nodupB_is h.2⟩
    rw [List.contains_iff_mem.2 hx] at h
    cases h.1
def menB (ops : Array Oper) (ct : Ct P) (an : List Nat) (n0 : Nat) : Bool := (List.range ct.raws.length).all fun j => match ct.sv j with | .v _ => true | .u => true | .p l _ => decide (l < n0) || (ct.al[l - n0]?).any (fun q => q == j || up ops an j q) | .s l _ => decide (l < n0) || (ct.al[l - n0]?).any  (fun q => q == j || up ops an j q) | .g n _ => (List.range n).all fun l => decide (l < n0) || (ct.al[l - n0]?).any (fun q => q == j || up ops an j q)
/-- What is to be looked at in a drawn region, but for its operations. -/
def drHead (P : Program) (ops : Array Oper) (s : St) (ct : Ct P) (an : List Nat) : List (Tk × Tk) :=
  (.b (rgOk P ops s.fr.length && (pairUp ops an ct.ws && (nodupB ct.al && ((ct.al.all (fun x => decide (x < ops.size)) && ct.ws.all (fun x => decide (x < ops.size))) && ((menB ops ct an s.m.length && ops.toList.all (gdOk ct)) && (ct.raws.length == ops.size && ((ct.Ms.getD ct.ws.length []).length == s.m.length + ct.al.length))))))), .b true) ::
  [(.m ((ct.Ms.getD 0 []).take s.m.length), .m s.m), (.d (ct.As.getD 0 []), .d s.A)]
def drChk (P : Program) (ops : Array Oper) (s : St) (ct : Ct P) (an : List Nat) (h : Nat → Bool) : Chk := fun β w =>
  drHead P ops s ct an ++ (List.range ops.size).flatMap fun i => match ops[i]? with | some o => (bif h i then [] else opChk ops s.fr s.m.length ct an i o β w) | none => []
def drEnd (ops : Array Oper) (s : St) (ct : Ct P) : St := ⟨putSs ops.toList ct.sv 0 s.fr, ct.Ms.getD ct.ws.length [], ct.As.getD ct.ws.length []⟩
structure HeadOk (P : Program) (ops : Array Oper) (s : St) (ct : Ct P) : Prop where
  rg : rgOk P ops s.fr.length = true
  pw : pairUp ops (anO ops) ct.ws = true
  nd : nodupB ct.al = true
  al : ∀ x ∈ ct.al, x < ops.size
  ws : ∀ x ∈ ct.ws, x < ops.size
  men : menB ops ct (anO ops) s.m.length = true
  gd : ∀ o ∈ ops.toList, gdOk ct o = true
  len : ct.raws.length = ops.size
  mlen : (ct.Ms.getD ct.ws.length []).length = s.m.length + ct.al.length
  m0 : (ct.Ms.getD 0 []).take s.m.length = s.m
  a0 : ct.As.getD 0 [] = s.A
theorem headOk {s : St} (q : okk (drHead P ops s ct (anO ops))) : HeadOk P ops s ct := by
  unfold drHead at q
  rw [okk_cons, okk_cons, okk_cons] at q
  obtain ⟨q1, q2, q3, -⟩ := q
  injection q1 with q1
  injection q2 with q2
  injection q3 with q3
  simp only [Bool.and_eq_true, beq_iff_eq] at q1
  obtain ⟨k1, k2, k3, ⟨k7, k8⟩, ⟨k4, k9⟩, k5, k6⟩ := q1
  rw [List.all_eq_true] at k7 k8 k9
  exact ⟨k1, k2, k3, fun x hx => of_decide_eq_true (k7 x hx), fun x hx => of_decide_eq_true (k8 x hx), k4, k9, k5, k6, q2, q3⟩
theorem HeadOk.good {s : St} (H : HeadOk P ops s ct) (hl : β0.length = s.m.length) : Good ops ct β0.length := by
  refine ⟨H.pw, nodupB_is H.nd, fun j l off e => ?_, fun j l off e => ?_, fun j n f e l h1 h2 => ?_⟩
  · have k4 := H.men
    unfold menB at k4
    rw [List.all_eq_true] at k4
    by_cases c : j < ct.raws.length
    · have q := k4 j (List.mem_range.2 c)
      rw [e] at q
      rw [hl]
      have q : (decide (l < s.m.length) || (ct.al[l - s.m.length]?).any (fun q => q == j || up ops (anO ops) j q)) = true := q
      rw [Bool.or_eq_true, decide_eq_true_iff] at q
      refine q.imp (fun h => h) fun q => ?_
      cases c2 : ct.al[l - s.m.length]? with
      | none => rw [c2] at q; cases q
      | some x =>
        rw [c2] at q
        refine ⟨x, rfl, ?_⟩
        have q : (x == j || up ops (anO ops) j x) = true := q
        rw [Bool.or_eq_true, beq_iff_eq] at q
        exact q
    · have e2 := finB_v _ _ _ _ e
      have := H.len
      rw [List.getD_eq_getElem?_getD (l := ct.raws), List.getElem?_eq_none (by omega)] at e2
      unfold rawB at e2
      split at e2 <;> cases e2
  · have k4 := H.men
    unfold menB at k4
    rw [List.all_eq_true] at k4
    by_cases c : j < ct.raws.length
    · have q := k4 j (List.mem_range.2 c)
      rw [e] at q
      rw [hl]
      have q : (decide (l < s.m.length) || (ct.al[l - s.m.length]?).any (fun q => q == j || up ops (anO ops) j q)) = true := q
      rw [Bool.or_eq_true, decide_eq_true_iff] at q
      refine q.imp (fun h => h) fun q => ?_
      cases c2 : ct.al[l - s.m.length]? with
      | none => rw [c2] at q; cases q
      | some x =>
        rw [c2] at q
        refine ⟨x, rfl, ?_⟩
        have q : (x == j || up ops (anO ops) j x) = true := q
        rw [Bool.or_eq_true, beq_iff_eq] at q
        exact q
    · have e2 := finB_s _ _ _ _ e
      have := H.len
      rw [List.getD_eq_getElem?_getD (l := ct.raws), List.getElem?_eq_none (by omega)] at e2
      unfold rawB at e2
      split at e2 <;> cases e2
  · have k4 := H.men
    unfold menB at k4
    rw [List.all_eq_true] at k4
    by_cases c : j < ct.raws.length
    · have q := k4 j (List.mem_range.2 c)
      rw [e] at q
      rw [hl] at h1 ⊢
      have q : ((List.range n).all fun l => decide (l < s.m.length) || (ct.al[l - s.m.length]?).any (fun q => q == j || up ops (anO ops) j q)) = true := q
      rw [List.all_eq_true] at q
      have q := q l (List.mem_range.2 h2)
      rw [Bool.or_eq_true, decide_eq_true_iff] at q
      have q := q.resolve_left (by omega)
      cases c2 : ct.al[l - s.m.length]? with
      | none => rw [c2] at q; cases q
      | some x =>
        rw [c2] at q
        refine ⟨x, rfl, ?_⟩
        have q : (x == j || up ops (anO ops) j x) = true := q
        rw [Bool.or_eq_true, beq_iff_eq] at q
        exact q
    · have e2 := finB_g _ _ _ _ e
      have := H.len
      rw [List.getD_eq_getElem?_getD (l := ct.raws), List.getElem?_eq_none (by omega)] at e2
      unfold rawB at e2
      split at e2 <;> cases e2
/-- A hole of a drawn region: E is what it may come to. -/
structure HoleOk (P : Program) (ops : Array Oper) (s : St) (Y : Type u) (ct : Y → Ct P) (y : Y) (h : Nat) (o : Oper) (E : Y → Prop) (c0 : Ct P) : Prop where
  e : E y
  ws : ∀ y', E y' → (ct y').ws = (ct y).ws
  al : ∀ y', E y' → (ct y').al = (ct y).al
  sv : ∀ y' j, E y' → j ≠ h → up ops (anO ops) j h = false → (ct y').sv j = c0.sv j
  M : ∀ y', E y' → (ct y').Ms.getD ((ct y).ws.idxOf h) [] = (ct y).Ms.getD ((ct y).ws.idxOf h) []
  A : ∀ y', E y' → (ct y').As.getD ((ct y).ws.idxOf h) [] = (ct y).As.getD ((ct y).ws.idxOf h) []
  wn : wantD (ct y).sv o = true ∧ knows o (sview ops s.fr (ct y).sv h) = true
  ok : ∃ (wh : Wh) (lo : List (Nat × Array Value × TypeId)) (p : Nat) (A : Bds) (A' : Y → Bds) (v : Y → Value),
    (∀ w0 F R β w, (∀ x ∈ lo, ∃ k, F k = some (β.getD x.1 0, x.2)) → Kf w0 F ((sepL A).sep R) w → whStep P wh β (fun u w' => ∃ y, E y ∧ u = v y ∧ Kf w0 F ((sepL (A' y)).sep R) w') w) ∧
    ∀ y', E y' → ∀ β w, okk (holeChk ops s.m.length (ct y') (anO ops) o (sview ops s.fr c0.sv h) h wh lo p A (A' y') (v y') ((ct y').rw h) β w)
theorem drawn_sound {s : St} {id : Nat} {Y : Type u} (y0 : Y) {ct : Y → Ct P} {h : Y → Nat → Bool} (hk : ∀ y β w, okk (drChk P ops s (ct y) (anO ops) (h y) β w)) (hh : ∀ y i o, ops[i]? = some o → h y i = true → ∃ E c0, HoleOk P ops s Y ct y i o E c0) (R : Rel w0 F β0 s a w) (Q : Exit → Act → World → Prop)
    (hQ : ∀ y t a' w', Rel w0 F (β0 ++ t) (drEnd ops s (ct y)) a' w' → Q .normal a' w') : (Code.region id ops true).wp P Q a w := by
  have H : ∀ y, HeadOk P ops s (ct y) := fun y => headOk (okk_app.1 (hk y [] default)).1
  have hsz : a.tmps.size = s.fr.length := R.sz
  have k1 := (H y0).rg
  rw [← hsz] at k1
  unfold rgOk at k1
  simp only [Bool.and_eq_true] at k1
  obtain ⟨⟨⟨⟨⟨r1, r2⟩, r3⟩, r4⟩, r5⟩, r6⟩ := k1
  have hwf : ∀ sv ∈ s.fr, sv.lt β0.length := by rw [R.len]; exact R.wf
  have G : ∀ y, Good ops (ct y) β0.length := fun y => (H y).good R.len
  refine region_holes (σ := List Nat × Y) (fun z => vsD (ct z.2) β0 z.1) (fun z => CD (ct z.2) β0 w0 F z.1) (List.replicate (ct y0).al.length 0, y0) r1 r2 r3 r4 r5 r6 ⟨by simp, ?_⟩ ?_ ?_
  · have ev0 : ver (ct y0).ws (fun _ => false) = 0 := by
      unfold ver
      cases (ct y0).ws <;> rfl
    rw [ev0, (H y0).a0]
    refine Kf.eq (Kf.drew R.k) fun l => ?_
    unfold mixD mix
    split
    · have ha : Ev.alive β0.length (ct y0).al (fun _ => false) (l / 2) = decide (l / 2 < β0.length) := by
        unfold Ev.alive
        cases (ct y0).al[l / 2 - β0.length]? <;> simp
      rw [ha]
      by_cases c : l / 2 < s.m.length
      · rw [show decide (l / 2 < β0.length) = true by rw [R.len]; simpa using c]
        have : ((ct y0).Ms.getD 0 [])[l / 2]? = s.m[l / 2]? := by
          conv => rhs; rw [← (H y0).m0]
          rw [List.getElem?_take_of_lt c]
        rw [this, List.getD_eq_getElem?_getD, List.getD_eq_getElem?_getD, List.getElem?_append_left (by rw [R.len]; exact c)]
        rfl
      · have hn : s.m[l / 2]? = none := List.getElem?_eq_none (by omega)
        rw [show decide (l / 2 < β0.length) = false by rw [R.len]; simpa using c, hn]
        rfl
    · rfl
  · rintro i o ho ⟨t, y⟩ L w hC hL ha hdc
    have hi := (Array.getElem?_eq_some_iff.1 ho).1
    have N : ∀ y, Now ops (ct y) L i := fun y => now_of hL hi ha hdc (H y).pw
    by_cases c : h y i = true
    · obtain ⟨E, c0, X⟩ := hh y i o ho c
      obtain ⟨wh, lo, p, A, A', v, hsp, hck⟩ := X.ok
      rw [← R.len] at hck
      have hno : ∀ j, L j = true → j ≠ i ∧ up ops (anO ops) j i = false := fun j hj => by
        refine ⟨fun e => (by subst e; rw [hL] at hj; cases hj), ?_⟩
        cases c3 : up ops (anO ops) j i with
        | false => rfl
        | true => rw [(N y).af j c3] at hj; cases hj
      have e : ∀ x, sview ops s.fr (ct y).sv i x = sview ops s.fr c0.sv i x := fun x => by
        cases x with
        | tmp u =>
          unfold sview
          dsimp only
          cases e : wrOf ops u with
          | none => rfl
          | some j =>
            dsimp only
            cases c2 : (afters ops i).contains j with
            | false => rfl
            | true =>
              have hj := hno j (ha j (by simpa using c2))
              exact X.sv y j X.e hj.1 hj.2
        | _ => rfl
      obtain ⟨wn, kn⟩ := X.wn
      rw [if_pos (by rw [want_is ((H y).gd o (by simpa using Array.mem_of_getElem? ho))]; exact wn)]
      refine step_known kn (fun x hx => view_is R.fr hsz hwf x hx) ?_
      rw [show (fun x => (sview ops s.fr (ct y).sv i x).den (β0 ++ t)) = fun x => (sview ops s.fr c0.sv i x).den (β0 ++ t) from funext fun x => by rw [e x]]
      have q := does_hole (P := P) (o := o) (t := t) (w := w) (y := y) (F := F) (w0 := w0) X.e hC N hsp hck X.ws X.al X.M X.A
      refine stepS_mono q fun u w' ⟨y', hE, e1, e2⟩ => ⟨(t, y'), fun j hj => ?_, e1, e2⟩
      have hj := hno j hj
      show vsD (ct y) β0 t j = vsD (ct y') β0 t j
      unfold vsD
      rw [X.sv y j X.e hj.1 hj.2, X.sv y' j hE hj.1 hj.2]
    · have hop : ∀ β w, okk (opChk ops s.fr β0.length (ct y) (anO ops) i o β w) := fun β w => by
        have q := okk_flat (okk_app.1 (hk y β w)).2 (List.mem_range.2 hi)
        rw [ho] at q
        have q : okk (bif h y i then [] else opChk ops s.fr s.m.length (ct y) (anO ops) i o β w) := q
        rw [show h y i = false by simpa using c] at q
        rw [R.len]
        exact q
      have q := step_all R.fr hsz hwf (G y) ho hop hC (N y) ((H y).gd o (by simpa using Array.mem_of_getElem? ho))
      revert q
      show (if wantV (vsD (ct y) β0 t) o = true then _ else _) → (if wantV (vsD (ct y) β0 t) o = true then _ else _)
      intro q
      cases cw : wantV (vsD (ct y) β0 t) o with
      | false =>
        rw [cw, if_neg (by simp)] at q
        rw [if_neg (by simp)]
        exact q
      | true =>
        rw [cw, if_pos rfl] at q
        rw [if_pos rfl]
        exact stepS_mono q fun u w' ⟨t', e1, e2, e3⟩ => ⟨(t', y), e1, e2, e3⟩
  · rintro ⟨t, y⟩ L w hC hall
    have hC : CD (ct y) β0 w0 F t L w := hC
    have hpl : ∀ l, l < s.m.length + (ct y).al.length → Ev.alive β0.length (ct y).al L l = true := fun l hl => by
      unfold Ev.alive
      rw [Bool.or_eq_true, decide_eq_true_iff, R.len]
      by_cases c : l < s.m.length
      · exact .inl c
      · right
        have hlt : l - s.m.length < (ct y).al.length := by omega
        rw [List.getElem?_eq_getElem hlt]
        exact hall _ ((H y).al _ (List.getElem_mem hlt))
    have hv : ver (ct y).ws L = (ct y).ws.length := by
      unfold ver
      rw [take_congr (q := fun _ => true) fun x hx => hall x ((H y).ws x hx), take_all]
    have hC2 := hC.2
    rw [hv] at hC2
    have e2 : rgF ops (vsD (ct y) β0 t) a (fun _ => true) = { a with tmps := putsZ ops.toList ((List.range' 0 ops.size).map fun j => ((ct y).sv j).den (β0 ++ t)) a.tmps } := by
      have e2 : rgF ops (vsD (ct y) β0 t) a (fun _ => true) = rgF ops (vsOf ((List.range' 0 ops.size).map fun j => ((ct y).sv j).den (β0 ++ t))) a (fun _ => true) := by
        rw [rgF_all (L' := fun i => decide (i < ops.size)) (fun i hi => by simpa using hi), rgF_all (L := fun _ => true) (vs := vsOf _) (L' := fun i => decide (i < ops.size)) (fun i hi => by simpa using hi)]
        refine rgF_agree fun j hj => ?_
        have hj := of_decide_eq_true hj
        unfold vsOf
        rw [Array.getD_eq_getD_getElem?, List.getElem?_toArray, List.getElem?_map, List.getElem?_range' hj]
        simp
        rfl
      rw [e2, rgF_puts r3 (by simp)]
    have hfr : ∀ (i : Nat) (sv : SV), s.fr[i]? = some sv → sv.ok (β0 ++ t) (a.tmps.getD i undef) := fun i sv h => by
      have q := R.fr i sv h
      cases sv with
      | u => trivial
      | v x => exact q
      | p l o =>
        have q : a.tmps.getD i undef = (SV.p l o).den β0 := q
        show _ = (SV.p l o).den (β0 ++ t)
        rw [q, SV.den_app (hwf _ (List.mem_of_getElem? h)) rfl t]
      | s l o =>
        have q : a.tmps.getD i undef = (SV.s l o).den β0 := q
        show _ = (SV.s l o).den (β0 ++ t)
        rw [q, SV.den_app (hwf _ (List.mem_of_getElem? h)) rfl t]
      | g n f =>
        have q : a.tmps.getD i undef = (SV.g n f).den β0 := q
        show _ = (SV.g n f).den (β0 ++ t)
        rw [q, SV.den_app (hwf _ (List.mem_of_getElem? h)) rfl t]
    have key := putSs_ok (β0 ++ t) ops.toList (ct y).sv 0 s.fr a.tmps hsz hfr
    rw [Array.length_toList] at key
    show Q .normal (rgF ops (vsD (ct y) β0 t) a fun _ => true) w
    rw [e2]
    have hlen : (β0 ++ t).length = (drEnd ops s (ct y)).m.length := by
      rw [List.length_append, hC.1, R.len]
      exact (H y).mlen.symm
    refine hQ y t _ w ⟨key.1, key.2, R.df, hlen, ?_, ?_⟩
    · have hml := (H y).mlen
      refine putSs_wf _ _ _ _ (fun sv hsv => SV.lt_mono (R.wf sv hsv) ?_) fun i => ?_
      · show s.m.length ≤ ((ct y).Ms.getD (ct y).ws.length []).length
        omega
      · cases e : (ct y).sv i with
        | v x => trivial
        | u => trivial
        | p l off =>
          show l < ((ct y).Ms.getD (ct y).ws.length []).length
          rcases (G y).men i l off e with q | ⟨x, q, -⟩
          · rw [R.len] at q; omega
          · have := (List.getElem?_eq_some_iff.1 q).1
            rw [R.len] at this
            omega
        | s l off =>
          show l < ((ct y).Ms.getD (ct y).ws.length []).length
          rcases (G y).menS i l off e with q | ⟨x, q, -⟩
          · rw [R.len] at q; omega
          · have := (List.getElem?_eq_some_iff.1 q).1
            rw [R.len] at this
            omega
        | g n f =>
          show n ≤ ((ct y).Ms.getD (ct y).ws.length []).length
          by_cases c : n ≤ s.m.length
          · omega
          · obtain ⟨x, q, -⟩ := (G y).menG i n f e (n - 1) (by rw [R.len]; omega) (by omega)
            have := (List.getElem?_eq_some_iff.1 q).1
            rw [R.len] at this
            omega
    · refine Kf.eq hC2 fun l => ?_
      have hml := (H y).mlen
      unfold mixD mix
      split
      · by_cases c : l / 2 < s.m.length + (ct y).al.length
        · rw [hpl _ c]; rfl
        · have hn : ((ct y).Ms.getD (ct y).ws.length [])[l / 2]? = none := List.getElem?_eq_none (by omega)
          show Option.map _ (((ct y).Ms.getD (ct y).ws.length [])[l / 2]?) = _
          rw [hn]
          cases Ev.alive β0.length (ct y).al L (l / 2) <;> rfl
      · rfl
end
end Go.Proofs.YtccbdmccfbjmeaaDoor.Ev
end
section
/- A verified evaluator: code, step by step. -/
namespace Go.Proofs.YtccbdmccfbjmeaaDoor.Ev
open Go.RowKit

/-- What is to be looked at, as two lists that have to be the same. -/
abbrev Pr := List Nat → World → List Tk × List Tk
def okP (p : Pr) : Prop := ∀ β w, (p β w).1 = (p β w).2
def Pr.and (k : Chk) (p : Pr) : Pr := fun β w => ((k β w).map Prod.fst ++ (p β w).1, (k β w).map Prod.snd ++ (p β w).2)
def Pr.all (Y : Type) (p : Y → Pr) : Pr := fun β w => ([.fn Y fun y => (p y β w).1], [.fn Y fun y => (p y β w).2])
def Pr.both (p r : Pr) : Pr := fun β w => ((p β w).1 ++ (r β w).1, (p β w).2 ++ (r β w).2)
def Pr.no : Pr := fun _ _ => ([.b false], [.b true])
theorem okP_and {k : Chk} {p : Pr} (h : okP (Pr.and k p)) : (∀ β w, okk (k β w)) ∧ okP p :=
  ⟨fun β w => (List.append_inj (h β w) (by simp)).1, fun β w => (List.append_inj (h β w) (by simp)).2⟩
theorem okP_all {Y : Type} {p : Y → Pr} (h : okP (Pr.all Y p)) (y : Y) : okP (p y) := fun β w => by
  have q := h β w
  unfold Pr.all at q
  simp only [List.cons.injEq, Tk.fn.injEq, heq_eq_eq, true_and, and_true] at q
  exact congrFun q y
theorem okP_no (h : okP Pr.no) : False := by
  have q := h [] default
  unfold Pr.no at q
  simp at q
section
variable (P : Program)
/-- What is gathered, while a drawn region is gone through in the text's order. -/
structure Acc where
  raws : List SV
  bs : List (Option (Ora P))
  os : List (Option (Ora P))
  vers : List (Mem × Bds)
  m : Mem
  A : Bds
  r : List (Ora P)
  ws : List Nat
  al : List Nat
inductive AR where
  | done (acc : Acc P)
  | hole (i : Nat) (o : Oper) (l : List Oper) (acc : Acc P)
  | no
def isNew : Op → Bool
  | .box .. | .alloc .. | .buildSlice .. => true
  | _ => false
def isWr (ρ : Operand → SV) : Op → Bool
  | .store _ x _ => match ρ x with | .p .. => true | _ => false
  | _ => false
def wrOr : List (Ora P) → Bool
  | .x rd .. :: _ => !rd
  | .y .. :: _ => true
  | _ => false
def addTo (ops : Array Oper) (i : Nat) (o : Oper) (ρ : Operand → SV) (acc : Acc P) (sv : SV) (m' : Mem) (A' : Bds) (b : Option (Ora P)) (r2 : List (Ora P)) : Acc P :=
  let wr := bif asks o ρ then wrOr P acc.r else isWr ρ o.op
  let vers := bif isNew o.op then acc.vers.map (fun x => (x.1 ++ m'.drop acc.m.length, x.2)) else acc.vers
  ⟨acc.raws ++ [sv], acc.bs ++ [b], acc.os ++ [bif asks o ρ then acc.r.head? else none], bif wr then vers ++ [(m', A')] else vers, m', A', r2, bif wr then acc.ws ++ [i] else acc.ws, bif isNew o.op then acc.al ++ [i] else acc.al⟩
def accOp (ops : Array Oper) (fr : List SV) (i : Nat) (o : Oper) (l : List Oper) (acc : Acc P) : AR P :=
  let svs := fun j => finB (acc.bs.getD j none) (acc.raws.getD j (.v undef))
  bif wantD svs o then
    match bif asksR P o (sview ops fr svs i) acc.r then acc.r else [] with
    | .e .. :: _ => .hole i o l acc
    | _ =>
    match evOp P o (sview ops fr svs i) acc.m acc.A acc.r with
    | some (sv, m', A', r', _) => svK sv fun sv => memK m' fun m' =>
      bif isGuard ops i then
        match r' with
        | .b c v h :: r2 => .done (addTo P ops i o (sview ops fr svs i) acc sv m' A' (some (.b c v h)) r2)
        | _ => .no
      else bif isAr o.op then
        match r' with
        | .r v0 v1 h :: r2 => .done (addTo P ops i o (sview ops fr svs i) acc sv m' A' (some (.r v0 v1 h)) r2)
        | .k :: r2 => .done (addTo P ops i o (sview ops fr svs i) acc sv m' A' none r2)
        | _ => .done (addTo P ops i o (sview ops fr svs i) acc sv m' A' none r')
      else .done (addTo P ops i o (sview ops fr svs i) acc sv m' A' none r')
    | none => .no
  else .done { acc with raws := acc.raws ++ [.v undef], bs := acc.bs ++ [none], os := acc.os ++ [none] }
def accAll (ops : Array Oper) (fr : List SV) : Nat → List Oper → Acc P → AR P
  | _, [], acc => .done acc
  | i, o :: l, acc =>
    match accOp P ops fr i o l acc with
    | .done ⟨raws, bs, os, vers, m, A, r, ws, al⟩ => spine raws fun raws => spine bs fun bs => spine os fun os => spine vers fun vers => spine r fun r => spine ws fun ws => spine al fun al => accAll ops fr (i + 1) l ⟨raws, bs, os, vers, m, A, r, ws, al⟩
    | .hole i o l acc => .hole i o l acc
    | .no => .no
/-- The certificate: each version of memory holds what comes later, too. -/
def ctOf (acc : Acc P) : Ct P :=
  ⟨acc.raws, acc.bs, acc.os, acc.vers.map (fun x => x.1 ++ (acc.m.drop x.1.length)), acc.vers.map (·.2), acc.ws, acc.al⟩
/-- Behind a hole. -/
def nextAR (ops : Array Oper) (fr : List SV) (i : Nat) (l : List Oper) (acc : Acc P) (p : Nat) (A A1 : Bds) (v : Value) (rest : List (Ora P)) : AR P :=
  accAll P ops fr (i + 1) l ⟨acc.raws ++ [.v v], acc.bs ++ [none], acc.os ++ [none], acc.vers ++ [(acc.m, setB acc.A A A1 p)], acc.m, setB acc.A A A1 p, rest, acc.ws ++ [i], acc.al⟩
/-- A hole, what it is and what it has come to; c0: what is told ahead of it. -/
structure HD where
  i : Nat
  c0 : Ct P
  wh : Wh
  lo : List (Nat × Array Value × TypeId)
  p : Nat
  A : Bds
  A1 : Bds
  v : Value
def dflt (ops : Array Oper) (fr : List SV) : Nat → AR P → Acc P
  | _, .done acc => acc
  | n + 1, .hole i o l acc => match acc.r with
    | .e _ y0 _ _ p A A' v _ rest :: _ => dflt ops fr n (nextAR P ops fr i l acc p A (A' y0) (v y0) (rest y0))
    | _ => ⟨[], [], [], [], [], [], [], [], []⟩
  | _, _ => ⟨[], [], [], [], [], [], [], [], []⟩
def evHoles (ops : Array Oper) (fr : List SV) (K : Acc P → List (HD P) → Pr) : Nat → AR P → List (HD P) → Pr
  | _, .done acc, hd => K acc hd
  | n + 1, .hole i o l acc, hd => match acc.r with
    | .e Y y0 wh lo p A A' v _ rest :: _ => Pr.all Y fun y => evHoles ops fr K n (nextAR P ops fr i l acc p A (A' y) (v y) (rest y)) (hd ++ [⟨i, ctOf P (dflt P ops fr n (nextAR P ops fr i l acc p A (A' y0) (v y0) (rest y0))), wh, lo, p, A, A' y, v y⟩])
    | _ => Pr.no
  | _, _, _ => Pr.no
/-- A hole is told of by nothing ahead of it. -/
def depChk (ops : Array Oper) (an : List Nat) (h : Nat) (c0 c : Ct P) : List (Tk × Tk) :=
  (.nl c.ws, .nl c0.ws) :: (.nl c.al, .nl c0.al) :: (.m (c.Ms.getD (c0.ws.idxOf h) []), .m (c0.Ms.getD (c0.ws.idxOf h) [])) :: (.d (c.As.getD (c0.ws.idxOf h) []), .d (c0.As.getD (c0.ws.idxOf h) [])) ::
  (.n (some (max c.raws.length c.bs.length)), .n (some ops.size)) :: (.n (some (max c0.raws.length c0.bs.length)), .n (some ops.size)) :: (List.range ops.size).map fun j => (Tk.f (bif j == h || up ops an j h then [] else [c.sv j]), Tk.f (bif j == h || up ops an j h then [] else [c0.sv j]))
def isHole (hd : List (HD P)) (i : Nat) : Bool := hd.any fun d => d.i == i
def hdChk (ops : Array Oper) (s : St) (ct : Ct P) (an : List Nat) (d : HD P) : Chk := fun β w =>
  depChk P ops an d.i d.c0 ct ++ ((.b (ops[d.i]?.any (fun o => wantD ct.sv o && knows o (sview ops s.fr ct.sv d.i))), .b true) ::
    (match ops[d.i]? with | some o => holeChk ops s.m.length ct an o (sview ops s.fr d.c0.sv d.i) d.i d.wh d.lo d.p d.A d.A1 d.v (ct.rw d.i) β w | none => []))
def evDK (ops : Array Oper) (s : St) (an : List Nat) (K : St → List (Ora P) → Pr) (acc : Acc P) (hd : List (HD P)) : Pr :=
  spine (ctOf P acc).Ms fun Ms => spine (ctOf P acc).As fun As =>
    (fun ct => Pr.and (fun β w => drChk P ops s ct an (isHole P hd) β w ++ hd.flatMap fun d => hdChk P ops s ct an d β w) (spine (drEnd ops s ct).fr fun fr => K ⟨fr, (drEnd ops s ct).m, (drEnd ops s ct).A⟩ acc.r)) (⟨acc.raws, acc.bs, acc.os, Ms, As, acc.ws, acc.al⟩ : Ct P)
def evD (ops : Array Oper) (s : St) (r : List (Ora P)) (K : St → List (Ora P) → Pr) : Pr :=
  ancsK ops ops.size fun an => evHoles P ops s.fr (evDK P ops s an K) ops.size (accAll P ops s.fr 0 ops.toList ⟨[], [], [], [(s.m, s.A)], s.m, s.A, r, [], []⟩) []
def putS (fr : List SV) (d : Option Tmp) (x : SV) : List SV := match d with | some d => fr.set d x | none => fr
def wantS (ops : Array Oper) (fr : List SV) (o : Oper) : Option Bool :=
  match o.guard with
  | none => some true
  | some (j, want) => match (ops[j]?).bind (·.dst) with
    | some d => match fr[d]? with
      | some (.v (.bool b)) => some (b == want)
      | some (.v _) => some false
      | _ => none
    | none => none
/-- What is said of owned things, or parted into cases, ahead of a step. -/
def evA : Nat → St → List (Ora P) → (St → List (Ora P) → Pr) → Pr
  | 0, s, r, K => K s r
  | n + 1, s, r, K => match r with
    | .a p A1 A2 _ :: r' => Pr.and (fun _ _ => atB s.A A1 p) (evA n ⟨s.fr, s.m, setB s.A A1 A2 p⟩ r' K)
    | .sp c t e :: _ => fun β w => ((Tk.fn (PLift (c = true)) fun h => (evA n s (t h.down) K β w).1) :: (Tk.fn (PLift (c = false)) fun h => (evA n s (e h.down) K β w).1) :: [], (Tk.fn (PLift (c = true)) fun h => (evA n s (t h.down) K β w).2) :: (Tk.fn (PLift (c = false)) fun h => (evA n s (e h.down) K β w).2) :: [])
    | .so α o f g :: _ => fun β w => ((Tk.fn (PLift (o = none)) fun h => (evA n s (f h.down) K β w).1) :: (Tk.fn (PSigma fun x : α => PLift (o = some x)) fun x => (evA n s (g x.1 x.2.down) K β w).1) :: [], (Tk.fn (PLift (o = none)) fun h => (evA n s (f h.down) K β w).2) :: (Tk.fn (PSigma fun x : α => PLift (o = some x)) fun x => (evA n s (g x.1 x.2.down) K β w).2) :: [])
    | .ob Y _ f :: _ => Pr.all Y fun y => evA n s (f y) K
    | .no _ :: _ => fun _ _ => ([], [])
    | .us p A1 Y q _ f :: _ => Pr.and (fun _ _ => atB s.A A1 p) (Pr.all (PSigma fun y : Y => PLift (q y)) fun z => evA n s (f z.1 z.2.down) K)
    | _ => K s r
def decB (ops : Array Oper) (i : Nat) (op : Op) (sv : SV) (r : List (Ora P)) : Option (SV × List (Ora P) × Chk) :=
  bif isGuard ops i then
    match r with
    | .b c v _ :: r' => some (.v (.bool v), r', fun β _ => [(.v (sv.den β), .v (.bool c))])
    | _ => none
  else bif isAr op then
    match r with
    | .r v0 v1 _ :: r' => some (.v v1, r', fun β _ => [(.v (sv.den β), .v v0)])
    | .k :: r' => some (sv, r', fun _ _ => [])
    | _ => some (sv, r, fun _ _ => [])
  else some (sv, r, fun _ _ => [])
def evL (ops : Array Oper) : Nat → List Oper → St → List (Ora P) → (St → List (Ora P) → Pr) → Pr
  | _, [], s, r, K => evA P 9 s r K
  | i, o :: l, s, r, K => evA P 9 s r fun s r =>
    match wantS ops s.fr o with
    | some true =>
      bif knows o (rhoS s.fr) then
        match bif asksR P o (rhoS s.fr) r then evH P o (rhoS s.fr) s.m s.A r else none with
        | some ⟨Y, f, k⟩ => Pr.and k (Pr.all Y fun y => svK (f y).1 fun sv => spine (putS s.fr o.dst sv) fun fr => memK (f y).2.1 fun m' => evL ops (i + 1) l ⟨fr, m', (f y).2.2.1⟩ (f y).2.2.2 K)
        | none =>
          match evOp P o (rhoS s.fr) s.m s.A r with
          | some (sv, m', A', r', k) =>
            match decB P ops i o.op sv r' with
            | some (sv', r2, k2) => Pr.and (fun β w => k β w ++ k2 β w) (svK sv' fun sv' => spine (putS s.fr o.dst sv') fun fr => memK m' fun m' => evL ops (i + 1) l ⟨fr, m', A'⟩ r2 K)
            | none => Pr.no
          | none => Pr.no
      else Pr.no
    | some false => spine (putS s.fr o.dst (.v undef)) fun fr => evL ops (i + 1) l ⟨fr, s.m, s.A⟩ r K
    | none => Pr.no
/-- Only what is told is kept. -/
def maskF : List SV → List SV → List SV
  | .u :: l, _ :: r => .u :: maskF l r
  | _ :: l, x :: r => x :: maskF l r
  | _, _ => []
def ltB (n : Nat) : SV → Bool
  | .p l _ => decide (l < n)
  | .s l _ => decide (l < n)
  | .g k _ => decide (k ≤ n)
  | _ => true
/-- Less is told. -/
def weakChk (q : Nat) (s s1 : St) : List (Tk × Tk) := [(.b (decide (q ≤ s1.m.length) && (s1.fr.length == s.fr.length && s1.fr.all (ltB s1.m.length))), .b true), (.f (maskF s1.fr s.fr), .f s1.fr), (.m (s.m.take s1.m.length), .m s1.m), (.d s.A, .d s1.A)]
def evLp (q : Nat) (c : Code) (s : St) (r : List (Ora P)) (K : Exit → St → List (Ora P) → Pr) : Pr :=
  match r with
  | .l q' c' s1 Y e s' _ rest :: _ =>
    Pr.and (fun _ _ => (.k c, .k c') :: (.b (decide (q ≤ q')), .b true) :: weakChk q s s1)
      (Pr.all Y fun y => Pr.and (fun _ _ => [(.b (decide (q ≤ (s' y).m.length)), .b true)]) (spine (s' y).fr fun fr => memK (s' y).m fun m => K e ⟨fr, m, (s' y).A⟩ (rest y)))
  | _ => Pr.no
/-- A test's outcome is known from then on. -/
def condF (fr : List SV) (c : Operand) (v : Bool) : List SV := match c with | .tmp t => fr.set t (.v (.bool v)) | _ => fr
def unbar {P : Program} : List (Ora P) → List (Ora P)
  | .bar :: r => r
  | r => r
def ev (q : Nat) : Code → St → List (Ora P) → (Exit → St → List (Ora P) → Pr) → Pr
  | .skip, s, r, K => K .normal s r
  | .label _, s, r, K => K .normal s r
  | .region _ ops d, s, r, K => evA P 9 s r fun s r => bif d then evD P ops s (unbar r) (K .normal) else evL P ops 0 ops.toList s (unbar r) (K .normal)
  | .seq x y, s, r, K => match r with
    | .t q' c' s1 Y e s' h rest :: _ => evLp P q (.seq x y) s [.l q' c' s1 Y e s' h rest] K
    | _ => ev q x s r fun e s' r' => match e with
      | .normal => ev q y s' r' K
      | e => K e s' r'
  | .cond c x y, s, r, K => evA P 9 s r fun s r =>
    match r with
    | .b t v _ :: r' => Pr.and (fun β _ => [(.v ((rhoS s.fr c).den β), .v (.bool t)), (.b (rhoS s.fr c).known, .b true)]) (spine (condF s.fr c v) fun fr => bif v then ev q x ⟨fr, s.m, s.A⟩ r' K else ev q y ⟨fr, s.m, s.A⟩ r' K)
    | _ => evLp P q (.cond c x y) s r K
  | .block id x, s, r, K => ev q x s r fun e s' r' => match e with
    | .exit id' => if id' = id then K .normal s' r' else K (.exit id') s' r'
    | e => K e s' r'
  | .exit id, s, r, K => K (.exit id) s r
  | .ret, s, r, K => K .ret s r
  | .loop x, s, r, K => evA P 9 s r fun s r => evLp P q (.loop x) s r K
  | .rangeFunc f ps ags x, s, r, K => evA P 9 s r fun s r => evLp P q (.rangeFunc f ps ags x) s r K
  | _, _, _, _ => Pr.no
end
end Go.Proofs.YtccbdmccfbjmeaaDoor.Ev
end
