import Derived.Test.YtccbdmccfbjmeaaDoorG11
import Derived.Test.YtccbdmccfbjmeaaDoorG12
import Derived.Laws.MakeOwn
import Derived.Deep.RegionLaw
set_option linter.unusedSimpArgs false
set_option linter.unusedVariables false
namespace Go.Proofs.YtccbdmccfbjmeaaDoor
section
/- report.Bridge. -/
open Go.RowKit
open Ev
set_option maxRecDepth 100000
theorem var_mv {G : Nat → Prop} {w w' : World} {g : Nat} {n : String} {cs : Array Value} (hg : Tryd.prog.globalNamed n = some g) (h : w.var? Tryd.prog n = some cs) (hm : Mv G w w') (hG : ¬ G g) : w'.var? Tryd.prog n = some cs := by
  unfold World.var? at h ⊢
  rw [hg] at h ⊢
  simp only [Option.bind_some] at h ⊢
  have hlt : g < w.heap.size := by
    rcases Nat.lt_or_ge g w.heap.size with h' | h'
    · exact h'
    · rw [Array.getElem?_eq_none h'] at h; cases h
  rw [hm.block g hlt hG]
  exact h
def bdL : Bd := ⟨Ld, fun _ => False, 3, fun _ h => h.elim, fun h m _ g => ⟨var_mv (g := 2) (by kernel_rfl) h.tab m (fun q => by have := g _ q; omega), var_mv (g := 0) (by kernel_rfl) h.roles m (fun q => by have := g _ q; omega), var_mv (g := 1) (by kernel_rfl) h.states m (fun q => by have := g _ q; omega)⟩⟩
theorem dint_fun (u : Nat) (hu : u < 9223372036854775808) : Fun Tryd.prog 17 [.int .i64 (u : Nat)] [bdL] Unit (fun _ => .string (dgS u)) (fun _ => [bdL]) := fun w0 F R w K =>
  (dint_any u hu w (Ld.tab K.one)).mono fun e w' ⟨e1, e2⟩ => ⟨(), e1, K.next e2⟩
theorem d16_fun (u : Nat) (hu : u < 65536) : Fun Tryd.prog 13 [.int .u16 (u : Nat)] [bdL] Unit (fun _ => .string (dgS u)) (fun _ => [bdL]) := fun w0 F R w K =>
  (d16_any u hu w (Ld.tab K.one)).mono fun e w' ⟨e1, e2⟩ => ⟨(), e1, K.next e2⟩
theorem d32_fun (u : Nat) (hu : u < 4294967296) : Fun Tryd.prog 20 [.int .u32 (u : Nat)] [bdL] Unit (fun _ => .string (dgS u)) (fun _ => [bdL]) := fun w0 F R w K =>
  (d32_any u hu w (Ld.tab K.one)).mono fun e w' ⟨e1, e2⟩ => ⟨(), e1, K.next e2⟩
theorem role_fun (n : Int) : Fun Tryd.prog 18 [.int .i64 n] [bdL] Unit (fun _ => .string (roleS n)) (fun _ => [bdL]) := fun w0 F R w K =>
  (role_any n w K.one).mono fun e w' ⟨e1, e2⟩ => ⟨(), e1, e2 ▸ K⟩
theorem state_fun (n : Int) : Fun Tryd.prog 19 [.int .i64 n] [bdL] Unit (fun _ => .string (stateS n)) (fun _ => [bdL]) := fun w0 F R w K =>
  (state_any n w K.one).mono fun e w' ⟨e1, e2⟩ => ⟨(), e1, e2 ▸ K⟩
theorem show_fun (c : Nat → Nat) (hc : okC c) : Fun Tryd.prog 10 [cV c] [bdL] Unit (fun _ => .string (shwS c)) (fun _ => [bdL]) := fun w0 F R w K =>
  (cshow_any c hc w (Ld.tab K.one)).mono fun e w' ⟨e1, e2⟩ => ⟨(), e1, K.next e2⟩
/-- A port, as it is reported. -/
structure Rp where
  role : Int
  state : Int
  cost : Nat
def prC (x : Rp) : List Value := [.int .u16 0, .int .i64 0, .bool false, .int .u32 (x.cost : Nat), .int .i64 0, .bool false, .bool false, .bool false, .bool false, .bool false, .int .i64 x.role, .int .i64 x.state, .int .i64 0, .int .u64 0, .int .u32 0, .int .u64 0, .int .u16 0, .int .i64 0, .int .i64 0, .int .i64 0, .int .i64 0]
def prV (x : Rp) : Value := .agg (prC x).toArray
theorem pr_info : ∃ i z b, Tryd.prog.info? 51 = some i ∧ i.zero = some z ∧ i.size = 21 ∧ i.bytes = b ∧ z.cells.size = 21 ∧ b ≤ 1000 := by
  refine ⟨_, _, _, rfl, rfl, rfl, rfl, rfl, by decide⟩
theorem prT : ElT Tryd.prog 32 51 21 prC := ⟨Tryd.underlying32, pr_info, by decide, fun _ => rfl, fun x u hu => by simp [prC] at hu; rcases hu with rfl | rfl | rfl | rfl | rfl | rfl | rfl | rfl | rfl | rfl | rfl | rfl | rfl | rfl | rfl | rfl | rfl | rfl | rfl | rfl | rfl <;> rfl⟩
theorem prE : ElV Tryd.prog 32 51 21 prC prV := ⟨prT, by kernel_rfl, fun x => by simp [Value.cells, prV], .inl ⟨by kernel_rfl, fun x => by simp [prV]⟩⟩
/-- The lines. -/
def w1 : ByteArray := ⟨#[98, 114, 105, 100, 103, 101]⟩
def w2 : ByteArray := ⟨#[115, 116, 97, 116, 105, 111, 110, 115]⟩
def w3 : ByteArray := ⟨#[112, 111, 114, 116]⟩
def w4 : ByteArray := ⟨#[99, 111, 115, 116]⟩
def w5 : ByteArray := ⟨#[99, 111, 117, 110, 116, 115]⟩
def macS (id : Nat) : ByteArray := ⟨(showT (byteF id) 6).toArray⟩
def ln0 (id nf : Nat) : List ByteArray := [w1, dgS (id / 281474976710656), macS id, w2, dgS nf]
def ln1 (k : Nat) (x : Rp) : List ByteArray := [w3, dgS (k + 1), roleS x.role, stateS x.state, w4, dgS x.cost]
def ln2 (c : Nat → Nat) : List ByteArray := [w5, shwS c]
def pls (po : List Rp) (k : Nat) : List ByteArray := (List.range k).map fun i => match po[i]? with | some x => jn (ln1 i x) | none => ⟨#[]⟩
theorem pls_step {po : List Rp} {k : Nat} {x : Rp} (h : po[k]? = some x) : pls po k ++ [jn (ln1 k x)] = pls po (k + 1) := by
  unfold pls
  rw [List.range_succ, List.map_append, List.map_cons, List.map_nil, h]
theorem pls_len (po : List Rp) (k : Nat) : (pls po k).length = k := by simp [pls]
theorem role_len (n : Int) : (roleS n).data.toList.length ≤ 10 := by
  unfold roleS
  repeat' split
  all_goals decide
theorem state_len (n : Int) : (stateS n).data.toList.length ≤ 10 := by
  unfold stateS
  repeat' split
  all_goals decide
theorem jn_len5 (a b c d e : ByteArray) (N : Nat) (h : a.data.toList.length + b.data.toList.length + c.data.toList.length + d.data.toList.length + e.data.toList.length + 4 ≤ N) : (jnL [a, b, c, d, e]).length ≤ N := by
  simp [jnL, Lib.join, List.intercalate] at h ⊢
  omega
theorem jn_len6 (a b c d e f : ByteArray) (N : Nat) (h : a.data.toList.length + b.data.toList.length + c.data.toList.length + d.data.toList.length + e.data.toList.length + f.data.toList.length + 5 ≤ N) : (jnL [a, b, c, d, e, f]).length ≤ N := by
  simp [jnL, Lib.join, List.intercalate] at h ⊢
  omega
theorem jn_len2 (a b : ByteArray) (N : Nat) (h : a.data.toList.length + b.data.toList.length + 1 ≤ N) : (jnL [a, b]).length ≤ N := by
  simp [jnL, Lib.join, List.intercalate] at h ⊢
  omega
theorem dg_len (u : Nat) (h : u < 18446744073709551616) : (dgS u).data.toList.length ≤ 20 := digits_len u h
theorem macS_len (id : Nat) : (macS id).data.toList.length ≤ 17 := by
  show (showT (byteF id) 6).length ≤ 17
  rw [showT_len]
  decide
end
section
/- report.Bridge, whole. -/
open Go.RowKit
open Ev
set_option maxRecDepth 100000
def stA (id : Nat) (pv fv : Value) (c : Nat → Nat) : Array Value := #[.int .u64 (id : Nat), .int .i64 0, .int .i64 0, .int .i64 0, .int .i64 0, .int .i64 0, pv, .slice none 0 0, .slice none 0 0, fv,
  .int .u32 (c 0 : Nat), .int .u32 (c 1 : Nat), .int .u32 (c 2 : Nat), .int .u32 (c 3 : Nat), .int .u32 (c 4 : Nat), .int .u32 (c 5 : Nat), .int .u32 (c 6 : Nat), .int .u32 (c 7 : Nat), .int .u32 (c 8 : Nat), .int .u32 (c 9 : Nat), .int .u32 (c 10 : Nat), .int .u32 (c 11 : Nat), .int .u32 (c 12 : Nat), .int .u32 (c 13 : Nat), .int .i64 0]
theorem one_wd (x : ByteArray) : ∀ W : World, (do pure (.value (← Instr.buildSlice 42 1 #[(0, .string x)])) : Sem Next).run Tryd.prog W = .ok (.value (.slice (some ⟨W.heap.size, 0, none⟩) 1 1)) (W.alloc (.cells (cellsL wdC [x]).toArray 9)) := fun W => by kernel_rfl
section
variable (id nf : Nat) (a af : Option Addr) (n m mf : Nat) (c : Nat → Nat) (po : List Rp) (R : Bd)
def brS (k : Nat) (h : Option Addr × Nat) : Ev.St := ⟨sp 57 [(1, .p 0 0), (3, .v (.slice h.1 (k + 1) h.2)), (24, .v (.slice a n m)), (25, .v (iv (n : Nat))), (26, .v (iv (k : Nat)))], [(stA id (.slice a n m) (.slice af nf mf) c, 36), ((cellsL wdC (ln0 id nf)).toArray, 9)],
  [bdO 9 1 wdC (.slice h.1 (k + 1) h.2) (jn (ln0 id nf) :: pls po k), bdO 51 21 prC (.slice a n m) po, bdL, R]⟩
theorem br_loop (h0 : Option Addr × Nat) (hl : po.length = n) (hn : n ≤ 1000) (hc : ∀ (k : Nat) (x : Rp), po[k]? = some x → x.cost < 4294967296) :
    TY Tryd.prog 0 (.loop (loopN Tryd.prog 9 0)) (brS id nf a af n m mf c po R 0 h0) (Option Addr × Nat) (.exit 0) (fun y => brS id nf a af n m mf c po R n y) := by
  refine T_loop (I := {k : Nat // k ≤ n} × (Option Addr × Nat)) (fun j => brS id nf a af n m mf c po R j.1.1 j.2) (fun j => n - j.1.1) (by simp) _ (fun ⟨⟨k, hk⟩, y⟩ => ?_) ⟨⟨0, Nat.zero_le _⟩, h0⟩
  refine step_at (brS id nf a af n m mf c po R k y) rfl ?_ ?_ (Nat.zero_le _)
  exact fun go out => [.sp (decide ((k : Int) < (n : Int)))
    (fun d =>
      have h : k < n := by simpa using d
      [.b _ _ d, .so _ po[k]? (fun hx => [.no (by simp at hx; omega)]) fun x hx => [oJx prE 1 a n m h hl, oJd prE 1 a n m hx hl,
        .r _ _ (wrap_next h (by omega)), oU true (dint_fun (k + 1) (by omega)) 2, oU true (role_fun x.role) 2, oU true (state_fun x.state) 2, oU true (d32_fun x.cost (hc k x hx)) 2,
        oJn 3 (ln1 k x) 6 rfl (by decide) (jn_len6 _ _ _ _ _ _ _ (by have := dg_len (k + 1) (by omega); have := dg_len x.cost (Nat.lt_trans (hc k x hx) (by decide)); have := role_len x.role; have := state_len x.state; have : w3.data.toList.length = 4 := rfl; have : w4.data.toList.length = 4 := rfl; omega)),
        oAp wdE 42 0 4 #[false, false] (.slice y.1 (k + 1) y.2) (jn (ln0 id nf) :: pls po k) [jn (ln1 k x)] (k + 2) (by simp [pls_len]) (by omega) fun y2 => [
        .r _ _ (wrap_next h (by omega)), go (⟨k + 1, h⟩, y2) (by show n - (k + 1) < n - k; omega) ⟨sp 57 [(1, .p 0 0), (3, .v (.slice y2.1 (k + 2) y2.2)), (24, .v (.slice a n m)), (25, .v (iv (n : Nat))), (26, .v (iv ((k + 1 : Nat) : Int)))], [(stA id (.slice a n m) (.slice af nf mf) c, 36), ((cellsL wdC (ln0 id nf)).toArray, 9)],
  [bdO 9 1 wdC (.slice y2.1 (k + 2) y2.2) ((jn (ln0 id nf) :: pls po k) ++ [jn (ln1 k x)]), bdO 51 21 prC (.slice a n m) po, bdL, R]⟩ (by unfold brS; rw [List.cons_append, pls_step hx])]]])
    (fun d => [.b _ _ d, out y (brS id nf a af n m mf c po R k y) (by rw [show k = n by simp at d; omega])])]
  intro _ _; kernel_rfl
end
def bLines (id nf : Nat) (c : Nat → Nat) (po : List Rp) : List ByteArray := (jn (ln0 id nf) :: pls po po.length) ++ [jn (ln2 c)]
theorem txt_le (c : Nat → Nat) (hc : okC c) : (shwS c).data.toList.length ≤ 294 := by
  have := txt_len c hc 14 (by omega)
  show (txt c 14).length ≤ 294
  omega
theorem bridge_fun (id nf : Nat) (a af : Option Addr) (n m mf : Nat) (c : Nat → Nat) (po : List Rp) (hid : id < 18446744073709551616) (hnf : nf ≤ 1000) (hl : po.length = n) (hn : n ≤ 1000) (hok : okC c) (hc : ∀ (k : Nat) (x : Rp), po[k]? = some x → x.cost < 4294967296) :
    Fun Tryd.prog 9 [.agg (stA id (.slice a n m) (.slice af nf mf) c)] [bdO 51 21 prC (.slice a n m) po, bdL] (Option Addr × Nat) (fun y => .slice y.1 (n + 2) y.2) (fun y => [bdO 9 1 wdC (.slice y.1 (n + 2) y.2) (bLines id nf c po), bdO 51 21 prC (.slice a n m) po, bdL]) := by
  subst hl
  exact ev_funE (fun R fin => [
    .c 14 #[.int .u64 (id : Nat)] (.int .u16 (id / 281474976710656 : Nat)) (fun w => (priority_any id w hid).mono fun e w' ⟨e1, e2⟩ => ⟨e1, e2 ▸ Below.refl _ _⟩),
    oU true (d16_fun (id / 281474976710656) (by omega)) 1,
    .c 15 #[.int .u64 (id : Nat)] (mac (byteF id)) (idmac_any id),
    .c 16 #[mac (byteF id)] (.string (macS id)) (fun w => show_any (byteF id) w (byteF_six id)),
    oU true (dint_fun nf (by omega)) 1,
    oJn 1 (ln0 id nf) 5 rfl (by decide) (jn_len5 _ _ _ _ _ _ (by have := dg_len (id / 281474976710656) (by omega); have := dg_len nf (by omega); have := macS_len id; have : w1.data.toList.length = 6 := rfl; have : w2.data.toList.length = 8 := rfl; omega)),
    oNs 42 9 1 _ _ (one_wd (jn (ln0 id nf))) fun b => [
    .a 0 [bdB b (cellsL wdC [jn (ln0 id nf)]).toArray 9] [bdO 9 1 wdC (.slice (some ⟨b, 0, none⟩) 1 1) [jn (ln0 id nf)]] (own_blk (n := 1) rfl rfl (by show 1 ≤ maxLen; decide) rfl []),
    .l _ _ _ _ _ _ (br_loop id nf a af po.length m mf c po R (some ⟨b, 0, none⟩, 1) rfl hn hc) fun y => [
    oU true (show_fun c hok) 2,
    oJn 2 (ln2 c) 2 rfl (by decide) (jn_len2 _ _ _ (by have := txt_le c hok; have : w5.data.toList.length = 6 := rfl; omega)),
    oAp wdE 42 0 3 #[false, false] (.slice y.1 (po.length + 1) y.2) (jn (ln0 id nf) :: pls po po.length) [jn (ln2 c)] (po.length + 2) (by simp [pls_len]) (by omega) fun y2 => [fin y2 _ _ rfl rfl]]]]) (fun R β w => by kernel_rfl)
end
section
/- The law's speaks. -/
open Go.RowKit
open Ev
set_option maxRecDepth 100000
theorem drop_one {X : Bd} {A : Bds} {w0 w : World} {F : Fm} {R : Bd} (K : Kf w0 F ((sepL (X :: A)).sep R) w) : Kf w0 F ((sepL A).sep R) w :=
  ⟨K.all, K.below, K.new, K.inj, ⟨K.a.1.2.1, K.a.2.1, fun k hk => K.a.2.2 k (.inr hk)⟩, fun l x h hf => K.ap l x h (hf.elim (fun q => .inl (.inr q)) .inr), fun k hk => K.nw k (hk.elim (fun q => .inl (.inr q)) .inr), by
    have : max (max X.lo (sepL A).lo) R.lo ≤ w0.heap.size := K.lo
    show max (sepL A).lo R.lo ≤ _
    omega⟩
theorem drop_all : ∀ (A : Bds) {w0 w : World} {F : Fm} {R : Bd}, Kf w0 F ((sepL A).sep R) w → Kf w0 F ((sepL []).sep R) w
  | [], _, _, _, _, K => K
  | _ :: A, _, _, _, _, K => drop_all A (drop_one K)
/-- What isn't wanted any more. -/
def oDr {P : Program} (p : Nat) (A : Bds) : Ora P := .a p A [] (fun _ _ _ _ K => drop_all A K)
theorem dd0 : Lib.decDigits 0 = [48] := Lib.decDigits_one (by omega)
theorem dd1 : Lib.decDigits 1 = [49] := Lib.decDigits_one (by omega)
theorem sp_l0 : (jn (ln0 0 0)) = ⟨#[98, 114, 105, 100, 103, 101, 32, 48, 32, 48, 48, 58, 48, 48, 58, 48, 48, 58, 48, 48, 58, 48, 48, 58, 48, 48, 32, 115, 116, 97, 116, 105, 111, 110, 115, 32, 48]⟩ := by
  have e : ln0 0 0 = [w1, ⟨#[48]⟩, macS 0, w2, ⟨#[48]⟩] := by unfold ln0 dgS; rw [show (0 / 281474976710656 : Nat) = 0 from rfl, dd0]
  rw [e]
  rfl
theorem sp_l1 : (jn (ln1 0 ⟨0, 0, 1⟩)) = ⟨#[112, 111, 114, 116, 32, 49, 32, 100, 105, 115, 97, 98, 108, 101, 100, 32, 100, 105, 115, 99, 97, 114, 100, 105, 110, 103, 32, 99, 111, 115, 116, 32, 49]⟩ := by
  have e : ln1 0 ⟨0, 0, 1⟩ = [w3, ⟨#[49]⟩, roleS 0, stateS 0, w4, ⟨#[49]⟩] := by unfold ln1 dgS; dsimp only; rw [show (0 + 1 : Nat) = 1 from rfl, dd1]
  rw [e]
  rfl
theorem sp_l2 : (jn (ln2 fun _ => 0)) = ⟨#[99, 111, 117, 110, 116, 115, 32, 48, 32, 48, 32, 48, 32, 48, 32, 48, 32, 48, 32, 48, 32, 48, 32, 48, 32, 48, 32, 48, 32, 48, 32, 48, 32, 48]⟩ := by
  have e : shwS (fun _ => 0) = ⟨#[48, 32, 48, 32, 48, 32, 48, 32, 48, 32, 48, 32, 48, 32, 48, 32, 48, 32, 48, 32, 48, 32, 48, 32, 48, 32, 48]⟩ := by
    unfold shwS
    simp [txt, dd0]
  unfold ln2
  rw [e]
  rfl
theorem sp_lines : ∃ x0 x1 x2 : ByteArray, bLines 0 0 (fun _ => 0) [⟨0, 0, 1⟩] = [x0, x1, x2] ∧ x0 = ⟨#[98, 114, 105, 100, 103, 101, 32, 48, 32, 48, 48, 58, 48, 48, 58, 48, 48, 58, 48, 48, 58, 48, 48, 58, 48, 48, 32, 115, 116, 97, 116, 105, 111, 110, 115, 32, 48]⟩ ∧
    x1 = ⟨#[112, 111, 114, 116, 32, 49, 32, 100, 105, 115, 97, 98, 108, 101, 100, 32, 100, 105, 115, 99, 97, 114, 100, 105, 110, 103, 32, 99, 111, 115, 116, 32, 49]⟩ ∧ x2 = ⟨#[99, 111, 117, 110, 116, 115, 32, 48, 32, 48, 32, 48, 32, 48, 32, 48, 32, 48, 32, 48, 32, 48, 32, 48, 32, 48, 32, 48, 32, 48, 32, 48, 32, 48]⟩ :=
  ⟨jn (ln0 0 0), jn (ln1 0 ⟨0, 0, 1⟩), jn (ln2 fun _ => 0), rfl, sp_l0, sp_l1, sp_l2⟩
theorem one_pr (x : Rp) : ∀ W : World, (do pure (.value (← Instr.buildSlice 32 1 #[(0, prV x)])) : Sem Next).run Tryd.prog W = .ok (.value (.slice (some ⟨W.heap.size, 0, none⟩) 1 1)) (W.alloc (.cells (cellsL prC [x]).toArray 51)) := fun W => by kernel_rfl
theorem speaks_fun : Fun Tryd.prog 4 [] [bdL] Unit (fun _ => .bool true) (fun _ => [bdL]) := by
  obtain ⟨x0, x1, x2, hL, e0, e1, e2⟩ := sp_lines
  have hB := fun b : Nat => bridge_fun 0 0 (some ⟨b, 0, none⟩) none 1 1 0 (fun _ => 0) [⟨0, 0, 1⟩] (by decide) (by decide) rfl (by decide) (fun _ _ => by show 0 < 4294967296; decide) (fun k x hx => by
    rcases k with _ | k
    · obtain rfl := Option.some.inj hx; show 1 < 4294967296; decide
    · cases hx)
  rw [hL] at hB
  exact ev_funE (fun R fin => [oNs 32 51 1 _ _ (one_pr ⟨0, 0, 1⟩) fun b => [
    .a 0 [bdB b (cellsL prC [⟨0, 0, 1⟩]).toArray 51] [bdO 51 21 prC (.slice (some ⟨b, 0, none⟩) 1 1) [⟨0, 0, 1⟩]] (own_blk (n := 1) rfl rfl (by show 1 ≤ maxLen; decide) rfl []),
    oF (hB b) (none, 0) 0 fun y => [
    Yes, oJx wdE 0 y.1 3 y.2 (k := 0) (l := [x0, x1, x2]) (by decide) rfl, oJd wdE 0 y.1 3 y.2 (k := 0) (l := [x0, x1, x2]) (x := x0) rfl rfl,
    .b (x0.toList == (⟨#[98, 114, 105, 100, 103, 101, 32, 48, 32, 48, 48, 58, 48, 48, 58, 48, 48, 58, 48, 48, 58, 48, 48, 58, 48, 48, 32, 115, 116, 97, 116, 105, 111, 110, 115, 32, 48]⟩ : ByteArray).toList) true (by rw [e0]; simp),
    oJx wdE 0 y.1 3 y.2 (k := 1) (l := [x0, x1, x2]) (by decide) rfl, oJd wdE 0 y.1 3 y.2 (k := 1) (l := [x0, x1, x2]) (x := x1) rfl rfl,
    .b (x1.toList == (⟨#[112, 111, 114, 116, 32, 49, 32, 100, 105, 115, 97, 98, 108, 101, 100, 32, 100, 105, 115, 99, 97, 114, 100, 105, 110, 103, 32, 99, 111, 115, 116, 32, 49]⟩ : ByteArray).toList) true (by rw [e1]; simp),
    oJx wdE 0 y.1 3 y.2 (k := 2) (l := [x0, x1, x2]) (by decide) rfl, oJd wdE 0 y.1 3 y.2 (k := 2) (l := [x0, x1, x2]) (x := x2) rfl rfl,
    oDr 0 [bdO 9 1 wdC (.slice y.1 3 y.2) [x0, x1, x2], bdO 51 21 prC (.slice (some ⟨b, 0, none⟩) 1 1) [⟨0, 0, 1⟩]],
    fin () (.bool (x2.toList == (⟨#[99, 111, 117, 110, 116, 115, 32, 48, 32, 48, 32, 48, 32, 48, 32, 48, 32, 48, 32, 48, 32, 48, 32, 48, 32, 48, 32, 48, 32, 48, 32, 48, 32, 48]⟩ : ByteArray).toList)) _ (by rw [e2]; simp) rfl]]]) (fun R β w => by kernel_rfl)
end
section
/- Words put together, told by index, made slices, fields of what came in. -/
open Go.RowKit
open Ev
set_option maxRecDepth 100000
/-- Two words are put together. -/
def oCt (x y : ByteArray) (h : x.size + y.size ≤ 1000000) : Ora Tryd.prog :=
  .x true (.s fun _ => do pure (.value (← binOp .add 9 (.string x) (.string y)))) 0 [] [] (.string (x ++ y)) (fun w0 F R β w K => by
    show stepS Tryd.prog _ _ w
    unfold stepS
    have e : (binOp .add 9 (.string x) (.string y)).run Tryd.prog w = .ok (.string (x ++ y)) w := by
      have hh : ¬ (((x.size + y.size : Nat) : Int) > IntKind.i64.max) := by
        have : IntKind.i64.max = 9223372036854775807 := rfl
        omega
      show (Op.stringOp .add x y).run Tryd.prog w = _
      unfold Op.stringOp
      simp only [hh, if_false, Sem.run_pure]
    simp only [Sem.run_bind, e, Result.andThen_ok, Sem.run_pure]
    exact ⟨trivial, K⟩)
theorem run_role (n : Int) (h0 : 0 ≤ n) (h5 : n < 5) (W : World) : (Instr.index 52 (.agg rolesA) (.int .i64 n)).run Tryd.prog W = .ok (.string (roleS n)) W := by
  have hn : n = 0 ∨ n = 1 ∨ n = 2 ∨ n = 3 ∨ n = 4 := by omega
  rcases hn with rfl | rfl | rfl | rfl | rfl <;> rfl
theorem run_state (n : Int) (h0 : 0 ≤ n) (h5 : n < 3) (W : World) : (Instr.index 53 (.agg statesA) (.int .i64 n)).run Tryd.prog W = .ok (.string (stateS n)) W := by
  have hn : n = 0 ∨ n = 1 ∨ n = 2 := by omega
  rcases hn with rfl | rfl | rfl <;> rfl
def oRo (n : Int) (h0 : 0 ≤ n) (h5 : n < 5) : Ora Tryd.prog :=
  .x true (.s fun _ => do pure (.value (← Instr.index 52 (.agg rolesA) (.int .i64 n)))) 0 [] [] (.string (roleS n)) (fun w0 F R β w K => by
    show stepS Tryd.prog _ _ w
    unfold stepS
    simp only [Sem.run_bind, run_role n h0 h5, Result.andThen_ok, Sem.run_pure]
    exact ⟨trivial, K⟩)
def oSt2 (n : Int) (h0 : 0 ≤ n) (h5 : n < 3) : Ora Tryd.prog :=
  .x true (.s fun _ => do pure (.value (← Instr.index 53 (.agg statesA) (.int .i64 n)))) 0 [] [] (.string (stateS n)) (fun w0 F R β w K => by
    show stepS Tryd.prog _ _ w
    unfold stepS
    simp only [Sem.run_bind, run_state n h0 h5, Result.andThen_ok, Sem.run_pure]
    exact ⟨trivial, K⟩)
/-- A slice of stations is made: nobody looks at it. -/
theorem run_mk (k : Nat) (hk : k ≤ 1000) (w : World) : ∃ cs, (Instr.makeSlice 31 (.int .i64 (k : Nat)) (.int .i64 (k : Nat))).run Tryd.prog w = .ok (.slice (some ⟨w.heap.size, 0, none⟩) k k) (w.alloc (.cells cs 116)) := by
  obtain ⟨i, z, h1, h2, h3, h4⟩ : ∃ i z, Tryd.prog.info? 116 = some i ∧ i.zero = some z ∧ i.size ≤ 100 ∧ i.bytes ≤ 1000 := ⟨_, _, rfl, rfl, by decide, by decide⟩
  have h := run_makeSlice (P := Tryd.prog) (w := w) 31 116 i z Tryd.underlying31 h1 h2 .i64 .i64 (k : Int) (k : Int) (by omega) (by omega) (by
    rw [Int.toNat_natCast]
    exact Nat.le_trans (Nat.mul_le_mul hk h3) (by decide)) (by
    have := Nat.mul_le_mul h4 hk
    rw [← Int.natCast_mul]
    omega) (by omega)
  rw [Int.toNat_natCast] at h
  exact ⟨_, h⟩
def oMk (k : Nat) (hk : k ≤ 1000) (rest : Nat → List (Ora Tryd.prog)) : Ora Tryd.prog :=
  .e Nat 0 (.s fun _ => do pure (.value (← Instr.makeSlice 31 (.int .i64 (k : Nat)) (.int .i64 (k : Nat))))) [] 0 [] (fun _ => []) (fun b => .slice (some ⟨b, 0, none⟩) k k)
    (fun w0 F R β w hlo K => by
      show stepS Tryd.prog _ _ w
      unfold stepS
      obtain ⟨cs, e⟩ := run_mk k hk w
      simp only [Sem.run_bind, e, Result.andThen_ok, Sem.run_pure]
      exact ⟨w.heap.size, rfl, K.next ((Below.refl _ _).alloc (Nat.le_refl _) _)⟩) rest
/-- A field of an element of a list that came in. -/
def oXf {α : Type} {size : Nat} {enc : α → List Value} {X : Bd} (p : Nat) {a : Option Addr} {l : List α} (hX : Reads X a size enc l) (ty : TypeId) (j : Nat) (u : Value) {k : Nat} {x : α} (hx : l[k]? = some x) (he : (enc x)[j]? = some u) (hu : plainT (Tryd.prog.underlying ty) = true) : Ora Tryd.prog :=
  .x true (.s fun _ => do pure (.value (← Instr.loadAt ty (.pointer (hopX a (k * size + j)))))) p [X] [X] u
    (fun w0 F R β w K => by
      rcases hX w K.one with rfl | ⟨b, off, rfl, -, h⟩
      · cases hx
      · have hc := h k x hx j u he
        show stepS Tryd.prog _ _ w
        unfold stepS
        simp only [hopX, Sem.run_bind, run_loadAt_cell hu hc, Result.andThen_ok, Sem.run_pure]
        exact ⟨trivial, K⟩)
/-- A list that came in and isn't empty tells where it lies. -/
def oUx {α : Type} {size : Nat} {enc : α → List Value} {X : Bd} (p : Nat) {a : Option Addr} {l : List α} (hX : Reads X a size enc l) {k : Nat} {x : α} (hx : l[k]? = some x) (f : (z : Nat × Nat) → a = some ⟨z.1, z.2, none⟩ → List (Ora Tryd.prog)) : Ora Tryd.prog :=
  .us p [X] (Nat × Nat) (fun z => a = some ⟨z.1, z.2, none⟩) (fun w h => by
    rcases hX w h.1 with rfl | ⟨b, off, rfl, -, -⟩
    · cases hx
    · exact ⟨(b, off), rfl⟩) f
def oYx {α : Type} {t e : TypeId} {size : Nat} {enc : α → List Value} {val : α → Value} (E : ElV Tryd.prog t e size enc val) (p : Nat) {a : Option Addr} (n m : Nat) {k : Nat} (hk : k < n) (z : Nat × Nat) (ha : a = some ⟨z.1, z.2, none⟩) : Ora Tryd.prog :=
  .x true (.s fun _ => do pure (.value (← Instr.indexAt t (.slice a n m) (.int .i64 (k : Nat))))) p [] [] (.pointer (some ⟨z.1, z.2 + k * size, none⟩))
    (fun w0 F R β w K => by
      subst ha
      show stepS Tryd.prog _ _ w
      unfold stepS
      simp only [Sem.run_bind, Sem.run_pure, Result.andThen_ok, run_ixo E n m hk w]
      exact ⟨trivial, K⟩)
def oYf {α : Type} {size : Nat} {enc : α → List Value} {X : Bd} (p : Nat) {a : Option Addr} {l : List α} (hX : Reads X a size enc l) (ty : TypeId) (j : Nat) (u : Value) {k : Nat} {x : α} (hx : l[k]? = some x) (he : (enc x)[j]? = some u) (hu : plainT (Tryd.prog.underlying ty) = true) (z : Nat × Nat) (ha : a = some ⟨z.1, z.2, none⟩) : Ora Tryd.prog :=
  .x true (.s fun _ => do pure (.value (← Instr.loadAt ty (.pointer (some ⟨z.1, z.2 + k * size + j, none⟩))))) p [X] [X] u
    (fun w0 F R β w K => by
      subst ha
      rcases hX w K.one with rfl | ⟨b, off, he2, -, h⟩
      · cases hx
      · have hc := h k x hx j u he
        injection he2 with he2
        injection he2 with h1 h2 h3
        rw [← h1, ← h2, ← Nat.add_assoc] at hc
        show stepS Tryd.prog _ _ w
        unfold stepS
        simp only [Sem.run_bind, run_loadAt_cell hu hc, Result.andThen_ok, Sem.run_pure]
        exact ⟨trivial, K⟩)
end
section
/- An append to a row that the call owns, inside a region that draws its order. -/
open Go.RowKit

theorem step_append_own {P : Program} {ops : Array Oper} {o : Oper} {a : Act} {w : World} {K : Act → World → Prop} {Q : Exit → Act → World → Prop} {E : Prop}
    (hg : o.guard = none) (s x : Operand) (t : TypeId) (hop : o.op = .call { callee := .builtin .append, args := #[s, x], argTypes := #[t, t] })
    (base : Nat) (e : TypeId) (i : TypeInfo) (z : Value) (size bytes : Nat) (ht : P.underlying t = some (.slice e)) (hi : P.info? e = some i) (hz : i.zero = some z)
    (hsize : i.size = size) (hby : i.bytes = bytes) (hzs : z.cells.size = size) (hsz : 0 < size)
    (v : Value) (n : Nat) (xs : List Value) (hs : a.eval s = v) (hown : w.ownsRow base e size v n xs)
    (ad : Addr) (m c : Nat) (news : List Value) (hx : a.eval x = .slice (some ad) m c) (hl : news.length = m * size) (hnews : ∀ j u, news[j]? = some u → w.cell? (ad.add j) = some u) (h1 : ∀ u ∈ news, u.oneCell' = true)
    (h63 : n + m ≤ maxLen) (hbytes : (n + m) * bytes ≤ 140737488355328) (hbase : base ≤ w.heap.size)
    (h : ∀ v' w', w'.ownsRow base e size v' (n + m) (xs ++ news) → w.grownBy w' v.ownBlock → (v' = .slice none 0 0 ↔ v = .slice none 0 0 ∧ m = 0) → K (a.put o.dst v') w') :
    if Region.wanted o (yielded ops a.tmps) = true then Oper.wp P o a w K Q else E := by
  have hw : Region.wanted o (yielded ops a.tmps) = true := by simp [Region.wanted, hg]
  rw [if_pos hw]
  exact wp_append_own w s x t hop base e i z size bytes ht hi hz hsize hby hzs hsz v n xs hs hown ad m c news hx hl hnews h1 h63 hbytes hbase h

theorem cell_two_new (w : World) (x y : Value) (t : TypeId) : ∀ j u, [x, y][j]? = some u → (w.alloc (.cells #[x, y] t)).cell? ((⟨w.heap.size, 0, none⟩ : Addr).add j) = some u := by
  intro j u hj
  match j, hj with
  | 0, hj =>
    simp at hj
    subst hj
    simp [Addr.add]
  | 1, hj =>
    simp at hj
    subst hj
    simp [Addr.add]

theorem two_cell (u v : Value) (h : u.oneCell' = true) (h' : v.oneCell' = true) : ∀ x ∈ [u, v], x.oneCell' = true := by
  intro x hx
  simp at hx
  rcases hx with rfl | rfl
  · exact h
  · exact h'
end
section
/- The document's own answer: how an address is shown. -/
open Go.RowKit

theorem showT_first2 (m : Nat → Nat) : (showT m 0).map bv ++ [Value.int .u8 (digN (m 0 / 16) : Nat), Value.int .u8 (digN (m 0 % 16) : Nat)] = (showT m 1).map bv := by
  have := showT_first m
  simpa using this

theorem showT_next2 (m : Nat → Nat) (k : Nat) (hk : 0 < k) : (showT m k).map bv ++ [Value.int .u8 58] ++ [Value.int .u8 (digN (m k / 16) : Nat), Value.int .u8 (digN (m k % 16) : Nat)] = (showT m (k + 1)).map bv := by
  have := showT_next m k hk
  simpa using this

set_option maxRecDepth 100000 in
set_option maxHeartbeats 2000000 in
theorem rshow_any (m : Nat → Nat) (w : World) (hm : Six m) : Calls Tryd.prog 7 #[mac m] w fun e w' => e = .returned (.string ⟨(showT m 6).toArray⟩) ∧ Below w.heap.size w w' := by
  have b0 : Below w.heap.size w w := Below.refl _ _
  have H := Lib.hid hm
  obtain ⟨i0, hi, hz0, hz1, hz2⟩ := info_parts Tryd.info5'
  have hi1 := Lib.hid hz1
  have hi2 := Lib.hid hz2
  obtain ⟨W, hW⟩ : ∃ W, W = w.alloc (Obj.cells (macA m) 37) := ⟨_, rfl⟩
  have rb : Blk W w.heap.size (macA m) 37 := by rw [hW]; exact Blk.new _ _ _
  have hb1 : Below w.heap.size w W := by rw [hW]; exact b0.alloc (Nat.le_refl _) _
  have hs1 : W.heap.size = w.heap.size + 1 := by rw [hW]; simp
  have hs1' : w.heap.size + 1 ≤ W.heap.size := by omega
  have HW := Lib.hid hW
  clear hz1 hz2 hm hW hs1
  go_enter Tryd.func7, Tryd.ntmps7
  go_wp2_with fail
  simp only [macA] at HW
  rw [← HW.out]
  clear HW b0
  generalize hBe : w.heap.size = B at *
  have HB := Lib.hid hBe
  clear hBe
  have hnil := World.ownsRow_nil W (B + 1) 5 1
  go_loopw [3, 4] (fun b i wr => ∃ (k n : Nat), k ≤ 6 ∧ i = .int .i64 (k : Int) ∧ (showT m k).length = n ∧ wr.ownsRow (B + 1) 5 1 b n ((showT m k).map bv) ∧ Below B w wr ∧ B + 1 ≤ wr.heap.size ∧ Blk wr B (macA m) 37) (fun _ i _ => 6 - (intOf i).toNat)
  case atStart => exact ⟨0, 0, by omega, rfl, rfl, hnil, hb1, hs1', rb⟩
  case round =>
    obtain ⟨k, n, hk, rfl, hn, hown, hb, hs, hr⟩ := hrel
    have HN := Lib.hid hn
    have ho := Lib.hid hown
    have HR := Lib.hid hr
    clear hn hown hb1 hs1' rb hnil hr
    by_cases hlt : k < 6
    · have hm := H.out.at k hlt
      have hc := HR.out.cell k
      rw [mac_at m k hlt] at hc
      obtain ⟨d1, hd1⟩ : ∃ d, d = m k / 16 := ⟨_, rfl⟩
      obtain ⟨d2, hd2⟩ : ∃ d, d = m k % 16 := ⟨_, rfl⟩
      have l1 : d1 < 16 := by omega
      have l2 : d2 < 16 := by omega
      have HW1 := Lib.hid (show IntKind.u8.wrap ((m k : Int) / 16) = (d1 : Int) by rw [IntKind.wrap_u8]; omega)
      have HW2 := Lib.hid (show (m k : Int) / 16 = (d1 : Int) by omega)
      have HW3 := Lib.hid (show IntKind.u8.wrap (Int.tmod (m k : Int) 16) = (d2 : Int) by rw [IntKind.wrap_u8, Int.tmod_eq_emod_of_nonneg (by omega)]; omega)
      have HW4 := Lib.hid (show Int.tmod (m k : Int) 16 = (d2 : Int) by rw [Int.tmod_eq_emod_of_nonneg (by omega)]; omega)
      have D1 := Lib.hid hd1
      have D2 := Lib.hid hd2
      clear hd1 hd2
      by_cases c : k = 0
      · subst c
        have hn0 : n = 0 := by have := HN.out; rw [← this]; rfl
        subst hn0
        go_wp2_with fail
        go_region_law (first
          | (refine step_append_own rfl _ _ 58 rfl (B + 1) 5 i0 (.int .u8 0) 1 1 Tryd.underlying58 hi hz0 hi1.out hi2.out rfl (by omega) u3 0 _ rfl (ho.out.drew.alloc _) ⟨wr.heap.size, 0, none⟩ 2 2 [.int .u8 (digN d1 : Nat), .int .u8 (digN d2 : Nat)] rfl rfl (cell_two_new _ _ _ _) (two_cell _ _ rfl rfl) (by unfold maxLen; omega) (by omega) (by simp; omega) ?_; intro v2 w2 hown2 hgrow2 _)
          | (go_simp; go_at_call 11; (first | rw [HW1.out] | rw [HW2.out] | rw [HW3.out] | rw [HW4.out]); refine (digit_any _ _ (by omega)).mono ?_; rintro e w' ⟨rfl, rfl⟩))
        all_goals
          have g2 := hgrow2.size
          simp at g2
          have hB2 := (hb.alloc (by omega) _).drew.grown hgrow2 (by simp; omega) (fun q hq => Nat.le_trans (Nat.le_succ _) (ho.out.lt q hq).1)
          have hR2 := Lib.hid (((HR.out.alloc _).drew).grown hgrow2 (fun e => by have := (ho.out.lt B e.symm).1; omega))
          have hs2 : B + 1 ≤ w2.heap.size := by omega
          rw [D1.out, D2.out, showT_first2] at hown2
          have ho2 := Lib.hid hown2
          clear hown2 hgrow2 g2
          go_wp2
          go_roundw
          case rel => exact ⟨1, 2, by omega, rfl, by rw [showT_len]; rfl, ho2.out, hB2, hs2, hR2.out⟩
          case measure => simp [intOf]
      · have hk0 : ¬ (k : Int) ≤ 0 := by omega
        have hn17 : n + 3 ≤ 17 := by
          have h := HN.out
          rw [showT_len, if_neg c] at h
          omega
        have hc' : 0 < k := by omega
        clear c
        go_wp2_with (first
          | (at_builtin; refine wpList_append_own _ rfl _ _ 58 rfl (B + 1) 5 i0 (.int .u8 0) 1 1 Tryd.underlying58 hi hz0 hi1.out hi2.out rfl (by omega) u3 n _ rfl (ho.out.alloc _) ⟨wr.heap.size, 0, none⟩ 1 1 [.int .u8 58] rfl rfl (cell_one_new _ _ _) (one_cell _ rfl) (by unfold maxLen; omega) (by omega) (by simp; omega) ?_; intro v1 w1 hown1 hgrow1 _))
        have g1 := hgrow1.size
        simp at g1
        have hB1 := (hb.alloc (by omega) _).grown hgrow1 (by simp; omega) (fun q hq => Nat.le_trans (Nat.le_succ _) (ho.out.lt q hq).1)
        have hR1 := Lib.hid ((HR.out.alloc _).grown hgrow1 (fun e => by have := (ho.out.lt B e.symm).1; omega))
        have hs1 : B + 1 ≤ w1.heap.size := by omega
        have ho1 := Lib.hid hown1
        have hc1 : w1.cell? ⟨B, k, none⟩ = some (.int .u8 (m k : Nat)) := by rw [hR1.out.cell, mac_at m k hlt]
        clear hown1 hgrow1 g1 hb hc
        go_region_law (first
          | (refine step_append_own rfl _ _ 58 rfl (B + 1) 5 i0 (.int .u8 0) 1 1 Tryd.underlying58 hi hz0 hi1.out hi2.out rfl (by omega) v1 (n + 1) _ rfl (ho1.out.drew.alloc _) ⟨w1.heap.size, 0, none⟩ 2 2 [.int .u8 (digN d1 : Nat), .int .u8 (digN d2 : Nat)] rfl rfl (cell_two_new _ _ _ _) (two_cell _ _ rfl rfl) (by unfold maxLen; omega) (by omega) (by simp; omega) ?_; intro v2 w2 hown2 hgrow2 _)
          | (go_simp; go_at_call 11; (first | rw [HW1.out] | rw [HW2.out] | rw [HW3.out] | rw [HW4.out]); refine (digit_any _ _ (by omega)).mono ?_; rintro e w' ⟨rfl, rfl⟩))
        all_goals
          have g2 := hgrow2.size
          simp at g2
          have hB2 := (hB1.alloc (by omega) _).drew.grown hgrow2 (by simp; omega) (fun q hq => Nat.le_trans (Nat.le_succ _) (ho1.out.lt q hq).1)
          have hR2 := Lib.hid (((hR1.out.alloc _).drew).grown hgrow2 (fun e => by have := (ho1.out.lt B e.symm).1; omega))
          have hs2 : B + 1 ≤ w2.heap.size := by omega
          rw [D1.out, D2.out, showT_next2 m k hc'] at hown2
          have ho2 := Lib.hid hown2
          clear hown2 hgrow2 g2 hB1 hc1
          go_wp2
          go_roundw
          case rel => exact ⟨k + 1, n + 3, by omega, by go_num, by have h := HN.out; rw [showT_len] at h ⊢; rw [if_neg (by omega)] at h ⊢; omega, ho2.out, hB2, hs2, hR2.out⟩
          case measure => simp [intOf]; omega
    · have hk6 : k = 6 := by omega
      subst hk6
      have hn17 : n = 17 := by have h := HN.out; rw [showT_len] at h; simpa using h.symm
      subst hn17
      obtain ⟨g, cap, hv⟩ : ∃ g cap, u3 = .slice (some ⟨g, 0, none⟩) 17 cap := by
        rcases ho.out.2 with ⟨_, h⟩ | ⟨g, cap, _, h, _⟩
        · omega
        · exact ⟨g, cap, h⟩
      subst hv
      have hh := (Has.of_owns ho.out).text (P := Tryd.prog) (cap := cap) 58 9 5 Tryd.underlying58 Tryd.underlying5 Tryd.underlying9 17 (by rw [showT_len]; rfl)
      go_wp2
      go_ret
      exact ⟨rfl, by rw [HB.out]; exact hb⟩
end
section
/- The law of layer 29: ReportBridge. -/
open Go.RowKit
open Ev
set_option maxRecDepth 100000
def lpC (x : Rp) : List Value := [.int .i64 x.role, .int .i64 x.state, .int .u32 (x.cost : Nat)]
def lpV (x : Rp) : Value := .agg (lpC x).toArray
theorem lp_info : ∃ i z b, Tryd.prog.info? 44 = some i ∧ i.zero = some z ∧ i.size = 3 ∧ i.bytes = b ∧ z.cells.size = 3 ∧ b ≤ 1000 := by
  refine ⟨_, _, _, rfl, rfl, rfl, rfl, rfl, by decide⟩
theorem lpT : ElT Tryd.prog 23 44 3 lpC := ⟨Tryd.underlying23, lp_info, by decide, fun _ => rfl, fun x u hu => by simp [lpC] at hu; rcases hu with rfl | rfl | rfl <;> rfl⟩
theorem lpE : ElV Tryd.prog 23 44 3 lpC lpV := ⟨lpT, by kernel_rfl, fun x => by simp [Value.cells, lpV], .inl ⟨by kernel_rfl, fun x => by simp [lpV]⟩⟩
def a1 : ByteArray := ⟨#[98, 114, 105, 100, 103, 101, 32]⟩
def a2 : ByteArray := ⟨#[32]⟩
def a3 : ByteArray := ⟨#[32, 115, 116, 97, 116, 105, 111, 110, 115, 32]⟩
def a4 : ByteArray := ⟨#[112, 111, 114, 116, 32]⟩
def a5 : ByteArray := ⟨#[32, 99, 111, 115, 116, 32]⟩
def a6 : ByteArray := ⟨#[99, 111, 117, 110, 116, 115, 32]⟩
theorem cat0 (id nf : Nat) : a1 ++ dgS (id / 281474976710656) ++ a2 ++ macS id ++ a3 ++ dgS nf = jn (ln0 id nf) := by
  apply ByteArray.ext
  apply Array.ext'
  simp [jn, jnL, ln0, Lib.join, List.intercalate, a1, a2, a3, w1, w2]
theorem cat1 (k : Nat) (x : Rp) : a4 ++ dgS (k + 1) ++ a2 ++ roleS x.role ++ a2 ++ stateS x.state ++ a5 ++ dgS x.cost = jn (ln1 k x) := by
  apply ByteArray.ext
  apply Array.ext'
  simp [jn, jnL, ln1, Lib.join, List.intercalate, a4, a2, a5, w3, w4]
theorem cat2 (c : Nat → Nat) : a6 ++ shwS c = jn (ln2 c) := by
  apply ByteArray.ext
  apply Array.ext'
  simp [jn, jnL, ln2, Lib.join, List.intercalate, a6, w5]
theorem pls_take (l : List Rp) (N : Nat) : pls (l.take N) N = pls l N := by
  unfold pls
  refine List.map_congr_left fun i hi => ?_
  rw [List.getElem?_take_of_lt (List.mem_range.1 hi)]
theorem take_step {l : List Rp} {k : Nat} {x : Rp} (h : l[k]? = some x) : l.take k ++ [x] = l.take (k + 1) := by
  rw [List.take_add_one, h]
  rfl
theorem shr48 (id : Nat) : Value.int .u64 ((id : Int).fdiv (2 ^ 48)) = .int .u64 ((id / 281474976710656 : Nat) : Int) := by
  rw [Int.fdiv_eq_ediv_of_nonneg _ (by decide)]
  rfl
theorem rem5 (n : Nat) : Value.int .i64 ((n : Int).tmod 5) = .int .i64 ((n % 5 : Nat) : Int) := by
  rw [Int.tmod_eq_emod_of_nonneg (Int.natCast_nonneg _)]
  rfl
theorem w64 {k : Nat} (h : k < 18446744073709551616) : Value.int .u64 (IntKind.u64.wrap (k : Int)) = .int .u64 (k : Int) := by rw [wrap_n64 h]
section
variable (id nf n m : Nat) (a fb : Option Addr) (c : Nat → Nat) (l : List Rp) (X R : Bd)
def lwS (k : Nat) (h g : Option Addr × Nat) : Ev.St := ⟨sp 146 [(0, .v (.int .u64 (id : Nat))), (1, .v (.slice a n m)), (5, .p 0 0), (7, .p 1 0), (9, .v (.slice h.1 (k + 1) h.2)), (10, .v (iv (k : Nat)))],
  [(cA c, 25), (stA id (.slice g.1 k g.2) (.slice fb nf nf) c, 36)],
  [bdO 9 1 wdC (.slice h.1 (k + 1) h.2) (jn (ln0 id nf) :: pls l k), bdO 51 21 prC (.slice g.1 k g.2) (l.take k), bdL, X, R]⟩
theorem lw_loop (h0 g0 : Option Addr × Nat) (hX : Reads X a 3 lpC l) (hl : l.length = n) (hc : ∀ (k : Nat) (x : Rp), l[k]? = some x → x.cost < 4294967296) :
    TY Tryd.prog 0 (.loop (loopN Tryd.prog 3 0)) (lwS id nf n m a fb c l X R 0 h0 g0) ((Option Addr × Nat) × (Option Addr × Nat)) (.exit 0) (fun y => lwS id nf n m a fb c l X R (min n 16) y.1 y.2) := by
  refine T_loop (I := {k : Nat // k ≤ min n 16} × ((Option Addr × Nat) × (Option Addr × Nat))) (fun j => lwS id nf n m a fb c l X R j.1.1 j.2.1 j.2.2) (fun j => 16 - j.1.1) (by simp) _ (fun ⟨⟨k, hk⟩, y, g⟩ => ?_) ⟨⟨0, Nat.zero_le _⟩, h0, g0⟩
  refine step_at (lwS id nf n m a fb c l X R k y g) rfl ?_ ?_ (Nat.zero_le _)
  exact fun go out => [.sp (decide ((k : Int) < (n : Int)))
    (fun d =>
      have h : k < n := by simpa using d
      [.b _ _ d, .sp (decide ((k : Int) < 16)) (fun d2 =>
        have h2 : k < 16 := by simp at d2; omega
        [.b _ _ d2, .so _ l[k]? (fun hx => [.no (by simp at hx; omega)]) fun x hx => [oUx 3 hX hx fun z hz =>
        let tl (r t : ByteArray) (hr : r = roleS x.role) (ht : t = stateS x.state) (g2 : Option Addr × Nat) : List (Ora Tryd.prog) :=
          have hs0 := dg_len (k + 1) (by omega)
          have hs1 := dg_len x.cost (Nat.lt_trans (hc k x hx) (by decide))
          have hs2 := role_len x.role
          have hs3 := state_len x.state
          have zs (u : ByteArray) : u.size = u.data.toList.length := rfl
          have t0 : (dgS (k + 1)).size ≤ 20 := by rw [zs]; exact hs0
          have t1 : (dgS x.cost).size ≤ 20 := by rw [zs]; exact hs1
          have t2 : r.size ≤ 10 := by rw [zs, hr]; exact hs2
          have t3 : t.size ≤ 10 := by rw [zs, ht]; exact hs3
          have q1 : a4.size = 5 := rfl
          have q2 : a2.size = 1 := rfl
          have q3 : a5.size = 6 := rfl
          [.r _ _ (wrap_next (n := 16) h2 (by decide)), .r _ _ (w64 (k := k + 1) (by omega)), .c 6 #[.int .u64 ((k + 1 : Nat) : Int)] (.string (dgS (k + 1))) (fun w => digits_any (k + 1) (by omega) w),
            oCt a4 (dgS (k + 1)) (by omega),
            oCt (a4 ++ dgS (k + 1)) a2 (by simp only [ByteArray.size_append]; omega), oCt (a4 ++ dgS (k + 1) ++ a2) r (by simp only [ByteArray.size_append]; omega), oCt (a4 ++ dgS (k + 1) ++ a2 ++ r) a2 (by simp only [ByteArray.size_append]; omega), oCt (a4 ++ dgS (k + 1) ++ a2 ++ r ++ a2) t (by simp only [ByteArray.size_append]; omega), oCt (a4 ++ dgS (k + 1) ++ a2 ++ r ++ a2 ++ t) a5 (by simp only [ByteArray.size_append]; omega),
            oYx lpE 3 n m h z hz, oYf 3 hX 24 2 (.int .u32 (x.cost : Nat)) hx rfl (by kernel_rfl) z hz, .r _ _ (w64 (k := x.cost) (Nat.lt_trans (hc k x hx) (by decide))), .c 6 #[.int .u64 (x.cost : Nat)] (.string (dgS x.cost)) (fun w => digits_any x.cost (Nat.lt_trans (hc k x hx) (by decide)) w),
            oCt (a4 ++ dgS (k + 1) ++ a2 ++ r ++ a2 ++ t ++ a5) (dgS x.cost) (by simp only [ByteArray.size_append]; omega),
            oAp wdE 42 0 3 #[false, false] (.slice y.1 (k + 1) y.2) (jn (ln0 id nf) :: pls l k) [a4 ++ dgS (k + 1) ++ a2 ++ r ++ a2 ++ t ++ a5 ++ dgS x.cost] (k + 2) (by simp [pls_len]) (by omega) fun y2 => [
            .r _ _ (wrap_next (n := 16) h2 (by decide)), go (⟨k + 1, by omega⟩, y2, g2) (by show 16 - (k + 1) < 16 - k; omega) ⟨sp 146 [(0, .v (.int .u64 (id : Nat))), (1, .v (.slice a n m)), (5, .p 0 0), (7, .p 1 0), (9, .v (.slice y2.1 (k + 2) y2.2)), (10, .v (iv ((k + 1 : Nat) : Int)))],
              [(cA c, 25), (stA id (.slice g2.1 (k + 1) g2.2) (.slice fb nf nf) c, 36)],
              [bdO 9 1 wdC (.slice y2.1 (k + 2) y2.2) ((jn (ln0 id nf) :: pls l k) ++ [a4 ++ dgS (k + 1) ++ a2 ++ r ++ a2 ++ t ++ a5 ++ dgS x.cost]), bdO 51 21 prC (.slice g2.1 (k + 1) g2.2) (l.take k ++ [x]), bdL, X, R]⟩ (by unfold lwS; rw [hr, ht, cat1, List.cons_append, pls_step hx, take_step hx])]]
        let st (r : ByteArray) (hr : r = roleS x.role) (g2 : Option Addr × Nat) : List (Ora Tryd.prog) := [oYx lpE 3 n m h z hz, oYf 3 hX 3 1 (.int .i64 x.state) hx rfl (by kernel_rfl) z hz,
          .sp (decide (x.state ≥ 0)) (fun e1 => [.b _ _ e1, oYx lpE 3 n m h z hz, oYf 3 hX 3 1 (.int .i64 x.state) hx rfl (by kernel_rfl) z hz, .sp (decide (x.state < 3))
            (fun e2 => .b _ _ e2 :: oYx lpE 3 n m h z hz :: oYf 3 hX 3 1 (.int .i64 x.state) hx rfl (by kernel_rfl) z hz :: oSt2 x.state (by simpa using e1) (by simpa using e2) :: tl r (stateS x.state) hr rfl g2)
            (fun e2 => .b _ _ e2 :: tl r ⟨#[63]⟩ hr (by simp at e2; unfold stateS; rw [if_neg (by omega), if_neg (by omega), if_neg (by omega)]) g2)])
            (fun e1 => .b _ _ e1 :: No :: tl r ⟨#[63]⟩ hr (by simp at e1; unfold stateS; rw [if_neg (by omega), if_neg (by omega), if_neg (by omega)]) g2)]
        [oYx lpE 3 n m h z hz, oYf 3 hX 3 0 (.int .i64 x.role) hx rfl (by kernel_rfl) z hz, oYx lpE 3 n m h z hz, oYf 3 hX 3 1 (.int .i64 x.state) hx rfl (by kernel_rfl) z hz, oYx lpE 3 n m h z hz, oYf 3 hX 24 2 (.int .u32 (x.cost : Nat)) hx rfl (by kernel_rfl) z hz,
          oAp prE 32 1 2 #[false, false] (.slice g.1 k g.2) (l.take k) [x] (k + 1) (by simp; omega) (by omega) fun g2 => [
          oYx lpE 3 n m h z hz, oYf 3 hX 3 0 (.int .i64 x.role) hx rfl (by kernel_rfl) z hz,
          .sp (decide (x.role ≥ 0)) (fun e1 => [.b _ _ e1, oYx lpE 3 n m h z hz, oYf 3 hX 3 0 (.int .i64 x.role) hx rfl (by kernel_rfl) z hz, .sp (decide (x.role < 5))
            (fun e2 => .b _ _ e2 :: oYx lpE 3 n m h z hz :: oYf 3 hX 3 0 (.int .i64 x.role) hx rfl (by kernel_rfl) z hz :: oRo x.role (by simpa using e1) (by simpa using e2) :: st (roleS x.role) rfl g2)
            (fun e2 => .b _ _ e2 :: st ⟨#[63]⟩ (by simp at e2; unfold roleS; rw [if_neg (by omega), if_neg (by omega), if_neg (by omega), if_neg (by omega), if_neg (by omega)]) g2)])
            (fun e1 => .b _ _ e1 :: No :: st ⟨#[63]⟩ (by simp at e1; unfold roleS; rw [if_neg (by omega), if_neg (by omega), if_neg (by omega), if_neg (by omega), if_neg (by omega)]) g2)]]]])
      (fun d2 => [.b _ _ d2, out (y, g) (lwS id nf n m a fb c l X R k y g) (by rw [show k = min n 16 by simp at d2; omega])])])
    (fun d => [.b _ _ d, No, out (y, g) (lwS id nf n m a fb c l X R k y g) (by rw [show k = min n 16 by simp at d; omega])])]
  intro _ _; kernel_rfl
end
end
end Go.Proofs.YtccbdmccfbjmeaaDoor
