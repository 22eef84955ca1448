/- LinkPlays walked. -/
import Derived.Test.YtiophmmcennjnaaLk7
import Derived.Test.YtiophmmcennjnaaActs
namespace Go.Proofs.Ytiophmmcennjnaa
open Go.RowKit
attribute [local irreducible] wpQuiet wpList
attribute [local irreducible] many
set_option linter.unusedSimpArgs false
set_option linter.unusedVariables false

theorem acSize : (Try.prog.info? 29).map (·.size) = some 4 := by kernel_rfl
theorem z27 : ∀ W : World, (zeroValue 27).run Try.prog W = .ok (.agg #[.slice none 0 0, .slice none 0 0]) W := fun W => Try.zeroValue27 W
theorem z29 : ∀ W : World, (zeroValue 29).run Try.prog W = .ok (.agg #[.int .u8 0, .int .i64 0, .string ⟨#[]⟩, .bool false]) W := fun W => Try.zeroValue29 W
theorem qv {P : Program} {ops : Array Oper} {C : World → Prop} {Q : Act → Prop} {a : Act} {rest : List Oper} {o : Oper} (v : Value) (h : wpQuiet P ops C Q rest (a.put o.dst v)) (hw : Region.wanted o (yielded ops a.tmps) = true := by rfl)
    (hv : ∀ w, C w → (execOp a.eval o).run P w = .ok (.value v) w := by intro wv hC; go_simp) : wpQuiet P ops C Q (o :: rest) a := q_val v hw hv h
theorem rows_range {w : World} {a : Option Addr} {α : Type} {size : Nat} {enc : α → List Value} {l : List α} {k : Nat} {x : α} (h : RowsAt w a size enc l) (hx : l[k]? = some x) : ∃ g off, a = some ⟨g, off, none⟩ ∧ ∀ W, Below w.heap.size w W → W.rangeAt g (off + k * size) (enc x) := by
  rcases h with rfl | ⟨g, off, rfl, hlt, hr⟩
  · cases hx
  · refine ⟨g, off, rfl, fun W hW j u hu => ?_⟩
    have q := hr k x hx j u hu
    rw [show off + (k * size + j) = off + k * size + j by omega] at q
    unfold World.cell? at q ⊢
    rw [hW.block g hlt]
    exact q
theorem bool_two (b : Bool) : b = true ∨ b = false := by cases b <;> simp
theorem run_bs1r {P : Program} {o : Oper} {ρ : Operand → Value} {w w' : World} (t : TypeId) (x : Operand) (ho : o.op = .buildSlice t 1 #[(0, x)]) (v s : Value) (hv : ρ x = v) (h : (Instr.buildSlice t 1 #[(0, v)]).run P w = .ok s w') : (execOp ρ o).run P w = .ok (.value s) w' := by
  subst hv
  unfold execOp
  simp only [ho, List.map_toArray, List.map_cons, List.map_nil, Sem.run_bind, h, Result.andThen_ok, Sem.run_pure]
/-- The law's state: the link and the law's own lists say the same. -/
def LS (w0 : World) (g bu : Nat) (up : Bool) (a b : List ByteArray) (w : World) : Prop := ∃ v0 v1, KL w0 [(bu, #[v0, v1], 27)] g up a b ((bdS v0 a).and (bdS v1 b)) w
theorem kl_new (w : World) : Calls Try.prog 6 #[] w fun y w' => ∃ g, y = .returned (.pointer (some ⟨g, 0, none⟩)) ∧ Kx w [] ((bdL w.heap.size g true (.slice none 0 0) (.slice none 0 0) [] []).and ((bdS (.slice none 0 0) []).and (bdS (.slice none 0 0) []))) w' :=
  (new_any w).mono fun y w' ⟨g, h1, h2, h3, h4⟩ => ⟨g, h1, (Kx.start (Kb.nil w)).renew h4 ⟨h3, .inl ⟨rfl, rfl⟩, .inl ⟨rfl, rfl⟩⟩ (fun k q => by
    rcases q with (q | q | q) | q | q
    · rw [q, h2]; exact Nat.le_refl _
    · cases q
    · cases q
    · cases q
    · cases q)⟩
/-- One more behind a list that the law reads. -/
theorem kl_put {w0 w w1 : World} {l : List (Nat × Array Value × TypeId)} {g : Nat} {up : Bool} {a b : List ByteArray} {C : Bd} {v : Value} {x : List ByteArray} (h : KL w0 l g up a b C w) (hb : Below w.heap.size w w1) (ho : Own w1 w.heap.size 9 1 stC v x) : KL w0 l g up a b (C.and (bdS v x)) w1 :=
  h.more hb (SrcB.of_own ho) (fun k q => (ho.lt k q).1)
theorem KL.set {w0 w : World} {l : List (Nat × Array Value × TypeId)} {g i c : Nat} {up : Bool} {a b : List ByteArray} {C : Bd} {cs : Array Value} {t : TypeId} (h : KL w0 l g up a b C w) (e : l[i]? = some (c, cs, t)) (j : Nat) (v : Value) : KL w0 (l.set i (c, cs.setIfInBounds j v, t)) g up a b C (w.setCell ⟨c, j, none⟩ v) := by
  obtain ⟨u0, u1, K, hd⟩ := h.ex
  exact ⟨u0, u1, K.set e j v, hd⟩
set_option maxRecDepth 100000 in
set_option maxHeartbeats 60000000 in
theorem plays_walk (l : List Ac) (w : World) (ap : Option Addr) (n m : Nat) (hl : RowsAt w ap 4 acC l) (hn : l.length = n) (hnm : n ≤ m) (hm : m ≤ maxLen) (hok : ∀ x ∈ l, x.ok) : Calls Try.prog 3 #[.slice ap n m] w fun e w' => e = .returned (.bool true) ∧ Below w.heap.size w w' := by
  have HL := Lib.hid hl
  have HN := Lib.hid hn
  have HOK := Lib.hid hok
  have i1 : (n : Int) ≤ 9223372036854775807 := by unfold maxLen at hm; omega
  have i2 : (n : Int) ≤ (m : Int) := by omega
  clear hl hn hok hnm hm
  go_enter Try.func3, Try.ntmps3
  go_upto_region 3 with (go_at_call 5; refine (speaks_any w).mono ?_; rintro y w1 ⟨rfl, hb⟩)
  have HB := Lib.hid hb
  clear hb
  go_upto_region 4 with (go_at_call 6; refine (kl_new w1).mono ?_; rintro y w2 ⟨g, rfl, hK⟩)
  have K2 := Lib.hid hK
  clear hK
  refine wp_region_lit ?_
  refine kx_alloc K2.out 27 (#[.slice none 0 0, .slice none 0 0]) rfl z27 (by rfl) ?_
  intro b3 w3 hb3 hk
  have K3 := Lib.hid (show Kx w1 [(b3, #[.slice none 0 0, .slice none 0 0], 27)] ((bdL w1.heap.size g true (.slice none 0 0) (.slice none 0 0) [] []).and ((bdS (.slice none 0 0) []).and (bdS (.slice none 0 0) []))) w3 from hk)
  clear hk hb3
  (try simp only [Act.put, gA, gS, gZ, sA, sZ, sS])
  refine wpList_nil ?_
  have L0 := Lib.hid (show LS w1 g b3 true [] [] w3 from ⟨_, _, _, _, K3.out, fun k q => by rcases q with q | q <;> cases q⟩)
  clear K2 K3
  go_upto_region 7 with fail
  go_loopw [5, 6] (fun p q wr => ∃ (k : Nat) (up : Bool) (a b : List ByteArray), k ≤ n ∧ k ≤ 80 ∧ a.length ≤ k ∧ b.length ≤ k ∧ p = .bool up ∧ q = .int .i64 (k : Nat) ∧ LS w1 g b3 up a b wr) (fun _ q _ => n - (intOf q).toNat)
  case atStart => exact ⟨0, true, [], [], Nat.zero_le _, Nat.zero_le _, Nat.le_refl _, Nat.le_refl _, rfl, rfl, L0.out⟩
  case round =>
    obtain ⟨k, up, a, b, hk, hk80, ha, hb, rfl, rfl, hL⟩ := hrel
    have LR := Lib.hid hL
    have HKK := Lib.hid (And.intro hk hk80)
    have HLA := Lib.hid ha
    have HLB := Lib.hid hb
    have c6 : (0 : Int) ≤ (k : Int) := by omega
    clear hL hk hk80 ha hb L0
    by_cases c0 : k < n ∧ k < 80
    case neg =>
      have hex : k = n ∨ (k < n ∧ k = 80) := by have := HKK.out; omega
      clear c0
      have HBE := Lib.hid (show Below w.heap.size w wr by obtain ⟨v0, v1, h⟩ := LR.out; exact HB.out.trans (h.below.mono HB.out.size))
      rcases hex with c1 | ⟨c1, c2⟩
      case' inl =>
        have c3 : n ≤ k := by omega
        clear c1
        go_upto_region 7 with fail
        refine wp_region_lit ?_
        refine wv (.int .i64 (k : Nat)) ?_
        (try simp only [Act.put, gA, gS, gZ, sA, sZ, sS])
        refine wv (.slice ap n m) ?_
        (try simp only [Act.put, gA, gS, gZ, sA, sZ, sS])
        refine wv (.int .i64 (n : Nat)) ?_
        (try simp only [Act.put, gA, gS, gZ, sA, sZ, sS])
        refine wv (.bool false) ?_ (hrun := by go_simp <;> omega)
        (try simp only [Act.put, gA, gS, gZ, sA, sZ, sS])
        refine wv (.bool false) ?_
        (try simp only [Act.put, gA, gS, gZ, sA, sZ, sS])
        refine wpList_skip (by kernel_rfl) ?_
        (try simp only [Act.put, gA, gS, gZ, sA, sZ, sS])
        refine wpList_skip (by kernel_rfl) ?_
        (try simp only [Act.put, gA, gS, gZ, sA, sZ, sS])
        refine wv (.bool false) ?_ (hrun := run_pick_no (.tmp 25) (.tmp 27) (.const (.bool false)) _ rfl rfl rfl)
        (try simp only [Act.put, gA, gS, gZ, sA, sZ, sS])
        refine wpList_nil ?_
      case' inr =>
        have c3 : (k : Int) < (n : Int) := by omega
        have c4 : decide ((k : Int) < 80) = false := decide_eq_false (by omega)
        clear c1 c2
        go_upto_region 7 with fail
        refine wp_region_lit ?_
        refine wv (.int .i64 (k : Nat)) ?_
        (try simp only [Act.put, gA, gS, gZ, sA, sZ, sS])
        refine wv (.slice ap n m) ?_
        (try simp only [Act.put, gA, gS, gZ, sA, sZ, sS])
        refine wv (.int .i64 (n : Nat)) ?_
        (try simp only [Act.put, gA, gS, gZ, sA, sZ, sS])
        refine wv (.bool true) ?_
        (try simp only [Act.put, gA, gS, gZ, sA, sZ, sS])
        refine wv (.bool true) ?_
        (try simp only [Act.put, gA, gS, gZ, sA, sZ, sS])
        refine wv (.int .i64 (k : Nat)) ?_
        (try simp only [Act.put, gA, gS, gZ, sA, sZ, sS])
        refine wv (.bool false) ?_
        (try simp only [Act.put, gA, gS, gZ, sA, sZ, sS])
        refine wv (.bool false) ?_ (hrun := run_pick_yes (.tmp 25) (.tmp 27) (.const (.bool false)) _ rfl rfl rfl)
        (try simp only [Act.put, gA, gS, gZ, sA, sZ, sS])
        refine wpList_nil ?_
      all_goals
        go_upto_region 42 with (go_at_call 8; refine (come_nil 0 wr).mono ?_; rintro y wr ⟨rfl, rfl⟩)
        refine wp_region_lit ?_
        refine wv (.pointer none) ?_
        (try simp only [Act.put, gA, gS, gZ, sA, sZ, sS])
        refine wl_call 10 #[.pointer none, .int .i64 0, .string ⟨#[]⟩] (by rfl) (by go_simp) (calls_one (send_nil 0 ⟨#[]⟩ wr)) ?_; rintro _ wr ⟨rfl, rfl⟩
        (try simp only [Act.put, gA, gS, gZ, sA, sZ, sS])
        refine wv (.bool true) ?_
        (try simp only [Act.put, gA, gS, gZ, sA, sZ, sS])
        refine wv (.bool true) ?_
        (try simp only [Act.put, gA, gS, gZ, sA, sZ, sS])
        refine wv (.bool false) ?_
        (try simp only [Act.put, gA, gS, gZ, sA, sZ, sS])
        refine wv (.bool true) ?_
        (try simp only [Act.put, gA, gS, gZ, sA, sZ, sS])
        refine wv (.bool true) ?_
        (try simp only [Act.put, gA, gS, gZ, sA, sZ, sS])
        refine wv (.bool true) ?_
        (try simp only [Act.put, gA, gS, gZ, sA, sZ, sS])
        refine wv (.pointer none) ?_
        (try simp only [Act.put, gA, gS, gZ, sA, sZ, sS])
        refine wl_call 7 #[.pointer none, .int .i64 0] (by rfl) (by go_simp) (calls_one (lose_any (come_nil 0 wr))) ?_; rintro _ wr ⟨rfl, rfl⟩
        (try simp only [Act.put, gA, gS, gZ, sA, sZ, sS])
        refine wv (.bool true) ?_
        (try simp only [Act.put, gA, gS, gZ, sA, sZ, sS])
        refine wv (.bool true) ?_
        (try simp only [Act.put, gA, gS, gZ, sA, sZ, sS])
        refine wv (.bool true) ?_
        (try simp only [Act.put, gA, gS, gZ, sA, sZ, sS])
        refine wv (.pointer none) ?_
        (try simp only [Act.put, gA, gS, gZ, sA, sZ, sS])
        refine wl_call 12 #[.pointer none, .int .i64 0] (by rfl) (by go_simp) (calls_one (under_nil 0 wr)) ?_; rintro _ wr ⟨rfl, rfl⟩
        (try simp only [Act.put, gA, gS, gZ, sA, sZ, sS])
        refine wv (.bool true) ?_
        (try simp only [Act.put, gA, gS, gZ, sA, sZ, sS])
        refine wv (.bool true) ?_
        (try simp only [Act.put, gA, gS, gZ, sA, sZ, sS])
        refine wv (.bool true) ?_
        (try simp only [Act.put, gA, gS, gZ, sA, sZ, sS])
        refine wv (.pointer none) ?_
        (try simp only [Act.put, gA, gS, gZ, sA, sZ, sS])
        refine wl_call 9 #[.pointer none, .bool true] (by rfl) (by go_simp) (calls_one (cut_nil true wr)) ?_; rintro _ wr ⟨rfl, rfl⟩
        (try simp only [Act.put, gA, gS, gZ, sA, sZ, sS])
        refine wv (.bool true) ?_
        (try simp only [Act.put, gA, gS, gZ, sA, sZ, sS])
        refine wv (.bool true) ?_
        (try simp only [Act.put, gA, gS, gZ, sA, sZ, sS])
        refine wv (.bool true) ?_
        (try simp only [Act.put, gA, gS, gZ, sA, sZ, sS])
        refine wv (.pointer none) ?_
        (try simp only [Act.put, gA, gS, gZ, sA, sZ, sS])
        refine wl_call 11 #[.pointer none] (by rfl) (by go_simp) (calls_one (up_nil wr)) ?_; rintro _ wr ⟨rfl, rfl⟩
        (try simp only [Act.put, gA, gS, gZ, sA, sZ, sS])
        refine wv (.bool true) ?_
        (try simp only [Act.put, gA, gS, gZ, sA, sZ, sS])
        refine wv (.bool true) ?_
        (try simp only [Act.put, gA, gS, gZ, sA, sZ, sS])
        refine wv (.bool true) ?_
        (try simp only [Act.put, gA, gS, gZ, sA, sZ, sS])
        refine wpList_nil ?_
        go_wp2_with fail
        go_ret
        exact ⟨rfl, HBE.out⟩
    case pos =>
      obtain ⟨c1, c2⟩ := c0
      have HLT := Lib.hid (And.intro c1 c2)
      obtain ⟨y, hy⟩ : ∃ y, l[k]? = some y := ⟨_, List.getElem?_eq_getElem (by rw [HN.out]; exact c1)⟩
      have hyo := HOK.out y (List.mem_of_getElem? hy)
      obtain ⟨ag, off, haf, hrow⟩ := rows_range HL.out hy
      subst haf
      obtain ⟨wh, fr, da, xu⟩ := y
      have y1 : (wh : Int) < 256 := by have : wh < 256 := hyo.what; omega
      have y2 : -9223372036854775808 ≤ fr := hyo.lo
      have y3 : fr ≤ 9223372036854775807 := hyo.hi
      have y4 : (da.size : Int) ≤ 9223372036854775807 := by have : da.size ≤ maxLen := hyo.da; unfold maxLen at this; omega
      have HROW := Lib.hid (show ∀ W, Below w1.heap.size w1 W → W.rangeAt ag (off + k * 4) (acC ⟨wh, fr, da, xu⟩) from fun W hW => hrow W (HB.out.trans (hW.mono HB.out.size)))
      obtain ⟨r, hr⟩ : ∃ r, r = wh % 6 := ⟨_, rfl⟩
      have HR := Lib.hid hr
      have y5 : (r : Int) < 6 := by omega
      have y6 : (0 : Int) ≤ (r : Int) := by omega
      obtain ⟨dn, hdn⟩ : ∃ dn, dn = min da.size 20 := ⟨_, rfl⟩
      have HDN := Lib.hid hdn
      have y7 : (dn : Int) ≤ (da.size : Int) := by omega
      obtain ⟨D, hD⟩ : ∃ D, D = da.extract 0 dn := ⟨_, rfl⟩
      have HD := Lib.hid hD
      have c4 : (k : Int) < (n : Int) := by omega
      have c5 : (k : Int) < 80 := by omega
      clear hy hyo hrow hr hdn hD c1 c2
      obtain ⟨v0, v1, hKL⟩ := LR.out
      obtain ⟨u0, u1, hK, hDD⟩ := hKL.ex
      have D10 := Lib.hid hDD
      clear hKL hDD LR
      have KR := Lib.hid (show Kx w1 [(b3, #[v0, v1], 27)] ((bdL w1.heap.size g up u0 u1 a b).and ((bdS v0 a).and (bdS v1 b))) wr from hK)
      clear hK
      have SH0 := Lib.hid (show ∃ q c, v0 = .slice q a.length c ∧ a.length ≤ c ∧ c ≤ maxLen from SrcB.shape KR.out.a.2.1)
      have SH1 := Lib.hid (show ∃ q c, v1 = .slice q b.length c ∧ b.length ≤ c ∧ c ≤ maxLen from SrcB.shape KR.out.a.2.2)
      go_upto_region 7 with fail
      refine wp_region_lit ?_
      refine wv (.int .i64 (k : Nat)) ?_
      (try simp only [Act.put, gA, gS, gZ, sA, sZ, sS])
      refine wv (.slice (some ⟨ag, off, none⟩) n m) ?_
      (try simp only [Act.put, gA, gS, gZ, sA, sZ, sS])
      refine wv (.int .i64 (n : Nat)) ?_
      (try simp only [Act.put, gA, gS, gZ, sA, sZ, sS])
      refine wv (.bool true) ?_
      (try simp only [Act.put, gA, gS, gZ, sA, sZ, sS])
      refine wv (.bool true) ?_
      (try simp only [Act.put, gA, gS, gZ, sA, sZ, sS])
      refine wv (.int .i64 (k : Nat)) ?_
      (try simp only [Act.put, gA, gS, gZ, sA, sZ, sS])
      refine wv (.bool true) ?_
      (try simp only [Act.put, gA, gS, gZ, sA, sZ, sS])
      refine wv (.bool true) ?_ (hrun := run_pick_yes (.tmp 25) (.tmp 27) (.const (.bool false)) _ rfl rfl rfl)
      (try simp only [Act.put, gA, gS, gZ, sA, sZ, sS])
      refine wpList_nil ?_
      go_upto_region 9 with fail
      refine wp_region_lit ?_
      refine wv (.slice (some ⟨ag, off, none⟩) n m) ?_
      (try simp only [Act.put, gA, gS, gZ, sA, sZ, sS])
      refine wv (.int .i64 (k : Nat)) ?_
      (try simp only [Act.put, gA, gS, gZ, sA, sZ, sS])
      refine wv (.pointer (some ⟨ag, off + k * 4, none⟩)) ?_ (hrun := by have q0 := HLT.out; go_simp)
      (try simp only [Act.put, gA, gS, gZ, sA, sZ, sS])
      refine wv (.agg (#[.int .u8 (wh : Nat), .int .i64 fr, .string da, .bool xu])) ?_ (hrun := run_loadRange 29 _ rfl ag (off + k * 4) rfl (#[.int .u8 (wh : Nat), .int .i64 fr, .string da, .bool xu]) _ (HROW.out _ KR.out.below) Try.underlying29 rfl (acSize))
      (try simp only [Act.put, gA, gS, gZ, sA, sZ, sS])
      refine kx_alloc KR.out 29 (#[.int .u8 0, .int .i64 0, .string ⟨#[]⟩, .bool false]) rfl z29 (by rfl) ?_
      intro b11 w11 hb11 hk
      have K11 := Lib.hid (show Kx w1 [(b3, #[v0, v1], 27), (b11, #[.int .u8 0, .int .i64 0, .string ⟨#[]⟩, .bool false], 29)] ((bdL w1.heap.size g up u0 u1 a b).and ((bdS v0 a).and (bdS v1 b))) w11 from hk)
      clear hk hb11
      (try simp only [Act.put, gA, gS, gZ, sA, sZ, sS])
      refine kx_row K11.out 1 rfl 29 _ _ (#[.int .u8 (wh : Nat), .int .i64 fr, .string da, .bool xu]) rfl rfl rfl rfl (acSize) (by rfl) (by kernel_rfl) ?_
      intro w12 hk
      have K12 := Lib.hid (show Kx w1 [(b3, #[v0, v1], 27), (b11, #[.int .u8 (wh : Nat), .int .i64 fr, .string da, .bool xu], 29)] ((bdL w1.heap.size g up u0 u1 a b).and ((bdS v0 a).and (bdS v1 b))) w12 from hk)
      clear hk
      (try simp only [Act.put, gA, gS, gZ, sA, sZ, sS])
      refine wpList_nil ?_
      clear HROW
      by_cases e0 : fr = 0
      · subst e0
        clear y2 y3
        go_upto_region 10 with fail
        refine wp_region_lit ?_
        refine wv (.pointer (some ⟨b11, 1, none⟩)) ?_
        (try simp only [Act.put, gA, gS, gZ, sA, sZ, sS])
        refine wv (.int .i64 0) ?_ (hrun := by have q : w12.cell? ⟨b11, 1, none⟩ = some (.int .i64 0) := K12.out.cell (i := 1) rfl (by rfl); go_simp)
        (try simp only [Act.put, gA, gS, gZ, sA, sZ, sS])
        refine wv (.bool true) ?_
        (try simp only [Act.put, gA, gS, gZ, sA, sZ, sS])
        refine wv (.bool true) ?_
        (try simp only [Act.put, gA, gS, gZ, sA, sZ, sS])
        refine wpList_skip (by kernel_rfl) ?_
        (try simp only [Act.put, gA, gS, gZ, sA, sZ, sS])
        refine wpList_skip (by kernel_rfl) ?_
        (try simp only [Act.put, gA, gS, gZ, sA, sZ, sS])
        refine wpList_skip (by kernel_rfl) ?_
        (try simp only [Act.put, gA, gS, gZ, sA, sZ, sS])
        refine wv (.bool true) ?_ (hrun := run_pick_yes (.tmp 38) (.const (.bool true)) (.tmp 41) _ rfl rfl rfl)
        (try simp only [Act.put, gA, gS, gZ, sA, sZ, sS])
        refine wv (.bool true) ?_
        (try simp only [Act.put, gA, gS, gZ, sA, sZ, sS])
        refine wpList_nil ?_
        go_upto_region 11 with fail
        refine wp_region_lit ?_
        refine wv (.pointer (some ⟨b11, 2, none⟩)) ?_
        (try simp only [Act.put, gA, gS, gZ, sA, sZ, sS])
        refine wv (.string da) ?_ (hrun := by have q : w12.cell? ⟨b11, 2, none⟩ = some (.string da) := K12.out.cell (i := 1) rfl (by rfl); go_simp)
        (try simp only [Act.put, gA, gS, gZ, sA, sZ, sS])
        refine wv (.pointer (some ⟨b11, 2, none⟩)) ?_
        (try simp only [Act.put, gA, gS, gZ, sA, sZ, sS])
        refine wv (.string da) ?_ (hrun := by have q : w12.cell? ⟨b11, 2, none⟩ = some (.string da) := K12.out.cell (i := 1) rfl (by rfl); go_simp)
        (try simp only [Act.put, gA, gS, gZ, sA, sZ, sS])
        refine wv (.int .i64 (da.size : Nat)) ?_
        (try simp only [Act.put, gA, gS, gZ, sA, sZ, sS])
        refine wv (.int .i64 (dn : Nat)) ?_ (hrun := by have q := HDN.out; go_simp; try omega)
        (try simp only [Act.put, gA, gS, gZ, sA, sZ, sS])
        refine wv (.string D) ?_ (hrun := by have q := HD.out; go_simp <;> (intro hz; exfalso; omega))
        (try simp only [Act.put, gA, gS, gZ, sA, sZ, sS])
        refine wv (.string D) ?_
        (try simp only [Act.put, gA, gS, gZ, sA, sZ, sS])
        refine wpList_nil ?_
        go_upto_region 12 with fail
        refine wp_region_lit ?_
        refine wv (.pointer (some ⟨b11, 0, none⟩)) ?_
        (try simp only [Act.put, gA, gS, gZ, sA, sZ, sS])
        refine wv (.int .u8 (wh : Nat)) ?_ (hrun := by have q : w12.cell? ⟨b11, 0, none⟩ = some (.int .u8 (wh : Nat)) := K12.out.cell (i := 1) rfl (by rfl); go_simp)
        (try simp only [Act.put, gA, gS, gZ, sA, sZ, sS])
        refine wv (.int .u8 (r : Nat)) ?_ (hrun := by go_simp; rw [Int.tmod_eq_emod_of_nonneg (by omega)]; have q := HR.out; omega)
        (try simp only [Act.put, gA, gS, gZ, sA, sZ, sS])
        refine wpList_nil ?_
        by_cases r3 : r = 3
        case pos => as_aux_lemma =>
          subst r3
          go_upto_region 17 with fail
          refine wp_region_lit ?_
          refine wv (.bool true) ?_
          (try simp only [Act.put, gA, gS, gZ, sA, sZ, sS])
          refine wv (.bool true) ?_
          (try simp only [Act.put, gA, gS, gZ, sA, sZ, sS])
          refine wpList_nil ?_
          cases a
          case nil => as_aux_lemma =>
            obtain ⟨sq, sc, se, -, -⟩ := SH0.out
            have SE := Lib.hid (show v0 = .slice sq 0 sc from se)
            clear se
            go_upto_region 19 with fail
            refine wp_region_quiet (C := fun W => Kx w1 [(b3, #[v0, v1], 27), (b11, #[.int .u8 (wh : Nat), .int .i64 0, .string da, .bool xu], 29)] ((bdL w1.heap.size g up u0 u1 [] b).and ((bdS v0 []).and (bdS v1 b))) W) (by kernel_rfl) (by kernel_rfl) K12.out.drew ?_
            refine qv (.bool true) ?_
            (try simp only [Act.put, gA, gS, gZ, sA, sZ, sS])
            refine qv (.bool true) ?_
            (try simp only [Act.put, gA, gS, gZ, sA, sZ, sS])
            refine qv (.pointer (some ⟨b11, 1, none⟩)) ?_
            (try simp only [Act.put, gA, gS, gZ, sA, sZ, sS])
            refine qv (.int .i64 0) ?_ (hv := fun wv hC => by have q : wv.cell? ⟨b11, 1, none⟩ = some (.int .i64 0) := hC.cell (i := 1) rfl (by rfl); go_simp)
            (try simp only [Act.put, gA, gS, gZ, sA, sZ, sS])
            refine qv (.int .i64 0) ?_ (hv := fun wv hC => by go_simp; rfl)
            (try simp only [Act.put, gA, gS, gZ, sA, sZ, sS])
            refine qv (.pointer (some ⟨b3, 0, none⟩)) ?_
            (try simp only [Act.put, gA, gS, gZ, sA, sZ, sS])
            refine qv (.slice sq 0 sc) ?_ (hv := fun wv hC => by have q : wv.cell? ⟨b3, 0, none⟩ = some (v0) := hC.cell (i := 0) rfl (by rfl); rw [SE.out] at q; go_simp)
            (try simp only [Act.put, gA, gS, gZ, sA, sZ, sS])
            refine qv (.int .i64 0) ?_
            (try simp only [Act.put, gA, gS, gZ, sA, sZ, sS])
            refine qv (.bool false) ?_
            (try simp only [Act.put, gA, gS, gZ, sA, sZ, sS])
            refine qv (.bool false) ?_ (hv := fun wv hC => run_pick_yes (.tmp 83) (.tmp 90) (.const (.bool false)) _ rfl rfl rfl)
            (try simp only [Act.put, gA, gS, gZ, sA, sZ, sS])
            refine qv (.string ⟨#[]⟩) ?_
            (try simp only [Act.put, gA, gS, gZ, sA, sZ, sS])
            refine qv (.bool false) ?_
            (try simp only [Act.put, gA, gS, gZ, sA, sZ, sS])
            refine wpQuiet_nil ?_
            intro w13 hC
            have K13 := Lib.hid (show Kx w1 [(b3, #[v0, v1], 27), (b11, #[.int .u8 (wh : Nat), .int .i64 0, .string da, .bool xu], 29)] ((bdL w1.heap.size g up u0 u1 [] b).and ((bdS v0 []).and (bdS v1 b))) w13 from hC)
            clear hC
            go_upto_region 20 with fail
            refine wp_region_lit ?_
            refine wv (.bool false) ?_
            (try simp only [Act.put, gA, gS, gZ, sA, sZ, sS])
            refine wpList_nil ?_
            go_upto_region 23 with fail
            refine wp_region_lit ?_
            refine wv (.pointer (some ⟨b11, 0, none⟩)) ?_
            (try simp only [Act.put, gA, gS, gZ, sA, sZ, sS])
            refine wv (.int .u8 (wh : Nat)) ?_ (hrun := by have q : w13.cell? ⟨b11, 0, none⟩ = some (.int .u8 (wh : Nat)) := K13.out.cell (i := 1) rfl (by rfl); go_simp)
            (try simp only [Act.put, gA, gS, gZ, sA, sZ, sS])
            refine wv (.int .u8 3) ?_ (hrun := by go_simp; rw [Int.tmod_eq_emod_of_nonneg (by omega)]; have q := HR.out; omega)
            (try simp only [Act.put, gA, gS, gZ, sA, sZ, sS])
            refine wv (.bool false) ?_
            (try simp only [Act.put, gA, gS, gZ, sA, sZ, sS])
            refine wpList_nil ?_
            go_upto_region 26 with fail
            refine wp_region_lit ?_
            refine wv (.pointer (some ⟨g, 0, none⟩)) ?_
            (try simp only [Act.put, gA, gS, gZ, sA, sZ, sS])
            refine wv (.pointer (some ⟨b11, 1, none⟩)) ?_
            (try simp only [Act.put, gA, gS, gZ, sA, sZ, sS])
            refine wv (.int .i64 0) ?_ (hrun := by have q : w13.cell? ⟨b11, 1, none⟩ = some (.int .i64 0) := K13.out.cell (i := 1) rfl (by rfl); go_simp)
            (try simp only [Act.put, gA, gS, gZ, sA, sZ, sS])
            refine wl_call 8 #[.pointer (some ⟨g, 0, none⟩), .int .i64 0] (by rfl) (by go_simp) (calls_one (come_no K13.out.a.1 0 rfl)) ?_
            rintro _ w13 ⟨rfl, rfl⟩
            (try simp only [Act.put, gA, gS, gZ, sA, sZ, sS])
            refine wv (.tuple #[.string ⟨#[]⟩, .bool false]) ?_
            (try simp only [Act.put, gA, gS, gZ, sA, sZ, sS])
            refine wv (.string ⟨#[]⟩) ?_
            (try simp only [Act.put, gA, gS, gZ, sA, sZ, sS])
            refine wv (.bool false) ?_
            (try simp only [Act.put, gA, gS, gZ, sA, sZ, sS])
            refine wv (.string ⟨#[]⟩) ?_
            (try simp only [Act.put, gA, gS, gZ, sA, sZ, sS])
            refine wv (.bool false) ?_
            (try simp only [Act.put, gA, gS, gZ, sA, sZ, sS])
            refine wpList_nil ?_
            go_upto_region 27 with fail
            refine wp_region_lit ?_
            refine wv (.string ⟨#[]⟩) ?_
            (try simp only [Act.put, gA, gS, gZ, sA, sZ, sS])
            refine wv (.string ⟨#[]⟩) ?_
            (try simp only [Act.put, gA, gS, gZ, sA, sZ, sS])
            refine wv (.bool false) ?_ (hrun := by go_simp)
            (try simp only [Act.put, gA, gS, gZ, sA, sZ, sS])
            refine wv (.bool false) ?_
            (try simp only [Act.put, gA, gS, gZ, sA, sZ, sS])
            refine wv (.bool false) ?_
            (try simp only [Act.put, gA, gS, gZ, sA, sZ, sS])
            refine wv (.bool false) ?_
            (try simp only [Act.put, gA, gS, gZ, sA, sZ, sS])
            refine wv (.bool false) ?_
            (try simp only [Act.put, gA, gS, gZ, sA, sZ, sS])
            refine wv (.bool false) ?_
            (try simp only [Act.put, gA, gS, gZ, sA, sZ, sS])
            refine wpList_nil ?_
            go_upto_region 35 with fail
            refine wp_region_lit ?_
            refine wv (.int .i64 0) ?_
            (try simp only [Act.put, gA, gS, gZ, sA, sZ, sS])
            refine wpList_nil ?_
            go_upto_region 36 with fail
            refine wp_region_lit ?_
            refine wv (.bool true) ?_
            (try simp only [Act.put, gA, gS, gZ, sA, sZ, sS])
            refine wpList_nil ?_
            obtain ⟨s15q, s15c, s15e, -, -⟩ := SrcB.shape K13.out.a.2.1
            have s15h := Lib.hid s15e
            clear s15e
            go_upto_region 37 with fail
            refine wp_region_lit ?_
            refine wv (.pointer (some ⟨b11, 1, none⟩)) ?_
            (try simp only [Act.put, gA, gS, gZ, sA, sZ, sS])
            refine wv (.int .i64 0) ?_ (hrun := by have q : w13.cell? ⟨b11, 1, none⟩ = some (.int .i64 0) := K13.out.cell (i := 1) rfl (by rfl); go_simp)
            (try simp only [Act.put, gA, gS, gZ, sA, sZ, sS])
            refine wv (.pointer (some ⟨b3, 0, none⟩)) ?_
            (try simp only [Act.put, gA, gS, gZ, sA, sZ, sS])
            refine wv (.slice s15q (([] : List ByteArray)).length s15c) ?_ (hrun := by have q : w13.cell? ⟨b3, 0, none⟩ = some (v0) := K13.out.cell (i := 0) rfl (by rfl); rw [s15h.out] at q; go_simp)
            (try simp only [Act.put, gA, gS, gZ, sA, sZ, sS])
            refine wv (.int .i64 ((([] : List ByteArray)).length : Nat)) ?_
            (try simp only [Act.put, gA, gS, gZ, sA, sZ, sS])
            refine wv (.int .i64 ((([] : List ByteArray)).length : Nat)) ?_
            (try simp only [Act.put, gA, gS, gZ, sA, sZ, sS])
            refine wpList_nil ?_
            go_upto_region 38 with fail
            have HUN := Lib.hid (show unN 0 (([] : List ByteArray)) (b) = (([] : List ByteArray)).length from rfl)
            refine wp_region_lit ?_
            refine wv (.pointer (some ⟨g, 0, none⟩)) ?_
            (try simp only [Act.put, gA, gS, gZ, sA, sZ, sS])
            refine wl_call 11 #[.pointer (some ⟨g, 0, none⟩)] (by rfl) (by go_simp) (calls_one (up_any K13.out.a.1)) ?_; rintro _ w13 ⟨rfl, rfl⟩
            (try simp only [Act.put, gA, gS, gZ, sA, sZ, sS])
            refine wv (.bool up) ?_
            (try simp only [Act.put, gA, gS, gZ, sA, sZ, sS])
            refine wv (.bool false) ?_
            (try simp only [Act.put, gA, gS, gZ, sA, sZ, sS])
            refine wv (.bool false) ?_
            (try simp only [Act.put, gA, gS, gZ, sA, sZ, sS])
            refine wv (.pointer (some ⟨g, 0, none⟩)) ?_
            (try simp only [Act.put, gA, gS, gZ, sA, sZ, sS])
            refine wv (.pointer (some ⟨b11, 1, none⟩)) ?_
            (try simp only [Act.put, gA, gS, gZ, sA, sZ, sS])
            refine wv (.int .i64 0) ?_ (hrun := by have q : w13.cell? ⟨b11, 1, none⟩ = some (.int .i64 0) := K13.out.cell (i := 1) rfl (by rfl); go_simp)
            (try simp only [Act.put, gA, gS, gZ, sA, sZ, sS])
            refine wl_call 12 #[.pointer (some ⟨g, 0, none⟩), .int .i64 0] (by rfl) (by go_simp) (calls_one (under_any K13.out.a.1 0)) ?_; rintro _ w13 ⟨rfl, rfl⟩
            rw [HUN.out]
            (try simp only [Act.put, gA, gS, gZ, sA, sZ, sS])
            refine wv (.int .i64 ((([] : List ByteArray)).length : Nat)) ?_
            (try simp only [Act.put, gA, gS, gZ, sA, sZ, sS])
            refine wv (.bool false) ?_
            (try simp only [Act.put, gA, gS, gZ, sA, sZ, sS])
            refine wv (.bool false) ?_
            (try simp only [Act.put, gA, gS, gZ, sA, sZ, sS])
            refine wpList_nil ?_
            have LN := Lib.hid (show LS w1 g b3 up (([] : List ByteArray)) (b) w13 from ⟨v0, v1, KL.left (l := [(b3, #[v0, v1], 27)]) (r := [(b11, #[.int .u8 (wh : Nat), .int .i64 0, .string da, .bool xu], 29)]) ⟨_, _, K13.out, D10.out⟩⟩)
            go_wp2_with fail
            go_roundw
            case measure => have := HLT.out; simp only [intOf]; omega
            case rel => exact ⟨k + 1, up, ([] : List ByteArray), b, by have := HLT.out; omega, by have := HLT.out; omega, by have := HLA.out; (try simp only [List.length_append, List.length_cons, List.length_nil] at this ⊢); omega, by have := HLB.out; (try simp only [List.length_append, List.length_cons, List.length_nil] at this ⊢); omega, rfl, by go_simp, LN.out⟩
          case cons sx ra => as_aux_lemma =>
            obtain ⟨SG, so, sc, se, h1, h2, h3, h4⟩ := SrcB.cons K12.out.a.2.1
            have SF := Lib.hid (show ∀ W, SrcB W v0 (sx :: ra) → SrcB W (.slice (if sc = 1 then some ⟨SG, so, none⟩ else some ⟨SG, so + 1, none⟩) ra.length (sc - 1)) ra from fun W h => by
              obtain ⟨G2, o2, c2, e2, -, -, -, q⟩ := SrcB.cons h
              rw [se] at e2; cases e2; exact q)
            have SE := Lib.hid se
            have S1 := Lib.hid h1
            have S2 := Lib.hid h2
            have S4 := Lib.hid h4
            have S3 := Lib.hid (show ∀ W, SrcB W v0 (sx :: ra) → W.cell? ⟨SG, so, none⟩ = some (.string sx) from fun W h => by
              obtain ⟨G2, o2, c2, e2, -, -, q, -⟩ := SrcB.cons h
              rw [se] at e2; cases e2; exact q)
            obtain ⟨sn, hsn⟩ : ∃ sn, sn = ra.length := ⟨_, rfl⟩
            have SN := Lib.hid hsn
            rw [← hsn] at SE S1 S4 SF
            have z1 : (0 : Int) ≤ (sn : Int) := by omega
            have z2 : ¬ ((sn : Int) + 1 ≤ 0) := by omega
            have z3 : (sn : Int) + 1 ≤ (sc : Int) := by have := S1.out; omega
            have z4 : (sc : Int) ≤ 9223372036854775807 := by have := S2.out; unfold maxLen at this; omega
            clear se h1 h2 h3 h4 hsn
            go_upto_region 19 with fail
            refine wp_region_quiet (C := fun W => Kx w1 [(b3, #[v0, v1], 27), (b11, #[.int .u8 (wh : Nat), .int .i64 0, .string da, .bool xu], 29)] ((bdL w1.heap.size g up u0 u1 (sx :: ra) b).and ((bdS v0 (sx :: ra)).and (bdS v1 b))) W) (by kernel_rfl) (by kernel_rfl) K12.out.drew ?_
            refine qv (.bool true) ?_
            (try simp only [Act.put, gA, gS, gZ, sA, sZ, sS])
            refine qv (.bool true) ?_
            (try simp only [Act.put, gA, gS, gZ, sA, sZ, sS])
            refine qv (.pointer (some ⟨b11, 1, none⟩)) ?_
            (try simp only [Act.put, gA, gS, gZ, sA, sZ, sS])
            refine qv (.int .i64 0) ?_ (hv := fun wv hC => by have q : wv.cell? ⟨b11, 1, none⟩ = some (.int .i64 0) := hC.cell (i := 1) rfl (by rfl); go_simp)
            (try simp only [Act.put, gA, gS, gZ, sA, sZ, sS])
            refine qv (.int .i64 0) ?_ (hv := fun wv hC => by go_simp; rfl)
            (try simp only [Act.put, gA, gS, gZ, sA, sZ, sS])
            refine qv (.pointer (some ⟨b3, 0, none⟩)) ?_
            (try simp only [Act.put, gA, gS, gZ, sA, sZ, sS])
            refine qv (.slice (some ⟨SG, so, none⟩) (sn + 1) sc) ?_ (hv := fun wv hC => by have q : wv.cell? ⟨b3, 0, none⟩ = some (v0) := hC.cell (i := 0) rfl (by rfl); rw [SE.out] at q; go_simp)
            (try simp only [Act.put, gA, gS, gZ, sA, sZ, sS])
            refine qv (.int .i64 ((sn : Int) + 1)) ?_
            (try simp only [Act.put, gA, gS, gZ, sA, sZ, sS])
            refine qv (.bool true) ?_ (hv := fun wv hC => by go_simp; try omega)
            (try simp only [Act.put, gA, gS, gZ, sA, sZ, sS])
            refine qv (.bool true) ?_ (hv := fun wv hC => run_pick_yes (.tmp 83) (.tmp 90) (.const (.bool false)) _ rfl rfl rfl)
            (try simp only [Act.put, gA, gS, gZ, sA, sZ, sS])
            refine qv (.string ⟨#[]⟩) ?_
            (try simp only [Act.put, gA, gS, gZ, sA, sZ, sS])
            refine qv (.bool true) ?_
            (try simp only [Act.put, gA, gS, gZ, sA, sZ, sS])
            refine wpQuiet_nil ?_
            intro w13 hC
            have K13 := Lib.hid (show Kx w1 [(b3, #[v0, v1], 27), (b11, #[.int .u8 (wh : Nat), .int .i64 0, .string da, .bool xu], 29)] ((bdL w1.heap.size g up u0 u1 (sx :: ra) b).and ((bdS v0 (sx :: ra)).and (bdS v1 b))) w13 from hC)
            clear hC
            go_upto_region 20 with fail
            refine wp_region_lit ?_
            refine wv (.bool true) ?_
            (try simp only [Act.put, gA, gS, gZ, sA, sZ, sS])
            refine wpList_nil ?_
            go_upto_region 21 with fail
            refine wp_region_lit ?_
            refine wv (.pointer (some ⟨b11, 1, none⟩)) ?_
            (try simp only [Act.put, gA, gS, gZ, sA, sZ, sS])
            refine wv (.int .i64 0) ?_ (hrun := by have q : w13.cell? ⟨b11, 1, none⟩ = some (.int .i64 0) := K13.out.cell (i := 1) rfl (by rfl); go_simp)
            (try simp only [Act.put, gA, gS, gZ, sA, sZ, sS])
            refine wv (.pointer (some ⟨b3, 0, none⟩)) ?_
            (try simp only [Act.put, gA, gS, gZ, sA, sZ, sS])
            refine wv (.slice (some ⟨SG, so, none⟩) (sn + 1) sc) ?_ (hrun := by have q : w13.cell? ⟨b3, 0, none⟩ = some (v0) := K13.out.cell (i := 0) rfl (by rfl); rw [SE.out] at q; go_simp)
            (try simp only [Act.put, gA, gS, gZ, sA, sZ, sS])
            refine wv (.pointer (some ⟨SG, so, none⟩)) ?_ (hrun := by go_simp <;> (intro hz; exfalso; omega))
            (try simp only [Act.put, gA, gS, gZ, sA, sZ, sS])
            refine wv (.string sx) ?_ (hrun := by have q := S3.out _ K13.out.a.2.1; go_simp)
            (try simp only [Act.put, gA, gS, gZ, sA, sZ, sS])
            refine wv (.string sx) ?_
            (try simp only [Act.put, gA, gS, gZ, sA, sZ, sS])
            refine wpList_nil ?_
            go_upto_region 22 with fail
            refine rk (fun (_ : Unit) => [.pointer (some ⟨b11, 1, none⟩), .int .i64 0, .pointer (some ⟨b11, 1, none⟩), .int .i64 0, .pointer (some ⟨b3, 0, none⟩), .slice (some ⟨SG, so, none⟩) (sn + 1) sc, .slice (if sc = 1 then some ⟨SG, so, none⟩ else some ⟨SG, so + 1, none⟩) sn (sc - 1), .pointer (some ⟨b3, 0, none⟩), undef]) (fun _ Lx w' => (Lx 8 = false ∧ Kx w1 [(b3, #[v0, v1], 27), (b11, #[.int .u8 (wh : Nat), .int .i64 0, .string da, .bool xu], 29)] ((bdL w1.heap.size g up u0 u1 (sx :: ra) b).and ((bdS v0 (sx :: ra)).and (bdS v1 b))) w') ∨ (Lx 8 = true ∧ Kx w1 [(b3, #[(.slice (if sc = 1 then some ⟨SG, so, none⟩ else some ⟨SG, so + 1, none⟩) sn (sc - 1)), v1], 27), (b11, #[.int .u8 (wh : Nat), .int .i64 0, .string da, .bool xu], 29)] ((bdL w1.heap.size g up u0 u1 (sx :: ra) b).and ((bdS v0 (sx :: ra)).and (bdS v1 b))) w')) (()) [] [] [(1, fun _ => [(99, .pointer (some ⟨b11, 1, none⟩))]), (3, fun _ => [(101, .pointer (some ⟨b11, 1, none⟩))]), (5, fun _ => [(103, .pointer (some ⟨b3, 0, none⟩))]), (6, fun _ => [(104, .slice (some ⟨SG, so, none⟩) (sn + 1) sc)]), (8, fun _ => [(106, .pointer (some ⟨b3, 0, none⟩)), (105, .slice (if sc = 1 then some ⟨SG, so, none⟩ else some ⟨SG, so + 1, none⟩) sn (sc - 1))])] [8] ?_ ?_ ?_ ?_ ?_
            · exact .inl ⟨rfl, K13.out.drew⟩
            · intro s L w' h; exact trivial
            · intro s L1 L2 w' e h; (try dsimp only at h ⊢); rw [← e 8 (by simp)]; exact h
            · refine ⟨?_, ?_, ?_, ?_, ?_, trivial⟩ <;> (rintro s Lx w' hw hL haft hdc ρ hc hf hG hs o ho; cases ho; try dsimp only [seen] at hw hs)
              · obtain ⟨e99, -⟩ := hs
                rcases hw with ⟨h8, hw⟩ | ⟨h8, -⟩
                case inr => exact absurd (hdc 8 h8 1 (by decide)) (by rw [hL]; decide)
                exact sw (.int .i64 0) (by have q : w'.cell? ⟨b11, 1, none⟩ = some (.int .i64 0) := Kx.cell (i := 1) hw rfl (by rfl); go_simp) ⟨s, fun _ _ => rfl, rfl, .inl ⟨h8, hw⟩⟩
              · obtain ⟨e101, -⟩ := hs
                rcases hw with ⟨h8, hw⟩ | ⟨h8, -⟩
                case inr => exact absurd (hdc 8 h8 3 (by decide)) (by rw [hL]; decide)
                exact sw (.int .i64 0) (by have q : w'.cell? ⟨b11, 1, none⟩ = some (.int .i64 0) := Kx.cell (i := 1) hw rfl (by rfl); go_simp) ⟨s, fun _ _ => rfl, rfl, .inl ⟨h8, hw⟩⟩
              · obtain ⟨e103, -⟩ := hs
                rcases hw with ⟨h8, hw⟩ | ⟨h8, -⟩
                case inr => exact absurd (hdc 8 h8 5 (by decide)) (by rw [hL]; decide)
                exact sw (.slice (some ⟨SG, so, none⟩) (sn + 1) sc) (by have q : w'.cell? ⟨b3, 0, none⟩ = some (.slice (some ⟨SG, so, none⟩) (sn + 1) sc) := (by rw [← SE.out]; exact Kx.cell (i := 0) hw rfl (by rfl)); go_simp) ⟨s, fun _ _ => rfl, rfl, .inl ⟨h8, hw⟩⟩
              · obtain ⟨e104, -⟩ := hs
                exact sw (w' := w') (.slice (if sc = 1 then some ⟨SG, so, none⟩ else some ⟨SG, so + 1, none⟩) sn (sc - 1)) (by have z5 : (1 : Int) ≤ (sn : Int) + 1 := (by omega); go_simp) ⟨s, fun _ _ => rfl, rfl, by simpa [upd] using hw⟩
              · obtain ⟨e106, e105, -⟩ := hs
                rcases hw with ⟨h8, hw⟩ | ⟨h8, -⟩
                case inr => rw [hL] at h8; cases h8
                exact ss 26 (.tmp 106) (.tmp 105) rfl ⟨b3, 0, none⟩ (.slice (if sc = 1 then some ⟨SG, so, none⟩ else some ⟨SG, so + 1, none⟩) sn (sc - 1)) e106 e105 (kx_run_set hw (i := 0) rfl 26 0 (v0) (.slice (if sc = 1 then some ⟨SG, so, none⟩ else some ⟨SG, so + 1, none⟩) sn (sc - 1)) (by rfl) (fun W h1 h2 => by go_simp)) ⟨s, fun _ _ => rfl, rfl, .inr ⟨rfl, kx_cast (Kx.set hw (i := 0) rfl 0 (.slice (if sc = 1 then some ⟨SG, so, none⟩ else some ⟨SG, so + 1, none⟩) sn (sc - 1))) rfl⟩⟩
            · rintro s Lx w14 hw hall
              rcases hw with ⟨h8, -⟩ | ⟨-, hw⟩
              case inl => rw [hall 8 (by decide)] at h8; cases h8
              simp only [List.toList_toArray, putsZ_some, putsZ_none, putsZ_nil, List.setIfInBounds_toArray, List.set_cons_zero, List.set_cons_succ]
              have BO : ∀ k, (.slice (if sc = 1 then some ⟨SG, so, none⟩ else some ⟨SG, so + 1, none⟩) sn (sc - 1) : Value).ownBlock = some k → (v0 : Value).ownBlock = some k := fun k q => by rw [SE.out]; by_cases hc : sc = 1 <;> simp [hc, Value.ownBlock] at q ⊢ <;> exact q
              have K14 := Lib.hid (show Kx w1 [(b3, #[(.slice (if sc = 1 then some ⟨SG, so, none⟩ else some ⟨SG, so + 1, none⟩) sn (sc - 1)), v1], 27), (b11, #[.int .u8 (wh : Nat), .int .i64 0, .string da, .bool xu], 29)] ((bdL w1.heap.size g up u0 u1 (sx :: ra) b).and ((bdS (.slice (if sc = 1 then some ⟨SG, so, none⟩ else some ⟨SG, so + 1, none⟩) sn (sc - 1)) ra).and (bdS v1 b))) w14 from hw.turn (fun h => ⟨h.1, SF.out _ h.2.1, h.2.2⟩) (fun k q => by rcases q with q | q | q; exact .inl q; exact .inr (.inl (BO k q)); exact .inr (.inr q)))
              have D14 := Lib.hid (show ∀ k, ((bdS (.slice (if sc = 1 then some ⟨SG, so, none⟩ else some ⟨SG, so + 1, none⟩) sn (sc - 1)) ra).and (bdS v1 b)).f k → ¬ lkF g u0 u1 k from fun k q => D10.out k (by rcases q with q | q; exact .inl (BO k q); exact .inr q))
              clear hw hall BO
              go_upto_region 23 with fail
              refine wp_region_lit ?_
              refine wv (.pointer (some ⟨b11, 0, none⟩)) ?_
              (try simp only [Act.put, gA, gS, gZ, sA, sZ, sS])
              refine wv (.int .u8 (wh : Nat)) ?_ (hrun := by have q : w14.cell? ⟨b11, 0, none⟩ = some (.int .u8 (wh : Nat)) := K14.out.cell (i := 1) rfl (by rfl); go_simp)
              (try simp only [Act.put, gA, gS, gZ, sA, sZ, sS])
              refine wv (.int .u8 3) ?_ (hrun := by go_simp; rw [Int.tmod_eq_emod_of_nonneg (by omega)]; have q := HR.out; omega)
              (try simp only [Act.put, gA, gS, gZ, sA, sZ, sS])
              refine wv (.bool false) ?_
              (try simp only [Act.put, gA, gS, gZ, sA, sZ, sS])
              refine wpList_nil ?_
              go_upto_region 26 with fail
              refine wp_region_lit ?_
              refine wv (.pointer (some ⟨g, 0, none⟩)) ?_
              (try simp only [Act.put, gA, gS, gZ, sA, sZ, sS])
              refine wv (.pointer (some ⟨b11, 1, none⟩)) ?_
              (try simp only [Act.put, gA, gS, gZ, sA, sZ, sS])
              refine wv (.int .i64 0) ?_ (hrun := by have q : w14.cell? ⟨b11, 1, none⟩ = some (.int .i64 0) := K14.out.cell (i := 1) rfl (by rfl); go_simp)
              (try simp only [Act.put, gA, gS, gZ, sA, sZ, sS])
              refine wl_call 8 #[.pointer (some ⟨g, 0, none⟩), .int .i64 0] (by rfl) (by go_simp) (calls_one (come_yes0 K14.out.a.1 (by have := HLA.out; have := HLT.out; simp only [List.length_cons] at *; omega))) ?_
              rintro _ w15 ⟨rfl, p15, q15, hR⟩
              (try simp only [Act.put, gA, gS, gZ, sA, sZ, sS])
              have K15x := KL.of K14.out D14.out hR
              obtain ⟨u15a, u15b, hK, hD⟩ := K15x.ex
              have K15 := Lib.hid (show Kx w1 [(b3, #[(.slice (if sc = 1 then some ⟨SG, so, none⟩ else some ⟨SG, so + 1, none⟩) sn (sc - 1)), v1], 27), (b11, #[.int .u8 (wh : Nat), .int .i64 0, .string da, .bool xu], 29)] ((bdL w1.heap.size g up u15a u15b ra b).and ((bdS ((.slice (if sc = 1 then some ⟨SG, so, none⟩ else some ⟨SG, so + 1, none⟩) sn (sc - 1))) ra).and (bdS (v1) b))) w15 from hK)
              have D15 := Lib.hid hD
              clear hK hD hR K15x
              refine wv (.tuple #[.string sx, .bool true]) ?_
              (try simp only [Act.put, gA, gS, gZ, sA, sZ, sS])
              refine wv (.string sx) ?_
              (try simp only [Act.put, gA, gS, gZ, sA, sZ, sS])
              refine wv (.bool true) ?_
              (try simp only [Act.put, gA, gS, gZ, sA, sZ, sS])
              refine wv (.string sx) ?_
              (try simp only [Act.put, gA, gS, gZ, sA, sZ, sS])
              refine wv (.bool true) ?_
              (try simp only [Act.put, gA, gS, gZ, sA, sZ, sS])
              refine wpList_nil ?_
              go_upto_region 27 with fail
              refine wp_region_lit ?_
              refine wv (.string sx) ?_
              (try simp only [Act.put, gA, gS, gZ, sA, sZ, sS])
              refine wv (.string sx) ?_
              (try simp only [Act.put, gA, gS, gZ, sA, sZ, sS])
              refine wv (.bool false) ?_ (hrun := by go_simp)
              (try simp only [Act.put, gA, gS, gZ, sA, sZ, sS])
              refine wv (.bool false) ?_
              (try simp only [Act.put, gA, gS, gZ, sA, sZ, sS])
              refine wv (.bool true) ?_
              (try simp only [Act.put, gA, gS, gZ, sA, sZ, sS])
              refine wv (.bool true) ?_
              (try simp only [Act.put, gA, gS, gZ, sA, sZ, sS])
              refine wv (.bool false) ?_
              (try simp only [Act.put, gA, gS, gZ, sA, sZ, sS])
              refine wv (.bool false) ?_
              (try simp only [Act.put, gA, gS, gZ, sA, sZ, sS])
              refine wpList_nil ?_
              go_upto_region 35 with fail
              refine wp_region_lit ?_
              refine wv (.int .i64 0) ?_
              (try simp only [Act.put, gA, gS, gZ, sA, sZ, sS])
              refine wpList_nil ?_
              go_upto_region 36 with fail
              refine wp_region_lit ?_
              refine wv (.bool true) ?_
              (try simp only [Act.put, gA, gS, gZ, sA, sZ, sS])
              refine wpList_nil ?_
              obtain ⟨s16q, s16c, s16e, -, -⟩ := SrcB.shape K15.out.a.2.1
              have s16h := Lib.hid s16e
              clear s16e
              go_upto_region 37 with fail
              refine wp_region_lit ?_
              refine wv (.pointer (some ⟨b11, 1, none⟩)) ?_
              (try simp only [Act.put, gA, gS, gZ, sA, sZ, sS])
              refine wv (.int .i64 0) ?_ (hrun := by have q : w15.cell? ⟨b11, 1, none⟩ = some (.int .i64 0) := K15.out.cell (i := 1) rfl (by rfl); go_simp)
              (try simp only [Act.put, gA, gS, gZ, sA, sZ, sS])
              refine wv (.pointer (some ⟨b3, 0, none⟩)) ?_
              (try simp only [Act.put, gA, gS, gZ, sA, sZ, sS])
              refine wv (.slice s16q (ra).length s16c) ?_ (hrun := by have q : w15.cell? ⟨b3, 0, none⟩ = some ((.slice (if sc = 1 then some ⟨SG, so, none⟩ else some ⟨SG, so + 1, none⟩) sn (sc - 1))) := K15.out.cell (i := 0) rfl (by rfl); rw [s16h.out] at q; go_simp)
              (try simp only [Act.put, gA, gS, gZ, sA, sZ, sS])
              refine wv (.int .i64 ((ra).length : Nat)) ?_
              (try simp only [Act.put, gA, gS, gZ, sA, sZ, sS])
              refine wv (.int .i64 ((ra).length : Nat)) ?_
              (try simp only [Act.put, gA, gS, gZ, sA, sZ, sS])
              refine wpList_nil ?_
              go_upto_region 38 with fail
              have HUN := Lib.hid (show unN 0 (ra) (b) = (ra).length from rfl)
              refine wp_region_lit ?_
              refine wv (.pointer (some ⟨g, 0, none⟩)) ?_
              (try simp only [Act.put, gA, gS, gZ, sA, sZ, sS])
              refine wl_call 11 #[.pointer (some ⟨g, 0, none⟩)] (by rfl) (by go_simp) (calls_one (up_any K15.out.a.1)) ?_; rintro _ w15 ⟨rfl, rfl⟩
              (try simp only [Act.put, gA, gS, gZ, sA, sZ, sS])
              refine wv (.bool up) ?_
              (try simp only [Act.put, gA, gS, gZ, sA, sZ, sS])
              refine wv (.bool false) ?_
              (try simp only [Act.put, gA, gS, gZ, sA, sZ, sS])
              refine wv (.bool false) ?_
              (try simp only [Act.put, gA, gS, gZ, sA, sZ, sS])
              refine wv (.pointer (some ⟨g, 0, none⟩)) ?_
              (try simp only [Act.put, gA, gS, gZ, sA, sZ, sS])
              refine wv (.pointer (some ⟨b11, 1, none⟩)) ?_
              (try simp only [Act.put, gA, gS, gZ, sA, sZ, sS])
              refine wv (.int .i64 0) ?_ (hrun := by have q : w15.cell? ⟨b11, 1, none⟩ = some (.int .i64 0) := K15.out.cell (i := 1) rfl (by rfl); go_simp)
              (try simp only [Act.put, gA, gS, gZ, sA, sZ, sS])
              refine wl_call 12 #[.pointer (some ⟨g, 0, none⟩), .int .i64 0] (by rfl) (by go_simp) (calls_one (under_any K15.out.a.1 0)) ?_; rintro _ w15 ⟨rfl, rfl⟩
              rw [HUN.out]
              (try simp only [Act.put, gA, gS, gZ, sA, sZ, sS])
              refine wv (.int .i64 ((ra).length : Nat)) ?_
              (try simp only [Act.put, gA, gS, gZ, sA, sZ, sS])
              refine wv (.bool false) ?_
              (try simp only [Act.put, gA, gS, gZ, sA, sZ, sS])
              refine wv (.bool false) ?_
              (try simp only [Act.put, gA, gS, gZ, sA, sZ, sS])
              refine wpList_nil ?_
              have LN := Lib.hid (show LS w1 g b3 up (ra) (b) w15 from ⟨(.slice (if sc = 1 then some ⟨SG, so, none⟩ else some ⟨SG, so + 1, none⟩) sn (sc - 1)), v1, KL.left (l := [(b3, #[(.slice (if sc = 1 then some ⟨SG, so, none⟩ else some ⟨SG, so + 1, none⟩) sn (sc - 1)), v1], 27)]) (r := [(b11, #[.int .u8 (wh : Nat), .int .i64 0, .string da, .bool xu], 29)]) ⟨_, _, K15.out, D15.out⟩⟩)
              go_wp2_with fail
              go_roundw
              case measure => have := HLT.out; simp only [intOf]; omega
              case rel => exact ⟨k + 1, up, ra, b, by have := HLT.out; omega, by have := HLT.out; omega, by have := HLA.out; (try simp only [List.length_append, List.length_cons, List.length_nil] at this ⊢); omega, by have := HLB.out; (try simp only [List.length_append, List.length_cons, List.length_nil] at this ⊢); omega, rfl, by go_simp, LN.out⟩
        case neg =>
          by_cases r4 : r = 4
          case pos => as_aux_lemma =>
            subst r4
            clear r3
            go_upto_region 17 with fail
            refine wp_region_lit ?_
            refine wv (.bool false) ?_
            (try simp only [Act.put, gA, gS, gZ, sA, sZ, sS])
            refine wv (.bool false) ?_
            (try simp only [Act.put, gA, gS, gZ, sA, sZ, sS])
            refine wpList_nil ?_
            go_upto_region 18 with fail
            refine wp_region_lit ?_
            refine wv (.bool true) ?_
            (try simp only [Act.put, gA, gS, gZ, sA, sZ, sS])
            refine wv (.bool true) ?_
            (try simp only [Act.put, gA, gS, gZ, sA, sZ, sS])
            refine wpList_nil ?_
            cases a
            case nil => as_aux_lemma =>
              obtain ⟨sq, sc, se, -, -⟩ := SH0.out
              have SE := Lib.hid (show v0 = .slice sq 0 sc from se)
              clear se
              go_upto_region 19 with fail
              refine wp_region_quiet (C := fun W => Kx w1 [(b3, #[v0, v1], 27), (b11, #[.int .u8 (wh : Nat), .int .i64 0, .string da, .bool xu], 29)] ((bdL w1.heap.size g up u0 u1 [] b).and ((bdS v0 []).and (bdS v1 b))) W) (by kernel_rfl) (by kernel_rfl) K12.out.drew ?_
              refine qv (.bool true) ?_
              (try simp only [Act.put, gA, gS, gZ, sA, sZ, sS])
              refine qv (.bool true) ?_
              (try simp only [Act.put, gA, gS, gZ, sA, sZ, sS])
              refine qv (.pointer (some ⟨b11, 1, none⟩)) ?_
              (try simp only [Act.put, gA, gS, gZ, sA, sZ, sS])
              refine qv (.int .i64 0) ?_ (hv := fun wv hC => by have q : wv.cell? ⟨b11, 1, none⟩ = some (.int .i64 0) := hC.cell (i := 1) rfl (by rfl); go_simp)
              (try simp only [Act.put, gA, gS, gZ, sA, sZ, sS])
              refine qv (.int .i64 0) ?_ (hv := fun wv hC => by go_simp; rfl)
              (try simp only [Act.put, gA, gS, gZ, sA, sZ, sS])
              refine qv (.pointer (some ⟨b3, 0, none⟩)) ?_
              (try simp only [Act.put, gA, gS, gZ, sA, sZ, sS])
              refine qv (.slice sq 0 sc) ?_ (hv := fun wv hC => by have q : wv.cell? ⟨b3, 0, none⟩ = some (v0) := hC.cell (i := 0) rfl (by rfl); rw [SE.out] at q; go_simp)
              (try simp only [Act.put, gA, gS, gZ, sA, sZ, sS])
              refine qv (.int .i64 0) ?_
              (try simp only [Act.put, gA, gS, gZ, sA, sZ, sS])
              refine qv (.bool false) ?_
              (try simp only [Act.put, gA, gS, gZ, sA, sZ, sS])
              refine qv (.bool false) ?_ (hv := fun wv hC => run_pick_yes (.tmp 83) (.tmp 90) (.const (.bool false)) _ rfl rfl rfl)
              (try simp only [Act.put, gA, gS, gZ, sA, sZ, sS])
              refine qv (.string ⟨#[]⟩) ?_
              (try simp only [Act.put, gA, gS, gZ, sA, sZ, sS])
              refine qv (.bool false) ?_
              (try simp only [Act.put, gA, gS, gZ, sA, sZ, sS])
              refine wpQuiet_nil ?_
              intro w13 hC
              have K13 := Lib.hid (show Kx w1 [(b3, #[v0, v1], 27), (b11, #[.int .u8 (wh : Nat), .int .i64 0, .string da, .bool xu], 29)] ((bdL w1.heap.size g up u0 u1 [] b).and ((bdS v0 []).and (bdS v1 b))) w13 from hC)
              clear hC
              go_upto_region 20 with fail
              refine wp_region_lit ?_
              refine wv (.bool false) ?_
              (try simp only [Act.put, gA, gS, gZ, sA, sZ, sS])
              refine wpList_nil ?_
              go_upto_region 23 with fail
              refine wp_region_lit ?_
              refine wv (.pointer (some ⟨b11, 0, none⟩)) ?_
              (try simp only [Act.put, gA, gS, gZ, sA, sZ, sS])
              refine wv (.int .u8 (wh : Nat)) ?_ (hrun := by have q : w13.cell? ⟨b11, 0, none⟩ = some (.int .u8 (wh : Nat)) := K13.out.cell (i := 1) rfl (by rfl); go_simp)
              (try simp only [Act.put, gA, gS, gZ, sA, sZ, sS])
              refine wv (.int .u8 4) ?_ (hrun := by go_simp; rw [Int.tmod_eq_emod_of_nonneg (by omega)]; have q := HR.out; omega)
              (try simp only [Act.put, gA, gS, gZ, sA, sZ, sS])
              refine wv (.bool true) ?_
              (try simp only [Act.put, gA, gS, gZ, sA, sZ, sS])
              refine wpList_nil ?_
              go_upto_region 24 with fail
              refine wp_region_lit ?_
              refine wv (.pointer (some ⟨g, 0, none⟩)) ?_
              (try simp only [Act.put, gA, gS, gZ, sA, sZ, sS])
              refine wv (.pointer (some ⟨b11, 1, none⟩)) ?_
              (try simp only [Act.put, gA, gS, gZ, sA, sZ, sS])
              refine wv (.int .i64 0) ?_ (hrun := by have q : w13.cell? ⟨b11, 1, none⟩ = some (.int .i64 0) := K13.out.cell (i := 1) rfl (by rfl); go_simp)
              (try simp only [Act.put, gA, gS, gZ, sA, sZ, sS])
              refine wl_call 7 #[.pointer (some ⟨g, 0, none⟩), .int .i64 0] (by rfl) (by go_simp) (calls_one (lose_any (come_no K13.out.a.1 0 rfl))) ?_
              rintro _ w13 ⟨rfl, rfl⟩
              (try simp only [Act.put, gA, gS, gZ, sA, sZ, sS])
              refine wv (.bool false) ?_
              (try simp only [Act.put, gA, gS, gZ, sA, sZ, sS])
              refine wv (.bool false) ?_
              (try simp only [Act.put, gA, gS, gZ, sA, sZ, sS])
              refine wpList_nil ?_
              go_upto_region 35 with fail
              refine wp_region_lit ?_
              refine wv (.int .i64 0) ?_
              (try simp only [Act.put, gA, gS, gZ, sA, sZ, sS])
              refine wpList_nil ?_
              go_upto_region 36 with fail
              refine wp_region_lit ?_
              refine wv (.bool true) ?_
              (try simp only [Act.put, gA, gS, gZ, sA, sZ, sS])
              refine wpList_nil ?_
              obtain ⟨s15q, s15c, s15e, -, -⟩ := SrcB.shape K13.out.a.2.1
              have s15h := Lib.hid s15e
              clear s15e
              go_upto_region 37 with fail
              refine wp_region_lit ?_
              refine wv (.pointer (some ⟨b11, 1, none⟩)) ?_
              (try simp only [Act.put, gA, gS, gZ, sA, sZ, sS])
              refine wv (.int .i64 0) ?_ (hrun := by have q : w13.cell? ⟨b11, 1, none⟩ = some (.int .i64 0) := K13.out.cell (i := 1) rfl (by rfl); go_simp)
              (try simp only [Act.put, gA, gS, gZ, sA, sZ, sS])
              refine wv (.pointer (some ⟨b3, 0, none⟩)) ?_
              (try simp only [Act.put, gA, gS, gZ, sA, sZ, sS])
              refine wv (.slice s15q (([] : List ByteArray)).length s15c) ?_ (hrun := by have q : w13.cell? ⟨b3, 0, none⟩ = some (v0) := K13.out.cell (i := 0) rfl (by rfl); rw [s15h.out] at q; go_simp)
              (try simp only [Act.put, gA, gS, gZ, sA, sZ, sS])
              refine wv (.int .i64 ((([] : List ByteArray)).length : Nat)) ?_
              (try simp only [Act.put, gA, gS, gZ, sA, sZ, sS])
              refine wv (.int .i64 ((([] : List ByteArray)).length : Nat)) ?_
              (try simp only [Act.put, gA, gS, gZ, sA, sZ, sS])
              refine wpList_nil ?_
              go_upto_region 38 with fail
              have HUN := Lib.hid (show unN 0 (([] : List ByteArray)) (b) = (([] : List ByteArray)).length from rfl)
              refine wp_region_lit ?_
              refine wv (.pointer (some ⟨g, 0, none⟩)) ?_
              (try simp only [Act.put, gA, gS, gZ, sA, sZ, sS])
              refine wl_call 11 #[.pointer (some ⟨g, 0, none⟩)] (by rfl) (by go_simp) (calls_one (up_any K13.out.a.1)) ?_; rintro _ w13 ⟨rfl, rfl⟩
              (try simp only [Act.put, gA, gS, gZ, sA, sZ, sS])
              refine wv (.bool up) ?_
              (try simp only [Act.put, gA, gS, gZ, sA, sZ, sS])
              refine wv (.bool false) ?_
              (try simp only [Act.put, gA, gS, gZ, sA, sZ, sS])
              refine wv (.bool false) ?_
              (try simp only [Act.put, gA, gS, gZ, sA, sZ, sS])
              refine wv (.pointer (some ⟨g, 0, none⟩)) ?_
              (try simp only [Act.put, gA, gS, gZ, sA, sZ, sS])
              refine wv (.pointer (some ⟨b11, 1, none⟩)) ?_
              (try simp only [Act.put, gA, gS, gZ, sA, sZ, sS])
              refine wv (.int .i64 0) ?_ (hrun := by have q : w13.cell? ⟨b11, 1, none⟩ = some (.int .i64 0) := K13.out.cell (i := 1) rfl (by rfl); go_simp)
              (try simp only [Act.put, gA, gS, gZ, sA, sZ, sS])
              refine wl_call 12 #[.pointer (some ⟨g, 0, none⟩), .int .i64 0] (by rfl) (by go_simp) (calls_one (under_any K13.out.a.1 0)) ?_; rintro _ w13 ⟨rfl, rfl⟩
              rw [HUN.out]
              (try simp only [Act.put, gA, gS, gZ, sA, sZ, sS])
              refine wv (.int .i64 ((([] : List ByteArray)).length : Nat)) ?_
              (try simp only [Act.put, gA, gS, gZ, sA, sZ, sS])
              refine wv (.bool false) ?_
              (try simp only [Act.put, gA, gS, gZ, sA, sZ, sS])
              refine wv (.bool false) ?_
              (try simp only [Act.put, gA, gS, gZ, sA, sZ, sS])
              refine wpList_nil ?_
              have LN := Lib.hid (show LS w1 g b3 up (([] : List ByteArray)) (b) w13 from ⟨v0, v1, KL.left (l := [(b3, #[v0, v1], 27)]) (r := [(b11, #[.int .u8 (wh : Nat), .int .i64 0, .string da, .bool xu], 29)]) ⟨_, _, K13.out, D10.out⟩⟩)
              go_wp2_with fail
              go_roundw
              case measure => have := HLT.out; simp only [intOf]; omega
              case rel => exact ⟨k + 1, up, ([] : List ByteArray), b, by have := HLT.out; omega, by have := HLT.out; omega, by have := HLA.out; (try simp only [List.length_append, List.length_cons, List.length_nil] at this ⊢); omega, by have := HLB.out; (try simp only [List.length_append, List.length_cons, List.length_nil] at this ⊢); omega, rfl, by go_simp, LN.out⟩
            case cons sx ra => as_aux_lemma =>
              obtain ⟨SG, so, sc, se, h1, h2, h3, h4⟩ := SrcB.cons K12.out.a.2.1
              have SF := Lib.hid (show ∀ W, SrcB W v0 (sx :: ra) → SrcB W (.slice (if sc = 1 then some ⟨SG, so, none⟩ else some ⟨SG, so + 1, none⟩) ra.length (sc - 1)) ra from fun W h => by
                obtain ⟨G2, o2, c2, e2, -, -, -, q⟩ := SrcB.cons h
                rw [se] at e2; cases e2; exact q)
              have SE := Lib.hid se
              have S1 := Lib.hid h1
              have S2 := Lib.hid h2
              have S4 := Lib.hid h4
              have S3 := Lib.hid (show ∀ W, SrcB W v0 (sx :: ra) → W.cell? ⟨SG, so, none⟩ = some (.string sx) from fun W h => by
                obtain ⟨G2, o2, c2, e2, -, -, q, -⟩ := SrcB.cons h
                rw [se] at e2; cases e2; exact q)
              obtain ⟨sn, hsn⟩ : ∃ sn, sn = ra.length := ⟨_, rfl⟩
              have SN := Lib.hid hsn
              rw [← hsn] at SE S1 S4 SF
              have z1 : (0 : Int) ≤ (sn : Int) := by omega
              have z2 : ¬ ((sn : Int) + 1 ≤ 0) := by omega
              have z3 : (sn : Int) + 1 ≤ (sc : Int) := by have := S1.out; omega
              have z4 : (sc : Int) ≤ 9223372036854775807 := by have := S2.out; unfold maxLen at this; omega
              clear se h1 h2 h3 h4 hsn
              go_upto_region 19 with fail
              refine wp_region_quiet (C := fun W => Kx w1 [(b3, #[v0, v1], 27), (b11, #[.int .u8 (wh : Nat), .int .i64 0, .string da, .bool xu], 29)] ((bdL w1.heap.size g up u0 u1 (sx :: ra) b).and ((bdS v0 (sx :: ra)).and (bdS v1 b))) W) (by kernel_rfl) (by kernel_rfl) K12.out.drew ?_
              refine qv (.bool true) ?_
              (try simp only [Act.put, gA, gS, gZ, sA, sZ, sS])
              refine qv (.bool true) ?_
              (try simp only [Act.put, gA, gS, gZ, sA, sZ, sS])
              refine qv (.pointer (some ⟨b11, 1, none⟩)) ?_
              (try simp only [Act.put, gA, gS, gZ, sA, sZ, sS])
              refine qv (.int .i64 0) ?_ (hv := fun wv hC => by have q : wv.cell? ⟨b11, 1, none⟩ = some (.int .i64 0) := hC.cell (i := 1) rfl (by rfl); go_simp)
              (try simp only [Act.put, gA, gS, gZ, sA, sZ, sS])
              refine qv (.int .i64 0) ?_ (hv := fun wv hC => by go_simp; rfl)
              (try simp only [Act.put, gA, gS, gZ, sA, sZ, sS])
              refine qv (.pointer (some ⟨b3, 0, none⟩)) ?_
              (try simp only [Act.put, gA, gS, gZ, sA, sZ, sS])
              refine qv (.slice (some ⟨SG, so, none⟩) (sn + 1) sc) ?_ (hv := fun wv hC => by have q : wv.cell? ⟨b3, 0, none⟩ = some (v0) := hC.cell (i := 0) rfl (by rfl); rw [SE.out] at q; go_simp)
              (try simp only [Act.put, gA, gS, gZ, sA, sZ, sS])
              refine qv (.int .i64 ((sn : Int) + 1)) ?_
              (try simp only [Act.put, gA, gS, gZ, sA, sZ, sS])
              refine qv (.bool true) ?_ (hv := fun wv hC => by go_simp; try omega)
              (try simp only [Act.put, gA, gS, gZ, sA, sZ, sS])
              refine qv (.bool true) ?_ (hv := fun wv hC => run_pick_yes (.tmp 83) (.tmp 90) (.const (.bool false)) _ rfl rfl rfl)
              (try simp only [Act.put, gA, gS, gZ, sA, sZ, sS])
              refine qv (.string ⟨#[]⟩) ?_
              (try simp only [Act.put, gA, gS, gZ, sA, sZ, sS])
              refine qv (.bool true) ?_
              (try simp only [Act.put, gA, gS, gZ, sA, sZ, sS])
              refine wpQuiet_nil ?_
              intro w13 hC
              have K13 := Lib.hid (show Kx w1 [(b3, #[v0, v1], 27), (b11, #[.int .u8 (wh : Nat), .int .i64 0, .string da, .bool xu], 29)] ((bdL w1.heap.size g up u0 u1 (sx :: ra) b).and ((bdS v0 (sx :: ra)).and (bdS v1 b))) w13 from hC)
              clear hC
              go_upto_region 20 with fail
              refine wp_region_lit ?_
              refine wv (.bool true) ?_
              (try simp only [Act.put, gA, gS, gZ, sA, sZ, sS])
              refine wpList_nil ?_
              go_upto_region 21 with fail
              refine wp_region_lit ?_
              refine wv (.pointer (some ⟨b11, 1, none⟩)) ?_
              (try simp only [Act.put, gA, gS, gZ, sA, sZ, sS])
              refine wv (.int .i64 0) ?_ (hrun := by have q : w13.cell? ⟨b11, 1, none⟩ = some (.int .i64 0) := K13.out.cell (i := 1) rfl (by rfl); go_simp)
              (try simp only [Act.put, gA, gS, gZ, sA, sZ, sS])
              refine wv (.pointer (some ⟨b3, 0, none⟩)) ?_
              (try simp only [Act.put, gA, gS, gZ, sA, sZ, sS])
              refine wv (.slice (some ⟨SG, so, none⟩) (sn + 1) sc) ?_ (hrun := by have q : w13.cell? ⟨b3, 0, none⟩ = some (v0) := K13.out.cell (i := 0) rfl (by rfl); rw [SE.out] at q; go_simp)
              (try simp only [Act.put, gA, gS, gZ, sA, sZ, sS])
              refine wv (.pointer (some ⟨SG, so, none⟩)) ?_ (hrun := by go_simp <;> (intro hz; exfalso; omega))
              (try simp only [Act.put, gA, gS, gZ, sA, sZ, sS])
              refine wv (.string sx) ?_ (hrun := by have q := S3.out _ K13.out.a.2.1; go_simp)
              (try simp only [Act.put, gA, gS, gZ, sA, sZ, sS])
              refine wv (.string sx) ?_
              (try simp only [Act.put, gA, gS, gZ, sA, sZ, sS])
              refine wpList_nil ?_
              go_upto_region 22 with fail
              refine rk (fun (_ : Unit) => [.pointer (some ⟨b11, 1, none⟩), .int .i64 0, .pointer (some ⟨b11, 1, none⟩), .int .i64 0, .pointer (some ⟨b3, 0, none⟩), .slice (some ⟨SG, so, none⟩) (sn + 1) sc, .slice (if sc = 1 then some ⟨SG, so, none⟩ else some ⟨SG, so + 1, none⟩) sn (sc - 1), .pointer (some ⟨b3, 0, none⟩), undef]) (fun _ Lx w' => (Lx 8 = false ∧ Kx w1 [(b3, #[v0, v1], 27), (b11, #[.int .u8 (wh : Nat), .int .i64 0, .string da, .bool xu], 29)] ((bdL w1.heap.size g up u0 u1 (sx :: ra) b).and ((bdS v0 (sx :: ra)).and (bdS v1 b))) w') ∨ (Lx 8 = true ∧ Kx w1 [(b3, #[(.slice (if sc = 1 then some ⟨SG, so, none⟩ else some ⟨SG, so + 1, none⟩) sn (sc - 1)), v1], 27), (b11, #[.int .u8 (wh : Nat), .int .i64 0, .string da, .bool xu], 29)] ((bdL w1.heap.size g up u0 u1 (sx :: ra) b).and ((bdS v0 (sx :: ra)).and (bdS v1 b))) w')) (()) [] [] [(1, fun _ => [(99, .pointer (some ⟨b11, 1, none⟩))]), (3, fun _ => [(101, .pointer (some ⟨b11, 1, none⟩))]), (5, fun _ => [(103, .pointer (some ⟨b3, 0, none⟩))]), (6, fun _ => [(104, .slice (some ⟨SG, so, none⟩) (sn + 1) sc)]), (8, fun _ => [(106, .pointer (some ⟨b3, 0, none⟩)), (105, .slice (if sc = 1 then some ⟨SG, so, none⟩ else some ⟨SG, so + 1, none⟩) sn (sc - 1))])] [8] ?_ ?_ ?_ ?_ ?_
              · exact .inl ⟨rfl, K13.out.drew⟩
              · intro s L w' h; exact trivial
              · intro s L1 L2 w' e h; (try dsimp only at h ⊢); rw [← e 8 (by simp)]; exact h
              · refine ⟨?_, ?_, ?_, ?_, ?_, trivial⟩ <;> (rintro s Lx w' hw hL haft hdc ρ hc hf hG hs o ho; cases ho; try dsimp only [seen] at hw hs)
                · obtain ⟨e99, -⟩ := hs
                  rcases hw with ⟨h8, hw⟩ | ⟨h8, -⟩
                  case inr => exact absurd (hdc 8 h8 1 (by decide)) (by rw [hL]; decide)
                  exact sw (.int .i64 0) (by have q : w'.cell? ⟨b11, 1, none⟩ = some (.int .i64 0) := Kx.cell (i := 1) hw rfl (by rfl); go_simp) ⟨s, fun _ _ => rfl, rfl, .inl ⟨h8, hw⟩⟩
                · obtain ⟨e101, -⟩ := hs
                  rcases hw with ⟨h8, hw⟩ | ⟨h8, -⟩
                  case inr => exact absurd (hdc 8 h8 3 (by decide)) (by rw [hL]; decide)
                  exact sw (.int .i64 0) (by have q : w'.cell? ⟨b11, 1, none⟩ = some (.int .i64 0) := Kx.cell (i := 1) hw rfl (by rfl); go_simp) ⟨s, fun _ _ => rfl, rfl, .inl ⟨h8, hw⟩⟩
                · obtain ⟨e103, -⟩ := hs
                  rcases hw with ⟨h8, hw⟩ | ⟨h8, -⟩
                  case inr => exact absurd (hdc 8 h8 5 (by decide)) (by rw [hL]; decide)
                  exact sw (.slice (some ⟨SG, so, none⟩) (sn + 1) sc) (by have q : w'.cell? ⟨b3, 0, none⟩ = some (.slice (some ⟨SG, so, none⟩) (sn + 1) sc) := (by rw [← SE.out]; exact Kx.cell (i := 0) hw rfl (by rfl)); go_simp) ⟨s, fun _ _ => rfl, rfl, .inl ⟨h8, hw⟩⟩
                · obtain ⟨e104, -⟩ := hs
                  exact sw (w' := w') (.slice (if sc = 1 then some ⟨SG, so, none⟩ else some ⟨SG, so + 1, none⟩) sn (sc - 1)) (by have z5 : (1 : Int) ≤ (sn : Int) + 1 := (by omega); go_simp) ⟨s, fun _ _ => rfl, rfl, by simpa [upd] using hw⟩
                · obtain ⟨e106, e105, -⟩ := hs
                  rcases hw with ⟨h8, hw⟩ | ⟨h8, -⟩
                  case inr => rw [hL] at h8; cases h8
                  exact ss 26 (.tmp 106) (.tmp 105) rfl ⟨b3, 0, none⟩ (.slice (if sc = 1 then some ⟨SG, so, none⟩ else some ⟨SG, so + 1, none⟩) sn (sc - 1)) e106 e105 (kx_run_set hw (i := 0) rfl 26 0 (v0) (.slice (if sc = 1 then some ⟨SG, so, none⟩ else some ⟨SG, so + 1, none⟩) sn (sc - 1)) (by rfl) (fun W h1 h2 => by go_simp)) ⟨s, fun _ _ => rfl, rfl, .inr ⟨rfl, kx_cast (Kx.set hw (i := 0) rfl 0 (.slice (if sc = 1 then some ⟨SG, so, none⟩ else some ⟨SG, so + 1, none⟩) sn (sc - 1))) rfl⟩⟩
              · rintro s Lx w14 hw hall
                rcases hw with ⟨h8, -⟩ | ⟨-, hw⟩
                case inl => rw [hall 8 (by decide)] at h8; cases h8
                simp only [List.toList_toArray, putsZ_some, putsZ_none, putsZ_nil, List.setIfInBounds_toArray, List.set_cons_zero, List.set_cons_succ]
                have BO : ∀ k, (.slice (if sc = 1 then some ⟨SG, so, none⟩ else some ⟨SG, so + 1, none⟩) sn (sc - 1) : Value).ownBlock = some k → (v0 : Value).ownBlock = some k := fun k q => by rw [SE.out]; by_cases hc : sc = 1 <;> simp [hc, Value.ownBlock] at q ⊢ <;> exact q
                have K14 := Lib.hid (show Kx w1 [(b3, #[(.slice (if sc = 1 then some ⟨SG, so, none⟩ else some ⟨SG, so + 1, none⟩) sn (sc - 1)), v1], 27), (b11, #[.int .u8 (wh : Nat), .int .i64 0, .string da, .bool xu], 29)] ((bdL w1.heap.size g up u0 u1 (sx :: ra) b).and ((bdS (.slice (if sc = 1 then some ⟨SG, so, none⟩ else some ⟨SG, so + 1, none⟩) sn (sc - 1)) ra).and (bdS v1 b))) w14 from hw.turn (fun h => ⟨h.1, SF.out _ h.2.1, h.2.2⟩) (fun k q => by rcases q with q | q | q; exact .inl q; exact .inr (.inl (BO k q)); exact .inr (.inr q)))
                have D14 := Lib.hid (show ∀ k, ((bdS (.slice (if sc = 1 then some ⟨SG, so, none⟩ else some ⟨SG, so + 1, none⟩) sn (sc - 1)) ra).and (bdS v1 b)).f k → ¬ lkF g u0 u1 k from fun k q => D10.out k (by rcases q with q | q; exact .inl (BO k q); exact .inr q))
                clear hw hall BO
                go_upto_region 23 with fail
                refine wp_region_lit ?_
                refine wv (.pointer (some ⟨b11, 0, none⟩)) ?_
                (try simp only [Act.put, gA, gS, gZ, sA, sZ, sS])
                refine wv (.int .u8 (wh : Nat)) ?_ (hrun := by have q : w14.cell? ⟨b11, 0, none⟩ = some (.int .u8 (wh : Nat)) := K14.out.cell (i := 1) rfl (by rfl); go_simp)
                (try simp only [Act.put, gA, gS, gZ, sA, sZ, sS])
                refine wv (.int .u8 4) ?_ (hrun := by go_simp; rw [Int.tmod_eq_emod_of_nonneg (by omega)]; have q := HR.out; omega)
                (try simp only [Act.put, gA, gS, gZ, sA, sZ, sS])
                refine wv (.bool true) ?_
                (try simp only [Act.put, gA, gS, gZ, sA, sZ, sS])
                refine wpList_nil ?_
                go_upto_region 24 with fail
                refine wp_region_lit ?_
                refine wv (.pointer (some ⟨g, 0, none⟩)) ?_
                (try simp only [Act.put, gA, gS, gZ, sA, sZ, sS])
                refine wv (.pointer (some ⟨b11, 1, none⟩)) ?_
                (try simp only [Act.put, gA, gS, gZ, sA, sZ, sS])
                refine wv (.int .i64 0) ?_ (hrun := by have q : w14.cell? ⟨b11, 1, none⟩ = some (.int .i64 0) := K14.out.cell (i := 1) rfl (by rfl); go_simp)
                (try simp only [Act.put, gA, gS, gZ, sA, sZ, sS])
                refine wl_call 7 #[.pointer (some ⟨g, 0, none⟩), .int .i64 0] (by rfl) (by go_simp) (calls_one (lose_any (come_yes0 K14.out.a.1 (by have := HLA.out; have := HLT.out; simp only [List.length_cons] at *; omega)))) ?_
                rintro _ w15 ⟨rfl, p15, q15, hR⟩
                (try simp only [Act.put, gA, gS, gZ, sA, sZ, sS])
                have K15x := KL.of K14.out D14.out hR
                obtain ⟨u15a, u15b, hK, hD⟩ := K15x.ex
                have K15 := Lib.hid (show Kx w1 [(b3, #[(.slice (if sc = 1 then some ⟨SG, so, none⟩ else some ⟨SG, so + 1, none⟩) sn (sc - 1)), v1], 27), (b11, #[.int .u8 (wh : Nat), .int .i64 0, .string da, .bool xu], 29)] ((bdL w1.heap.size g up u15a u15b ra b).and ((bdS ((.slice (if sc = 1 then some ⟨SG, so, none⟩ else some ⟨SG, so + 1, none⟩) sn (sc - 1))) ra).and (bdS (v1) b))) w15 from hK)
                have D15 := Lib.hid hD
                clear hK hD hR K15x
                refine wv (.bool true) ?_
                (try simp only [Act.put, gA, gS, gZ, sA, sZ, sS])
                refine wv (.bool false) ?_
                (try simp only [Act.put, gA, gS, gZ, sA, sZ, sS])
                refine wpList_nil ?_
                go_upto_region 35 with fail
                refine wp_region_lit ?_
                refine wv (.int .i64 0) ?_
                (try simp only [Act.put, gA, gS, gZ, sA, sZ, sS])
                refine wpList_nil ?_
                go_upto_region 36 with fail
                refine wp_region_lit ?_
                refine wv (.bool true) ?_
                (try simp only [Act.put, gA, gS, gZ, sA, sZ, sS])
                refine wpList_nil ?_
                obtain ⟨s16q, s16c, s16e, -, -⟩ := SrcB.shape K15.out.a.2.1
                have s16h := Lib.hid s16e
                clear s16e
                go_upto_region 37 with fail
                refine wp_region_lit ?_
                refine wv (.pointer (some ⟨b11, 1, none⟩)) ?_
                (try simp only [Act.put, gA, gS, gZ, sA, sZ, sS])
                refine wv (.int .i64 0) ?_ (hrun := by have q : w15.cell? ⟨b11, 1, none⟩ = some (.int .i64 0) := K15.out.cell (i := 1) rfl (by rfl); go_simp)
                (try simp only [Act.put, gA, gS, gZ, sA, sZ, sS])
                refine wv (.pointer (some ⟨b3, 0, none⟩)) ?_
                (try simp only [Act.put, gA, gS, gZ, sA, sZ, sS])
                refine wv (.slice s16q (ra).length s16c) ?_ (hrun := by have q : w15.cell? ⟨b3, 0, none⟩ = some ((.slice (if sc = 1 then some ⟨SG, so, none⟩ else some ⟨SG, so + 1, none⟩) sn (sc - 1))) := K15.out.cell (i := 0) rfl (by rfl); rw [s16h.out] at q; go_simp)
                (try simp only [Act.put, gA, gS, gZ, sA, sZ, sS])
                refine wv (.int .i64 ((ra).length : Nat)) ?_
                (try simp only [Act.put, gA, gS, gZ, sA, sZ, sS])
                refine wv (.int .i64 ((ra).length : Nat)) ?_
                (try simp only [Act.put, gA, gS, gZ, sA, sZ, sS])
                refine wpList_nil ?_
                go_upto_region 38 with fail
                have HUN := Lib.hid (show unN 0 (ra) (b) = (ra).length from rfl)
                refine wp_region_lit ?_
                refine wv (.pointer (some ⟨g, 0, none⟩)) ?_
                (try simp only [Act.put, gA, gS, gZ, sA, sZ, sS])
                refine wl_call 11 #[.pointer (some ⟨g, 0, none⟩)] (by rfl) (by go_simp) (calls_one (up_any K15.out.a.1)) ?_; rintro _ w15 ⟨rfl, rfl⟩
                (try simp only [Act.put, gA, gS, gZ, sA, sZ, sS])
                refine wv (.bool up) ?_
                (try simp only [Act.put, gA, gS, gZ, sA, sZ, sS])
                refine wv (.bool false) ?_
                (try simp only [Act.put, gA, gS, gZ, sA, sZ, sS])
                refine wv (.bool false) ?_
                (try simp only [Act.put, gA, gS, gZ, sA, sZ, sS])
                refine wv (.pointer (some ⟨g, 0, none⟩)) ?_
                (try simp only [Act.put, gA, gS, gZ, sA, sZ, sS])
                refine wv (.pointer (some ⟨b11, 1, none⟩)) ?_
                (try simp only [Act.put, gA, gS, gZ, sA, sZ, sS])
                refine wv (.int .i64 0) ?_ (hrun := by have q : w15.cell? ⟨b11, 1, none⟩ = some (.int .i64 0) := K15.out.cell (i := 1) rfl (by rfl); go_simp)
                (try simp only [Act.put, gA, gS, gZ, sA, sZ, sS])
                refine wl_call 12 #[.pointer (some ⟨g, 0, none⟩), .int .i64 0] (by rfl) (by go_simp) (calls_one (under_any K15.out.a.1 0)) ?_; rintro _ w15 ⟨rfl, rfl⟩
                rw [HUN.out]
                (try simp only [Act.put, gA, gS, gZ, sA, sZ, sS])
                refine wv (.int .i64 ((ra).length : Nat)) ?_
                (try simp only [Act.put, gA, gS, gZ, sA, sZ, sS])
                refine wv (.bool false) ?_
                (try simp only [Act.put, gA, gS, gZ, sA, sZ, sS])
                refine wv (.bool false) ?_
                (try simp only [Act.put, gA, gS, gZ, sA, sZ, sS])
                refine wpList_nil ?_
                have LN := Lib.hid (show LS w1 g b3 up (ra) (b) w15 from ⟨(.slice (if sc = 1 then some ⟨SG, so, none⟩ else some ⟨SG, so + 1, none⟩) sn (sc - 1)), v1, KL.left (l := [(b3, #[(.slice (if sc = 1 then some ⟨SG, so, none⟩ else some ⟨SG, so + 1, none⟩) sn (sc - 1)), v1], 27)]) (r := [(b11, #[.int .u8 (wh : Nat), .int .i64 0, .string da, .bool xu], 29)]) ⟨_, _, K15.out, D15.out⟩⟩)
                go_wp2_with fail
                go_roundw
                case measure => have := HLT.out; simp only [intOf]; omega
                case rel => exact ⟨k + 1, up, ra, b, by have := HLT.out; omega, by have := HLT.out; omega, by have := HLA.out; (try simp only [List.length_append, List.length_cons, List.length_nil] at this ⊢); omega, by have := HLB.out; (try simp only [List.length_append, List.length_cons, List.length_nil] at this ⊢); omega, rfl, by go_simp, LN.out⟩
          case neg =>
            by_cases r5 : r = 5
            case pos =>
              subst r5
              clear r3 r4
              cases xu
              case false => as_aux_lemma =>
                go_upto_region 17 with fail
                refine wp_region_lit ?_
                refine wv (.bool false) ?_
                (try simp only [Act.put, gA, gS, gZ, sA, sZ, sS])
                refine wv (.bool false) ?_
                (try simp only [Act.put, gA, gS, gZ, sA, sZ, sS])
                refine wpList_nil ?_
                go_upto_region 18 with fail
                refine wp_region_lit ?_
                refine wv (.bool false) ?_
                (try simp only [Act.put, gA, gS, gZ, sA, sZ, sS])
                refine wv (.bool false) ?_
                (try simp only [Act.put, gA, gS, gZ, sA, sZ, sS])
                refine wpList_nil ?_
                go_upto_region 29 with fail
                refine wp_region_lit ?_
                refine wv (.bool true) ?_
                (try simp only [Act.put, gA, gS, gZ, sA, sZ, sS])
                refine wv (.bool true) ?_
                (try simp only [Act.put, gA, gS, gZ, sA, sZ, sS])
                refine wpList_nil ?_
                go_upto_region 30 with fail
                refine rk (fun (_ : Unit) => [.pointer (some ⟨g, 0, none⟩), .pointer (some ⟨b11, 3, none⟩), .bool false, .bool (false != up), .bool up, .pointer (some ⟨b11, 3, none⟩), .bool false, .bool (up != false), .bool false]) (fun _ Lx w' => (Lx 3 = false ∧ Kx w1 [(b3, #[v0, v1], 27), (b11, #[.int .u8 (wh : Nat), .int .i64 0, .string da, .bool false], 29)] ((bdL w1.heap.size g up u0 u1 a b).and ((bdS v0 a).and (bdS v1 b))) w') ∨ (Lx 3 = true ∧ KL w1 [(b3, #[v0, v1], 27), (b11, #[.int .u8 (wh : Nat), .int .i64 0, .string da, .bool false], 29)] g false [] [] ((bdS v0 a).and (bdS v1 b)) w')) (()) [] [] [(2, fun _ => [(135, .pointer (some ⟨b11, 3, none⟩))]), (3, fun _ => [(134, .pointer (some ⟨g, 0, none⟩)), (136, .bool false)]), (6, fun _ => [(139, .pointer (some ⟨b11, 3, none⟩))]), (7, fun _ => [(138, .bool up), (140, .bool false)]), (8, fun _ => [(137, .bool (false != up)), (141, .bool (up != false))])] [3] ?_ ?_ ?_ ?_ ?_
                · exact .inl ⟨rfl, K12.out.drew⟩
                · intro s L w' h; exact trivial
                · intro s L1 L2 w' e h; (try dsimp only at h ⊢); rw [← e 3 (by simp)]; exact h
                · refine ⟨?_, ?_, ?_, ?_, ?_, trivial⟩ <;> (rintro s Lx w' hw hL haft hdc ρ hc hf hG hs o ho; cases ho; try dsimp only [seen] at hw hs)
                  · obtain ⟨e135, -⟩ := hs
                    rcases hw with ⟨h3, hw⟩ | ⟨h3, -⟩
                    case inr => exact absurd (hdc 3 h3 2 (by decide)) (by rw [hL]; decide)
                    exact sw (.bool false) (by have q : w'.cell? ⟨b11, 3, none⟩ = some (.bool false) := Kx.cell (i := 1) hw rfl (by rfl); go_simp) ⟨s, fun _ _ => rfl, rfl, .inl ⟨h3, hw⟩⟩
                  · obtain ⟨e134, e136, -⟩ := hs
                    rcases hw with ⟨h3, hw⟩ | ⟨h3, -⟩
                    case inr => rw [hL] at h3; cases h3
                    refine stepW_call (f := 9) (args := #[.pointer (some ⟨g, 0, none⟩), .bool false]) (by go_simp) ((kl_cut ⟨_, _, hw, D10.out⟩ false).mono ?_)
                    rintro e w9 ⟨q1, q2⟩
                    exact ⟨_, q1, s, fun _ _ => rfl, rfl, .inr ⟨rfl, q2⟩⟩
                  · obtain ⟨e139, -⟩ := hs
                    rcases hw with ⟨h3, hw⟩ | ⟨h3, hk⟩
                    case inl => exact sw (.bool false) (by have q : w'.cell? ⟨b11, 3, none⟩ = some (.bool false) := Kx.cell (i := 1) hw rfl (by rfl); go_simp) ⟨s, fun _ _ => rfl, rfl, .inl ⟨h3, hw⟩⟩
                    obtain ⟨p0, p1, hw, -⟩ := id hk
                    exact sw (.bool false) (by have q : w'.cell? ⟨b11, 3, none⟩ = some (.bool false) := Kx.cell (i := 1) hw rfl (by rfl); go_simp) ⟨s, fun _ _ => rfl, rfl, .inr ⟨h3, hk⟩⟩
                  · obtain ⟨e138, e140, -⟩ := hs
                    exact sw (w' := w') (.bool (up != false)) (by cases up <;> go_simp) ⟨s, fun _ _ => rfl, rfl, by simpa [upd] using hw⟩
                  · obtain ⟨e137, e141, -⟩ := hs
                    exact sw (w' := w') (.bool false) (by cases up <;> go_simp) ⟨s, fun _ _ => rfl, rfl, by simpa [upd] using hw⟩
                · rintro s Lx w13 hw hall
                  rcases hw with ⟨h3, -⟩ | ⟨-, hw⟩
                  case inl => rw [hall 3 (by decide)] at h3; cases h3
                  simp only [List.toList_toArray, putsZ_some, putsZ_none, putsZ_nil, List.setIfInBounds_toArray, List.set_cons_zero, List.set_cons_succ]
                  obtain ⟨u13a, u13b, hK, hD⟩ := hw.ex
                  have K13 := Lib.hid (show Kx w1 [(b3, #[v0, v1], 27), (b11, #[.int .u8 (wh : Nat), .int .i64 0, .string da, .bool false], 29)] ((bdL w1.heap.size g false u13a u13b [] []).and ((bdS v0 a).and (bdS v1 b))) w13 from hK)
                  have D13 := Lib.hid hD
                  clear hK hD hw hall
                  go_upto_region 32 with fail
                  refine wp_region_lit ?_
                  refine wv (.pointer (some ⟨b11, 3, none⟩)) ?_
                  (try simp only [Act.put, gA, gS, gZ, sA, sZ, sS])
                  refine wv (.bool false) ?_ (hrun := by have q : w13.cell? ⟨b11, 3, none⟩ = some (.bool false) := K13.out.cell (i := 1) rfl (by rfl); go_simp)
                  (try simp only [Act.put, gA, gS, gZ, sA, sZ, sS])
                  refine wv (.bool false) ?_
                  (try simp only [Act.put, gA, gS, gZ, sA, sZ, sS])
                  refine wpList_nil ?_
                  go_upto_region 33 with fail
                  refine wp_region_lit ?_
                  refine wv (.bool false) ?_
                  (try simp only [Act.put, gA, gS, gZ, sA, sZ, sS])
                  refine wv (.bool true) ?_
                  (try simp only [Act.put, gA, gS, gZ, sA, sZ, sS])
                  refine wpList_nil ?_
                  go_upto_region 34 with fail
                  refine wp_region_lit ?_
                  refine wv (.agg (#[.slice none 0 0, .slice none 0 0])) ?_ (hrun := run_build_of _ [] rfl [] _ rfl (by kernel_rfl))
                  (try simp only [Act.put, gA, gS, gZ, sA, sZ, sS])
                  refine kx_row K13.out 0 rfl 27 _ _ (#[.slice none 0 0, .slice none 0 0]) rfl rfl rfl rfl (info27) (by rfl) (by kernel_rfl) ?_
                  intro w14 hk
                  have K14 := Lib.hid (show Kx w1 [(b3, #[.slice none 0 0, .slice none 0 0], 27), (b11, #[.int .u8 (wh : Nat), .int .i64 0, .string da, .bool false], 29)] ((bdL w1.heap.size g false u13a u13b [] []).and ((bdS v0 a).and (bdS v1 b))) w14 from hk)
                  clear hk
                  (try simp only [Act.put, gA, gS, gZ, sA, sZ, sS])
                  refine wpList_nil ?_
                  have K15 := Lib.hid (show Kx w1 [(b3, #[.slice none 0 0, .slice none 0 0], 27), (b11, #[.int .u8 (wh : Nat), .int .i64 0, .string da, .bool false], 29)] ((bdL w1.heap.size g false u13a u13b [] []).and ((bdS (.slice none 0 0) []).and (bdS (.slice none 0 0) []))) w14 from K14.out.turn (fun h => ⟨h.1, .inl ⟨rfl, rfl⟩, .inl ⟨rfl, rfl⟩⟩) (fun k q => by rcases q with q | q | q; exact .inl q; cases q; cases q))
                  have D15 := Lib.hid (show ∀ k, ((bdS (.slice none 0 0) []).and (bdS (.slice none 0 0) [])).f k → ¬ lkF g u13a u13b k from fun k q => by rcases q with q | q <;> cases q)
                  have HZ := Lib.hid (Nat.zero_le k)
                  go_upto_region 35 with fail
                  refine wp_region_lit ?_
                  refine wv (.int .i64 0) ?_
                  (try simp only [Act.put, gA, gS, gZ, sA, sZ, sS])
                  refine wpList_nil ?_
                  go_upto_region 36 with fail
                  refine wp_region_lit ?_
                  refine wv (.bool true) ?_
                  (try simp only [Act.put, gA, gS, gZ, sA, sZ, sS])
                  refine wpList_nil ?_
                  obtain ⟨s16q, s16c, s16e, -, -⟩ := SrcB.shape K15.out.a.2.1
                  have s16h := Lib.hid s16e
                  clear s16e
                  go_upto_region 37 with fail
                  refine wp_region_lit ?_
                  refine wv (.pointer (some ⟨b11, 1, none⟩)) ?_
                  (try simp only [Act.put, gA, gS, gZ, sA, sZ, sS])
                  refine wv (.int .i64 0) ?_ (hrun := by have q : w14.cell? ⟨b11, 1, none⟩ = some (.int .i64 0) := K15.out.cell (i := 1) rfl (by rfl); go_simp)
                  (try simp only [Act.put, gA, gS, gZ, sA, sZ, sS])
                  refine wv (.pointer (some ⟨b3, 0, none⟩)) ?_
                  (try simp only [Act.put, gA, gS, gZ, sA, sZ, sS])
                  refine wv (.slice s16q (([] : List ByteArray)).length s16c) ?_ (hrun := by have q : w14.cell? ⟨b3, 0, none⟩ = some ((.slice none 0 0)) := K15.out.cell (i := 0) rfl (by rfl); rw [s16h.out] at q; go_simp)
                  (try simp only [Act.put, gA, gS, gZ, sA, sZ, sS])
                  refine wv (.int .i64 ((([] : List ByteArray)).length : Nat)) ?_
                  (try simp only [Act.put, gA, gS, gZ, sA, sZ, sS])
                  refine wv (.int .i64 ((([] : List ByteArray)).length : Nat)) ?_
                  (try simp only [Act.put, gA, gS, gZ, sA, sZ, sS])
                  refine wpList_nil ?_
                  go_upto_region 38 with fail
                  have HUN := Lib.hid (show unN 0 (([] : List ByteArray)) (([] : List ByteArray)) = (([] : List ByteArray)).length from rfl)
                  refine wp_region_lit ?_
                  refine wv (.pointer (some ⟨g, 0, none⟩)) ?_
                  (try simp only [Act.put, gA, gS, gZ, sA, sZ, sS])
                  refine wl_call 11 #[.pointer (some ⟨g, 0, none⟩)] (by rfl) (by go_simp) (calls_one (up_any K15.out.a.1)) ?_; rintro _ w14 ⟨rfl, rfl⟩
                  (try simp only [Act.put, gA, gS, gZ, sA, sZ, sS])
                  refine wv (.bool false) ?_
                  (try simp only [Act.put, gA, gS, gZ, sA, sZ, sS])
                  refine wv (.bool false) ?_
                  (try simp only [Act.put, gA, gS, gZ, sA, sZ, sS])
                  refine wv (.bool false) ?_
                  (try simp only [Act.put, gA, gS, gZ, sA, sZ, sS])
                  refine wv (.pointer (some ⟨g, 0, none⟩)) ?_
                  (try simp only [Act.put, gA, gS, gZ, sA, sZ, sS])
                  refine wv (.pointer (some ⟨b11, 1, none⟩)) ?_
                  (try simp only [Act.put, gA, gS, gZ, sA, sZ, sS])
                  refine wv (.int .i64 0) ?_ (hrun := by have q : w14.cell? ⟨b11, 1, none⟩ = some (.int .i64 0) := K15.out.cell (i := 1) rfl (by rfl); go_simp)
                  (try simp only [Act.put, gA, gS, gZ, sA, sZ, sS])
                  refine wl_call 12 #[.pointer (some ⟨g, 0, none⟩), .int .i64 0] (by rfl) (by go_simp) (calls_one (under_any K15.out.a.1 0)) ?_; rintro _ w14 ⟨rfl, rfl⟩
                  rw [HUN.out]
                  (try simp only [Act.put, gA, gS, gZ, sA, sZ, sS])
                  refine wv (.int .i64 ((([] : List ByteArray)).length : Nat)) ?_
                  (try simp only [Act.put, gA, gS, gZ, sA, sZ, sS])
                  refine wv (.bool false) ?_
                  (try simp only [Act.put, gA, gS, gZ, sA, sZ, sS])
                  refine wv (.bool false) ?_
                  (try simp only [Act.put, gA, gS, gZ, sA, sZ, sS])
                  refine wpList_nil ?_
                  have LN := Lib.hid (show LS w1 g b3 false (([] : List ByteArray)) (([] : List ByteArray)) w14 from ⟨(.slice none 0 0), (.slice none 0 0), KL.left (l := [(b3, #[(.slice none 0 0), (.slice none 0 0)], 27)]) (r := [(b11, #[.int .u8 (wh : Nat), .int .i64 0, .string da, .bool false], 29)]) ⟨_, _, K15.out, D15.out⟩⟩)
                  go_wp2_with fail
                  go_roundw
                  case measure => have := HLT.out; simp only [intOf]; omega
                  case rel => exact ⟨k + 1, false, ([] : List ByteArray), ([] : List ByteArray), by have := HLT.out; omega, by have := HLT.out; omega, by have := HZ.out; (try simp only [List.length_append, List.length_cons, List.length_nil] at this ⊢); omega, by have := HZ.out; (try simp only [List.length_append, List.length_cons, List.length_nil] at this ⊢); omega, rfl, by go_simp, LN.out⟩
              case true => as_aux_lemma =>
                go_upto_region 17 with fail
                refine wp_region_lit ?_
                refine wv (.bool false) ?_
                (try simp only [Act.put, gA, gS, gZ, sA, sZ, sS])
                refine wv (.bool false) ?_
                (try simp only [Act.put, gA, gS, gZ, sA, sZ, sS])
                refine wpList_nil ?_
                go_upto_region 18 with fail
                refine wp_region_lit ?_
                refine wv (.bool false) ?_
                (try simp only [Act.put, gA, gS, gZ, sA, sZ, sS])
                refine wv (.bool false) ?_
                (try simp only [Act.put, gA, gS, gZ, sA, sZ, sS])
                refine wpList_nil ?_
                go_upto_region 29 with fail
                refine wp_region_lit ?_
                refine wv (.bool true) ?_
                (try simp only [Act.put, gA, gS, gZ, sA, sZ, sS])
                refine wv (.bool true) ?_
                (try simp only [Act.put, gA, gS, gZ, sA, sZ, sS])
                refine wpList_nil ?_
                go_upto_region 30 with fail
                refine rk (fun (_ : Unit) => [.pointer (some ⟨g, 0, none⟩), .pointer (some ⟨b11, 3, none⟩), .bool true, .bool (true != up), .bool up, .pointer (some ⟨b11, 3, none⟩), .bool true, .bool (up != true), .bool false]) (fun _ Lx w' => (Lx 3 = false ∧ Kx w1 [(b3, #[v0, v1], 27), (b11, #[.int .u8 (wh : Nat), .int .i64 0, .string da, .bool true], 29)] ((bdL w1.heap.size g up u0 u1 a b).and ((bdS v0 a).and (bdS v1 b))) w') ∨ (Lx 3 = true ∧ KL w1 [(b3, #[v0, v1], 27), (b11, #[.int .u8 (wh : Nat), .int .i64 0, .string da, .bool true], 29)] g true a b ((bdS v0 a).and (bdS v1 b)) w')) (()) [] [] [(2, fun _ => [(135, .pointer (some ⟨b11, 3, none⟩))]), (3, fun _ => [(134, .pointer (some ⟨g, 0, none⟩)), (136, .bool true)]), (6, fun _ => [(139, .pointer (some ⟨b11, 3, none⟩))]), (7, fun _ => [(138, .bool up), (140, .bool true)]), (8, fun _ => [(137, .bool (true != up)), (141, .bool (up != true))])] [3] ?_ ?_ ?_ ?_ ?_
                · exact .inl ⟨rfl, K12.out.drew⟩
                · intro s L w' h; exact trivial
                · intro s L1 L2 w' e h; (try dsimp only at h ⊢); rw [← e 3 (by simp)]; exact h
                · refine ⟨?_, ?_, ?_, ?_, ?_, trivial⟩ <;> (rintro s Lx w' hw hL haft hdc ρ hc hf hG hs o ho; cases ho; try dsimp only [seen] at hw hs)
                  · obtain ⟨e135, -⟩ := hs
                    rcases hw with ⟨h3, hw⟩ | ⟨h3, -⟩
                    case inr => exact absurd (hdc 3 h3 2 (by decide)) (by rw [hL]; decide)
                    exact sw (.bool true) (by have q : w'.cell? ⟨b11, 3, none⟩ = some (.bool true) := Kx.cell (i := 1) hw rfl (by rfl); go_simp) ⟨s, fun _ _ => rfl, rfl, .inl ⟨h3, hw⟩⟩
                  · obtain ⟨e134, e136, -⟩ := hs
                    rcases hw with ⟨h3, hw⟩ | ⟨h3, -⟩
                    case inr => rw [hL] at h3; cases h3
                    refine stepW_call (f := 9) (args := #[.pointer (some ⟨g, 0, none⟩), .bool true]) (by go_simp) ((kl_cut ⟨_, _, hw, D10.out⟩ true).mono ?_)
                    rintro e w9 ⟨q1, q2⟩
                    exact ⟨_, q1, s, fun _ _ => rfl, rfl, .inr ⟨rfl, q2⟩⟩
                  · obtain ⟨e139, -⟩ := hs
                    rcases hw with ⟨h3, hw⟩ | ⟨h3, hk⟩
                    case inl => exact sw (.bool true) (by have q : w'.cell? ⟨b11, 3, none⟩ = some (.bool true) := Kx.cell (i := 1) hw rfl (by rfl); go_simp) ⟨s, fun _ _ => rfl, rfl, .inl ⟨h3, hw⟩⟩
                    obtain ⟨p0, p1, hw, -⟩ := id hk
                    exact sw (.bool true) (by have q : w'.cell? ⟨b11, 3, none⟩ = some (.bool true) := Kx.cell (i := 1) hw rfl (by rfl); go_simp) ⟨s, fun _ _ => rfl, rfl, .inr ⟨h3, hk⟩⟩
                  · obtain ⟨e138, e140, -⟩ := hs
                    exact sw (w' := w') (.bool (up != true)) (by cases up <;> go_simp) ⟨s, fun _ _ => rfl, rfl, by simpa [upd] using hw⟩
                  · obtain ⟨e137, e141, -⟩ := hs
                    exact sw (w' := w') (.bool false) (by cases up <;> go_simp) ⟨s, fun _ _ => rfl, rfl, by simpa [upd] using hw⟩
                · rintro s Lx w13 hw hall
                  rcases hw with ⟨h3, -⟩ | ⟨-, hw⟩
                  case inl => rw [hall 3 (by decide)] at h3; cases h3
                  simp only [List.toList_toArray, putsZ_some, putsZ_none, putsZ_nil, List.setIfInBounds_toArray, List.set_cons_zero, List.set_cons_succ]
                  obtain ⟨u13a, u13b, hK, hD⟩ := hw.ex
                  have K13 := Lib.hid (show Kx w1 [(b3, #[v0, v1], 27), (b11, #[.int .u8 (wh : Nat), .int .i64 0, .string da, .bool true], 29)] ((bdL w1.heap.size g true u13a u13b a b).and ((bdS v0 a).and (bdS v1 b))) w13 from hK)
                  have D13 := Lib.hid hD
                  clear hK hD hw hall
                  go_upto_region 32 with fail
                  refine wp_region_lit ?_
                  refine wv (.pointer (some ⟨b11, 3, none⟩)) ?_
                  (try simp only [Act.put, gA, gS, gZ, sA, sZ, sS])
                  refine wv (.bool true) ?_ (hrun := by have q : w13.cell? ⟨b11, 3, none⟩ = some (.bool true) := K13.out.cell (i := 1) rfl (by rfl); go_simp)
                  (try simp only [Act.put, gA, gS, gZ, sA, sZ, sS])
                  refine wv (.bool true) ?_
                  (try simp only [Act.put, gA, gS, gZ, sA, sZ, sS])
                  refine wpList_nil ?_
                  go_upto_region 33 with fail
                  refine wp_region_lit ?_
                  refine wv (.bool true) ?_
                  (try simp only [Act.put, gA, gS, gZ, sA, sZ, sS])
                  refine wv (.bool false) ?_
                  (try simp only [Act.put, gA, gS, gZ, sA, sZ, sS])
                  refine wpList_nil ?_
                  go_upto_region 35 with fail
                  refine wp_region_lit ?_
                  refine wv (.int .i64 0) ?_
                  (try simp only [Act.put, gA, gS, gZ, sA, sZ, sS])
                  refine wpList_nil ?_
                  go_upto_region 36 with fail
                  refine wp_region_lit ?_
                  refine wv (.bool true) ?_
                  (try simp only [Act.put, gA, gS, gZ, sA, sZ, sS])
                  refine wpList_nil ?_
                  obtain ⟨s14q, s14c, s14e, -, -⟩ := SrcB.shape K13.out.a.2.1
                  have s14h := Lib.hid s14e
                  clear s14e
                  go_upto_region 37 with fail
                  refine wp_region_lit ?_
                  refine wv (.pointer (some ⟨b11, 1, none⟩)) ?_
                  (try simp only [Act.put, gA, gS, gZ, sA, sZ, sS])
                  refine wv (.int .i64 0) ?_ (hrun := by have q : w13.cell? ⟨b11, 1, none⟩ = some (.int .i64 0) := K13.out.cell (i := 1) rfl (by rfl); go_simp)
                  (try simp only [Act.put, gA, gS, gZ, sA, sZ, sS])
                  refine wv (.pointer (some ⟨b3, 0, none⟩)) ?_
                  (try simp only [Act.put, gA, gS, gZ, sA, sZ, sS])
                  refine wv (.slice s14q (a).length s14c) ?_ (hrun := by have q : w13.cell? ⟨b3, 0, none⟩ = some (v0) := K13.out.cell (i := 0) rfl (by rfl); rw [s14h.out] at q; go_simp)
                  (try simp only [Act.put, gA, gS, gZ, sA, sZ, sS])
                  refine wv (.int .i64 ((a).length : Nat)) ?_
                  (try simp only [Act.put, gA, gS, gZ, sA, sZ, sS])
                  refine wv (.int .i64 ((a).length : Nat)) ?_
                  (try simp only [Act.put, gA, gS, gZ, sA, sZ, sS])
                  refine wpList_nil ?_
                  go_upto_region 38 with fail
                  have HUN := Lib.hid (show unN 0 (a) (b) = (a).length from rfl)
                  refine wp_region_lit ?_
                  refine wv (.pointer (some ⟨g, 0, none⟩)) ?_
                  (try simp only [Act.put, gA, gS, gZ, sA, sZ, sS])
                  refine wl_call 11 #[.pointer (some ⟨g, 0, none⟩)] (by rfl) (by go_simp) (calls_one (up_any K13.out.a.1)) ?_; rintro _ w13 ⟨rfl, rfl⟩
                  (try simp only [Act.put, gA, gS, gZ, sA, sZ, sS])
                  refine wv (.bool true) ?_
                  (try simp only [Act.put, gA, gS, gZ, sA, sZ, sS])
                  refine wv (.bool false) ?_
                  (try simp only [Act.put, gA, gS, gZ, sA, sZ, sS])
                  refine wv (.bool false) ?_
                  (try simp only [Act.put, gA, gS, gZ, sA, sZ, sS])
                  refine wv (.pointer (some ⟨g, 0, none⟩)) ?_
                  (try simp only [Act.put, gA, gS, gZ, sA, sZ, sS])
                  refine wv (.pointer (some ⟨b11, 1, none⟩)) ?_
                  (try simp only [Act.put, gA, gS, gZ, sA, sZ, sS])
                  refine wv (.int .i64 0) ?_ (hrun := by have q : w13.cell? ⟨b11, 1, none⟩ = some (.int .i64 0) := K13.out.cell (i := 1) rfl (by rfl); go_simp)
                  (try simp only [Act.put, gA, gS, gZ, sA, sZ, sS])
                  refine wl_call 12 #[.pointer (some ⟨g, 0, none⟩), .int .i64 0] (by rfl) (by go_simp) (calls_one (under_any K13.out.a.1 0)) ?_; rintro _ w13 ⟨rfl, rfl⟩
                  rw [HUN.out]
                  (try simp only [Act.put, gA, gS, gZ, sA, sZ, sS])
                  refine wv (.int .i64 ((a).length : Nat)) ?_
                  (try simp only [Act.put, gA, gS, gZ, sA, sZ, sS])
                  refine wv (.bool false) ?_
                  (try simp only [Act.put, gA, gS, gZ, sA, sZ, sS])
                  refine wv (.bool false) ?_
                  (try simp only [Act.put, gA, gS, gZ, sA, sZ, sS])
                  refine wpList_nil ?_
                  have LN := Lib.hid (show LS w1 g b3 true (a) (b) w13 from ⟨v0, v1, KL.left (l := [(b3, #[v0, v1], 27)]) (r := [(b11, #[.int .u8 (wh : Nat), .int .i64 0, .string da, .bool true], 29)]) ⟨_, _, K13.out, D13.out⟩⟩)
                  go_wp2_with fail
                  go_roundw
                  case measure => have := HLT.out; simp only [intOf]; omega
                  case rel => exact ⟨k + 1, true, a, b, by have := HLT.out; omega, by have := HLT.out; omega, by have := HLA.out; (try simp only [List.length_append, List.length_cons, List.length_nil] at this ⊢); omega, by have := HLB.out; (try simp only [List.length_append, List.length_cons, List.length_nil] at this ⊢); omega, rfl, by go_simp, LN.out⟩
            case neg =>
              have q3 : ¬ ((r : Int) = 3) := by omega
              have q4 : ¬ ((r : Int) = 4) := by omega
              have q5 : ¬ ((r : Int) = 5) := by omega
              clear r3 r4 r5
              go_upto_region 17 with fail
              refine wp_region_lit ?_
              refine wv (.bool false) ?_
              (try simp only [Act.put, gA, gS, gZ, sA, sZ, sS])
              refine wv (.bool false) ?_
              (try simp only [Act.put, gA, gS, gZ, sA, sZ, sS])
              refine wpList_nil ?_
              go_upto_region 18 with fail
              refine wp_region_lit ?_
              refine wv (.bool false) ?_
              (try simp only [Act.put, gA, gS, gZ, sA, sZ, sS])
              refine wv (.bool false) ?_
              (try simp only [Act.put, gA, gS, gZ, sA, sZ, sS])
              refine wpList_nil ?_
              go_upto_region 29 with fail
              refine wp_region_lit ?_
              refine wv (.bool false) ?_
              (try simp only [Act.put, gA, gS, gZ, sA, sZ, sS])
              refine wv (.bool false) ?_
              (try simp only [Act.put, gA, gS, gZ, sA, sZ, sS])
              refine wpList_nil ?_
              go_upto_region 13 with fail
              clear q3 q4 q5
              cases up
              case false => as_aux_lemma =>
                refine wp_region_lit ?_
                refine wv (.pointer (some ⟨g, 0, none⟩)) ?_
                (try simp only [Act.put, gA, gS, gZ, sA, sZ, sS])
                refine wv (.pointer (some ⟨b11, 1, none⟩)) ?_
                (try simp only [Act.put, gA, gS, gZ, sA, sZ, sS])
                refine wv (.int .i64 0) ?_ (hrun := by have q : w12.cell? ⟨b11, 1, none⟩ = some (.int .i64 0) := K12.out.cell (i := 1) rfl (by rfl); go_simp)
                (try simp only [Act.put, gA, gS, gZ, sA, sZ, sS])
                refine wv (.string D) ?_
                (try simp only [Act.put, gA, gS, gZ, sA, sZ, sS])
                refine wl_call 10 #[.pointer (some ⟨g, 0, none⟩), .int .i64 0, .string D] (by rfl) (by go_simp) (calls_one (send_no K12.out.a.1 0 D (by simp [goes]))) ?_
                rintro _ w12 ⟨rfl, rfl⟩
                (try simp only [Act.put, gA, gS, gZ, sA, sZ, sS])
                refine wv (.bool true) ?_
                (try simp only [Act.put, gA, gS, gZ, sA, sZ, sS])
                refine wv (.bool true) ?_
                (try simp only [Act.put, gA, gS, gZ, sA, sZ, sS])
                refine wv (.bool false) ?_
                (try simp only [Act.put, gA, gS, gZ, sA, sZ, sS])
                refine wv (.bool false) ?_
                (try simp only [Act.put, gA, gS, gZ, sA, sZ, sS])
                refine wv (.bool false) ?_
                (try simp only [Act.put, gA, gS, gZ, sA, sZ, sS])
                refine wpList_nil ?_
                go_upto_region 15 with fail
                refine wp_region_lit ?_
                refine wv (.bool true) ?_
                (try simp only [Act.put, gA, gS, gZ, sA, sZ, sS])
                refine wv (.bool true) ?_
                (try simp only [Act.put, gA, gS, gZ, sA, sZ, sS])
                refine wv (.bool false) ?_
                (try simp only [Act.put, gA, gS, gZ, sA, sZ, sS])
                refine wv (.bool false) ?_
                (try simp only [Act.put, gA, gS, gZ, sA, sZ, sS])
                refine wpList_nil ?_
                go_upto_region 35 with fail
                refine wp_region_lit ?_
                refine wv (.int .i64 0) ?_
                (try simp only [Act.put, gA, gS, gZ, sA, sZ, sS])
                refine wpList_nil ?_
                go_upto_region 36 with fail
                refine wp_region_lit ?_
                refine wv (.bool true) ?_
                (try simp only [Act.put, gA, gS, gZ, sA, sZ, sS])
                refine wpList_nil ?_
                obtain ⟨s14q, s14c, s14e, -, -⟩ := SrcB.shape K12.out.a.2.1
                have s14h := Lib.hid s14e
                clear s14e
                go_upto_region 37 with fail
                refine wp_region_lit ?_
                refine wv (.pointer (some ⟨b11, 1, none⟩)) ?_
                (try simp only [Act.put, gA, gS, gZ, sA, sZ, sS])
                refine wv (.int .i64 0) ?_ (hrun := by have q : w12.cell? ⟨b11, 1, none⟩ = some (.int .i64 0) := K12.out.cell (i := 1) rfl (by rfl); go_simp)
                (try simp only [Act.put, gA, gS, gZ, sA, sZ, sS])
                refine wv (.pointer (some ⟨b3, 0, none⟩)) ?_
                (try simp only [Act.put, gA, gS, gZ, sA, sZ, sS])
                refine wv (.slice s14q (a).length s14c) ?_ (hrun := by have q : w12.cell? ⟨b3, 0, none⟩ = some (v0) := K12.out.cell (i := 0) rfl (by rfl); rw [s14h.out] at q; go_simp)
                (try simp only [Act.put, gA, gS, gZ, sA, sZ, sS])
                refine wv (.int .i64 ((a).length : Nat)) ?_
                (try simp only [Act.put, gA, gS, gZ, sA, sZ, sS])
                refine wv (.int .i64 ((a).length : Nat)) ?_
                (try simp only [Act.put, gA, gS, gZ, sA, sZ, sS])
                refine wpList_nil ?_
                go_upto_region 38 with fail
                have HUN := Lib.hid (show unN 0 (a) (b) = (a).length from rfl)
                refine wp_region_lit ?_
                refine wv (.pointer (some ⟨g, 0, none⟩)) ?_
                (try simp only [Act.put, gA, gS, gZ, sA, sZ, sS])
                refine wl_call 11 #[.pointer (some ⟨g, 0, none⟩)] (by rfl) (by go_simp) (calls_one (up_any K12.out.a.1)) ?_; rintro _ w12 ⟨rfl, rfl⟩
                (try simp only [Act.put, gA, gS, gZ, sA, sZ, sS])
                refine wv (.bool false) ?_
                (try simp only [Act.put, gA, gS, gZ, sA, sZ, sS])
                refine wv (.bool false) ?_
                (try simp only [Act.put, gA, gS, gZ, sA, sZ, sS])
                refine wv (.bool false) ?_
                (try simp only [Act.put, gA, gS, gZ, sA, sZ, sS])
                refine wv (.pointer (some ⟨g, 0, none⟩)) ?_
                (try simp only [Act.put, gA, gS, gZ, sA, sZ, sS])
                refine wv (.pointer (some ⟨b11, 1, none⟩)) ?_
                (try simp only [Act.put, gA, gS, gZ, sA, sZ, sS])
                refine wv (.int .i64 0) ?_ (hrun := by have q : w12.cell? ⟨b11, 1, none⟩ = some (.int .i64 0) := K12.out.cell (i := 1) rfl (by rfl); go_simp)
                (try simp only [Act.put, gA, gS, gZ, sA, sZ, sS])
                refine wl_call 12 #[.pointer (some ⟨g, 0, none⟩), .int .i64 0] (by rfl) (by go_simp) (calls_one (under_any K12.out.a.1 0)) ?_; rintro _ w12 ⟨rfl, rfl⟩
                rw [HUN.out]
                (try simp only [Act.put, gA, gS, gZ, sA, sZ, sS])
                refine wv (.int .i64 ((a).length : Nat)) ?_
                (try simp only [Act.put, gA, gS, gZ, sA, sZ, sS])
                refine wv (.bool false) ?_
                (try simp only [Act.put, gA, gS, gZ, sA, sZ, sS])
                refine wv (.bool false) ?_
                (try simp only [Act.put, gA, gS, gZ, sA, sZ, sS])
                refine wpList_nil ?_
                have LN := Lib.hid (show LS w1 g b3 false (a) (b) w12 from ⟨v0, v1, KL.left (l := [(b3, #[v0, v1], 27)]) (r := [(b11, #[.int .u8 (wh : Nat), .int .i64 0, .string da, .bool xu], 29)]) ⟨_, _, K12.out, D10.out⟩⟩)
                go_wp2_with fail
                go_roundw
                case measure => have := HLT.out; simp only [intOf]; omega
                case rel => exact ⟨k + 1, false, a, b, by have := HLT.out; omega, by have := HLT.out; omega, by have := HLA.out; (try simp only [List.length_append, List.length_cons, List.length_nil] at this ⊢); omega, by have := HLB.out; (try simp only [List.length_append, List.length_cons, List.length_nil] at this ⊢); omega, rfl, by go_simp, LN.out⟩
              case true => as_aux_lemma =>
                refine wp_region_lit ?_
                refine wv (.pointer (some ⟨g, 0, none⟩)) ?_
                (try simp only [Act.put, gA, gS, gZ, sA, sZ, sS])
                refine wv (.pointer (some ⟨b11, 1, none⟩)) ?_
                (try simp only [Act.put, gA, gS, gZ, sA, sZ, sS])
                refine wv (.int .i64 0) ?_ (hrun := by have q : w12.cell? ⟨b11, 1, none⟩ = some (.int .i64 0) := K12.out.cell (i := 1) rfl (by rfl); go_simp)
                (try simp only [Act.put, gA, gS, gZ, sA, sZ, sS])
                refine wv (.string D) ?_
                (try simp only [Act.put, gA, gS, gZ, sA, sZ, sS])
                refine wl_call 10 #[.pointer (some ⟨g, 0, none⟩), .int .i64 0, .string D] (by rfl) (by go_simp) (calls_one (send_yes0 K12.out.a.1 K12.out.below.size D (by have := HLA.out; have := HLT.out; omega))) ?_
                rintro _ w13 ⟨rfl, p13, q13, hR⟩
                (try simp only [Act.put, gA, gS, gZ, sA, sZ, sS])
                have K13x := KL.of K12.out D10.out hR
                obtain ⟨u13a, u13b, hK, hD⟩ := K13x.ex
                have K13 := Lib.hid (show Kx w1 [(b3, #[v0, v1], 27), (b11, #[.int .u8 (wh : Nat), .int .i64 0, .string da, .bool xu], 29)] ((bdL w1.heap.size g true u13a u13b (a ++ [D]) b).and ((bdS v0 a).and (bdS v1 b))) w13 from hK)
                have D13 := Lib.hid hD
                clear hK hD hR K13x
                refine wv (.bool true) ?_
                (try simp only [Act.put, gA, gS, gZ, sA, sZ, sS])
                refine wv (.bool true) ?_
                (try simp only [Act.put, gA, gS, gZ, sA, sZ, sS])
                refine wv (.bool true) ?_
                (try simp only [Act.put, gA, gS, gZ, sA, sZ, sS])
                refine wv (.bool true) ?_
                (try simp only [Act.put, gA, gS, gZ, sA, sZ, sS])
                refine wv (.bool false) ?_
                (try simp only [Act.put, gA, gS, gZ, sA, sZ, sS])
                refine wpList_nil ?_
                go_upto_region 15 with fail
                refine wp_region_lit ?_
                refine wv (.bool true) ?_
                (try simp only [Act.put, gA, gS, gZ, sA, sZ, sS])
                refine wv (.bool true) ?_
                (try simp only [Act.put, gA, gS, gZ, sA, sZ, sS])
                refine wv (.bool true) ?_
                (try simp only [Act.put, gA, gS, gZ, sA, sZ, sS])
                refine wv (.bool true) ?_
                (try simp only [Act.put, gA, gS, gZ, sA, sZ, sS])
                refine wpList_nil ?_
                go_upto_region 16 with fail
                refine rk (fun (s : Value × Value × Value × Value) => [.pointer (some ⟨b11, 1, none⟩), .int .i64 0, s.1, .pointer (some ⟨b11, 1, none⟩), .int .i64 0, .pointer (some ⟨b3, 0, none⟩), v0, s.2.1, .string D, s.2.2.1, s.2.2.2, .pointer (some ⟨b3, 0, none⟩), undef]) (fun s Lx w' => (Lx 12 = false ∧ InsW 9 1 stC w13 a D [] (Lx 2) (Lx 7) (Lx 9) (Lx 10) false s.1 s.2.1 s.2.2.1 s.2.2.2 undef w') ∨ (Lx 12 = true ∧ KL w1 [(b3, #[s.2.2.2, v1], 27), (b11, #[.int .u8 (wh : Nat), .int .i64 0, .string da, .bool xu], 29)] g true (a ++ [D]) b (((bdS v0 a).and (bdS v1 b)).and (bdS s.2.2.2 (a ++ [D]))) w')) ((undef, undef, undef, undef)) [] [] [(1, fun s => [(67, .pointer (some ⟨b11, 1, none⟩))]), (2, fun s => []), (4, fun s => [(70, .pointer (some ⟨b11, 1, none⟩))]), (6, fun s => [(72, .pointer (some ⟨b3, 0, none⟩))]), (7, fun s => [(69, s.1), (73, v0)]), (9, fun s => [(75, .string D)]), (10, fun s => [(74, s.2.1), (76, s.2.2.1)]), (12, fun s => [(78, .pointer (some ⟨b3, 0, none⟩)), (77, s.2.2.2)])] [2, 7, 9, 10, 12] ?_ ?_ ?_ ?_ ?_
                · exact .inl ⟨rfl, InsW.start w13⟩
                · intro s L w' h; exact trivial
                · intro s L1 L2 w' e h; (try dsimp only at h ⊢); rw [← e 2 (by simp), ← e 7 (by simp), ← e 9 (by simp), ← e 10 (by simp), ← e 12 (by simp)]; exact h
                · refine ⟨?_, ?_, ?_, ?_, ?_, ?_, ?_, ?_, trivial⟩ <;> (rintro s Lx w' hw hL haft hdc ρ hc hf hG hs o ho; cases ho; try dsimp only [seen] at hw hs)
                  · obtain ⟨e67, -⟩ := hs
                    rcases hw with ⟨h12, hw⟩ | ⟨h12, -⟩
                    case inr => exact absurd (hdc 12 h12 1 (by decide)) (by rw [hL]; decide)
                    exact sw (w' := w') (.int .i64 0) (by have q : w'.cell? ⟨b11, 1, none⟩ = some (.int .i64 0) := (K13.out.next hw.below).cell (i := 1) rfl (by rfl); go_simp) ⟨s, fun _ _ => rfl, rfl, .inl ⟨h12, hw⟩⟩
                  · skip
                    rcases hw with ⟨h12, hw⟩ | ⟨h12, -⟩
                    case inr => exact absurd (hdc 12 h12 2 (by decide)) (by rw [hL]; decide)
                    exact sw (w' := w'.alloc (.cells #[] 9)) (.slice (some ⟨w'.heap.size, 0, none⟩) 0 0) (by go_simp) ⟨(.slice (some ⟨w'.heap.size, 0, none⟩) 0 0, s.2), vs_other (i := 2) rfl hL, rfl, .inl ⟨h12, hw.make0 hL⟩⟩
                  · obtain ⟨e70, -⟩ := hs
                    rcases hw with ⟨h12, hw⟩ | ⟨h12, -⟩
                    case inr => exact absurd (hdc 12 h12 4 (by decide)) (by rw [hL]; decide)
                    exact sw (w' := w') (.int .i64 0) (by have q : w'.cell? ⟨b11, 1, none⟩ = some (.int .i64 0) := (K13.out.next hw.below).cell (i := 1) rfl (by rfl); go_simp) ⟨s, fun _ _ => rfl, rfl, .inl ⟨h12, hw⟩⟩
                  · obtain ⟨e72, -⟩ := hs
                    rcases hw with ⟨h12, hw⟩ | ⟨h12, -⟩
                    case inr => exact absurd (hdc 12 h12 6 (by decide)) (by rw [hL]; decide)
                    exact sw (w' := w') v0 (by have q : w'.cell? ⟨b3, 0, none⟩ = some v0 := (K13.out.next hw.below).cell (i := 0) rfl (by rfl); go_simp) ⟨s, fun _ _ => rfl, rfl, .inl ⟨h12, hw⟩⟩
                  · obtain ⟨e69, e73, -⟩ := hs
                    rcases hw with ⟨h12, hw⟩ | ⟨h12, -⟩
                    case inr => exact absurd (hdc 12 h12 7 (by decide)) (by rw [hL]; decide)
                    obtain ⟨u, w2, hrun, hw2⟩ := hw.app4 stT (haft 2 (by decide)) hL (SrcB.src (K13.out.next hw.below).a.2.1) (by have := HLA.out; have := HLT.out; omega) 26
                    exact stepW_app (.tmp 69) (.tmp 73) 26 rfl _ _ u e69 e73 hrun ⟨(s.1, u, s.2.2), vs_other (i := 7) rfl hL, rfl, .inl ⟨h12, hw2⟩⟩
                  · obtain ⟨e75, -⟩ := hs
                    rcases hw with ⟨h12, hw⟩ | ⟨h12, -⟩
                    case inr => exact absurd (hdc 12 h12 9 (by decide)) (by rw [hL]; decide)
                    exact sw (w' := w'.alloc (.cells #[.string D] 9)) (.slice (some ⟨w'.heap.size, 0, none⟩) 1 1) (run_bs1r 26 (.tmp 75) rfl (.string D) _ e75 (one_st D w')) ⟨(s.1, s.2.1, .slice (some ⟨w'.heap.size, 0, none⟩) 1 1, s.2.2.2), vs_other (i := 9) rfl hL, rfl, .inl ⟨h12, hw.make6 stT hL _ rfl⟩⟩
                  · obtain ⟨e74, e76, -⟩ := hs
                    rcases hw with ⟨h12, hw⟩ | ⟨h12, -⟩
                    case inr => exact absurd (hdc 12 h12 10 (by decide)) (by rw [hL]; decide)
                    obtain ⟨u, w2, hrun, hw2⟩ := hw.app7 stT (haft 7 (by decide)) (haft 9 (by decide)) hL (by have := HLA.out; have := HLT.out; omega) 26
                    exact stepW_app (.tmp 74) (.tmp 76) 26 rfl _ _ u e74 e76 hrun ⟨(s.1, s.2.1, s.2.2.1, u), vs_other (i := 10) rfl hL, rfl, .inl ⟨h12, hw2⟩⟩
                  · obtain ⟨e78, e77, -⟩ := hs
                    rcases hw with ⟨h12, hw⟩ | ⟨h12, -⟩
                    case inr => rw [hL] at h12; cases h12
                    obtain ⟨sa, sb, sc, sd⟩ := s
                    dsimp only at hw e77
                    have ow := hw.p7 (haft 10 (by decide)) rfl
                    obtain ⟨q', r', eu, -⟩ := ow.shape
                    subst eu
                    have kf := KL.set (kl_put ⟨_, _, K13.out, D13.out⟩ hw.below ow) (i := 0) rfl 0 (.slice q' (a ++ [D]).length r')
                    exact ss 26 (.tmp 78) (.tmp 77) rfl ⟨b3, 0, none⟩ (.slice q' (a ++ [D]).length r') e78 e77 (kx_run_set (K13.out.next hw.below) (i := 0) rfl 26 0 v0 (.slice q' (a ++ [D]).length r') (by rfl) (fun W h1 h2 => by go_simp)) ⟨(sa, sb, sc, .slice q' (a ++ [D]).length r'), fun _ _ => rfl, rfl, .inr ⟨rfl, kf⟩⟩
                · rintro ⟨sa, sb, sc, sd⟩ Lx wz hw hall
                  rcases hw with ⟨h12, -⟩ | ⟨-, hw⟩
                  case inl => rw [hall 12 (by decide)] at h12; cases h12
                  simp only [List.toList_toArray, putsZ_some, putsZ_none, putsZ_nil, List.setIfInBounds_toArray, List.set_cons_zero, List.set_cons_succ]
                  obtain ⟨u14a, u14b, hK, hD⟩ := (KL.turn (C' := (bdS sd (a ++ [D])).and (bdS v1 b)) hw (fun h => ⟨h.2, h.1.2⟩) (fun k q => q.elim (fun q => .inr q) (fun q => .inl (.inr q)))).ex
                  have K14 := Lib.hid (show Kx w1 [(b3, #[sd, v1], 27), (b11, #[.int .u8 (wh : Nat), .int .i64 0, .string da, .bool xu], 29)] ((bdL w1.heap.size g true u14a u14b (a ++ [D]) b).and ((bdS sd (a ++ [D])).and (bdS v1 b))) wz from hK)
                  have D14 := Lib.hid hD
                  clear hK hD hw hall
                  go_upto_region 35 with fail
                  refine wp_region_lit ?_
                  refine wv (.int .i64 0) ?_
                  (try simp only [Act.put, gA, gS, gZ, sA, sZ, sS])
                  refine wpList_nil ?_
                  go_upto_region 36 with fail
                  refine wp_region_lit ?_
                  refine wv (.bool true) ?_
                  (try simp only [Act.put, gA, gS, gZ, sA, sZ, sS])
                  refine wpList_nil ?_
                  obtain ⟨s15q, s15c, s15e, -, -⟩ := SrcB.shape K14.out.a.2.1
                  have s15h := Lib.hid s15e
                  clear s15e
                  go_upto_region 37 with fail
                  refine wp_region_lit ?_
                  refine wv (.pointer (some ⟨b11, 1, none⟩)) ?_
                  (try simp only [Act.put, gA, gS, gZ, sA, sZ, sS])
                  refine wv (.int .i64 0) ?_ (hrun := by have q : wz.cell? ⟨b11, 1, none⟩ = some (.int .i64 0) := K14.out.cell (i := 1) rfl (by rfl); go_simp)
                  (try simp only [Act.put, gA, gS, gZ, sA, sZ, sS])
                  refine wv (.pointer (some ⟨b3, 0, none⟩)) ?_
                  (try simp only [Act.put, gA, gS, gZ, sA, sZ, sS])
                  refine wv (.slice s15q ((a ++ [D])).length s15c) ?_ (hrun := by have q : wz.cell? ⟨b3, 0, none⟩ = some (sd) := K14.out.cell (i := 0) rfl (by rfl); rw [s15h.out] at q; go_simp)
                  (try simp only [Act.put, gA, gS, gZ, sA, sZ, sS])
                  refine wv (.int .i64 (((a ++ [D])).length : Nat)) ?_
                  (try simp only [Act.put, gA, gS, gZ, sA, sZ, sS])
                  refine wv (.int .i64 (((a ++ [D])).length : Nat)) ?_
                  (try simp only [Act.put, gA, gS, gZ, sA, sZ, sS])
                  refine wpList_nil ?_
                  go_upto_region 38 with fail
                  have HUN := Lib.hid (show unN 0 ((a ++ [D])) (b) = ((a ++ [D])).length from rfl)
                  refine wp_region_lit ?_
                  refine wv (.pointer (some ⟨g, 0, none⟩)) ?_
                  (try simp only [Act.put, gA, gS, gZ, sA, sZ, sS])
                  refine wl_call 11 #[.pointer (some ⟨g, 0, none⟩)] (by rfl) (by go_simp) (calls_one (up_any K14.out.a.1)) ?_; rintro _ wz ⟨rfl, rfl⟩
                  (try simp only [Act.put, gA, gS, gZ, sA, sZ, sS])
                  refine wv (.bool true) ?_
                  (try simp only [Act.put, gA, gS, gZ, sA, sZ, sS])
                  refine wv (.bool false) ?_
                  (try simp only [Act.put, gA, gS, gZ, sA, sZ, sS])
                  refine wv (.bool false) ?_
                  (try simp only [Act.put, gA, gS, gZ, sA, sZ, sS])
                  refine wv (.pointer (some ⟨g, 0, none⟩)) ?_
                  (try simp only [Act.put, gA, gS, gZ, sA, sZ, sS])
                  refine wv (.pointer (some ⟨b11, 1, none⟩)) ?_
                  (try simp only [Act.put, gA, gS, gZ, sA, sZ, sS])
                  refine wv (.int .i64 0) ?_ (hrun := by have q : wz.cell? ⟨b11, 1, none⟩ = some (.int .i64 0) := K14.out.cell (i := 1) rfl (by rfl); go_simp)
                  (try simp only [Act.put, gA, gS, gZ, sA, sZ, sS])
                  refine wl_call 12 #[.pointer (some ⟨g, 0, none⟩), .int .i64 0] (by rfl) (by go_simp) (calls_one (under_any K14.out.a.1 0)) ?_; rintro _ wz ⟨rfl, rfl⟩
                  rw [HUN.out]
                  (try simp only [Act.put, gA, gS, gZ, sA, sZ, sS])
                  refine wv (.int .i64 (((a ++ [D])).length : Nat)) ?_
                  (try simp only [Act.put, gA, gS, gZ, sA, sZ, sS])
                  refine wv (.bool false) ?_
                  (try simp only [Act.put, gA, gS, gZ, sA, sZ, sS])
                  refine wv (.bool false) ?_
                  (try simp only [Act.put, gA, gS, gZ, sA, sZ, sS])
                  refine wpList_nil ?_
                  have LN := Lib.hid (show LS w1 g b3 true ((a ++ [D])) (b) wz from ⟨sd, v1, KL.left (l := [(b3, #[sd, v1], 27)]) (r := [(b11, #[.int .u8 (wh : Nat), .int .i64 0, .string da, .bool xu], 29)]) ⟨_, _, K14.out, D14.out⟩⟩)
                  go_wp2_with fail
                  go_roundw
                  case measure => have := HLT.out; simp only [intOf]; omega
                  case rel => exact ⟨k + 1, true, (a ++ [D]), b, by have := HLT.out; omega, by have := HLT.out; omega, by have := HLA.out; (try simp only [List.length_append, List.length_cons, List.length_nil] at this ⊢); omega, by have := HLB.out; (try simp only [List.length_append, List.length_cons, List.length_nil] at this ⊢); omega, rfl, by go_simp, LN.out⟩
      · by_cases e1 : fr = 1
        · subst e1
          clear y2 y3 e0
          go_upto_region 10 with fail
          refine wp_region_lit ?_
          refine wv (.pointer (some ⟨b11, 1, none⟩)) ?_
          (try simp only [Act.put, gA, gS, gZ, sA, sZ, sS])
          refine wv (.int .i64 1) ?_ (hrun := by have q : w12.cell? ⟨b11, 1, none⟩ = some (.int .i64 1) := K12.out.cell (i := 1) rfl (by rfl); go_simp)
          (try simp only [Act.put, gA, gS, gZ, sA, sZ, sS])
          refine wv (.bool false) ?_
          (try simp only [Act.put, gA, gS, gZ, sA, sZ, sS])
          refine wv (.bool false) ?_
          (try simp only [Act.put, gA, gS, gZ, sA, sZ, sS])
          refine wv (.pointer (some ⟨b11, 1, none⟩)) ?_
          (try simp only [Act.put, gA, gS, gZ, sA, sZ, sS])
          refine wv (.int .i64 1) ?_ (hrun := by have q : w12.cell? ⟨b11, 1, none⟩ = some (.int .i64 1) := K12.out.cell (i := 1) rfl (by rfl); go_simp)
          (try simp only [Act.put, gA, gS, gZ, sA, sZ, sS])
          refine wv (.bool true) ?_
          (try simp only [Act.put, gA, gS, gZ, sA, sZ, sS])
          refine wv (.bool true) ?_ (hrun := run_pick_no (.tmp 38) (.const (.bool true)) (.tmp 41) _ rfl rfl rfl)
          (try simp only [Act.put, gA, gS, gZ, sA, sZ, sS])
          refine wv (.bool true) ?_
          (try simp only [Act.put, gA, gS, gZ, sA, sZ, sS])
          refine wpList_nil ?_
          go_upto_region 11 with fail
          refine wp_region_lit ?_
          refine wv (.pointer (some ⟨b11, 2, none⟩)) ?_
          (try simp only [Act.put, gA, gS, gZ, sA, sZ, sS])
          refine wv (.string da) ?_ (hrun := by have q : w12.cell? ⟨b11, 2, none⟩ = some (.string da) := K12.out.cell (i := 1) rfl (by rfl); go_simp)
          (try simp only [Act.put, gA, gS, gZ, sA, sZ, sS])
          refine wv (.pointer (some ⟨b11, 2, none⟩)) ?_
          (try simp only [Act.put, gA, gS, gZ, sA, sZ, sS])
          refine wv (.string da) ?_ (hrun := by have q : w12.cell? ⟨b11, 2, none⟩ = some (.string da) := K12.out.cell (i := 1) rfl (by rfl); go_simp)
          (try simp only [Act.put, gA, gS, gZ, sA, sZ, sS])
          refine wv (.int .i64 (da.size : Nat)) ?_
          (try simp only [Act.put, gA, gS, gZ, sA, sZ, sS])
          refine wv (.int .i64 (dn : Nat)) ?_ (hrun := by have q := HDN.out; go_simp; try omega)
          (try simp only [Act.put, gA, gS, gZ, sA, sZ, sS])
          refine wv (.string D) ?_ (hrun := by have q := HD.out; go_simp <;> (intro hz; exfalso; omega))
          (try simp only [Act.put, gA, gS, gZ, sA, sZ, sS])
          refine wv (.string D) ?_
          (try simp only [Act.put, gA, gS, gZ, sA, sZ, sS])
          refine wpList_nil ?_
          go_upto_region 12 with fail
          refine wp_region_lit ?_
          refine wv (.pointer (some ⟨b11, 0, none⟩)) ?_
          (try simp only [Act.put, gA, gS, gZ, sA, sZ, sS])
          refine wv (.int .u8 (wh : Nat)) ?_ (hrun := by have q : w12.cell? ⟨b11, 0, none⟩ = some (.int .u8 (wh : Nat)) := K12.out.cell (i := 1) rfl (by rfl); go_simp)
          (try simp only [Act.put, gA, gS, gZ, sA, sZ, sS])
          refine wv (.int .u8 (r : Nat)) ?_ (hrun := by go_simp; rw [Int.tmod_eq_emod_of_nonneg (by omega)]; have q := HR.out; omega)
          (try simp only [Act.put, gA, gS, gZ, sA, sZ, sS])
          refine wpList_nil ?_
          by_cases r3 : r = 3
          case pos => as_aux_lemma =>
            subst r3
            go_upto_region 17 with fail
            refine wp_region_lit ?_
            refine wv (.bool true) ?_
            (try simp only [Act.put, gA, gS, gZ, sA, sZ, sS])
            refine wv (.bool true) ?_
            (try simp only [Act.put, gA, gS, gZ, sA, sZ, sS])
            refine wpList_nil ?_
            cases b
            case nil => as_aux_lemma =>
              obtain ⟨sq, sc, se, -, -⟩ := SH1.out
              have SE := Lib.hid (show v1 = .slice sq 0 sc from se)
              clear se
              go_upto_region 19 with fail
              refine wp_region_quiet (C := fun W => Kx w1 [(b3, #[v0, v1], 27), (b11, #[.int .u8 (wh : Nat), .int .i64 1, .string da, .bool xu], 29)] ((bdL w1.heap.size g up u0 u1 a []).and ((bdS v0 a).and (bdS v1 []))) W) (by kernel_rfl) (by kernel_rfl) K12.out.drew ?_
              refine qv (.bool true) ?_
              (try simp only [Act.put, gA, gS, gZ, sA, sZ, sS])
              refine qv (.bool true) ?_
              (try simp only [Act.put, gA, gS, gZ, sA, sZ, sS])
              refine qv (.pointer (some ⟨b11, 1, none⟩)) ?_
              (try simp only [Act.put, gA, gS, gZ, sA, sZ, sS])
              refine qv (.int .i64 1) ?_ (hv := fun wv hC => by have q : wv.cell? ⟨b11, 1, none⟩ = some (.int .i64 1) := hC.cell (i := 1) rfl (by rfl); go_simp)
              (try simp only [Act.put, gA, gS, gZ, sA, sZ, sS])
              refine qv (.int .i64 1) ?_ (hv := fun wv hC => by go_simp; rfl)
              (try simp only [Act.put, gA, gS, gZ, sA, sZ, sS])
              refine qv (.pointer (some ⟨b3, 1, none⟩)) ?_
              (try simp only [Act.put, gA, gS, gZ, sA, sZ, sS])
              refine qv (.slice sq 0 sc) ?_ (hv := fun wv hC => by have q : wv.cell? ⟨b3, 1, none⟩ = some (v1) := hC.cell (i := 0) rfl (by rfl); rw [SE.out] at q; go_simp)
              (try simp only [Act.put, gA, gS, gZ, sA, sZ, sS])
              refine qv (.int .i64 0) ?_
              (try simp only [Act.put, gA, gS, gZ, sA, sZ, sS])
              refine qv (.bool false) ?_
              (try simp only [Act.put, gA, gS, gZ, sA, sZ, sS])
              refine qv (.bool false) ?_ (hv := fun wv hC => run_pick_yes (.tmp 83) (.tmp 90) (.const (.bool false)) _ rfl rfl rfl)
              (try simp only [Act.put, gA, gS, gZ, sA, sZ, sS])
              refine qv (.string ⟨#[]⟩) ?_
              (try simp only [Act.put, gA, gS, gZ, sA, sZ, sS])
              refine qv (.bool false) ?_
              (try simp only [Act.put, gA, gS, gZ, sA, sZ, sS])
              refine wpQuiet_nil ?_
              intro w13 hC
              have K13 := Lib.hid (show Kx w1 [(b3, #[v0, v1], 27), (b11, #[.int .u8 (wh : Nat), .int .i64 1, .string da, .bool xu], 29)] ((bdL w1.heap.size g up u0 u1 a []).and ((bdS v0 a).and (bdS v1 []))) w13 from hC)
              clear hC
              go_upto_region 20 with fail
              refine wp_region_lit ?_
              refine wv (.bool false) ?_
              (try simp only [Act.put, gA, gS, gZ, sA, sZ, sS])
              refine wpList_nil ?_
              go_upto_region 23 with fail
              refine wp_region_lit ?_
              refine wv (.pointer (some ⟨b11, 0, none⟩)) ?_
              (try simp only [Act.put, gA, gS, gZ, sA, sZ, sS])
              refine wv (.int .u8 (wh : Nat)) ?_ (hrun := by have q : w13.cell? ⟨b11, 0, none⟩ = some (.int .u8 (wh : Nat)) := K13.out.cell (i := 1) rfl (by rfl); go_simp)
              (try simp only [Act.put, gA, gS, gZ, sA, sZ, sS])
              refine wv (.int .u8 3) ?_ (hrun := by go_simp; rw [Int.tmod_eq_emod_of_nonneg (by omega)]; have q := HR.out; omega)
              (try simp only [Act.put, gA, gS, gZ, sA, sZ, sS])
              refine wv (.bool false) ?_
              (try simp only [Act.put, gA, gS, gZ, sA, sZ, sS])
              refine wpList_nil ?_
              go_upto_region 26 with fail
              refine wp_region_lit ?_
              refine wv (.pointer (some ⟨g, 0, none⟩)) ?_
              (try simp only [Act.put, gA, gS, gZ, sA, sZ, sS])
              refine wv (.pointer (some ⟨b11, 1, none⟩)) ?_
              (try simp only [Act.put, gA, gS, gZ, sA, sZ, sS])
              refine wv (.int .i64 1) ?_ (hrun := by have q : w13.cell? ⟨b11, 1, none⟩ = some (.int .i64 1) := K13.out.cell (i := 1) rfl (by rfl); go_simp)
              (try simp only [Act.put, gA, gS, gZ, sA, sZ, sS])
              refine wl_call 8 #[.pointer (some ⟨g, 0, none⟩), .int .i64 1] (by rfl) (by go_simp) (calls_one (come_no K13.out.a.1 1 rfl)) ?_
              rintro _ w13 ⟨rfl, rfl⟩
              (try simp only [Act.put, gA, gS, gZ, sA, sZ, sS])
              refine wv (.tuple #[.string ⟨#[]⟩, .bool false]) ?_
              (try simp only [Act.put, gA, gS, gZ, sA, sZ, sS])
              refine wv (.string ⟨#[]⟩) ?_
              (try simp only [Act.put, gA, gS, gZ, sA, sZ, sS])
              refine wv (.bool false) ?_
              (try simp only [Act.put, gA, gS, gZ, sA, sZ, sS])
              refine wv (.string ⟨#[]⟩) ?_
              (try simp only [Act.put, gA, gS, gZ, sA, sZ, sS])
              refine wv (.bool false) ?_
              (try simp only [Act.put, gA, gS, gZ, sA, sZ, sS])
              refine wpList_nil ?_
              go_upto_region 27 with fail
              refine wp_region_lit ?_
              refine wv (.string ⟨#[]⟩) ?_
              (try simp only [Act.put, gA, gS, gZ, sA, sZ, sS])
              refine wv (.string ⟨#[]⟩) ?_
              (try simp only [Act.put, gA, gS, gZ, sA, sZ, sS])
              refine wv (.bool false) ?_ (hrun := by go_simp)
              (try simp only [Act.put, gA, gS, gZ, sA, sZ, sS])
              refine wv (.bool false) ?_
              (try simp only [Act.put, gA, gS, gZ, sA, sZ, sS])
              refine wv (.bool false) ?_
              (try simp only [Act.put, gA, gS, gZ, sA, sZ, sS])
              refine wv (.bool false) ?_
              (try simp only [Act.put, gA, gS, gZ, sA, sZ, sS])
              refine wv (.bool false) ?_
              (try simp only [Act.put, gA, gS, gZ, sA, sZ, sS])
              refine wv (.bool false) ?_
              (try simp only [Act.put, gA, gS, gZ, sA, sZ, sS])
              refine wpList_nil ?_
              go_upto_region 35 with fail
              refine wp_region_lit ?_
              refine wv (.int .i64 0) ?_
              (try simp only [Act.put, gA, gS, gZ, sA, sZ, sS])
              refine wpList_nil ?_
              go_upto_region 36 with fail
              refine wp_region_lit ?_
              refine wv (.bool true) ?_
              (try simp only [Act.put, gA, gS, gZ, sA, sZ, sS])
              refine wpList_nil ?_
              obtain ⟨s15q, s15c, s15e, -, -⟩ := SrcB.shape K13.out.a.2.2
              have s15h := Lib.hid s15e
              clear s15e
              go_upto_region 37 with fail
              refine wp_region_lit ?_
              refine wv (.pointer (some ⟨b11, 1, none⟩)) ?_
              (try simp only [Act.put, gA, gS, gZ, sA, sZ, sS])
              refine wv (.int .i64 1) ?_ (hrun := by have q : w13.cell? ⟨b11, 1, none⟩ = some (.int .i64 1) := K13.out.cell (i := 1) rfl (by rfl); go_simp)
              (try simp only [Act.put, gA, gS, gZ, sA, sZ, sS])
              refine wv (.pointer (some ⟨b3, 1, none⟩)) ?_
              (try simp only [Act.put, gA, gS, gZ, sA, sZ, sS])
              refine wv (.slice s15q (([] : List ByteArray)).length s15c) ?_ (hrun := by have q : w13.cell? ⟨b3, 1, none⟩ = some (v1) := K13.out.cell (i := 0) rfl (by rfl); rw [s15h.out] at q; go_simp)
              (try simp only [Act.put, gA, gS, gZ, sA, sZ, sS])
              refine wv (.int .i64 ((([] : List ByteArray)).length : Nat)) ?_
              (try simp only [Act.put, gA, gS, gZ, sA, sZ, sS])
              refine wv (.int .i64 ((([] : List ByteArray)).length : Nat)) ?_
              (try simp only [Act.put, gA, gS, gZ, sA, sZ, sS])
              refine wpList_nil ?_
              go_upto_region 38 with fail
              have HUN := Lib.hid (show unN 1 (a) (([] : List ByteArray)) = (([] : List ByteArray)).length from rfl)
              refine wp_region_lit ?_
              refine wv (.pointer (some ⟨g, 0, none⟩)) ?_
              (try simp only [Act.put, gA, gS, gZ, sA, sZ, sS])
              refine wl_call 11 #[.pointer (some ⟨g, 0, none⟩)] (by rfl) (by go_simp) (calls_one (up_any K13.out.a.1)) ?_; rintro _ w13 ⟨rfl, rfl⟩
              (try simp only [Act.put, gA, gS, gZ, sA, sZ, sS])
              refine wv (.bool up) ?_
              (try simp only [Act.put, gA, gS, gZ, sA, sZ, sS])
              refine wv (.bool false) ?_
              (try simp only [Act.put, gA, gS, gZ, sA, sZ, sS])
              refine wv (.bool false) ?_
              (try simp only [Act.put, gA, gS, gZ, sA, sZ, sS])
              refine wv (.pointer (some ⟨g, 0, none⟩)) ?_
              (try simp only [Act.put, gA, gS, gZ, sA, sZ, sS])
              refine wv (.pointer (some ⟨b11, 1, none⟩)) ?_
              (try simp only [Act.put, gA, gS, gZ, sA, sZ, sS])
              refine wv (.int .i64 1) ?_ (hrun := by have q : w13.cell? ⟨b11, 1, none⟩ = some (.int .i64 1) := K13.out.cell (i := 1) rfl (by rfl); go_simp)
              (try simp only [Act.put, gA, gS, gZ, sA, sZ, sS])
              refine wl_call 12 #[.pointer (some ⟨g, 0, none⟩), .int .i64 1] (by rfl) (by go_simp) (calls_one (under_any K13.out.a.1 1)) ?_; rintro _ w13 ⟨rfl, rfl⟩
              rw [HUN.out]
              (try simp only [Act.put, gA, gS, gZ, sA, sZ, sS])
              refine wv (.int .i64 ((([] : List ByteArray)).length : Nat)) ?_
              (try simp only [Act.put, gA, gS, gZ, sA, sZ, sS])
              refine wv (.bool false) ?_
              (try simp only [Act.put, gA, gS, gZ, sA, sZ, sS])
              refine wv (.bool false) ?_
              (try simp only [Act.put, gA, gS, gZ, sA, sZ, sS])
              refine wpList_nil ?_
              have LN := Lib.hid (show LS w1 g b3 up (a) (([] : List ByteArray)) w13 from ⟨v0, v1, KL.left (l := [(b3, #[v0, v1], 27)]) (r := [(b11, #[.int .u8 (wh : Nat), .int .i64 1, .string da, .bool xu], 29)]) ⟨_, _, K13.out, D10.out⟩⟩)
              go_wp2_with fail
              go_roundw
              case measure => have := HLT.out; simp only [intOf]; omega
              case rel => exact ⟨k + 1, up, a, ([] : List ByteArray), by have := HLT.out; omega, by have := HLT.out; omega, by have := HLA.out; (try simp only [List.length_append, List.length_cons, List.length_nil] at this ⊢); omega, by have := HLB.out; (try simp only [List.length_append, List.length_cons, List.length_nil] at this ⊢); omega, rfl, by go_simp, LN.out⟩
            case cons sx ra => as_aux_lemma =>
              obtain ⟨SG, so, sc, se, h1, h2, h3, h4⟩ := SrcB.cons K12.out.a.2.2
              have SF := Lib.hid (show ∀ W, SrcB W v1 (sx :: ra) → SrcB W (.slice (if sc = 1 then some ⟨SG, so, none⟩ else some ⟨SG, so + 1, none⟩) ra.length (sc - 1)) ra from fun W h => by
                obtain ⟨G2, o2, c2, e2, -, -, -, q⟩ := SrcB.cons h
                rw [se] at e2; cases e2; exact q)
              have SE := Lib.hid se
              have S1 := Lib.hid h1
              have S2 := Lib.hid h2
              have S4 := Lib.hid h4
              have S3 := Lib.hid (show ∀ W, SrcB W v1 (sx :: ra) → W.cell? ⟨SG, so, none⟩ = some (.string sx) from fun W h => by
                obtain ⟨G2, o2, c2, e2, -, -, q, -⟩ := SrcB.cons h
                rw [se] at e2; cases e2; exact q)
              obtain ⟨sn, hsn⟩ : ∃ sn, sn = ra.length := ⟨_, rfl⟩
              have SN := Lib.hid hsn
              rw [← hsn] at SE S1 S4 SF
              have z1 : (0 : Int) ≤ (sn : Int) := by omega
              have z2 : ¬ ((sn : Int) + 1 ≤ 0) := by omega
              have z3 : (sn : Int) + 1 ≤ (sc : Int) := by have := S1.out; omega
              have z4 : (sc : Int) ≤ 9223372036854775807 := by have := S2.out; unfold maxLen at this; omega
              clear se h1 h2 h3 h4 hsn
              go_upto_region 19 with fail
              refine wp_region_quiet (C := fun W => Kx w1 [(b3, #[v0, v1], 27), (b11, #[.int .u8 (wh : Nat), .int .i64 1, .string da, .bool xu], 29)] ((bdL w1.heap.size g up u0 u1 a (sx :: ra)).and ((bdS v0 a).and (bdS v1 (sx :: ra)))) W) (by kernel_rfl) (by kernel_rfl) K12.out.drew ?_
              refine qv (.bool true) ?_
              (try simp only [Act.put, gA, gS, gZ, sA, sZ, sS])
              refine qv (.bool true) ?_
              (try simp only [Act.put, gA, gS, gZ, sA, sZ, sS])
              refine qv (.pointer (some ⟨b11, 1, none⟩)) ?_
              (try simp only [Act.put, gA, gS, gZ, sA, sZ, sS])
              refine qv (.int .i64 1) ?_ (hv := fun wv hC => by have q : wv.cell? ⟨b11, 1, none⟩ = some (.int .i64 1) := hC.cell (i := 1) rfl (by rfl); go_simp)
              (try simp only [Act.put, gA, gS, gZ, sA, sZ, sS])
              refine qv (.int .i64 1) ?_ (hv := fun wv hC => by go_simp; rfl)
              (try simp only [Act.put, gA, gS, gZ, sA, sZ, sS])
              refine qv (.pointer (some ⟨b3, 1, none⟩)) ?_
              (try simp only [Act.put, gA, gS, gZ, sA, sZ, sS])
              refine qv (.slice (some ⟨SG, so, none⟩) (sn + 1) sc) ?_ (hv := fun wv hC => by have q : wv.cell? ⟨b3, 1, none⟩ = some (v1) := hC.cell (i := 0) rfl (by rfl); rw [SE.out] at q; go_simp)
              (try simp only [Act.put, gA, gS, gZ, sA, sZ, sS])
              refine qv (.int .i64 ((sn : Int) + 1)) ?_
              (try simp only [Act.put, gA, gS, gZ, sA, sZ, sS])
              refine qv (.bool true) ?_ (hv := fun wv hC => by go_simp; try omega)
              (try simp only [Act.put, gA, gS, gZ, sA, sZ, sS])
              refine qv (.bool true) ?_ (hv := fun wv hC => run_pick_yes (.tmp 83) (.tmp 90) (.const (.bool false)) _ rfl rfl rfl)
              (try simp only [Act.put, gA, gS, gZ, sA, sZ, sS])
              refine qv (.string ⟨#[]⟩) ?_
              (try simp only [Act.put, gA, gS, gZ, sA, sZ, sS])
              refine qv (.bool true) ?_
              (try simp only [Act.put, gA, gS, gZ, sA, sZ, sS])
              refine wpQuiet_nil ?_
              intro w13 hC
              have K13 := Lib.hid (show Kx w1 [(b3, #[v0, v1], 27), (b11, #[.int .u8 (wh : Nat), .int .i64 1, .string da, .bool xu], 29)] ((bdL w1.heap.size g up u0 u1 a (sx :: ra)).and ((bdS v0 a).and (bdS v1 (sx :: ra)))) w13 from hC)
              clear hC
              go_upto_region 20 with fail
              refine wp_region_lit ?_
              refine wv (.bool true) ?_
              (try simp only [Act.put, gA, gS, gZ, sA, sZ, sS])
              refine wpList_nil ?_
              go_upto_region 21 with fail
              refine wp_region_lit ?_
              refine wv (.pointer (some ⟨b11, 1, none⟩)) ?_
              (try simp only [Act.put, gA, gS, gZ, sA, sZ, sS])
              refine wv (.int .i64 1) ?_ (hrun := by have q : w13.cell? ⟨b11, 1, none⟩ = some (.int .i64 1) := K13.out.cell (i := 1) rfl (by rfl); go_simp)
              (try simp only [Act.put, gA, gS, gZ, sA, sZ, sS])
              refine wv (.pointer (some ⟨b3, 1, none⟩)) ?_
              (try simp only [Act.put, gA, gS, gZ, sA, sZ, sS])
              refine wv (.slice (some ⟨SG, so, none⟩) (sn + 1) sc) ?_ (hrun := by have q : w13.cell? ⟨b3, 1, none⟩ = some (v1) := K13.out.cell (i := 0) rfl (by rfl); rw [SE.out] at q; go_simp)
              (try simp only [Act.put, gA, gS, gZ, sA, sZ, sS])
              refine wv (.pointer (some ⟨SG, so, none⟩)) ?_ (hrun := by go_simp <;> (intro hz; exfalso; omega))
              (try simp only [Act.put, gA, gS, gZ, sA, sZ, sS])
              refine wv (.string sx) ?_ (hrun := by have q := S3.out _ K13.out.a.2.2; go_simp)
              (try simp only [Act.put, gA, gS, gZ, sA, sZ, sS])
              refine wv (.string sx) ?_
              (try simp only [Act.put, gA, gS, gZ, sA, sZ, sS])
              refine wpList_nil ?_
              go_upto_region 22 with fail
              refine rk (fun (_ : Unit) => [.pointer (some ⟨b11, 1, none⟩), .int .i64 1, .pointer (some ⟨b11, 1, none⟩), .int .i64 1, .pointer (some ⟨b3, 1, none⟩), .slice (some ⟨SG, so, none⟩) (sn + 1) sc, .slice (if sc = 1 then some ⟨SG, so, none⟩ else some ⟨SG, so + 1, none⟩) sn (sc - 1), .pointer (some ⟨b3, 1, none⟩), undef]) (fun _ Lx w' => (Lx 8 = false ∧ Kx w1 [(b3, #[v0, v1], 27), (b11, #[.int .u8 (wh : Nat), .int .i64 1, .string da, .bool xu], 29)] ((bdL w1.heap.size g up u0 u1 a (sx :: ra)).and ((bdS v0 a).and (bdS v1 (sx :: ra)))) w') ∨ (Lx 8 = true ∧ Kx w1 [(b3, #[v0, (.slice (if sc = 1 then some ⟨SG, so, none⟩ else some ⟨SG, so + 1, none⟩) sn (sc - 1))], 27), (b11, #[.int .u8 (wh : Nat), .int .i64 1, .string da, .bool xu], 29)] ((bdL w1.heap.size g up u0 u1 a (sx :: ra)).and ((bdS v0 a).and (bdS v1 (sx :: ra)))) w')) (()) [] [] [(1, fun _ => [(99, .pointer (some ⟨b11, 1, none⟩))]), (3, fun _ => [(101, .pointer (some ⟨b11, 1, none⟩))]), (5, fun _ => [(103, .pointer (some ⟨b3, 1, none⟩))]), (6, fun _ => [(104, .slice (some ⟨SG, so, none⟩) (sn + 1) sc)]), (8, fun _ => [(106, .pointer (some ⟨b3, 1, none⟩)), (105, .slice (if sc = 1 then some ⟨SG, so, none⟩ else some ⟨SG, so + 1, none⟩) sn (sc - 1))])] [8] ?_ ?_ ?_ ?_ ?_
              · exact .inl ⟨rfl, K13.out.drew⟩
              · intro s L w' h; exact trivial
              · intro s L1 L2 w' e h; (try dsimp only at h ⊢); rw [← e 8 (by simp)]; exact h
              · refine ⟨?_, ?_, ?_, ?_, ?_, trivial⟩ <;> (rintro s Lx w' hw hL haft hdc ρ hc hf hG hs o ho; cases ho; try dsimp only [seen] at hw hs)
                · obtain ⟨e99, -⟩ := hs
                  rcases hw with ⟨h8, hw⟩ | ⟨h8, -⟩
                  case inr => exact absurd (hdc 8 h8 1 (by decide)) (by rw [hL]; decide)
                  exact sw (.int .i64 1) (by have q : w'.cell? ⟨b11, 1, none⟩ = some (.int .i64 1) := Kx.cell (i := 1) hw rfl (by rfl); go_simp) ⟨s, fun _ _ => rfl, rfl, .inl ⟨h8, hw⟩⟩
                · obtain ⟨e101, -⟩ := hs
                  rcases hw with ⟨h8, hw⟩ | ⟨h8, -⟩
                  case inr => exact absurd (hdc 8 h8 3 (by decide)) (by rw [hL]; decide)
                  exact sw (.int .i64 1) (by have q : w'.cell? ⟨b11, 1, none⟩ = some (.int .i64 1) := Kx.cell (i := 1) hw rfl (by rfl); go_simp) ⟨s, fun _ _ => rfl, rfl, .inl ⟨h8, hw⟩⟩
                · obtain ⟨e103, -⟩ := hs
                  rcases hw with ⟨h8, hw⟩ | ⟨h8, -⟩
                  case inr => exact absurd (hdc 8 h8 5 (by decide)) (by rw [hL]; decide)
                  exact sw (.slice (some ⟨SG, so, none⟩) (sn + 1) sc) (by have q : w'.cell? ⟨b3, 1, none⟩ = some (.slice (some ⟨SG, so, none⟩) (sn + 1) sc) := (by rw [← SE.out]; exact Kx.cell (i := 0) hw rfl (by rfl)); go_simp) ⟨s, fun _ _ => rfl, rfl, .inl ⟨h8, hw⟩⟩
                · obtain ⟨e104, -⟩ := hs
                  exact sw (w' := w') (.slice (if sc = 1 then some ⟨SG, so, none⟩ else some ⟨SG, so + 1, none⟩) sn (sc - 1)) (by have z5 : (1 : Int) ≤ (sn : Int) + 1 := (by omega); go_simp) ⟨s, fun _ _ => rfl, rfl, by simpa [upd] using hw⟩
                · obtain ⟨e106, e105, -⟩ := hs
                  rcases hw with ⟨h8, hw⟩ | ⟨h8, -⟩
                  case inr => rw [hL] at h8; cases h8
                  exact ss 26 (.tmp 106) (.tmp 105) rfl ⟨b3, 1, none⟩ (.slice (if sc = 1 then some ⟨SG, so, none⟩ else some ⟨SG, so + 1, none⟩) sn (sc - 1)) e106 e105 (kx_run_set hw (i := 0) rfl 26 1 (v1) (.slice (if sc = 1 then some ⟨SG, so, none⟩ else some ⟨SG, so + 1, none⟩) sn (sc - 1)) (by rfl) (fun W h1 h2 => by go_simp)) ⟨s, fun _ _ => rfl, rfl, .inr ⟨rfl, kx_cast (Kx.set hw (i := 0) rfl 1 (.slice (if sc = 1 then some ⟨SG, so, none⟩ else some ⟨SG, so + 1, none⟩) sn (sc - 1))) rfl⟩⟩
              · rintro s Lx w14 hw hall
                rcases hw with ⟨h8, -⟩ | ⟨-, hw⟩
                case inl => rw [hall 8 (by decide)] at h8; cases h8
                simp only [List.toList_toArray, putsZ_some, putsZ_none, putsZ_nil, List.setIfInBounds_toArray, List.set_cons_zero, List.set_cons_succ]
                have BO : ∀ k, (.slice (if sc = 1 then some ⟨SG, so, none⟩ else some ⟨SG, so + 1, none⟩) sn (sc - 1) : Value).ownBlock = some k → (v1 : Value).ownBlock = some k := fun k q => by rw [SE.out]; by_cases hc : sc = 1 <;> simp [hc, Value.ownBlock] at q ⊢ <;> exact q
                have K14 := Lib.hid (show Kx w1 [(b3, #[v0, (.slice (if sc = 1 then some ⟨SG, so, none⟩ else some ⟨SG, so + 1, none⟩) sn (sc - 1))], 27), (b11, #[.int .u8 (wh : Nat), .int .i64 1, .string da, .bool xu], 29)] ((bdL w1.heap.size g up u0 u1 a (sx :: ra)).and ((bdS v0 a).and (bdS (.slice (if sc = 1 then some ⟨SG, so, none⟩ else some ⟨SG, so + 1, none⟩) sn (sc - 1)) ra))) w14 from hw.turn (fun h => ⟨h.1, h.2.1, SF.out _ h.2.2⟩) (fun k q => by rcases q with q | q | q; exact .inl q; exact .inr (.inl q); exact .inr (.inr (BO k q))))
                have D14 := Lib.hid (show ∀ k, ((bdS v0 a).and (bdS (.slice (if sc = 1 then some ⟨SG, so, none⟩ else some ⟨SG, so + 1, none⟩) sn (sc - 1)) ra)).f k → ¬ lkF g u0 u1 k from fun k q => D10.out k (by rcases q with q | q; exact .inl q; exact .inr (BO k q)))
                clear hw hall BO
                go_upto_region 23 with fail
                refine wp_region_lit ?_
                refine wv (.pointer (some ⟨b11, 0, none⟩)) ?_
                (try simp only [Act.put, gA, gS, gZ, sA, sZ, sS])
                refine wv (.int .u8 (wh : Nat)) ?_ (hrun := by have q : w14.cell? ⟨b11, 0, none⟩ = some (.int .u8 (wh : Nat)) := K14.out.cell (i := 1) rfl (by rfl); go_simp)
                (try simp only [Act.put, gA, gS, gZ, sA, sZ, sS])
                refine wv (.int .u8 3) ?_ (hrun := by go_simp; rw [Int.tmod_eq_emod_of_nonneg (by omega)]; have q := HR.out; omega)
                (try simp only [Act.put, gA, gS, gZ, sA, sZ, sS])
                refine wv (.bool false) ?_
                (try simp only [Act.put, gA, gS, gZ, sA, sZ, sS])
                refine wpList_nil ?_
                go_upto_region 26 with fail
                refine wp_region_lit ?_
                refine wv (.pointer (some ⟨g, 0, none⟩)) ?_
                (try simp only [Act.put, gA, gS, gZ, sA, sZ, sS])
                refine wv (.pointer (some ⟨b11, 1, none⟩)) ?_
                (try simp only [Act.put, gA, gS, gZ, sA, sZ, sS])
                refine wv (.int .i64 1) ?_ (hrun := by have q : w14.cell? ⟨b11, 1, none⟩ = some (.int .i64 1) := K14.out.cell (i := 1) rfl (by rfl); go_simp)
                (try simp only [Act.put, gA, gS, gZ, sA, sZ, sS])
                refine wl_call 8 #[.pointer (some ⟨g, 0, none⟩), .int .i64 1] (by rfl) (by go_simp) (calls_one (come_yes1 K14.out.a.1 (by have := HLB.out; have := HLT.out; simp only [List.length_cons] at *; omega))) ?_
                rintro _ w15 ⟨rfl, p15, q15, hR⟩
                (try simp only [Act.put, gA, gS, gZ, sA, sZ, sS])
                have K15x := KL.of K14.out D14.out hR
                obtain ⟨u15a, u15b, hK, hD⟩ := K15x.ex
                have K15 := Lib.hid (show Kx w1 [(b3, #[v0, (.slice (if sc = 1 then some ⟨SG, so, none⟩ else some ⟨SG, so + 1, none⟩) sn (sc - 1))], 27), (b11, #[.int .u8 (wh : Nat), .int .i64 1, .string da, .bool xu], 29)] ((bdL w1.heap.size g up u15a u15b a ra).and ((bdS (v0) a).and (bdS ((.slice (if sc = 1 then some ⟨SG, so, none⟩ else some ⟨SG, so + 1, none⟩) sn (sc - 1))) ra))) w15 from hK)
                have D15 := Lib.hid hD
                clear hK hD hR K15x
                refine wv (.tuple #[.string sx, .bool true]) ?_
                (try simp only [Act.put, gA, gS, gZ, sA, sZ, sS])
                refine wv (.string sx) ?_
                (try simp only [Act.put, gA, gS, gZ, sA, sZ, sS])
                refine wv (.bool true) ?_
                (try simp only [Act.put, gA, gS, gZ, sA, sZ, sS])
                refine wv (.string sx) ?_
                (try simp only [Act.put, gA, gS, gZ, sA, sZ, sS])
                refine wv (.bool true) ?_
                (try simp only [Act.put, gA, gS, gZ, sA, sZ, sS])
                refine wpList_nil ?_
                go_upto_region 27 with fail
                refine wp_region_lit ?_
                refine wv (.string sx) ?_
                (try simp only [Act.put, gA, gS, gZ, sA, sZ, sS])
                refine wv (.string sx) ?_
                (try simp only [Act.put, gA, gS, gZ, sA, sZ, sS])
                refine wv (.bool false) ?_ (hrun := by go_simp)
                (try simp only [Act.put, gA, gS, gZ, sA, sZ, sS])
                refine wv (.bool false) ?_
                (try simp only [Act.put, gA, gS, gZ, sA, sZ, sS])
                refine wv (.bool true) ?_
                (try simp only [Act.put, gA, gS, gZ, sA, sZ, sS])
                refine wv (.bool true) ?_
                (try simp only [Act.put, gA, gS, gZ, sA, sZ, sS])
                refine wv (.bool false) ?_
                (try simp only [Act.put, gA, gS, gZ, sA, sZ, sS])
                refine wv (.bool false) ?_
                (try simp only [Act.put, gA, gS, gZ, sA, sZ, sS])
                refine wpList_nil ?_
                go_upto_region 35 with fail
                refine wp_region_lit ?_
                refine wv (.int .i64 0) ?_
                (try simp only [Act.put, gA, gS, gZ, sA, sZ, sS])
                refine wpList_nil ?_
                go_upto_region 36 with fail
                refine wp_region_lit ?_
                refine wv (.bool true) ?_
                (try simp only [Act.put, gA, gS, gZ, sA, sZ, sS])
                refine wpList_nil ?_
                obtain ⟨s16q, s16c, s16e, -, -⟩ := SrcB.shape K15.out.a.2.2
                have s16h := Lib.hid s16e
                clear s16e
                go_upto_region 37 with fail
                refine wp_region_lit ?_
                refine wv (.pointer (some ⟨b11, 1, none⟩)) ?_
                (try simp only [Act.put, gA, gS, gZ, sA, sZ, sS])
                refine wv (.int .i64 1) ?_ (hrun := by have q : w15.cell? ⟨b11, 1, none⟩ = some (.int .i64 1) := K15.out.cell (i := 1) rfl (by rfl); go_simp)
                (try simp only [Act.put, gA, gS, gZ, sA, sZ, sS])
                refine wv (.pointer (some ⟨b3, 1, none⟩)) ?_
                (try simp only [Act.put, gA, gS, gZ, sA, sZ, sS])
                refine wv (.slice s16q (ra).length s16c) ?_ (hrun := by have q : w15.cell? ⟨b3, 1, none⟩ = some ((.slice (if sc = 1 then some ⟨SG, so, none⟩ else some ⟨SG, so + 1, none⟩) sn (sc - 1))) := K15.out.cell (i := 0) rfl (by rfl); rw [s16h.out] at q; go_simp)
                (try simp only [Act.put, gA, gS, gZ, sA, sZ, sS])
                refine wv (.int .i64 ((ra).length : Nat)) ?_
                (try simp only [Act.put, gA, gS, gZ, sA, sZ, sS])
                refine wv (.int .i64 ((ra).length : Nat)) ?_
                (try simp only [Act.put, gA, gS, gZ, sA, sZ, sS])
                refine wpList_nil ?_
                go_upto_region 38 with fail
                have HUN := Lib.hid (show unN 1 (a) (ra) = (ra).length from rfl)
                refine wp_region_lit ?_
                refine wv (.pointer (some ⟨g, 0, none⟩)) ?_
                (try simp only [Act.put, gA, gS, gZ, sA, sZ, sS])
                refine wl_call 11 #[.pointer (some ⟨g, 0, none⟩)] (by rfl) (by go_simp) (calls_one (up_any K15.out.a.1)) ?_; rintro _ w15 ⟨rfl, rfl⟩
                (try simp only [Act.put, gA, gS, gZ, sA, sZ, sS])
                refine wv (.bool up) ?_
                (try simp only [Act.put, gA, gS, gZ, sA, sZ, sS])
                refine wv (.bool false) ?_
                (try simp only [Act.put, gA, gS, gZ, sA, sZ, sS])
                refine wv (.bool false) ?_
                (try simp only [Act.put, gA, gS, gZ, sA, sZ, sS])
                refine wv (.pointer (some ⟨g, 0, none⟩)) ?_
                (try simp only [Act.put, gA, gS, gZ, sA, sZ, sS])
                refine wv (.pointer (some ⟨b11, 1, none⟩)) ?_
                (try simp only [Act.put, gA, gS, gZ, sA, sZ, sS])
                refine wv (.int .i64 1) ?_ (hrun := by have q : w15.cell? ⟨b11, 1, none⟩ = some (.int .i64 1) := K15.out.cell (i := 1) rfl (by rfl); go_simp)
                (try simp only [Act.put, gA, gS, gZ, sA, sZ, sS])
                refine wl_call 12 #[.pointer (some ⟨g, 0, none⟩), .int .i64 1] (by rfl) (by go_simp) (calls_one (under_any K15.out.a.1 1)) ?_; rintro _ w15 ⟨rfl, rfl⟩
                rw [HUN.out]
                (try simp only [Act.put, gA, gS, gZ, sA, sZ, sS])
                refine wv (.int .i64 ((ra).length : Nat)) ?_
                (try simp only [Act.put, gA, gS, gZ, sA, sZ, sS])
                refine wv (.bool false) ?_
                (try simp only [Act.put, gA, gS, gZ, sA, sZ, sS])
                refine wv (.bool false) ?_
                (try simp only [Act.put, gA, gS, gZ, sA, sZ, sS])
                refine wpList_nil ?_
                have LN := Lib.hid (show LS w1 g b3 up (a) (ra) w15 from ⟨v0, (.slice (if sc = 1 then some ⟨SG, so, none⟩ else some ⟨SG, so + 1, none⟩) sn (sc - 1)), KL.left (l := [(b3, #[v0, (.slice (if sc = 1 then some ⟨SG, so, none⟩ else some ⟨SG, so + 1, none⟩) sn (sc - 1))], 27)]) (r := [(b11, #[.int .u8 (wh : Nat), .int .i64 1, .string da, .bool xu], 29)]) ⟨_, _, K15.out, D15.out⟩⟩)
                go_wp2_with fail
                go_roundw
                case measure => have := HLT.out; simp only [intOf]; omega
                case rel => exact ⟨k + 1, up, a, ra, by have := HLT.out; omega, by have := HLT.out; omega, by have := HLA.out; (try simp only [List.length_append, List.length_cons, List.length_nil] at this ⊢); omega, by have := HLB.out; (try simp only [List.length_append, List.length_cons, List.length_nil] at this ⊢); omega, rfl, by go_simp, LN.out⟩
          case neg =>
            by_cases r4 : r = 4
            case pos => as_aux_lemma =>
              subst r4
              clear r3
              go_upto_region 17 with fail
              refine wp_region_lit ?_
              refine wv (.bool false) ?_
              (try simp only [Act.put, gA, gS, gZ, sA, sZ, sS])
              refine wv (.bool false) ?_
              (try simp only [Act.put, gA, gS, gZ, sA, sZ, sS])
              refine wpList_nil ?_
              go_upto_region 18 with fail
              refine wp_region_lit ?_
              refine wv (.bool true) ?_
              (try simp only [Act.put, gA, gS, gZ, sA, sZ, sS])
              refine wv (.bool true) ?_
              (try simp only [Act.put, gA, gS, gZ, sA, sZ, sS])
              refine wpList_nil ?_
              cases b
              case nil => as_aux_lemma =>
                obtain ⟨sq, sc, se, -, -⟩ := SH1.out
                have SE := Lib.hid (show v1 = .slice sq 0 sc from se)
                clear se
                go_upto_region 19 with fail
                refine wp_region_quiet (C := fun W => Kx w1 [(b3, #[v0, v1], 27), (b11, #[.int .u8 (wh : Nat), .int .i64 1, .string da, .bool xu], 29)] ((bdL w1.heap.size g up u0 u1 a []).and ((bdS v0 a).and (bdS v1 []))) W) (by kernel_rfl) (by kernel_rfl) K12.out.drew ?_
                refine qv (.bool true) ?_
                (try simp only [Act.put, gA, gS, gZ, sA, sZ, sS])
                refine qv (.bool true) ?_
                (try simp only [Act.put, gA, gS, gZ, sA, sZ, sS])
                refine qv (.pointer (some ⟨b11, 1, none⟩)) ?_
                (try simp only [Act.put, gA, gS, gZ, sA, sZ, sS])
                refine qv (.int .i64 1) ?_ (hv := fun wv hC => by have q : wv.cell? ⟨b11, 1, none⟩ = some (.int .i64 1) := hC.cell (i := 1) rfl (by rfl); go_simp)
                (try simp only [Act.put, gA, gS, gZ, sA, sZ, sS])
                refine qv (.int .i64 1) ?_ (hv := fun wv hC => by go_simp; rfl)
                (try simp only [Act.put, gA, gS, gZ, sA, sZ, sS])
                refine qv (.pointer (some ⟨b3, 1, none⟩)) ?_
                (try simp only [Act.put, gA, gS, gZ, sA, sZ, sS])
                refine qv (.slice sq 0 sc) ?_ (hv := fun wv hC => by have q : wv.cell? ⟨b3, 1, none⟩ = some (v1) := hC.cell (i := 0) rfl (by rfl); rw [SE.out] at q; go_simp)
                (try simp only [Act.put, gA, gS, gZ, sA, sZ, sS])
                refine qv (.int .i64 0) ?_
                (try simp only [Act.put, gA, gS, gZ, sA, sZ, sS])
                refine qv (.bool false) ?_
                (try simp only [Act.put, gA, gS, gZ, sA, sZ, sS])
                refine qv (.bool false) ?_ (hv := fun wv hC => run_pick_yes (.tmp 83) (.tmp 90) (.const (.bool false)) _ rfl rfl rfl)
                (try simp only [Act.put, gA, gS, gZ, sA, sZ, sS])
                refine qv (.string ⟨#[]⟩) ?_
                (try simp only [Act.put, gA, gS, gZ, sA, sZ, sS])
                refine qv (.bool false) ?_
                (try simp only [Act.put, gA, gS, gZ, sA, sZ, sS])
                refine wpQuiet_nil ?_
                intro w13 hC
                have K13 := Lib.hid (show Kx w1 [(b3, #[v0, v1], 27), (b11, #[.int .u8 (wh : Nat), .int .i64 1, .string da, .bool xu], 29)] ((bdL w1.heap.size g up u0 u1 a []).and ((bdS v0 a).and (bdS v1 []))) w13 from hC)
                clear hC
                go_upto_region 20 with fail
                refine wp_region_lit ?_
                refine wv (.bool false) ?_
                (try simp only [Act.put, gA, gS, gZ, sA, sZ, sS])
                refine wpList_nil ?_
                go_upto_region 23 with fail
                refine wp_region_lit ?_
                refine wv (.pointer (some ⟨b11, 0, none⟩)) ?_
                (try simp only [Act.put, gA, gS, gZ, sA, sZ, sS])
                refine wv (.int .u8 (wh : Nat)) ?_ (hrun := by have q : w13.cell? ⟨b11, 0, none⟩ = some (.int .u8 (wh : Nat)) := K13.out.cell (i := 1) rfl (by rfl); go_simp)
                (try simp only [Act.put, gA, gS, gZ, sA, sZ, sS])
                refine wv (.int .u8 4) ?_ (hrun := by go_simp; rw [Int.tmod_eq_emod_of_nonneg (by omega)]; have q := HR.out; omega)
                (try simp only [Act.put, gA, gS, gZ, sA, sZ, sS])
                refine wv (.bool true) ?_
                (try simp only [Act.put, gA, gS, gZ, sA, sZ, sS])
                refine wpList_nil ?_
                go_upto_region 24 with fail
                refine wp_region_lit ?_
                refine wv (.pointer (some ⟨g, 0, none⟩)) ?_
                (try simp only [Act.put, gA, gS, gZ, sA, sZ, sS])
                refine wv (.pointer (some ⟨b11, 1, none⟩)) ?_
                (try simp only [Act.put, gA, gS, gZ, sA, sZ, sS])
                refine wv (.int .i64 1) ?_ (hrun := by have q : w13.cell? ⟨b11, 1, none⟩ = some (.int .i64 1) := K13.out.cell (i := 1) rfl (by rfl); go_simp)
                (try simp only [Act.put, gA, gS, gZ, sA, sZ, sS])
                refine wl_call 7 #[.pointer (some ⟨g, 0, none⟩), .int .i64 1] (by rfl) (by go_simp) (calls_one (lose_any (come_no K13.out.a.1 1 rfl))) ?_
                rintro _ w13 ⟨rfl, rfl⟩
                (try simp only [Act.put, gA, gS, gZ, sA, sZ, sS])
                refine wv (.bool false) ?_
                (try simp only [Act.put, gA, gS, gZ, sA, sZ, sS])
                refine wv (.bool false) ?_
                (try simp only [Act.put, gA, gS, gZ, sA, sZ, sS])
                refine wpList_nil ?_
                go_upto_region 35 with fail
                refine wp_region_lit ?_
                refine wv (.int .i64 0) ?_
                (try simp only [Act.put, gA, gS, gZ, sA, sZ, sS])
                refine wpList_nil ?_
                go_upto_region 36 with fail
                refine wp_region_lit ?_
                refine wv (.bool true) ?_
                (try simp only [Act.put, gA, gS, gZ, sA, sZ, sS])
                refine wpList_nil ?_
                obtain ⟨s15q, s15c, s15e, -, -⟩ := SrcB.shape K13.out.a.2.2
                have s15h := Lib.hid s15e
                clear s15e
                go_upto_region 37 with fail
                refine wp_region_lit ?_
                refine wv (.pointer (some ⟨b11, 1, none⟩)) ?_
                (try simp only [Act.put, gA, gS, gZ, sA, sZ, sS])
                refine wv (.int .i64 1) ?_ (hrun := by have q : w13.cell? ⟨b11, 1, none⟩ = some (.int .i64 1) := K13.out.cell (i := 1) rfl (by rfl); go_simp)
                (try simp only [Act.put, gA, gS, gZ, sA, sZ, sS])
                refine wv (.pointer (some ⟨b3, 1, none⟩)) ?_
                (try simp only [Act.put, gA, gS, gZ, sA, sZ, sS])
                refine wv (.slice s15q (([] : List ByteArray)).length s15c) ?_ (hrun := by have q : w13.cell? ⟨b3, 1, none⟩ = some (v1) := K13.out.cell (i := 0) rfl (by rfl); rw [s15h.out] at q; go_simp)
                (try simp only [Act.put, gA, gS, gZ, sA, sZ, sS])
                refine wv (.int .i64 ((([] : List ByteArray)).length : Nat)) ?_
                (try simp only [Act.put, gA, gS, gZ, sA, sZ, sS])
                refine wv (.int .i64 ((([] : List ByteArray)).length : Nat)) ?_
                (try simp only [Act.put, gA, gS, gZ, sA, sZ, sS])
                refine wpList_nil ?_
                go_upto_region 38 with fail
                have HUN := Lib.hid (show unN 1 (a) (([] : List ByteArray)) = (([] : List ByteArray)).length from rfl)
                refine wp_region_lit ?_
                refine wv (.pointer (some ⟨g, 0, none⟩)) ?_
                (try simp only [Act.put, gA, gS, gZ, sA, sZ, sS])
                refine wl_call 11 #[.pointer (some ⟨g, 0, none⟩)] (by rfl) (by go_simp) (calls_one (up_any K13.out.a.1)) ?_; rintro _ w13 ⟨rfl, rfl⟩
                (try simp only [Act.put, gA, gS, gZ, sA, sZ, sS])
                refine wv (.bool up) ?_
                (try simp only [Act.put, gA, gS, gZ, sA, sZ, sS])
                refine wv (.bool false) ?_
                (try simp only [Act.put, gA, gS, gZ, sA, sZ, sS])
                refine wv (.bool false) ?_
                (try simp only [Act.put, gA, gS, gZ, sA, sZ, sS])
                refine wv (.pointer (some ⟨g, 0, none⟩)) ?_
                (try simp only [Act.put, gA, gS, gZ, sA, sZ, sS])
                refine wv (.pointer (some ⟨b11, 1, none⟩)) ?_
                (try simp only [Act.put, gA, gS, gZ, sA, sZ, sS])
                refine wv (.int .i64 1) ?_ (hrun := by have q : w13.cell? ⟨b11, 1, none⟩ = some (.int .i64 1) := K13.out.cell (i := 1) rfl (by rfl); go_simp)
                (try simp only [Act.put, gA, gS, gZ, sA, sZ, sS])
                refine wl_call 12 #[.pointer (some ⟨g, 0, none⟩), .int .i64 1] (by rfl) (by go_simp) (calls_one (under_any K13.out.a.1 1)) ?_; rintro _ w13 ⟨rfl, rfl⟩
                rw [HUN.out]
                (try simp only [Act.put, gA, gS, gZ, sA, sZ, sS])
                refine wv (.int .i64 ((([] : List ByteArray)).length : Nat)) ?_
                (try simp only [Act.put, gA, gS, gZ, sA, sZ, sS])
                refine wv (.bool false) ?_
                (try simp only [Act.put, gA, gS, gZ, sA, sZ, sS])
                refine wv (.bool false) ?_
                (try simp only [Act.put, gA, gS, gZ, sA, sZ, sS])
                refine wpList_nil ?_
                have LN := Lib.hid (show LS w1 g b3 up (a) (([] : List ByteArray)) w13 from ⟨v0, v1, KL.left (l := [(b3, #[v0, v1], 27)]) (r := [(b11, #[.int .u8 (wh : Nat), .int .i64 1, .string da, .bool xu], 29)]) ⟨_, _, K13.out, D10.out⟩⟩)
                go_wp2_with fail
                go_roundw
                case measure => have := HLT.out; simp only [intOf]; omega
                case rel => exact ⟨k + 1, up, a, ([] : List ByteArray), by have := HLT.out; omega, by have := HLT.out; omega, by have := HLA.out; (try simp only [List.length_append, List.length_cons, List.length_nil] at this ⊢); omega, by have := HLB.out; (try simp only [List.length_append, List.length_cons, List.length_nil] at this ⊢); omega, rfl, by go_simp, LN.out⟩
              case cons sx ra => as_aux_lemma =>
                obtain ⟨SG, so, sc, se, h1, h2, h3, h4⟩ := SrcB.cons K12.out.a.2.2
                have SF := Lib.hid (show ∀ W, SrcB W v1 (sx :: ra) → SrcB W (.slice (if sc = 1 then some ⟨SG, so, none⟩ else some ⟨SG, so + 1, none⟩) ra.length (sc - 1)) ra from fun W h => by
                  obtain ⟨G2, o2, c2, e2, -, -, -, q⟩ := SrcB.cons h
                  rw [se] at e2; cases e2; exact q)
                have SE := Lib.hid se
                have S1 := Lib.hid h1
                have S2 := Lib.hid h2
                have S4 := Lib.hid h4
                have S3 := Lib.hid (show ∀ W, SrcB W v1 (sx :: ra) → W.cell? ⟨SG, so, none⟩ = some (.string sx) from fun W h => by
                  obtain ⟨G2, o2, c2, e2, -, -, q, -⟩ := SrcB.cons h
                  rw [se] at e2; cases e2; exact q)
                obtain ⟨sn, hsn⟩ : ∃ sn, sn = ra.length := ⟨_, rfl⟩
                have SN := Lib.hid hsn
                rw [← hsn] at SE S1 S4 SF
                have z1 : (0 : Int) ≤ (sn : Int) := by omega
                have z2 : ¬ ((sn : Int) + 1 ≤ 0) := by omega
                have z3 : (sn : Int) + 1 ≤ (sc : Int) := by have := S1.out; omega
                have z4 : (sc : Int) ≤ 9223372036854775807 := by have := S2.out; unfold maxLen at this; omega
                clear se h1 h2 h3 h4 hsn
                go_upto_region 19 with fail
                refine wp_region_quiet (C := fun W => Kx w1 [(b3, #[v0, v1], 27), (b11, #[.int .u8 (wh : Nat), .int .i64 1, .string da, .bool xu], 29)] ((bdL w1.heap.size g up u0 u1 a (sx :: ra)).and ((bdS v0 a).and (bdS v1 (sx :: ra)))) W) (by kernel_rfl) (by kernel_rfl) K12.out.drew ?_
                refine qv (.bool true) ?_
                (try simp only [Act.put, gA, gS, gZ, sA, sZ, sS])
                refine qv (.bool true) ?_
                (try simp only [Act.put, gA, gS, gZ, sA, sZ, sS])
                refine qv (.pointer (some ⟨b11, 1, none⟩)) ?_
                (try simp only [Act.put, gA, gS, gZ, sA, sZ, sS])
                refine qv (.int .i64 1) ?_ (hv := fun wv hC => by have q : wv.cell? ⟨b11, 1, none⟩ = some (.int .i64 1) := hC.cell (i := 1) rfl (by rfl); go_simp)
                (try simp only [Act.put, gA, gS, gZ, sA, sZ, sS])
                refine qv (.int .i64 1) ?_ (hv := fun wv hC => by go_simp; rfl)
                (try simp only [Act.put, gA, gS, gZ, sA, sZ, sS])
                refine qv (.pointer (some ⟨b3, 1, none⟩)) ?_
                (try simp only [Act.put, gA, gS, gZ, sA, sZ, sS])
                refine qv (.slice (some ⟨SG, so, none⟩) (sn + 1) sc) ?_ (hv := fun wv hC => by have q : wv.cell? ⟨b3, 1, none⟩ = some (v1) := hC.cell (i := 0) rfl (by rfl); rw [SE.out] at q; go_simp)
                (try simp only [Act.put, gA, gS, gZ, sA, sZ, sS])
                refine qv (.int .i64 ((sn : Int) + 1)) ?_
                (try simp only [Act.put, gA, gS, gZ, sA, sZ, sS])
                refine qv (.bool true) ?_ (hv := fun wv hC => by go_simp; try omega)
                (try simp only [Act.put, gA, gS, gZ, sA, sZ, sS])
                refine qv (.bool true) ?_ (hv := fun wv hC => run_pick_yes (.tmp 83) (.tmp 90) (.const (.bool false)) _ rfl rfl rfl)
                (try simp only [Act.put, gA, gS, gZ, sA, sZ, sS])
                refine qv (.string ⟨#[]⟩) ?_
                (try simp only [Act.put, gA, gS, gZ, sA, sZ, sS])
                refine qv (.bool true) ?_
                (try simp only [Act.put, gA, gS, gZ, sA, sZ, sS])
                refine wpQuiet_nil ?_
                intro w13 hC
                have K13 := Lib.hid (show Kx w1 [(b3, #[v0, v1], 27), (b11, #[.int .u8 (wh : Nat), .int .i64 1, .string da, .bool xu], 29)] ((bdL w1.heap.size g up u0 u1 a (sx :: ra)).and ((bdS v0 a).and (bdS v1 (sx :: ra)))) w13 from hC)
                clear hC
                go_upto_region 20 with fail
                refine wp_region_lit ?_
                refine wv (.bool true) ?_
                (try simp only [Act.put, gA, gS, gZ, sA, sZ, sS])
                refine wpList_nil ?_
                go_upto_region 21 with fail
                refine wp_region_lit ?_
                refine wv (.pointer (some ⟨b11, 1, none⟩)) ?_
                (try simp only [Act.put, gA, gS, gZ, sA, sZ, sS])
                refine wv (.int .i64 1) ?_ (hrun := by have q : w13.cell? ⟨b11, 1, none⟩ = some (.int .i64 1) := K13.out.cell (i := 1) rfl (by rfl); go_simp)
                (try simp only [Act.put, gA, gS, gZ, sA, sZ, sS])
                refine wv (.pointer (some ⟨b3, 1, none⟩)) ?_
                (try simp only [Act.put, gA, gS, gZ, sA, sZ, sS])
                refine wv (.slice (some ⟨SG, so, none⟩) (sn + 1) sc) ?_ (hrun := by have q : w13.cell? ⟨b3, 1, none⟩ = some (v1) := K13.out.cell (i := 0) rfl (by rfl); rw [SE.out] at q; go_simp)
                (try simp only [Act.put, gA, gS, gZ, sA, sZ, sS])
                refine wv (.pointer (some ⟨SG, so, none⟩)) ?_ (hrun := by go_simp <;> (intro hz; exfalso; omega))
                (try simp only [Act.put, gA, gS, gZ, sA, sZ, sS])
                refine wv (.string sx) ?_ (hrun := by have q := S3.out _ K13.out.a.2.2; go_simp)
                (try simp only [Act.put, gA, gS, gZ, sA, sZ, sS])
                refine wv (.string sx) ?_
                (try simp only [Act.put, gA, gS, gZ, sA, sZ, sS])
                refine wpList_nil ?_
                go_upto_region 22 with fail
                refine rk (fun (_ : Unit) => [.pointer (some ⟨b11, 1, none⟩), .int .i64 1, .pointer (some ⟨b11, 1, none⟩), .int .i64 1, .pointer (some ⟨b3, 1, none⟩), .slice (some ⟨SG, so, none⟩) (sn + 1) sc, .slice (if sc = 1 then some ⟨SG, so, none⟩ else some ⟨SG, so + 1, none⟩) sn (sc - 1), .pointer (some ⟨b3, 1, none⟩), undef]) (fun _ Lx w' => (Lx 8 = false ∧ Kx w1 [(b3, #[v0, v1], 27), (b11, #[.int .u8 (wh : Nat), .int .i64 1, .string da, .bool xu], 29)] ((bdL w1.heap.size g up u0 u1 a (sx :: ra)).and ((bdS v0 a).and (bdS v1 (sx :: ra)))) w') ∨ (Lx 8 = true ∧ Kx w1 [(b3, #[v0, (.slice (if sc = 1 then some ⟨SG, so, none⟩ else some ⟨SG, so + 1, none⟩) sn (sc - 1))], 27), (b11, #[.int .u8 (wh : Nat), .int .i64 1, .string da, .bool xu], 29)] ((bdL w1.heap.size g up u0 u1 a (sx :: ra)).and ((bdS v0 a).and (bdS v1 (sx :: ra)))) w')) (()) [] [] [(1, fun _ => [(99, .pointer (some ⟨b11, 1, none⟩))]), (3, fun _ => [(101, .pointer (some ⟨b11, 1, none⟩))]), (5, fun _ => [(103, .pointer (some ⟨b3, 1, none⟩))]), (6, fun _ => [(104, .slice (some ⟨SG, so, none⟩) (sn + 1) sc)]), (8, fun _ => [(106, .pointer (some ⟨b3, 1, none⟩)), (105, .slice (if sc = 1 then some ⟨SG, so, none⟩ else some ⟨SG, so + 1, none⟩) sn (sc - 1))])] [8] ?_ ?_ ?_ ?_ ?_
                · exact .inl ⟨rfl, K13.out.drew⟩
                · intro s L w' h; exact trivial
                · intro s L1 L2 w' e h; (try dsimp only at h ⊢); rw [← e 8 (by simp)]; exact h
                · refine ⟨?_, ?_, ?_, ?_, ?_, trivial⟩ <;> (rintro s Lx w' hw hL haft hdc ρ hc hf hG hs o ho; cases ho; try dsimp only [seen] at hw hs)
                  · obtain ⟨e99, -⟩ := hs
                    rcases hw with ⟨h8, hw⟩ | ⟨h8, -⟩
                    case inr => exact absurd (hdc 8 h8 1 (by decide)) (by rw [hL]; decide)
                    exact sw (.int .i64 1) (by have q : w'.cell? ⟨b11, 1, none⟩ = some (.int .i64 1) := Kx.cell (i := 1) hw rfl (by rfl); go_simp) ⟨s, fun _ _ => rfl, rfl, .inl ⟨h8, hw⟩⟩
                  · obtain ⟨e101, -⟩ := hs
                    rcases hw with ⟨h8, hw⟩ | ⟨h8, -⟩
                    case inr => exact absurd (hdc 8 h8 3 (by decide)) (by rw [hL]; decide)
                    exact sw (.int .i64 1) (by have q : w'.cell? ⟨b11, 1, none⟩ = some (.int .i64 1) := Kx.cell (i := 1) hw rfl (by rfl); go_simp) ⟨s, fun _ _ => rfl, rfl, .inl ⟨h8, hw⟩⟩
                  · obtain ⟨e103, -⟩ := hs
                    rcases hw with ⟨h8, hw⟩ | ⟨h8, -⟩
                    case inr => exact absurd (hdc 8 h8 5 (by decide)) (by rw [hL]; decide)
                    exact sw (.slice (some ⟨SG, so, none⟩) (sn + 1) sc) (by have q : w'.cell? ⟨b3, 1, none⟩ = some (.slice (some ⟨SG, so, none⟩) (sn + 1) sc) := (by rw [← SE.out]; exact Kx.cell (i := 0) hw rfl (by rfl)); go_simp) ⟨s, fun _ _ => rfl, rfl, .inl ⟨h8, hw⟩⟩
                  · obtain ⟨e104, -⟩ := hs
                    exact sw (w' := w') (.slice (if sc = 1 then some ⟨SG, so, none⟩ else some ⟨SG, so + 1, none⟩) sn (sc - 1)) (by have z5 : (1 : Int) ≤ (sn : Int) + 1 := (by omega); go_simp) ⟨s, fun _ _ => rfl, rfl, by simpa [upd] using hw⟩
                  · obtain ⟨e106, e105, -⟩ := hs
                    rcases hw with ⟨h8, hw⟩ | ⟨h8, -⟩
                    case inr => rw [hL] at h8; cases h8
                    exact ss 26 (.tmp 106) (.tmp 105) rfl ⟨b3, 1, none⟩ (.slice (if sc = 1 then some ⟨SG, so, none⟩ else some ⟨SG, so + 1, none⟩) sn (sc - 1)) e106 e105 (kx_run_set hw (i := 0) rfl 26 1 (v1) (.slice (if sc = 1 then some ⟨SG, so, none⟩ else some ⟨SG, so + 1, none⟩) sn (sc - 1)) (by rfl) (fun W h1 h2 => by go_simp)) ⟨s, fun _ _ => rfl, rfl, .inr ⟨rfl, kx_cast (Kx.set hw (i := 0) rfl 1 (.slice (if sc = 1 then some ⟨SG, so, none⟩ else some ⟨SG, so + 1, none⟩) sn (sc - 1))) rfl⟩⟩
                · rintro s Lx w14 hw hall
                  rcases hw with ⟨h8, -⟩ | ⟨-, hw⟩
                  case inl => rw [hall 8 (by decide)] at h8; cases h8
                  simp only [List.toList_toArray, putsZ_some, putsZ_none, putsZ_nil, List.setIfInBounds_toArray, List.set_cons_zero, List.set_cons_succ]
                  have BO : ∀ k, (.slice (if sc = 1 then some ⟨SG, so, none⟩ else some ⟨SG, so + 1, none⟩) sn (sc - 1) : Value).ownBlock = some k → (v1 : Value).ownBlock = some k := fun k q => by rw [SE.out]; by_cases hc : sc = 1 <;> simp [hc, Value.ownBlock] at q ⊢ <;> exact q
                  have K14 := Lib.hid (show Kx w1 [(b3, #[v0, (.slice (if sc = 1 then some ⟨SG, so, none⟩ else some ⟨SG, so + 1, none⟩) sn (sc - 1))], 27), (b11, #[.int .u8 (wh : Nat), .int .i64 1, .string da, .bool xu], 29)] ((bdL w1.heap.size g up u0 u1 a (sx :: ra)).and ((bdS v0 a).and (bdS (.slice (if sc = 1 then some ⟨SG, so, none⟩ else some ⟨SG, so + 1, none⟩) sn (sc - 1)) ra))) w14 from hw.turn (fun h => ⟨h.1, h.2.1, SF.out _ h.2.2⟩) (fun k q => by rcases q with q | q | q; exact .inl q; exact .inr (.inl q); exact .inr (.inr (BO k q))))
                  have D14 := Lib.hid (show ∀ k, ((bdS v0 a).and (bdS (.slice (if sc = 1 then some ⟨SG, so, none⟩ else some ⟨SG, so + 1, none⟩) sn (sc - 1)) ra)).f k → ¬ lkF g u0 u1 k from fun k q => D10.out k (by rcases q with q | q; exact .inl q; exact .inr (BO k q)))
                  clear hw hall BO
                  go_upto_region 23 with fail
                  refine wp_region_lit ?_
                  refine wv (.pointer (some ⟨b11, 0, none⟩)) ?_
                  (try simp only [Act.put, gA, gS, gZ, sA, sZ, sS])
                  refine wv (.int .u8 (wh : Nat)) ?_ (hrun := by have q : w14.cell? ⟨b11, 0, none⟩ = some (.int .u8 (wh : Nat)) := K14.out.cell (i := 1) rfl (by rfl); go_simp)
                  (try simp only [Act.put, gA, gS, gZ, sA, sZ, sS])
                  refine wv (.int .u8 4) ?_ (hrun := by go_simp; rw [Int.tmod_eq_emod_of_nonneg (by omega)]; have q := HR.out; omega)
                  (try simp only [Act.put, gA, gS, gZ, sA, sZ, sS])
                  refine wv (.bool true) ?_
                  (try simp only [Act.put, gA, gS, gZ, sA, sZ, sS])
                  refine wpList_nil ?_
                  go_upto_region 24 with fail
                  refine wp_region_lit ?_
                  refine wv (.pointer (some ⟨g, 0, none⟩)) ?_
                  (try simp only [Act.put, gA, gS, gZ, sA, sZ, sS])
                  refine wv (.pointer (some ⟨b11, 1, none⟩)) ?_
                  (try simp only [Act.put, gA, gS, gZ, sA, sZ, sS])
                  refine wv (.int .i64 1) ?_ (hrun := by have q : w14.cell? ⟨b11, 1, none⟩ = some (.int .i64 1) := K14.out.cell (i := 1) rfl (by rfl); go_simp)
                  (try simp only [Act.put, gA, gS, gZ, sA, sZ, sS])
                  refine wl_call 7 #[.pointer (some ⟨g, 0, none⟩), .int .i64 1] (by rfl) (by go_simp) (calls_one (lose_any (come_yes1 K14.out.a.1 (by have := HLB.out; have := HLT.out; simp only [List.length_cons] at *; omega)))) ?_
                  rintro _ w15 ⟨rfl, p15, q15, hR⟩
                  (try simp only [Act.put, gA, gS, gZ, sA, sZ, sS])
                  have K15x := KL.of K14.out D14.out hR
                  obtain ⟨u15a, u15b, hK, hD⟩ := K15x.ex
                  have K15 := Lib.hid (show Kx w1 [(b3, #[v0, (.slice (if sc = 1 then some ⟨SG, so, none⟩ else some ⟨SG, so + 1, none⟩) sn (sc - 1))], 27), (b11, #[.int .u8 (wh : Nat), .int .i64 1, .string da, .bool xu], 29)] ((bdL w1.heap.size g up u15a u15b a ra).and ((bdS (v0) a).and (bdS ((.slice (if sc = 1 then some ⟨SG, so, none⟩ else some ⟨SG, so + 1, none⟩) sn (sc - 1))) ra))) w15 from hK)
                  have D15 := Lib.hid hD
                  clear hK hD hR K15x
                  refine wv (.bool true) ?_
                  (try simp only [Act.put, gA, gS, gZ, sA, sZ, sS])
                  refine wv (.bool false) ?_
                  (try simp only [Act.put, gA, gS, gZ, sA, sZ, sS])
                  refine wpList_nil ?_
                  go_upto_region 35 with fail
                  refine wp_region_lit ?_
                  refine wv (.int .i64 0) ?_
                  (try simp only [Act.put, gA, gS, gZ, sA, sZ, sS])
                  refine wpList_nil ?_
                  go_upto_region 36 with fail
                  refine wp_region_lit ?_
                  refine wv (.bool true) ?_
                  (try simp only [Act.put, gA, gS, gZ, sA, sZ, sS])
                  refine wpList_nil ?_
                  obtain ⟨s16q, s16c, s16e, -, -⟩ := SrcB.shape K15.out.a.2.2
                  have s16h := Lib.hid s16e
                  clear s16e
                  go_upto_region 37 with fail
                  refine wp_region_lit ?_
                  refine wv (.pointer (some ⟨b11, 1, none⟩)) ?_
                  (try simp only [Act.put, gA, gS, gZ, sA, sZ, sS])
                  refine wv (.int .i64 1) ?_ (hrun := by have q : w15.cell? ⟨b11, 1, none⟩ = some (.int .i64 1) := K15.out.cell (i := 1) rfl (by rfl); go_simp)
                  (try simp only [Act.put, gA, gS, gZ, sA, sZ, sS])
                  refine wv (.pointer (some ⟨b3, 1, none⟩)) ?_
                  (try simp only [Act.put, gA, gS, gZ, sA, sZ, sS])
                  refine wv (.slice s16q (ra).length s16c) ?_ (hrun := by have q : w15.cell? ⟨b3, 1, none⟩ = some ((.slice (if sc = 1 then some ⟨SG, so, none⟩ else some ⟨SG, so + 1, none⟩) sn (sc - 1))) := K15.out.cell (i := 0) rfl (by rfl); rw [s16h.out] at q; go_simp)
                  (try simp only [Act.put, gA, gS, gZ, sA, sZ, sS])
                  refine wv (.int .i64 ((ra).length : Nat)) ?_
                  (try simp only [Act.put, gA, gS, gZ, sA, sZ, sS])
                  refine wv (.int .i64 ((ra).length : Nat)) ?_
                  (try simp only [Act.put, gA, gS, gZ, sA, sZ, sS])
                  refine wpList_nil ?_
                  go_upto_region 38 with fail
                  have HUN := Lib.hid (show unN 1 (a) (ra) = (ra).length from rfl)
                  refine wp_region_lit ?_
                  refine wv (.pointer (some ⟨g, 0, none⟩)) ?_
                  (try simp only [Act.put, gA, gS, gZ, sA, sZ, sS])
                  refine wl_call 11 #[.pointer (some ⟨g, 0, none⟩)] (by rfl) (by go_simp) (calls_one (up_any K15.out.a.1)) ?_; rintro _ w15 ⟨rfl, rfl⟩
                  (try simp only [Act.put, gA, gS, gZ, sA, sZ, sS])
                  refine wv (.bool up) ?_
                  (try simp only [Act.put, gA, gS, gZ, sA, sZ, sS])
                  refine wv (.bool false) ?_
                  (try simp only [Act.put, gA, gS, gZ, sA, sZ, sS])
                  refine wv (.bool false) ?_
                  (try simp only [Act.put, gA, gS, gZ, sA, sZ, sS])
                  refine wv (.pointer (some ⟨g, 0, none⟩)) ?_
                  (try simp only [Act.put, gA, gS, gZ, sA, sZ, sS])
                  refine wv (.pointer (some ⟨b11, 1, none⟩)) ?_
                  (try simp only [Act.put, gA, gS, gZ, sA, sZ, sS])
                  refine wv (.int .i64 1) ?_ (hrun := by have q : w15.cell? ⟨b11, 1, none⟩ = some (.int .i64 1) := K15.out.cell (i := 1) rfl (by rfl); go_simp)
                  (try simp only [Act.put, gA, gS, gZ, sA, sZ, sS])
                  refine wl_call 12 #[.pointer (some ⟨g, 0, none⟩), .int .i64 1] (by rfl) (by go_simp) (calls_one (under_any K15.out.a.1 1)) ?_; rintro _ w15 ⟨rfl, rfl⟩
                  rw [HUN.out]
                  (try simp only [Act.put, gA, gS, gZ, sA, sZ, sS])
                  refine wv (.int .i64 ((ra).length : Nat)) ?_
                  (try simp only [Act.put, gA, gS, gZ, sA, sZ, sS])
                  refine wv (.bool false) ?_
                  (try simp only [Act.put, gA, gS, gZ, sA, sZ, sS])
                  refine wv (.bool false) ?_
                  (try simp only [Act.put, gA, gS, gZ, sA, sZ, sS])
                  refine wpList_nil ?_
                  have LN := Lib.hid (show LS w1 g b3 up (a) (ra) w15 from ⟨v0, (.slice (if sc = 1 then some ⟨SG, so, none⟩ else some ⟨SG, so + 1, none⟩) sn (sc - 1)), KL.left (l := [(b3, #[v0, (.slice (if sc = 1 then some ⟨SG, so, none⟩ else some ⟨SG, so + 1, none⟩) sn (sc - 1))], 27)]) (r := [(b11, #[.int .u8 (wh : Nat), .int .i64 1, .string da, .bool xu], 29)]) ⟨_, _, K15.out, D15.out⟩⟩)
                  go_wp2_with fail
                  go_roundw
                  case measure => have := HLT.out; simp only [intOf]; omega
                  case rel => exact ⟨k + 1, up, a, ra, by have := HLT.out; omega, by have := HLT.out; omega, by have := HLA.out; (try simp only [List.length_append, List.length_cons, List.length_nil] at this ⊢); omega, by have := HLB.out; (try simp only [List.length_append, List.length_cons, List.length_nil] at this ⊢); omega, rfl, by go_simp, LN.out⟩
            case neg =>
              by_cases r5 : r = 5
              case pos =>
                subst r5
                clear r3 r4
                cases xu
                case false => as_aux_lemma =>
                  go_upto_region 17 with fail
                  refine wp_region_lit ?_
                  refine wv (.bool false) ?_
                  (try simp only [Act.put, gA, gS, gZ, sA, sZ, sS])
                  refine wv (.bool false) ?_
                  (try simp only [Act.put, gA, gS, gZ, sA, sZ, sS])
                  refine wpList_nil ?_
                  go_upto_region 18 with fail
                  refine wp_region_lit ?_
                  refine wv (.bool false) ?_
                  (try simp only [Act.put, gA, gS, gZ, sA, sZ, sS])
                  refine wv (.bool false) ?_
                  (try simp only [Act.put, gA, gS, gZ, sA, sZ, sS])
                  refine wpList_nil ?_
                  go_upto_region 29 with fail
                  refine wp_region_lit ?_
                  refine wv (.bool true) ?_
                  (try simp only [Act.put, gA, gS, gZ, sA, sZ, sS])
                  refine wv (.bool true) ?_
                  (try simp only [Act.put, gA, gS, gZ, sA, sZ, sS])
                  refine wpList_nil ?_
                  go_upto_region 30 with fail
                  refine rk (fun (_ : Unit) => [.pointer (some ⟨g, 0, none⟩), .pointer (some ⟨b11, 3, none⟩), .bool false, .bool (false != up), .bool up, .pointer (some ⟨b11, 3, none⟩), .bool false, .bool (up != false), .bool false]) (fun _ Lx w' => (Lx 3 = false ∧ Kx w1 [(b3, #[v0, v1], 27), (b11, #[.int .u8 (wh : Nat), .int .i64 1, .string da, .bool false], 29)] ((bdL w1.heap.size g up u0 u1 a b).and ((bdS v0 a).and (bdS v1 b))) w') ∨ (Lx 3 = true ∧ KL w1 [(b3, #[v0, v1], 27), (b11, #[.int .u8 (wh : Nat), .int .i64 1, .string da, .bool false], 29)] g false [] [] ((bdS v0 a).and (bdS v1 b)) w')) (()) [] [] [(2, fun _ => [(135, .pointer (some ⟨b11, 3, none⟩))]), (3, fun _ => [(134, .pointer (some ⟨g, 0, none⟩)), (136, .bool false)]), (6, fun _ => [(139, .pointer (some ⟨b11, 3, none⟩))]), (7, fun _ => [(138, .bool up), (140, .bool false)]), (8, fun _ => [(137, .bool (false != up)), (141, .bool (up != false))])] [3] ?_ ?_ ?_ ?_ ?_
                  · exact .inl ⟨rfl, K12.out.drew⟩
                  · intro s L w' h; exact trivial
                  · intro s L1 L2 w' e h; (try dsimp only at h ⊢); rw [← e 3 (by simp)]; exact h
                  · refine ⟨?_, ?_, ?_, ?_, ?_, trivial⟩ <;> (rintro s Lx w' hw hL haft hdc ρ hc hf hG hs o ho; cases ho; try dsimp only [seen] at hw hs)
                    · obtain ⟨e135, -⟩ := hs
                      rcases hw with ⟨h3, hw⟩ | ⟨h3, -⟩
                      case inr => exact absurd (hdc 3 h3 2 (by decide)) (by rw [hL]; decide)
                      exact sw (.bool false) (by have q : w'.cell? ⟨b11, 3, none⟩ = some (.bool false) := Kx.cell (i := 1) hw rfl (by rfl); go_simp) ⟨s, fun _ _ => rfl, rfl, .inl ⟨h3, hw⟩⟩
                    · obtain ⟨e134, e136, -⟩ := hs
                      rcases hw with ⟨h3, hw⟩ | ⟨h3, -⟩
                      case inr => rw [hL] at h3; cases h3
                      refine stepW_call (f := 9) (args := #[.pointer (some ⟨g, 0, none⟩), .bool false]) (by go_simp) ((kl_cut ⟨_, _, hw, D10.out⟩ false).mono ?_)
                      rintro e w9 ⟨q1, q2⟩
                      exact ⟨_, q1, s, fun _ _ => rfl, rfl, .inr ⟨rfl, q2⟩⟩
                    · obtain ⟨e139, -⟩ := hs
                      rcases hw with ⟨h3, hw⟩ | ⟨h3, hk⟩
                      case inl => exact sw (.bool false) (by have q : w'.cell? ⟨b11, 3, none⟩ = some (.bool false) := Kx.cell (i := 1) hw rfl (by rfl); go_simp) ⟨s, fun _ _ => rfl, rfl, .inl ⟨h3, hw⟩⟩
                      obtain ⟨p0, p1, hw, -⟩ := id hk
                      exact sw (.bool false) (by have q : w'.cell? ⟨b11, 3, none⟩ = some (.bool false) := Kx.cell (i := 1) hw rfl (by rfl); go_simp) ⟨s, fun _ _ => rfl, rfl, .inr ⟨h3, hk⟩⟩
                    · obtain ⟨e138, e140, -⟩ := hs
                      exact sw (w' := w') (.bool (up != false)) (by cases up <;> go_simp) ⟨s, fun _ _ => rfl, rfl, by simpa [upd] using hw⟩
                    · obtain ⟨e137, e141, -⟩ := hs
                      exact sw (w' := w') (.bool false) (by cases up <;> go_simp) ⟨s, fun _ _ => rfl, rfl, by simpa [upd] using hw⟩
                  · rintro s Lx w13 hw hall
                    rcases hw with ⟨h3, -⟩ | ⟨-, hw⟩
                    case inl => rw [hall 3 (by decide)] at h3; cases h3
                    simp only [List.toList_toArray, putsZ_some, putsZ_none, putsZ_nil, List.setIfInBounds_toArray, List.set_cons_zero, List.set_cons_succ]
                    obtain ⟨u13a, u13b, hK, hD⟩ := hw.ex
                    have K13 := Lib.hid (show Kx w1 [(b3, #[v0, v1], 27), (b11, #[.int .u8 (wh : Nat), .int .i64 1, .string da, .bool false], 29)] ((bdL w1.heap.size g false u13a u13b [] []).and ((bdS v0 a).and (bdS v1 b))) w13 from hK)
                    have D13 := Lib.hid hD
                    clear hK hD hw hall
                    go_upto_region 32 with fail
                    refine wp_region_lit ?_
                    refine wv (.pointer (some ⟨b11, 3, none⟩)) ?_
                    (try simp only [Act.put, gA, gS, gZ, sA, sZ, sS])
                    refine wv (.bool false) ?_ (hrun := by have q : w13.cell? ⟨b11, 3, none⟩ = some (.bool false) := K13.out.cell (i := 1) rfl (by rfl); go_simp)
                    (try simp only [Act.put, gA, gS, gZ, sA, sZ, sS])
                    refine wv (.bool false) ?_
                    (try simp only [Act.put, gA, gS, gZ, sA, sZ, sS])
                    refine wpList_nil ?_
                    go_upto_region 33 with fail
                    refine wp_region_lit ?_
                    refine wv (.bool false) ?_
                    (try simp only [Act.put, gA, gS, gZ, sA, sZ, sS])
                    refine wv (.bool true) ?_
                    (try simp only [Act.put, gA, gS, gZ, sA, sZ, sS])
                    refine wpList_nil ?_
                    go_upto_region 34 with fail
                    refine wp_region_lit ?_
                    refine wv (.agg (#[.slice none 0 0, .slice none 0 0])) ?_ (hrun := run_build_of _ [] rfl [] _ rfl (by kernel_rfl))
                    (try simp only [Act.put, gA, gS, gZ, sA, sZ, sS])
                    refine kx_row K13.out 0 rfl 27 _ _ (#[.slice none 0 0, .slice none 0 0]) rfl rfl rfl rfl (info27) (by rfl) (by kernel_rfl) ?_
                    intro w14 hk
                    have K14 := Lib.hid (show Kx w1 [(b3, #[.slice none 0 0, .slice none 0 0], 27), (b11, #[.int .u8 (wh : Nat), .int .i64 1, .string da, .bool false], 29)] ((bdL w1.heap.size g false u13a u13b [] []).and ((bdS v0 a).and (bdS v1 b))) w14 from hk)
                    clear hk
                    (try simp only [Act.put, gA, gS, gZ, sA, sZ, sS])
                    refine wpList_nil ?_
                    have K15 := Lib.hid (show Kx w1 [(b3, #[.slice none 0 0, .slice none 0 0], 27), (b11, #[.int .u8 (wh : Nat), .int .i64 1, .string da, .bool false], 29)] ((bdL w1.heap.size g false u13a u13b [] []).and ((bdS (.slice none 0 0) []).and (bdS (.slice none 0 0) []))) w14 from K14.out.turn (fun h => ⟨h.1, .inl ⟨rfl, rfl⟩, .inl ⟨rfl, rfl⟩⟩) (fun k q => by rcases q with q | q | q; exact .inl q; cases q; cases q))
                    have D15 := Lib.hid (show ∀ k, ((bdS (.slice none 0 0) []).and (bdS (.slice none 0 0) [])).f k → ¬ lkF g u13a u13b k from fun k q => by rcases q with q | q <;> cases q)
                    have HZ := Lib.hid (Nat.zero_le k)
                    go_upto_region 35 with fail
                    refine wp_region_lit ?_
                    refine wv (.int .i64 0) ?_
                    (try simp only [Act.put, gA, gS, gZ, sA, sZ, sS])
                    refine wpList_nil ?_
                    go_upto_region 36 with fail
                    refine wp_region_lit ?_
                    refine wv (.bool true) ?_
                    (try simp only [Act.put, gA, gS, gZ, sA, sZ, sS])
                    refine wpList_nil ?_
                    obtain ⟨s16q, s16c, s16e, -, -⟩ := SrcB.shape K15.out.a.2.2
                    have s16h := Lib.hid s16e
                    clear s16e
                    go_upto_region 37 with fail
                    refine wp_region_lit ?_
                    refine wv (.pointer (some ⟨b11, 1, none⟩)) ?_
                    (try simp only [Act.put, gA, gS, gZ, sA, sZ, sS])
                    refine wv (.int .i64 1) ?_ (hrun := by have q : w14.cell? ⟨b11, 1, none⟩ = some (.int .i64 1) := K15.out.cell (i := 1) rfl (by rfl); go_simp)
                    (try simp only [Act.put, gA, gS, gZ, sA, sZ, sS])
                    refine wv (.pointer (some ⟨b3, 1, none⟩)) ?_
                    (try simp only [Act.put, gA, gS, gZ, sA, sZ, sS])
                    refine wv (.slice s16q (([] : List ByteArray)).length s16c) ?_ (hrun := by have q : w14.cell? ⟨b3, 1, none⟩ = some ((.slice none 0 0)) := K15.out.cell (i := 0) rfl (by rfl); rw [s16h.out] at q; go_simp)
                    (try simp only [Act.put, gA, gS, gZ, sA, sZ, sS])
                    refine wv (.int .i64 ((([] : List ByteArray)).length : Nat)) ?_
                    (try simp only [Act.put, gA, gS, gZ, sA, sZ, sS])
                    refine wv (.int .i64 ((([] : List ByteArray)).length : Nat)) ?_
                    (try simp only [Act.put, gA, gS, gZ, sA, sZ, sS])
                    refine wpList_nil ?_
                    go_upto_region 38 with fail
                    have HUN := Lib.hid (show unN 1 (([] : List ByteArray)) (([] : List ByteArray)) = (([] : List ByteArray)).length from rfl)
                    refine wp_region_lit ?_
                    refine wv (.pointer (some ⟨g, 0, none⟩)) ?_
                    (try simp only [Act.put, gA, gS, gZ, sA, sZ, sS])
                    refine wl_call 11 #[.pointer (some ⟨g, 0, none⟩)] (by rfl) (by go_simp) (calls_one (up_any K15.out.a.1)) ?_; rintro _ w14 ⟨rfl, rfl⟩
                    (try simp only [Act.put, gA, gS, gZ, sA, sZ, sS])
                    refine wv (.bool false) ?_
                    (try simp only [Act.put, gA, gS, gZ, sA, sZ, sS])
                    refine wv (.bool false) ?_
                    (try simp only [Act.put, gA, gS, gZ, sA, sZ, sS])
                    refine wv (.bool false) ?_
                    (try simp only [Act.put, gA, gS, gZ, sA, sZ, sS])
                    refine wv (.pointer (some ⟨g, 0, none⟩)) ?_
                    (try simp only [Act.put, gA, gS, gZ, sA, sZ, sS])
                    refine wv (.pointer (some ⟨b11, 1, none⟩)) ?_
                    (try simp only [Act.put, gA, gS, gZ, sA, sZ, sS])
                    refine wv (.int .i64 1) ?_ (hrun := by have q : w14.cell? ⟨b11, 1, none⟩ = some (.int .i64 1) := K15.out.cell (i := 1) rfl (by rfl); go_simp)
                    (try simp only [Act.put, gA, gS, gZ, sA, sZ, sS])
                    refine wl_call 12 #[.pointer (some ⟨g, 0, none⟩), .int .i64 1] (by rfl) (by go_simp) (calls_one (under_any K15.out.a.1 1)) ?_; rintro _ w14 ⟨rfl, rfl⟩
                    rw [HUN.out]
                    (try simp only [Act.put, gA, gS, gZ, sA, sZ, sS])
                    refine wv (.int .i64 ((([] : List ByteArray)).length : Nat)) ?_
                    (try simp only [Act.put, gA, gS, gZ, sA, sZ, sS])
                    refine wv (.bool false) ?_
                    (try simp only [Act.put, gA, gS, gZ, sA, sZ, sS])
                    refine wv (.bool false) ?_
                    (try simp only [Act.put, gA, gS, gZ, sA, sZ, sS])
                    refine wpList_nil ?_
                    have LN := Lib.hid (show LS w1 g b3 false (([] : List ByteArray)) (([] : List ByteArray)) w14 from ⟨(.slice none 0 0), (.slice none 0 0), KL.left (l := [(b3, #[(.slice none 0 0), (.slice none 0 0)], 27)]) (r := [(b11, #[.int .u8 (wh : Nat), .int .i64 1, .string da, .bool false], 29)]) ⟨_, _, K15.out, D15.out⟩⟩)
                    go_wp2_with fail
                    go_roundw
                    case measure => have := HLT.out; simp only [intOf]; omega
                    case rel => exact ⟨k + 1, false, ([] : List ByteArray), ([] : List ByteArray), by have := HLT.out; omega, by have := HLT.out; omega, by have := HZ.out; (try simp only [List.length_append, List.length_cons, List.length_nil] at this ⊢); omega, by have := HZ.out; (try simp only [List.length_append, List.length_cons, List.length_nil] at this ⊢); omega, rfl, by go_simp, LN.out⟩
                case true => as_aux_lemma =>
                  go_upto_region 17 with fail
                  refine wp_region_lit ?_
                  refine wv (.bool false) ?_
                  (try simp only [Act.put, gA, gS, gZ, sA, sZ, sS])
                  refine wv (.bool false) ?_
                  (try simp only [Act.put, gA, gS, gZ, sA, sZ, sS])
                  refine wpList_nil ?_
                  go_upto_region 18 with fail
                  refine wp_region_lit ?_
                  refine wv (.bool false) ?_
                  (try simp only [Act.put, gA, gS, gZ, sA, sZ, sS])
                  refine wv (.bool false) ?_
                  (try simp only [Act.put, gA, gS, gZ, sA, sZ, sS])
                  refine wpList_nil ?_
                  go_upto_region 29 with fail
                  refine wp_region_lit ?_
                  refine wv (.bool true) ?_
                  (try simp only [Act.put, gA, gS, gZ, sA, sZ, sS])
                  refine wv (.bool true) ?_
                  (try simp only [Act.put, gA, gS, gZ, sA, sZ, sS])
                  refine wpList_nil ?_
                  go_upto_region 30 with fail
                  refine rk (fun (_ : Unit) => [.pointer (some ⟨g, 0, none⟩), .pointer (some ⟨b11, 3, none⟩), .bool true, .bool (true != up), .bool up, .pointer (some ⟨b11, 3, none⟩), .bool true, .bool (up != true), .bool false]) (fun _ Lx w' => (Lx 3 = false ∧ Kx w1 [(b3, #[v0, v1], 27), (b11, #[.int .u8 (wh : Nat), .int .i64 1, .string da, .bool true], 29)] ((bdL w1.heap.size g up u0 u1 a b).and ((bdS v0 a).and (bdS v1 b))) w') ∨ (Lx 3 = true ∧ KL w1 [(b3, #[v0, v1], 27), (b11, #[.int .u8 (wh : Nat), .int .i64 1, .string da, .bool true], 29)] g true a b ((bdS v0 a).and (bdS v1 b)) w')) (()) [] [] [(2, fun _ => [(135, .pointer (some ⟨b11, 3, none⟩))]), (3, fun _ => [(134, .pointer (some ⟨g, 0, none⟩)), (136, .bool true)]), (6, fun _ => [(139, .pointer (some ⟨b11, 3, none⟩))]), (7, fun _ => [(138, .bool up), (140, .bool true)]), (8, fun _ => [(137, .bool (true != up)), (141, .bool (up != true))])] [3] ?_ ?_ ?_ ?_ ?_
                  · exact .inl ⟨rfl, K12.out.drew⟩
                  · intro s L w' h; exact trivial
                  · intro s L1 L2 w' e h; (try dsimp only at h ⊢); rw [← e 3 (by simp)]; exact h
                  · refine ⟨?_, ?_, ?_, ?_, ?_, trivial⟩ <;> (rintro s Lx w' hw hL haft hdc ρ hc hf hG hs o ho; cases ho; try dsimp only [seen] at hw hs)
                    · obtain ⟨e135, -⟩ := hs
                      rcases hw with ⟨h3, hw⟩ | ⟨h3, -⟩
                      case inr => exact absurd (hdc 3 h3 2 (by decide)) (by rw [hL]; decide)
                      exact sw (.bool true) (by have q : w'.cell? ⟨b11, 3, none⟩ = some (.bool true) := Kx.cell (i := 1) hw rfl (by rfl); go_simp) ⟨s, fun _ _ => rfl, rfl, .inl ⟨h3, hw⟩⟩
                    · obtain ⟨e134, e136, -⟩ := hs
                      rcases hw with ⟨h3, hw⟩ | ⟨h3, -⟩
                      case inr => rw [hL] at h3; cases h3
                      refine stepW_call (f := 9) (args := #[.pointer (some ⟨g, 0, none⟩), .bool true]) (by go_simp) ((kl_cut ⟨_, _, hw, D10.out⟩ true).mono ?_)
                      rintro e w9 ⟨q1, q2⟩
                      exact ⟨_, q1, s, fun _ _ => rfl, rfl, .inr ⟨rfl, q2⟩⟩
                    · obtain ⟨e139, -⟩ := hs
                      rcases hw with ⟨h3, hw⟩ | ⟨h3, hk⟩
                      case inl => exact sw (.bool true) (by have q : w'.cell? ⟨b11, 3, none⟩ = some (.bool true) := Kx.cell (i := 1) hw rfl (by rfl); go_simp) ⟨s, fun _ _ => rfl, rfl, .inl ⟨h3, hw⟩⟩
                      obtain ⟨p0, p1, hw, -⟩ := id hk
                      exact sw (.bool true) (by have q : w'.cell? ⟨b11, 3, none⟩ = some (.bool true) := Kx.cell (i := 1) hw rfl (by rfl); go_simp) ⟨s, fun _ _ => rfl, rfl, .inr ⟨h3, hk⟩⟩
                    · obtain ⟨e138, e140, -⟩ := hs
                      exact sw (w' := w') (.bool (up != true)) (by cases up <;> go_simp) ⟨s, fun _ _ => rfl, rfl, by simpa [upd] using hw⟩
                    · obtain ⟨e137, e141, -⟩ := hs
                      exact sw (w' := w') (.bool false) (by cases up <;> go_simp) ⟨s, fun _ _ => rfl, rfl, by simpa [upd] using hw⟩
                  · rintro s Lx w13 hw hall
                    rcases hw with ⟨h3, -⟩ | ⟨-, hw⟩
                    case inl => rw [hall 3 (by decide)] at h3; cases h3
                    simp only [List.toList_toArray, putsZ_some, putsZ_none, putsZ_nil, List.setIfInBounds_toArray, List.set_cons_zero, List.set_cons_succ]
                    obtain ⟨u13a, u13b, hK, hD⟩ := hw.ex
                    have K13 := Lib.hid (show Kx w1 [(b3, #[v0, v1], 27), (b11, #[.int .u8 (wh : Nat), .int .i64 1, .string da, .bool true], 29)] ((bdL w1.heap.size g true u13a u13b a b).and ((bdS v0 a).and (bdS v1 b))) w13 from hK)
                    have D13 := Lib.hid hD
                    clear hK hD hw hall
                    go_upto_region 32 with fail
                    refine wp_region_lit ?_
                    refine wv (.pointer (some ⟨b11, 3, none⟩)) ?_
                    (try simp only [Act.put, gA, gS, gZ, sA, sZ, sS])
                    refine wv (.bool true) ?_ (hrun := by have q : w13.cell? ⟨b11, 3, none⟩ = some (.bool true) := K13.out.cell (i := 1) rfl (by rfl); go_simp)
                    (try simp only [Act.put, gA, gS, gZ, sA, sZ, sS])
                    refine wv (.bool true) ?_
                    (try simp only [Act.put, gA, gS, gZ, sA, sZ, sS])
                    refine wpList_nil ?_
                    go_upto_region 33 with fail
                    refine wp_region_lit ?_
                    refine wv (.bool true) ?_
                    (try simp only [Act.put, gA, gS, gZ, sA, sZ, sS])
                    refine wv (.bool false) ?_
                    (try simp only [Act.put, gA, gS, gZ, sA, sZ, sS])
                    refine wpList_nil ?_
                    go_upto_region 35 with fail
                    refine wp_region_lit ?_
                    refine wv (.int .i64 0) ?_
                    (try simp only [Act.put, gA, gS, gZ, sA, sZ, sS])
                    refine wpList_nil ?_
                    go_upto_region 36 with fail
                    refine wp_region_lit ?_
                    refine wv (.bool true) ?_
                    (try simp only [Act.put, gA, gS, gZ, sA, sZ, sS])
                    refine wpList_nil ?_
                    obtain ⟨s14q, s14c, s14e, -, -⟩ := SrcB.shape K13.out.a.2.2
                    have s14h := Lib.hid s14e
                    clear s14e
                    go_upto_region 37 with fail
                    refine wp_region_lit ?_
                    refine wv (.pointer (some ⟨b11, 1, none⟩)) ?_
                    (try simp only [Act.put, gA, gS, gZ, sA, sZ, sS])
                    refine wv (.int .i64 1) ?_ (hrun := by have q : w13.cell? ⟨b11, 1, none⟩ = some (.int .i64 1) := K13.out.cell (i := 1) rfl (by rfl); go_simp)
                    (try simp only [Act.put, gA, gS, gZ, sA, sZ, sS])
                    refine wv (.pointer (some ⟨b3, 1, none⟩)) ?_
                    (try simp only [Act.put, gA, gS, gZ, sA, sZ, sS])
                    refine wv (.slice s14q (b).length s14c) ?_ (hrun := by have q : w13.cell? ⟨b3, 1, none⟩ = some (v1) := K13.out.cell (i := 0) rfl (by rfl); rw [s14h.out] at q; go_simp)
                    (try simp only [Act.put, gA, gS, gZ, sA, sZ, sS])
                    refine wv (.int .i64 ((b).length : Nat)) ?_
                    (try simp only [Act.put, gA, gS, gZ, sA, sZ, sS])
                    refine wv (.int .i64 ((b).length : Nat)) ?_
                    (try simp only [Act.put, gA, gS, gZ, sA, sZ, sS])
                    refine wpList_nil ?_
                    go_upto_region 38 with fail
                    have HUN := Lib.hid (show unN 1 (a) (b) = (b).length from rfl)
                    refine wp_region_lit ?_
                    refine wv (.pointer (some ⟨g, 0, none⟩)) ?_
                    (try simp only [Act.put, gA, gS, gZ, sA, sZ, sS])
                    refine wl_call 11 #[.pointer (some ⟨g, 0, none⟩)] (by rfl) (by go_simp) (calls_one (up_any K13.out.a.1)) ?_; rintro _ w13 ⟨rfl, rfl⟩
                    (try simp only [Act.put, gA, gS, gZ, sA, sZ, sS])
                    refine wv (.bool true) ?_
                    (try simp only [Act.put, gA, gS, gZ, sA, sZ, sS])
                    refine wv (.bool false) ?_
                    (try simp only [Act.put, gA, gS, gZ, sA, sZ, sS])
                    refine wv (.bool false) ?_
                    (try simp only [Act.put, gA, gS, gZ, sA, sZ, sS])
                    refine wv (.pointer (some ⟨g, 0, none⟩)) ?_
                    (try simp only [Act.put, gA, gS, gZ, sA, sZ, sS])
                    refine wv (.pointer (some ⟨b11, 1, none⟩)) ?_
                    (try simp only [Act.put, gA, gS, gZ, sA, sZ, sS])
                    refine wv (.int .i64 1) ?_ (hrun := by have q : w13.cell? ⟨b11, 1, none⟩ = some (.int .i64 1) := K13.out.cell (i := 1) rfl (by rfl); go_simp)
                    (try simp only [Act.put, gA, gS, gZ, sA, sZ, sS])
                    refine wl_call 12 #[.pointer (some ⟨g, 0, none⟩), .int .i64 1] (by rfl) (by go_simp) (calls_one (under_any K13.out.a.1 1)) ?_; rintro _ w13 ⟨rfl, rfl⟩
                    rw [HUN.out]
                    (try simp only [Act.put, gA, gS, gZ, sA, sZ, sS])
                    refine wv (.int .i64 ((b).length : Nat)) ?_
                    (try simp only [Act.put, gA, gS, gZ, sA, sZ, sS])
                    refine wv (.bool false) ?_
                    (try simp only [Act.put, gA, gS, gZ, sA, sZ, sS])
                    refine wv (.bool false) ?_
                    (try simp only [Act.put, gA, gS, gZ, sA, sZ, sS])
                    refine wpList_nil ?_
                    have LN := Lib.hid (show LS w1 g b3 true (a) (b) w13 from ⟨v0, v1, KL.left (l := [(b3, #[v0, v1], 27)]) (r := [(b11, #[.int .u8 (wh : Nat), .int .i64 1, .string da, .bool true], 29)]) ⟨_, _, K13.out, D13.out⟩⟩)
                    go_wp2_with fail
                    go_roundw
                    case measure => have := HLT.out; simp only [intOf]; omega
                    case rel => exact ⟨k + 1, true, a, b, by have := HLT.out; omega, by have := HLT.out; omega, by have := HLA.out; (try simp only [List.length_append, List.length_cons, List.length_nil] at this ⊢); omega, by have := HLB.out; (try simp only [List.length_append, List.length_cons, List.length_nil] at this ⊢); omega, rfl, by go_simp, LN.out⟩
              case neg =>
                have q3 : ¬ ((r : Int) = 3) := by omega
                have q4 : ¬ ((r : Int) = 4) := by omega
                have q5 : ¬ ((r : Int) = 5) := by omega
                clear r3 r4 r5
                go_upto_region 17 with fail
                refine wp_region_lit ?_
                refine wv (.bool false) ?_
                (try simp only [Act.put, gA, gS, gZ, sA, sZ, sS])
                refine wv (.bool false) ?_
                (try simp only [Act.put, gA, gS, gZ, sA, sZ, sS])
                refine wpList_nil ?_
                go_upto_region 18 with fail
                refine wp_region_lit ?_
                refine wv (.bool false) ?_
                (try simp only [Act.put, gA, gS, gZ, sA, sZ, sS])
                refine wv (.bool false) ?_
                (try simp only [Act.put, gA, gS, gZ, sA, sZ, sS])
                refine wpList_nil ?_
                go_upto_region 29 with fail
                refine wp_region_lit ?_
                refine wv (.bool false) ?_
                (try simp only [Act.put, gA, gS, gZ, sA, sZ, sS])
                refine wv (.bool false) ?_
                (try simp only [Act.put, gA, gS, gZ, sA, sZ, sS])
                refine wpList_nil ?_
                go_upto_region 13 with fail
                clear q3 q4 q5
                cases up
                case false => as_aux_lemma =>
                  refine wp_region_lit ?_
                  refine wv (.pointer (some ⟨g, 0, none⟩)) ?_
                  (try simp only [Act.put, gA, gS, gZ, sA, sZ, sS])
                  refine wv (.pointer (some ⟨b11, 1, none⟩)) ?_
                  (try simp only [Act.put, gA, gS, gZ, sA, sZ, sS])
                  refine wv (.int .i64 1) ?_ (hrun := by have q : w12.cell? ⟨b11, 1, none⟩ = some (.int .i64 1) := K12.out.cell (i := 1) rfl (by rfl); go_simp)
                  (try simp only [Act.put, gA, gS, gZ, sA, sZ, sS])
                  refine wv (.string D) ?_
                  (try simp only [Act.put, gA, gS, gZ, sA, sZ, sS])
                  refine wl_call 10 #[.pointer (some ⟨g, 0, none⟩), .int .i64 1, .string D] (by rfl) (by go_simp) (calls_one (send_no K12.out.a.1 1 D (by simp [goes]))) ?_
                  rintro _ w12 ⟨rfl, rfl⟩
                  (try simp only [Act.put, gA, gS, gZ, sA, sZ, sS])
                  refine wv (.bool true) ?_
                  (try simp only [Act.put, gA, gS, gZ, sA, sZ, sS])
                  refine wv (.bool true) ?_
                  (try simp only [Act.put, gA, gS, gZ, sA, sZ, sS])
                  refine wv (.bool false) ?_
                  (try simp only [Act.put, gA, gS, gZ, sA, sZ, sS])
                  refine wv (.bool false) ?_
                  (try simp only [Act.put, gA, gS, gZ, sA, sZ, sS])
                  refine wv (.bool false) ?_
                  (try simp only [Act.put, gA, gS, gZ, sA, sZ, sS])
                  refine wpList_nil ?_
                  go_upto_region 15 with fail
                  refine wp_region_lit ?_
                  refine wv (.bool true) ?_
                  (try simp only [Act.put, gA, gS, gZ, sA, sZ, sS])
                  refine wv (.bool true) ?_
                  (try simp only [Act.put, gA, gS, gZ, sA, sZ, sS])
                  refine wv (.bool false) ?_
                  (try simp only [Act.put, gA, gS, gZ, sA, sZ, sS])
                  refine wv (.bool false) ?_
                  (try simp only [Act.put, gA, gS, gZ, sA, sZ, sS])
                  refine wpList_nil ?_
                  go_upto_region 35 with fail
                  refine wp_region_lit ?_
                  refine wv (.int .i64 0) ?_
                  (try simp only [Act.put, gA, gS, gZ, sA, sZ, sS])
                  refine wpList_nil ?_
                  go_upto_region 36 with fail
                  refine wp_region_lit ?_
                  refine wv (.bool true) ?_
                  (try simp only [Act.put, gA, gS, gZ, sA, sZ, sS])
                  refine wpList_nil ?_
                  obtain ⟨s14q, s14c, s14e, -, -⟩ := SrcB.shape K12.out.a.2.2
                  have s14h := Lib.hid s14e
                  clear s14e
                  go_upto_region 37 with fail
                  refine wp_region_lit ?_
                  refine wv (.pointer (some ⟨b11, 1, none⟩)) ?_
                  (try simp only [Act.put, gA, gS, gZ, sA, sZ, sS])
                  refine wv (.int .i64 1) ?_ (hrun := by have q : w12.cell? ⟨b11, 1, none⟩ = some (.int .i64 1) := K12.out.cell (i := 1) rfl (by rfl); go_simp)
                  (try simp only [Act.put, gA, gS, gZ, sA, sZ, sS])
                  refine wv (.pointer (some ⟨b3, 1, none⟩)) ?_
                  (try simp only [Act.put, gA, gS, gZ, sA, sZ, sS])
                  refine wv (.slice s14q (b).length s14c) ?_ (hrun := by have q : w12.cell? ⟨b3, 1, none⟩ = some (v1) := K12.out.cell (i := 0) rfl (by rfl); rw [s14h.out] at q; go_simp)
                  (try simp only [Act.put, gA, gS, gZ, sA, sZ, sS])
                  refine wv (.int .i64 ((b).length : Nat)) ?_
                  (try simp only [Act.put, gA, gS, gZ, sA, sZ, sS])
                  refine wv (.int .i64 ((b).length : Nat)) ?_
                  (try simp only [Act.put, gA, gS, gZ, sA, sZ, sS])
                  refine wpList_nil ?_
                  go_upto_region 38 with fail
                  have HUN := Lib.hid (show unN 1 (a) (b) = (b).length from rfl)
                  refine wp_region_lit ?_
                  refine wv (.pointer (some ⟨g, 0, none⟩)) ?_
                  (try simp only [Act.put, gA, gS, gZ, sA, sZ, sS])
                  refine wl_call 11 #[.pointer (some ⟨g, 0, none⟩)] (by rfl) (by go_simp) (calls_one (up_any K12.out.a.1)) ?_; rintro _ w12 ⟨rfl, rfl⟩
                  (try simp only [Act.put, gA, gS, gZ, sA, sZ, sS])
                  refine wv (.bool false) ?_
                  (try simp only [Act.put, gA, gS, gZ, sA, sZ, sS])
                  refine wv (.bool false) ?_
                  (try simp only [Act.put, gA, gS, gZ, sA, sZ, sS])
                  refine wv (.bool false) ?_
                  (try simp only [Act.put, gA, gS, gZ, sA, sZ, sS])
                  refine wv (.pointer (some ⟨g, 0, none⟩)) ?_
                  (try simp only [Act.put, gA, gS, gZ, sA, sZ, sS])
                  refine wv (.pointer (some ⟨b11, 1, none⟩)) ?_
                  (try simp only [Act.put, gA, gS, gZ, sA, sZ, sS])
                  refine wv (.int .i64 1) ?_ (hrun := by have q : w12.cell? ⟨b11, 1, none⟩ = some (.int .i64 1) := K12.out.cell (i := 1) rfl (by rfl); go_simp)
                  (try simp only [Act.put, gA, gS, gZ, sA, sZ, sS])
                  refine wl_call 12 #[.pointer (some ⟨g, 0, none⟩), .int .i64 1] (by rfl) (by go_simp) (calls_one (under_any K12.out.a.1 1)) ?_; rintro _ w12 ⟨rfl, rfl⟩
                  rw [HUN.out]
                  (try simp only [Act.put, gA, gS, gZ, sA, sZ, sS])
                  refine wv (.int .i64 ((b).length : Nat)) ?_
                  (try simp only [Act.put, gA, gS, gZ, sA, sZ, sS])
                  refine wv (.bool false) ?_
                  (try simp only [Act.put, gA, gS, gZ, sA, sZ, sS])
                  refine wv (.bool false) ?_
                  (try simp only [Act.put, gA, gS, gZ, sA, sZ, sS])
                  refine wpList_nil ?_
                  have LN := Lib.hid (show LS w1 g b3 false (a) (b) w12 from ⟨v0, v1, KL.left (l := [(b3, #[v0, v1], 27)]) (r := [(b11, #[.int .u8 (wh : Nat), .int .i64 1, .string da, .bool xu], 29)]) ⟨_, _, K12.out, D10.out⟩⟩)
                  go_wp2_with fail
                  go_roundw
                  case measure => have := HLT.out; simp only [intOf]; omega
                  case rel => exact ⟨k + 1, false, a, b, by have := HLT.out; omega, by have := HLT.out; omega, by have := HLA.out; (try simp only [List.length_append, List.length_cons, List.length_nil] at this ⊢); omega, by have := HLB.out; (try simp only [List.length_append, List.length_cons, List.length_nil] at this ⊢); omega, rfl, by go_simp, LN.out⟩
                case true => as_aux_lemma =>
                  refine wp_region_lit ?_
                  refine wv (.pointer (some ⟨g, 0, none⟩)) ?_
                  (try simp only [Act.put, gA, gS, gZ, sA, sZ, sS])
                  refine wv (.pointer (some ⟨b11, 1, none⟩)) ?_
                  (try simp only [Act.put, gA, gS, gZ, sA, sZ, sS])
                  refine wv (.int .i64 1) ?_ (hrun := by have q : w12.cell? ⟨b11, 1, none⟩ = some (.int .i64 1) := K12.out.cell (i := 1) rfl (by rfl); go_simp)
                  (try simp only [Act.put, gA, gS, gZ, sA, sZ, sS])
                  refine wv (.string D) ?_
                  (try simp only [Act.put, gA, gS, gZ, sA, sZ, sS])
                  refine wl_call 10 #[.pointer (some ⟨g, 0, none⟩), .int .i64 1, .string D] (by rfl) (by go_simp) (calls_one (send_yes1 K12.out.a.1 K12.out.below.size D (by have := HLB.out; have := HLT.out; omega))) ?_
                  rintro _ w13 ⟨rfl, p13, q13, hR⟩
                  (try simp only [Act.put, gA, gS, gZ, sA, sZ, sS])
                  have K13x := KL.of K12.out D10.out hR
                  obtain ⟨u13a, u13b, hK, hD⟩ := K13x.ex
                  have K13 := Lib.hid (show Kx w1 [(b3, #[v0, v1], 27), (b11, #[.int .u8 (wh : Nat), .int .i64 1, .string da, .bool xu], 29)] ((bdL w1.heap.size g true u13a u13b a (b ++ [D])).and ((bdS v0 a).and (bdS v1 b))) w13 from hK)
                  have D13 := Lib.hid hD
                  clear hK hD hR K13x
                  refine wv (.bool true) ?_
                  (try simp only [Act.put, gA, gS, gZ, sA, sZ, sS])
                  refine wv (.bool true) ?_
                  (try simp only [Act.put, gA, gS, gZ, sA, sZ, sS])
                  refine wv (.bool true) ?_
                  (try simp only [Act.put, gA, gS, gZ, sA, sZ, sS])
                  refine wv (.bool true) ?_
                  (try simp only [Act.put, gA, gS, gZ, sA, sZ, sS])
                  refine wv (.bool false) ?_
                  (try simp only [Act.put, gA, gS, gZ, sA, sZ, sS])
                  refine wpList_nil ?_
                  go_upto_region 15 with fail
                  refine wp_region_lit ?_
                  refine wv (.bool true) ?_
                  (try simp only [Act.put, gA, gS, gZ, sA, sZ, sS])
                  refine wv (.bool true) ?_
                  (try simp only [Act.put, gA, gS, gZ, sA, sZ, sS])
                  refine wv (.bool true) ?_
                  (try simp only [Act.put, gA, gS, gZ, sA, sZ, sS])
                  refine wv (.bool true) ?_
                  (try simp only [Act.put, gA, gS, gZ, sA, sZ, sS])
                  refine wpList_nil ?_
                  go_upto_region 16 with fail
                  refine rk (fun (s : Value × Value × Value × Value) => [.pointer (some ⟨b11, 1, none⟩), .int .i64 1, s.1, .pointer (some ⟨b11, 1, none⟩), .int .i64 1, .pointer (some ⟨b3, 1, none⟩), v1, s.2.1, .string D, s.2.2.1, s.2.2.2, .pointer (some ⟨b3, 1, none⟩), undef]) (fun s Lx w' => (Lx 12 = false ∧ InsW 9 1 stC w13 b D [] (Lx 2) (Lx 7) (Lx 9) (Lx 10) false s.1 s.2.1 s.2.2.1 s.2.2.2 undef w') ∨ (Lx 12 = true ∧ KL w1 [(b3, #[v0, s.2.2.2], 27), (b11, #[.int .u8 (wh : Nat), .int .i64 1, .string da, .bool xu], 29)] g true a (b ++ [D]) (((bdS v0 a).and (bdS v1 b)).and (bdS s.2.2.2 (b ++ [D]))) w')) ((undef, undef, undef, undef)) [] [] [(1, fun s => [(67, .pointer (some ⟨b11, 1, none⟩))]), (2, fun s => []), (4, fun s => [(70, .pointer (some ⟨b11, 1, none⟩))]), (6, fun s => [(72, .pointer (some ⟨b3, 1, none⟩))]), (7, fun s => [(69, s.1), (73, v1)]), (9, fun s => [(75, .string D)]), (10, fun s => [(74, s.2.1), (76, s.2.2.1)]), (12, fun s => [(78, .pointer (some ⟨b3, 1, none⟩)), (77, s.2.2.2)])] [2, 7, 9, 10, 12] ?_ ?_ ?_ ?_ ?_
                  · exact .inl ⟨rfl, InsW.start w13⟩
                  · intro s L w' h; exact trivial
                  · intro s L1 L2 w' e h; (try dsimp only at h ⊢); rw [← e 2 (by simp), ← e 7 (by simp), ← e 9 (by simp), ← e 10 (by simp), ← e 12 (by simp)]; exact h
                  · refine ⟨?_, ?_, ?_, ?_, ?_, ?_, ?_, ?_, trivial⟩ <;> (rintro s Lx w' hw hL haft hdc ρ hc hf hG hs o ho; cases ho; try dsimp only [seen] at hw hs)
                    · obtain ⟨e67, -⟩ := hs
                      rcases hw with ⟨h12, hw⟩ | ⟨h12, -⟩
                      case inr => exact absurd (hdc 12 h12 1 (by decide)) (by rw [hL]; decide)
                      exact sw (w' := w') (.int .i64 1) (by have q : w'.cell? ⟨b11, 1, none⟩ = some (.int .i64 1) := (K13.out.next hw.below).cell (i := 1) rfl (by rfl); go_simp) ⟨s, fun _ _ => rfl, rfl, .inl ⟨h12, hw⟩⟩
                    · skip
                      rcases hw with ⟨h12, hw⟩ | ⟨h12, -⟩
                      case inr => exact absurd (hdc 12 h12 2 (by decide)) (by rw [hL]; decide)
                      exact sw (w' := w'.alloc (.cells #[] 9)) (.slice (some ⟨w'.heap.size, 0, none⟩) 0 0) (by go_simp) ⟨(.slice (some ⟨w'.heap.size, 0, none⟩) 0 0, s.2), vs_other (i := 2) rfl hL, rfl, .inl ⟨h12, hw.make0 hL⟩⟩
                    · obtain ⟨e70, -⟩ := hs
                      rcases hw with ⟨h12, hw⟩ | ⟨h12, -⟩
                      case inr => exact absurd (hdc 12 h12 4 (by decide)) (by rw [hL]; decide)
                      exact sw (w' := w') (.int .i64 1) (by have q : w'.cell? ⟨b11, 1, none⟩ = some (.int .i64 1) := (K13.out.next hw.below).cell (i := 1) rfl (by rfl); go_simp) ⟨s, fun _ _ => rfl, rfl, .inl ⟨h12, hw⟩⟩
                    · obtain ⟨e72, -⟩ := hs
                      rcases hw with ⟨h12, hw⟩ | ⟨h12, -⟩
                      case inr => exact absurd (hdc 12 h12 6 (by decide)) (by rw [hL]; decide)
                      exact sw (w' := w') v1 (by have q : w'.cell? ⟨b3, 1, none⟩ = some v1 := (K13.out.next hw.below).cell (i := 0) rfl (by rfl); go_simp) ⟨s, fun _ _ => rfl, rfl, .inl ⟨h12, hw⟩⟩
                    · obtain ⟨e69, e73, -⟩ := hs
                      rcases hw with ⟨h12, hw⟩ | ⟨h12, -⟩
                      case inr => exact absurd (hdc 12 h12 7 (by decide)) (by rw [hL]; decide)
                      obtain ⟨u, w2, hrun, hw2⟩ := hw.app4 stT (haft 2 (by decide)) hL (SrcB.src (K13.out.next hw.below).a.2.2) (by have := HLB.out; have := HLT.out; omega) 26
                      exact stepW_app (.tmp 69) (.tmp 73) 26 rfl _ _ u e69 e73 hrun ⟨(s.1, u, s.2.2), vs_other (i := 7) rfl hL, rfl, .inl ⟨h12, hw2⟩⟩
                    · obtain ⟨e75, -⟩ := hs
                      rcases hw with ⟨h12, hw⟩ | ⟨h12, -⟩
                      case inr => exact absurd (hdc 12 h12 9 (by decide)) (by rw [hL]; decide)
                      exact sw (w' := w'.alloc (.cells #[.string D] 9)) (.slice (some ⟨w'.heap.size, 0, none⟩) 1 1) (run_bs1r 26 (.tmp 75) rfl (.string D) _ e75 (one_st D w')) ⟨(s.1, s.2.1, .slice (some ⟨w'.heap.size, 0, none⟩) 1 1, s.2.2.2), vs_other (i := 9) rfl hL, rfl, .inl ⟨h12, hw.make6 stT hL _ rfl⟩⟩
                    · obtain ⟨e74, e76, -⟩ := hs
                      rcases hw with ⟨h12, hw⟩ | ⟨h12, -⟩
                      case inr => exact absurd (hdc 12 h12 10 (by decide)) (by rw [hL]; decide)
                      obtain ⟨u, w2, hrun, hw2⟩ := hw.app7 stT (haft 7 (by decide)) (haft 9 (by decide)) hL (by have := HLB.out; have := HLT.out; omega) 26
                      exact stepW_app (.tmp 74) (.tmp 76) 26 rfl _ _ u e74 e76 hrun ⟨(s.1, s.2.1, s.2.2.1, u), vs_other (i := 10) rfl hL, rfl, .inl ⟨h12, hw2⟩⟩
                    · obtain ⟨e78, e77, -⟩ := hs
                      rcases hw with ⟨h12, hw⟩ | ⟨h12, -⟩
                      case inr => rw [hL] at h12; cases h12
                      obtain ⟨sa, sb, sc, sd⟩ := s
                      dsimp only at hw e77
                      have ow := hw.p7 (haft 10 (by decide)) rfl
                      obtain ⟨q', r', eu, -⟩ := ow.shape
                      subst eu
                      have kf := KL.set (kl_put ⟨_, _, K13.out, D13.out⟩ hw.below ow) (i := 0) rfl 1 (.slice q' (b ++ [D]).length r')
                      exact ss 26 (.tmp 78) (.tmp 77) rfl ⟨b3, 1, none⟩ (.slice q' (b ++ [D]).length r') e78 e77 (kx_run_set (K13.out.next hw.below) (i := 0) rfl 26 1 v1 (.slice q' (b ++ [D]).length r') (by rfl) (fun W h1 h2 => by go_simp)) ⟨(sa, sb, sc, .slice q' (b ++ [D]).length r'), fun _ _ => rfl, rfl, .inr ⟨rfl, kf⟩⟩
                  · rintro ⟨sa, sb, sc, sd⟩ Lx wz hw hall
                    rcases hw with ⟨h12, -⟩ | ⟨-, hw⟩
                    case inl => rw [hall 12 (by decide)] at h12; cases h12
                    simp only [List.toList_toArray, putsZ_some, putsZ_none, putsZ_nil, List.setIfInBounds_toArray, List.set_cons_zero, List.set_cons_succ]
                    obtain ⟨u14a, u14b, hK, hD⟩ := (KL.turn (C' := (bdS v0 a).and (bdS sd (b ++ [D]))) hw (fun h => ⟨h.1.1, h.2⟩) (fun k q => q.elim (fun q => .inl (.inl q)) (fun q => .inr q))).ex
                    have K14 := Lib.hid (show Kx w1 [(b3, #[v0, sd], 27), (b11, #[.int .u8 (wh : Nat), .int .i64 1, .string da, .bool xu], 29)] ((bdL w1.heap.size g true u14a u14b a (b ++ [D])).and ((bdS v0 a).and (bdS sd (b ++ [D])))) wz from hK)
                    have D14 := Lib.hid hD
                    clear hK hD hw hall
                    go_upto_region 35 with fail
                    refine wp_region_lit ?_
                    refine wv (.int .i64 0) ?_
                    (try simp only [Act.put, gA, gS, gZ, sA, sZ, sS])
                    refine wpList_nil ?_
                    go_upto_region 36 with fail
                    refine wp_region_lit ?_
                    refine wv (.bool true) ?_
                    (try simp only [Act.put, gA, gS, gZ, sA, sZ, sS])
                    refine wpList_nil ?_
                    obtain ⟨s15q, s15c, s15e, -, -⟩ := SrcB.shape K14.out.a.2.2
                    have s15h := Lib.hid s15e
                    clear s15e
                    go_upto_region 37 with fail
                    refine wp_region_lit ?_
                    refine wv (.pointer (some ⟨b11, 1, none⟩)) ?_
                    (try simp only [Act.put, gA, gS, gZ, sA, sZ, sS])
                    refine wv (.int .i64 1) ?_ (hrun := by have q : wz.cell? ⟨b11, 1, none⟩ = some (.int .i64 1) := K14.out.cell (i := 1) rfl (by rfl); go_simp)
                    (try simp only [Act.put, gA, gS, gZ, sA, sZ, sS])
                    refine wv (.pointer (some ⟨b3, 1, none⟩)) ?_
                    (try simp only [Act.put, gA, gS, gZ, sA, sZ, sS])
                    refine wv (.slice s15q ((b ++ [D])).length s15c) ?_ (hrun := by have q : wz.cell? ⟨b3, 1, none⟩ = some (sd) := K14.out.cell (i := 0) rfl (by rfl); rw [s15h.out] at q; go_simp)
                    (try simp only [Act.put, gA, gS, gZ, sA, sZ, sS])
                    refine wv (.int .i64 (((b ++ [D])).length : Nat)) ?_
                    (try simp only [Act.put, gA, gS, gZ, sA, sZ, sS])
                    refine wv (.int .i64 (((b ++ [D])).length : Nat)) ?_
                    (try simp only [Act.put, gA, gS, gZ, sA, sZ, sS])
                    refine wpList_nil ?_
                    go_upto_region 38 with fail
                    have HUN := Lib.hid (show unN 1 (a) ((b ++ [D])) = ((b ++ [D])).length from rfl)
                    refine wp_region_lit ?_
                    refine wv (.pointer (some ⟨g, 0, none⟩)) ?_
                    (try simp only [Act.put, gA, gS, gZ, sA, sZ, sS])
                    refine wl_call 11 #[.pointer (some ⟨g, 0, none⟩)] (by rfl) (by go_simp) (calls_one (up_any K14.out.a.1)) ?_; rintro _ wz ⟨rfl, rfl⟩
                    (try simp only [Act.put, gA, gS, gZ, sA, sZ, sS])
                    refine wv (.bool true) ?_
                    (try simp only [Act.put, gA, gS, gZ, sA, sZ, sS])
                    refine wv (.bool false) ?_
                    (try simp only [Act.put, gA, gS, gZ, sA, sZ, sS])
                    refine wv (.bool false) ?_
                    (try simp only [Act.put, gA, gS, gZ, sA, sZ, sS])
                    refine wv (.pointer (some ⟨g, 0, none⟩)) ?_
                    (try simp only [Act.put, gA, gS, gZ, sA, sZ, sS])
                    refine wv (.pointer (some ⟨b11, 1, none⟩)) ?_
                    (try simp only [Act.put, gA, gS, gZ, sA, sZ, sS])
                    refine wv (.int .i64 1) ?_ (hrun := by have q : wz.cell? ⟨b11, 1, none⟩ = some (.int .i64 1) := K14.out.cell (i := 1) rfl (by rfl); go_simp)
                    (try simp only [Act.put, gA, gS, gZ, sA, sZ, sS])
                    refine wl_call 12 #[.pointer (some ⟨g, 0, none⟩), .int .i64 1] (by rfl) (by go_simp) (calls_one (under_any K14.out.a.1 1)) ?_; rintro _ wz ⟨rfl, rfl⟩
                    rw [HUN.out]
                    (try simp only [Act.put, gA, gS, gZ, sA, sZ, sS])
                    refine wv (.int .i64 (((b ++ [D])).length : Nat)) ?_
                    (try simp only [Act.put, gA, gS, gZ, sA, sZ, sS])
                    refine wv (.bool false) ?_
                    (try simp only [Act.put, gA, gS, gZ, sA, sZ, sS])
                    refine wv (.bool false) ?_
                    (try simp only [Act.put, gA, gS, gZ, sA, sZ, sS])
                    refine wpList_nil ?_
                    have LN := Lib.hid (show LS w1 g b3 true (a) ((b ++ [D])) wz from ⟨v0, sd, KL.left (l := [(b3, #[v0, sd], 27)]) (r := [(b11, #[.int .u8 (wh : Nat), .int .i64 1, .string da, .bool xu], 29)]) ⟨_, _, K14.out, D14.out⟩⟩)
                    go_wp2_with fail
                    go_roundw
                    case measure => have := HLT.out; simp only [intOf]; omega
                    case rel => exact ⟨k + 1, true, a, (b ++ [D]), by have := HLT.out; omega, by have := HLT.out; omega, by have := HLA.out; (try simp only [List.length_append, List.length_cons, List.length_nil] at this ⊢); omega, by have := HLB.out; (try simp only [List.length_append, List.length_cons, List.length_nil] at this ⊢); omega, rfl, by go_simp, LN.out⟩
        · have HE := Lib.hid (And.intro e0 e1)
          go_upto_region 10 with fail
          refine wp_region_lit ?_
          refine wv (.pointer (some ⟨b11, 1, none⟩)) ?_
          (try simp only [Act.put, gA, gS, gZ, sA, sZ, sS])
          refine wv (.int .i64 fr) ?_ (hrun := by have q : w12.cell? ⟨b11, 1, none⟩ = some (.int .i64 fr) := K12.out.cell (i := 1) rfl (by rfl); go_simp)
          (try simp only [Act.put, gA, gS, gZ, sA, sZ, sS])
          refine wv (.bool false) ?_
          (try simp only [Act.put, gA, gS, gZ, sA, sZ, sS])
          refine wv (.bool false) ?_
          (try simp only [Act.put, gA, gS, gZ, sA, sZ, sS])
          refine wv (.pointer (some ⟨b11, 1, none⟩)) ?_
          (try simp only [Act.put, gA, gS, gZ, sA, sZ, sS])
          refine wv (.int .i64 fr) ?_ (hrun := by have q : w12.cell? ⟨b11, 1, none⟩ = some (.int .i64 fr) := K12.out.cell (i := 1) rfl (by rfl); go_simp)
          (try simp only [Act.put, gA, gS, gZ, sA, sZ, sS])
          refine wv (.bool false) ?_
          (try simp only [Act.put, gA, gS, gZ, sA, sZ, sS])
          refine wv (.bool false) ?_ (hrun := run_pick_no (.tmp 38) (.const (.bool true)) (.tmp 41) _ rfl rfl rfl)
          (try simp only [Act.put, gA, gS, gZ, sA, sZ, sS])
          refine wv (.bool false) ?_
          (try simp only [Act.put, gA, gS, gZ, sA, sZ, sS])
          refine wpList_nil ?_
          go_upto_region 11 with fail
          refine wp_region_lit ?_
          refine wv (.pointer (some ⟨b11, 2, none⟩)) ?_
          (try simp only [Act.put, gA, gS, gZ, sA, sZ, sS])
          refine wv (.string da) ?_ (hrun := by have q : w12.cell? ⟨b11, 2, none⟩ = some (.string da) := K12.out.cell (i := 1) rfl (by rfl); go_simp)
          (try simp only [Act.put, gA, gS, gZ, sA, sZ, sS])
          refine wv (.pointer (some ⟨b11, 2, none⟩)) ?_
          (try simp only [Act.put, gA, gS, gZ, sA, sZ, sS])
          refine wv (.string da) ?_ (hrun := by have q : w12.cell? ⟨b11, 2, none⟩ = some (.string da) := K12.out.cell (i := 1) rfl (by rfl); go_simp)
          (try simp only [Act.put, gA, gS, gZ, sA, sZ, sS])
          refine wv (.int .i64 (da.size : Nat)) ?_
          (try simp only [Act.put, gA, gS, gZ, sA, sZ, sS])
          refine wv (.int .i64 (dn : Nat)) ?_ (hrun := by have q := HDN.out; go_simp; try omega)
          (try simp only [Act.put, gA, gS, gZ, sA, sZ, sS])
          refine wv (.string D) ?_ (hrun := by have q := HD.out; go_simp <;> (intro hz; exfalso; omega))
          (try simp only [Act.put, gA, gS, gZ, sA, sZ, sS])
          refine wv (.string D) ?_
          (try simp only [Act.put, gA, gS, gZ, sA, sZ, sS])
          refine wpList_nil ?_
          go_upto_region 12 with fail
          refine wp_region_lit ?_
          refine wv (.pointer (some ⟨b11, 0, none⟩)) ?_
          (try simp only [Act.put, gA, gS, gZ, sA, sZ, sS])
          refine wv (.int .u8 (wh : Nat)) ?_ (hrun := by have q : w12.cell? ⟨b11, 0, none⟩ = some (.int .u8 (wh : Nat)) := K12.out.cell (i := 1) rfl (by rfl); go_simp)
          (try simp only [Act.put, gA, gS, gZ, sA, sZ, sS])
          refine wv (.int .u8 (r : Nat)) ?_ (hrun := by go_simp; rw [Int.tmod_eq_emod_of_nonneg (by omega)]; have q := HR.out; omega)
          (try simp only [Act.put, gA, gS, gZ, sA, sZ, sS])
          refine wpList_nil ?_
          by_cases r3 : r = 3
          case pos => as_aux_lemma =>
            subst r3
            go_upto_region 17 with fail
            refine wp_region_lit ?_
            refine wv (.bool true) ?_
            (try simp only [Act.put, gA, gS, gZ, sA, sZ, sS])
            refine wv (.bool true) ?_
            (try simp only [Act.put, gA, gS, gZ, sA, sZ, sS])
            refine wpList_nil ?_
            go_upto_region 19 with fail
            refine wp_region_quiet (C := fun W => Kx w1 [(b3, #[v0, v1], 27), (b11, #[.int .u8 (wh : Nat), .int .i64 fr, .string da, .bool xu], 29)] ((bdL w1.heap.size g up u0 u1 a b).and ((bdS v0 a).and (bdS v1 b))) W) (by kernel_rfl) (by kernel_rfl) K12.out.drew ?_
            refine qv (.bool false) ?_
            (try simp only [Act.put, gA, gS, gZ, sA, sZ, sS])
            refine qv (.bool false) ?_
            (try simp only [Act.put, gA, gS, gZ, sA, sZ, sS])
            refine q_skip (by kernel_rfl) ?_
            (try simp only [Act.put, gA, gS, gZ, sA, sZ, sS])
            refine q_skip (by kernel_rfl) ?_
            (try simp only [Act.put, gA, gS, gZ, sA, sZ, sS])
            refine q_skip (by kernel_rfl) ?_
            (try simp only [Act.put, gA, gS, gZ, sA, sZ, sS])
            refine q_skip (by kernel_rfl) ?_
            (try simp only [Act.put, gA, gS, gZ, sA, sZ, sS])
            refine q_skip (by kernel_rfl) ?_
            (try simp only [Act.put, gA, gS, gZ, sA, sZ, sS])
            refine q_skip (by kernel_rfl) ?_
            (try simp only [Act.put, gA, gS, gZ, sA, sZ, sS])
            refine q_skip (by kernel_rfl) ?_
            (try simp only [Act.put, gA, gS, gZ, sA, sZ, sS])
            refine qv (.bool false) ?_ (hv := fun wv hC => run_pick_no (.tmp 83) (.tmp 90) (.const (.bool false)) _ rfl rfl rfl)
            (try simp only [Act.put, gA, gS, gZ, sA, sZ, sS])
            refine qv (.string ⟨#[]⟩) ?_
            (try simp only [Act.put, gA, gS, gZ, sA, sZ, sS])
            refine qv (.bool false) ?_
            (try simp only [Act.put, gA, gS, gZ, sA, sZ, sS])
            refine wpQuiet_nil ?_
            intro w13 hC
            have K13 := Lib.hid (show Kx w1 [(b3, #[v0, v1], 27), (b11, #[.int .u8 (wh : Nat), .int .i64 fr, .string da, .bool xu], 29)] ((bdL w1.heap.size g up u0 u1 a b).and ((bdS v0 a).and (bdS v1 b))) w13 from hC)
            clear hC
            go_upto_region 20 with fail
            refine wp_region_lit ?_
            refine wv (.bool false) ?_
            (try simp only [Act.put, gA, gS, gZ, sA, sZ, sS])
            refine wpList_nil ?_
            go_upto_region 23 with fail
            refine wp_region_lit ?_
            refine wv (.pointer (some ⟨b11, 0, none⟩)) ?_
            (try simp only [Act.put, gA, gS, gZ, sA, sZ, sS])
            refine wv (.int .u8 (wh : Nat)) ?_ (hrun := by have q : w13.cell? ⟨b11, 0, none⟩ = some (.int .u8 (wh : Nat)) := K13.out.cell (i := 1) rfl (by rfl); go_simp)
            (try simp only [Act.put, gA, gS, gZ, sA, sZ, sS])
            refine wv (.int .u8 3) ?_ (hrun := by go_simp; rw [Int.tmod_eq_emod_of_nonneg (by omega)]; have q := HR.out; omega)
            (try simp only [Act.put, gA, gS, gZ, sA, sZ, sS])
            refine wv (.bool false) ?_
            (try simp only [Act.put, gA, gS, gZ, sA, sZ, sS])
            refine wpList_nil ?_
            go_upto_region 26 with fail
            refine wp_region_lit ?_
            refine wv (.pointer (some ⟨g, 0, none⟩)) ?_
            (try simp only [Act.put, gA, gS, gZ, sA, sZ, sS])
            refine wv (.pointer (some ⟨b11, 1, none⟩)) ?_
            (try simp only [Act.put, gA, gS, gZ, sA, sZ, sS])
            refine wv (.int .i64 fr) ?_ (hrun := by have q : w13.cell? ⟨b11, 1, none⟩ = some (.int .i64 fr) := K13.out.cell (i := 1) rfl (by rfl); go_simp)
            (try simp only [Act.put, gA, gS, gZ, sA, sZ, sS])
            refine wl_call 8 #[.pointer (some ⟨g, 0, none⟩), .int .i64 fr] (by rfl) (by go_simp) (calls_one (come_no K13.out.a.1 fr (by unfold unN; rw [if_neg HE.out.1, if_neg HE.out.2]))) ?_
            rintro _ w13 ⟨rfl, rfl⟩
            (try simp only [Act.put, gA, gS, gZ, sA, sZ, sS])
            refine wv (.tuple #[.string ⟨#[]⟩, .bool false]) ?_
            (try simp only [Act.put, gA, gS, gZ, sA, sZ, sS])
            refine wv (.string ⟨#[]⟩) ?_
            (try simp only [Act.put, gA, gS, gZ, sA, sZ, sS])
            refine wv (.bool false) ?_
            (try simp only [Act.put, gA, gS, gZ, sA, sZ, sS])
            refine wv (.string ⟨#[]⟩) ?_
            (try simp only [Act.put, gA, gS, gZ, sA, sZ, sS])
            refine wv (.bool false) ?_
            (try simp only [Act.put, gA, gS, gZ, sA, sZ, sS])
            refine wpList_nil ?_
            go_upto_region 27 with fail
            refine wp_region_lit ?_
            refine wv (.string ⟨#[]⟩) ?_
            (try simp only [Act.put, gA, gS, gZ, sA, sZ, sS])
            refine wv (.string ⟨#[]⟩) ?_
            (try simp only [Act.put, gA, gS, gZ, sA, sZ, sS])
            refine wv (.bool false) ?_ (hrun := by go_simp)
            (try simp only [Act.put, gA, gS, gZ, sA, sZ, sS])
            refine wv (.bool false) ?_
            (try simp only [Act.put, gA, gS, gZ, sA, sZ, sS])
            refine wv (.bool false) ?_
            (try simp only [Act.put, gA, gS, gZ, sA, sZ, sS])
            refine wv (.bool false) ?_
            (try simp only [Act.put, gA, gS, gZ, sA, sZ, sS])
            refine wv (.bool false) ?_
            (try simp only [Act.put, gA, gS, gZ, sA, sZ, sS])
            refine wv (.bool false) ?_
            (try simp only [Act.put, gA, gS, gZ, sA, sZ, sS])
            refine wpList_nil ?_
            go_upto_region 35 with fail
            refine wp_region_lit ?_
            refine wv (.int .i64 0) ?_
            (try simp only [Act.put, gA, gS, gZ, sA, sZ, sS])
            refine wpList_nil ?_
            go_upto_region 36 with fail
            refine wp_region_lit ?_
            refine wv (.bool false) ?_
            (try simp only [Act.put, gA, gS, gZ, sA, sZ, sS])
            refine wpList_nil ?_
            go_upto_region 38 with fail
            have HUN := Lib.hid (show unN fr (a) (b) = 0 by unfold unN; rw [if_neg HE.out.1, if_neg HE.out.2])
            refine wp_region_lit ?_
            refine wv (.pointer (some ⟨g, 0, none⟩)) ?_
            (try simp only [Act.put, gA, gS, gZ, sA, sZ, sS])
            refine wl_call 11 #[.pointer (some ⟨g, 0, none⟩)] (by rfl) (by go_simp) (calls_one (up_any K13.out.a.1)) ?_; rintro _ w13 ⟨rfl, rfl⟩
            (try simp only [Act.put, gA, gS, gZ, sA, sZ, sS])
            refine wv (.bool up) ?_
            (try simp only [Act.put, gA, gS, gZ, sA, sZ, sS])
            refine wv (.bool false) ?_
            (try simp only [Act.put, gA, gS, gZ, sA, sZ, sS])
            refine wv (.bool false) ?_
            (try simp only [Act.put, gA, gS, gZ, sA, sZ, sS])
            refine wv (.pointer (some ⟨g, 0, none⟩)) ?_
            (try simp only [Act.put, gA, gS, gZ, sA, sZ, sS])
            refine wv (.pointer (some ⟨b11, 1, none⟩)) ?_
            (try simp only [Act.put, gA, gS, gZ, sA, sZ, sS])
            refine wv (.int .i64 fr) ?_ (hrun := by have q : w13.cell? ⟨b11, 1, none⟩ = some (.int .i64 fr) := K13.out.cell (i := 1) rfl (by rfl); go_simp)
            (try simp only [Act.put, gA, gS, gZ, sA, sZ, sS])
            refine wl_call 12 #[.pointer (some ⟨g, 0, none⟩), .int .i64 fr] (by rfl) (by go_simp) (calls_one (under_any K13.out.a.1 fr)) ?_; rintro _ w13 ⟨rfl, rfl⟩
            rw [HUN.out]
            (try simp only [Act.put, gA, gS, gZ, sA, sZ, sS])
            refine wv (.int .i64 0) ?_
            (try simp only [Act.put, gA, gS, gZ, sA, sZ, sS])
            refine wv (.bool false) ?_
            (try simp only [Act.put, gA, gS, gZ, sA, sZ, sS])
            refine wv (.bool false) ?_
            (try simp only [Act.put, gA, gS, gZ, sA, sZ, sS])
            refine wpList_nil ?_
            have LN := Lib.hid (show LS w1 g b3 up (a) (b) w13 from ⟨v0, v1, KL.left (l := [(b3, #[v0, v1], 27)]) (r := [(b11, #[.int .u8 (wh : Nat), .int .i64 fr, .string da, .bool xu], 29)]) ⟨_, _, K13.out, D10.out⟩⟩)
            go_wp2_with fail
            go_roundw
            case measure => have := HLT.out; simp only [intOf]; omega
            case rel => exact ⟨k + 1, up, a, b, by have := HLT.out; omega, by have := HLT.out; omega, by have := HLA.out; (try simp only [List.length_append, List.length_cons, List.length_nil] at this ⊢); omega, by have := HLB.out; (try simp only [List.length_append, List.length_cons, List.length_nil] at this ⊢); omega, rfl, by go_simp, LN.out⟩
          case neg =>
            by_cases r4 : r = 4
            case pos => as_aux_lemma =>
              subst r4
              clear r3
              go_upto_region 17 with fail
              refine wp_region_lit ?_
              refine wv (.bool false) ?_
              (try simp only [Act.put, gA, gS, gZ, sA, sZ, sS])
              refine wv (.bool false) ?_
              (try simp only [Act.put, gA, gS, gZ, sA, sZ, sS])
              refine wpList_nil ?_
              go_upto_region 18 with fail
              refine wp_region_lit ?_
              refine wv (.bool true) ?_
              (try simp only [Act.put, gA, gS, gZ, sA, sZ, sS])
              refine wv (.bool true) ?_
              (try simp only [Act.put, gA, gS, gZ, sA, sZ, sS])
              refine wpList_nil ?_
              go_upto_region 19 with fail
              refine wp_region_quiet (C := fun W => Kx w1 [(b3, #[v0, v1], 27), (b11, #[.int .u8 (wh : Nat), .int .i64 fr, .string da, .bool xu], 29)] ((bdL w1.heap.size g up u0 u1 a b).and ((bdS v0 a).and (bdS v1 b))) W) (by kernel_rfl) (by kernel_rfl) K12.out.drew ?_
              refine qv (.bool false) ?_
              (try simp only [Act.put, gA, gS, gZ, sA, sZ, sS])
              refine qv (.bool false) ?_
              (try simp only [Act.put, gA, gS, gZ, sA, sZ, sS])
              refine q_skip (by kernel_rfl) ?_
              (try simp only [Act.put, gA, gS, gZ, sA, sZ, sS])
              refine q_skip (by kernel_rfl) ?_
              (try simp only [Act.put, gA, gS, gZ, sA, sZ, sS])
              refine q_skip (by kernel_rfl) ?_
              (try simp only [Act.put, gA, gS, gZ, sA, sZ, sS])
              refine q_skip (by kernel_rfl) ?_
              (try simp only [Act.put, gA, gS, gZ, sA, sZ, sS])
              refine q_skip (by kernel_rfl) ?_
              (try simp only [Act.put, gA, gS, gZ, sA, sZ, sS])
              refine q_skip (by kernel_rfl) ?_
              (try simp only [Act.put, gA, gS, gZ, sA, sZ, sS])
              refine q_skip (by kernel_rfl) ?_
              (try simp only [Act.put, gA, gS, gZ, sA, sZ, sS])
              refine qv (.bool false) ?_ (hv := fun wv hC => run_pick_no (.tmp 83) (.tmp 90) (.const (.bool false)) _ rfl rfl rfl)
              (try simp only [Act.put, gA, gS, gZ, sA, sZ, sS])
              refine qv (.string ⟨#[]⟩) ?_
              (try simp only [Act.put, gA, gS, gZ, sA, sZ, sS])
              refine qv (.bool false) ?_
              (try simp only [Act.put, gA, gS, gZ, sA, sZ, sS])
              refine wpQuiet_nil ?_
              intro w13 hC
              have K13 := Lib.hid (show Kx w1 [(b3, #[v0, v1], 27), (b11, #[.int .u8 (wh : Nat), .int .i64 fr, .string da, .bool xu], 29)] ((bdL w1.heap.size g up u0 u1 a b).and ((bdS v0 a).and (bdS v1 b))) w13 from hC)
              clear hC
              go_upto_region 20 with fail
              refine wp_region_lit ?_
              refine wv (.bool false) ?_
              (try simp only [Act.put, gA, gS, gZ, sA, sZ, sS])
              refine wpList_nil ?_
              go_upto_region 23 with fail
              refine wp_region_lit ?_
              refine wv (.pointer (some ⟨b11, 0, none⟩)) ?_
              (try simp only [Act.put, gA, gS, gZ, sA, sZ, sS])
              refine wv (.int .u8 (wh : Nat)) ?_ (hrun := by have q : w13.cell? ⟨b11, 0, none⟩ = some (.int .u8 (wh : Nat)) := K13.out.cell (i := 1) rfl (by rfl); go_simp)
              (try simp only [Act.put, gA, gS, gZ, sA, sZ, sS])
              refine wv (.int .u8 4) ?_ (hrun := by go_simp; rw [Int.tmod_eq_emod_of_nonneg (by omega)]; have q := HR.out; omega)
              (try simp only [Act.put, gA, gS, gZ, sA, sZ, sS])
              refine wv (.bool true) ?_
              (try simp only [Act.put, gA, gS, gZ, sA, sZ, sS])
              refine wpList_nil ?_
              go_upto_region 24 with fail
              refine wp_region_lit ?_
              refine wv (.pointer (some ⟨g, 0, none⟩)) ?_
              (try simp only [Act.put, gA, gS, gZ, sA, sZ, sS])
              refine wv (.pointer (some ⟨b11, 1, none⟩)) ?_
              (try simp only [Act.put, gA, gS, gZ, sA, sZ, sS])
              refine wv (.int .i64 fr) ?_ (hrun := by have q : w13.cell? ⟨b11, 1, none⟩ = some (.int .i64 fr) := K13.out.cell (i := 1) rfl (by rfl); go_simp)
              (try simp only [Act.put, gA, gS, gZ, sA, sZ, sS])
              refine wl_call 7 #[.pointer (some ⟨g, 0, none⟩), .int .i64 fr] (by rfl) (by go_simp) (calls_one (lose_any (come_no K13.out.a.1 fr (by unfold unN; rw [if_neg HE.out.1, if_neg HE.out.2])))) ?_
              rintro _ w13 ⟨rfl, rfl⟩
              (try simp only [Act.put, gA, gS, gZ, sA, sZ, sS])
              refine wv (.bool false) ?_
              (try simp only [Act.put, gA, gS, gZ, sA, sZ, sS])
              refine wv (.bool false) ?_
              (try simp only [Act.put, gA, gS, gZ, sA, sZ, sS])
              refine wpList_nil ?_
              go_upto_region 35 with fail
              refine wp_region_lit ?_
              refine wv (.int .i64 0) ?_
              (try simp only [Act.put, gA, gS, gZ, sA, sZ, sS])
              refine wpList_nil ?_
              go_upto_region 36 with fail
              refine wp_region_lit ?_
              refine wv (.bool false) ?_
              (try simp only [Act.put, gA, gS, gZ, sA, sZ, sS])
              refine wpList_nil ?_
              go_upto_region 38 with fail
              have HUN := Lib.hid (show unN fr (a) (b) = 0 by unfold unN; rw [if_neg HE.out.1, if_neg HE.out.2])
              refine wp_region_lit ?_
              refine wv (.pointer (some ⟨g, 0, none⟩)) ?_
              (try simp only [Act.put, gA, gS, gZ, sA, sZ, sS])
              refine wl_call 11 #[.pointer (some ⟨g, 0, none⟩)] (by rfl) (by go_simp) (calls_one (up_any K13.out.a.1)) ?_; rintro _ w13 ⟨rfl, rfl⟩
              (try simp only [Act.put, gA, gS, gZ, sA, sZ, sS])
              refine wv (.bool up) ?_
              (try simp only [Act.put, gA, gS, gZ, sA, sZ, sS])
              refine wv (.bool false) ?_
              (try simp only [Act.put, gA, gS, gZ, sA, sZ, sS])
              refine wv (.bool false) ?_
              (try simp only [Act.put, gA, gS, gZ, sA, sZ, sS])
              refine wv (.pointer (some ⟨g, 0, none⟩)) ?_
              (try simp only [Act.put, gA, gS, gZ, sA, sZ, sS])
              refine wv (.pointer (some ⟨b11, 1, none⟩)) ?_
              (try simp only [Act.put, gA, gS, gZ, sA, sZ, sS])
              refine wv (.int .i64 fr) ?_ (hrun := by have q : w13.cell? ⟨b11, 1, none⟩ = some (.int .i64 fr) := K13.out.cell (i := 1) rfl (by rfl); go_simp)
              (try simp only [Act.put, gA, gS, gZ, sA, sZ, sS])
              refine wl_call 12 #[.pointer (some ⟨g, 0, none⟩), .int .i64 fr] (by rfl) (by go_simp) (calls_one (under_any K13.out.a.1 fr)) ?_; rintro _ w13 ⟨rfl, rfl⟩
              rw [HUN.out]
              (try simp only [Act.put, gA, gS, gZ, sA, sZ, sS])
              refine wv (.int .i64 0) ?_
              (try simp only [Act.put, gA, gS, gZ, sA, sZ, sS])
              refine wv (.bool false) ?_
              (try simp only [Act.put, gA, gS, gZ, sA, sZ, sS])
              refine wv (.bool false) ?_
              (try simp only [Act.put, gA, gS, gZ, sA, sZ, sS])
              refine wpList_nil ?_
              have LN := Lib.hid (show LS w1 g b3 up (a) (b) w13 from ⟨v0, v1, KL.left (l := [(b3, #[v0, v1], 27)]) (r := [(b11, #[.int .u8 (wh : Nat), .int .i64 fr, .string da, .bool xu], 29)]) ⟨_, _, K13.out, D10.out⟩⟩)
              go_wp2_with fail
              go_roundw
              case measure => have := HLT.out; simp only [intOf]; omega
              case rel => exact ⟨k + 1, up, a, b, by have := HLT.out; omega, by have := HLT.out; omega, by have := HLA.out; (try simp only [List.length_append, List.length_cons, List.length_nil] at this ⊢); omega, by have := HLB.out; (try simp only [List.length_append, List.length_cons, List.length_nil] at this ⊢); omega, rfl, by go_simp, LN.out⟩
            case neg =>
              by_cases r5 : r = 5
              case pos =>
                subst r5
                clear r3 r4
                cases xu
                case false => as_aux_lemma =>
                  go_upto_region 17 with fail
                  refine wp_region_lit ?_
                  refine wv (.bool false) ?_
                  (try simp only [Act.put, gA, gS, gZ, sA, sZ, sS])
                  refine wv (.bool false) ?_
                  (try simp only [Act.put, gA, gS, gZ, sA, sZ, sS])
                  refine wpList_nil ?_
                  go_upto_region 18 with fail
                  refine wp_region_lit ?_
                  refine wv (.bool false) ?_
                  (try simp only [Act.put, gA, gS, gZ, sA, sZ, sS])
                  refine wv (.bool false) ?_
                  (try simp only [Act.put, gA, gS, gZ, sA, sZ, sS])
                  refine wpList_nil ?_
                  go_upto_region 29 with fail
                  refine wp_region_lit ?_
                  refine wv (.bool true) ?_
                  (try simp only [Act.put, gA, gS, gZ, sA, sZ, sS])
                  refine wv (.bool true) ?_
                  (try simp only [Act.put, gA, gS, gZ, sA, sZ, sS])
                  refine wpList_nil ?_
                  go_upto_region 30 with fail
                  refine rk (fun (_ : Unit) => [.pointer (some ⟨g, 0, none⟩), .pointer (some ⟨b11, 3, none⟩), .bool false, .bool (false != up), .bool up, .pointer (some ⟨b11, 3, none⟩), .bool false, .bool (up != false), .bool false]) (fun _ Lx w' => (Lx 3 = false ∧ Kx w1 [(b3, #[v0, v1], 27), (b11, #[.int .u8 (wh : Nat), .int .i64 fr, .string da, .bool false], 29)] ((bdL w1.heap.size g up u0 u1 a b).and ((bdS v0 a).and (bdS v1 b))) w') ∨ (Lx 3 = true ∧ KL w1 [(b3, #[v0, v1], 27), (b11, #[.int .u8 (wh : Nat), .int .i64 fr, .string da, .bool false], 29)] g false [] [] ((bdS v0 a).and (bdS v1 b)) w')) (()) [] [] [(2, fun _ => [(135, .pointer (some ⟨b11, 3, none⟩))]), (3, fun _ => [(134, .pointer (some ⟨g, 0, none⟩)), (136, .bool false)]), (6, fun _ => [(139, .pointer (some ⟨b11, 3, none⟩))]), (7, fun _ => [(138, .bool up), (140, .bool false)]), (8, fun _ => [(137, .bool (false != up)), (141, .bool (up != false))])] [3] ?_ ?_ ?_ ?_ ?_
                  · exact .inl ⟨rfl, K12.out.drew⟩
                  · intro s L w' h; exact trivial
                  · intro s L1 L2 w' e h; (try dsimp only at h ⊢); rw [← e 3 (by simp)]; exact h
                  · refine ⟨?_, ?_, ?_, ?_, ?_, trivial⟩ <;> (rintro s Lx w' hw hL haft hdc ρ hc hf hG hs o ho; cases ho; try dsimp only [seen] at hw hs)
                    · obtain ⟨e135, -⟩ := hs
                      rcases hw with ⟨h3, hw⟩ | ⟨h3, -⟩
                      case inr => exact absurd (hdc 3 h3 2 (by decide)) (by rw [hL]; decide)
                      exact sw (.bool false) (by have q : w'.cell? ⟨b11, 3, none⟩ = some (.bool false) := Kx.cell (i := 1) hw rfl (by rfl); go_simp) ⟨s, fun _ _ => rfl, rfl, .inl ⟨h3, hw⟩⟩
                    · obtain ⟨e134, e136, -⟩ := hs
                      rcases hw with ⟨h3, hw⟩ | ⟨h3, -⟩
                      case inr => rw [hL] at h3; cases h3
                      refine stepW_call (f := 9) (args := #[.pointer (some ⟨g, 0, none⟩), .bool false]) (by go_simp) ((kl_cut ⟨_, _, hw, D10.out⟩ false).mono ?_)
                      rintro e w9 ⟨q1, q2⟩
                      exact ⟨_, q1, s, fun _ _ => rfl, rfl, .inr ⟨rfl, q2⟩⟩
                    · obtain ⟨e139, -⟩ := hs
                      rcases hw with ⟨h3, hw⟩ | ⟨h3, hk⟩
                      case inl => exact sw (.bool false) (by have q : w'.cell? ⟨b11, 3, none⟩ = some (.bool false) := Kx.cell (i := 1) hw rfl (by rfl); go_simp) ⟨s, fun _ _ => rfl, rfl, .inl ⟨h3, hw⟩⟩
                      obtain ⟨p0, p1, hw, -⟩ := id hk
                      exact sw (.bool false) (by have q : w'.cell? ⟨b11, 3, none⟩ = some (.bool false) := Kx.cell (i := 1) hw rfl (by rfl); go_simp) ⟨s, fun _ _ => rfl, rfl, .inr ⟨h3, hk⟩⟩
                    · obtain ⟨e138, e140, -⟩ := hs
                      exact sw (w' := w') (.bool (up != false)) (by cases up <;> go_simp) ⟨s, fun _ _ => rfl, rfl, by simpa [upd] using hw⟩
                    · obtain ⟨e137, e141, -⟩ := hs
                      exact sw (w' := w') (.bool false) (by cases up <;> go_simp) ⟨s, fun _ _ => rfl, rfl, by simpa [upd] using hw⟩
                  · rintro s Lx w13 hw hall
                    rcases hw with ⟨h3, -⟩ | ⟨-, hw⟩
                    case inl => rw [hall 3 (by decide)] at h3; cases h3
                    simp only [List.toList_toArray, putsZ_some, putsZ_none, putsZ_nil, List.setIfInBounds_toArray, List.set_cons_zero, List.set_cons_succ]
                    obtain ⟨u13a, u13b, hK, hD⟩ := hw.ex
                    have K13 := Lib.hid (show Kx w1 [(b3, #[v0, v1], 27), (b11, #[.int .u8 (wh : Nat), .int .i64 fr, .string da, .bool false], 29)] ((bdL w1.heap.size g false u13a u13b [] []).and ((bdS v0 a).and (bdS v1 b))) w13 from hK)
                    have D13 := Lib.hid hD
                    clear hK hD hw hall
                    go_upto_region 32 with fail
                    refine wp_region_lit ?_
                    refine wv (.pointer (some ⟨b11, 3, none⟩)) ?_
                    (try simp only [Act.put, gA, gS, gZ, sA, sZ, sS])
                    refine wv (.bool false) ?_ (hrun := by have q : w13.cell? ⟨b11, 3, none⟩ = some (.bool false) := K13.out.cell (i := 1) rfl (by rfl); go_simp)
                    (try simp only [Act.put, gA, gS, gZ, sA, sZ, sS])
                    refine wv (.bool false) ?_
                    (try simp only [Act.put, gA, gS, gZ, sA, sZ, sS])
                    refine wpList_nil ?_
                    go_upto_region 33 with fail
                    refine wp_region_lit ?_
                    refine wv (.bool false) ?_
                    (try simp only [Act.put, gA, gS, gZ, sA, sZ, sS])
                    refine wv (.bool true) ?_
                    (try simp only [Act.put, gA, gS, gZ, sA, sZ, sS])
                    refine wpList_nil ?_
                    go_upto_region 34 with fail
                    refine wp_region_lit ?_
                    refine wv (.agg (#[.slice none 0 0, .slice none 0 0])) ?_ (hrun := run_build_of _ [] rfl [] _ rfl (by kernel_rfl))
                    (try simp only [Act.put, gA, gS, gZ, sA, sZ, sS])
                    refine kx_row K13.out 0 rfl 27 _ _ (#[.slice none 0 0, .slice none 0 0]) rfl rfl rfl rfl (info27) (by rfl) (by kernel_rfl) ?_
                    intro w14 hk
                    have K14 := Lib.hid (show Kx w1 [(b3, #[.slice none 0 0, .slice none 0 0], 27), (b11, #[.int .u8 (wh : Nat), .int .i64 fr, .string da, .bool false], 29)] ((bdL w1.heap.size g false u13a u13b [] []).and ((bdS v0 a).and (bdS v1 b))) w14 from hk)
                    clear hk
                    (try simp only [Act.put, gA, gS, gZ, sA, sZ, sS])
                    refine wpList_nil ?_
                    have K15 := Lib.hid (show Kx w1 [(b3, #[.slice none 0 0, .slice none 0 0], 27), (b11, #[.int .u8 (wh : Nat), .int .i64 fr, .string da, .bool false], 29)] ((bdL w1.heap.size g false u13a u13b [] []).and ((bdS (.slice none 0 0) []).and (bdS (.slice none 0 0) []))) w14 from K14.out.turn (fun h => ⟨h.1, .inl ⟨rfl, rfl⟩, .inl ⟨rfl, rfl⟩⟩) (fun k q => by rcases q with q | q | q; exact .inl q; cases q; cases q))
                    have D15 := Lib.hid (show ∀ k, ((bdS (.slice none 0 0) []).and (bdS (.slice none 0 0) [])).f k → ¬ lkF g u13a u13b k from fun k q => by rcases q with q | q <;> cases q)
                    have HZ := Lib.hid (Nat.zero_le k)
                    go_upto_region 35 with fail
                    refine wp_region_lit ?_
                    refine wv (.int .i64 0) ?_
                    (try simp only [Act.put, gA, gS, gZ, sA, sZ, sS])
                    refine wpList_nil ?_
                    go_upto_region 36 with fail
                    refine wp_region_lit ?_
                    refine wv (.bool false) ?_
                    (try simp only [Act.put, gA, gS, gZ, sA, sZ, sS])
                    refine wpList_nil ?_
                    go_upto_region 38 with fail
                    have HUN := Lib.hid (show unN fr (([] : List ByteArray)) (([] : List ByteArray)) = 0 by unfold unN; rw [if_neg HE.out.1, if_neg HE.out.2])
                    refine wp_region_lit ?_
                    refine wv (.pointer (some ⟨g, 0, none⟩)) ?_
                    (try simp only [Act.put, gA, gS, gZ, sA, sZ, sS])
                    refine wl_call 11 #[.pointer (some ⟨g, 0, none⟩)] (by rfl) (by go_simp) (calls_one (up_any K15.out.a.1)) ?_; rintro _ w14 ⟨rfl, rfl⟩
                    (try simp only [Act.put, gA, gS, gZ, sA, sZ, sS])
                    refine wv (.bool false) ?_
                    (try simp only [Act.put, gA, gS, gZ, sA, sZ, sS])
                    refine wv (.bool false) ?_
                    (try simp only [Act.put, gA, gS, gZ, sA, sZ, sS])
                    refine wv (.bool false) ?_
                    (try simp only [Act.put, gA, gS, gZ, sA, sZ, sS])
                    refine wv (.pointer (some ⟨g, 0, none⟩)) ?_
                    (try simp only [Act.put, gA, gS, gZ, sA, sZ, sS])
                    refine wv (.pointer (some ⟨b11, 1, none⟩)) ?_
                    (try simp only [Act.put, gA, gS, gZ, sA, sZ, sS])
                    refine wv (.int .i64 fr) ?_ (hrun := by have q : w14.cell? ⟨b11, 1, none⟩ = some (.int .i64 fr) := K15.out.cell (i := 1) rfl (by rfl); go_simp)
                    (try simp only [Act.put, gA, gS, gZ, sA, sZ, sS])
                    refine wl_call 12 #[.pointer (some ⟨g, 0, none⟩), .int .i64 fr] (by rfl) (by go_simp) (calls_one (under_any K15.out.a.1 fr)) ?_; rintro _ w14 ⟨rfl, rfl⟩
                    rw [HUN.out]
                    (try simp only [Act.put, gA, gS, gZ, sA, sZ, sS])
                    refine wv (.int .i64 0) ?_
                    (try simp only [Act.put, gA, gS, gZ, sA, sZ, sS])
                    refine wv (.bool false) ?_
                    (try simp only [Act.put, gA, gS, gZ, sA, sZ, sS])
                    refine wv (.bool false) ?_
                    (try simp only [Act.put, gA, gS, gZ, sA, sZ, sS])
                    refine wpList_nil ?_
                    have LN := Lib.hid (show LS w1 g b3 false (([] : List ByteArray)) (([] : List ByteArray)) w14 from ⟨(.slice none 0 0), (.slice none 0 0), KL.left (l := [(b3, #[(.slice none 0 0), (.slice none 0 0)], 27)]) (r := [(b11, #[.int .u8 (wh : Nat), .int .i64 fr, .string da, .bool false], 29)]) ⟨_, _, K15.out, D15.out⟩⟩)
                    go_wp2_with fail
                    go_roundw
                    case measure => have := HLT.out; simp only [intOf]; omega
                    case rel => exact ⟨k + 1, false, ([] : List ByteArray), ([] : List ByteArray), by have := HLT.out; omega, by have := HLT.out; omega, by have := HZ.out; (try simp only [List.length_append, List.length_cons, List.length_nil] at this ⊢); omega, by have := HZ.out; (try simp only [List.length_append, List.length_cons, List.length_nil] at this ⊢); omega, rfl, by go_simp, LN.out⟩
                case true => as_aux_lemma =>
                  go_upto_region 17 with fail
                  refine wp_region_lit ?_
                  refine wv (.bool false) ?_
                  (try simp only [Act.put, gA, gS, gZ, sA, sZ, sS])
                  refine wv (.bool false) ?_
                  (try simp only [Act.put, gA, gS, gZ, sA, sZ, sS])
                  refine wpList_nil ?_
                  go_upto_region 18 with fail
                  refine wp_region_lit ?_
                  refine wv (.bool false) ?_
                  (try simp only [Act.put, gA, gS, gZ, sA, sZ, sS])
                  refine wv (.bool false) ?_
                  (try simp only [Act.put, gA, gS, gZ, sA, sZ, sS])
                  refine wpList_nil ?_
                  go_upto_region 29 with fail
                  refine wp_region_lit ?_
                  refine wv (.bool true) ?_
                  (try simp only [Act.put, gA, gS, gZ, sA, sZ, sS])
                  refine wv (.bool true) ?_
                  (try simp only [Act.put, gA, gS, gZ, sA, sZ, sS])
                  refine wpList_nil ?_
                  go_upto_region 30 with fail
                  refine rk (fun (_ : Unit) => [.pointer (some ⟨g, 0, none⟩), .pointer (some ⟨b11, 3, none⟩), .bool true, .bool (true != up), .bool up, .pointer (some ⟨b11, 3, none⟩), .bool true, .bool (up != true), .bool false]) (fun _ Lx w' => (Lx 3 = false ∧ Kx w1 [(b3, #[v0, v1], 27), (b11, #[.int .u8 (wh : Nat), .int .i64 fr, .string da, .bool true], 29)] ((bdL w1.heap.size g up u0 u1 a b).and ((bdS v0 a).and (bdS v1 b))) w') ∨ (Lx 3 = true ∧ KL w1 [(b3, #[v0, v1], 27), (b11, #[.int .u8 (wh : Nat), .int .i64 fr, .string da, .bool true], 29)] g true a b ((bdS v0 a).and (bdS v1 b)) w')) (()) [] [] [(2, fun _ => [(135, .pointer (some ⟨b11, 3, none⟩))]), (3, fun _ => [(134, .pointer (some ⟨g, 0, none⟩)), (136, .bool true)]), (6, fun _ => [(139, .pointer (some ⟨b11, 3, none⟩))]), (7, fun _ => [(138, .bool up), (140, .bool true)]), (8, fun _ => [(137, .bool (true != up)), (141, .bool (up != true))])] [3] ?_ ?_ ?_ ?_ ?_
                  · exact .inl ⟨rfl, K12.out.drew⟩
                  · intro s L w' h; exact trivial
                  · intro s L1 L2 w' e h; (try dsimp only at h ⊢); rw [← e 3 (by simp)]; exact h
                  · refine ⟨?_, ?_, ?_, ?_, ?_, trivial⟩ <;> (rintro s Lx w' hw hL haft hdc ρ hc hf hG hs o ho; cases ho; try dsimp only [seen] at hw hs)
                    · obtain ⟨e135, -⟩ := hs
                      rcases hw with ⟨h3, hw⟩ | ⟨h3, -⟩
                      case inr => exact absurd (hdc 3 h3 2 (by decide)) (by rw [hL]; decide)
                      exact sw (.bool true) (by have q : w'.cell? ⟨b11, 3, none⟩ = some (.bool true) := Kx.cell (i := 1) hw rfl (by rfl); go_simp) ⟨s, fun _ _ => rfl, rfl, .inl ⟨h3, hw⟩⟩
                    · obtain ⟨e134, e136, -⟩ := hs
                      rcases hw with ⟨h3, hw⟩ | ⟨h3, -⟩
                      case inr => rw [hL] at h3; cases h3
                      refine stepW_call (f := 9) (args := #[.pointer (some ⟨g, 0, none⟩), .bool true]) (by go_simp) ((kl_cut ⟨_, _, hw, D10.out⟩ true).mono ?_)
                      rintro e w9 ⟨q1, q2⟩
                      exact ⟨_, q1, s, fun _ _ => rfl, rfl, .inr ⟨rfl, q2⟩⟩
                    · obtain ⟨e139, -⟩ := hs
                      rcases hw with ⟨h3, hw⟩ | ⟨h3, hk⟩
                      case inl => exact sw (.bool true) (by have q : w'.cell? ⟨b11, 3, none⟩ = some (.bool true) := Kx.cell (i := 1) hw rfl (by rfl); go_simp) ⟨s, fun _ _ => rfl, rfl, .inl ⟨h3, hw⟩⟩
                      obtain ⟨p0, p1, hw, -⟩ := id hk
                      exact sw (.bool true) (by have q : w'.cell? ⟨b11, 3, none⟩ = some (.bool true) := Kx.cell (i := 1) hw rfl (by rfl); go_simp) ⟨s, fun _ _ => rfl, rfl, .inr ⟨h3, hk⟩⟩
                    · obtain ⟨e138, e140, -⟩ := hs
                      exact sw (w' := w') (.bool (up != true)) (by cases up <;> go_simp) ⟨s, fun _ _ => rfl, rfl, by simpa [upd] using hw⟩
                    · obtain ⟨e137, e141, -⟩ := hs
                      exact sw (w' := w') (.bool false) (by cases up <;> go_simp) ⟨s, fun _ _ => rfl, rfl, by simpa [upd] using hw⟩
                  · rintro s Lx w13 hw hall
                    rcases hw with ⟨h3, -⟩ | ⟨-, hw⟩
                    case inl => rw [hall 3 (by decide)] at h3; cases h3
                    simp only [List.toList_toArray, putsZ_some, putsZ_none, putsZ_nil, List.setIfInBounds_toArray, List.set_cons_zero, List.set_cons_succ]
                    obtain ⟨u13a, u13b, hK, hD⟩ := hw.ex
                    have K13 := Lib.hid (show Kx w1 [(b3, #[v0, v1], 27), (b11, #[.int .u8 (wh : Nat), .int .i64 fr, .string da, .bool true], 29)] ((bdL w1.heap.size g true u13a u13b a b).and ((bdS v0 a).and (bdS v1 b))) w13 from hK)
                    have D13 := Lib.hid hD
                    clear hK hD hw hall
                    go_upto_region 32 with fail
                    refine wp_region_lit ?_
                    refine wv (.pointer (some ⟨b11, 3, none⟩)) ?_
                    (try simp only [Act.put, gA, gS, gZ, sA, sZ, sS])
                    refine wv (.bool true) ?_ (hrun := by have q : w13.cell? ⟨b11, 3, none⟩ = some (.bool true) := K13.out.cell (i := 1) rfl (by rfl); go_simp)
                    (try simp only [Act.put, gA, gS, gZ, sA, sZ, sS])
                    refine wv (.bool true) ?_
                    (try simp only [Act.put, gA, gS, gZ, sA, sZ, sS])
                    refine wpList_nil ?_
                    go_upto_region 33 with fail
                    refine wp_region_lit ?_
                    refine wv (.bool true) ?_
                    (try simp only [Act.put, gA, gS, gZ, sA, sZ, sS])
                    refine wv (.bool false) ?_
                    (try simp only [Act.put, gA, gS, gZ, sA, sZ, sS])
                    refine wpList_nil ?_
                    go_upto_region 35 with fail
                    refine wp_region_lit ?_
                    refine wv (.int .i64 0) ?_
                    (try simp only [Act.put, gA, gS, gZ, sA, sZ, sS])
                    refine wpList_nil ?_
                    go_upto_region 36 with fail
                    refine wp_region_lit ?_
                    refine wv (.bool false) ?_
                    (try simp only [Act.put, gA, gS, gZ, sA, sZ, sS])
                    refine wpList_nil ?_
                    go_upto_region 38 with fail
                    have HUN := Lib.hid (show unN fr (a) (b) = 0 by unfold unN; rw [if_neg HE.out.1, if_neg HE.out.2])
                    refine wp_region_lit ?_
                    refine wv (.pointer (some ⟨g, 0, none⟩)) ?_
                    (try simp only [Act.put, gA, gS, gZ, sA, sZ, sS])
                    refine wl_call 11 #[.pointer (some ⟨g, 0, none⟩)] (by rfl) (by go_simp) (calls_one (up_any K13.out.a.1)) ?_; rintro _ w13 ⟨rfl, rfl⟩
                    (try simp only [Act.put, gA, gS, gZ, sA, sZ, sS])
                    refine wv (.bool true) ?_
                    (try simp only [Act.put, gA, gS, gZ, sA, sZ, sS])
                    refine wv (.bool false) ?_
                    (try simp only [Act.put, gA, gS, gZ, sA, sZ, sS])
                    refine wv (.bool false) ?_
                    (try simp only [Act.put, gA, gS, gZ, sA, sZ, sS])
                    refine wv (.pointer (some ⟨g, 0, none⟩)) ?_
                    (try simp only [Act.put, gA, gS, gZ, sA, sZ, sS])
                    refine wv (.pointer (some ⟨b11, 1, none⟩)) ?_
                    (try simp only [Act.put, gA, gS, gZ, sA, sZ, sS])
                    refine wv (.int .i64 fr) ?_ (hrun := by have q : w13.cell? ⟨b11, 1, none⟩ = some (.int .i64 fr) := K13.out.cell (i := 1) rfl (by rfl); go_simp)
                    (try simp only [Act.put, gA, gS, gZ, sA, sZ, sS])
                    refine wl_call 12 #[.pointer (some ⟨g, 0, none⟩), .int .i64 fr] (by rfl) (by go_simp) (calls_one (under_any K13.out.a.1 fr)) ?_; rintro _ w13 ⟨rfl, rfl⟩
                    rw [HUN.out]
                    (try simp only [Act.put, gA, gS, gZ, sA, sZ, sS])
                    refine wv (.int .i64 0) ?_
                    (try simp only [Act.put, gA, gS, gZ, sA, sZ, sS])
                    refine wv (.bool false) ?_
                    (try simp only [Act.put, gA, gS, gZ, sA, sZ, sS])
                    refine wv (.bool false) ?_
                    (try simp only [Act.put, gA, gS, gZ, sA, sZ, sS])
                    refine wpList_nil ?_
                    have LN := Lib.hid (show LS w1 g b3 true (a) (b) w13 from ⟨v0, v1, KL.left (l := [(b3, #[v0, v1], 27)]) (r := [(b11, #[.int .u8 (wh : Nat), .int .i64 fr, .string da, .bool true], 29)]) ⟨_, _, K13.out, D13.out⟩⟩)
                    go_wp2_with fail
                    go_roundw
                    case measure => have := HLT.out; simp only [intOf]; omega
                    case rel => exact ⟨k + 1, true, a, b, by have := HLT.out; omega, by have := HLT.out; omega, by have := HLA.out; (try simp only [List.length_append, List.length_cons, List.length_nil] at this ⊢); omega, by have := HLB.out; (try simp only [List.length_append, List.length_cons, List.length_nil] at this ⊢); omega, rfl, by go_simp, LN.out⟩
              case neg =>
                have q3 : ¬ ((r : Int) = 3) := by omega
                have q4 : ¬ ((r : Int) = 4) := by omega
                have q5 : ¬ ((r : Int) = 5) := by omega
                clear r3 r4 r5
                go_upto_region 17 with fail
                refine wp_region_lit ?_
                refine wv (.bool false) ?_
                (try simp only [Act.put, gA, gS, gZ, sA, sZ, sS])
                refine wv (.bool false) ?_
                (try simp only [Act.put, gA, gS, gZ, sA, sZ, sS])
                refine wpList_nil ?_
                go_upto_region 18 with fail
                refine wp_region_lit ?_
                refine wv (.bool false) ?_
                (try simp only [Act.put, gA, gS, gZ, sA, sZ, sS])
                refine wv (.bool false) ?_
                (try simp only [Act.put, gA, gS, gZ, sA, sZ, sS])
                refine wpList_nil ?_
                go_upto_region 29 with fail
                refine wp_region_lit ?_
                refine wv (.bool false) ?_
                (try simp only [Act.put, gA, gS, gZ, sA, sZ, sS])
                refine wv (.bool false) ?_
                (try simp only [Act.put, gA, gS, gZ, sA, sZ, sS])
                refine wpList_nil ?_
                go_upto_region 13 with fail
                clear q3 q4 q5
                refine wp_region_lit ?_
                refine wv (.pointer (some ⟨g, 0, none⟩)) ?_
                (try simp only [Act.put, gA, gS, gZ, sA, sZ, sS])
                refine wv (.pointer (some ⟨b11, 1, none⟩)) ?_
                (try simp only [Act.put, gA, gS, gZ, sA, sZ, sS])
                refine wv (.int .i64 fr) ?_ (hrun := by have q : w12.cell? ⟨b11, 1, none⟩ = some (.int .i64 fr) := K12.out.cell (i := 1) rfl (by rfl); go_simp)
                (try simp only [Act.put, gA, gS, gZ, sA, sZ, sS])
                refine wv (.string D) ?_
                (try simp only [Act.put, gA, gS, gZ, sA, sZ, sS])
                refine wl_call 10 #[.pointer (some ⟨g, 0, none⟩), .int .i64 fr, .string D] (by rfl) (by go_simp) (calls_one (send_no K12.out.a.1 fr D (by unfold goes; simp [HE.out.1, HE.out.2]))) ?_
                rintro _ w12 ⟨rfl, rfl⟩
                (try simp only [Act.put, gA, gS, gZ, sA, sZ, sS])
                refine wv (.bool false) ?_
                (try simp only [Act.put, gA, gS, gZ, sA, sZ, sS])
                refine wv (.bool false) ?_
                (try simp only [Act.put, gA, gS, gZ, sA, sZ, sS])
                refine wpList_skip (by kernel_rfl) ?_
                (try simp only [Act.put, gA, gS, gZ, sA, sZ, sS])
                refine wv (.bool false) ?_
                (try simp only [Act.put, gA, gS, gZ, sA, sZ, sS])
                refine wv (.bool false) ?_
                (try simp only [Act.put, gA, gS, gZ, sA, sZ, sS])
                refine wpList_nil ?_
                go_upto_region 15 with fail
                refine wp_region_lit ?_
                refine wv (.bool false) ?_
                (try simp only [Act.put, gA, gS, gZ, sA, sZ, sS])
                refine wv (.bool false) ?_
                (try simp only [Act.put, gA, gS, gZ, sA, sZ, sS])
                refine wpList_skip (by kernel_rfl) ?_
                (try simp only [Act.put, gA, gS, gZ, sA, sZ, sS])
                refine wv (.bool false) ?_
                (try simp only [Act.put, gA, gS, gZ, sA, sZ, sS])
                refine wpList_nil ?_
                go_upto_region 35 with fail
                refine wp_region_lit ?_
                refine wv (.int .i64 0) ?_
                (try simp only [Act.put, gA, gS, gZ, sA, sZ, sS])
                refine wpList_nil ?_
                go_upto_region 36 with fail
                refine wp_region_lit ?_
                refine wv (.bool false) ?_
                (try simp only [Act.put, gA, gS, gZ, sA, sZ, sS])
                refine wpList_nil ?_
                go_upto_region 38 with fail
                have HUN := Lib.hid (show unN fr (a) (b) = 0 by unfold unN; rw [if_neg HE.out.1, if_neg HE.out.2])
                refine wp_region_lit ?_
                refine wv (.pointer (some ⟨g, 0, none⟩)) ?_
                (try simp only [Act.put, gA, gS, gZ, sA, sZ, sS])
                refine wl_call 11 #[.pointer (some ⟨g, 0, none⟩)] (by rfl) (by go_simp) (calls_one (up_any K12.out.a.1)) ?_; rintro _ w12 ⟨rfl, rfl⟩
                (try simp only [Act.put, gA, gS, gZ, sA, sZ, sS])
                refine wv (.bool up) ?_
                (try simp only [Act.put, gA, gS, gZ, sA, sZ, sS])
                refine wv (.bool false) ?_
                (try simp only [Act.put, gA, gS, gZ, sA, sZ, sS])
                refine wv (.bool false) ?_
                (try simp only [Act.put, gA, gS, gZ, sA, sZ, sS])
                refine wv (.pointer (some ⟨g, 0, none⟩)) ?_
                (try simp only [Act.put, gA, gS, gZ, sA, sZ, sS])
                refine wv (.pointer (some ⟨b11, 1, none⟩)) ?_
                (try simp only [Act.put, gA, gS, gZ, sA, sZ, sS])
                refine wv (.int .i64 fr) ?_ (hrun := by have q : w12.cell? ⟨b11, 1, none⟩ = some (.int .i64 fr) := K12.out.cell (i := 1) rfl (by rfl); go_simp)
                (try simp only [Act.put, gA, gS, gZ, sA, sZ, sS])
                refine wl_call 12 #[.pointer (some ⟨g, 0, none⟩), .int .i64 fr] (by rfl) (by go_simp) (calls_one (under_any K12.out.a.1 fr)) ?_; rintro _ w12 ⟨rfl, rfl⟩
                rw [HUN.out]
                (try simp only [Act.put, gA, gS, gZ, sA, sZ, sS])
                refine wv (.int .i64 0) ?_
                (try simp only [Act.put, gA, gS, gZ, sA, sZ, sS])
                refine wv (.bool false) ?_
                (try simp only [Act.put, gA, gS, gZ, sA, sZ, sS])
                refine wv (.bool false) ?_
                (try simp only [Act.put, gA, gS, gZ, sA, sZ, sS])
                refine wpList_nil ?_
                have LN := Lib.hid (show LS w1 g b3 up (a) (b) w12 from ⟨v0, v1, KL.left (l := [(b3, #[v0, v1], 27)]) (r := [(b11, #[.int .u8 (wh : Nat), .int .i64 fr, .string da, .bool xu], 29)]) ⟨_, _, K12.out, D10.out⟩⟩)
                go_wp2_with fail
                go_roundw
                case measure => have := HLT.out; simp only [intOf]; omega
                case rel => exact ⟨k + 1, up, a, b, by have := HLT.out; omega, by have := HLT.out; omega, by have := HLA.out; (try simp only [List.length_append, List.length_cons, List.length_nil] at this ⊢); omega, by have := HLB.out; (try simp only [List.length_append, List.length_cons, List.length_nil] at this ⊢); omega, rfl, by go_simp, LN.out⟩
end Go.Proofs.Ytiophmmcennjnaa
