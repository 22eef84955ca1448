import Derived.Test.YtelohoomlgjjmaaDoorG15
import Derived.Test.YtelohoomlgjjmaaDoorG16
set_option linter.unusedSimpArgs false
set_option linter.unusedVariables false
namespace Go.Proofs.YtelohoomlgjjmaaDoor
section
/- plane.Pass. -/
open Go.RowKit
attribute [local irreducible] wpQuiet wpList

/-- What becomes of a frame: tables aq they are then, what it counts aq, whether its station is new, and another one had to go, what is sent. -/
def PassR (i : Ix) (lv : List Vl) (ls : List Se) (lf : List En) (ps : List Po) (fr : Int) (x : Fr) (aq ad : Nat) (l' : List En) (why : Int) (lb full : Bool) (sent : List Sn) : Prop :=
  ((entM lv ps fr x).2 ≠ 7 ∧ l' = lf ∧ why = (entM lv ps fr x).2 ∧ lb = false ∧ full = false ∧ sent = []) ∨
  ((entM lv ps fr x).2 = 7 ∧ (∃ gv, LearnR i.mo i.li lf ⟨(entM lv ps fr x).1, aq, fr, 0⟩ l' gv full) ∧ lb = ((findF (keyN (entM lv ps fr x).1 aq) l').2 && !(findF (keyN (entM lv ps fr x).1 aq) lf).2) ∧
    ∃ p, ps[(fr - 1).toNat]? = some p ∧ ((p.p11 = 1 ∧ why = 6 ∧ sent = []) ∨ (p.p11 ≠ 1 ∧ why = 7 ∧ sent = sendL x (findV (entM lv ps fr x).1 lv).1 (portsL (portsN fr (entM lv ps fr x).1 ad (openM ps ps.length) lv ls l')))))
theorem ent7 {lv : List Vl} {ps : List Po} {fr : Int} {x : Fr} (h : (entM lv ps fr x).2 = 7) : ∃ (k : Nat) (p : Po), fr = (k : Int) + 1 ∧ ps[k]? = some p ∧ onP p = true ∧ ¬ p.p11 = 0 := by
  unfold entM at h
  split at h
  · cases h
  · rename_i c
    split at h
    · cases h
    · rename_i p hp
      split at h
      · cases h
      · rename_i c2
        split at h
        · cases h
        · rename_i c3
          exact ⟨(fr - 1).toNat, p, by omega, hp, by simpa using c2, c3⟩
theorem own_at {α : Type} {w : World} {B size : Nat} {e : TypeId} {enc : α → List Value} {g n c : Nat} {l : List α} {k : Nat} {x : α} (henc : ∀ x, (enc x).length = size) (h : Own w B e size enc (.slice (some ⟨g, 0, none⟩) n c) l) (hn : l.length = n) (hx : l[k]? = some x) : w.rangeAt g (k * size) (enc x) := by
  subst hn
  obtain ⟨g', hg, -, -, hr⟩ := h.elem henc hx
  cases hg
  exact hr w (Below.refl _ _)
theorem enter_n {w0 w : World} {i : Ix} {lv : List Vl} {ls : List Se} {lf : List En} {B n m : Nat} {ps : List Po} {a : Option Addr} (hn : ps.length = n) (hT : T3 w0 i lv ls lf w) (hO : Own w B 58 21 poC (.slice a n m) ps) (hm : n ≤ m ∧ m ≤ maxLen) (hok : ∀ y ∈ ps, PoOk y) (hW : WhysAt w) (fr : Int) (x : Fr) (hx : x.ok) :
    Calls Tryd.prog 27 #[.agg (t3A i), .slice a n m, .int .i64 fr, .agg (fA x)] w fun e w' => e = .returned (.tuple #[.int .u16 ((entM lv ps fr x).1 : Nat), .int .i64 (entM lv ps fr x).2]) ∧ Below w.heap.size w w' := by
  subst hn
  exact enter_any hT hO hm hok hW fr x hx
theorem open_n {w : World} {B n m : Nat} {ps : List Po} {a : Option Addr} (hn : ps.length = n) (hO : Own w B 58 21 poC (.slice a n m) ps) (hm : n ≤ m ∧ m ≤ maxLen) :
    Calls Tryd.prog 30 #[.slice a n m] w fun e w' => e = .returned (.int .u32 (openM ps ps.length : Nat)) ∧ Below w.heap.size w w' := by
  subst hn
  exact open_any hO hm
theorem built_ky (v a : Nat) (m : Nat → Nat) (h : m = byteF a) : Tryd.prog.built 63 [(0, .int .u16 (v : Nat)), (1, .agg (macA m))] = some (kyA v a) := by
  rw [h]
  kernel_rfl
/-- What Pass answers. -/
def PassP (w0 : World) (l : List (Nat × Array Value × TypeId)) (i : Ix) (lv : List Vl) (ls : List Se) (lf : List En) (ps : List Po) (fr : Int) (x : Fr) (aq ad : Nat) (a : Option Addr) (n m : Nat) (C : Bd) (v : Value) (w' : World) : Prop :=
  ∃ (sv : Value) (why : Int) (lb full : Bool) (l' : List En) (sent : List Sn), PassR i lv ls lf ps fr x aq ad l' why lb full sent ∧ v = .agg #[sv, .int .i64 why, .bool lb, .bool full] ∧ (∃ x1 x2, sv = .slice x1 sent.length x2) ∧
    Kx w0 l (((bdT w0 i lv ls l').and ((bdO w0.heap.size 58 21 poC (.slice a n m) ps).and C)).and (bdO w0.heap.size 81 19 snC (sv) (sent))) w'
set_option maxRecDepth 100000 in
set_option maxHeartbeats 8000000 in
theorem pass_any {w0 w : World} {i : Ix} {lv : List Vl} {ls : List Se} {lf : List En} {l : List (Nat × Array Value × TypeId)} {C : Bd} {ps : List Po} {a : Option Addr} {n m : Nat} (K0 : Kx w0 l ((bdT w0 i lv ls lf).and ((bdO w0.heap.size 58 21 poC (.slice a n m) ps).and C)) w) (hd : ∀ k, ((bdO w0.heap.size 58 21 poC (.slice a n m) ps).and C).f k → ¬ (bdT w0 i lv ls lf).f k) (hmo : 1 ≤ i.mo) (hn : ps.length = n) (hm : n ≤ m ∧ m ≤ maxLen) (hok : ∀ y ∈ ps, PoOk y) (hW : WhysAt w0)
    (fr : Int) (x : Fr) (hx : x.ok) (aq ad : Nat) (ha1 : aq < 281474976710656) (hs : x.s = byteF aq) (ha2 : ad < 281474976710656) (hdd : x.d = byteF ad) :
    Calls Tryd.prog 8 #[.agg (t3A i), .slice a n m, .int .i64 fr, .agg (fA x)] w fun e w' => ∃ v, e = .returned v ∧ PassP w0 l i lv ls lf ps fr x aq ad a n m C v w' := by
  have HK0 := Lib.hid K0
  have HD := Lib.hid (K0.dis hd)
  have K := Lib.hid K0.inn
  have HMO := Lib.hid hmo
  have HN := Lib.hid hn
  have HM := Lib.hid hm
  have HOK := Lib.hid hok
  have HW := Lib.hid hW
  have HX := Lib.hid hx
  have HA1 := Lib.hid ha1
  have HA2 := Lib.hid ha2
  have HS := Lib.hid hs
  have HDD := Lib.hid hdd
  have i1 : (n : Int) ≤ 9223372036854775807 := by unfold maxLen at hm; omega
  have i2 : (n : Int) ≤ (m : Int) := by omega
  obtain ⟨vv, hvv⟩ : ∃ vv, vv = (entM lv ps fr x).1 := ⟨_, rfl⟩
  obtain ⟨wy, hwy⟩ : ∃ wy, wy = (entM lv ps fr x).2 := ⟨_, rfl⟩
  have HVV := Lib.hid hvv
  have HWY := Lib.hid hwy
  have HEN := Lib.hid (show ∀ W l2, Kx w0 l2 ((bdT w0 i lv ls lf).and (((bdO w0.heap.size 58 21 poC (.slice a n m) ps).and C).and (bdK l))) W → Calls Tryd.prog 27 #[.agg (t3A i), .slice a n m, .int .i64 fr, .agg (fA x)] W fun e w' => e = .returned (.tuple #[.int .u16 (vv : Nat), .int .i64 wy]) ∧ Below W.heap.size W w' from fun W l2 hK => by
    rw [hvv, hwy]
    exact enter_n HN.out hK.a.1 hK.a.2.1.1 HM.out HOK.out (HW.out.next hK.below HW.out.lt) fr x HX.out)
  clear K0 hd hmo hn hm hok hW hx ha1 ha2 hs hdd hvv hwy
  by_cases c0 : wy = 7
  case neg =>
    have HC := Lib.hid (show decide (wy = 7) = false from decide_eq_false c0)
    have HC2 := Lib.hid (show (wy == 7) = false by simpa using c0)
    have HC3 := Lib.hid (show (wy != 7) = true by simpa using c0)
    have HC0 := Lib.hid c0
    clear c0
    go_enter Tryd.func8, Tryd.ntmps8
    go_upto_region 0 with fail
    refine wp_region_lit ?_
    refine kx_box K.out 35 (.tmp 0) (t3A i) rfl rfl (by rfl) ?_
    intro b1 w1 hb1 hk
    have K1 := Lib.hid (show Kx w0 [(b1, t3A i, 35)] ((bdT w0 i lv ls lf).and (((bdO w0.heap.size 58 21 poC (.slice a n m) ps).and C).and (bdK l))) w1 from hk)
    clear hk hb1
    (try simp only [Act.put, gA, gS, gZ, sA, sZ, sS])
    refine kx_box K1.out 42 (.tmp 3) (fA x) rfl rfl (by rfl) ?_
    intro b2 w2 hb2 hk
    have K2 := Lib.hid (show Kx w0 [(b1, t3A i, 35), (b2, fA x, 42)] ((bdT w0 i lv ls lf).and (((bdO w0.heap.size 58 21 poC (.slice a n m) ps).and C).and (bdK l))) w2 from hk)
    clear hk hb2
    (try simp only [Act.put, gA, gS, gZ, sA, sZ, sS])
    refine kx_alloc K2.out 48 (#[.slice none 0 0, .int .i64 0, .bool false, .bool false]) rfl z4 (by rfl) ?_
    intro b3 w3 hb3 hk
    have K3 := Lib.hid (show Kx w0 [(b1, t3A i, 35), (b2, fA x, 42), (b3, #[.slice none 0 0, .int .i64 0, .bool false, .bool false], 48)] ((bdT w0 i lv ls lf).and (((bdO w0.heap.size 58 21 poC (.slice a n m) ps).and C).and (bdK l))) w3 from hk)
    clear hk hb3
    (try simp only [Act.put, gA, gS, gZ, sA, sZ, sS])
    refine wpList_nil ?_
    go_upto_region 1 with fail
    refine wp_region_lit ?_
    refine wv (.agg (t3A i)) ?_ (hrun := kx_all K3.out 0 rfl 35 _ rfl rfl Tryd.underlying35 rfl (t3Size))
    (try simp only [Act.put, gA, gS, gZ, sA, sZ, sS])
    refine wv (.slice a n m) ?_
    (try simp only [Act.put, gA, gS, gZ, sA, sZ, sS])
    refine wv (.int .i64 fr) ?_
    (try simp only [Act.put, gA, gS, gZ, sA, sZ, sS])
    refine wv (.agg (fA x)) ?_ (hrun := kx_all K3.out 1 rfl 42 _ rfl rfl Tryd.underlying42 rfl (fA_size _))
    (try simp only [Act.put, gA, gS, gZ, sA, sZ, sS])
    refine kx_call K3.out 27 #[.agg (t3A i), .slice a n m, .int .i64 fr, .agg (fA x)] (.tuple #[.int .u16 (vv : Nat), .int .i64 wy]) (by rfl) (by go_simp) (HEN.out _ _ K3.out) ?_
    intro w4 hk
    have K4 := Lib.hid (show Kx w0 [(b1, t3A i, 35), (b2, fA x, 42), (b3, #[.slice none 0 0, .int .i64 0, .bool false, .bool false], 48)] ((bdT w0 i lv ls lf).and (((bdO w0.heap.size 58 21 poC (.slice a n m) ps).and C).and (bdK l))) w4 from hk)
    clear hk
    (try simp only [Act.put, gA, gS, gZ, sA, sZ, sS])
    refine wv (.tuple #[.int .u16 (vv : Nat), .int .i64 wy]) ?_
    (try simp only [Act.put, gA, gS, gZ, sA, sZ, sS])
    refine wv (.int .u16 (vv : Nat)) ?_
    (try simp only [Act.put, gA, gS, gZ, sA, sZ, sS])
    refine wv (.int .i64 wy) ?_
    (try simp only [Act.put, gA, gS, gZ, sA, sZ, sS])
    refine wv (.int .u16 (vv : Nat)) ?_
    (try simp only [Act.put, gA, gS, gZ, sA, sZ, sS])
    refine wv (.int .i64 wy) ?_
    (try simp only [Act.put, gA, gS, gZ, sA, sZ, sS])
    refine wpList_nil ?_
    go_upto_region 2 with fail
    refine wp_region_lit ?_
    refine wv (.int .i64 wy) ?_
    (try simp only [Act.put, gA, gS, gZ, sA, sZ, sS])
    refine wv (.bool true) ?_ (hrun := by have q := HC.out; have q2 := HC2.out; have q3 := HC3.out; go_simp)
    (try simp only [Act.put, gA, gS, gZ, sA, sZ, sS])
    refine wpList_nil ?_
    go_upto_region 3 with fail
    refine wp_region_lit ?_
    refine wv (.int .i64 wy) ?_
    (try simp only [Act.put, gA, gS, gZ, sA, sZ, sS])
    refine wv (.agg (#[.slice none 0 0, .int .i64 wy, .bool false, .bool false])) ?_ (hrun := run_build_of 48 [(1, .tmp 22)] rfl _ (#[.slice none 0 0, .int .i64 wy, .bool false, .bool false]) rfl (by kernel_rfl))
    (try simp only [Act.put, gA, gS, gZ, sA, sZ, sS])
    refine kx_row K4.out 2 rfl 48 _ _ (#[.slice none 0 0, .int .i64 wy, .bool false, .bool false]) rfl rfl rfl rfl (rsize) (by rfl) (by kernel_rfl) ?_
    intro w5 hk
    have K5 := Lib.hid (show Kx w0 [(b1, t3A i, 35), (b2, fA x, 42), (b3, #[.slice none 0 0, .int .i64 wy, .bool false, .bool false], 48)] ((bdT w0 i lv ls lf).and (((bdO w0.heap.size 58 21 poC (.slice a n m) ps).and C).and (bdK l))) w5 from hk)
    clear hk
    (try simp only [Act.put, gA, gS, gZ, sA, sZ, sS])
    refine wpList_nil ?_
    go_wp2_with fail
    refine bodyPost_ret (v := .agg (#[.slice none 0 0, .int .i64 wy, .bool false, .bool false])) (results_cell_row Tryd.results8 _ _ b3 48 _ (0, 0) _ rfl (K5.out.at (i := 2) rfl) Tryd.underlying48 rfl rsize) rfl ?_
    refine ⟨_, rfl, ?_⟩
    unfold PassP
    refine ⟨.slice none 0 0, wy, false, false, lf, [], .inl ⟨by rw [← HWY.out]; exact HC0.out, rfl, HWY.out, rfl, rfl, rfl⟩, rfl, ⟨none, 0, rfl⟩, HK0.out.outN (T' := bdT w0 i lv ls lf) (N := bdO w0.heap.size 81 19 snC (.slice none 0 0) ([])) ((Kx.left (l := []) K5.out).turn (A' := ((bdT w0 i lv ls lf).and (((bdO w0.heap.size 58 21 poC (.slice a n m) ps).and C).and (bdK l))).and (bdO w0.heap.size 81 19 snC (.slice none 0 0) ([]))) (fun h => ⟨h, Own.nil _ _ _ _ _⟩) (fun k q => ?_)) (fun k q => q) (fun k q => by cases q)⟩
    rcases q with q | q
    · exact q
    · cases q
  case pos =>
    have HC0 := Lib.hid (show (entM lv ps fr x).2 = 7 by rw [← HWY.out]; exact c0)
    subst c0
    obtain ⟨k, p, hk, hp, -, hp0⟩ := ent7 HC0.out
    have HKF := Lib.hid hk
    subst hk
    have HP := Lib.hid hp
    have hkn : k < n := by have := (List.getElem?_eq_some_iff.1 hp).1; have := HN.out; omega
    obtain ⟨g, hg⟩ : ∃ g, a = some ⟨g, 0, none⟩ := by
      have hO : Own w w0.heap.size 58 21 poC (.slice a n m) ps := HK0.out.a.2.1
      have q := HN.out
      subst q
      obtain ⟨g, hg, -⟩ := hO.elem po_len hp
      exact ⟨g, hg⟩
    subst hg
    have c2 : (0 : Int) ≤ (k : Int) := by omega
    have c3 : (k : Int) < (n : Int) := by omega
    have c6 : (k : Int) ≤ 9223372036854775807 := by omega
    clear hp hp0
    go_enter Tryd.func8, Tryd.ntmps8
    go_upto_region 0 with fail
    refine wp_region_lit ?_
    refine kx_box K.out 35 (.tmp 0) (t3A i) rfl rfl (by rfl) ?_
    intro b1 w1 hb1 hk
    have K1 := Lib.hid (show Kx w0 [(b1, t3A i, 35)] ((bdT w0 i lv ls lf).and (((bdO w0.heap.size 58 21 poC (.slice (some ⟨g, 0, none⟩) n m) ps).and C).and (bdK l))) w1 from hk)
    clear hk hb1
    (try simp only [Act.put, gA, gS, gZ, sA, sZ, sS])
    refine kx_box K1.out 42 (.tmp 3) (fA x) rfl rfl (by rfl) ?_
    intro b2 w2 hb2 hk
    have K2 := Lib.hid (show Kx w0 [(b1, t3A i, 35), (b2, fA x, 42)] ((bdT w0 i lv ls lf).and (((bdO w0.heap.size 58 21 poC (.slice (some ⟨g, 0, none⟩) n m) ps).and C).and (bdK l))) w2 from hk)
    clear hk hb2
    (try simp only [Act.put, gA, gS, gZ, sA, sZ, sS])
    refine kx_alloc K2.out 48 (#[.slice none 0 0, .int .i64 0, .bool false, .bool false]) rfl z4 (by rfl) ?_
    intro b3 w3 hb3 hk
    have K3 := Lib.hid (show Kx w0 [(b1, t3A i, 35), (b2, fA x, 42), (b3, #[.slice none 0 0, .int .i64 0, .bool false, .bool false], 48)] ((bdT w0 i lv ls lf).and (((bdO w0.heap.size 58 21 poC (.slice (some ⟨g, 0, none⟩) n m) ps).and C).and (bdK l))) w3 from hk)
    clear hk hb3
    (try simp only [Act.put, gA, gS, gZ, sA, sZ, sS])
    refine wpList_nil ?_
    go_upto_region 1 with fail
    refine wp_region_lit ?_
    refine wv (.agg (t3A i)) ?_ (hrun := kx_all K3.out 0 rfl 35 _ rfl rfl Tryd.underlying35 rfl (t3Size))
    (try simp only [Act.put, gA, gS, gZ, sA, sZ, sS])
    refine wv (.slice (some ⟨g, 0, none⟩) n m) ?_
    (try simp only [Act.put, gA, gS, gZ, sA, sZ, sS])
    refine wv (.int .i64 ((k : Int) + 1)) ?_
    (try simp only [Act.put, gA, gS, gZ, sA, sZ, sS])
    refine wv (.agg (fA x)) ?_ (hrun := kx_all K3.out 1 rfl 42 _ rfl rfl Tryd.underlying42 rfl (fA_size _))
    (try simp only [Act.put, gA, gS, gZ, sA, sZ, sS])
    refine kx_call K3.out 27 #[.agg (t3A i), .slice (some ⟨g, 0, none⟩) n m, .int .i64 ((k : Int) + 1), .agg (fA x)] (.tuple #[.int .u16 (vv : Nat), .int .i64 7]) (by rfl) (by go_simp) (HEN.out _ _ K3.out) ?_
    intro w4 hk
    have K4 := Lib.hid (show Kx w0 [(b1, t3A i, 35), (b2, fA x, 42), (b3, #[.slice none 0 0, .int .i64 0, .bool false, .bool false], 48)] ((bdT w0 i lv ls lf).and (((bdO w0.heap.size 58 21 poC (.slice (some ⟨g, 0, none⟩) n m) ps).and C).and (bdK l))) w4 from hk)
    clear hk
    (try simp only [Act.put, gA, gS, gZ, sA, sZ, sS])
    refine wv (.tuple #[.int .u16 (vv : Nat), .int .i64 7]) ?_
    (try simp only [Act.put, gA, gS, gZ, sA, sZ, sS])
    refine wv (.int .u16 (vv : Nat)) ?_
    (try simp only [Act.put, gA, gS, gZ, sA, sZ, sS])
    refine wv (.int .i64 7) ?_
    (try simp only [Act.put, gA, gS, gZ, sA, sZ, sS])
    refine wv (.int .u16 (vv : Nat)) ?_
    (try simp only [Act.put, gA, gS, gZ, sA, sZ, sS])
    refine wv (.int .i64 7) ?_
    (try simp only [Act.put, gA, gS, gZ, sA, sZ, sS])
    refine wpList_nil ?_
    go_upto_region 2 with fail
    refine wp_region_lit ?_
    refine wv (.int .i64 7) ?_
    (try simp only [Act.put, gA, gS, gZ, sA, sZ, sS])
    refine wv (.bool false) ?_
    (try simp only [Act.put, gA, gS, gZ, sA, sZ, sS])
    refine wpList_nil ?_
    go_upto_region 4 with fail
    refine wp_region_lit ?_
    refine wv (.pointer (some ⟨b1, 2, none⟩)) ?_
    (try simp only [Act.put, gA, gS, gZ, sA, sZ, sS])
    refine wv (.pointer (some ⟨i.b3, 0, none⟩)) ?_ (hrun := by have q : w4.cell? ⟨b1, 2, none⟩ = some (.pointer (some ⟨i.b3, 0, none⟩)) := K4.out.cell (i := 0) rfl (by rfl); go_simp)
    (try simp only [Act.put, gA, gS, gZ, sA, sZ, sS])
    refine wv (.int .u16 (vv : Nat)) ?_
    (try simp only [Act.put, gA, gS, gZ, sA, sZ, sS])
    refine wv (.pointer (some ⟨b2, 6, none⟩)) ?_
    (try simp only [Act.put, gA, gS, gZ, sA, sZ, sS])
    refine wv (.agg (macA x.s)) ?_ (hrun := kx_part K4.out 1 rfl 40 _ 6 (macA x.s).toList rfl rfl (part_of (by kernel_rfl)) Tryd.underlying40 rfl (mcSize))
    (try simp only [Act.put, gA, gS, gZ, sA, sZ, sS])
    refine wv (.agg (kyA vv aq)) ?_ (hrun := run_build_of 63 [(0, .tmp 26), (1, .tmp 28)] rfl _ (kyA vv aq) rfl (built_ky vv aq x.s HS.out))
    (try simp only [Act.put, gA, gS, gZ, sA, sZ, sS])
    refine wv (.int .i64 ((k : Int) + 1)) ?_
    (try simp only [Act.put, gA, gS, gZ, sA, sZ, sS])
    refine wl_call (R := fun v w' => ∃ l' gv full, LearnR i.mo i.li lf ⟨vv, aq, ((k : Int) + 1), 0⟩ l' gv full ∧ v = .agg #[.slice none 0 0, .int .i64 0, .bool ((findF (keyN vv aq) l').2 && !(findF (keyN vv aq) lf).2), .bool full] ∧ Kx w0 [(b1, t3A i, 35), (b2, fA x, 42), (b3, #[.slice none 0 0, .int .i64 0, .bool false, .bool false], 48)] ((bdT w0 i lv ls l').and (((bdO w0.heap.size 58 21 poC (.slice (some ⟨g, 0, none⟩) n m) ps).and C).and (bdK l))) w') 28 #[.pointer (some ⟨i.b3, 0, none⟩), .agg (kyA vv aq), .int .i64 ((k : Int) + 1)] (by rfl) (by go_simp) (plearn_any K4.out HD.out HMO.out vv aq _ HA1.out) ?_
    rintro _ w20 ⟨l2, gv, full, hL, rfl, hk⟩
    have K20 := Lib.hid (show Kx w0 [(b1, t3A i, 35), (b2, fA x, 42), (b3, #[.slice none 0 0, .int .i64 0, .bool false, .bool false], 48)] ((bdT w0 i lv ls l2).and (((bdO w0.heap.size 58 21 poC (.slice (some ⟨g, 0, none⟩) n m) ps).and C).and (bdK l))) w20 from hk)
    have HL := Lib.hid hL
    clear hk hL
    obtain ⟨lb, hlb⟩ : ∃ b, b = ((findF (keyN vv aq) l2).2 && !(findF (keyN vv aq) lf).2) := ⟨_, rfl⟩
    have HLB := Lib.hid hlb
    rw [← hlb]
    clear hlb
    (try simp only [Act.put, gA, gS, gZ, sA, sZ, sS])
    refine kx_alloc K20.out 48 (#[.slice none 0 0, .int .i64 0, .bool false, .bool false]) rfl z4 (by rfl) ?_
    intro b21 w21 hb21 hk
    have K21 := Lib.hid (show Kx w0 [(b1, t3A i, 35), (b2, fA x, 42), (b3, #[.slice none 0 0, .int .i64 0, .bool false, .bool false], 48), (b21, #[.slice none 0 0, .int .i64 0, .bool false, .bool false], 48)] ((bdT w0 i lv ls l2).and (((bdO w0.heap.size 58 21 poC (.slice (some ⟨g, 0, none⟩) n m) ps).and C).and (bdK l))) w21 from hk)
    clear hk hb21
    (try simp only [Act.put, gA, gS, gZ, sA, sZ, sS])
    refine kx_row K21.out 3 rfl 48 _ _ (#[.slice none 0 0, .int .i64 0, .bool lb, .bool full]) rfl rfl rfl rfl (rsize) (by rfl) (by kernel_rfl) ?_
    intro w22 hk
    have K22 := Lib.hid (show Kx w0 [(b1, t3A i, 35), (b2, fA x, 42), (b3, #[.slice none 0 0, .int .i64 0, .bool false, .bool false], 48), (b21, #[.slice none 0 0, .int .i64 0, .bool lb, .bool full], 48)] ((bdT w0 i lv ls l2).and (((bdO w0.heap.size 58 21 poC (.slice (some ⟨g, 0, none⟩) n m) ps).and C).and (bdK l))) w22 from hk)
    clear hk
    (try simp only [Act.put, gA, gS, gZ, sA, sZ, sS])
    refine wpList_nil ?_
    go_upto_region 5 with fail
    by_cases c1 : p.p11 = 1
    case pos =>
      have HC1 := Lib.hid c1
      clear c1
      refine wp_region_lit ?_
      refine wv (.slice (some ⟨g, 0, none⟩) n m) ?_
      (try simp only [Act.put, gA, gS, gZ, sA, sZ, sS])
      refine wv (.int .i64 ((k : Int) + 1)) ?_
      (try simp only [Act.put, gA, gS, gZ, sA, sZ, sS])
      refine wv (.int .i64 (k : Nat)) ?_ (hrun := by go_simp; exact wr64 c2 c6)
      (try simp only [Act.put, gA, gS, gZ, sA, sZ, sS])
      refine wv (.pointer (some ⟨g, k * 21, none⟩)) ?_
      (try simp only [Act.put, gA, gS, gZ, sA, sZ, sS])
      refine wv (.pointer (some ⟨g, k * 21 + 11, none⟩)) ?_
      (try simp only [Act.put, gA, gS, gZ, sA, sZ, sS])
      refine wv (.int .i64 p.p11) ?_ (hrun := by have q : w22.cell? ⟨g, k * 21 + 11, none⟩ = some (.int .i64 p.p11) := range_cell (arr := poA p) (o := 11) (own_at (enc := poC) (x := p) po_len K22.out.a.2.1.1 HN.out HP.out) (by rfl); go_simp)
      (try simp only [Act.put, gA, gS, gZ, sA, sZ, sS])
      refine wv (.bool true) ?_ (hrun := by have q := HC1.out; go_simp)
      (try simp only [Act.put, gA, gS, gZ, sA, sZ, sS])
      refine wpList_nil ?_
      go_upto_region 6 with fail
      refine wp_region_lit ?_
      refine wv (.pointer (some ⟨b21, 1, none⟩)) ?_
      (try simp only [Act.put, gA, gS, gZ, sA, sZ, sS])
      refine kx_set K22.out 3 rfl 3 _ _ 1 (.int .i64 6) rfl (by rfl) rfl rfl (kx_run_set K22.out (i := 3) rfl 3 1 (.int .i64 0) (.int .i64 6) (by rfl) (fun W h1 h2 => by go_simp)) (#[.slice none 0 0, .int .i64 6, .bool lb, .bool full]) (by kernel_rfl) ?_
      intro w23 hk
      have K23 := Lib.hid (show Kx w0 [(b1, t3A i, 35), (b2, fA x, 42), (b3, #[.slice none 0 0, .int .i64 0, .bool false, .bool false], 48), (b21, #[.slice none 0 0, .int .i64 6, .bool lb, .bool full], 48)] ((bdT w0 i lv ls l2).and (((bdO w0.heap.size 58 21 poC (.slice (some ⟨g, 0, none⟩) n m) ps).and C).and (bdK l))) w23 from hk)
      clear hk
      (try simp only [Act.put, gA, gS, gZ, sA, sZ, sS])
      refine wpList_nil ?_
      go_upto_region 7 with fail
      refine wp_region_lit ?_
      refine wv (.agg (#[.slice none 0 0, .int .i64 6, .bool lb, .bool full])) ?_ (hrun := kx_all K23.out 3 rfl 48 _ rfl rfl Tryd.underlying48 rfl (rsize))
      (try simp only [Act.put, gA, gS, gZ, sA, sZ, sS])
      refine kx_row K23.out 2 rfl 48 _ _ (#[.slice none 0 0, .int .i64 6, .bool lb, .bool full]) rfl rfl rfl rfl (rsize) (by rfl) (by kernel_rfl) ?_
      intro w24 hk
      have K24 := Lib.hid (show Kx w0 [(b1, t3A i, 35), (b2, fA x, 42), (b3, #[.slice none 0 0, .int .i64 6, .bool lb, .bool full], 48), (b21, #[.slice none 0 0, .int .i64 6, .bool lb, .bool full], 48)] ((bdT w0 i lv ls l2).and (((bdO w0.heap.size 58 21 poC (.slice (some ⟨g, 0, none⟩) n m) ps).and C).and (bdK l))) w24 from hk)
      clear hk
      (try simp only [Act.put, gA, gS, gZ, sA, sZ, sS])
      refine wpList_nil ?_
      go_wp2_with fail
      refine bodyPost_ret (v := .agg (#[.slice none 0 0, .int .i64 6, .bool lb, .bool full])) (results_cell_row Tryd.results8 _ _ b3 48 _ (0, 0) _ rfl (K24.out.at (i := 2) rfl) Tryd.underlying48 rfl rsize) rfl ?_
      refine ⟨_, rfl, ?_⟩
      unfold PassP
      refine ⟨.slice none 0 0, 6, lb, full, l2, [], .inr ⟨HC0.out, ⟨gv, by rw [← HVV.out]; exact HL.out⟩, by rw [← HVV.out]; exact HLB.out, p, by rw [show (((k : Int) + 1) - 1).toNat = k by omega]; exact HP.out, .inl ⟨HC1.out, rfl, rfl⟩⟩, rfl, ⟨none, 0, rfl⟩, HK0.out.outN (T' := bdT w0 i lv ls l2) (N := bdO w0.heap.size 81 19 snC (.slice none 0 0) ([])) ((Kx.left (l := []) K24.out).turn (A' := ((bdT w0 i lv ls l2).and (((bdO w0.heap.size 58 21 poC (.slice (some ⟨g, 0, none⟩) n m) ps).and C).and (bdK l))).and (bdO w0.heap.size 81 19 snC (.slice none 0 0) ([]))) (fun h => ⟨h, Own.nil _ _ _ _ _⟩) (fun k q => ?_)) (fun k q => q) (fun k q => by cases q)⟩
      rcases q with q | q
      · exact q
      · cases q
    case neg =>
      have HC1 := Lib.hid (show decide (p.p11 = 1) = false from decide_eq_false c1)
      have HC2 := Lib.hid (show (p.p11 == 1) = false by simpa using c1)
      have HC3 := Lib.hid c1
      clear c1
      refine wp_region_lit ?_
      refine wv (.slice (some ⟨g, 0, none⟩) n m) ?_
      (try simp only [Act.put, gA, gS, gZ, sA, sZ, sS])
      refine wv (.int .i64 ((k : Int) + 1)) ?_
      (try simp only [Act.put, gA, gS, gZ, sA, sZ, sS])
      refine wv (.int .i64 (k : Nat)) ?_ (hrun := by go_simp; exact wr64 c2 c6)
      (try simp only [Act.put, gA, gS, gZ, sA, sZ, sS])
      refine wv (.pointer (some ⟨g, k * 21, none⟩)) ?_
      (try simp only [Act.put, gA, gS, gZ, sA, sZ, sS])
      refine wv (.pointer (some ⟨g, k * 21 + 11, none⟩)) ?_
      (try simp only [Act.put, gA, gS, gZ, sA, sZ, sS])
      refine wv (.int .i64 p.p11) ?_ (hrun := by have q : w22.cell? ⟨g, k * 21 + 11, none⟩ = some (.int .i64 p.p11) := range_cell (arr := poA p) (o := 11) (own_at (enc := poC) (x := p) po_len K22.out.a.2.1.1 HN.out HP.out) (by rfl); go_simp)
      (try simp only [Act.put, gA, gS, gZ, sA, sZ, sS])
      refine wv (.bool false) ?_ (hrun := by have q := HC1.out; have q2 := HC2.out; go_simp)
      (try simp only [Act.put, gA, gS, gZ, sA, sZ, sS])
      refine wpList_nil ?_
      go_upto_region 8 with fail
      refine wp_region_lit ?_
      refine wv (.pointer (some ⟨b21, 1, none⟩)) ?_
      (try simp only [Act.put, gA, gS, gZ, sA, sZ, sS])
      refine kx_set K22.out 3 rfl 3 _ _ 1 (.int .i64 7) rfl (by rfl) rfl rfl (kx_run_set K22.out (i := 3) rfl 3 1 (.int .i64 0) (.int .i64 7) (by rfl) (fun W h1 h2 => by go_simp)) (#[.slice none 0 0, .int .i64 7, .bool lb, .bool full]) (by kernel_rfl) ?_
      intro w23 hk
      have K23 := Lib.hid (show Kx w0 [(b1, t3A i, 35), (b2, fA x, 42), (b3, #[.slice none 0 0, .int .i64 0, .bool false, .bool false], 48), (b21, #[.slice none 0 0, .int .i64 7, .bool lb, .bool full], 48)] ((bdT w0 i lv ls l2).and (((bdO w0.heap.size 58 21 poC (.slice (some ⟨g, 0, none⟩) n m) ps).and C).and (bdK l))) w23 from hk)
      clear hk
      (try simp only [Act.put, gA, gS, gZ, sA, sZ, sS])
      refine wpList_nil ?_
      go_upto_region 9 with fail
      obtain ⟨op, hop⟩ : ∃ op, op = openM ps ps.length := ⟨_, rfl⟩
      have HOP := Lib.hid hop
      have HOL := Lib.hid (show op < 4294967296 by rw [hop]; exact openM_lt ps _)
      obtain ⟨S, hS⟩ : ∃ S, S = portsN ((k : Int) + 1) vv ad op lv ls l2 := ⟨_, rfl⟩
      have HSS := Lib.hid hS
      clear hop hS
      refine rk (fun (s : Option Addr × Nat × Nat) => [.agg (t3A i), .slice (some ⟨g, 0, none⟩) n m, .int .u32 (op : Nat), .int .i64 ((k : Int) + 1), .int .u16 (vv : Nat), .agg (fA x), .slice s.1 s.2.1 s.2.2, .pointer (some ⟨b21, 0, none⟩), undef]) (fun s L w' => (L 6 = false ∧ Kx w0 [(b1, t3A i, 35), (b2, fA x, 42), (b3, #[.slice none 0 0, .int .i64 0, .bool false, .bool false], 48), (b21, #[.slice none 0 0, .int .i64 7, .bool lb, .bool full], 48)] ((bdT w0 i lv ls l2).and (((bdO w0.heap.size 58 21 poC (.slice (some ⟨g, 0, none⟩) n m) ps).and C).and (bdK l))) w') ∨ (L 6 = true ∧ (∀ k, (Value.slice s.1 s.2.1 s.2.2).ownBlock = some k → ¬ (bdK l).f k) ∧ Kx w0 (bif L 8 then [(b1, t3A i, 35), (b2, fA x, 42), (b3, #[.slice none 0 0, .int .i64 0, .bool false, .bool false], 48), (b21, #[.slice s.1 s.2.1 s.2.2, .int .i64 7, .bool lb, .bool full], 48)] else [(b1, t3A i, 35), (b2, fA x, 42), (b3, #[.slice none 0 0, .int .i64 0, .bool false, .bool false], 48), (b21, #[.slice none 0 0, .int .i64 7, .bool lb, .bool full], 48)]) (((bdT w0 i lv ls l2).and (((bdO w0.heap.size 58 21 poC (.slice (some ⟨g, 0, none⟩) n m) ps).and C).and (bdK l))).and (bdO w0.heap.size 81 19 snC (.slice s.1 s.2.1 s.2.2) (sendL x (findV vv lv).1 (portsL S)))) w')) (none, 0, 0) [] [] [(0, fun s => [(4, .pointer (some ⟨b1, 0, none⟩))]), (2, fun s => [(43, .slice (some ⟨g, 0, none⟩) n m)]), (5, fun s => [(7, .pointer (some ⟨b2, 0, none⟩))]), (6, fun s => [(42, .agg (t3A i)), (44, .int .u32 (op : Nat)), (45, .int .i64 ((k : Int) + 1)), (46, .int .u16 (vv : Nat)), (47, .agg (fA x))]), (8, fun s => [(49, .pointer (some ⟨b21, 0, none⟩)), (48, .slice s.1 s.2.1 s.2.2)])] [6, 8] ?_ ?_ ?_ ?_ ?_
      · exact .inl ⟨rfl, K23.out.drew⟩
      · intro s L w' h; exact trivial
      · intro s L L' w' h hC; rw [← h 6 (by simp), ← h 8 (by simp)]; exact hC
      · refine ⟨?_, ?_, ?_, ?_, ?_, trivial⟩ <;> (rintro ⟨s1, s2, s3⟩ Lx w' hw hL haft hdc ρ hc hf hG hs o ho; cases ho; try dsimp only [seen] at hw hs)
        · obtain ⟨e4, _⟩ := hs
          rcases hw with ⟨h6, hw⟩ | ⟨h6, -⟩
          case inr => exact absurd (hdc 6 h6 0 (by decide)) (by rw [hL]; decide)
          exact sw (.agg (t3A i)) (l_var 35 _ rfl _ e4 _ _ _ (Kx.at (i := 0) hw rfl) Tryd.underlying35 rfl t3Size) ⟨(s1, s2, s3), fun _ _ => rfl, rfl, .inl ⟨h6, hw⟩⟩
        · rcases hw with ⟨h6, hw⟩ | ⟨h6, -⟩
          case inr => exact absurd (hdc 6 h6 2 (by decide)) (by rw [hL]; decide)
          exact sc (.int .u32 (op : Nat)) 30 #[.slice (some ⟨g, 0, none⟩) n m] (by rw [HOP.out]; exact open_n HN.out hw.a.2.1.1 HM.out) (by go_simp) (fun w2 hb => ⟨(s1, s2, s3), fun _ _ => rfl, rfl, .inl ⟨h6, hw.next hb⟩⟩)
        · obtain ⟨e7, _⟩ := hs
          rcases hw with ⟨h6, hw⟩ | ⟨h6, -⟩
          case inr => exact absurd (hdc 6 h6 5 (by decide)) (by rw [hL]; decide)
          exact sw (.agg (fA x)) (l_var 42 _ rfl _ e7 _ _ _ (Kx.at (i := 1) hw rfl) Tryd.underlying42 rfl (fA_size _)) ⟨(s1, s2, s3), fun _ _ => rfl, rfl, .inl ⟨h6, hw⟩⟩
        · rcases hw with ⟨h6, hw⟩ | ⟨h6, -⟩
          case inr => rw [hL] at h6; cases h6
          have h8 : Lx 8 = false := by cases cq : Lx 8; rfl; exact absurd (hdc 8 cq 6 (by decide)) (by rw [hL]; decide)
          refine stepW_call (f := 29) (args := #[.agg (t3A i), .int .u32 (op : Nat), .int .i64 ((k : Int) + 1), .int .u16 (vv : Nat), .agg (fA x)]) (by go_simp) ((send_any hw.a.1 x HX.out ad HA2.out HDD.out ((k : Int) + 1) vv op HOL.out).mono ?_)
          rintro e w9 ⟨sv, q1, q2, q3⟩
          rw [← HSS.out] at q2
          obtain ⟨x1, x2, hx12, -, -⟩ := q2.shape
          refine ⟨sv, q1, (x1, (sendL x (findV vv lv).1 (portsL S)).length, x2), vs_other (i := 6) rfl hL, by rw [hx12]; rfl, .inr ⟨by rfl, fun k hk hl => by have q4 := (q2.lt k (by rw [hx12]; exact hk)).1; have q5 := (bdK l).lt hw.a.2.2 hl; omega, ?_⟩⟩
          have q := hw.more (A' := bdO w0.heap.size 81 19 snC (sv) (sendL x (findV vv lv).1 (portsL S))) q3 (q2.mono (show w0.heap.size ≤ w'.heap.size from hw.below.size)) (fun k hk => (q2.lt k hk).1)
          rw [hx12] at q
          show Kx w0 (bif upd Lx 6 8 then _ else _) _ w9
          rw [show upd Lx 6 8 = false from h8]
          exact q
        · obtain ⟨e49, e48, _⟩ := hs
          rcases hw with ⟨h6, -⟩ | ⟨h6, hfr, hw⟩
          case inl => rw [haft 6 (by decide)] at h6; cases h6
          rw [hL] at hw
          have hw0 : Kx w0 [(b1, t3A i, 35), (b2, fA x, 42), (b3, #[.slice none 0 0, .int .i64 0, .bool false, .bool false], 48), (b21, #[.slice none 0 0, .int .i64 7, .bool lb, .bool full], 48)] (((bdT w0 i lv ls l2).and (((bdO w0.heap.size 58 21 poC (.slice (some ⟨g, 0, none⟩) n m) ps).and C).and (bdK l))).and (bdO w0.heap.size 81 19 snC (.slice s1 s2 s3) (sendL x (findV vv lv).1 (portsL S)))) w' := hw
          refine ss 46 _ _ rfl ⟨b21, 0, none⟩ (.slice s1 s2 s3) e49 e48 (kx_run_set hw0 (i := 3) rfl 46 0 (.slice none 0 0) (.slice s1 s2 s3) (by rfl) (fun W h1 h2 => by go_simp)) ⟨(s1, s2, s3), fun _ _ => rfl, rfl, .inr ⟨h6, hfr, kx_cast (hw0.set (i := 3) rfl 0 (.slice s1 s2 s3)) (by rfl)⟩⟩
      · rintro ⟨s1, s2, s3⟩ Lx w40 hw hall
        rcases hw with ⟨h6, -⟩ | ⟨-, hfr, hw⟩
        case inl => rw [hall 6 (by decide)] at h6; cases h6
        have HFR := Lib.hid hfr
        clear hfr
        rw [hall 8 (by decide)] at hw
        have K40 := Lib.hid (show Kx w0 [(b1, t3A i, 35), (b2, fA x, 42), (b3, #[.slice none 0 0, .int .i64 0, .bool false, .bool false], 48), (b21, #[.slice s1 s2 s3, .int .i64 7, .bool lb, .bool full], 48)] (((bdT w0 i lv ls l2).and (((bdO w0.heap.size 58 21 poC (.slice (some ⟨g, 0, none⟩) n m) ps).and C).and (bdK l))).and (bdO w0.heap.size 81 19 snC (.slice s1 s2 s3) (sendL x (findV vv lv).1 (portsL S)))) w40 from hw)
        clear hw hall
        simp only [List.toList_toArray, putsZ_some, putsZ_none, putsZ_nil, List.setIfInBounds_toArray, List.set_cons_zero, List.set_cons_succ]
        go_upto_region 10 with fail
        refine wp_region_lit ?_
        refine wv (.agg (#[.slice s1 s2 s3, .int .i64 7, .bool lb, .bool full])) ?_ (hrun := kx_all K40.out 3 rfl 48 _ rfl rfl Tryd.underlying48 rfl (rsize))
        (try simp only [Act.put, gA, gS, gZ, sA, sZ, sS])
        refine kx_row K40.out 2 rfl 48 _ _ (#[.slice s1 s2 s3, .int .i64 7, .bool lb, .bool full]) rfl rfl rfl rfl (rsize) (by rfl) (by kernel_rfl) ?_
        intro w41 hk
        have K41 := Lib.hid (show Kx w0 [(b1, t3A i, 35), (b2, fA x, 42), (b3, #[.slice s1 s2 s3, .int .i64 7, .bool lb, .bool full], 48), (b21, #[.slice s1 s2 s3, .int .i64 7, .bool lb, .bool full], 48)] (((bdT w0 i lv ls l2).and (((bdO w0.heap.size 58 21 poC (.slice (some ⟨g, 0, none⟩) n m) ps).and C).and (bdK l))).and (bdO w0.heap.size 81 19 snC (.slice s1 s2 s3) (sendL x (findV vv lv).1 (portsL S)))) w41 from hk)
        clear hk
        (try simp only [Act.put, gA, gS, gZ, sA, sZ, sS])
        refine wpList_nil ?_
        obtain ⟨y1, y2, hy, -, -⟩ := (show Own w41 w0.heap.size 81 19 snC (.slice s1 s2 s3) (sendL x (findV vv lv).1 (portsL S)) from K41.out.a.2).shape
        have HSZ := Lib.hid (show s2 = (sendL x (findV vv lv).1 (portsL S)).length by injection hy)
        clear hy
        go_wp2_with fail
        refine bodyPost_ret (v := .agg (#[.slice s1 s2 s3, .int .i64 7, .bool lb, .bool full])) (results_cell_row Tryd.results8 _ _ b3 48 _ (0, 0) _ rfl (K41.out.at (i := 2) rfl) Tryd.underlying48 rfl rsize) rfl ?_
        refine ⟨_, rfl, ?_⟩
        unfold PassP
        refine ⟨.slice s1 s2 s3, 7, lb, full, l2, sendL x (findV vv lv).1 (portsL S), .inr ⟨HC0.out, ⟨gv, by rw [← HVV.out]; exact HL.out⟩, by rw [← HVV.out]; exact HLB.out, p, by rw [show (((k : Int) + 1) - 1).toNat = k by omega]; exact HP.out, .inr ⟨HC3.out, rfl, by rw [← HVV.out, ← HOP.out, HSS.out]⟩⟩, rfl, ⟨s1, s3, by rw [← HSZ.out]⟩, HK0.out.outN (T' := bdT w0 i lv ls l2) (N := bdO w0.heap.size 81 19 snC (.slice s1 s2 s3) (sendL x (findV vv lv).1 (portsL S))) (Kx.left (l := []) K41.out) (fun k q => q) HFR.out⟩
end
section
/- The laws speak: a frame is flooded. -/
open Go.RowKit
attribute [local irreducible] wpQuiet wpList

theorem rows_of_blk {α : Type} {enc : α → List Value} {size b : Nat} {t : TypeId} {w : World} {l : List α} (henc : ∀ x, (enc x).length = size) (h : Blk w b (cellsL enc l).toArray t) : RowsAt w (some ⟨b, 0, none⟩) size enc l := by
  refine .inr ⟨b, 0, rfl, h.lt, fun i x hx j u hu => ?_⟩
  have hj : j < size := by have := (List.getElem?_eq_some_iff.1 hu).1; rw [henc] at this; exact this
  rw [h.cell, Nat.zero_add, List.getElem?_toArray, cellsL_at henc l i j x hx hj, hu]
theorem T3.up {w0 w1 w : World} {i : Ix} {lv : List Vl} {ls : List Se} {lf : List En} (h : T3 w1 i lv ls lf w) (hs : w0.heap.size ≤ w1.heap.size) : T3 w0 i lv ls lf w := ⟨h.tabV, h.tabS, h.tabF, ⟨Nat.le_trans hs h.low.1, h.low.2⟩, h.smV, h.smS⟩
/-- What was made is owned by the one who asked for it. -/
theorem Kx.made {w0 w w' : World} {l : List (Nat × Array Value × TypeId)} {A : Bd} {i : Ix} {lv : List Vl} {ls : List Se} {lf : List En} {v : Value} {ps : List Po} (K : Kx w0 l A w) (h : Kx w [] ((bdT w i lv ls lf).and (bdO w.heap.size 58 21 poC v ps)) w') :
    Kx w0 l (A.and ((bdT w0 i lv ls lf).and (bdO w0.heap.size 58 21 poC v ps))) w' :=
  K.more h.below ⟨T3.up h.a.1 K.below.size, h.a.2.mono K.below.size⟩ (fun k q => by
    have q' : ((bdT w i lv ls lf).and (bdO w.heap.size 58 21 poC v ps)).f k := q
    exact h.nw k q')
theorem forT_ty (x : Fr) (v : Vl) (p : Int) : (forT x v p).ty = x.ty ∧ (forT x v p).da = x.da ∧ (forT x v p).s = x.s := by
  unfold forT
  split <;> exact ⟨rfl, rfl, rfl⟩
def lp3 : List Lp := [⟨false, 2, 0, false, 0⟩, ⟨false, 2, 0, false, 0⟩, ⟨false, 1, 0, false, 0⟩]
def py3 : Py := ⟨fun k => if k < 2 then 7 else 0, 3⟩
def fr3 : Fr := ⟨byteF 6, byteF 4, false, 0, false, 0, 2048, ⟨#[]⟩⟩
theorem fr3_ok : fr3.ok := ⟨byteF_six _, byteF_six _, by show (2048 : Nat) < 65536; omega, by show (0 : Nat) ≤ 1600; omega, ⟨4, by omega, rfl⟩, ⟨6, by omega, rfl⟩⟩
abbrev ps3 : List Po := (lp3.take 8).map madeP
theorem lv3 : madeV py3 3 = [⟨1, 7, 7⟩, ⟨2, 0, 0⟩, ⟨3, 0, 0⟩] := by decide +kernel
theorem ent3 : entM [⟨1, 7, 7⟩, ⟨2, 0, 0⟩, ⟨3, 0, 0⟩] ps3 1 fr3 = (1, 7) := by decide +kernel
theorem prt3 : portsL (portsN 1 1 6 (openM ps3 ps3.length) [⟨1, 7, 7⟩, ⟨2, 0, 0⟩, ⟨3, 0, 0⟩] [] [⟨1, 4, 1, 0⟩]) = [2] := by decide +kernel
theorem fnd3 : (findV 1 [⟨1, 7, 7⟩, ⟨2, 0, 0⟩, ⟨3, 0, 0⟩]).1 = ⟨1, 7, 7⟩ := by decide +kernel
theorem for3 : forK fr3 ⟨1, 7, 7⟩ 2 = true := by decide +kernel
theorem lrn3 {mo : Int} {l' : List En} {gv : Array Value} {full : Bool} (hm : mo = 4) (h : LearnR mo 20 [] ⟨1, 4, 1, 0⟩ l' gv full) : l' = [⟨1, 4, 1, 0⟩] ∧ full = false := by
  subst hm
  rcases h with ⟨h, -⟩ | ⟨-, -, rfl, -, rfl⟩ | ⟨-, h, -⟩
  · exact absurd h (by decide +kernel)
  · exact ⟨rfl, rfl⟩
  · exact absurd h (by decide +kernel)
theorem pass3 {i : Ix} (hm : i.mo = 4) (hl : i.li = 20) {l' : List En} {why : Int} {lb full : Bool} {sent : List Sn} (h : PassR i [⟨1, 7, 7⟩, ⟨2, 0, 0⟩, ⟨3, 0, 0⟩] [] [] ps3 1 fr3 4 6 l' why lb full sent) : l' = [⟨1, 4, 1, 0⟩] ∧ why = 7 ∧ lb = true ∧ full = false ∧ sent = [⟨2, forT fr3 ⟨1, 7, 7⟩ 2⟩] := by
  unfold PassR at h
  rw [ent3] at h
  rcases h with ⟨h, -⟩ | ⟨-, ⟨gv, hL⟩, hlb, p, hp, hc⟩
  · exact absurd rfl h
  · rw [hl] at hL
    obtain ⟨rfl, rfl⟩ := lrn3 hm hL
    have hp2 : p.p11 = 2 := by
      have e : ps3[((1 : Int) - 1).toNat]? = some (madeP ⟨false, 2, 0, false, 0⟩) := rfl
      rw [e] at hp
      cases hp
      decide +kernel
    rcases hc with ⟨h, -⟩ | ⟨-, hwhy, hs⟩
    · rw [hp2] at h; cases h
    · refine ⟨rfl, hwhy, by rw [hlb]; decide +kernel, rfl, ?_⟩
      rw [hs]
      show sendL fr3 (findV 1 _).1 _ = _
      rw [show portsL (portsN 1 (1, (7 : Int)).1 6 (openM ps3 ps3.length) [⟨1, 7, 7⟩, ⟨2, 0, 0⟩, ⟨3, 0, 0⟩] [] [⟨1, 4, 1, 0⟩]) = [2] from prt3, fnd3]
      unfold sendL
      simp [for3]
set_option maxRecDepth 100000 in
theorem three_lp : ∀ W : World, (Instr.buildSlice 22 3 #[(0, .agg (lpA ⟨false, 2, 0, false, 0⟩)), (1, .agg (lpA ⟨false, 2, 0, false, 0⟩)), (2, .agg (lpA ⟨false, 1, 0, false, 0⟩))]).run Tryd.prog W = .ok (.slice (some ⟨W.heap.size, 0, none⟩) 3 3) (W.alloc (.cells (cellsL lpC lp3).toArray 86)) := fun W => by
  have u := Tryd.underlying22
  show (Instr.buildSlice 22 3 #[(0, .agg #[.bool false, .int .u8 2, .int .u8 0, .bool false, .int .u8 0]), (1, .agg #[.bool false, .int .u8 2, .int .u8 0, .bool false, .int .u8 0]), (2, .agg #[.bool false, .int .u8 1, .int .u8 0, .bool false, .int .u8 0])]).run Tryd.prog W = .ok (.slice (some ⟨W.heap.size, 0, none⟩) 3 3) (W.alloc (.cells #[.bool false, .int .u8 2, .int .u8 0, .bool false, .int .u8 0, .bool false, .int .u8 2, .int .u8 0, .bool false, .int .u8 0, .bool false, .int .u8 1, .int .u8 0, .bool false, .int .u8 0] 86))
  go_simp
theorem kx_new {P : Program} {ops : Array Oper} {Q : Exit → Act → World → Prop} {a : Act} {w w0 : World} {A : Bd} {rest : List Oper} {o : Oper} {l : List (Nat × Array Value × TypeId)} (K : Kx w0 l A w) (v : Nat → Value) (arr : Array Value) (e : TypeId) (hw : Region.wanted o (yielded ops a.tmps) = true) (hv : (execOp a.eval o).run P w = .ok (.value (v w.heap.size)) (w.alloc (.cells arr e)))
    (h : ∀ b w', b = w.heap.size → Kx w0 (l ++ [(b, arr, e)]) A w' → wpList P ops Q rest (a.put o.dst (v b)) w') : wpList P ops Q (o :: rest) a w := by
  refine BigFrame.wpList_want hw fun K' hK => ?_
  unfold Oper.wp
  rw [hv]
  exact hK _ _ (h _ _ rfl (K.alloc arr e))
theorem run_bs3 {P : Program} {o : Oper} {a : Act} {w w' : World} (t : TypeId) (x y z : Operand) (ho : o.op = .buildSlice t 3 #[(0, x), (1, y), (2, z)]) (u v r s : Value) (hu : a.eval x = u) (hv : a.eval y = v) (hr : a.eval z = r) (h : (Instr.buildSlice t 3 #[(0, u), (1, v), (2, r)]).run P w = .ok s w') : (execOp a.eval o).run P w = .ok (.value s) w' := by
  subst hu hv hr
  unfold execOp
  simp only [ho, List.map_toArray, List.map_cons, List.map_nil, Sem.run_bind, h, Result.andThen_ok, Sem.run_pure]
end
section
/- The laws speak. -/
open Go.RowKit
attribute [local irreducible] wpQuiet wpList

set_option maxRecDepth 100000 in
set_option maxHeartbeats 8000000 in
theorem speaks19_any (w : World) (hW : WhysAt w) : Calls Tryd.prog 5 #[] w fun e w' => e = .returned (.bool true) ∧ Below w.heap.size w w' := by
  have HW := Lib.hid hW
  have K0 := Lib.hid (Kx.start (Kb.nil w))
  clear hW
  go_enter Tryd.func5, Tryd.ntmps5
  go_upto_region 1 with fail
  refine wp_region_lit ?_
  refine wv (.agg (lpA ⟨false, 2, 0, false, 0⟩)) ?_ (hrun := run_build_of 86 [(1, .const (.int .u8 2))] rfl _ (lpA ⟨false, 2, 0, false, 0⟩) rfl (by kernel_rfl))
  (try simp only [Act.put, gA, gS, gZ, sA, sZ, sS])
  refine wv (.agg (lpA ⟨false, 2, 0, false, 0⟩)) ?_ (hrun := run_build_of 86 [(1, .const (.int .u8 2))] rfl _ (lpA ⟨false, 2, 0, false, 0⟩) rfl (by kernel_rfl))
  (try simp only [Act.put, gA, gS, gZ, sA, sZ, sS])
  refine wv (.agg (lpA ⟨false, 1, 0, false, 0⟩)) ?_ (hrun := run_build_of 86 [(1, .const (.int .u8 1))] rfl _ (lpA ⟨false, 1, 0, false, 0⟩) rfl (by kernel_rfl))
  (try simp only [Act.put, gA, gS, gZ, sA, sZ, sS])
  refine kx_new K0.out (fun b => .slice (some ⟨b, 0, none⟩) 3 3) (cellsL lpC lp3).toArray 86 (by rfl) (run_bs3 22 (.tmp 5) (.tmp 6) (.tmp 7) rfl _ _ _ _ rfl rfl rfl (three_lp w)) ?_
  intro b0 w1 hb0 hk
  have K1 := Lib.hid (show Kx w [(b0, (cellsL lpC lp3).toArray, 86)] (Bd.nil) w1 from hk)
  clear hk hb0
  (try simp only [Act.put, gA, gS, gZ, sA, sZ, sS])
  refine wv (.agg (#[.int .u16 7, .int .u16 7])) ?_ (hrun := run_build_of 24 [(0, .const (.int .u16 7)), (1, .const (.int .u16 7))] rfl _ (#[.int .u16 7, .int .u16 7]) rfl (by kernel_rfl))
  (try simp only [Act.put, gA, gS, gZ, sA, sZ, sS])
  refine wv (.agg (#[.int .u16 7, .int .u16 7, .int .u16 0, .int .u16 0, .int .u16 0, .int .u16 0])) ?_ (hrun := run_build_of 25 [(0, .tmp 9)] rfl _ (#[.int .u16 7, .int .u16 7, .int .u16 0, .int .u16 0, .int .u16 0, .int .u16 0]) rfl (by kernel_rfl))
  (try simp only [Act.put, gA, gS, gZ, sA, sZ, sS])
  refine wv (.agg (plA py3 (.slice (some ⟨b0, 0, none⟩) 3 3) (.slice none 0 0) (.slice none 0 0))) ?_ (hrun := run_build_of 29 [(0, .tmp 8), (1, .tmp 10), (3, .const (.int .u8 3))] rfl _ (plA py3 (.slice (some ⟨b0, 0, none⟩) 3 3) (.slice none 0 0) (.slice none 0 0)) rfl (by kernel_rfl))
  (try simp only [Act.put, gA, gS, gZ, sA, sZ, sS])
  have hmk := made_any py3 ⟨fun k => by show (if k < 2 then 7 else 0) < 65536; split <;> omega, by show (3 : Nat) < 256; omega⟩ lp3 [] (.slice none 0 0) (some ⟨b0, 0, none⟩) none 3 3 0 0 w1 (rows_of_blk (fun _ => rfl) (K1.out.at (i := 0) rfl)) (.inl rfl) rfl rfl (by unfold maxLen; omega) (by unfold maxLen; omega) (fun y hy => by simp only [lp3, List.mem_cons, List.not_mem_nil, or_false] at hy; rcases hy with rfl | rfl | rfl <;> exact ⟨by decide, by decide, by decide⟩) (fun p hp => by cases hp)
  refine wl_call (R := fun v w2 => ∃ (i : Ix) (a : Option Addr) (n m : Nat), v = .tuple #[.agg (t3A i), .slice a n m] ∧ i.mo = 4 ∧ i.li = 20 ∧ n = 3 ∧ n ≤ m ∧ m ≤ maxLen ∧ Kx w1 [] ((bdT w1 i [⟨1, 7, 7⟩, ⟨2, 0, 0⟩, ⟨3, 0, 0⟩] [] []).and (bdO w1.heap.size 58 21 poC (.slice a n m) ps3)) w2 ∧ ∀ k, (Value.slice a n m).ownBlock = some k → ¬ (bdT w1 i [⟨1, 7, 7⟩, ⟨2, 0, 0⟩, ⟨3, 0, 0⟩] [] []).f k) 6 #[.agg (plA py3 (.slice (some ⟨b0, 0, none⟩) 3 3) (.slice none 0 0) (.slice none 0 0))] (by rfl) (by go_simp) (hmk.mono fun e w2 h => by
    obtain ⟨i, a, n, m, q1, q2, q3, q4, q5, q6, q7, q8⟩ := h
    rw [lv3] at q7 q8
    exact ⟨_, q1, i, a, n, m, rfl, q2, q3, q4.symm, q5, q6, q7, q8⟩) ?_
  rintro _ w10 ⟨i, a, n, m, rfl, hmo, hli, hn, hnm, hmx, hk, hdis⟩
  subst hn
  have K10 := Lib.hid (show Kx w [(b0, (cellsL lpC lp3).toArray, 86)] ((bdT w i [⟨1, 7, 7⟩, ⟨2, 0, 0⟩, ⟨3, 0, 0⟩] [] []).and ((bdO w.heap.size 58 21 poC (.slice a 3 m) ps3).and Bd.nil)) w10 from (K1.out.made hk).turn (fun h => ⟨h.2.1, h.2.2, trivial⟩) (fun k q => by rcases q with q | q | q; exact .inr (.inl q); exact .inr (.inr q); exact q.elim))
  have HD := Lib.hid (show ∀ k, ((bdO w.heap.size 58 21 poC (.slice a 3 m) ps3).and Bd.nil).f k → ¬ (bdT w i [⟨1, 7, 7⟩, ⟨2, 0, 0⟩, ⟨3, 0, 0⟩] [] []).f k from fun k q => by rcases q with q | q; exact hdis k q; exact q.elim)
  have HMO := Lib.hid hmo
  have HLI := Lib.hid hli
  have HMX := Lib.hid (And.intro hnm hmx)
  clear hk hmk hdis hmo hli hnm hmx
  (try simp only [Act.put, gA, gS, gZ, sA, sZ, sS])
  refine wv (.tuple #[.agg (t3A i), .slice a 3 m]) ?_
  (try simp only [Act.put, gA, gS, gZ, sA, sZ, sS])
  refine wv (.agg (t3A i)) ?_
  (try simp only [Act.put, gA, gS, gZ, sA, sZ, sS])
  refine wv (.slice a 3 m) ?_
  (try simp only [Act.put, gA, gS, gZ, sA, sZ, sS])
  refine kx_alloc K10.out 35 (#[.pointer none, .pointer none, .pointer none]) rfl zT (by rfl) ?_
  intro b11 w11 hb11 hk
  have K11 := Lib.hid (show Kx w [(b0, (cellsL lpC lp3).toArray, 86), (b11, #[.pointer none, .pointer none, .pointer none], 35)] ((bdT w i [⟨1, 7, 7⟩, ⟨2, 0, 0⟩, ⟨3, 0, 0⟩] [] []).and ((bdO w.heap.size 58 21 poC (.slice a 3 m) ps3).and Bd.nil)) w11 from hk)
  clear hk hb11
  (try simp only [Act.put, gA, gS, gZ, sA, sZ, sS])
  refine kx_row K11.out 1 rfl 35 _ _ (t3A i) rfl rfl rfl rfl (t3Size) (by rfl) (t3_one i) ?_
  intro w12 hk
  have K12 := Lib.hid (show Kx w [(b0, (cellsL lpC lp3).toArray, 86), (b11, t3A i, 35)] ((bdT w i [⟨1, 7, 7⟩, ⟨2, 0, 0⟩, ⟨3, 0, 0⟩] [] []).and ((bdO w.heap.size 58 21 poC (.slice a 3 m) ps3).and Bd.nil)) w12 from hk)
  clear hk
  (try simp only [Act.put, gA, gS, gZ, sA, sZ, sS])
  refine wv (.slice a 3 m) ?_
  (try simp only [Act.put, gA, gS, gZ, sA, sZ, sS])
  refine wpList_nil ?_
  go_upto_region 2 with fail
  refine rk (fun (s : Option Addr × Nat × Nat) => [.agg (t3A i), .slice a 3 m, .agg (macA (byteF 4)), .agg (macA (byteF 6)), .agg (fA fr3), .agg #[.slice s.1 1 s.2.1, .int .i64 7, .bool true, .bool false], .pointer (some ⟨s.2.2, 0, none⟩), undef]) (fun s Lx w' => (Lx 5 = false ∧ Kx w (bif Lx 6 then [(b0, (cellsL lpC lp3).toArray, 86), (b11, t3A i, 35)] ++ [(s.2.2, bif Lx 7 then #[.slice s.1 1 s.2.1, .int .i64 7, .bool true, .bool false] else #[.slice none 0 0, .int .i64 0, .bool false, .bool false], 48)] else [(b0, (cellsL lpC lp3).toArray, 86), (b11, t3A i, 35)]) ((bdT w i [⟨1, 7, 7⟩, ⟨2, 0, 0⟩, ⟨3, 0, 0⟩] [] []).and ((bdO w.heap.size 58 21 poC (.slice a 3 m) ps3).and Bd.nil)) w') ∨ (Lx 5 = true ∧ Kx w (bif Lx 6 then [(b0, (cellsL lpC lp3).toArray, 86), (b11, t3A i, 35)] ++ [(s.2.2, bif Lx 7 then #[.slice s.1 1 s.2.1, .int .i64 7, .bool true, .bool false] else #[.slice none 0 0, .int .i64 0, .bool false, .bool false], 48)] else [(b0, (cellsL lpC lp3).toArray, 86), (b11, t3A i, 35)]) (((bdT w i [⟨1, 7, 7⟩, ⟨2, 0, 0⟩, ⟨3, 0, 0⟩] [] [⟨1, 4, 1, 0⟩]).and ((bdO w.heap.size 58 21 poC (.slice a 3 m) ps3).and Bd.nil)).and (bdO w.heap.size 81 19 snC (.slice s.1 1 s.2.1) [(⟨2, forT fr3 ⟨1, 7, 7⟩ 2⟩ : Sn)])) w')) (none, 0, 0) [] [] [(0, fun s => [(1, .pointer (some ⟨b11, 0, none⟩))]), (2, fun s => []), (3, fun s => []), (4, fun s => [(17, .agg (macA (byteF 4))), (18, .agg (macA (byteF 6)))]), (5, fun s => [(15, .agg (t3A i)), (16, .slice a 3 m), (19, .agg (fA fr3))]), (6, fun s => []), (7, fun s => [(3, .pointer (some ⟨s.2.2, 0, none⟩)), (20, .agg #[.slice s.1 1 s.2.1, .int .i64 7, .bool true, .bool false])])] [5, 6, 7] ?_ ?_ ?_ ?_ ?_
  · exact .inl ⟨rfl, K12.out.drew⟩
  · intro s L w' h; exact trivial
  · intro s L1 L2 w' e h; (try dsimp only at h ⊢); rw [← e 5 (by simp), ← e 6 (by simp), ← e 7 (by simp)]; exact h
  · refine ⟨?_, ?_, ?_, ?_, ?_, ?_, ?_, trivial⟩ <;> (rintro s Lx w' hw hL haft hdc ρ hc hf hG hs o ho; cases ho; try dsimp only [seen] at hw hs)
    · obtain ⟨e1, -⟩ := hs
      rcases hw with ⟨h5, hw⟩ | ⟨h5, hw⟩
      case inr => exact absurd (hdc 5 h5 0 (by decide)) (by rw [hL]; decide)
      exact sw (.agg (t3A i)) (l_var 35 _ rfl _ e1 _ _ _ (by cases c6 : Lx 6 <;> rw [c6] at hw <;> exact Kx.at (i := 1) hw rfl) Tryd.underlying35 rfl t3Size) ⟨s, fun _ _ => rfl, rfl, .inl ⟨h5, hw⟩⟩
    · skip
      rcases hw with ⟨h5, hw⟩ | ⟨h5, hw⟩
      case inr => exact absurd (hdc 4 (hdc 5 h5 4 (by decide)) 2 (by decide)) (by rw [hL]; decide)
      exact sc (.agg (macA (byteF 4))) 21 #[.int .u64 4] (fromInt_any 4 w') (by go_simp) (fun w2 hb => ⟨s, fun _ _ => rfl, rfl, .inl ⟨h5, hw.next hb⟩⟩)
    · skip
      rcases hw with ⟨h5, hw⟩ | ⟨h5, hw⟩
      case inr => exact absurd (hdc 4 (hdc 5 h5 4 (by decide)) 3 (by decide)) (by rw [hL]; decide)
      exact sc (.agg (macA (byteF 6))) 21 #[.int .u64 6] (fromInt_any 6 w') (by go_simp) (fun w2 hb => ⟨s, fun _ _ => rfl, rfl, .inl ⟨h5, hw.next hb⟩⟩)
    · obtain ⟨e17, e18, -⟩ := hs
      exact sq (.agg (fA fr3)) (l_build 42 [(1, .tmp 17), (0, .tmp 18), (6, .const (.int .u16 2048))] rfl _ (fA fr3) (by simp only [List.map_cons, List.map_nil, e17, e18, hc] <;> rfl) (by kernel_rfl))
    · obtain ⟨e15, e16, e19, -⟩ := hs
      rcases hw with ⟨h5, hw⟩ | ⟨h5, hw⟩
      case inr => rw [hL] at h5; cases h5
      refine stepW_call (f := 8) (args := #[.agg (t3A i), .slice a 3 m, .int .i64 1, .agg (fA fr3)]) (by go_simp) ((pass_any hw HD.out (by rw [HMO.out]; omega) rfl HMX.out (fun y hy => by obtain ⟨z, -, rfl⟩ := List.mem_map.1 hy; exact madeP_ok z) HW.out 1 fr3 fr3_ok 4 6 (by omega) rfl (by omega) rfl).mono ?_)
      rintro e w9 ⟨v, q1, sv, why, lb, full, l2, sent, q2, q3, ⟨x1, x2, q4⟩, q5⟩
      obtain ⟨rfl, rfl, rfl, rfl, rfl⟩ := pass3 HMO.out HLI.out q2
      subst q3 q4
      exact ⟨_, q1, (x1, x2, s.2.2), vs_other (i := 5) rfl hL, rfl, .inr ⟨by rfl, by have h7 : Lx 7 = false := (by cases cq : Lx 7; rfl; exact absurd (hdc 7 cq 5 (by decide)) (by rw [hL]; decide)); show Kx w (bif Lx 6 then _ ++ [(_, bif Lx 7 then _ else _, _)] else _) _ w9; rw [h7] at q5 ⊢; exact q5⟩⟩
    · skip
      have h7 : Lx 7 = false := by cases cq : Lx 7; rfl; exact absurd (hdc 7 cq 6 (by decide)) (by rw [hL]; decide)
      have hz := z4 w'
      rw [hL] at hw
      dsimp only [cond_false] at hw
      exact sw (w' := w'.alloc (.cells (#[.slice none 0 0, .int .i64 0, .bool false, .bool false]) 48)) (.pointer (some ⟨w'.heap.size, 0, none⟩)) (by go_simp) ⟨(s.1, s.2.1, w'.heap.size), vs_other (i := 6) rfl hL, rfl, by rcases hw with ⟨h5, hw⟩ | ⟨h5, hw⟩; exact .inl ⟨h5, by show Kx w (bif true then _ ++ [(_, bif Lx 7 then _ else _, _)] else _) _ _; rw [h7]; exact hw.alloc _ _⟩; exact .inr ⟨h5, by show Kx w (bif true then _ ++ [(_, bif Lx 7 then _ else _, _)] else _) _ _; rw [h7]; exact hw.alloc _ _⟩⟩
    · obtain ⟨e3, e20, -⟩ := hs
      rcases hw with ⟨h5, hw⟩ | ⟨h5, hw⟩
      case inl => rw [haft 5 (by decide)] at h5; cases h5
      rw [haft 6 (by decide), hL] at hw
      have hw0 : Kx w ([(b0, (cellsL lpC lp3).toArray, 86), (b11, t3A i, 35)] ++ [(s.2.2, #[.slice none 0 0, .int .i64 0, .bool false, .bool false], 48)]) (((bdT w i [⟨1, 7, 7⟩, ⟨2, 0, 0⟩, ⟨3, 0, 0⟩] [] [⟨1, 4, 1, 0⟩]).and ((bdO w.heap.size 58 21 poC (.slice a 3 m) ps3).and Bd.nil)).and (bdO w.heap.size 81 19 snC (.slice s.1 1 s.2.1) [(⟨2, forT fr3 ⟨1, 7, 7⟩ 2⟩ : Sn)])) w' := hw
      exact sr 48 _ _ rfl s.2.2 #[.slice s.1 1 s.2.1, .int .i64 7, .bool true, .bool false] e3 e20 48 (#[.slice none 0 0, .int .i64 0, .bool false, .bool false]) (hw0.at (i := 2) rfl) rsize rfl (by kernel_rfl) ⟨s, fun _ _ => rfl, rfl, .inr ⟨h5, by show Kx w (bif Lx 6 then _ ++ [(_, bif true then _ else _, _)] else _) _ _; rw [haft 6 (by decide)]; exact kx_cast (hw0.row (i := 2) rfl #[.slice s.1 1 s.2.1, .int .i64 7, .bool true, .bool false]) (by rfl)⟩⟩
  · rintro ⟨x1, x2, b9⟩ Lx w20 hw hall
    rcases hw with ⟨h5, hw⟩ | ⟨-, hw⟩
    case inl => rw [hall 5 (by decide)] at h5; cases h5
    rw [hall 6 (by decide), hall 7 (by decide)] at hw
    simp only [List.toList_toArray, putsZ_some, putsZ_none, putsZ_nil, List.setIfInBounds_toArray, List.set_cons_zero, List.set_cons_succ]
    have K20 := Lib.hid (show Kx w [(b0, (cellsL lpC lp3).toArray, 86), (b11, t3A i, 35), (b9, #[.slice x1 1 x2, .int .i64 7, .bool true, .bool false], 48)] (((bdT w i [⟨1, 7, 7⟩, ⟨2, 0, 0⟩, ⟨3, 0, 0⟩] [] [⟨1, 4, 1, 0⟩]).and ((bdO w.heap.size 58 21 poC (.slice a 3 m) ps3).and Bd.nil)).and (bdO w.heap.size 81 19 snC (.slice x1 1 x2) [(⟨2, forT fr3 ⟨1, 7, 7⟩ 2⟩ : Sn)])) w20 from hw)
    clear hw hall
    obtain ⟨g, hg, -, -, hrow⟩ := Own.elem sn_len (k := 0) (show Own w20 w.heap.size 81 19 snC (.slice x1 [(⟨2, forT fr3 ⟨1, 7, 7⟩ 2⟩ : Sn)].length x2) [(⟨2, forT fr3 ⟨1, 7, 7⟩ 2⟩ : Sn)] from K20.out.a.2) rfl
    subst hg
    have hc0 : w20.cell? ⟨g, 0, none⟩ = some (.int .i64 2) := hrow w20 (Below.refl _ _) 0 _ rfl
    have hc1 : w20.cell? ⟨g, 17, none⟩ = some (.int .u16 2048) := (hrow w20 (Below.refl _ _) 17 (.int .u16 2048) (by have q := (forT_ty fr3 ⟨1, 7, 7⟩ 2).1; show some (Value.int .u16 ((forT fr3 ⟨1, 7, 7⟩ 2).ty : Nat)) = _; rw [q]; rfl))
    have hx2 : 1 ≤ x2 := by obtain ⟨a9, c, q1, q2, _⟩ := Own.shape (show Own w20 w.heap.size 81 19 snC (.slice (some ⟨g, 0, none⟩) 1 x2) [(⟨2, forT fr3 ⟨1, 7, 7⟩ 2⟩ : Sn)] from K20.out.a.2); injection q1 with q3 q4 q5; rw [q5]; exact q2
    have KF := Lib.hid (show Kx w [(b0, (cellsL lpC lp3).toArray, 86), (b11, t3A i, 35), (b9, #[.slice (some ⟨g, 0, none⟩) 1 x2, .int .i64 7, .bool true, .bool false], 48)] (((bdT w i [⟨1, 7, 7⟩, ⟨2, 0, 0⟩, ⟨3, 0, 0⟩] [] [⟨1, 4, 1, 0⟩]).and ((bdO w.heap.size 58 21 poC (.slice a 3 m) ps3).and Bd.nil)).and (bdO w.heap.size 81 19 snC (.slice (some ⟨g, 0, none⟩) 1 x2) [(⟨2, forT fr3 ⟨1, 7, 7⟩ 2⟩ : Sn)])) w20 from K20.out)
    clear K20
    go_upto_region 3 with fail
    refine wp_region_lit ?_
    refine wv (.pointer (some ⟨b9, 1, none⟩)) ?_
    (try simp only [Act.put, gA, gS, gZ, sA, sZ, sS])
    refine wv (.int .i64 7) ?_ (hrun := by have q : w20.cell? ⟨b9, 1, none⟩ = some (.int .i64 7) := KF.out.cell (i := 2) rfl (by rfl); go_simp)
    (try simp only [Act.put, gA, gS, gZ, sA, sZ, sS])
    refine wv (.bool true) ?_
    (try simp only [Act.put, gA, gS, gZ, sA, sZ, sS])
    refine wv (.bool true) ?_
    (try simp only [Act.put, gA, gS, gZ, sA, sZ, sS])
    refine wv (.pointer (some ⟨b9, 2, none⟩)) ?_
    (try simp only [Act.put, gA, gS, gZ, sA, sZ, sS])
    refine wv (.bool true) ?_ (hrun := by have q : w20.cell? ⟨b9, 2, none⟩ = some (.bool true) := KF.out.cell (i := 2) rfl (by rfl); go_simp)
    (try simp only [Act.put, gA, gS, gZ, sA, sZ, sS])
    refine wv (.bool true) ?_ (hrun := run_pick_yes (.tmp 24) (.tmp 26) (.const (.bool false)) _ rfl rfl rfl)
    (try simp only [Act.put, gA, gS, gZ, sA, sZ, sS])
    refine wv (.bool true) ?_
    (try simp only [Act.put, gA, gS, gZ, sA, sZ, sS])
    refine wv (.pointer (some ⟨b9, 0, none⟩)) ?_
    (try simp only [Act.put, gA, gS, gZ, sA, sZ, sS])
    refine wv (.slice (some ⟨g, 0, none⟩) 1 x2) ?_ (hrun := by have q : w20.cell? ⟨b9, 0, none⟩ = some (.slice (some ⟨g, 0, none⟩) 1 x2) := KF.out.cell (i := 2) rfl (by rfl); go_simp)
    (try simp only [Act.put, gA, gS, gZ, sA, sZ, sS])
    refine wv (.int .i64 1) ?_
    (try simp only [Act.put, gA, gS, gZ, sA, sZ, sS])
    refine wv (.bool true) ?_
    (try simp only [Act.put, gA, gS, gZ, sA, sZ, sS])
    refine wv (.bool true) ?_ (hrun := run_pick_yes (.tmp 28) (.tmp 32) (.const (.bool false)) _ rfl rfl rfl)
    (try simp only [Act.put, gA, gS, gZ, sA, sZ, sS])
    refine wv (.bool true) ?_
    (try simp only [Act.put, gA, gS, gZ, sA, sZ, sS])
    refine wv (.pointer (some ⟨b9, 0, none⟩)) ?_
    (try simp only [Act.put, gA, gS, gZ, sA, sZ, sS])
    refine wv (.slice (some ⟨g, 0, none⟩) 1 x2) ?_ (hrun := by have q : w20.cell? ⟨b9, 0, none⟩ = some (.slice (some ⟨g, 0, none⟩) 1 x2) := KF.out.cell (i := 2) rfl (by rfl); go_simp)
    (try simp only [Act.put, gA, gS, gZ, sA, sZ, sS])
    refine wv (.pointer (some ⟨g, 0, none⟩)) ?_
    (try simp only [Act.put, gA, gS, gZ, sA, sZ, sS])
    refine wv (.pointer (some ⟨g, 0, none⟩)) ?_
    (try simp only [Act.put, gA, gS, gZ, sA, sZ, sS])
    refine wv (.int .i64 2) ?_ (hrun := by have q := hc0; go_simp)
    (try simp only [Act.put, gA, gS, gZ, sA, sZ, sS])
    refine wv (.bool true) ?_
    (try simp only [Act.put, gA, gS, gZ, sA, sZ, sS])
    refine wv (.bool true) ?_ (hrun := run_pick_yes (.tmp 34) (.tmp 40) (.const (.bool false)) _ rfl rfl rfl)
    (try simp only [Act.put, gA, gS, gZ, sA, sZ, sS])
    refine wv (.bool true) ?_
    (try simp only [Act.put, gA, gS, gZ, sA, sZ, sS])
    refine wv (.pointer (some ⟨b9, 0, none⟩)) ?_
    (try simp only [Act.put, gA, gS, gZ, sA, sZ, sS])
    refine wv (.slice (some ⟨g, 0, none⟩) 1 x2) ?_ (hrun := by have q : w20.cell? ⟨b9, 0, none⟩ = some (.slice (some ⟨g, 0, none⟩) 1 x2) := KF.out.cell (i := 2) rfl (by rfl); go_simp)
    (try simp only [Act.put, gA, gS, gZ, sA, sZ, sS])
    refine wv (.pointer (some ⟨g, 0, none⟩)) ?_
    (try simp only [Act.put, gA, gS, gZ, sA, sZ, sS])
    refine wv (.pointer (some ⟨g, 1, none⟩)) ?_
    (try simp only [Act.put, gA, gS, gZ, sA, sZ, sS])
    refine wv (.pointer (some ⟨g, 17, none⟩)) ?_
    (try simp only [Act.put, gA, gS, gZ, sA, sZ, sS])
    refine wv (.int .u16 2048) ?_ (hrun := by have q := hc1; go_simp)
    (try simp only [Act.put, gA, gS, gZ, sA, sZ, sS])
    refine wv (.bool true) ?_
    (try simp only [Act.put, gA, gS, gZ, sA, sZ, sS])
    refine wv (.bool true) ?_ (hrun := run_pick_yes (.tmp 42) (.tmp 49) (.const (.bool false)) _ rfl rfl rfl)
    (try simp only [Act.put, gA, gS, gZ, sA, sZ, sS])
    refine wv (.bool true) ?_
    (try simp only [Act.put, gA, gS, gZ, sA, sZ, sS])
    refine wpList_nil ?_
    go_wp2_with fail
    go_ret
    exact ⟨rfl, KF.out.below⟩
end
end Go.Proofs.YtelohoomlgjjmaaDoor
