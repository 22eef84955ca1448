import Derived.Test.YteeinlbhcdpnnaaDoorG4
import Derived.Test.YteeinlbhcdpnnaaDoorG2
import Derived.Test.YteeinlbhcdpnnaaDoorG23
set_option linter.unusedSimpArgs false
set_option linter.unusedVariables false
namespace Go.Proofs.YteeinlbhcdpnnaaDoor
section
open Go.RowKit
attribute [local irreducible] wpQuiet wpList
set_option maxRecDepth 100000 in
set_option maxHeartbeats 8000000 in
theorem pduOf_any {w : World} {B : Nat} {s : St} {v1 v2 v3 v4 : Value} (y : Ac) (p : Int) (hs : OwS w B s v1 v2 v3 v4) (hn : s.po.length ≤ 16) (hok : ∀ (k : Nat) (x : Po), s.po[k]? = some x → okP x) (hy : y.ok) (hp : -1000000 ≤ p ∧ p ≤ 1000000) : Calls Tryd.prog 16 #[.agg (acA y), stV s v1 v2 v3 v4, .int .i64 p] w fun e w' => e = .returned (pdV (pdU (pduQ y) (pduV y s p))) ∧ Below w.heap.size w w' := by
 obtain ⟨a1, m1, ep, hm1, hm2⟩ := hs.o1.shape
 obtain ⟨n, hn1⟩ : ∃ z, z = s.po.length := ⟨_, rfl⟩
 have HSP := Lib.hid (show (stA s v1 v2 v3 v4).all (·.oneCell') = true from st_one hs)
 rw [← hn1] at ep hm1 hn
 subst ep
 have HS := Lib.hid hs
 have HN := Lib.hid hn1
 have HNB := Lib.hid (show (n : Int) ≤ 16 by omega)
 have HM := Lib.hid (show n ≤ m1 ∧ m1 ≤ maxLen from ⟨hm1, hm2⟩)
 have HOK := Lib.hid hok
 have HP := Lib.hid hp
 have HYI := Lib.hid (show (y.ki : Int) < 256 ∧ (y.ro : Int) < 256 ∧ (y.v0 : Int) < 256 ∧ (y.v1 : Int) < 256 ∧ (y.v2 : Int) < 256 ∧ (y.v3 : Int) < 256 ∧ (y.age : Int) < 256 by obtain ⟨h1, h2, h3, h4, h5, h6, h7, h8, h9⟩ := hy; omega)
 have K := Lib.hid (Kx.start (Kb.nil w))
 obtain ⟨D, hD⟩ : ∃ D, D = pdU (pduQ y) (pduV y s p) := ⟨_, rfl⟩
 rw [← hD]
 have HD := Lib.hid hD
 obtain ⟨r0, hr0, lr0⟩ : ∃ r : Nat, r = y.v0 % 8 ∧ r < 8 := ⟨_, rfl, Nat.mod_lt _ (by decide)⟩
 obtain ⟨r1, hr1, lr1⟩ : ∃ r : Nat, r = y.v1 % 5 ∧ r < 5 := ⟨_, rfl, Nat.mod_lt _ (by decide)⟩
 obtain ⟨r2, hr2, lr2⟩ : ∃ r : Nat, r = y.v2 % 8 ∧ r < 8 := ⟨_, rfl, Nat.mod_lt _ (by decide)⟩
 obtain ⟨r3, hr3, lr3⟩ : ∃ r : Nat, r = y.v3 % 4 ∧ r < 4 := ⟨_, rfl, Nat.mod_lt _ (by decide)⟩
 obtain ⟨r4, hr4, lr4⟩ : ∃ r : Nat, r = y.age % 14 ∧ r < 14 := ⟨_, rfl, Nat.mod_lt _ (by decide)⟩
 obtain ⟨r5, hr5, lr5⟩ : ∃ r : Nat, r = y.ro % 4 ∧ r < 4 := ⟨_, rfl, Nat.mod_lt _ (by decide)⟩
 have Hr0 := Lib.hid (show (y.v0 : Int) % 8 = (r0 : Int) ∧ (r0 : Int) < 8 ∧ r0 = y.v0 % 8 by omega)
 have Hr1 := Lib.hid (show (y.v1 : Int) % 5 = (r1 : Int) ∧ (r1 : Int) < 5 ∧ r1 = y.v1 % 5 by omega)
 have Hr2 := Lib.hid (show (y.v2 : Int) % 8 = (r2 : Int) ∧ (r2 : Int) < 8 ∧ r2 = y.v2 % 8 by omega)
 have Hr3 := Lib.hid (show (y.v3 : Int) % 4 = (r3 : Int) ∧ (r3 : Int) < 4 ∧ r3 = y.v3 % 4 by omega)
 have Hr4 := Lib.hid (show (y.age : Int) % 14 = (r4 : Int) ∧ (r4 : Int) < 14 ∧ r4 = y.age % 14 by omega)
 have Hr5 := Lib.hid (show (y.ro : Int) % 4 = (r5 : Int) ∧ (r5 : Int) < 4 ∧ r5 = y.ro % 4 by omega)
 have hk4 : y.ki % 4 = 0 ∨ y.ki % 4 = 1 ∨ y.ki % 4 = 2 ∨ y.ki % 4 = 3 := by omega
 clear hs hn hn1 hm1 hm2 hok hp hy hD hr0 lr0 hr1 lr1 hr2 lr2 hr3 lr3 hr4 lr4 hr5 lr5
 go_enter Tryd.func16, Tryd.ntmps16
 go_upto_region 0 with fail
 refine wp_region_lit ?_
 refine kx_box K.out 56 (.tmp 0) (acA y) rfl rfl (by rfl) (pz (h := ?_))
 intro b1 w1 K1
 refine kx_box K1.out 40 (.tmp 1) (stA s (.slice a1 n m1) v2 v3 v4) rfl rfl (by rfl) (pz (h := ?_))
 intro b2 w2 K2
 refine kx_alloc K2.out 61 (nil16) rfl zPd (by rfl) (pz (h := ?_))
 intro b3 w3 K3
 refine wpList_nil ?_
 go_upto_region 1 with fail
 refine lz (wz1 (.agg (#[.int .u8 2, .int .u8 2, .int .u8 0, .int .u8 128])) (h1 := by exact run_build_of 54 [(0, .const (.int .u8 2)), (1, .const (.int .u8 2)), (2, .const (.int .u8 0)), (3, .const (.int .u8 128))] rfl _ (#[.int .u8 2, .int .u8 2, .int .u8 0, .int .u8 128]) rfl (by kernel_rfl)) (h := ?_))
 refine kx_alloc K3.out 54 (nil4u) rfl zA4 (by rfl) (pz (h := ?_))
 intro b4 w4 K4
 refine kx_row K4.out 3 rfl 54 _ _ (#[.int .u8 2, .int .u8 2, .int .u8 0, .int .u8 128]) rfl rfl rfl rfl (sizeA4) (by rfl) (by kernel_rfl) (py (h := ?_))
 intro w5 K5
 refine wpList_nil ?_
 go_upto_region 2 with fail
 rcases (show (∃ kk : Nat, (kk = 0 ∨ kk = 1) ∧ y.ki % 4 = kk) ∨ y.ki % 4 = 2 ∨ y.ki % 4 = 3 by rcases hk4 with h | h | h | h; exact .inl ⟨0, .inl rfl, h⟩; exact .inl ⟨1, .inr rfl, h⟩; exact .inr (.inl h); exact .inr (.inr h)) with ⟨kk, hkk, hk4⟩ | hk4 | hk4
 next =>
  have HKK := Lib.hid hkk
  clear hkk
  have HK4 := Lib.hid hk4
  clear hk4
  have HKI := Lib.hid (show (y.ki : Int) % 4 = (kk : Int) by have := HK4.out; omega)
  refine rk (fun s => [pT b1 2, .int .u8 (y.ki : Nat), .int .u8 (kk : Nat), pT b4 kk, .int .u8 2, pT b1 4, pT b1 4, .bool y.f0, .agg (pdA ⟨2, y.f0, false, false, false, false, false, 0, 0, 0, 0, 0, 0, 0, 0, 0⟩), s, undef]) (fun s Lx w' => W2 w5 61 62 16 21 (pdA ⟨2, y.f0, false, false, false, false, false, 0, 0, 0, 0, 0, 0, 0, 0, 0⟩) (#[]) (Lx 9) false (Lx 10) false s undef w') (undef) [] [(1, fun s => ⟨b1, 2, none⟩), (4, fun s => ⟨b4, kk, none⟩), (7, fun s => ⟨b1, 4, none⟩)] [(2, fun s => [(12, .int .u8 (y.ki : Nat))]), (3, fun s => [(7, pT b4 0), (13, .int .u8 (kk : Nat))]), (8, fun s => [(15, .int .u8 2), (18, .bool y.f0)]), (9, fun s => []), (10, fun s => [(8, s), (19, .agg (pdA ⟨2, y.f0, false, false, false, false, false, 0, 0, 0, 0, 0, 0, 0, 0, 0⟩))])] [9, 10] (W2.start _) (fun s Lx w' hw => ⟨fun _ => Kx.cell (i := 0) (K5.out.next hw.from1) rfl (by rfl), fun _ => by rcases HKK.out with e | e <;> subst e <;> exact Kx.cell (i := 3) (K5.out.next hw.from1) rfl (by rfl), fun _ => Kx.cell (i := 0) (K5.out.next hw.from1) rfl (by rfl), trivial⟩) (fun _ L1 L2 _ e h => by (try dsimp only at h ⊢); rw [← e 9 (by decide), ← e 10 (by decide)]; exact h) ?_ ?_
  ·
   refine ⟨?_, ?_, ?_, ?_, ?_, trivial⟩ <;> (rintro v8 Lx w' hw hL haft hdc ρ hc hf hG hs o ho; cases ho; try dsimp only [pT, iV, seen] at hw hs)
   ·
    exact sq (.int .u8 (kk : Nat)) (by have q0 := HKI.out; have q1 := HYI.out.1; have q2 : (kk : Int) < 2 := (by have := HKK.out; omega); go_simp; first | exact wrS (by omega) (by omega) | exact tmN q0 | omega)
   ·
    exact sq (pT b4 kk) (by have q1 : (kk : Int) < 4 := (by have := HKK.out; omega); have q2 : ¬ (4 : Int) ≤ (kk : Int) := (by omega); go_simp)
   ·
    obtain ⟨e15, e18, _⟩ := hs
    exact sq (.agg (pdA ⟨2, y.f0, false, false, false, false, false, 0, 0, 0, 0, 0, 0, 0, 0, 0⟩)) (l_build 61 [(0, .tmp 15), (1, .tmp 18)] rfl _ (pdA ⟨2, y.f0, false, false, false, false, false, 0, 0, 0, 0, 0, 0, 0, 0, 0⟩) (by simp only [List.map_cons, List.map_nil, e15, e18]; rfl) (by kernel_rfl))
   ·
    skip
    have hz := zPd w'
    exact sw (w' := (w'.alloc (.cells (nil16) 61))) (pT (w'.heap.size) 0) (by go_simp) ⟨(pT (w'.heap.size) 0), vs_other (i := 9) rfl hL, rfl, hw.alloc7 rfl hL⟩
   ·
    obtain ⟨e8, e19, _⟩ := hs
    obtain ⟨c, cs, rfl, hB, hz, hk, -⟩ := hw.p7 (haft 9 (by decide))
    exact sr 61 _ _ rfl c (pdA ⟨2, y.f0, false, false, false, false, false, 0, 0, 0, 0, 0, 0, 0, 0, 0⟩) e8 e19 61 cs hk (size_pd) (hz.trans rfl) (pd_all _) ⟨_, fun _ _ => rfl, rfl, hw.store7 (haft 9 (by decide)) rfl hk hB⟩
  intro v8 Lx w6 hw hall
  try dsimp only at hw
  obtain ⟨b6x, cs0, hv0, hB0, -, hk0, hx0⟩ := hw.p7 (hall 9 (by decide))
  have hx0 := hx0 (hall 10 (by decide))
  subst hx0
  subst hv0
  simp only [pT, iV, List.toList_toArray, putsZ_some, putsZ_none, putsZ_nil, List.setIfInBounds_toArray, List.set_cons_zero, List.set_cons_succ]
  have K6 := Lib.hid (show Kx w [(b1, acA y, 56), (b2, stA s (.slice a1 n m1) v2 v3 v4, 40), (b3, nil16, 61), (b4, #[.int .u8 2, .int .u8 2, .int .u8 0, .int .u8 128], 54), (b6x, pdA ⟨2, y.f0, false, false, false, false, false, 0, 0, 0, 0, 0, 0, 0, 0, 0⟩, 61)] (Bd.nil) w6 from (kx_add2 K5.out hw.from1 hk0 hB0))
  clear hw hall
  go_upto_region 3 with fail
  refine lz (wz3 (pT b6x 0) (.int .u8 2) (.bool false) (h2 := by have q : w6.cell? ⟨b6x, 0, none⟩ = some (.int .u8 2) := K6.out.cell (i := 4) rfl (by rfl); go_simp) (h := nz ?_))
  go_upto_region 5 with fail
  refine rk (fun (_ : Unit) => [pT b1 8, pT b1 8, .int .u8 (y.v0 : Nat), .int .u8 (r0 : Nat), .int .u64 (r0 : Nat), .int .u64 ((1 + r0 : Nat) : Int), pT b1 8, pT b1 9, .int .u8 (y.v1 : Nat), .int .u8 (r1 : Nat), .int .u32 (r1 : Nat), pT b1 8, pT b1 10, .int .u8 (y.v2 : Nat), .int .u8 (r2 : Nat), .int .u64 (r2 : Nat), .int .u64 ((1 + r2 : Nat) : Int), pT b1 8, pT b1 11, .int .u8 (y.v3 : Nat), .int .u8 (r3 : Nat), .int .u16 (r3 : Nat), pT b1 12, .int .u8 (y.age : Nat), .int .u8 (r4 : Nat), .int .u16 (r4 : Nat), pT b6x 8, undef, pT b6x 9, undef, pT b6x 10, undef, pT b6x 11, undef, pT b6x 12, undef]) (fun _ Lx w' => Kx w [(b1, acA y, 56), (b2, stA s (.slice a1 n m1) v2 v3 v4, 40), (b3, nil16, 61), (b4, #[.int .u8 2, .int .u8 2, .int .u8 0, .int .u8 128], 54), (b6x, pdA ⟨2, y.f0, false, false, false, false, false, 0, (bif Lx 27 then ((1 + r0 : Nat) : Int) else 0), (bif Lx 29 then (r1 : Nat) else 0), (bif Lx 31 then ((1 + r2 : Nat) : Int) else 0), (bif Lx 33 then (r3 : Nat) else 0), (bif Lx 35 then (r4 : Nat) else 0), 0, 0, 0⟩, 61)] (Bd.nil) w') (()) [] [(2, fun _ => ⟨b1, 8, none⟩), (8, fun _ => ⟨b1, 9, none⟩), (13, fun _ => ⟨b1, 10, none⟩), (19, fun _ => ⟨b1, 11, none⟩), (23, fun _ => ⟨b1, 12, none⟩)] [(3, fun _ => [(26, .int .u8 (y.v0 : Nat))]), (4, fun _ => [(27, .int .u8 (r0 : Nat))]), (5, fun _ => [(28, .int .u64 (r0 : Nat))]), (9, fun _ => [(32, .int .u8 (y.v1 : Nat))]), (10, fun _ => [(33, .int .u8 (r1 : Nat))]), (14, fun _ => [(37, .int .u8 (y.v2 : Nat))]), (15, fun _ => [(38, .int .u8 (r2 : Nat))]), (16, fun _ => [(39, .int .u64 (r2 : Nat))]), (20, fun _ => [(43, .int .u8 (y.v3 : Nat))]), (21, fun _ => [(44, .int .u8 (r3 : Nat))]), (24, fun _ => [(47, .int .u8 (y.age : Nat))]), (25, fun _ => [(48, .int .u8 (r4 : Nat))]), (27, fun _ => [(29, .int .u64 ((1 + r0 : Nat) : Int)), (50, pT b6x 8)]), (29, fun _ => [(34, .int .u32 (r1 : Nat)), (51, pT b6x 9)]), (31, fun _ => [(40, .int .u64 ((1 + r2 : Nat) : Int)), (52, pT b6x 10)]), (33, fun _ => [(45, .int .u16 (r3 : Nat)), (53, pT b6x 11)]), (35, fun _ => [(49, .int .u16 (r4 : Nat)), (54, pT b6x 12)])] [27, 29, 31, 33, 35] (K6.out.drew) (fun _ Lx w' hw => ⟨fun _ => Kx.cell (i := 0) hw rfl (by rfl), fun _ => Kx.cell (i := 0) hw rfl (by rfl), fun _ => Kx.cell (i := 0) hw rfl (by rfl), fun _ => Kx.cell (i := 0) hw rfl (by rfl), fun _ => Kx.cell (i := 0) hw rfl (by rfl), trivial⟩) (fun _ L1 L2 _ e h => by (try dsimp only at h ⊢); rw [← e 27 (by decide), ← e 29 (by decide), ← e 31 (by decide), ← e 33 (by decide), ← e 35 (by decide)]; exact h) ?_ ?_
  ·
   refine ⟨?_, ?_, ?_, ?_, ?_, ?_, ?_, ?_, ?_, ?_, ?_, ?_, ?_, ?_, ?_, ?_, ?_, trivial⟩ <;> (rintro _ Lx w' hw hL haft hdc ρ hc hf hG hs o ho; cases ho; try dsimp only [pT, iV, seen] at hw hs)
   ·
    exact sq (.int .u8 (r0 : Nat)) (by have q0 := Hr0.out.1; have q1 := HYI.out; have q2 := Hr0.out.2.1; go_simp; first | exact wrS (by omega) (by omega) | exact tmN q0 | omega)
   ·
    exact sq (.int .u64 (r0 : Nat)) (by have q2 := Hr0.out.2.1; go_simp; first | exact wrS (by omega) (by omega) | exact tmN q0 | omega)
   ·
    exact sq (.int .u64 ((1 + r0 : Nat) : Int)) (by have q2 := Hr0.out.2.1; go_simp; first | exact wrS (by omega) (by omega) | exact tmN q0 | omega)
   ·
    exact sq (.int .u8 (r1 : Nat)) (by have q0 := Hr1.out.1; have q1 := HYI.out; have q2 := Hr1.out.2.1; go_simp; first | exact wrS (by omega) (by omega) | exact tmN q0 | omega)
   ·
    exact sq (.int .u32 (r1 : Nat)) (by have q2 := Hr1.out.2.1; go_simp; first | exact wrS (by omega) (by omega) | exact tmN q0 | omega)
   ·
    exact sq (.int .u8 (r2 : Nat)) (by have q0 := Hr2.out.1; have q1 := HYI.out; have q2 := Hr2.out.2.1; go_simp; first | exact wrS (by omega) (by omega) | exact tmN q0 | omega)
   ·
    exact sq (.int .u64 (r2 : Nat)) (by have q2 := Hr2.out.2.1; go_simp; first | exact wrS (by omega) (by omega) | exact tmN q0 | omega)
   ·
    exact sq (.int .u64 ((1 + r2 : Nat) : Int)) (by have q2 := Hr2.out.2.1; go_simp; first | exact wrS (by omega) (by omega) | exact tmN q0 | omega)
   ·
    exact sq (.int .u8 (r3 : Nat)) (by have q0 := Hr3.out.1; have q1 := HYI.out; have q2 := Hr3.out.2.1; go_simp; first | exact wrS (by omega) (by omega) | exact tmN q0 | omega)
   ·
    exact sq (.int .u16 (r3 : Nat)) (by have q2 := Hr3.out.2.1; go_simp; first | exact wrS (by omega) (by omega) | exact tmN q0 | omega)
   ·
    exact sq (.int .u8 (r4 : Nat)) (by have q0 := Hr4.out.1; have q1 := HYI.out; have q2 := Hr4.out.2.1; go_simp; first | exact wrS (by omega) (by omega) | exact tmN q0 | omega)
   ·
    exact sq (.int .u16 (r4 : Nat)) (by have q2 := Hr4.out.2.1; go_simp; first | exact wrS (by omega) (by omega) | exact tmN q0 | omega)
   ·
    obtain ⟨e29, e50, _⟩ := hs
    exact ss 29 _ _ rfl ⟨b6x, 8, none⟩ (.int .u64 ((1 + r0 : Nat) : Int)) e50 e29 (kx_run_set hw (i := 4) rfl 29 8 (.int .u64 (bif Lx 27 then ((1 + r0 : Nat) : Int) else 0)) (.int .u64 ((1 + r0 : Nat) : Int)) (by rfl) (fun W h1 h2 => by go_simp)) ⟨(), fun _ _ => rfl, rfl, kx_cast (Kx.set (i := 4) hw rfl 8 (.int .u64 ((1 + r0 : Nat) : Int))) (by rfl)⟩
   ·
    obtain ⟨e34, e51, _⟩ := hs
    exact ss 36 _ _ rfl ⟨b6x, 9, none⟩ (.int .u32 (r1 : Nat)) e51 e34 (kx_run_set hw (i := 4) rfl 36 9 (.int .u32 (bif Lx 29 then (r1 : Nat) else 0)) (.int .u32 (r1 : Nat)) (by rfl) (fun W h1 h2 => by go_simp)) ⟨(), fun _ _ => rfl, rfl, kx_cast (Kx.set (i := 4) hw rfl 9 (.int .u32 (r1 : Nat))) (by rfl)⟩
   ·
    obtain ⟨e40, e52, _⟩ := hs
    exact ss 29 _ _ rfl ⟨b6x, 10, none⟩ (.int .u64 ((1 + r2 : Nat) : Int)) e52 e40 (kx_run_set hw (i := 4) rfl 29 10 (.int .u64 (bif Lx 31 then ((1 + r2 : Nat) : Int) else 0)) (.int .u64 ((1 + r2 : Nat) : Int)) (by rfl) (fun W h1 h2 => by go_simp)) ⟨(), fun _ _ => rfl, rfl, kx_cast (Kx.set (i := 4) hw rfl 10 (.int .u64 ((1 + r2 : Nat) : Int))) (by rfl)⟩
   ·
    obtain ⟨e45, e53, _⟩ := hs
    exact ss 59 _ _ rfl ⟨b6x, 11, none⟩ (.int .u16 (r3 : Nat)) e53 e45 (kx_run_set hw (i := 4) rfl 59 11 (.int .u16 (bif Lx 33 then (r3 : Nat) else 0)) (.int .u16 (r3 : Nat)) (by rfl) (fun W h1 h2 => by go_simp)) ⟨(), fun _ _ => rfl, rfl, kx_cast (Kx.set (i := 4) hw rfl 11 (.int .u16 (r3 : Nat))) (by rfl)⟩
   ·
    obtain ⟨e49, e54, _⟩ := hs
    exact ss 59 _ _ rfl ⟨b6x, 12, none⟩ (.int .u16 (r4 : Nat)) e54 e49 (kx_run_set hw (i := 4) rfl 59 12 (.int .u16 (bif Lx 35 then (r4 : Nat) else 0)) (.int .u16 (r4 : Nat)) (by rfl) (fun W h1 h2 => by go_simp)) ⟨(), fun _ _ => rfl, rfl, kx_cast (Kx.set (i := 4) hw rfl 12 (.int .u16 (r4 : Nat))) (by rfl)⟩
  intro _ Lx w7 hw hall
  try dsimp only at hw
  simp only [pT, iV, List.toList_toArray, putsZ_some, putsZ_none, putsZ_nil, List.setIfInBounds_toArray, List.set_cons_zero, List.set_cons_succ]
  have hL27 := hall 27 (by decide)
  have hL29 := hall 29 (by decide)
  have hL31 := hall 31 (by decide)
  have hL33 := hall 33 (by decide)
  have hL35 := hall 35 (by decide)
  simp only [hL27, hL29, hL31, hL33, hL35, cond_true] at hw
  have K7 := Lib.hid hw
  clear hw hall hL27 hL29 hL31 hL33 hL35
  go_upto_region 6 with fail
  refine lz (wz3 (pT b6x 0) (.int .u8 2) (.bool true) (h2 := by have q : w7.cell? ⟨b6x, 0, none⟩ = some (.int .u8 2) := K7.out.cell (i := 4) rfl (by rfl); go_simp) (h := nz ?_))
  go_upto_region 7 with fail
  refine rk (fun (_ : Unit) => [pT b1 3, .int .u8 (y.ro : Nat), .int .u8 (r5 : Nat), pT b1 4, pT b1 5, .bool y.f1, pT b1 4, pT b1 6, .bool y.f2, pT b6x 7, undef, pT b6x 2, undef, pT b6x 5, undef]) (fun _ Lx w' => Kx w [(b1, acA y, 56), (b2, stA s (.slice a1 n m1) v2 v3 v4, 40), (b3, nil16, 61), (b4, #[.int .u8 2, .int .u8 2, .int .u8 0, .int .u8 128], 54), (b6x, pdA ⟨2, y.f0, (bif Lx 12 then y.f1 else false), false, false, (bif Lx 14 then y.f2 else false), false, (bif Lx 10 then (r5 : Nat) else 0), ((1 + r0 : Nat) : Int), (r1 : Nat), ((1 + r2 : Nat) : Int), (r3 : Nat), (r4 : Nat), 0, 0, 0⟩, 61)] (Bd.nil) w') (()) [] [(1, fun _ => ⟨b1, 3, none⟩), (5, fun _ => ⟨b1, 5, none⟩), (8, fun _ => ⟨b1, 6, none⟩)] [(2, fun _ => [(59, .int .u8 (y.ro : Nat))]), (10, fun _ => [(60, .int .u8 (r5 : Nat)), (67, pT b6x 7)]), (12, fun _ => [(63, .bool y.f1), (68, pT b6x 2)]), (14, fun _ => [(66, .bool y.f2), (69, pT b6x 5)])] [10, 12, 14] (K7.out.drew) (fun _ Lx w' hw => ⟨fun _ => Kx.cell (i := 0) hw rfl (by rfl), fun _ => Kx.cell (i := 0) hw rfl (by rfl), fun _ => Kx.cell (i := 0) hw rfl (by rfl), trivial⟩) (fun _ L1 L2 _ e h => by (try dsimp only at h ⊢); rw [← e 10 (by decide), ← e 12 (by decide), ← e 14 (by decide)]; exact h) ?_ ?_
  ·
   refine ⟨?_, ?_, ?_, ?_, trivial⟩ <;> (rintro _ Lx w' hw hL haft hdc ρ hc hf hG hs o ho; cases ho; try dsimp only [pT, iV, seen] at hw hs)
   ·
    exact sq (.int .u8 (r5 : Nat)) (by have q0 := Hr5.out.1; have q1 := HYI.out; have q2 := Hr5.out.2.1; go_simp; first | exact wrS (by omega) (by omega) | exact tmN q0 | omega)
   ·
    obtain ⟨e60, e67, _⟩ := hs
    exact ss 5 _ _ rfl ⟨b6x, 7, none⟩ (.int .u8 (r5 : Nat)) e67 e60 (kx_run_set hw (i := 4) rfl 5 7 (.int .u8 (bif Lx 10 then (r5 : Nat) else 0)) (.int .u8 (r5 : Nat)) (by rfl) (fun W h1 h2 => by go_simp)) ⟨(), fun _ _ => rfl, rfl, kx_cast (Kx.set (i := 4) hw rfl 7 (.int .u8 (r5 : Nat))) (by rfl)⟩
   ·
    obtain ⟨e63, e68, _⟩ := hs
    exact ss 4 _ _ rfl ⟨b6x, 2, none⟩ (.bool y.f1) e68 e63 (kx_run_set hw (i := 4) rfl 4 2 (.bool (bif Lx 12 then y.f1 else false)) (.bool y.f1) (by rfl) (fun W h1 h2 => by go_simp)) ⟨(), fun _ _ => rfl, rfl, kx_cast (Kx.set (i := 4) hw rfl 2 (.bool y.f1)) (by rfl)⟩
   ·
    obtain ⟨e66, e69, _⟩ := hs
    exact ss 4 _ _ rfl ⟨b6x, 5, none⟩ (.bool y.f2) e69 e66 (kx_run_set hw (i := 4) rfl 4 5 (.bool (bif Lx 14 then y.f2 else false)) (.bool y.f2) (by rfl) (fun W h1 h2 => by go_simp)) ⟨(), fun _ _ => rfl, rfl, kx_cast (Kx.set (i := 4) hw rfl 5 (.bool y.f2)) (by rfl)⟩
  intro _ Lx w8 hw hall
  try dsimp only at hw
  simp only [pT, iV, List.toList_toArray, putsZ_some, putsZ_none, putsZ_nil, List.setIfInBounds_toArray, List.set_cons_zero, List.set_cons_succ]
  have hL10 := hall 10 (by decide)
  have hL12 := hall 12 (by decide)
  have hL14 := hall 14 (by decide)
  simp only [hL10, hL12, hL14, cond_true] at hw
  have K8 := Lib.hid hw
  clear hw hall hL10 hL12 hL14
  go_upto_region 8 with fail
  have HQ := Lib.hid (show pduQ y = ⟨2, y.f0, y.f1, false, false, y.f2, false, (r5 : Nat), 0, 0, 0, 0, (r4 : Nat), 0, 0, 0⟩ by unfold pduQ; rw [if_neg (by have q := HK4.out; have q2 := HKK.out; omega), if_neg (by have q := HK4.out; have q2 := HKK.out; omega)]; rw [← Hr4.out.2.2, ← Hr5.out.2.2])
  rcases (show y.own = true ∨ y.own = false by cases y.own <;> simp) with ho | ho
  case inr =>
   have HO := Lib.hid ho
   clear ho
   refine lz (wz3 (pT b1 13) (.bool false) (.bool false) (h2 := by have q0 : w8.cell? ⟨b1, 13, none⟩ = some (.bool y.own) := K8.out.cell (i := 0) rfl (by rfl); rw [HO.out] at q0; go_simp) (h := wk (h := wk (h := wz2 (.bool false) (.bool false) (h1 := by exact run_pick_no (.tmp 72) (.tmp 74) (.const (.bool false)) _ rfl rfl rfl) (h := wk (h := wk (h := wk (h := wk (h := wk (h := wz1 (.bool false) (h1 := by exact run_pick_no (.tmp 76) (.tmp 81) (.const (.bool false)) _ rfl rfl rfl) (h := nz ?_)))))))))))
   go_upto_region 11 with fail
   refine lz (wz1 (.agg (pdA ⟨2, y.f0, y.f1, false, false, y.f2, false, (r5 : Nat), ((1 + r0 : Nat) : Int), (r1 : Nat), ((1 + r2 : Nat) : Int), (r3 : Nat), (r4 : Nat), 0, 0, 0⟩)) (h1 := by exact kx_all K8.out 4 rfl 61 _ rfl rfl Tryd.underlying61 rfl (size_pd)) (h := ?_))
   refine kx_row K8.out 2 rfl 61 _ _ (pdA ⟨2, y.f0, y.f1, false, false, y.f2, false, (r5 : Nat), ((1 + r0 : Nat) : Int), (r1 : Nat), ((1 + r2 : Nat) : Int), (r3 : Nat), (r4 : Nat), 0, 0, 0⟩) rfl rfl rfl rfl (size_pd) (by rfl) (pd_all _) (py (h := ?_))
   intro w9 K9
   refine wpList_nil ?_
   go_wp2_with fail
   (try simp only [Exit.inBlock, Exit.then])
   refine bodyPost_ret (v := .agg (pdA ⟨2, y.f0, y.f1, false, false, y.f2, false, (r5 : Nat), ((1 + r0 : Nat) : Int), (r1 : Nat), ((1 + r2 : Nat) : Int), (r3 : Nat), (r4 : Nat), 0, 0, 0⟩)) (results_cell_row Tryd.results16 _ _ b3 61 (pdA ⟨2, y.f0, y.f1, false, false, y.f2, false, (r5 : Nat), ((1 + r0 : Nat) : Int), (r1 : Nat), ((1 + r2 : Nat) : Int), (r3 : Nat), (r4 : Nat), 0, 0, 0⟩) (0, 0) _ rfl (K9.out.at (i := 2) rfl) Tryd.underlying61 rfl size_pd) rfl ?_
   exact ⟨by rw [show D = ⟨2, y.f0, y.f1, false, false, y.f2, false, (r5 : Nat), ((1 + r0 : Nat) : Int), (r1 : Nat), ((1 + r2 : Nat) : Int), (r3 : Nat), (r4 : Nat), 0, 0, 0⟩ from by rw [HD.out]; rw [HQ.out]; unfold pduV; rw [if_neg (by have q := HK4.out; have q2 := HKK.out; omega), if_neg (fun c => by have := c.1; rw [HO.out] at this; exact Bool.noConfusion this)]; rw [← Hr0.out.2.2, ← Hr1.out.2.2, ← Hr2.out.2.2, ← Hr3.out.2.2] <;> rfl] <;> rfl, K9.out.below⟩
  case inl =>
   have HO := Lib.hid ho
   clear ho
   by_cases h1 : 1 ≤ p
   case neg =>
    have H1 := Lib.hid h1
    clear h1
    refine lz (wz6 (pT b1 13) (.bool true) (.bool true) (iV p) (.bool false) (.bool false) (h2 := by have q0 : w8.cell? ⟨b1, 13, none⟩ = some (.bool y.own) := K8.out.cell (i := 0) rfl (by rfl); rw [HO.out] at q0; go_simp) (h5 := by have q := H1.out; go_simp; try omega) (h6 := by exact run_pick_yes (.tmp 72) (.tmp 74) (.const (.bool false)) _ rfl rfl rfl) (h := wz1 (.bool false) (h := wk (h := wk (h := wk (h := wk (h := wk (h := wz1 (.bool false) (h1 := by exact run_pick_no (.tmp 76) (.tmp 81) (.const (.bool false)) _ rfl rfl rfl) (h := nz ?_)))))))))
    go_upto_region 11 with fail
    refine lz (wz1 (.agg (pdA ⟨2, y.f0, y.f1, false, false, y.f2, false, (r5 : Nat), ((1 + r0 : Nat) : Int), (r1 : Nat), ((1 + r2 : Nat) : Int), (r3 : Nat), (r4 : Nat), 0, 0, 0⟩)) (h1 := by exact kx_all K8.out 4 rfl 61 _ rfl rfl Tryd.underlying61 rfl (size_pd)) (h := ?_))
    refine kx_row K8.out 2 rfl 61 _ _ (pdA ⟨2, y.f0, y.f1, false, false, y.f2, false, (r5 : Nat), ((1 + r0 : Nat) : Int), (r1 : Nat), ((1 + r2 : Nat) : Int), (r3 : Nat), (r4 : Nat), 0, 0, 0⟩) rfl rfl rfl rfl (size_pd) (by rfl) (pd_all _) (py (h := ?_))
    intro w9 K9
    refine wpList_nil ?_
    go_wp2_with fail
    (try simp only [Exit.inBlock, Exit.then])
    refine bodyPost_ret (v := .agg (pdA ⟨2, y.f0, y.f1, false, false, y.f2, false, (r5 : Nat), ((1 + r0 : Nat) : Int), (r1 : Nat), ((1 + r2 : Nat) : Int), (r3 : Nat), (r4 : Nat), 0, 0, 0⟩)) (results_cell_row Tryd.results16 _ _ b3 61 (pdA ⟨2, y.f0, y.f1, false, false, y.f2, false, (r5 : Nat), ((1 + r0 : Nat) : Int), (r1 : Nat), ((1 + r2 : Nat) : Int), (r3 : Nat), (r4 : Nat), 0, 0, 0⟩) (0, 0) _ rfl (K9.out.at (i := 2) rfl) Tryd.underlying61 rfl size_pd) rfl ?_
    exact ⟨by rw [show D = ⟨2, y.f0, y.f1, false, false, y.f2, false, (r5 : Nat), ((1 + r0 : Nat) : Int), (r1 : Nat), ((1 + r2 : Nat) : Int), (r3 : Nat), (r4 : Nat), 0, 0, 0⟩ from by rw [HD.out]; rw [HQ.out]; unfold pduV; rw [if_neg (by have q := HK4.out; have q2 := HKK.out; omega), if_neg (fun c => absurd c.2.1 (by have := H1.out; omega))]; rw [← Hr0.out.2.2, ← Hr1.out.2.2, ← Hr2.out.2.2, ← Hr3.out.2.2] <;> rfl] <;> rfl, K9.out.below⟩
   case pos =>
    have H1 := Lib.hid h1
    clear h1
    by_cases h2 : p ≤ (n : Int)
    case neg =>
     have H2 := Lib.hid h2
     clear h2
     refine lz (wz6 (pT b1 13) (.bool true) (.bool true) (iV p) (.bool true) (.bool true) (h2 := by have q0 : w8.cell? ⟨b1, 13, none⟩ = some (.bool y.own) := K8.out.cell (i := 0) rfl (by rfl); rw [HO.out] at q0; go_simp) (h5 := by have q := H1.out; go_simp; try omega) (h6 := by exact run_pick_yes (.tmp 72) (.tmp 74) (.const (.bool false)) _ rfl rfl rfl) (h := wz6 (.bool true) (iV p) (pT b2 6) (.slice a1 n m1) (iV (n : Nat)) (.bool false) (h4 := by have q : w8.cell? ⟨b2, 6, none⟩ = some (.slice a1 n m1) := (K8.out.at (i := 1) rfl).cell 6; go_simp) (h6 := by have q := H2.out; go_simp; try omega) (h := wz1 (.bool false) (h1 := by exact run_pick_yes (.tmp 76) (.tmp 81) (.const (.bool false)) _ rfl rfl rfl) (h := nz ?_))))
     go_upto_region 11 with fail
     refine lz (wz1 (.agg (pdA ⟨2, y.f0, y.f1, false, false, y.f2, false, (r5 : Nat), ((1 + r0 : Nat) : Int), (r1 : Nat), ((1 + r2 : Nat) : Int), (r3 : Nat), (r4 : Nat), 0, 0, 0⟩)) (h1 := by exact kx_all K8.out 4 rfl 61 _ rfl rfl Tryd.underlying61 rfl (size_pd)) (h := ?_))
     refine kx_row K8.out 2 rfl 61 _ _ (pdA ⟨2, y.f0, y.f1, false, false, y.f2, false, (r5 : Nat), ((1 + r0 : Nat) : Int), (r1 : Nat), ((1 + r2 : Nat) : Int), (r3 : Nat), (r4 : Nat), 0, 0, 0⟩) rfl rfl rfl rfl (size_pd) (by rfl) (pd_all _) (py (h := ?_))
     intro w9 K9
     refine wpList_nil ?_
     go_wp2_with fail
     (try simp only [Exit.inBlock, Exit.then])
     refine bodyPost_ret (v := .agg (pdA ⟨2, y.f0, y.f1, false, false, y.f2, false, (r5 : Nat), ((1 + r0 : Nat) : Int), (r1 : Nat), ((1 + r2 : Nat) : Int), (r3 : Nat), (r4 : Nat), 0, 0, 0⟩)) (results_cell_row Tryd.results16 _ _ b3 61 (pdA ⟨2, y.f0, y.f1, false, false, y.f2, false, (r5 : Nat), ((1 + r0 : Nat) : Int), (r1 : Nat), ((1 + r2 : Nat) : Int), (r3 : Nat), (r4 : Nat), 0, 0, 0⟩) (0, 0) _ rfl (K9.out.at (i := 2) rfl) Tryd.underlying61 rfl size_pd) rfl ?_
     exact ⟨by rw [show D = ⟨2, y.f0, y.f1, false, false, y.f2, false, (r5 : Nat), ((1 + r0 : Nat) : Int), (r1 : Nat), ((1 + r2 : Nat) : Int), (r3 : Nat), (r4 : Nat), 0, 0, 0⟩ from by rw [HD.out]; rw [HQ.out]; unfold pduV; rw [if_neg (by have q := HK4.out; have q2 := HKK.out; omega), if_neg (fun c => absurd c.2.2 (by have := H2.out; have := HN.out; omega))]; rw [← Hr0.out.2.2, ← Hr1.out.2.2, ← Hr2.out.2.2, ← Hr3.out.2.2] <;> rfl] <;> rfl, K9.out.below⟩
    case pos =>
     have H2 := Lib.hid h2
     clear h2
     obtain ⟨ip, hip⟩ : ∃ k : Nat, p = (k : Int) + 1 := ⟨(p - 1).toNat, by have := H1.out; omega⟩
     have HIP := Lib.hid hip
     obtain ⟨x, hx⟩ : ∃ x, s.po[ip]? = some x := ⟨_, List.getElem?_eq_getElem (show ip < s.po.length by have q := H2.out; have q2 := HN.out; omega)⟩
     have HS2 := HS.out.o1
     rw [HN.out] at HS2
     obtain ⟨g1, ha1, -, -, hr1⟩ := Own.elem po_len HS2 hx
     subst ha1
     obtain ⟨u, hu⟩ : ∃ u, u = vecN x := ⟨_, rfl⟩
     have hxu : x = poU x u := by rw [hu]; exact okP_poU (HOK.out ip x hx)
     rw [hxu] at hr1
     have HU := Lib.hid hu
     have HX := Lib.hid hx
     have HR1 := Lib.hid hr1
     have HIL := Lib.hid (show ip < n by have q := H2.out; omega)
     clear hx hr1 HS2 hip hu hxu
     refine lz (wz6 (pT b1 13) (.bool true) (.bool true) (iV p) (.bool true) (.bool true) (h2 := by have q0 : w8.cell? ⟨b1, 13, none⟩ = some (.bool y.own) := K8.out.cell (i := 0) rfl (by rfl); rw [HO.out] at q0; go_simp) (h5 := by have q := H1.out; go_simp; try omega) (h6 := by exact run_pick_yes (.tmp 72) (.tmp 74) (.const (.bool false)) _ rfl rfl rfl) (h := wz6 (.bool true) (iV p) (pT b2 6) (.slice (some ⟨g1, 0, none⟩) n m1) (iV (n : Nat)) (.bool true) (h4 := by have q : w8.cell? ⟨b2, 6, none⟩ = some (.slice (some ⟨g1, 0, none⟩) n m1) := (K8.out.at (i := 1) rfl).cell 6; go_simp) (h6 := by have q := H2.out; go_simp; try omega) (h := wz1 (.bool true) (h1 := by exact run_pick_yes (.tmp 76) (.tmp 81) (.const (.bool false)) _ rfl rfl rfl) (h := nz ?_))))
     go_upto_region 9 with fail
     refine lz (wz6 (pT b2 6) (.slice (some ⟨g1, 0, none⟩) n m1) (iV p) (iV (ip : Nat)) (pT g1 (ip * 21)) (pT g1 (ip * 21 + 13)) (h2 := by have q : w8.cell? ⟨b2, 6, none⟩ = some (.slice (some ⟨g1, 0, none⟩) n m1) := (K8.out.at (i := 1) rfl).cell 6; go_simp) (h4 := by have q := HIP.out; have q2 := HP.out; go_simp; try exact wrap_i64 (by omega) (by omega)) (h5 := by have q1 : ip < n := HIL.out; have q2 : n ≤ m1 := HM.out.1; go_simp) (h := wz1 (.agg (vcA u)) (h1 := by exact run_loadRange 71 _ rfl g1 (ip * 21 + 13) rfl (vcA u) _ (fun c v hv => by have q := HR1.out _ K8.out.below (13 + c) v (by rw [← hv]; exact po_vec x u c (List.getElem?_eq_some_iff.1 hv).1); rw [show ip * 21 + (13 + c) = ip * 21 + 13 + c by omega] at q; exact q) Tryd.underlying71 rfl sizeV) (h := ?_)))
     refine kx_alloc K8.out 71 (nil4) rfl zV (by rfl) (pz (h := ?_))
     intro b9 w9 K9
     refine kx_row K9.out 5 rfl 71 _ _ (vcA u) rfl rfl rfl rfl (sizeV) (by rfl) (by kernel_rfl) (py (h := ?_))
     intro w10 K10
     refine wpList_nil ?_
     go_upto_region 10 with fail
     refine rk (fun (_ : Unit) => [pT b9 0, .int .u64 (u.r : Nat), pT b9 1, .int .u32 (u.c : Nat), pT b9 2, .int .u64 (u.b : Nat), pT b9 3, .int .u16 (u.p : Nat), pT b6x 8, undef, pT b6x 9, undef, pT b6x 10, undef, pT b6x 11, undef]) (fun _ Lx w' => Kx w [(b1, acA y, 56), (b2, stA s (.slice (some ⟨g1, 0, none⟩) n m1) v2 v3 v4, 40), (b3, nil16, 61), (b4, #[.int .u8 2, .int .u8 2, .int .u8 0, .int .u8 128], 54), (b6x, pdA ⟨2, y.f0, y.f1, false, false, y.f2, false, (r5 : Nat), (bif Lx 9 then (u.r : Nat) else ((1 + r0 : Nat) : Int)), (bif Lx 11 then (u.c : Nat) else (r1 : Nat)), (bif Lx 13 then (u.b : Nat) else ((1 + r2 : Nat) : Int)), (bif Lx 15 then (u.p : Nat) else (r3 : Nat)), (r4 : Nat), 0, 0, 0⟩, 61), (b9, vcA u, 71)] (Bd.nil) w') (()) [] [(1, fun _ => ⟨b9, 0, none⟩), (3, fun _ => ⟨b9, 1, none⟩), (5, fun _ => ⟨b9, 2, none⟩), (7, fun _ => ⟨b9, 3, none⟩)] [(9, fun _ => [(91, .int .u64 (u.r : Nat)), (98, pT b6x 8)]), (11, fun _ => [(93, .int .u32 (u.c : Nat)), (99, pT b6x 9)]), (13, fun _ => [(95, .int .u64 (u.b : Nat)), (100, pT b6x 10)]), (15, fun _ => [(97, .int .u16 (u.p : Nat)), (101, pT b6x 11)])] [9, 11, 13, 15] (K10.out.drew) (fun _ Lx w' hw => ⟨fun _ => Kx.cell (i := 5) hw rfl (by rfl), fun _ => Kx.cell (i := 5) hw rfl (by rfl), fun _ => Kx.cell (i := 5) hw rfl (by rfl), fun _ => Kx.cell (i := 5) hw rfl (by rfl), trivial⟩) (fun _ L1 L2 _ e h => by (try dsimp only at h ⊢); rw [← e 9 (by decide), ← e 11 (by decide), ← e 13 (by decide), ← e 15 (by decide)]; exact h) ?_ ?_
     ·
      refine ⟨?_, ?_, ?_, ?_, trivial⟩ <;> (rintro _ Lx w' hw hL haft hdc ρ hc hf hG hs o ho; cases ho; try dsimp only [pT, iV, seen] at hw hs)
      ·
       obtain ⟨e91, e98, _⟩ := hs
       exact ss 29 _ _ rfl ⟨b6x, 8, none⟩ (.int .u64 (u.r : Nat)) e98 e91 (kx_run_set hw (i := 4) rfl 29 8 (.int .u64 (bif Lx 9 then (u.r : Nat) else ((1 + r0 : Nat) : Int))) (.int .u64 (u.r : Nat)) (by rfl) (fun W h1 h2 => by go_simp)) ⟨(), fun _ _ => rfl, rfl, kx_cast (Kx.set (i := 4) hw rfl 8 (.int .u64 (u.r : Nat))) (by rfl)⟩
      ·
       obtain ⟨e93, e99, _⟩ := hs
       exact ss 36 _ _ rfl ⟨b6x, 9, none⟩ (.int .u32 (u.c : Nat)) e99 e93 (kx_run_set hw (i := 4) rfl 36 9 (.int .u32 (bif Lx 11 then (u.c : Nat) else (r1 : Nat))) (.int .u32 (u.c : Nat)) (by rfl) (fun W h1 h2 => by go_simp)) ⟨(), fun _ _ => rfl, rfl, kx_cast (Kx.set (i := 4) hw rfl 9 (.int .u32 (u.c : Nat))) (by rfl)⟩
      ·
       obtain ⟨e95, e100, _⟩ := hs
       exact ss 29 _ _ rfl ⟨b6x, 10, none⟩ (.int .u64 (u.b : Nat)) e100 e95 (kx_run_set hw (i := 4) rfl 29 10 (.int .u64 (bif Lx 13 then (u.b : Nat) else ((1 + r2 : Nat) : Int))) (.int .u64 (u.b : Nat)) (by rfl) (fun W h1 h2 => by go_simp)) ⟨(), fun _ _ => rfl, rfl, kx_cast (Kx.set (i := 4) hw rfl 10 (.int .u64 (u.b : Nat))) (by rfl)⟩
      ·
       obtain ⟨e97, e101, _⟩ := hs
       exact ss 59 _ _ rfl ⟨b6x, 11, none⟩ (.int .u16 (u.p : Nat)) e101 e97 (kx_run_set hw (i := 4) rfl 59 11 (.int .u16 (bif Lx 15 then (u.p : Nat) else (r3 : Nat))) (.int .u16 (u.p : Nat)) (by rfl) (fun W h1 h2 => by go_simp)) ⟨(), fun _ _ => rfl, rfl, kx_cast (Kx.set (i := 4) hw rfl 11 (.int .u16 (u.p : Nat))) (by rfl)⟩
     intro _ Lx w11 hw hall
     try dsimp only at hw
     simp only [pT, iV, List.toList_toArray, putsZ_some, putsZ_none, putsZ_nil, List.setIfInBounds_toArray, List.set_cons_zero, List.set_cons_succ]
     have hL9 := hall 9 (by decide)
     have hL11 := hall 11 (by decide)
     have hL13 := hall 13 (by decide)
     have hL15 := hall 15 (by decide)
     simp only [hL9, hL11, hL13, hL15, cond_true] at hw
     have K11 := Lib.hid hw
     clear hw hall hL9 hL11 hL13 hL15
     go_upto_region 11 with fail
     refine lz (wz1 (.agg (pdA ⟨2, y.f0, y.f1, false, false, y.f2, false, (r5 : Nat), (u.r : Nat), (u.c : Nat), (u.b : Nat), (u.p : Nat), (r4 : Nat), 0, 0, 0⟩)) (h1 := by exact kx_all K11.out 4 rfl 61 _ rfl rfl Tryd.underlying61 rfl (size_pd)) (h := ?_))
     refine kx_row K11.out 2 rfl 61 _ _ (pdA ⟨2, y.f0, y.f1, false, false, y.f2, false, (r5 : Nat), (u.r : Nat), (u.c : Nat), (u.b : Nat), (u.p : Nat), (r4 : Nat), 0, 0, 0⟩) rfl rfl rfl rfl (size_pd) (by rfl) (pd_all _) (py (h := ?_))
     intro w12 K12
     refine wpList_nil ?_
     go_wp2_with fail
     (try simp only [Exit.inBlock, Exit.then])
     refine bodyPost_ret (v := .agg (pdA ⟨2, y.f0, y.f1, false, false, y.f2, false, (r5 : Nat), (u.r : Nat), (u.c : Nat), (u.b : Nat), (u.p : Nat), (r4 : Nat), 0, 0, 0⟩)) (results_cell_row Tryd.results16 _ _ b3 61 (pdA ⟨2, y.f0, y.f1, false, false, y.f2, false, (r5 : Nat), (u.r : Nat), (u.c : Nat), (u.b : Nat), (u.p : Nat), (r4 : Nat), 0, 0, 0⟩) (0, 0) _ rfl (K12.out.at (i := 2) rfl) Tryd.underlying61 rfl size_pd) rfl ?_
     exact ⟨by rw [show D = ⟨2, y.f0, y.f1, false, false, y.f2, false, (r5 : Nat), (u.r : Nat), (u.c : Nat), (u.b : Nat), (u.p : Nat), (r4 : Nat), 0, 0, 0⟩ from by rw [HD.out]; rw [HQ.out]; unfold pduV; rw [if_neg (by have q := HK4.out; have q2 := HKK.out; omega), if_pos ⟨HO.out, H1.out, by rw [← HN.out]; exact H2.out⟩]; rw [HIP.out, show ((ip : Int) + 1 - 1).toNat = ip by omega, HX.out]; show pdU _ (vecN x) = _; rw [← HU.out] <;> rfl] <;> rfl, K12.out.below⟩
 next =>
  have HK4 := Lib.hid hk4
  clear hk4
  have HKI := Lib.hid (show (y.ki : Int) % 4 = 2 by have := HK4.out; omega)
  refine rk (fun s => [pT b1 2, .int .u8 (y.ki : Nat), .int .u8 2, pT b4 2, .int .u8 0, pT b1 4, pT b1 4, .bool y.f0, .agg (pdA ⟨0, y.f0, false, false, false, false, false, 0, 0, 0, 0, 0, 0, 0, 0, 0⟩), s, undef]) (fun s Lx w' => W2 w5 61 62 16 21 (pdA ⟨0, y.f0, false, false, false, false, false, 0, 0, 0, 0, 0, 0, 0, 0, 0⟩) (#[]) (Lx 9) false (Lx 10) false s undef w') (undef) [] [(1, fun s => ⟨b1, 2, none⟩), (4, fun s => ⟨b4, 2, none⟩), (7, fun s => ⟨b1, 4, none⟩)] [(2, fun s => [(12, .int .u8 (y.ki : Nat))]), (3, fun s => [(7, pT b4 0), (13, .int .u8 2)]), (8, fun s => [(15, .int .u8 0), (18, .bool y.f0)]), (9, fun s => []), (10, fun s => [(8, s), (19, .agg (pdA ⟨0, y.f0, false, false, false, false, false, 0, 0, 0, 0, 0, 0, 0, 0, 0⟩))])] [9, 10] (W2.start _) (fun s Lx w' hw => ⟨fun _ => Kx.cell (i := 0) (K5.out.next hw.from1) rfl (by rfl), fun _ => Kx.cell (i := 3) (K5.out.next hw.from1) rfl (by rfl), fun _ => Kx.cell (i := 0) (K5.out.next hw.from1) rfl (by rfl), trivial⟩) (fun _ L1 L2 _ e h => by (try dsimp only at h ⊢); rw [← e 9 (by decide), ← e 10 (by decide)]; exact h) ?_ ?_
  ·
   refine ⟨?_, ?_, ?_, ?_, ?_, trivial⟩ <;> (rintro v8 Lx w' hw hL haft hdc ρ hc hf hG hs o ho; cases ho; try dsimp only [pT, iV, seen] at hw hs)
   ·
    exact sq (.int .u8 2) (by have q0 := HKI.out; have q1 := HYI.out.1; go_simp; first | exact wrS (by omega) (by omega) | exact tmN q0 | omega)
   ·
    exact sq (pT b4 2)
   ·
    obtain ⟨e15, e18, _⟩ := hs
    exact sq (.agg (pdA ⟨0, y.f0, false, false, false, false, false, 0, 0, 0, 0, 0, 0, 0, 0, 0⟩)) (l_build 61 [(0, .tmp 15), (1, .tmp 18)] rfl _ (pdA ⟨0, y.f0, false, false, false, false, false, 0, 0, 0, 0, 0, 0, 0, 0, 0⟩) (by simp only [List.map_cons, List.map_nil, e15, e18]; rfl) (by kernel_rfl))
   ·
    skip
    have hz := zPd w'
    exact sw (w' := (w'.alloc (.cells (nil16) 61))) (pT (w'.heap.size) 0) (by go_simp) ⟨(pT (w'.heap.size) 0), vs_other (i := 9) rfl hL, rfl, hw.alloc7 rfl hL⟩
   ·
    obtain ⟨e8, e19, _⟩ := hs
    obtain ⟨c, cs, rfl, hB, hz, hk, -⟩ := hw.p7 (haft 9 (by decide))
    exact sr 61 _ _ rfl c (pdA ⟨0, y.f0, false, false, false, false, false, 0, 0, 0, 0, 0, 0, 0, 0, 0⟩) e8 e19 61 cs hk (size_pd) (hz.trans rfl) (pd_all _) ⟨_, fun _ _ => rfl, rfl, hw.store7 (haft 9 (by decide)) rfl hk hB⟩
  intro v8 Lx w6 hw hall
  try dsimp only at hw
  obtain ⟨b6x, cs0, hv0, hB0, -, hk0, hx0⟩ := hw.p7 (hall 9 (by decide))
  have hx0 := hx0 (hall 10 (by decide))
  subst hx0
  subst hv0
  simp only [pT, iV, List.toList_toArray, putsZ_some, putsZ_none, putsZ_nil, List.setIfInBounds_toArray, List.set_cons_zero, List.set_cons_succ]
  have K6 := Lib.hid (show Kx w [(b1, acA y, 56), (b2, stA s (.slice a1 n m1) v2 v3 v4, 40), (b3, nil16, 61), (b4, #[.int .u8 2, .int .u8 2, .int .u8 0, .int .u8 128], 54), (b6x, pdA ⟨0, y.f0, false, false, false, false, false, 0, 0, 0, 0, 0, 0, 0, 0, 0⟩, 61)] (Bd.nil) w6 from (kx_add2 K5.out hw.from1 hk0 hB0))
  clear hw hall
  go_upto_region 3 with fail
  refine lz (wz3 (pT b6x 0) (.int .u8 0) (.bool false) (h2 := by have q : w6.cell? ⟨b6x, 0, none⟩ = some (.int .u8 0) := K6.out.cell (i := 4) rfl (by rfl); go_simp) (h := nz ?_))
  go_upto_region 5 with fail
  refine rk (fun (_ : Unit) => [pT b1 8, pT b1 8, .int .u8 (y.v0 : Nat), .int .u8 (r0 : Nat), .int .u64 (r0 : Nat), .int .u64 ((1 + r0 : Nat) : Int), pT b1 8, pT b1 9, .int .u8 (y.v1 : Nat), .int .u8 (r1 : Nat), .int .u32 (r1 : Nat), pT b1 8, pT b1 10, .int .u8 (y.v2 : Nat), .int .u8 (r2 : Nat), .int .u64 (r2 : Nat), .int .u64 ((1 + r2 : Nat) : Int), pT b1 8, pT b1 11, .int .u8 (y.v3 : Nat), .int .u8 (r3 : Nat), .int .u16 (r3 : Nat), pT b1 12, .int .u8 (y.age : Nat), .int .u8 (r4 : Nat), .int .u16 (r4 : Nat), pT b6x 8, undef, pT b6x 9, undef, pT b6x 10, undef, pT b6x 11, undef, pT b6x 12, undef]) (fun _ Lx w' => Kx w [(b1, acA y, 56), (b2, stA s (.slice a1 n m1) v2 v3 v4, 40), (b3, nil16, 61), (b4, #[.int .u8 2, .int .u8 2, .int .u8 0, .int .u8 128], 54), (b6x, pdA ⟨0, y.f0, false, false, false, false, false, 0, (bif Lx 27 then ((1 + r0 : Nat) : Int) else 0), (bif Lx 29 then (r1 : Nat) else 0), (bif Lx 31 then ((1 + r2 : Nat) : Int) else 0), (bif Lx 33 then (r3 : Nat) else 0), (bif Lx 35 then (r4 : Nat) else 0), 0, 0, 0⟩, 61)] (Bd.nil) w') (()) [] [(2, fun _ => ⟨b1, 8, none⟩), (8, fun _ => ⟨b1, 9, none⟩), (13, fun _ => ⟨b1, 10, none⟩), (19, fun _ => ⟨b1, 11, none⟩), (23, fun _ => ⟨b1, 12, none⟩)] [(3, fun _ => [(26, .int .u8 (y.v0 : Nat))]), (4, fun _ => [(27, .int .u8 (r0 : Nat))]), (5, fun _ => [(28, .int .u64 (r0 : Nat))]), (9, fun _ => [(32, .int .u8 (y.v1 : Nat))]), (10, fun _ => [(33, .int .u8 (r1 : Nat))]), (14, fun _ => [(37, .int .u8 (y.v2 : Nat))]), (15, fun _ => [(38, .int .u8 (r2 : Nat))]), (16, fun _ => [(39, .int .u64 (r2 : Nat))]), (20, fun _ => [(43, .int .u8 (y.v3 : Nat))]), (21, fun _ => [(44, .int .u8 (r3 : Nat))]), (24, fun _ => [(47, .int .u8 (y.age : Nat))]), (25, fun _ => [(48, .int .u8 (r4 : Nat))]), (27, fun _ => [(29, .int .u64 ((1 + r0 : Nat) : Int)), (50, pT b6x 8)]), (29, fun _ => [(34, .int .u32 (r1 : Nat)), (51, pT b6x 9)]), (31, fun _ => [(40, .int .u64 ((1 + r2 : Nat) : Int)), (52, pT b6x 10)]), (33, fun _ => [(45, .int .u16 (r3 : Nat)), (53, pT b6x 11)]), (35, fun _ => [(49, .int .u16 (r4 : Nat)), (54, pT b6x 12)])] [27, 29, 31, 33, 35] (K6.out.drew) (fun _ Lx w' hw => ⟨fun _ => Kx.cell (i := 0) hw rfl (by rfl), fun _ => Kx.cell (i := 0) hw rfl (by rfl), fun _ => Kx.cell (i := 0) hw rfl (by rfl), fun _ => Kx.cell (i := 0) hw rfl (by rfl), fun _ => Kx.cell (i := 0) hw rfl (by rfl), trivial⟩) (fun _ L1 L2 _ e h => by (try dsimp only at h ⊢); rw [← e 27 (by decide), ← e 29 (by decide), ← e 31 (by decide), ← e 33 (by decide), ← e 35 (by decide)]; exact h) ?_ ?_
  ·
   refine ⟨?_, ?_, ?_, ?_, ?_, ?_, ?_, ?_, ?_, ?_, ?_, ?_, ?_, ?_, ?_, ?_, ?_, trivial⟩ <;> (rintro _ Lx w' hw hL haft hdc ρ hc hf hG hs o ho; cases ho; try dsimp only [pT, iV, seen] at hw hs)
   ·
    exact sq (.int .u8 (r0 : Nat)) (by have q0 := Hr0.out.1; have q1 := HYI.out; have q2 := Hr0.out.2.1; go_simp; first | exact wrS (by omega) (by omega) | exact tmN q0 | omega)
   ·
    exact sq (.int .u64 (r0 : Nat)) (by have q2 := Hr0.out.2.1; go_simp; first | exact wrS (by omega) (by omega) | exact tmN q0 | omega)
   ·
    exact sq (.int .u64 ((1 + r0 : Nat) : Int)) (by have q2 := Hr0.out.2.1; go_simp; first | exact wrS (by omega) (by omega) | exact tmN q0 | omega)
   ·
    exact sq (.int .u8 (r1 : Nat)) (by have q0 := Hr1.out.1; have q1 := HYI.out; have q2 := Hr1.out.2.1; go_simp; first | exact wrS (by omega) (by omega) | exact tmN q0 | omega)
   ·
    exact sq (.int .u32 (r1 : Nat)) (by have q2 := Hr1.out.2.1; go_simp; first | exact wrS (by omega) (by omega) | exact tmN q0 | omega)
   ·
    exact sq (.int .u8 (r2 : Nat)) (by have q0 := Hr2.out.1; have q1 := HYI.out; have q2 := Hr2.out.2.1; go_simp; first | exact wrS (by omega) (by omega) | exact tmN q0 | omega)
   ·
    exact sq (.int .u64 (r2 : Nat)) (by have q2 := Hr2.out.2.1; go_simp; first | exact wrS (by omega) (by omega) | exact tmN q0 | omega)
   ·
    exact sq (.int .u64 ((1 + r2 : Nat) : Int)) (by have q2 := Hr2.out.2.1; go_simp; first | exact wrS (by omega) (by omega) | exact tmN q0 | omega)
   ·
    exact sq (.int .u8 (r3 : Nat)) (by have q0 := Hr3.out.1; have q1 := HYI.out; have q2 := Hr3.out.2.1; go_simp; first | exact wrS (by omega) (by omega) | exact tmN q0 | omega)
   ·
    exact sq (.int .u16 (r3 : Nat)) (by have q2 := Hr3.out.2.1; go_simp; first | exact wrS (by omega) (by omega) | exact tmN q0 | omega)
   ·
    exact sq (.int .u8 (r4 : Nat)) (by have q0 := Hr4.out.1; have q1 := HYI.out; have q2 := Hr4.out.2.1; go_simp; first | exact wrS (by omega) (by omega) | exact tmN q0 | omega)
   ·
    exact sq (.int .u16 (r4 : Nat)) (by have q2 := Hr4.out.2.1; go_simp; first | exact wrS (by omega) (by omega) | exact tmN q0 | omega)
   ·
    obtain ⟨e29, e50, _⟩ := hs
    exact ss 29 _ _ rfl ⟨b6x, 8, none⟩ (.int .u64 ((1 + r0 : Nat) : Int)) e50 e29 (kx_run_set hw (i := 4) rfl 29 8 (.int .u64 (bif Lx 27 then ((1 + r0 : Nat) : Int) else 0)) (.int .u64 ((1 + r0 : Nat) : Int)) (by rfl) (fun W h1 h2 => by go_simp)) ⟨(), fun _ _ => rfl, rfl, kx_cast (Kx.set (i := 4) hw rfl 8 (.int .u64 ((1 + r0 : Nat) : Int))) (by rfl)⟩
   ·
    obtain ⟨e34, e51, _⟩ := hs
    exact ss 36 _ _ rfl ⟨b6x, 9, none⟩ (.int .u32 (r1 : Nat)) e51 e34 (kx_run_set hw (i := 4) rfl 36 9 (.int .u32 (bif Lx 29 then (r1 : Nat) else 0)) (.int .u32 (r1 : Nat)) (by rfl) (fun W h1 h2 => by go_simp)) ⟨(), fun _ _ => rfl, rfl, kx_cast (Kx.set (i := 4) hw rfl 9 (.int .u32 (r1 : Nat))) (by rfl)⟩
   ·
    obtain ⟨e40, e52, _⟩ := hs
    exact ss 29 _ _ rfl ⟨b6x, 10, none⟩ (.int .u64 ((1 + r2 : Nat) : Int)) e52 e40 (kx_run_set hw (i := 4) rfl 29 10 (.int .u64 (bif Lx 31 then ((1 + r2 : Nat) : Int) else 0)) (.int .u64 ((1 + r2 : Nat) : Int)) (by rfl) (fun W h1 h2 => by go_simp)) ⟨(), fun _ _ => rfl, rfl, kx_cast (Kx.set (i := 4) hw rfl 10 (.int .u64 ((1 + r2 : Nat) : Int))) (by rfl)⟩
   ·
    obtain ⟨e45, e53, _⟩ := hs
    exact ss 59 _ _ rfl ⟨b6x, 11, none⟩ (.int .u16 (r3 : Nat)) e53 e45 (kx_run_set hw (i := 4) rfl 59 11 (.int .u16 (bif Lx 33 then (r3 : Nat) else 0)) (.int .u16 (r3 : Nat)) (by rfl) (fun W h1 h2 => by go_simp)) ⟨(), fun _ _ => rfl, rfl, kx_cast (Kx.set (i := 4) hw rfl 11 (.int .u16 (r3 : Nat))) (by rfl)⟩
   ·
    obtain ⟨e49, e54, _⟩ := hs
    exact ss 59 _ _ rfl ⟨b6x, 12, none⟩ (.int .u16 (r4 : Nat)) e54 e49 (kx_run_set hw (i := 4) rfl 59 12 (.int .u16 (bif Lx 35 then (r4 : Nat) else 0)) (.int .u16 (r4 : Nat)) (by rfl) (fun W h1 h2 => by go_simp)) ⟨(), fun _ _ => rfl, rfl, kx_cast (Kx.set (i := 4) hw rfl 12 (.int .u16 (r4 : Nat))) (by rfl)⟩
  intro _ Lx w7 hw hall
  try dsimp only at hw
  simp only [pT, iV, List.toList_toArray, putsZ_some, putsZ_none, putsZ_nil, List.setIfInBounds_toArray, List.set_cons_zero, List.set_cons_succ]
  have hL27 := hall 27 (by decide)
  have hL29 := hall 29 (by decide)
  have hL31 := hall 31 (by decide)
  have hL33 := hall 33 (by decide)
  have hL35 := hall 35 (by decide)
  simp only [hL27, hL29, hL31, hL33, hL35, cond_true] at hw
  have K7 := Lib.hid hw
  clear hw hall hL27 hL29 hL31 hL33 hL35
  go_upto_region 6 with fail
  refine lz (wz3 (pT b6x 0) (.int .u8 0) (.bool false) (h2 := by have q : w7.cell? ⟨b6x, 0, none⟩ = some (.int .u8 0) := K7.out.cell (i := 4) rfl (by rfl); go_simp) (h := nz ?_))
  go_upto_region 8 with fail
  have HQ := Lib.hid (show pduQ y = ⟨0, y.f0, false, false, false, false, false, 0, 0, 0, 0, 0, (r4 : Nat), 0, 0, 0⟩ by unfold pduQ; rw [if_neg (by rw [HK4.out]; decide), if_pos HK4.out]; rw [← Hr4.out.2.2])
  rcases (show y.own = true ∨ y.own = false by cases y.own <;> simp) with ho | ho
  case inr =>
   have HO := Lib.hid ho
   clear ho
   refine lz (wz3 (pT b1 13) (.bool false) (.bool false) (h2 := by have q0 : w7.cell? ⟨b1, 13, none⟩ = some (.bool y.own) := K7.out.cell (i := 0) rfl (by rfl); rw [HO.out] at q0; go_simp) (h := wk (h := wk (h := wz2 (.bool false) (.bool false) (h1 := by exact run_pick_no (.tmp 72) (.tmp 74) (.const (.bool false)) _ rfl rfl rfl) (h := wk (h := wk (h := wk (h := wk (h := wk (h := wz1 (.bool false) (h1 := by exact run_pick_no (.tmp 76) (.tmp 81) (.const (.bool false)) _ rfl rfl rfl) (h := nz ?_)))))))))))
   go_upto_region 11 with fail
   refine lz (wz1 (.agg (pdA ⟨0, y.f0, false, false, false, false, false, 0, ((1 + r0 : Nat) : Int), (r1 : Nat), ((1 + r2 : Nat) : Int), (r3 : Nat), (r4 : Nat), 0, 0, 0⟩)) (h1 := by exact kx_all K7.out 4 rfl 61 _ rfl rfl Tryd.underlying61 rfl (size_pd)) (h := ?_))
   refine kx_row K7.out 2 rfl 61 _ _ (pdA ⟨0, y.f0, false, false, false, false, false, 0, ((1 + r0 : Nat) : Int), (r1 : Nat), ((1 + r2 : Nat) : Int), (r3 : Nat), (r4 : Nat), 0, 0, 0⟩) rfl rfl rfl rfl (size_pd) (by rfl) (pd_all _) (py (h := ?_))
   intro w8 K8
   refine wpList_nil ?_
   go_wp2_with fail
   (try simp only [Exit.inBlock, Exit.then])
   refine bodyPost_ret (v := .agg (pdA ⟨0, y.f0, false, false, false, false, false, 0, ((1 + r0 : Nat) : Int), (r1 : Nat), ((1 + r2 : Nat) : Int), (r3 : Nat), (r4 : Nat), 0, 0, 0⟩)) (results_cell_row Tryd.results16 _ _ b3 61 (pdA ⟨0, y.f0, false, false, false, false, false, 0, ((1 + r0 : Nat) : Int), (r1 : Nat), ((1 + r2 : Nat) : Int), (r3 : Nat), (r4 : Nat), 0, 0, 0⟩) (0, 0) _ rfl (K8.out.at (i := 2) rfl) Tryd.underlying61 rfl size_pd) rfl ?_
   exact ⟨by rw [show D = ⟨0, y.f0, false, false, false, false, false, 0, ((1 + r0 : Nat) : Int), (r1 : Nat), ((1 + r2 : Nat) : Int), (r3 : Nat), (r4 : Nat), 0, 0, 0⟩ from by rw [HD.out]; rw [HQ.out]; unfold pduV; rw [if_neg (by rw [HK4.out]; decide), if_neg (fun c => by have := c.1; rw [HO.out] at this; exact Bool.noConfusion this)]; rw [← Hr0.out.2.2, ← Hr1.out.2.2, ← Hr2.out.2.2, ← Hr3.out.2.2] <;> rfl] <;> rfl, K8.out.below⟩
  case inl =>
   have HO := Lib.hid ho
   clear ho
   by_cases h1 : 1 ≤ p
   case neg =>
    have H1 := Lib.hid h1
    clear h1
    refine lz (wz6 (pT b1 13) (.bool true) (.bool true) (iV p) (.bool false) (.bool false) (h2 := by have q0 : w7.cell? ⟨b1, 13, none⟩ = some (.bool y.own) := K7.out.cell (i := 0) rfl (by rfl); rw [HO.out] at q0; go_simp) (h5 := by have q := H1.out; go_simp; try omega) (h6 := by exact run_pick_yes (.tmp 72) (.tmp 74) (.const (.bool false)) _ rfl rfl rfl) (h := wz1 (.bool false) (h := wk (h := wk (h := wk (h := wk (h := wk (h := wz1 (.bool false) (h1 := by exact run_pick_no (.tmp 76) (.tmp 81) (.const (.bool false)) _ rfl rfl rfl) (h := nz ?_)))))))))
    go_upto_region 11 with fail
    refine lz (wz1 (.agg (pdA ⟨0, y.f0, false, false, false, false, false, 0, ((1 + r0 : Nat) : Int), (r1 : Nat), ((1 + r2 : Nat) : Int), (r3 : Nat), (r4 : Nat), 0, 0, 0⟩)) (h1 := by exact kx_all K7.out 4 rfl 61 _ rfl rfl Tryd.underlying61 rfl (size_pd)) (h := ?_))
    refine kx_row K7.out 2 rfl 61 _ _ (pdA ⟨0, y.f0, false, false, false, false, false, 0, ((1 + r0 : Nat) : Int), (r1 : Nat), ((1 + r2 : Nat) : Int), (r3 : Nat), (r4 : Nat), 0, 0, 0⟩) rfl rfl rfl rfl (size_pd) (by rfl) (pd_all _) (py (h := ?_))
    intro w8 K8
    refine wpList_nil ?_
    go_wp2_with fail
    (try simp only [Exit.inBlock, Exit.then])
    refine bodyPost_ret (v := .agg (pdA ⟨0, y.f0, false, false, false, false, false, 0, ((1 + r0 : Nat) : Int), (r1 : Nat), ((1 + r2 : Nat) : Int), (r3 : Nat), (r4 : Nat), 0, 0, 0⟩)) (results_cell_row Tryd.results16 _ _ b3 61 (pdA ⟨0, y.f0, false, false, false, false, false, 0, ((1 + r0 : Nat) : Int), (r1 : Nat), ((1 + r2 : Nat) : Int), (r3 : Nat), (r4 : Nat), 0, 0, 0⟩) (0, 0) _ rfl (K8.out.at (i := 2) rfl) Tryd.underlying61 rfl size_pd) rfl ?_
    exact ⟨by rw [show D = ⟨0, y.f0, false, false, false, false, false, 0, ((1 + r0 : Nat) : Int), (r1 : Nat), ((1 + r2 : Nat) : Int), (r3 : Nat), (r4 : Nat), 0, 0, 0⟩ from by rw [HD.out]; rw [HQ.out]; unfold pduV; rw [if_neg (by rw [HK4.out]; decide), if_neg (fun c => absurd c.2.1 (by have := H1.out; omega))]; rw [← Hr0.out.2.2, ← Hr1.out.2.2, ← Hr2.out.2.2, ← Hr3.out.2.2] <;> rfl] <;> rfl, K8.out.below⟩
   case pos =>
    have H1 := Lib.hid h1
    clear h1
    by_cases h2 : p ≤ (n : Int)
    case neg =>
     have H2 := Lib.hid h2
     clear h2
     refine lz (wz6 (pT b1 13) (.bool true) (.bool true) (iV p) (.bool true) (.bool true) (h2 := by have q0 : w7.cell? ⟨b1, 13, none⟩ = some (.bool y.own) := K7.out.cell (i := 0) rfl (by rfl); rw [HO.out] at q0; go_simp) (h5 := by have q := H1.out; go_simp; try omega) (h6 := by exact run_pick_yes (.tmp 72) (.tmp 74) (.const (.bool false)) _ rfl rfl rfl) (h := wz6 (.bool true) (iV p) (pT b2 6) (.slice a1 n m1) (iV (n : Nat)) (.bool false) (h4 := by have q : w7.cell? ⟨b2, 6, none⟩ = some (.slice a1 n m1) := (K7.out.at (i := 1) rfl).cell 6; go_simp) (h6 := by have q := H2.out; go_simp; try omega) (h := wz1 (.bool false) (h1 := by exact run_pick_yes (.tmp 76) (.tmp 81) (.const (.bool false)) _ rfl rfl rfl) (h := nz ?_))))
     go_upto_region 11 with fail
     refine lz (wz1 (.agg (pdA ⟨0, y.f0, false, false, false, false, false, 0, ((1 + r0 : Nat) : Int), (r1 : Nat), ((1 + r2 : Nat) : Int), (r3 : Nat), (r4 : Nat), 0, 0, 0⟩)) (h1 := by exact kx_all K7.out 4 rfl 61 _ rfl rfl Tryd.underlying61 rfl (size_pd)) (h := ?_))
     refine kx_row K7.out 2 rfl 61 _ _ (pdA ⟨0, y.f0, false, false, false, false, false, 0, ((1 + r0 : Nat) : Int), (r1 : Nat), ((1 + r2 : Nat) : Int), (r3 : Nat), (r4 : Nat), 0, 0, 0⟩) rfl rfl rfl rfl (size_pd) (by rfl) (pd_all _) (py (h := ?_))
     intro w8 K8
     refine wpList_nil ?_
     go_wp2_with fail
     (try simp only [Exit.inBlock, Exit.then])
     refine bodyPost_ret (v := .agg (pdA ⟨0, y.f0, false, false, false, false, false, 0, ((1 + r0 : Nat) : Int), (r1 : Nat), ((1 + r2 : Nat) : Int), (r3 : Nat), (r4 : Nat), 0, 0, 0⟩)) (results_cell_row Tryd.results16 _ _ b3 61 (pdA ⟨0, y.f0, false, false, false, false, false, 0, ((1 + r0 : Nat) : Int), (r1 : Nat), ((1 + r2 : Nat) : Int), (r3 : Nat), (r4 : Nat), 0, 0, 0⟩) (0, 0) _ rfl (K8.out.at (i := 2) rfl) Tryd.underlying61 rfl size_pd) rfl ?_
     exact ⟨by rw [show D = ⟨0, y.f0, false, false, false, false, false, 0, ((1 + r0 : Nat) : Int), (r1 : Nat), ((1 + r2 : Nat) : Int), (r3 : Nat), (r4 : Nat), 0, 0, 0⟩ from by rw [HD.out]; rw [HQ.out]; unfold pduV; rw [if_neg (by rw [HK4.out]; decide), if_neg (fun c => absurd c.2.2 (by have := H2.out; have := HN.out; omega))]; rw [← Hr0.out.2.2, ← Hr1.out.2.2, ← Hr2.out.2.2, ← Hr3.out.2.2] <;> rfl] <;> rfl, K8.out.below⟩
    case pos =>
     have H2 := Lib.hid h2
     clear h2
     obtain ⟨ip, hip⟩ : ∃ k : Nat, p = (k : Int) + 1 := ⟨(p - 1).toNat, by have := H1.out; omega⟩
     have HIP := Lib.hid hip
     obtain ⟨x, hx⟩ : ∃ x, s.po[ip]? = some x := ⟨_, List.getElem?_eq_getElem (show ip < s.po.length by have q := H2.out; have q2 := HN.out; omega)⟩
     have HS2 := HS.out.o1
     rw [HN.out] at HS2
     obtain ⟨g1, ha1, -, -, hr1⟩ := Own.elem po_len HS2 hx
     subst ha1
     obtain ⟨u, hu⟩ : ∃ u, u = vecN x := ⟨_, rfl⟩
     have hxu : x = poU x u := by rw [hu]; exact okP_poU (HOK.out ip x hx)
     rw [hxu] at hr1
     have HU := Lib.hid hu
     have HX := Lib.hid hx
     have HR1 := Lib.hid hr1
     have HIL := Lib.hid (show ip < n by have q := H2.out; omega)
     clear hx hr1 HS2 hip hu hxu
     refine lz (wz6 (pT b1 13) (.bool true) (.bool true) (iV p) (.bool true) (.bool true) (h2 := by have q0 : w7.cell? ⟨b1, 13, none⟩ = some (.bool y.own) := K7.out.cell (i := 0) rfl (by rfl); rw [HO.out] at q0; go_simp) (h5 := by have q := H1.out; go_simp; try omega) (h6 := by exact run_pick_yes (.tmp 72) (.tmp 74) (.const (.bool false)) _ rfl rfl rfl) (h := wz6 (.bool true) (iV p) (pT b2 6) (.slice (some ⟨g1, 0, none⟩) n m1) (iV (n : Nat)) (.bool true) (h4 := by have q : w7.cell? ⟨b2, 6, none⟩ = some (.slice (some ⟨g1, 0, none⟩) n m1) := (K7.out.at (i := 1) rfl).cell 6; go_simp) (h6 := by have q := H2.out; go_simp; try omega) (h := wz1 (.bool true) (h1 := by exact run_pick_yes (.tmp 76) (.tmp 81) (.const (.bool false)) _ rfl rfl rfl) (h := nz ?_))))
     go_upto_region 9 with fail
     refine lz (wz6 (pT b2 6) (.slice (some ⟨g1, 0, none⟩) n m1) (iV p) (iV (ip : Nat)) (pT g1 (ip * 21)) (pT g1 (ip * 21 + 13)) (h2 := by have q : w7.cell? ⟨b2, 6, none⟩ = some (.slice (some ⟨g1, 0, none⟩) n m1) := (K7.out.at (i := 1) rfl).cell 6; go_simp) (h4 := by have q := HIP.out; have q2 := HP.out; go_simp; try exact wrap_i64 (by omega) (by omega)) (h5 := by have q1 : ip < n := HIL.out; have q2 : n ≤ m1 := HM.out.1; go_simp) (h := wz1 (.agg (vcA u)) (h1 := by exact run_loadRange 71 _ rfl g1 (ip * 21 + 13) rfl (vcA u) _ (fun c v hv => by have q := HR1.out _ K7.out.below (13 + c) v (by rw [← hv]; exact po_vec x u c (List.getElem?_eq_some_iff.1 hv).1); rw [show ip * 21 + (13 + c) = ip * 21 + 13 + c by omega] at q; exact q) Tryd.underlying71 rfl sizeV) (h := ?_)))
     refine kx_alloc K7.out 71 (nil4) rfl zV (by rfl) (pz (h := ?_))
     intro b8 w8 K8
     refine kx_row K8.out 5 rfl 71 _ _ (vcA u) rfl rfl rfl rfl (sizeV) (by rfl) (by kernel_rfl) (py (h := ?_))
     intro w9 K9
     refine wpList_nil ?_
     go_upto_region 10 with fail
     refine rk (fun (_ : Unit) => [pT b8 0, .int .u64 (u.r : Nat), pT b8 1, .int .u32 (u.c : Nat), pT b8 2, .int .u64 (u.b : Nat), pT b8 3, .int .u16 (u.p : Nat), pT b6x 8, undef, pT b6x 9, undef, pT b6x 10, undef, pT b6x 11, undef]) (fun _ Lx w' => Kx w [(b1, acA y, 56), (b2, stA s (.slice (some ⟨g1, 0, none⟩) n m1) v2 v3 v4, 40), (b3, nil16, 61), (b4, #[.int .u8 2, .int .u8 2, .int .u8 0, .int .u8 128], 54), (b6x, pdA ⟨0, y.f0, false, false, false, false, false, 0, (bif Lx 9 then (u.r : Nat) else ((1 + r0 : Nat) : Int)), (bif Lx 11 then (u.c : Nat) else (r1 : Nat)), (bif Lx 13 then (u.b : Nat) else ((1 + r2 : Nat) : Int)), (bif Lx 15 then (u.p : Nat) else (r3 : Nat)), (r4 : Nat), 0, 0, 0⟩, 61), (b8, vcA u, 71)] (Bd.nil) w') (()) [] [(1, fun _ => ⟨b8, 0, none⟩), (3, fun _ => ⟨b8, 1, none⟩), (5, fun _ => ⟨b8, 2, none⟩), (7, fun _ => ⟨b8, 3, none⟩)] [(9, fun _ => [(91, .int .u64 (u.r : Nat)), (98, pT b6x 8)]), (11, fun _ => [(93, .int .u32 (u.c : Nat)), (99, pT b6x 9)]), (13, fun _ => [(95, .int .u64 (u.b : Nat)), (100, pT b6x 10)]), (15, fun _ => [(97, .int .u16 (u.p : Nat)), (101, pT b6x 11)])] [9, 11, 13, 15] (K9.out.drew) (fun _ Lx w' hw => ⟨fun _ => Kx.cell (i := 5) hw rfl (by rfl), fun _ => Kx.cell (i := 5) hw rfl (by rfl), fun _ => Kx.cell (i := 5) hw rfl (by rfl), fun _ => Kx.cell (i := 5) hw rfl (by rfl), trivial⟩) (fun _ L1 L2 _ e h => by (try dsimp only at h ⊢); rw [← e 9 (by decide), ← e 11 (by decide), ← e 13 (by decide), ← e 15 (by decide)]; exact h) ?_ ?_
     ·
      refine ⟨?_, ?_, ?_, ?_, trivial⟩ <;> (rintro _ Lx w' hw hL haft hdc ρ hc hf hG hs o ho; cases ho; try dsimp only [pT, iV, seen] at hw hs)
      ·
       obtain ⟨e91, e98, _⟩ := hs
       exact ss 29 _ _ rfl ⟨b6x, 8, none⟩ (.int .u64 (u.r : Nat)) e98 e91 (kx_run_set hw (i := 4) rfl 29 8 (.int .u64 (bif Lx 9 then (u.r : Nat) else ((1 + r0 : Nat) : Int))) (.int .u64 (u.r : Nat)) (by rfl) (fun W h1 h2 => by go_simp)) ⟨(), fun _ _ => rfl, rfl, kx_cast (Kx.set (i := 4) hw rfl 8 (.int .u64 (u.r : Nat))) (by rfl)⟩
      ·
       obtain ⟨e93, e99, _⟩ := hs
       exact ss 36 _ _ rfl ⟨b6x, 9, none⟩ (.int .u32 (u.c : Nat)) e99 e93 (kx_run_set hw (i := 4) rfl 36 9 (.int .u32 (bif Lx 11 then (u.c : Nat) else (r1 : Nat))) (.int .u32 (u.c : Nat)) (by rfl) (fun W h1 h2 => by go_simp)) ⟨(), fun _ _ => rfl, rfl, kx_cast (Kx.set (i := 4) hw rfl 9 (.int .u32 (u.c : Nat))) (by rfl)⟩
      ·
       obtain ⟨e95, e100, _⟩ := hs
       exact ss 29 _ _ rfl ⟨b6x, 10, none⟩ (.int .u64 (u.b : Nat)) e100 e95 (kx_run_set hw (i := 4) rfl 29 10 (.int .u64 (bif Lx 13 then (u.b : Nat) else ((1 + r2 : Nat) : Int))) (.int .u64 (u.b : Nat)) (by rfl) (fun W h1 h2 => by go_simp)) ⟨(), fun _ _ => rfl, rfl, kx_cast (Kx.set (i := 4) hw rfl 10 (.int .u64 (u.b : Nat))) (by rfl)⟩
      ·
       obtain ⟨e97, e101, _⟩ := hs
       exact ss 59 _ _ rfl ⟨b6x, 11, none⟩ (.int .u16 (u.p : Nat)) e101 e97 (kx_run_set hw (i := 4) rfl 59 11 (.int .u16 (bif Lx 15 then (u.p : Nat) else (r3 : Nat))) (.int .u16 (u.p : Nat)) (by rfl) (fun W h1 h2 => by go_simp)) ⟨(), fun _ _ => rfl, rfl, kx_cast (Kx.set (i := 4) hw rfl 11 (.int .u16 (u.p : Nat))) (by rfl)⟩
     intro _ Lx w10 hw hall
     try dsimp only at hw
     simp only [pT, iV, List.toList_toArray, putsZ_some, putsZ_none, putsZ_nil, List.setIfInBounds_toArray, List.set_cons_zero, List.set_cons_succ]
     have hL9 := hall 9 (by decide)
     have hL11 := hall 11 (by decide)
     have hL13 := hall 13 (by decide)
     have hL15 := hall 15 (by decide)
     simp only [hL9, hL11, hL13, hL15, cond_true] at hw
     have K10 := Lib.hid hw
     clear hw hall hL9 hL11 hL13 hL15
     go_upto_region 11 with fail
     refine lz (wz1 (.agg (pdA ⟨0, y.f0, false, false, false, false, false, 0, (u.r : Nat), (u.c : Nat), (u.b : Nat), (u.p : Nat), (r4 : Nat), 0, 0, 0⟩)) (h1 := by exact kx_all K10.out 4 rfl 61 _ rfl rfl Tryd.underlying61 rfl (size_pd)) (h := ?_))
     refine kx_row K10.out 2 rfl 61 _ _ (pdA ⟨0, y.f0, false, false, false, false, false, 0, (u.r : Nat), (u.c : Nat), (u.b : Nat), (u.p : Nat), (r4 : Nat), 0, 0, 0⟩) rfl rfl rfl rfl (size_pd) (by rfl) (pd_all _) (py (h := ?_))
     intro w11 K11
     refine wpList_nil ?_
     go_wp2_with fail
     (try simp only [Exit.inBlock, Exit.then])
     refine bodyPost_ret (v := .agg (pdA ⟨0, y.f0, false, false, false, false, false, 0, (u.r : Nat), (u.c : Nat), (u.b : Nat), (u.p : Nat), (r4 : Nat), 0, 0, 0⟩)) (results_cell_row Tryd.results16 _ _ b3 61 (pdA ⟨0, y.f0, false, false, false, false, false, 0, (u.r : Nat), (u.c : Nat), (u.b : Nat), (u.p : Nat), (r4 : Nat), 0, 0, 0⟩) (0, 0) _ rfl (K11.out.at (i := 2) rfl) Tryd.underlying61 rfl size_pd) rfl ?_
     exact ⟨by rw [show D = ⟨0, y.f0, false, false, false, false, false, 0, (u.r : Nat), (u.c : Nat), (u.b : Nat), (u.p : Nat), (r4 : Nat), 0, 0, 0⟩ from by rw [HD.out]; rw [HQ.out]; unfold pduV; rw [if_neg (by rw [HK4.out]; decide), if_pos ⟨HO.out, H1.out, by rw [← HN.out]; exact H2.out⟩]; rw [HIP.out, show ((ip : Int) + 1 - 1).toNat = ip by omega, HX.out]; show pdU _ (vecN x) = _; rw [← HU.out] <;> rfl] <;> rfl, K11.out.below⟩
 next =>
  have HK4 := Lib.hid hk4
  clear hk4
  have HKI := Lib.hid (show (y.ki : Int) % 4 = 3 by have := HK4.out; omega)
  refine rk (fun s => [pT b1 2, .int .u8 (y.ki : Nat), .int .u8 3, pT b4 3, .int .u8 128, pT b1 4, pT b1 4, .bool y.f0, .agg (pdA ⟨128, y.f0, false, false, false, false, false, 0, 0, 0, 0, 0, 0, 0, 0, 0⟩), s, undef]) (fun s Lx w' => W2 w5 61 62 16 21 (pdA ⟨128, y.f0, false, false, false, false, false, 0, 0, 0, 0, 0, 0, 0, 0, 0⟩) (#[]) (Lx 9) false (Lx 10) false s undef w') (undef) [] [(1, fun s => ⟨b1, 2, none⟩), (4, fun s => ⟨b4, 3, none⟩), (7, fun s => ⟨b1, 4, none⟩)] [(2, fun s => [(12, .int .u8 (y.ki : Nat))]), (3, fun s => [(7, pT b4 0), (13, .int .u8 3)]), (8, fun s => [(15, .int .u8 128), (18, .bool y.f0)]), (9, fun s => []), (10, fun s => [(8, s), (19, .agg (pdA ⟨128, y.f0, false, false, false, false, false, 0, 0, 0, 0, 0, 0, 0, 0, 0⟩))])] [9, 10] (W2.start _) (fun s Lx w' hw => ⟨fun _ => Kx.cell (i := 0) (K5.out.next hw.from1) rfl (by rfl), fun _ => Kx.cell (i := 3) (K5.out.next hw.from1) rfl (by rfl), fun _ => Kx.cell (i := 0) (K5.out.next hw.from1) rfl (by rfl), trivial⟩) (fun _ L1 L2 _ e h => by (try dsimp only at h ⊢); rw [← e 9 (by decide), ← e 10 (by decide)]; exact h) ?_ ?_
  ·
   refine ⟨?_, ?_, ?_, ?_, ?_, trivial⟩ <;> (rintro v8 Lx w' hw hL haft hdc ρ hc hf hG hs o ho; cases ho; try dsimp only [pT, iV, seen] at hw hs)
   ·
    exact sq (.int .u8 3) (by have q0 := HKI.out; have q1 := HYI.out.1; go_simp; first | exact wrS (by omega) (by omega) | exact tmN q0 | omega)
   ·
    exact sq (pT b4 3)
   ·
    obtain ⟨e15, e18, _⟩ := hs
    exact sq (.agg (pdA ⟨128, y.f0, false, false, false, false, false, 0, 0, 0, 0, 0, 0, 0, 0, 0⟩)) (l_build 61 [(0, .tmp 15), (1, .tmp 18)] rfl _ (pdA ⟨128, y.f0, false, false, false, false, false, 0, 0, 0, 0, 0, 0, 0, 0, 0⟩) (by simp only [List.map_cons, List.map_nil, e15, e18]; rfl) (by kernel_rfl))
   ·
    skip
    have hz := zPd w'
    exact sw (w' := (w'.alloc (.cells (nil16) 61))) (pT (w'.heap.size) 0) (by go_simp) ⟨(pT (w'.heap.size) 0), vs_other (i := 9) rfl hL, rfl, hw.alloc7 rfl hL⟩
   ·
    obtain ⟨e8, e19, _⟩ := hs
    obtain ⟨c, cs, rfl, hB, hz, hk, -⟩ := hw.p7 (haft 9 (by decide))
    exact sr 61 _ _ rfl c (pdA ⟨128, y.f0, false, false, false, false, false, 0, 0, 0, 0, 0, 0, 0, 0, 0⟩) e8 e19 61 cs hk (size_pd) (hz.trans rfl) (pd_all _) ⟨_, fun _ _ => rfl, rfl, hw.store7 (haft 9 (by decide)) rfl hk hB⟩
  intro v8 Lx w6 hw hall
  try dsimp only at hw
  obtain ⟨b6x, cs0, hv0, hB0, -, hk0, hx0⟩ := hw.p7 (hall 9 (by decide))
  have hx0 := hx0 (hall 10 (by decide))
  subst hx0
  subst hv0
  simp only [pT, iV, List.toList_toArray, putsZ_some, putsZ_none, putsZ_nil, List.setIfInBounds_toArray, List.set_cons_zero, List.set_cons_succ]
  have K6 := Lib.hid (show Kx w [(b1, acA y, 56), (b2, stA s (.slice a1 n m1) v2 v3 v4, 40), (b3, nil16, 61), (b4, #[.int .u8 2, .int .u8 2, .int .u8 0, .int .u8 128], 54), (b6x, pdA ⟨128, y.f0, false, false, false, false, false, 0, 0, 0, 0, 0, 0, 0, 0, 0⟩, 61)] (Bd.nil) w6 from (kx_add2 K5.out hw.from1 hk0 hB0))
  clear hw hall
  go_upto_region 3 with fail
  refine lz (wz3 (pT b6x 0) (.int .u8 128) (.bool true) (h2 := by have q : w6.cell? ⟨b6x, 0, none⟩ = some (.int .u8 128) := K6.out.cell (i := 4) rfl (by rfl); go_simp) (h := nz ?_))
  go_upto_region 4 with fail
  refine lz (wz1 (.agg (pdA ⟨128, false, false, false, false, false, false, 0, 0, 0, 0, 0, 0, 0, 0, 0⟩)) (h1 := by exact run_build_of 61 [(0, .const (.int .u8 128))] rfl _ (pdA ⟨128, false, false, false, false, false, false, 0, 0, 0, 0, 0, 0, 0, 0, 0⟩) rfl (by kernel_rfl)) (h := ?_))
  refine kx_row K6.out 2 rfl 61 _ _ (pdA ⟨128, false, false, false, false, false, false, 0, 0, 0, 0, 0, 0, 0, 0, 0⟩) rfl rfl rfl rfl (size_pd) (by rfl) (pd_all _) (py (h := ?_))
  intro w7 K7
  refine wpList_nil ?_
  go_wp2_with fail
  (try simp only [Exit.inBlock, Exit.then])
  refine bodyPost_ret (v := .agg (pdA ⟨128, false, false, false, false, false, false, 0, 0, 0, 0, 0, 0, 0, 0, 0⟩)) (results_cell_row Tryd.results16 _ _ b3 61 (pdA ⟨128, false, false, false, false, false, false, 0, 0, 0, 0, 0, 0, 0, 0, 0⟩) (0, 0) _ rfl (K7.out.at (i := 2) rfl) Tryd.underlying61 rfl size_pd) rfl ?_
  exact ⟨by rw [show D = ⟨128, false, false, false, false, false, false, 0, 0, 0, 0, 0, 0, 0, 0, 0⟩ from by rw [HD.out]; unfold pduQ pduV; rw [if_pos HK4.out, if_pos HK4.out] <;> rfl] <;> rfl, K7.out.below⟩
end
end Go.Proofs.YteeinlbhcdpnnaaDoor
