/- The developers' table of layer 9: Put. -/
import Derived.Test.YtilklfmcdgggfaaFb4
namespace Go.Proofs.Ytilklfmcdgggfaa
open Go.RowKit
open Go.ChangeMaps (setBlock)
set_option linter.unusedSimpArgs false
set_option linter.unusedVariables false

/-- The slots, while the region runs. -/
structure Pu3S (b mb g : Nat) (x : En) (f1 f2 f4 f5 f6 f7 f8 f9 f10 f11 f12 f13 f14 f15 f16 f17 f18 f19 : Value) (L : Nat → Bool) (v20 v21 v22 v23 v24 v25 v26 : Value) : Prop where
  e20 : L 0 = true → v20 = .pointer (some ⟨b, 0, none⟩)
  e21 : L 1 = true → v21 = .pointer (some ⟨b, 0, none⟩)
  e22 : L 2 = true → v22 = .pointer (some ⟨b, 2, none⟩)
  e23 : L 3 = true → v23 = .map (some mb)
  e24 : L 4 = true → v24 = .pointer (some ⟨g, 0, none⟩)
  e25 : L 5 = true → v25 = kyV x.vid x.mac
  e26 : L 6 = true → v26 = enV x
abbrev Pu3F (b mb g : Nat) (x : En) (f1 f2 f4 f5 f6 f7 f8 f9 f10 f11 f12 f13 f14 f15 f16 f17 f18 f19 : Value) (v20 v21 v22 v23 v24 v25 v26 : Value) : Act := { tmps := #[.pointer (some ⟨b, 0, none⟩), f1, f2, .pointer (some ⟨g, 0, none⟩), f4, f5, f6, f7, f8, f9, f10, f11, f12, f13, f14, f15, f16, f17, f18, f19, v20, v21, v22, v23, v24, v25, v26], defers := [] }
def Pu3I (b mb g : Nat) (x : En) (f1 f2 f4 f5 f6 f7 f8 f9 f10 f11 f12 f13 f14 f15 f16 f17 f18 f19 : Value) (L : Nat → Bool) (ac : Act) : Prop :=
  ∃ v20 v21 v22 v23 v24 v25 v26, ac = Pu3F b mb g x f1 f2 f4 f5 f6 f7 f8 f9 f10 f11 f12 f13 f14 f15 f16 f17 f18 f19 v20 v21 v22 v23 v24 v25 v26 ∧ Pu3S b mb g x f1 f2 f4 f5 f6 f7 f8 f9 f10 f11 f12 f13 f14 f15 f16 f17 f18 f19 L v20 v21 v22 v23 v24 v25 v26

/-- Whether there is room. -/
def roomB (mo : Int) (l : List En) (x : En) : Bool := decide (0 ≤ atK enK (enK x) l) || decide ((l.length : Int) < mo)
/-- What Put leaves. -/
def putP (mo li : Int) (l : List En) (x : En) : List En := if takesB li x && roomB mo l x then putD l x else l

set_option maxRecDepth 100000 in
set_option maxHeartbeats 16000000 in
theorem put_tf {w : World} {b A B : Nat} {mo li : Int} {l : List En} (x : En) (hx : enOk x) (h : TF w b A B mo li l) (hAB : A ≤ B) (hB : B ≤ w.heap.size) :
    Calls Try.prog 17 #[.pointer (some ⟨b, 0, none⟩), enV x] w fun e w' => e = .returned (.bool (takesB li x && roomB mo l x)) ∧ TF w' b A B mo li (putP mo li l x) ∧ KeptO A B w w' := by
  obtain ⟨w1, hw1⟩ : ∃ w1, w1 = w.alloc (.cells (enA x) 49) := ⟨_, rfl⟩
  obtain ⟨g, hg⟩ : ∃ g, g = w.heap.size := ⟨_, rfl⟩
  have k1 : Blk w1 g (enA x) 49 := by rw [hw1, hg]; exact Blk.new _ _ _
  have hb1 : Below w.heap.size w w1 := by rw [hw1]; exact (Below.refl w.heap.size w).alloc (Nat.le_refl _) _
  have K1 := Lib.hid k1
  have T1 := Lib.hid (h.next hB hb1).1
  have KP1 := Lib.hid (KeptO.ofBelow (A := A) (B := B) hb1)
  have HLB := Lib.hid (Nat.le_trans hB hb1.size)
  have HB := Lib.hid hB
  have HG := Lib.hid hg
  have HW1 := Lib.hid hw1
  have HXO := Lib.hid hx
  have SZ7 := Lib.hid kySize9
  have SZ9 := Lib.hid enSize49
  obtain ⟨tk, htk⟩ : ∃ tk : Bool, takesB li x = tk := ⟨_, rfl⟩
  obtain ⟨rm, hrm⟩ : ∃ rm : Bool, roomB mo l x = rm := ⟨_, rfl⟩
  have HTB := Lib.hid htk
  have HRM := Lib.hid hrm
  unfold roomB at HRM
  have HP := Lib.hid (show putP mo li l x = if tk && rm then putD l x else l by unfold putP; rw [htk, hrm])
  rw [htk, hrm, HP.out]
  clear hg hw1 k1 hb1 h hx htk hrm hB hAB HP
  go_enter Try.func17, Try.ntmps17
  go_upto_region 1 with fail
  rw [← HW1.out, ← HG.out]
  cases tk with
  | false =>
    go_wp2_with (first
      | (refine wpList_val (enV x) (by rfl) (run_loadVar_of 49 _ rfl g rfl 49 (enA x) _ K1.out Try.underlying49 rfl SZ9.out) ?_)
      | (go_at_call 43; refine (takes_any x T1.out).mono ?_; rintro e w2 ⟨rfl, hb2⟩; rw [HTB.out]; have T2 := Lib.hid (T1.out.next HLB.out hb2).1; have K2 := Lib.hid (K1.out.below hb2 K1.out.lt); have KP2 := Lib.hid (KP1.out.trans (KeptO.ofBelow hb2))))
    go_ret
    exact ⟨rfl, T2.out, KP2.out⟩
  | true =>
    cases rm with
    | false =>
      go_wp2_with (first
        | (refine wpList_val (enV x) (by rfl) (run_loadVar_of 49 _ rfl g rfl 49 (enA x) _ K1.out Try.underlying49 rfl SZ9.out) ?_)
        | (go_at_call 43; refine (takes_any x T1.out).mono ?_; rintro e w2 ⟨rfl, hb2⟩; rw [HTB.out]; have T2 := Lib.hid (T1.out.next HLB.out hb2).1; have K2 := Lib.hid (K1.out.below hb2 K1.out.lt); have KP2 := Lib.hid (KP1.out.trans (KeptO.ofBelow hb2)))
        | (refine wpList_val (kyV x.vid x.mac) (by rfl) (run_loadRange 36 _ rfl g 0 rfl (kyA x.vid x.mac) _ (en_range K2.out) Try.underlying36 rfl SZ7.out) ?_)
        | (go_at_call 44; refine (room_tf x.vid x.mac HXO.out T2.out).mono ?_; rintro e w3 ⟨rfl, hb3⟩; rw [show keyN x.vid x.mac = enK x from rfl, HRM.out]; have T3 := Lib.hid (T2.out.next (by have := KP2.out.size; have := HB.out; omega) hb3).1; have K3 := Lib.hid (K2.out.below hb3 K2.out.lt); have KP3 := Lib.hid (KP2.out.trans (KeptO.ofBelow hb3))))
      go_ret
      exact ⟨rfl, T3.out, KP3.out⟩
    | true =>
    go_upto_region 3 with (first
      | (refine wpList_val (enV x) (by rfl) (run_loadVar_of 49 _ rfl g rfl 49 (enA x) _ K1.out Try.underlying49 rfl SZ9.out) ?_)
      | (go_at_call 43; refine (takes_any x T1.out).mono ?_; rintro e w2 ⟨rfl, hb2⟩; rw [HTB.out]; have T2 := Lib.hid (T1.out.next HLB.out hb2).1; have K2 := Lib.hid (K1.out.below hb2 K1.out.lt); have KP2 := Lib.hid (KP1.out.trans (KeptO.ofBelow hb2)))
      | (refine wpList_val (kyV x.vid x.mac) (by rfl) (run_loadRange 36 _ rfl g 0 rfl (kyA x.vid x.mac) _ (en_range K2.out) Try.underlying36 rfl SZ7.out) ?_)
      | (go_at_call 44; refine (room_tf x.vid x.mac HXO.out T2.out).mono ?_; rintro e w3 ⟨rfl, hb3⟩; rw [show keyN x.vid x.mac = enK x from rfl, HRM.out]; have T3 := Lib.hid (T2.out.next (by have := KP2.out.size; have := HB.out; omega) hb3).1; have K3 := Lib.hid (K2.out.below hb3 K2.out.lt); have KP3 := Lib.hid (KP2.out.trans (KeptO.ofBelow hb3))))
    obtain ⟨mb, L, q1, q2, q3, q4, q5, q6, q7⟩ := T3.out
    have HC := Lib.hid (show ∀ w', Below w3.heap.size w3 w' → w'.cell? ⟨b, 2, none⟩ = some (.map (some mb)) from fun w' hb => by rw [(q4.below hb q4.lt).cell]; rfl)
    have Q4 := Lib.hid q4
    have Q5 := Lib.hid q5
    have Q6 := Lib.hid q6
    clear q4 q5 q6
    refine wp_region_last 7 (I := Pu3I b mb g x _ _ _ _ _ _ _ _ _ _ _ _ _ _ _ _ _ _) (by kernel_rfl) (by kernel_rfl) (by kernel_rfl) ⟨_, _, _, _, _, _, _, rfl, ⟨(fun h => Bool.noConfusion h), (fun h => Bool.noConfusion h), (fun h => Bool.noConfusion h), (fun h => Bool.noConfusion h), (fun h => Bool.noConfusion h), (fun h => Bool.noConfusion h), (fun h => Bool.noConfusion h)⟩⟩ ?_
    intro w5 hb5
    have hc5 := HC.out w5 hb5
    have hk8 := K3.out.below hb5 K3.out.lt
    have HB6 := Lib.hid hb5
    clear hb5
    refine ⟨?_, ?_⟩
    · intro i hi Lx ac hI hL haft
      obtain ⟨v20, v21, v22, v23, v24, v25, v26, rfl, hs⟩ := hI
      match i, hi with
      | 0, _ =>
        exact i_val rfl (.pointer (some ⟨b, 0, none⟩)) w5 (by rfl) (by go_simp) ⟨⟨(.pointer (some ⟨b, 0, none⟩)), v21, v22, v23, v24, v25, v26, rfl, { hs with e20 := fun _ => rfl }⟩, rfl⟩
      | 1, _ =>
        have e20x := hs.e20 (haft 0 (by decide))
        subst e20x
        exact i_val rfl (.pointer (some ⟨b, 0, none⟩)) w5 (by rfl) (by go_simp) ⟨⟨(.pointer (some ⟨b, 0, none⟩)), (.pointer (some ⟨b, 0, none⟩)), v22, v23, v24, v25, v26, rfl, { hs with e21 := fun _ => rfl }⟩, rfl⟩
      | 2, _ =>
        have e21x := hs.e21 (haft 1 (by decide))
        subst e21x
        exact i_val rfl (.pointer (some ⟨b, 2, none⟩)) w5 (by rfl) (by go_simp) ⟨⟨v20, (.pointer (some ⟨b, 0, none⟩)), (.pointer (some ⟨b, 2, none⟩)), v23, v24, v25, v26, rfl, { hs with e22 := fun _ => rfl }⟩, rfl⟩
      | 3, _ =>
        have e22x := hs.e22 (haft 2 (by decide))
        subst e22x
        have q := hc5
        exact i_val rfl (.map (some mb)) w5 (by rfl) (by go_simp) ⟨⟨v20, v21, (.pointer (some ⟨b, 2, none⟩)), (.map (some mb)), v24, v25, v26, rfl, { hs with e23 := fun _ => rfl }⟩, rfl⟩
      | 4, _ =>
        exact i_val rfl (.pointer (some ⟨g, 0, none⟩)) w5 (by rfl) (by go_simp) ⟨⟨v20, v21, v22, v23, (.pointer (some ⟨g, 0, none⟩)), v25, v26, rfl, { hs with e24 := fun _ => rfl }⟩, rfl⟩
      | 5, _ =>
        have e24x := hs.e24 (haft 4 (by decide))
        subst e24x
        exact i_val rfl (kyV x.vid x.mac) w5 (by rfl) (run_loadRange 36 _ rfl g 0 rfl (kyA x.vid x.mac) _ (en_range hk8) Try.underlying36 rfl SZ7.out) ⟨⟨v20, v21, v22, v23, (.pointer (some ⟨g, 0, none⟩)), (kyV x.vid x.mac), v26, rfl, { hs with e25 := fun _ => rfl }⟩, rfl⟩
      | 6, _ =>
        exact i_val rfl (enV x) w5 (by rfl) (run_loadVar_of 49 _ rfl g rfl 49 (enA x) _ hk8 Try.underlying49 rfl SZ9.out) ⟨⟨v20, v21, v22, v23, v24, v25, (enV x), rfl, { hs with e26 := fun _ => rfl }⟩, rfl⟩
      | k + 7, h =>
        exfalso
        have h2 : k + 7 < 7 := h
        omega
    intro Lx ac hI hall
    obtain ⟨v20, v21, v22, v23, v24, v25, v26, rfl, hs⟩ := hI
    have e20y := hs.e20 (hall 0 (by decide))
    subst e20y
    have e21y := hs.e21 (hall 1 (by decide))
    subst e21y
    have e22y := hs.e22 (hall 2 (by decide))
    subst e22y
    have e23y := hs.e23 (hall 3 (by decide))
    subst e23y
    have e24y := hs.e24 (hall 4 (by decide))
    subst e24y
    have e25y := hs.e25 (hall 5 (by decide))
    subst e25y
    have e26y := hs.e26 (hall 6 (by decide))
    subst e26y
    clear hs hall
    obtain ⟨o, hd, ht⟩ := (Q5.out.next HB6.out).put ky_keys Try.underlying93 (enK x) x trivial (fun _ _ => trivial)
    rw [show kvK (enK x) = kyV x.vid x.mac from kvK_of x.vid x.mac HXO.out] at hd
    have hkk : KeptO A B w3 (setBlock w5 mb o) := (KeptO.ofBelow HB6.out).trans (KeptO.setBlock q2.1 q2.2 o)
    have T7 := Lib.hid (show TF (setBlock w5 mb o) b A B mo li (putD l x) from
      ⟨mb, _, q1, q2, q3, (Q4.out.below HB6.out Q4.out.lt).grown (setBlock_grown w5 mb o) (fun e => q3 (Option.some.inj e)), ht, Q6.out.putCut x, fun y hy => by
        rcases layE_mem hy with rfl | hy
        · exact HXO.out
        · exact q7 y (cutE_mem hy)⟩)
    have HK := Lib.hid (KP3.out.trans hkk)
    have HD := Lib.hid hd
    clear ht hc5 hk8 hkk hd
    refine i_skip rfl (setBlock w5 mb o) (by rfl) (by have q := HD.out; unfold vvE at q; go_simp) ?_
    clear HD
    go_wp2_with fail
    go_ret
    exact ⟨rfl, T7.out, HK.out⟩
theorem nil_put (w : World) (x : En) : Calls Try.prog 17 #[.pointer none, enV x] w fun e w' => e = .returned (.bool false) ∧ Below w.heap.size w w' := by
  have hb : Below w.heap.size w (w.alloc (.cells (enA x) 49)) := (Below.refl w.heap.size w).alloc (Nat.le_refl _) _
  have HB := Lib.hid hb
  clear hb
  go_enter Try.func17, Try.ntmps17
  go_wp2_with fail
  go_ret
  exact ⟨rfl, HB.out⟩
end Go.Proofs.Ytilklfmcdgggfaa
