/- The document's own Set of a VLAN. -/
import Derived.Test.YtjipbdljljhijaaRef8
import Derived.Test.YtjipbdljljhijaaBks
namespace Go.Proofs.Ytjipbdljljhijaa
open Go.RowKit
set_option linter.unusedSimpArgs false
set_option linter.unusedVariables false

/-- How many stand ahead of a number. -/
def posV (vid : Nat) : List Vl → Nat
  | [] => 0
  | y :: l => if y.vid < vid then posV vid l + 1 else 0
theorem posV_is (vid : Nat) : ∀ (l : List Vl) (k : Nat), (∀ (j : Nat) (y : Vl), j < k → l[j]? = some y → y.vid < vid) → k ≤ l.length → (∀ y, l[k]? = some y → ¬ y.vid < vid) → posV vid l = k
  | [], k, _, hk, _ => by simp at hk; simp [posV, hk]
  | y :: l, 0, _, _, h => by
    have := h y rfl
    simp [posV, this]
  | y :: l, k + 1, hb, hk, h => by
    have h0 := hb 0 y (by omega) rfl
    have ih := posV_is vid l k (fun j z hj hz => hb (j + 1) z (by omega) (by simpa using hz)) (by simpa using hk) (fun z hz => h z (by simpa using hz))
    simp [posV, h0, ih]

/-- With a VLAN; the error's number. -/
def setV (l : List Vl) (x : Vl) : List Vl := if goodV x ≠ 0 then l else if 0 ≤ atV x.vid l then l.set (atV x.vid l).toNat x else if 16 ≤ l.length then l else l.take (posV x.vid l) ++ [x] ++ l.drop (posV x.vid l)
def setVE (l : List Vl) (x : Vl) : Int := if goodV x ≠ 0 then goodV x else if 0 ≤ atV x.vid l then 0 else if 16 ≤ l.length then 13 else 0

abbrev vlA (x : Vl) : Array Value := #[.int .u16 (x.vid : Nat), .int .u32 (x.mem : Nat), .int .u32 (x.unt : Nat)]
theorem vlA_one (x : Vl) : (vlA x).all (·.oneCell') = true := by simp [Value.oneCell']
theorem rgood_of {x : Vl} {arr : Array Value} (h : arr = vlA x) (w : World) : Calls Try.prog 30 #[.agg arr] w fun e w' => e = .returned (.int .i64 (goodV x)) ∧ Below w.heap.size w w' := by subst h; exact rgood_vl x w

set_option maxRecDepth 100000 in
set_option maxHeartbeats 4000000 in
theorem rset_bad (base : Nat) (v : Value) (l : List Vl) (x : Vl) (w : World) (h : Own w base 53 3 vlC v l) (hgd : goodV x ≠ 0) :
    Calls Try.prog 23 #[v, vlV x] w (OwnRes w base (setV l x) (setVE l x)) := by
  have R1 := Lib.hid (show setV l x = l by unfold setV; rw [if_pos hgd])
  have R2 := Lib.hid (show goodV x = setVE l x by unfold setVE; rw [if_pos hgd])
  obtain ⟨arr, harr⟩ : ∃ arr, arr = vlA x := ⟨_, rfl⟩
  have hz53 := Lib.hid (show (Try.prog.info? 53).map (·.size) = some arr.size by rw [harr]; exact vinfo53)
  have A0 := Lib.hid (show arr[0]? = some (.int .u16 (x.vid : Nat)) by rw [harr]; rfl)
  show Calls Try.prog 23 #[v, .agg (vlA x)] w _
  rw [← harr]
  have HA := Lib.hid harr
  clear harr
  have H := Lib.hid h
  clear h
  have K0 := Lib.hid (show Kn w [(w.heap.size, arr, 53)] (w.alloc (Obj.cells arr 53)) from (Kn.nil w).alloc arr 53)
  obtain ⟨G, hG⟩ : ∃ G, G = goodV x := ⟨_, rfl⟩
  rw [← hG] at hgd
  have HG := Lib.hid hG
  clear hG
  rw [← HG.out] at R2
  have q : (G != 0) = true := by simpa using hgd
  clear hgd
  go_enter Try.func23, Try.ntmps23
  go_wp2_with (first
    | (refine wpList_load_row rfl 53 _ rfl w.heap.size rfl 53 _ (0, 0) _ (K0.out.at 0 rfl) Try.underlying53 rfl hz53.out ?_)
    | (go_at_call 30; ((with_reducible refine (rgood_of HA.out _).mono ?_); rintro e w1 ⟨rfl, hb1⟩; rw [← HG.out]); have K1 := Lib.hid (K0.out.next hb1); clear hb1))
  go_ret2
  exact ⟨_, ret_own R2.out, by rw [R1.out]; exact H.out.next K1.out.below, K1.out.below⟩

set_option maxRecDepth 100000 in
set_option maxHeartbeats 4000000 in
theorem rset_full (base : Nat) (v : Value) (l : List Vl) (x : Vl) (w : World) (h : Own w base 53 3 vlC v l) (hgd : ¬ goodV x ≠ 0) (hl : l.length ≤ 100) (hat : atV x.vid l = -1) (h16 : 16 ≤ l.length) :
    Calls Try.prog 23 #[v, vlV x] w (OwnRes w base (setV l x) (setVE l x)) := by
  have R1 := Lib.hid (show setV l x = l by unfold setV; rw [if_neg hgd, hat, if_neg (by omega), if_pos h16])
  have R2 := Lib.hid (show (13 : Int) = setVE l x by unfold setVE; rw [if_neg hgd, hat, if_neg (by omega), if_pos h16])
  have AT := Lib.hid hat
  clear hat
  obtain ⟨g, cap, rfl, -⟩ : ∃ g cap, v = .slice (some ⟨g, 0, none⟩) l.length cap ∧ True := by
    rcases h.cases with ⟨-, rfl⟩ | ⟨g, cap, hv, -⟩
    · simp at h16
    · exact ⟨g, cap, hv, trivial⟩
  obtain ⟨n, hn⟩ : ∃ n, l.length = n := ⟨_, rfl⟩
  rw [hn] at h h16 ⊢
  have hn16 : (16 : Int) ≤ n := by omega
  clear hn h16
  obtain ⟨arr, harr⟩ : ∃ arr, arr = vlA x := ⟨_, rfl⟩
  have hz53 := Lib.hid (show (Try.prog.info? 53).map (·.size) = some arr.size by rw [harr]; exact vinfo53)
  have A0 := Lib.hid (show arr[0]? = some (.int .u16 (x.vid : Nat)) by rw [harr]; rfl)
  show Calls Try.prog 23 #[.slice (some ⟨g, 0, none⟩) n cap, .agg (vlA x)] w _
  rw [← harr]
  have HA := Lib.hid harr
  clear harr
  have H := Lib.hid h
  clear h
  have K0 := Lib.hid (show Kn w [(w.heap.size, arr, 53)] (w.alloc (Obj.cells arr 53)) from (Kn.nil w).alloc arr 53)
  obtain ⟨G, hG⟩ : ∃ G, G = goodV x := ⟨_, rfl⟩
  rw [← hG] at hgd
  have HG := Lib.hid hG
  clear hG
  have G0 : G = 0 := by simpa using hgd
  subst G0
  clear hgd
  go_enter Try.func23, Try.ntmps23
  go_upto_region 4 with (first
    | (refine wpList_load_row rfl 53 _ rfl w.heap.size rfl 53 _ (0, 0) _ (K0.out.at 0 rfl) Try.underlying53 rfl hz53.out ?_)
    | (go_at_call 30; ((with_reducible refine (rgood_of HA.out _).mono ?_); rintro e w1 ⟨rfl, hb1⟩; rw [← HG.out]); have K1 := Lib.hid (K0.out.next hb1); clear hb1))
  have cx : w1.cell? ⟨w.heap.size, 0, none⟩ = some (.int .u16 (x.vid : Nat)) := by rw [(K1.out.at 0 rfl).cell 0]; exact A0.out
  have H1 := Lib.hid (H.out.next K1.out.below)
  clear H K0 HG
  go_upto_region 5 with (go_at_call 21; ((with_reducible refine (rat_any base x.vid _ l _ H1.out hl).mono ?_); rintro e w2 ⟨rfl, rfl⟩; rw [AT.out]))
  clear cx
  go_wp2_with fail
  go_ret2
  exact ⟨_, ret_own R2.out, by rw [R1.out]; exact H1.out, K1.out.below⟩

set_option maxRecDepth 100000 in
set_option maxHeartbeats 4000000 in
theorem rset_at (base : Nat) (v : Value) (l : List Vl) (x : Vl) (w : World) (h : Own w base 53 3 vlC v l) (hgd : ¬ goodV x ≠ 0) (hb : base ≤ w.heap.size) (hl : l.length ≤ 100) (k : Nat) (hat : atV x.vid l = k) :
    Calls Try.prog 23 #[v, vlV x] w (OwnRes w base (setV l x) (setVE l x)) := by
  have R1 := Lib.hid (show setV l x = l.set k x by unfold setV; rw [if_neg hgd, hat, if_pos (by omega)]; simp)
  have R2 := Lib.hid (show (0 : Int) = setVE l x by unfold setVE; rw [if_neg hgd, hat, if_pos (by omega)])
  have hkl : k < l.length := by have := (atV_lt x.vid l).2; omega
  have AT := Lib.hid hat
  clear hat
  obtain ⟨g, cap, rfl, -⟩ : ∃ g cap, v = .slice (some ⟨g, 0, none⟩) l.length cap ∧ True := by
    rcases h.cases with ⟨-, rfl⟩ | ⟨g, cap, hv, -⟩
    · simp at hkl
    · exact ⟨g, cap, hv, trivial⟩
  obtain ⟨n, hn⟩ : ∃ n, l.length = n := ⟨_, rfl⟩
  rw [hn] at h hkl ⊢
  have HN := Lib.hid hn
  have hkn : (k : Int) < n := by omega
  have HK := Lib.hid hkl
  have HBASE := Lib.hid hb
  clear hn hkl hb
  obtain ⟨i, hi, hz, hsz, hby⟩ := info_parts vlinfo
  have HZ := Lib.hid hz
  have HS := Lib.hid hsz
  have HBY := Lib.hid hby
  have HI := Lib.hid hi
  clear hi hz hsz hby
  obtain ⟨arr, harr⟩ : ∃ arr, arr = vlA x := ⟨_, rfl⟩
  have hz53 := Lib.hid (show (Try.prog.info? 53).map (·.size) = some arr.size by rw [harr]; exact vinfo53)
  have A0 := Lib.hid (show arr[0]? = some (.int .u16 (x.vid : Nat)) by rw [harr]; rfl)
  show Calls Try.prog 23 #[.slice (some ⟨g, 0, none⟩) n cap, .agg (vlA x)] w _
  rw [← harr]
  have HA := Lib.hid harr
  clear harr
  have H := Lib.hid h
  clear h
  have K0 := Lib.hid (show Kn w [(w.heap.size, arr, 53)] (w.alloc (Obj.cells arr 53)) from (Kn.nil w).alloc arr 53)
  obtain ⟨G, hG⟩ : ∃ G, G = goodV x := ⟨_, rfl⟩
  rw [← hG] at hgd
  have HG := Lib.hid hG
  clear hG
  have G0 : G = 0 := by simpa using hgd
  subst G0
  clear hgd
  go_enter Try.func23, Try.ntmps23
  go_upto_region 4 with (first
    | (refine wpList_load_row rfl 53 _ rfl w.heap.size rfl 53 _ (0, 0) _ (K0.out.at 0 rfl) Try.underlying53 rfl hz53.out ?_)
    | (go_at_call 30; ((with_reducible refine (rgood_of HA.out _).mono ?_); rintro e w1 ⟨rfl, hb1⟩; rw [← HG.out]); have K1 := Lib.hid (K0.out.next hb1); clear hb1))
  have cx : w1.cell? ⟨w.heap.size, 0, none⟩ = some (.int .u16 (x.vid : Nat)) := by rw [(K1.out.at 0 rfl).cell 0]; exact A0.out
  have H1 := Lib.hid (H.out.next K1.out.below)
  clear H K0 HG
  go_upto_region 5 with (go_at_call 21; ((with_reducible refine (rat_any base x.vid _ l _ H1.out hl).mono ?_); rintro e w2 ⟨rfl, rfl⟩; rw [AT.out]))
  clear cx
  have hz1 : w.heap.size ≤ w1.heap.size := K1.out.below.size
  obtain ⟨v2, w2, hrun, o2, hg2, hv2⟩ := ((Own.made w1 (Nat.le_refl _) vlC).app (P := Try.prog) (t := 39) (ty := 39) (H1.out.alloc _).src Try.underlying39 HI.out HZ.out HS.out HBY.out rfl (by omega) vlC_len vlC_one
    (by unfold maxLen; simp; omega) (by simp; omega) (by simp))
  rw [List.nil_append] at o2
  obtain ⟨g2, cap2, rfl, hg2b, -⟩ : ∃ g2 cap2, v2 = .slice (some ⟨g2, 0, none⟩) l.length cap2 ∧ w1.heap.size ≤ g2 ∧ True := by
    rcases o2.cases with ⟨-, q⟩ | ⟨g2, cap2, hv, hb2, -⟩
    · have := HK.out; have := HN.out; rw [q] at this; simp at this; omega
    · exact ⟨g2, cap2, hv, hb2, trivial⟩
  have K2 := Lib.hid (K1.out.next (((Below.refl w1.heap.size w1).alloc (Nat.le_refl _) (.cells #[] 53)).trans (grown_below hg2 (fun i hi => by simp [Value.ownBlock] at hi; omega) (by simp))))
  rw [HN.out] at hrun
  obtain ⟨o3, hg3⟩ := o2.store vlC_len k x (by rw [HN.out]; exact HK.out)
  have TH := Lib.hid (o2.there vlC_len k (by rw [HN.out]; exact HK.out))
  rw [HN.out] at o3
  have O3 := Lib.hid o3
  have B3 := Lib.hid (K2.out.below.trans (grown_below hg3 (fun i hi => by simp at hi; omega) K2.out.below.size))
  have EX := Lib.hid (show arr.toList = vlC x by rw [HA.out]; rfl)
  have TH2 := Lib.hid (show w2.there g2 (k * 3) arr.size by rw [HA.out]; exact TH.out)
  have OA := Lib.hid (show arr.all (·.oneCell') = true by rw [HA.out]; exact vlA_one x)
  clear o2 o3 hg2 hg3 hv2 TH
  go_wp2_with (first
    | (at_builtin; refine wpList_append_lst rfl _ _ 39 rfl _ w2 hrun ?_)
    | (refine wpList_load_row rfl 53 _ rfl w.heap.size rfl 53 _ (0, 0) _ (K2.out.at 0 rfl) Try.underlying53 rfl hz53.out ?_)
    | (refine wpList_store_mid rfl 53 _ _ rfl g2 (k * 3) arr rfl rfl TH2.out hz53.out OA.out ?_; rw [EX.out]))
  go_ret2
  exact ⟨_, ret_own R2.out, by rw [R1.out]; exact O3.out.mono (Nat.le_trans HBASE.out hz1), B3.out⟩

end Go.Proofs.Ytjipbdljljhijaa
