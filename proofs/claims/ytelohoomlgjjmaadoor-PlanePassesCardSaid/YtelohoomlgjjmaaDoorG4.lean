import Derived.Test.YtelohoomlgjjmaaDoorG3
import Derived.Deep.QuietTactic
import Derived.BigQuiet
import Derived.Deep.RegionWith
import Derived.Deep.DeepCutAuto
import Derived.RegionTactic
import Derived.Laws.Tables
import Derived.WalkKit
import Derived.Lib.Hide
import Derived.Test.YtelohoomlgjjmaaDoorG2
import Derived.Test.YtelohoomlgjjmaaDoorG1
set_option linter.unusedSimpArgs false
set_option linter.unusedVariables false
namespace Go.Proofs.YtelohoomlgjjmaaDoor
section
/- What the functions of package addr do that make no text, and the document's own answers for them. -/
open Go.RowKit

/-- Six noughts. -/
abbrev nil6 : Array Value := #[.int .u8 0, .int .u8 0, .int .u8 0, .int .u8 0, .int .u8 0, .int .u8 0]

theorem size25 : (Tryd.prog.info? 40).map (·.size) = some 6 := by kernel_rfl
theorem size22 : (Tryd.prog.info? 39).map (·.size) = some 6 := by kernel_rfl
theorem macA_one (m : Nat → Nat) : (macA m).all (·.oneCell') = true := by simp [Value.oneCell']

set_option maxHeartbeats 1000000 in
theorem fromInt_any (x : Nat) (w : World) : Calls Tryd.prog 21 #[.int .u64 x] w fun e w' => e = .returned (mac (byteF x)) ∧ Below w.heap.size w w' := by
  obtain ⟨W, hW⟩ : ∃ W, W = (w.alloc (Obj.cells nil6 40)).alloc (Obj.cells nil6 40) := ⟨_, rfl⟩
  have hB : Below w.heap.size w W := by rw [hW]; exact ((Below.refl _ _).alloc (Nat.le_refl _) _).alloc (by simp) _
  have hS : W.heap.size = w.heap.size + 2 := by rw [hW]; simp
  have r0 : Blk W w.heap.size nil6 40 := by rw [hW]; exact (Blk.new _ _ _).alloc _
  have r1 : Blk W (w.heap.size + 1) nil6 40 := by
    rw [hW]
    have := Blk.new (w.alloc (Obj.cells nil6 40)) nil6 40
    rwa [show (w.alloc (Obj.cells nil6 40)).heap.size = w.heap.size + 1 by simp] at this
  have HW := Lib.hid hW
  have HS := Lib.hid hS
  clear hW hS
  go_enter Tryd.func21, Tryd.ntmps21
  go_wp2_with (fail)
  simp only [nil6] at HW
  rw [← HW.out]
  generalize hBe : w.heap.size = B at *
  have HB := Lib.hid hBe
  clear hBe HW
  go_region_with (first
    | (go_at_call 43; refine (bytes_yes x 6 _ (by omega) (by omega)).mono ?_; rintro e w1 ⟨rfl, hb1⟩
       have r2 : Blk w1 B nil6 40 := Blk.below (Blk.drew r0) hb1 (by have := HS.out; simp; omega)
       have r3 : Blk w1 (B + 1) nil6 40 := Blk.below (Blk.drew r1) hb1 (by have := HS.out; simp; omega)
       have hcopy := copy_six w1 (B + 1) x 3 nil6 rfl r3))
  have r4 := r2.rowOther (k := B + 1) (by omega) (macA (byteF x))
  have r5 := r3.row (macA (byteF x))
  have hB2 : Below B w (w1.setRow (B + 1) (macA (byteF x))) := by
    refine below_setRow (hB.drew.trans (hb1.mono ?_)) (by omega) _
    have := HS.out
    simp
    omega
  clear hcopy r0 r1 r2 r3 hb1 hB
  generalize w1.setRow (B + 1) (macA (byteF x)) = w2 at *
  have hi := Lib.hid size25
  have ho := Lib.hid (macA_one (byteF x))
  have R4 := Lib.hid r4
  have R5 := Lib.hid r5
  clear r4 r5
  go_wp2_with (first
    | (refine wpList_load_row rfl 40 _ rfl (B + 1) rfl 40 _ (0, 0) _ R5.out Tryd.underlying40 rfl hi.out ?_)
    | (refine wpList_store_row rfl 40 _ _ rfl B (macA (byteF x)) rfl rfl 40 nil6 R4.out hi.out rfl ho.out ?_))
  exact bodyPost_ret (v := mac (byteF x)) (results_cell_row Tryd.results21 _ _ B 40 (macA (byteF x)) (0, 0) _ rfl (R4.out.row _) Tryd.underlying40 rfl hi.out) rfl ⟨rfl, by rw [HB.out]; exact below_setRow hB2 (Nat.le_refl _) _⟩

theorem macA_set (f : Nat → Nat) (k v : Nat) (hk : k < 6) : (macA f).setIfInBounds k (.int .u8 (v : Nat)) = macA (fun i => if i = k then v else f i) := by
  match k, hk with
  | 0, _ => rfl
  | 1, _ => rfl
  | 2, _ => rfl
  | 3, _ => rfl
  | 4, _ => rfl
  | 5, _ => rfl

theorem macA_congr {f g : Nat → Nat} (h : ∀ i, i < 6 → f i = g i) : macA f = macA g := by
  unfold macA
  rw [h 0 (by omega), h 1 (by omega), h 2 (by omega), h 3 (by omega), h 4 (by omega), h 5 (by omega)]

theorem mac_congr {f g : Nat → Nat} (h : ∀ i, i < 6 → f i = g i) : mac f = mac g := by
  unfold mac
  rw [h 0 (by omega), h 1 (by omega), h 2 (by omega), h 3 (by omega), h 4 (by omega), h 5 (by omega)]

/-- The last j bytes of a number. -/
def lastF (x j i : Nat) : Nat := if 6 ≤ i + j then byteF x i else 0

theorem lastF_zero (x : Nat) : nil6 = macA (lastF x 0) := rfl

theorem lastF_step (x j : Nat) (hj : j < 6) : (macA (lastF x j)).setIfInBounds (5 - j) (.int .u8 ((x / 256 ^ j % 256 : Nat) : Int)) = macA (lastF x (j + 1)) := by
  rw [macA_set _ _ _ (by omega)]
  apply macA_congr
  intro i hi
  unfold lastF byteF
  by_cases c : i = 5 - j
  · subst c
    rw [if_pos rfl, if_pos (by omega), show 5 - (5 - j) = j by omega]
  · rw [if_neg c]
    by_cases d : 6 ≤ i + j
    · rw [if_pos d, if_pos (by omega)]
    · rw [if_neg d, if_neg (by omega)]

theorem rfrom_val (x j : Nat) : Value.int .u8 (((x : Int) / 256 ^ j).tmod 256 % 256) = .int .u8 ((x / 256 ^ j % 256 : Nat) : Int) := by
  have c : (x : Int) / 256 ^ j = ((x / 256 ^ j : Nat) : Int) := by simp
  rw [c]
  generalize x / 256 ^ j = y
  rw [Int.tmod_eq_emod_of_nonneg (by omega)]
  congr 1
  omega
end
section
/- What the functions of package addr tell of an address, and the document's own answers. -/
open Go.RowKit

set_option maxHeartbeats 400000 in
theorem group_any (m : Nat → Nat) (w : World) (hm : Six m) : Calls Tryd.prog 14 #[mac m] w fun e w' => e = .returned (.bool (decide (m 0 % 2 = 1))) ∧ Below w.heap.size w w' := by
  have b0 : Below w.heap.size w w := Below.refl _ _
  have h0 := hm.1
  have hb : (bits BinOp.and IntKind.u8 (m 0 : Int) 1 == 1) = decide (m 0 % 2 = 1) := by
    rw [show (1 : Int) = ((1 : Nat) : Int) from rfl, u8_and_nat (m 0) 1 (by omega) (by omega), nat_mask1]
    by_cases c : m 0 % 2 = 1
    · rw [c]; rfl
    · rw [decide_eq_false c]; simp; omega
  have H := Lib.hid hb
  clear hb hm
  go_enter Tryd.func14, Tryd.ntmps14
  go_wp2
  go_ret
  exact ⟨congrArg (fun b => Ending.returned (Value.bool b)) H.out, b0.alloc (Nat.le_refl _) _⟩

theorem ret_bool {a b : Bool} (h : a = b) : Ending.returned (.bool a) = .returned (.bool b) := by rw [h]

/-- Is it an address that no bridge forwards? -/
def resB (m : Nat → Nat) : Bool := decide (m 0 = 1) && decide (m 1 = 128) && decide (m 2 = 194) && decide (m 3 = 0) && decide (m 4 = 0) && decide (m 5 < 16)

theorem first5 (w : World) (g : Nat) (m : Nat → Nat) (t : TypeId) (hm : Six m) (h : Blk w g (macA m) t) :
    (convert 96 9 (.slice (some ⟨g, 0, none⟩) 5 6)).run Tryd.prog w = .ok (.string ⟨#[UInt8.ofNat (m 0), UInt8.ofNat (m 1), UInt8.ofNat (m 2), UInt8.ofNat (m 3), UInt8.ofNat (m 4)]⟩) w := by
  obtain ⟨h0, h1, h2, h3, h4, h5⟩ := hm
  have hh : Has w g ([UInt8.ofNat (m 0), UInt8.ofNat (m 1), UInt8.ofNat (m 2), UInt8.ofNat (m 3), UInt8.ofNat (m 4)].map bv) := by
    intro j hj
    refine ⟨?_, h.free j⟩
    rw [h.cell j]
    match j, hj with
    | 0, _ => simp [bv]; omega
    | 1, _ => simp [bv]; omega
    | 2, _ => simp [bv]; omega
    | 3, _ => simp [bv]; omega
    | 4, _ => simp [bv]; omega
  exact hh.text (P := Tryd.prog) (cap := 6) 96 9 5 Tryd.underlying96 Tryd.underlying5 Tryd.underlying9 5 rfl

theorem ofNat_eq (n c : Nat) (hn : n < 256) (hc : c < 256) : UInt8.ofNat n = UInt8.ofNat c ↔ n = c := by
  constructor
  · intro h
    have := congrArg UInt8.toNat h
    simp at this
    omega
  · intro h
    rw [h]

theorem front_iff (m : Nat → Nat) (hm : Six m) : (UInt8.ofNat (m 0) = 1 ∧ UInt8.ofNat (m 1) = 128 ∧ UInt8.ofNat (m 2) = 194 ∧ UInt8.ofNat (m 3) = 0 ∧ UInt8.ofNat (m 4) = 0) ↔ (m 0 = 1 ∧ m 1 = 128 ∧ m 2 = 194 ∧ m 3 = 0 ∧ m 4 = 0) := by
  obtain ⟨h0, h1, h2, h3, h4, h5⟩ := hm
  have e0 := ofNat_eq (m 0) 1 h0 (by omega)
  have e1 := ofNat_eq (m 1) 128 h1 (by omega)
  have e2 := ofNat_eq (m 2) 194 h2 (by omega)
  have e3 := ofNat_eq (m 3) 0 h3 (by omega)
  have e4 := ofNat_eq (m 4) 0 h4 (by omega)
  exact and_congr e0 (and_congr e1 (and_congr e2 (and_congr e3 e4)))

set_option maxRecDepth 100000 in
set_option maxHeartbeats 4000000 in
theorem reserved_any (m : Nat → Nat) (w : World) (hm : Six m) : Calls Tryd.prog 10 #[mac m] w fun e w' => e = .returned (.bool (resB m)) ∧ Below w.heap.size w w' := by
  have b0 : Below w.heap.size w w := Below.refl _ _
  have h5 := first5 _ _ m 40 hm (Blk.new w (macA m) 40)
  have hk := Lib.hid (front_iff m hm)
  clear hm
  go_enter Tryd.func10, Tryd.ntmps10
  go_wp2
  all_goals
    rename_i hh
    rw [hk.out] at hh
    go_ret
    exact ⟨ret_bool (by unfold resB; rw [Bool.eq_iff_iff]; simp; omega), b0.alloc (Nat.le_refl _) _⟩

/-- The digit of a number below 16. -/
def digN (n : Nat) : Nat := (if n < 10 then 48 + n else 87 + n) % 256

theorem digN_small (n : Nat) (h : n < 10) : ((digN n : Nat) : Int) = 48 + (n : Int) := by unfold digN; rw [if_pos h]; omega
theorem digN_great (n : Nat) (h : ¬ n < 10) : ((digN n : Nat) : Int) = (87 + (n : Int)) % 256 := by unfold digN; rw [if_neg h]; omega

/-- What a digit tells, a small or a great one; none: 16. -/
def hexN (c : Nat) : Nat := if 48 ≤ c ∧ c ≤ 57 then c - 48 else if 97 ≤ c ∧ c ≤ 102 then c - 87 else if 65 ≤ c ∧ c ≤ 70 then c - 55 else 16

def hexOk (c : Nat) : Bool := decide (hexN c < 16)
def hexV (c : Nat) : Nat := if hexN c < 16 then hexN c else 0

theorem ret_two {k : IntKind} {a a' : Int} {b b' : Bool} (h : a = a') (g : b = b') : Ending.returned (.tuple #[.int k a, .bool b]) = .returned (.tuple #[.int k a', .bool b']) := by rw [h, g]

theorem hexV_lt (c : Nat) : hexV c < 16 := by unfold hexV; split <;> omega

/-- Two digits' byte. -/
def pairV (a b : Nat) : Nat := 16 * hexV a + hexV b

theorem pair_walk (a b : Nat) : bits .or .u8 (bits .or .u8 0 (hexV a : Int) * 16 % 256) (hexV b : Int) = (pairV a b : Nat) := by
  have h1 := hexV_lt a
  have h2 := hexV_lt b
  have e0 : bits .or .u8 0 (hexV a : Int) = ((hexV a : Nat) : Int) := by
    rw [show (0 : Int) = ((0 : Nat) : Int) from rfl, u8_or_nat _ _ (by omega) (by omega), Nat.zero_or]
  have e1 : ((hexV a : Int) * 16 % 256) = ((hexV a * 16 : Nat) : Int) := by omega
  rw [e0, e1, u8_or_nat _ _ (by omega) (by omega), nat_join 4 _ _ (by omega) (by omega)]
  unfold pairV
  rw [Nat.mul_comm]
end
section
/- Regions that draw their order, by an invariant over what has come up; with no program in sight. -/
open Go.RowKit

/-- .. and operation i, too. -/
def upd (L : Nat → Bool) (i j : Nat) : Bool := if j = i then true else L j

/-- For which ones operation i waits. -/
def afters (ops : Array Oper) (i : Nat) : List Nat :=
  match ops[i]? with
  | some o => (o.after.toList.filter (Region.binds .any)).map (·.on)
  | none => []

/-- Each waits for earlier ones alone. -/
def dag (ops : Array Oper) : Bool := (List.range ops.size).all fun i => (afters ops i).all fun j => decide (j < i)

section
variable {P : Program} {ops : Array Oper} {Q : Exit → Act → World → Prop}

def lis (l : Array Bool) (j : Nat) : Bool := l.getD j false

theorem lis_set {l : Array Bool} {i : Nat} (h : i < l.size) : lis (l.setIfInBounds i true) = upd (lis l) i := by
  funext j
  unfold lis upd
  by_cases c : j = i
  · subst c
    simp [h]
  · rw [if_neg c]
    simp only [Array.getD_eq_getD_getElem?]
    rw [Array.getElem?_setIfInBounds_ne (by omega)]

theorem count_set {l : Array Bool} {i : Nat} (h : i < l.size) (hf : lis l i = false) : (l.setIfInBounds i true).toList.count false + 1 = l.toList.count false := by
  have hl : i < l.toList.length := by simpa using h
  have hv : l.toList[i] = false := by
    unfold lis at hf
    simpa [h] using hf
  rw [Array.toList_setIfInBounds, List.count_set hl, hv]
  have : 0 < l.toList.count false := List.count_pos_iff.2 (by rw [← hv]; exact List.getElem_mem hl)
  have a1 : (if (false == false) = true then 1 else 0) = 1 := by decide
  have a2 : (if (true == false) = true then 1 else 0) = 0 := by decide
  rw [a1, a2]
  omega

theorem mem_afters {i : Nat} {o : Oper} (ho : ops[i]? = some o) (j : Nat) : j ∈ afters ops i ↔ ∃ e ∈ o.after, Region.binds .any e = true ∧ e.on = j := by
  unfold afters
  rw [ho]
  simp [and_assoc]

theorem dag_at (hd : dag ops = true) {i : Nat} (hi : i < ops.size) {j : Nat} (hj : j ∈ afters ops i) : j < i := by
  unfold dag at hd
  rw [List.all_eq_true] at hd
  have h1 := hd i (List.mem_range.2 hi)
  rw [List.all_eq_true] at h1
  simpa using h1 j hj

/-- Where nothing may come up, all has come up. -/
theorem all_of_none (hd : dag ops = true) {l : Array Bool} (hl : l.size = ops.size) (hr : Region.ready .any ops l = []) : ∀ i, i < ops.size → lis l i = true := by
  intro i
  induction i using Nat.strongRecOn with
  | _ i ih =>
    intro hi
    cases hc : lis l i with
    | true => rfl
    | false =>
      have : i ∈ Region.ready .any ops l := by
        rw [mem_ready]
        refine ⟨?_, ops[i], Array.getElem?_eq_getElem hi, fun e he hb => ?_⟩
        · unfold lis at hc
          simpa [hl, hi] using hc
        · have hj : e.on ∈ afters ops i := (mem_afters (Array.getElem?_eq_getElem hi) _).2 ⟨e, he, hb, rfl⟩
          have hlt := dag_at hd hi hj
          exact ih e.on hlt (by omega)
      rw [hr] at this
      cases this

theorem wpAny_inv (I : (Nat → Bool) → Act → World → Prop) (hd : dag ops = true)
    (hstep : ∀ i, i < ops.size → ∀ L a w, I L a w → L i = false → (∀ j ∈ afters ops i, L j = true) → wpOp P ops Q i (fun a' w' => I (upd L i) a' w') a w)
    (hend : ∀ L a w, I L a w → (∀ i, i < ops.size → L i = true) → Q .normal a w) :
    ∀ fuel (l : Array Bool) a w, l.size = ops.size → l.toList.count false ≤ fuel → I (lis l) a w → wpAny P .any ops Q fuel l a w := by
  intro fuel
  induction fuel with
  | zero =>
    intro l a w hl hc hI
    have hall : ∀ i, i < ops.size → lis l i = true := by
      intro i hi
      cases hv : lis l i with
      | true => rfl
      | false =>
        have := count_set (l := l) (by omega) hv
        omega
    refine ⟨?_, hend _ _ _ hI hall⟩
    cases hr : Region.ready .any ops l with
    | nil => rfl
    | cons i r =>
      have hm : i ∈ Region.ready .any ops l := by rw [hr]; exact List.mem_cons_self
      obtain ⟨h1, o, ho, -⟩ := mem_ready.1 hm
      have hi := (Array.getElem?_eq_some_iff.1 ho).1
      have h2 := hall i hi
      unfold lis at h2
      simp [hl, hi] at h1 h2
      rw [h1] at h2
      cases h2
  | succ fuel ih =>
    intro l a w hl hc hI
    refine ⟨fun hr => hend _ _ _ hI (all_of_none hd hl hr), fun i hm => ?_⟩
    obtain ⟨h1, o, ho, h2⟩ := mem_ready.1 hm
    have hi := (Array.getElem?_eq_some_iff.1 ho).1
    have hf : lis l i = false := by
      unfold lis
      simpa [hl, hi] using h1
    refine wpOp_mono (fun a' w' hI' => ?_) (hstep i hi (lis l) a w hI hf (fun j hj => ?_))
    · refine ih _ a' w' (by simpa using hl) ?_ ?_
      · have := count_set (l := l) (by omega) hf
        omega
      · rw [lis_set (by omega)]
        exact hI'
    · obtain ⟨e, he, hb, rfl⟩ := (mem_afters ho j).1 hj
      exact h2 e he hb

theorem wp_region_inv {id : Nat} {a : Act} {w : World} (I : (Nat → Bool) → Act → World → Prop) (hm : P.follows .mixedOrders = true) (hd : dag ops = true) (h0 : I (fun _ => false) a w.drew)
    (hstep : ∀ i, i < ops.size → ∀ L a w, I L a w → L i = false → (∀ j ∈ afters ops i, L j = true) → wpOp P ops Q i (fun a' w' => I (upd L i) a' w') a w)
    (hend : ∀ L a w, I L a w → (∀ i, i < ops.size → L i = true) → Q .normal a w) : (Code.region id ops true).wp P Q a w := by
  refine wp_region_any hm (wpAny_inv I hd hstep hend ops.size _ a _ (by simp) (by simp) ?_)
  have e : lis (Array.replicate ops.size false) = fun _ => false := by
    funext j
    unfold lis
    by_cases c : j < ops.size <;> simp [c]
  rw [e]
  exact h0

variable {i : Nat} {o : Oper} {a : Act} {w : World} {K : Act → World → Prop}

/-- One that yields a value. -/
theorem i_val (ho : ops[i]? = some o) (v : Value) (w' : World) (hw : Region.wanted o (yielded ops a.tmps) = true) (hv : (execOp a.eval o).run P w = .ok (.value v) w') (h : K (a.put o.dst v) w') : wpOp P ops Q i K a w := by
  unfold wpOp
  simp only [ho, hw, if_true, Oper.wp, hv, Oper.upon]
  exact .inl h

/-- A call. -/
theorem i_call (ho : ops[i]? = some o) (v : Value) (f : FuncId) (args : Array Value) (R : World → Prop) (hw : Region.wanted o (yielded ops a.tmps) = true) (hv : (execOp a.eval o).run P w = .ok (.enter f args) w)
    (hc : Calls P f args w fun e w' => e = .returned v ∧ R w') (h : ∀ w', R w' → K (a.put o.dst v) w') : wpOp P ops Q i K a w := by
  unfold wpOp
  simp only [ho, hw, if_true, Oper.wp, hv, Oper.upon]
  exact .inl (hc.mono fun e w' ⟨he, hr⟩ => by subst he; exact h w' hr)

/-- One whose step is known by itself. -/
theorem i_wp (ho : ops[i]? = some o) (hw : Region.wanted o (yielded ops a.tmps) = true) (h : o.wp P a w K Q) : wpOp P ops Q i K a w := by
  unfold wpOp
  simp only [ho, hw, if_true]
  exact .inl h
end
end
section
/- The developers' table of VLANs: its small functions, and the table as a map. -/
open Go.RowKit

/-- May a VLAN have that number? -/
def vidOk (v : Nat) : Bool := decide (1 ≤ v) && decide (v ≤ 4094)
theorem goodVid_any (v : Nat) (w : World) : Calls Tryd.prog 44 #[.int .u16 (v : Nat)] w fun e w' => e = .returned (.bool (vidOk v)) ∧ w = w' := by
  by_cases h : 1 ≤ v
  · have R := Lib.hid (show decide ((v : Int) ≤ 4094) = vidOk v by unfold vidOk; rw [decide_eq_true h, Bool.true_and, decide_eq_decide]; omega)
    have e1 : decide ((1 : Int) ≤ v) = true := by rw [decide_eq_true_eq]; omega
    clear h
    go_enter Tryd.func44, Tryd.ntmps44
    go_wp2
    go_ret
    exact ⟨ret_bool R.out, rfl⟩
  · have R := Lib.hid (show false = vidOk v by unfold vidOk; rw [decide_eq_false h, Bool.false_and])
    have e1 : decide ((1 : Int) ≤ v) = false := by rw [decide_eq_false_iff_not]; omega
    clear h
    go_enter Tryd.func44, Tryd.ntmps44
    go_wp2
    go_ret
    exact ⟨ret_bool R.out, rfl⟩

/-- No bits that are no ports. -/
def onlyB (s : Nat) : Bool := decide (s < 65536)
theorem onlyPorts_any (s : Nat) (w : World) : Calls Tryd.prog 61 #[.int .u32 (s : Nat)] w fun e w' => e = .returned (.bool (onlyB s)) ∧ w = w' := by
  have R := Lib.hid (show ((s : Int) / 65536 == 0) = onlyB s by unfold onlyB; rw [Bool.eq_iff_iff, beq_iff_eq, decide_eq_true_eq]; omega)
  go_enter Tryd.func61, Tryd.ntmps61
  go_wp2
  go_ret
  exact ⟨ret_bool R.out, rfl⟩

theorem sub_within (m u : Nat) (hm : m < 65536) (hu : u < 65536) : withinB u m = subB m u := by
  unfold withinB subB portsL upto
  rw [Bool.eq_iff_iff, List.all_eq_true, List.all_eq_true]
  constructor
  · intro h i hi
    have hi16 := List.mem_range.1 hi
    cases c : decide (u / 2 ^ i % 2 = 1) with
    | false => rfl
    | true =>
      have := h ((i : Int) + 1) (List.mem_filter.2 ⟨List.mem_map.2 ⟨i, hi, rfl⟩, by rw [hasB_at u i hi16]; exact c⟩)
      rw [hasB_at m i hi16] at this
      rw [this]
      rfl
  · intro h p hp
    obtain ⟨h1, h2⟩ := List.mem_filter.1 hp
    obtain ⟨i, hi, rfl⟩ := List.mem_map.1 h1
    have hi16 := List.mem_range.1 hi
    have := h i hi
    rw [hasB_at u i hi16] at h2
    rw [h2] at this
    rw [hasB_at m i hi16]
    simpa using this

/-- May its members, and those without a tag, be so? -/
def portsOk (x : Vl) : Bool := onlyB x.mem && onlyB x.unt && subB x.mem x.unt
theorem goodV_eq (x : Vl) : goodV x = if vidOk x.vid = false then 15 else if portsOk x = false then 14 else 0 := by
  cases h1 : vidOk x.vid with
  | false =>
    unfold vidOk at h1
    rw [Bool.and_eq_false_iff, decide_eq_false_iff_not, decide_eq_false_iff_not] at h1
    unfold goodV
    rw [if_pos (show x.vid < 1 ∨ 4094 < x.vid by omega), if_pos rfl]
  | true =>
    unfold vidOk at h1
    rw [Bool.and_eq_true, decide_eq_true_eq, decide_eq_true_eq] at h1
    unfold goodV
    rw [if_neg (show ¬ (x.vid < 1 ∨ 4094 < x.vid) by omega), if_neg (show ¬ (true = false) by decide)]
    unfold portsOk
    cases h2 : onlyB x.mem with
    | false =>
      unfold onlyB at h2
      rw [decide_eq_false_iff_not] at h2
      rw [if_pos (.inl (by omega))]
      rfl
    | true =>
      unfold onlyB at h2
      rw [decide_eq_true_eq] at h2
      cases h3 : onlyB x.unt with
      | false =>
        unfold onlyB at h3
        rw [decide_eq_false_iff_not] at h3
        rw [if_pos (.inr (by omega))]
        rfl
      | true =>
        unfold onlyB at h3
        rw [decide_eq_true_eq] at h3
        rw [if_neg (show ¬ (65535 < x.mem ∨ 65535 < x.unt) by omega)]
        cases subB x.mem x.unt <;> rfl

theorem vinfo48 : (Tryd.prog.info? 73).map (·.size) = some 3 := by kernel_rfl

set_option maxHeartbeats 4000000 in
theorem goodPorts_any (x : Vl) (w : World) : Calls Tryd.prog 45 #[vlV x] w fun e w' => e = .returned (.bool (portsOk x)) ∧ Below w.heap.size w w' := by
  obtain ⟨vid, mem, unt⟩ := x
  have HB := Lib.hid ((Below.refl w.heap.size w).alloc (Nat.le_refl _) (Obj.cells #[.int .u16 (vid : Nat), .int .u32 (mem : Nat), .int .u32 (unt : Nat)] 73))
  cases h1 : onlyB mem with
  | false =>
    have R := Lib.hid (show false = portsOk ⟨vid, mem, unt⟩ by unfold portsOk; simp only; rw [h1]; rfl)
    have H1 := Lib.hid h1
    clear h1
    go_enter Tryd.func45, Tryd.ntmps45
    go_wp2_with (go_at_call 61; refine (onlyPorts_any mem _).mono ?_; rintro e w' ⟨rfl, rfl⟩; rw [H1.out])
    go_ret
    exact ⟨ret_bool R.out, HB.out⟩
  | true =>
    cases h2 : onlyB unt with
    | false =>
      have R := Lib.hid (show false = portsOk ⟨vid, mem, unt⟩ by unfold portsOk; simp only; rw [h1, h2]; rfl)
      have H1 := Lib.hid h1
      have H2 := Lib.hid h2
      clear h1 h2
      go_enter Tryd.func45, Tryd.ntmps45
      go_wp2_with (go_at_call 61; first | (with_reducible refine (onlyPorts_any mem _).mono ?_; rintro e w' ⟨rfl, rfl⟩; rw [H1.out]) | (with_reducible refine (onlyPorts_any unt _).mono ?_; rintro e w' ⟨rfl, rfl⟩; rw [H2.out]))
      go_ret
      exact ⟨ret_bool R.out, HB.out⟩
    | true =>
      have hm : mem < 65536 := of_decide_eq_true h1
      have hu : unt < 65536 := of_decide_eq_true h2
      have R := Lib.hid (show withinB unt mem = portsOk ⟨vid, mem, unt⟩ by unfold portsOk; simp only; rw [h1, h2, sub_within mem unt hm hu]; rfl)
      have H1 := Lib.hid h1
      have H2 := Lib.hid h2
      have HW := Lib.hid (show ∀ W : World, Calls Tryd.prog 62 #[.int .u32 (unt : Nat), .int .u32 (mem : Nat)] W fun e w' => e = .returned (.bool (withinB unt mem)) ∧ Below W.heap.size W w' from fun W => within_any unt mem W (by omega) (by omega))
      clear h1 h2 hm hu
      go_enter Tryd.func45, Tryd.ntmps45
      go_wp2_with (first
        | (go_at_call 61; first | (with_reducible refine (onlyPorts_any mem _).mono ?_; rintro e w' ⟨rfl, rfl⟩; rw [H1.out]) | (with_reducible refine (onlyPorts_any unt _).mono ?_; rintro e w' ⟨rfl, rfl⟩; rw [H2.out]))
        | (go_at_call 62; refine (HW.out _).mono ?_; rintro e w' ⟨rfl, hb⟩))
      go_ret
      exact ⟨ret_bool R.out, HB.out.trans (hb.mono HB.out.size)⟩
end
section
/- Some blocks may have changed, and no others. -/
open Go.RowKit

/-- Other blocks than those from A on below B are as they were. -/
structure KeptO (A B : Nat) (w w' : World) : Prop where
  os : w'.os = w.os
  tape : w'.tape = w.tape
  output : w'.output = w.output
  size : w.heap.size ≤ w'.heap.size
  block : ∀ k, (k < A ∨ B ≤ k) → k < w.heap.size → w'.heap[k]? = w.heap[k]?

theorem KeptO.below {A B : Nat} {w w' : World} (h : KeptO A B w w') (hA : A ≤ w.heap.size) : Below A w w' :=
  ⟨h.os, h.tape, h.output, h.size, fun i hi => h.block i (.inl hi) (by omega)⟩
end
section
/- The developers' table of VLANs: New, Drop, Get. -/
open Go.RowKit
open Go.ChangeMaps (setBlock)

abbrev vlNilA : Array Value := #[.int .u16 0, .int .u32 0, .int .u32 0]
theorem zero48 (W : World) : (zeroValue 73).run Tryd.prog W = .ok (.agg vlNilA) W := by kernel_rfl
abbrev kv16 (n : Nat) : Value := .int .u16 (n : Nat)
theorem keys16 : KeyEq Tryd.prog 23 kv16 (fun _ => True) := int_keys Tryd.prog 23 .u16 Tryd.underlying23

/-- The developers' table: a block that holds a map of these VLANs. -/
def TM (w : World) (b A B : Nat) (l : List Vl) : Prop :=
  ∃ (mb : Nat) (L : List (Nat × Vl)), (A ≤ b ∧ b < B) ∧ (A ≤ mb ∧ mb < B) ∧ b ≠ mb ∧ Blk w b #[.map (some mb)] 111 ∧ Tb w mb kv16 vlV L ∧ Rel L l

theorem TM.keep {w w' : World} {b A B : Nat} {l : List Vl} (h : TM w b A B l) (hk : ∀ k, A ≤ k → k < B → w'.heap[k]? = w.heap[k]?) : TM w' b A B l := by
  obtain ⟨mb, L, h1, h2, h3, h4, h5, h6⟩ := h
  exact ⟨mb, L, h1, h2, h3, (hk b h1.1 h1.2).trans h4, h5.same (hk mb h2.1 h2.2), h6⟩

theorem Tb.look_no {w : World} {mb : Nat} {L : List (Nat × Vl)} (h : Tb w mb kv16 vlV L) (v : Nat) (g : getL v L = none) :
    (Instr.lookup 109 (.map (some mb)) (.int .u16 (v : Nat)) true).run Tryd.prog w = .ok (.tuple #[.agg vlNilA, .bool false]) w := by
  have := Tb.look h keys16 Tryd.underlying109 v trivial (fun _ _ => trivial) (zero48 w) true
  rw [g] at this
  exact this
theorem Tb.look_yes {w : World} {mb : Nat} {L : List (Nat × Vl)} (h : Tb w mb kv16 vlV L) (v : Nat) (x : Vl) (g : getL v L = some x) (arr : Array Value) (ha : arr = vlA x) :
    (Instr.lookup 109 (.map (some mb)) (.int .u16 (v : Nat)) true).run Tryd.prog w = .ok (.tuple #[.agg arr, .bool true]) w := by
  have := Tb.look h keys16 Tryd.underlying109 v trivial (fun _ _ => trivial) (zero48 w) true
  rw [g] at this
  rw [ha]
  exact this
theorem TM.next {w w' : World} {b A B : Nat} {l : List Vl} (h : TM w b A B l) (hB : B ≤ w.heap.size) (hb : Below w.heap.size w w') : TM w' b A B l ∧ KeptO A B w w' :=
  ⟨h.keep (fun k _ hk => hb.block k (by omega)), hb.os, hb.tape, hb.output, hb.size, fun k _ hk => hb.block k hk⟩
theorem TM.turned {w w2 : World} {b A B mb : Nat} {o : Obj} {L' : List (Nat × Vl)} {l' : List Vl} (h1 : A ≤ b ∧ b < B) (h2 : A ≤ mb ∧ mb < B) (h3 : b ≠ mb) (h4 : Blk w b #[.map (some mb)] 111) (hB : B ≤ w.heap.size)
    (hb : Below w.heap.size w w2) (h5 : Tb (setBlock w2 mb o) mb kv16 vlV L') (h6 : Rel L' l') : TM (setBlock w2 mb o) b A B l' ∧ KeptO A B w (setBlock w2 mb o) := by
  have hg := setBlock_grown w2 mb o
  refine ⟨⟨mb, L', h1, h2, h3, (h4.below hb (by omega)).grown hg (fun e => h3 (Option.some.inj e)), h5, h6⟩, ?_⟩
  refine ⟨hg.os.trans hb.os, hg.tape.trans hb.tape, hg.output.trans hb.output, Nat.le_trans hb.size hg.size, fun k hk hk2 => ?_⟩
  exact (hg.block k (Nat.lt_of_lt_of_le hk2 hb.size) (fun e => by cases e; omega)).trans (hb.block k hk2)
theorem vl_one (x : Vl) : (vlA x).all (·.oneCell') = true := by simp [Value.oneCell']

theorem new_tm (w : World) : Calls Tryd.prog 22 #[] w fun e w' => ∃ b, e = .returned (.pointer (some ⟨b, 0, none⟩)) ∧ TM w' b w.heap.size w'.heap.size [] ∧ Below w.heap.size w w' := by
  have hmm := @run_makeMap Tryd.prog
  go_enter Tryd.func22, Tryd.ntmps22
  go_wp2
  go_ret
  refine ⟨_, rfl, ⟨w.heap.size, [], ?_, ?_, ?_, ?_, (Tb.new w kv16 vlV).alloc _, Rel.nil⟩, ((Below.refl w.heap.size w).alloc (Nat.le_refl _) _).alloc (by simp) _⟩
  · simp
    try omega
  · simp
    try omega
  · simp
  · have := Blk.new (w.alloc (.map #[] 0)) #[.map (some w.heap.size)] 111
    simpa using this

/-- What Get answers. -/
def GetRes (l : List Vl) (vid : Nat) (e : Ending) : Prop :=
  (atV vid l = -1 ∧ e = .returned (.tuple #[.agg vlNilA, .bool false])) ∨ ∃ (k : Nat) (x : Vl), atV vid l = k ∧ l[k]? = some x ∧ e = .returned (.tuple #[vlV x, .bool true])

set_option maxHeartbeats 4000000 in
theorem get_tm {w : World} {b A B : Nat} {l : List Vl} (vid : Nat) (h : TM w b A B l) :
    Calls Tryd.prog 16 #[.pointer (some ⟨b, 0, none⟩), .int .u16 (vid : Nat)] w fun e w' => Below w.heap.size w w' ∧ GetRes l vid e := by
  obtain ⟨mb, L, h1, h2, h3, h4, h5, h6⟩ := h
  have h4 := h4.alloc (.cells vlNilA 73)
  have h5 := h5.alloc (.cells vlNilA 73)
  have hc := h4.cell 0
  simp only [List.getElem?_toArray, List.getElem?_cons_zero] at hc
  rcases h6.get vid with ⟨g1, g2⟩ | ⟨k, x, g1, g2, g3, g4⟩
  · have hlk := h5.look_no vid g2
    have hb := ((Below.refl w.heap.size w).alloc (Nat.le_refl _) (.cells vlNilA 73)).alloc (by simp) (.cells vlNilA 73)
    have HB := Lib.hid hb
    have HG := Lib.hid g1
    clear h4 h5 hb g1
    go_enter Tryd.func16, Tryd.ntmps16
    go_wp2
    have q : Blk ((w.alloc (.cells vlNilA 73)).alloc (.cells vlNilA 73)) w.heap.size vlNilA 73 := (Blk.new w vlNilA 73).alloc _
    exact bodyPost_ret (v := .tuple #[.agg vlNilA, .bool false]) (results_row_tmp Tryd.results16 _ _ w.heap.size 73 vlNilA _ _ rfl rfl q Tryd.underlying73 rfl vinfo48) rfl ⟨HB.out, .inl ⟨HG.out, rfl⟩⟩
  · obtain ⟨v, m, u⟩ := x
    have hlk := h5.look_yes vid _ g4 _ rfl
    have HG := Lib.hid g1
    have HG2 := Lib.hid g2
    have HG3 := Lib.hid g3
    clear h4 h5 g1 g2 g3 g4
    obtain ⟨arr, harr⟩ : ∃ arr, arr = vlA ⟨v, m, u⟩ := ⟨_, rfl⟩
    have HB := Lib.hid (((Below.refl w.heap.size w).alloc (Nat.le_refl _) (.cells (vlA ⟨v, m, u⟩) 73)).alloc (by simp) (.cells (vlA ⟨v, m, u⟩) 73))
    go_enter Tryd.func16, Tryd.ntmps16
    go_wp2
    have q : Blk ((w.alloc (.cells (vlA ⟨v, m, u⟩) 73)).alloc (.cells (vlA ⟨v, m, u⟩) 73)) w.heap.size (vlA ⟨v, m, u⟩) 73 := (Blk.new w _ 73).alloc _
    exact bodyPost_ret (v := .tuple #[.agg (vlA ⟨v, m, u⟩), .bool true]) (results_row_tmp Tryd.results16 _ _ w.heap.size 73 (vlA ⟨v, m, u⟩) _ _ rfl rfl q Tryd.underlying73 rfl vinfo48) rfl ⟨HB.out, .inr ⟨k, ⟨v, m, u⟩, HG.out, HG2.out, rfl⟩⟩
end
section
/- The developers' table of VLANs: Set. -/
open Go.RowKit
open Go.ChangeMaps (setBlock)

/-- The world, while the look-up's region runs. -/
structure SW (w1 : World) (l10 : Bool) (v5 : Value) (w : World) : Prop where
  below : Below w1.heap.size w1 w
  ptr : l10 = true → ∃ (c : Nat) (arr : Array Value), v5 = .pointer (some ⟨c, 0, none⟩) ∧ w1.heap.size ≤ c ∧ arr.size = 3 ∧ Kn w1 [(c, arr, 73)] w
theorem SW.make {w1 w : World} {l10 : Bool} {v5 : Value} (h : SW w1 l10 v5 w) : SW w1 true (.pointer (some ⟨w.heap.size, 0, none⟩)) (w.alloc (.cells vlNilA 73)) :=
  ⟨h.below.alloc h.below.size _, fun _ => ⟨_, vlNilA, rfl, h.below.size, rfl, (⟨fun _ h => (by cases h), h.below⟩ : Kn w1 [] w).alloc _ _⟩⟩
theorem SW.put {w1 w : World} {l10 : Bool} {c : Nat} {arr old : Array Value} (h : SW w1 l10 (.pointer (some ⟨c, 0, none⟩)) w) (hc0 : w1.heap.size ≤ c) (hk : Kn w1 [(c, arr, 73)] w) (ho : old.size = 3) : SW w1 l10 (.pointer (some ⟨c, 0, none⟩)) (w.setRow c old) := by
  have := hk.row (fun _ h => (by cases h)) hc0 old
  exact ⟨this.below, fun _ => ⟨c, old, rfl, hc0, ho, this⟩⟩

/-- The slots, while the region runs. -/
structure St7S (b g mb v m u : Nat) (old : Array Value) (th : Bool) (L : Nat → Bool) (v5 v6 v19 v20 v21 v22 v23 v24 v25 v26 v27 v28 : Value) : Prop where
  e20 : L 0 = true → v20 = .pointer (some ⟨b, 0, none⟩)
  e21 : L 1 = true → v21 = .pointer (some ⟨b, 0, none⟩)
  e22 : L 2 = true → v22 = .pointer (some ⟨b, 0, none⟩)
  e23 : L 3 = true → v23 = .map (some mb)
  e24 : L 4 = true → v24 = .pointer (some ⟨g, 0, none⟩)
  e25 : L 5 = true → v25 = .int .u16 (v : Nat)
  e26 : L 6 = true → v26 = .tuple #[.agg old, .bool th]
  e19 : L 7 = true → v19 = .tuple #[.agg old, .bool th]
  e27 : L 8 = true → v27 = .agg old
  e28 : L 9 = true → v28 = .bool th
  e6 : L 12 = true → v6 = .bool th
abbrev St7F (b g mb v m u : Nat) (old : Array Value) (th : Bool) (v5 v6 v19 v20 v21 v22 v23 v24 v25 v26 v27 v28 : Value) : Act := { tmps := #[.pointer (some ⟨b, 0, none⟩), vlV ⟨v, m, u⟩, undef, .pointer (some ⟨g, 0, none⟩), .int .i64 0, v5, v6, .bool false, .pointer (some ⟨b, 0, none⟩), .bool false, .bool false, .pointer (some ⟨g, 0, none⟩), .int .u16 (v : Nat), .bool true, .bool false, .bool false, .agg #[.int .u16 (v : Nat), .int .u32 (m : Nat), .int .u32 (u : Nat)], .bool true, .bool false, v19, v20, v21, v22, v23, v24, v25, v26, v27, v28, undef, undef, undef, undef, undef, undef, undef, undef, undef, undef, undef, undef, undef, undef, undef, undef, undef], defers := [] }
def St7I (b g mb v m u : Nat) (old : Array Value) (th : Bool) (w1 : World) (L : Nat → Bool) (a : Act) (w : World) : Prop :=
  ∃ v5 v6 v19 v20 v21 v22 v23 v24 v25 v26 v27 v28, a = St7F b g mb v m u old th v5 v6 v19 v20 v21 v22 v23 v24 v25 v26 v27 v28 ∧ St7S b g mb v m u old th L v5 v6 v19 v20 v21 v22 v23 v24 v25 v26 v27 v28 ∧ SW w1 (L 10) v5 w

theorem wp_insert {P : Program} {o : Oper} {a : Act} {w w2 : World} {K : Act → World → Prop} {Q : Exit → Act → World → Prop} {t : TypeId} {m x v : Operand} {b : Nat} {key val : Value} (ho : o.op = .mapUpdate t m x v)
    (hm : a.eval m = .map (some b)) (hx : a.eval x = key) (hv : a.eval v = val) (hrun : (Instr.mapUpdate t (.map (some b)) key val).run P w = .ok () w2) (h : K (a.put o.dst undef) w2) : o.wp P a w K Q := by
  unfold Oper.wp execOp
  simp only [ho, hm, hx, hv, Sem.run_bind, Sem.run_pure, hrun, Result.andThen_ok]
  exact h

/-- The world, while the new one is laid in. -/
structure SP (w3 : World) (mb v : Nat) (y : Vl) (L0 : List (Nat × Vl)) (L : Nat → Bool) (w : World) : Prop where
  bef : L 7 = false → Below w3.heap.size w3 w
  ord : L 7 = true → ∀ i, i < 7 → L i = true
  aft : L 7 = true → ∃ w2 o, Below w3.heap.size w3 w2 ∧ w = setBlock w2 mb o ∧ Tb w mb kv16 vlV (putL v y L0)
theorem SP.no {w3 w : World} {mb v : Nat} {y : Vl} {L0 : List (Nat × Vl)} {L : Nat → Bool} (h : SP w3 mb v y L0 L w) (i : Nat) (hi : i < 7) (hl : L i = false) : L 7 = false := by
  cases c : L 7 with
  | false => rfl
  | true => have := h.ord c i hi; rw [hl] at this; cases this
theorem SP.step {w3 w : World} {mb v : Nat} {y : Vl} {L0 : List (Nat × Vl)} {L : Nat → Bool} (h : SP w3 mb v y L0 L w) (i : Nat) (hi : i < 7) (hl : L i = false) : SP w3 mb v y L0 (upd L i) w := by
  have c := h.no i hi hl
  have e : upd L i 7 = false := by unfold upd; rw [if_neg (by omega)]; exact c
  exact ⟨fun _ => h.bef c, fun q => (by rw [e] at q; cases q), fun q => (by rw [e] at q; cases q)⟩
theorem SP.put {w3 w : World} {mb v : Nat} {y : Vl} {L0 : List (Nat × Vl)} {L : Nat → Bool} {o : Obj} (h : SP w3 mb v y L0 L w) (hl : L 7 = false) (hall : ∀ i, i < 7 → L i = true) (ht : Tb (setBlock w mb o) mb kv16 vlV (putL v y L0)) : SP w3 mb v y L0 (upd L 7) (setBlock w mb o) := by
  have e : upd L 7 7 = true := by unfold upd; rw [if_pos rfl]
  refine ⟨fun q => (by rw [e] at q; cases q), fun _ i hi => ?_, fun _ => ⟨w, o, h.bef hl, rfl, ht⟩⟩
  unfold upd
  rw [if_neg (by omega)]
  exact hall i hi

/-- The slots, while the region runs. -/
structure St10S (b g mb v m u : Nat) (th : Bool) (f5 f19 f20 f21 f22 f23 f24 f25 f26 f27 f28 f29 f30 f31 f32 f33 f34 f35 f36 f37 f38 : Value) (L : Nat → Bool) (v39 v40 v41 v42 v43 v44 v45 : Value) : Prop where
  e39 : L 0 = true → v39 = .pointer (some ⟨b, 0, none⟩)
  e40 : L 1 = true → v40 = .pointer (some ⟨b, 0, none⟩)
  e41 : L 2 = true → v41 = .pointer (some ⟨b, 0, none⟩)
  e42 : L 3 = true → v42 = .map (some mb)
  e43 : L 4 = true → v43 = .pointer (some ⟨g, 0, none⟩)
  e44 : L 5 = true → v44 = .int .u16 (v : Nat)
  e45 : L 6 = true → v45 = .agg #[.int .u16 (v : Nat), .int .u32 (m : Nat), .int .u32 (u : Nat)]
abbrev St10F (b g mb v m u : Nat) (th : Bool) (f5 f19 f20 f21 f22 f23 f24 f25 f26 f27 f28 f29 f30 f31 f32 f33 f34 f35 f36 f37 f38 : Value) (v39 v40 v41 v42 v43 v44 v45 : Value) : Act := { tmps := #[.pointer (some ⟨b, 0, none⟩), vlV ⟨v, m, u⟩, undef, .pointer (some ⟨g, 0, none⟩), .int .i64 0, f5, .bool th, .bool false, .pointer (some ⟨b, 0, none⟩), .bool false, .bool false, .pointer (some ⟨g, 0, none⟩), .int .u16 (v : Nat), .bool true, .bool false, .bool false, .agg #[.int .u16 (v : Nat), .int .u32 (m : Nat), .int .u32 (u : Nat)], .bool true, .bool false, f19, f20, f21, f22, f23, f24, f25, f26, f27, f28, f29, f30, f31, f32, f33, f34, f35, f36, f37, f38, v39, v40, v41, v42, v43, v44, v45], defers := [] }
def St10I (b g mb v m u : Nat) (th : Bool) (f5 f19 f20 f21 f22 f23 f24 f25 f26 f27 f28 f29 f30 f31 f32 f33 f34 f35 f36 f37 f38 : Value) (w3 : World) (L0 : List (Nat × Vl)) (L : Nat → Bool) (a : Act) (w : World) : Prop :=
  ∃ v39 v40 v41 v42 v43 v44 v45, a = St10F b g mb v m u th f5 f19 f20 f21 f22 f23 f24 f25 f26 f27 f28 f29 f30 f31 f32 f33 f34 f35 f36 f37 f38 v39 v40 v41 v42 v43 v44 v45 ∧ St10S b g mb v m u th f5 f19 f20 f21 f22 f23 f24 f25 f26 f27 f28 f29 f30 f31 f32 f33 f34 f35 f36 f37 f38 L v39 v40 v41 v42 v43 v44 v45 ∧ SP w3 mb v ⟨v, m, u⟩ L0 L w

set_option maxRecDepth 100000 in
set_option maxHeartbeats 16000000 in
theorem set_tm {w : World} {b A B : Nat} {l : List Vl} (x : Vl) (h : TM w b A B l) (hAB : A ≤ B) (hB : B ≤ w.heap.size) :
    Calls Tryd.prog 25 #[.pointer (some ⟨b, 0, none⟩), vlV x] w fun e w' => e = .returned (.int .i64 (setVE l x)) ∧ TM w' b A B (setV l x) ∧ KeptO A B w w' := by
  obtain ⟨v, m, u⟩ := x
  have hb := (Below.refl w.heap.size w).alloc (Nat.le_refl _) (.cells (vlA ⟨v, m, u⟩) 73)
  cases hv : vidOk v with
  | false =>
    have HG := Lib.hid (show goodV ⟨v, m, u⟩ = 15 by rw [goodV_eq, if_pos hv])
    have R1 := Lib.hid (show (15 : Int) = setVE l ⟨v, m, u⟩ by unfold setVE; rw [HG.out]; rfl)
    have R2 := Lib.hid (show setV l ⟨v, m, u⟩ = l by unfold setV; rw [HG.out]; rfl)
    have HV := Lib.hid hv
    have HB2 := Lib.hid hb
    have HH := Lib.hid h
    clear hv hb h
    go_enter Tryd.func25, Tryd.ntmps25
    go_wp2_with (go_at_call 44; refine (goodVid_any v _).mono ?_; rintro e w' ⟨rfl, rfl⟩; rw [HV.out])
    go_ret
    refine ⟨ret_num R1.out, ?_⟩
    rw [R2.out]
    exact HH.out.next hB HB2.out
  | true =>
    cases hp : portsOk ⟨v, m, u⟩ with
    | false =>
      have HG := Lib.hid (show goodV ⟨v, m, u⟩ = 14 by rw [goodV_eq, if_neg (by rw [hv]; decide), if_pos hp])
      have R1 := Lib.hid (show (14 : Int) = setVE l ⟨v, m, u⟩ by unfold setVE; rw [HG.out]; rfl)
      have R2 := Lib.hid (show setV l ⟨v, m, u⟩ = l by unfold setV; rw [HG.out]; rfl)
      have HV := Lib.hid hv
      have HP := Lib.hid hp
      have HB2 := Lib.hid hb
      have HH := Lib.hid h
      clear hv hb h hp
      go_enter Tryd.func25, Tryd.ntmps25
      go_wp2_with (first
        | (go_at_call 44; refine (goodVid_any v _).mono ?_; rintro e w' ⟨rfl, rfl⟩; rw [HV.out])
        | (go_at_call 45; refine (goodPorts_any ⟨v, m, u⟩ _).mono ?_; rintro e w' ⟨rfl, hb3⟩; rw [HP.out]))
      go_ret
      refine ⟨ret_num R1.out, ?_⟩
      rw [R2.out]
      exact HH.out.next hB (HB2.out.trans (hb3.mono HB2.out.size))
    | true =>
      have HG := Lib.hid (show goodV ⟨v, m, u⟩ = 0 by rw [goodV_eq, if_neg (by rw [hv]; decide), if_neg (by rw [hp]; decide)])
      have HV := Lib.hid hv
      have HP := Lib.hid hp
      have HB2 := Lib.hid hb
      have HH := Lib.hid h
      clear hv hb h hp
      go_enter Tryd.func25, Tryd.ntmps25
      go_upto_region 7 with (first
        | (go_at_call 44; refine (goodVid_any v _).mono ?_; rintro e w' ⟨rfl, rfl⟩; rw [HV.out])
        | (go_at_call 45; refine (goodPorts_any ⟨v, m, u⟩ _).mono ?_; rintro e w1 ⟨rfl, hb3⟩; rw [HP.out]))
      have HB3 := Lib.hid (HB2.out.trans (hb3.mono HB2.out.size))
      have hg0 : Blk (w.alloc (.cells (vlA ⟨v, m, u⟩) 73)) w.heap.size (vlA ⟨v, m, u⟩) 73 := Blk.new _ _ _
      have HG1 := Lib.hid (hg0.below hb3 hg0.lt)
      clear hb3 hg0
      obtain ⟨g, hg⟩ : ∃ g, w.heap.size = g := ⟨_, rfl⟩
      rw [hg] at HG1 ⊢
      have HGS := Lib.hid hg
      have H1 := Lib.hid ((HH.out.next hB HB3.out).1)
      obtain ⟨mb, L0, h1, h2, h3, h40, h50, h6⟩ := HH.out
      have H4W0 := Lib.hid h40
      have h4 : Blk w1 b #[.map (some mb)] 111 := h40.below HB3.out h40.lt
      have h5 := h50.next HB3.out
      clear h40 h50
      have HS1 := Lib.hid HB3.out.size
      have H4 := Lib.hid h4
      have H5 := Lib.hid h5
      clear h4 h5
      obtain ⟨th, old, hold, hget⟩ : ∃ (th : Bool) (old : Array Value), ((Instr.lookup 109 (.map (some mb)) (.int .u16 (v : Nat)) true).run Tryd.prog w1 = .ok (.tuple #[.agg old, .bool th]) w1 ∧ old.size = 3 ∧ old.all (·.oneCell') = true ∧ ∀ w2, Below w1.heap.size w1 w2 → (Instr.lookup 109 (.map (some mb)) (.int .u16 (v : Nat)) true).run Tryd.prog w2 = .ok (.tuple #[.agg old, .bool th]) w2) ∧ th = decide (0 ≤ atV v l) := by
        rcases h6.get v with ⟨g1, g2⟩ | ⟨k, x, g1, g2, g3, g4⟩
        · exact ⟨false, vlNilA, ⟨H5.out.look_no v g2, rfl, by simp [Value.oneCell'], fun w2 hb => (H5.out.next hb).look_no v g2⟩, by rw [g1]; rfl⟩
        · exact ⟨true, vlA x, ⟨H5.out.look_yes v x g4 _ rfl, rfl, vl_one x, fun w2 hb => (H5.out.next hb).look_yes v x g4 _ rfl⟩, by rw [g1, eq_comm, decide_eq_true_eq]; omega⟩
      obtain ⟨-, hoz, ho1, hlk⟩ := hold
      have HC1 := Lib.hid (show ∀ w2, Below w1.heap.size w1 w2 → w2.cell? ⟨b, 0, none⟩ = some (.map (some mb)) from fun w2 hb => by rw [(H4.out.below hb H4.out.lt).cell]; rfl)
      have HC2 := Lib.hid (show ∀ w2, Below w1.heap.size w1 w2 → w2.cell? ⟨g, 0, none⟩ = some (.int .u16 (v : Nat)) from fun w2 hb => by rw [(HG1.out.below hb HG1.out.lt).cell]; rfl)
      have HC3 := Lib.hid hlk
      have HOZ := Lib.hid hoz
      have HO1 := Lib.hid ho1
      have HZ48 := Lib.hid (show (Tryd.prog.info? 73).map (·.size) = some old.size by rw [hoz]; exact vinfo48)
      have HTH := Lib.hid hget
      clear hlk hoz ho1 hget hg
      refine wp_region_inv (I := St7I b g mb v m u old th w1) (by kernel_rfl) (by kernel_rfl) ⟨undef, undef, undef, undef, undef, undef, undef, undef, undef, undef, undef, undef, rfl, ⟨(fun h => Bool.noConfusion h), (fun h => Bool.noConfusion h), (fun h => Bool.noConfusion h), (fun h => Bool.noConfusion h), (fun h => Bool.noConfusion h), (fun h => Bool.noConfusion h), (fun h => Bool.noConfusion h), (fun h => Bool.noConfusion h), (fun h => Bool.noConfusion h), (fun h => Bool.noConfusion h), (fun h => Bool.noConfusion h)⟩, ⟨(Below.refl _ _).drew, fun h => Bool.noConfusion h⟩⟩ ?_ ?_
      · intro i hi L a w' hI hL haft
        obtain ⟨v5, v6, v19, v20, v21, v22, v23, v24, v25, v26, v27, v28, rfl, hs, hw⟩ := hI
        match i, hi with
        | 0, _ =>
          exact i_val rfl (.pointer (some ⟨b, 0, none⟩)) w' (by rfl) (by go_simp) ⟨v5, v6, v19, (.pointer (some ⟨b, 0, none⟩)), v21, v22, v23, v24, v25, v26, v27, v28, rfl, { hs with e20 := fun _ => rfl }, hw⟩
        | 1, _ =>
          have e20x := hs.e20 (haft 0 (by decide))
          subst e20x
          exact i_val rfl (.pointer (some ⟨b, 0, none⟩)) w' (by rfl) (by go_simp) ⟨v5, v6, v19, (.pointer (some ⟨b, 0, none⟩)), (.pointer (some ⟨b, 0, none⟩)), v22, v23, v24, v25, v26, v27, v28, rfl, { hs with e21 := fun _ => rfl }, hw⟩
        | 2, _ =>
          have e21x := hs.e21 (haft 1 (by decide))
          subst e21x
          exact i_val rfl (.pointer (some ⟨b, 0, none⟩)) w' (by rfl) (by go_simp) ⟨v5, v6, v19, v20, (.pointer (some ⟨b, 0, none⟩)), (.pointer (some ⟨b, 0, none⟩)), v23, v24, v25, v26, v27, v28, rfl, { hs with e22 := fun _ => rfl }, hw⟩
        | 3, _ =>
          have e22x := hs.e22 (haft 2 (by decide))
          subst e22x
          have hc := HC1.out w' hw.below
          exact i_val rfl (.map (some mb)) w' (by rfl) (by go_simp) ⟨v5, v6, v19, v20, v21, (.pointer (some ⟨b, 0, none⟩)), (.map (some mb)), v24, v25, v26, v27, v28, rfl, { hs with e23 := fun _ => rfl }, hw⟩
        | 4, _ =>
          exact i_val rfl (.pointer (some ⟨g, 0, none⟩)) w' (by rfl) (by go_simp) ⟨v5, v6, v19, v20, v21, v22, v23, (.pointer (some ⟨g, 0, none⟩)), v25, v26, v27, v28, rfl, { hs with e24 := fun _ => rfl }, hw⟩
        | 5, _ =>
          have e24x := hs.e24 (haft 4 (by decide))
          subst e24x
          have hc := HC2.out w' hw.below
          exact i_val rfl (.int .u16 (v : Nat)) w' (by rfl) (by go_simp) ⟨v5, v6, v19, v20, v21, v22, v23, (.pointer (some ⟨g, 0, none⟩)), (.int .u16 (v : Nat)), v26, v27, v28, rfl, { hs with e25 := fun _ => rfl }, hw⟩
        | 6, _ =>
          have e23x := hs.e23 (haft 3 (by decide))
          subst e23x
          have e25x := hs.e25 (haft 5 (by decide))
          subst e25x
          have hc := HC3.out w' hw.below
          exact i_val rfl (.tuple #[.agg old, .bool th]) w' (by rfl) (by go_simp) ⟨v5, v6, v19, v20, v21, v22, (.map (some mb)), v24, (.int .u16 (v : Nat)), (.tuple #[.agg old, .bool th]), v27, v28, rfl, { hs with e26 := fun _ => rfl }, hw⟩
        | 7, _ =>
          have e26x := hs.e26 (haft 6 (by decide))
          subst e26x
          exact i_val rfl (.tuple #[.agg old, .bool th]) w' (by rfl) (by go_simp) ⟨v5, v6, (.tuple #[.agg old, .bool th]), v20, v21, v22, v23, v24, v25, (.tuple #[.agg old, .bool th]), v27, v28, rfl, { hs with e19 := fun _ => rfl }, hw⟩
        | 8, _ =>
          have e19x := hs.e19 (haft 7 (by decide))
          subst e19x
          exact i_val rfl (.agg old) w' (by rfl) (by go_simp) ⟨v5, v6, (.tuple #[.agg old, .bool th]), v20, v21, v22, v23, v24, v25, v26, (.agg old), v28, rfl, { hs with e27 := fun _ => rfl }, hw⟩
        | 9, _ =>
          have e19x := hs.e19 (haft 7 (by decide))
          subst e19x
          exact i_val rfl (.bool th) w' (by rfl) (by go_simp) ⟨v5, v6, (.tuple #[.agg old, .bool th]), v20, v21, v22, v23, v24, v25, v26, v27, (.bool th), rfl, { hs with e28 := fun _ => rfl }, hw⟩
        | 10, _ =>
          have hz := zero48 w'
          exact i_val rfl (.pointer (some ⟨w'.heap.size, 0, none⟩)) (w'.alloc (.cells vlNilA 73)) (by rfl) (by go_simp) ⟨(.pointer (some ⟨w'.heap.size, 0, none⟩)), v6, v19, v20, v21, v22, v23, v24, v25, v26, v27, v28, rfl, { hs with }, hw.make⟩
        | 11, _ =>
          have e27x := hs.e27 (haft 8 (by decide))
          subst e27x
          obtain ⟨c, arr, rfl, hc0, hcz, hk⟩ := hw.ptr (haft 10 (by decide))
          exact i_wp rfl (by rfl) (wp_store_row 73 _ _ rfl c old rfl rfl 73 arr (hk.at 0 rfl) HZ48.out (hcz.trans HOZ.out.symm) HO1.out ⟨(.pointer (some ⟨c, 0, none⟩)), v6, v19, v20, v21, v22, v23, v24, v25, v26, (.agg old), v28, rfl, { hs with }, hw.put hc0 hk HOZ.out⟩)
        | 12, _ =>
          have e28x := hs.e28 (haft 9 (by decide))
          subst e28x
          exact i_val rfl (.bool th) w' (by rfl) (by go_simp) ⟨v5, (.bool th), v19, v20, v21, v22, v23, v24, v25, v26, v27, (.bool th), rfl, { hs with e6 := fun _ => rfl }, hw⟩
        | k + 13, h =>
          exfalso
          have h2 : k + 13 < 13 := h
          omega
      intro L a w3 hI hall
      obtain ⟨v5, v6, v19, v20, v21, v22, v23, v24, v25, v26, v27, v28, rfl, hs, hw⟩ := hI
      have e6 := hs.e6 (hall 12 (by decide))
      subst e6
      have HB4 := Lib.hid hw.below
      clear hs hw hall
      have hlen : (Builtin.len_ #[109] 3 #[.map (some mb)]).run Tryd.prog w3 = .ok (.int .i64 (L0.length : Nat)) w3 := (H5.out.next HB4.out).len Tryd.underlying109 3
      have H4W := Lib.hid (show Blk w b #[.map (some mb)] 111 from H4W0.out)
      have hc3 := HC1.out w3 HB4.out
      cases th with
      | true =>
        have hat : 0 ≤ atV v l := of_decide_eq_true HTH.out.symm
        have HROOM := Lib.hid (show 0 ≤ atV v l ∨ l.length < 16 from .inl hat)
        have R1 := Lib.hid (show (0 : Int) = setVE l ⟨v, m, u⟩ by unfold setVE; rw [HG.out, if_neg (by simp), if_pos hat])
        clear hat
        go_upto_region 10 with fail
        have HD1 := Lib.hid (show ∀ w2, Below w3.heap.size w3 w2 → w2.cell? ⟨b, 0, none⟩ = some (.map (some mb)) from fun w2 hb => HC1.out w2 (HB4.out.trans (hb.mono HB4.out.size)))
        have HD2 := Lib.hid (show ∀ w2, Below w3.heap.size w3 w2 → w2.cell? ⟨g, 0, none⟩ = some (.int .u16 (v : Nat)) from fun w2 hb => HC2.out w2 (HB4.out.trans (hb.mono HB4.out.size)))
        have HD3 := Lib.hid (show ∀ w2, Below w3.heap.size w3 w2 → w2.cell? ⟨g, 1, none⟩ = some (.int .u32 (m : Nat)) from fun w2 hb => by rw [(HG1.out.below (HB4.out.trans (hb.mono HB4.out.size)) HG1.out.lt).cell]; rfl)
        have HD4 := Lib.hid (show ∀ w2, Below w3.heap.size w3 w2 → w2.cell? ⟨g, 2, none⟩ = some (.int .u32 (u : Nat)) from fun w2 hb => by rw [(HG1.out.below (HB4.out.trans (hb.mono HB4.out.size)) HG1.out.lt).cell]; rfl)
        have HD5 := Lib.hid (show ∀ w2, Below w3.heap.size w3 w2 → ∃ o, (Instr.mapUpdate 109 (.map (some mb)) (.int .u16 (v : Nat)) (vlV ⟨v, m, u⟩)).run Tryd.prog w2 = .ok () (setBlock w2 mb o) ∧ Tb (setBlock w2 mb o) mb kv16 vlV (putL v ⟨v, m, u⟩ L0) from fun w2 hb => (H5.out.next (HB4.out.trans (hb.mono HB4.out.size))).put keys16 Tryd.underlying109 v ⟨v, m, u⟩ trivial (fun _ _ => trivial))
        refine wp_region_inv (I := St10I b g mb v m u true _ _ _ _ _ _ _ _ _ _ _ _ _ _ _ _ _ _ _ _ _ w3 L0) (by kernel_rfl) (by kernel_rfl) ⟨undef, undef, undef, undef, undef, undef, undef, rfl, ⟨(fun h => Bool.noConfusion h), (fun h => Bool.noConfusion h), (fun h => Bool.noConfusion h), (fun h => Bool.noConfusion h), (fun h => Bool.noConfusion h), (fun h => Bool.noConfusion h), (fun h => Bool.noConfusion h)⟩, ⟨fun _ => (Below.refl _ _).drew, fun h => Bool.noConfusion h, fun h => Bool.noConfusion h⟩⟩ ?_ ?_
        · intro i hi L a w' hI hL haft
          obtain ⟨v39, v40, v41, v42, v43, v44, v45, rfl, hs, hw⟩ := hI
          match i, hi with
          | 0, _ =>
            exact i_val rfl (.pointer (some ⟨b, 0, none⟩)) w' (by rfl) (by go_simp) ⟨(.pointer (some ⟨b, 0, none⟩)), v40, v41, v42, v43, v44, v45, rfl, { hs with e39 := fun _ => rfl }, (hw.step 0 (by decide) hL)⟩
          | 1, _ =>
            have e39x := hs.e39 (haft 0 (by decide))
            subst e39x
            exact i_val rfl (.pointer (some ⟨b, 0, none⟩)) w' (by rfl) (by go_simp) ⟨(.pointer (some ⟨b, 0, none⟩)), (.pointer (some ⟨b, 0, none⟩)), v41, v42, v43, v44, v45, rfl, { hs with e40 := fun _ => rfl }, (hw.step 1 (by decide) hL)⟩
          | 2, _ =>
            have e40x := hs.e40 (haft 1 (by decide))
            subst e40x
            exact i_val rfl (.pointer (some ⟨b, 0, none⟩)) w' (by rfl) (by go_simp) ⟨v39, (.pointer (some ⟨b, 0, none⟩)), (.pointer (some ⟨b, 0, none⟩)), v42, v43, v44, v45, rfl, { hs with e41 := fun _ => rfl }, (hw.step 2 (by decide) hL)⟩
          | 3, _ =>
            have e41x := hs.e41 (haft 2 (by decide))
            subst e41x
            have hb := hw.bef (hw.no 3 (by decide) hL)
            have hc := HD1.out w' hb
            exact i_val rfl (.map (some mb)) w' (by rfl) (by go_simp) ⟨v39, v40, (.pointer (some ⟨b, 0, none⟩)), (.map (some mb)), v43, v44, v45, rfl, { hs with e42 := fun _ => rfl }, (hw.step 3 (by decide) hL)⟩
          | 4, _ =>
            exact i_val rfl (.pointer (some ⟨g, 0, none⟩)) w' (by rfl) (by go_simp) ⟨v39, v40, v41, v42, (.pointer (some ⟨g, 0, none⟩)), v44, v45, rfl, { hs with e43 := fun _ => rfl }, (hw.step 4 (by decide) hL)⟩
          | 5, _ =>
            have e43x := hs.e43 (haft 4 (by decide))
            subst e43x
            have hb := hw.bef (hw.no 5 (by decide) hL)
            have hc := HD2.out w' hb
            exact i_val rfl (.int .u16 (v : Nat)) w' (by rfl) (by go_simp) ⟨v39, v40, v41, v42, (.pointer (some ⟨g, 0, none⟩)), (.int .u16 (v : Nat)), v45, rfl, { hs with e44 := fun _ => rfl }, (hw.step 5 (by decide) hL)⟩
          | 6, _ =>
            have hb := hw.bef (hw.no 6 (by decide) hL)
            have hc := HD2.out w' hb
            have hc3 := HD3.out w' hb
            have hc4 := HD4.out w' hb
            exact i_val rfl (.agg #[.int .u16 (v : Nat), .int .u32 (m : Nat), .int .u32 (u : Nat)]) w' (by rfl) (by go_simp) ⟨v39, v40, v41, v42, v43, v44, (.agg #[.int .u16 (v : Nat), .int .u32 (m : Nat), .int .u32 (u : Nat)]), rfl, { hs with e45 := fun _ => rfl }, (hw.step 6 (by decide) hL)⟩
          | 7, _ =>
            have e42x := hs.e42 (haft 3 (by decide))
            subst e42x
            have e44x := hs.e44 (haft 5 (by decide))
            subst e44x
            have e45x := hs.e45 (haft 6 (by decide))
            subst e45x
            have hb := hw.bef hL
            obtain ⟨o, hrun, ht⟩ := HD5.out w' hb
            exact i_wp rfl (by rfl) (wp_insert rfl rfl rfl rfl hrun ⟨v39, v40, v41, (.map (some mb)), v43, (.int .u16 (v : Nat)), (.agg #[.int .u16 (v : Nat), .int .u32 (m : Nat), .int .u32 (u : Nat)]), rfl, { hs with }, hw.put hL (fun i hi => haft i (by match i, hi with | 0, _ => decide | 1, _ => decide | 2, _ => decide | 3, _ => decide | 4, _ => decide | 5, _ => decide | 6, _ => decide | k + 7, h => (exfalso; have h2 : k + 7 < 7 := h; omega))) ht⟩)
          | k + 8, h =>
            exfalso
            have h2 : k + 8 < 8 := h
            omega
        intro L a w3 hI hall
        obtain ⟨v39, v40, v41, v42, v43, v44, v45, rfl, hs, hw⟩ := hI
        obtain ⟨w5, o, hb5, rfl, ht5⟩ := hw.aft (hall 7 (by decide))
        have HT5 := Lib.hid ht5
        have HB5 := Lib.hid hb5
        clear hw hs hall ht5 hb5
        go_wp2
        go_ret
        refine ⟨ret_num R1.out, ?_⟩
        exact TM.turned h1 h2 h3 H4W.out hB (HB3.out.trans ((HB4.out.trans (HB5.out.mono HB4.out.size)).mono HB3.out.size)) HT5.out (h6.put ⟨v, m, u⟩ HG.out HROOM.out)
      | false =>
        have hat : ¬ 0 ≤ atV v l := of_decide_eq_false HTH.out.symm
        by_cases hr : 16 ≤ l.length
        · have R1 := Lib.hid (show (13 : Int) = setVE l ⟨v, m, u⟩ by unfold setVE; rw [HG.out, if_neg (by simp), if_neg hat, if_pos hr])
          have R2 := Lib.hid (show setV l ⟨v, m, u⟩ = l by unfold setV; rw [if_neg (by rw [HG.out]; simp), if_neg hat, if_pos hr])
          have hr2 : decide ((16 : Int) ≤ (L0.length : Nat)) = true := by rw [h6.len, decide_eq_true_eq]; omega
          clear hat hr
          go_wp2
          go_ret
          refine ⟨ret_num R1.out, ?_⟩
          rw [R2.out]
          exact HH.out.next hB (HB3.out.trans (HB4.out.mono HB3.out.size))
        · have HROOM := Lib.hid (show 0 ≤ atV v l ∨ l.length < 16 from .inr (by omega))
          have R1 := Lib.hid (show (0 : Int) = setVE l ⟨v, m, u⟩ by unfold setVE; rw [HG.out, if_neg (by simp), if_neg hat, if_neg hr])
          have hr2 : decide ((16 : Int) ≤ (L0.length : Nat)) = false := by rw [h6.len, decide_eq_false_iff_not]; omega
          clear hat hr
          go_upto_region 10 with fail
          have HD1 := Lib.hid (show ∀ w2, Below w3.heap.size w3 w2 → w2.cell? ⟨b, 0, none⟩ = some (.map (some mb)) from fun w2 hb => HC1.out w2 (HB4.out.trans (hb.mono HB4.out.size)))
          have HD2 := Lib.hid (show ∀ w2, Below w3.heap.size w3 w2 → w2.cell? ⟨g, 0, none⟩ = some (.int .u16 (v : Nat)) from fun w2 hb => HC2.out w2 (HB4.out.trans (hb.mono HB4.out.size)))
          have HD3 := Lib.hid (show ∀ w2, Below w3.heap.size w3 w2 → w2.cell? ⟨g, 1, none⟩ = some (.int .u32 (m : Nat)) from fun w2 hb => by rw [(HG1.out.below (HB4.out.trans (hb.mono HB4.out.size)) HG1.out.lt).cell]; rfl)
          have HD4 := Lib.hid (show ∀ w2, Below w3.heap.size w3 w2 → w2.cell? ⟨g, 2, none⟩ = some (.int .u32 (u : Nat)) from fun w2 hb => by rw [(HG1.out.below (HB4.out.trans (hb.mono HB4.out.size)) HG1.out.lt).cell]; rfl)
          have HD5 := Lib.hid (show ∀ w2, Below w3.heap.size w3 w2 → ∃ o, (Instr.mapUpdate 109 (.map (some mb)) (.int .u16 (v : Nat)) (vlV ⟨v, m, u⟩)).run Tryd.prog w2 = .ok () (setBlock w2 mb o) ∧ Tb (setBlock w2 mb o) mb kv16 vlV (putL v ⟨v, m, u⟩ L0) from fun w2 hb => (H5.out.next (HB4.out.trans (hb.mono HB4.out.size))).put keys16 Tryd.underlying109 v ⟨v, m, u⟩ trivial (fun _ _ => trivial))
          refine wp_region_inv (I := St10I b g mb v m u false _ _ _ _ _ _ _ _ _ _ _ _ _ _ _ _ _ _ _ _ _ w3 L0) (by kernel_rfl) (by kernel_rfl) ⟨undef, undef, undef, undef, undef, undef, undef, rfl, ⟨(fun h => Bool.noConfusion h), (fun h => Bool.noConfusion h), (fun h => Bool.noConfusion h), (fun h => Bool.noConfusion h), (fun h => Bool.noConfusion h), (fun h => Bool.noConfusion h), (fun h => Bool.noConfusion h)⟩, ⟨fun _ => (Below.refl _ _).drew, fun h => Bool.noConfusion h, fun h => Bool.noConfusion h⟩⟩ ?_ ?_
          · intro i hi L a w' hI hL haft
            obtain ⟨v39, v40, v41, v42, v43, v44, v45, rfl, hs, hw⟩ := hI
            match i, hi with
            | 0, _ =>
              exact i_val rfl (.pointer (some ⟨b, 0, none⟩)) w' (by rfl) (by go_simp) ⟨(.pointer (some ⟨b, 0, none⟩)), v40, v41, v42, v43, v44, v45, rfl, { hs with e39 := fun _ => rfl }, (hw.step 0 (by decide) hL)⟩
            | 1, _ =>
              have e39x := hs.e39 (haft 0 (by decide))
              subst e39x
              exact i_val rfl (.pointer (some ⟨b, 0, none⟩)) w' (by rfl) (by go_simp) ⟨(.pointer (some ⟨b, 0, none⟩)), (.pointer (some ⟨b, 0, none⟩)), v41, v42, v43, v44, v45, rfl, { hs with e40 := fun _ => rfl }, (hw.step 1 (by decide) hL)⟩
            | 2, _ =>
              have e40x := hs.e40 (haft 1 (by decide))
              subst e40x
              exact i_val rfl (.pointer (some ⟨b, 0, none⟩)) w' (by rfl) (by go_simp) ⟨v39, (.pointer (some ⟨b, 0, none⟩)), (.pointer (some ⟨b, 0, none⟩)), v42, v43, v44, v45, rfl, { hs with e41 := fun _ => rfl }, (hw.step 2 (by decide) hL)⟩
            | 3, _ =>
              have e41x := hs.e41 (haft 2 (by decide))
              subst e41x
              have hb := hw.bef (hw.no 3 (by decide) hL)
              have hc := HD1.out w' hb
              exact i_val rfl (.map (some mb)) w' (by rfl) (by go_simp) ⟨v39, v40, (.pointer (some ⟨b, 0, none⟩)), (.map (some mb)), v43, v44, v45, rfl, { hs with e42 := fun _ => rfl }, (hw.step 3 (by decide) hL)⟩
            | 4, _ =>
              exact i_val rfl (.pointer (some ⟨g, 0, none⟩)) w' (by rfl) (by go_simp) ⟨v39, v40, v41, v42, (.pointer (some ⟨g, 0, none⟩)), v44, v45, rfl, { hs with e43 := fun _ => rfl }, (hw.step 4 (by decide) hL)⟩
            | 5, _ =>
              have e43x := hs.e43 (haft 4 (by decide))
              subst e43x
              have hb := hw.bef (hw.no 5 (by decide) hL)
              have hc := HD2.out w' hb
              exact i_val rfl (.int .u16 (v : Nat)) w' (by rfl) (by go_simp) ⟨v39, v40, v41, v42, (.pointer (some ⟨g, 0, none⟩)), (.int .u16 (v : Nat)), v45, rfl, { hs with e44 := fun _ => rfl }, (hw.step 5 (by decide) hL)⟩
            | 6, _ =>
              have hb := hw.bef (hw.no 6 (by decide) hL)
              have hc := HD2.out w' hb
              have hc3 := HD3.out w' hb
              have hc4 := HD4.out w' hb
              exact i_val rfl (.agg #[.int .u16 (v : Nat), .int .u32 (m : Nat), .int .u32 (u : Nat)]) w' (by rfl) (by go_simp) ⟨v39, v40, v41, v42, v43, v44, (.agg #[.int .u16 (v : Nat), .int .u32 (m : Nat), .int .u32 (u : Nat)]), rfl, { hs with e45 := fun _ => rfl }, (hw.step 6 (by decide) hL)⟩
            | 7, _ =>
              have e42x := hs.e42 (haft 3 (by decide))
              subst e42x
              have e44x := hs.e44 (haft 5 (by decide))
              subst e44x
              have e45x := hs.e45 (haft 6 (by decide))
              subst e45x
              have hb := hw.bef hL
              obtain ⟨o, hrun, ht⟩ := HD5.out w' hb
              exact i_wp rfl (by rfl) (wp_insert rfl rfl rfl rfl hrun ⟨v39, v40, v41, (.map (some mb)), v43, (.int .u16 (v : Nat)), (.agg #[.int .u16 (v : Nat), .int .u32 (m : Nat), .int .u32 (u : Nat)]), rfl, { hs with }, hw.put hL (fun i hi => haft i (by match i, hi with | 0, _ => decide | 1, _ => decide | 2, _ => decide | 3, _ => decide | 4, _ => decide | 5, _ => decide | 6, _ => decide | k + 7, h => (exfalso; have h2 : k + 7 < 7 := h; omega))) ht⟩)
            | k + 8, h =>
              exfalso
              have h2 : k + 8 < 8 := h
              omega
          intro L a w3 hI hall
          obtain ⟨v39, v40, v41, v42, v43, v44, v45, rfl, hs, hw⟩ := hI
          obtain ⟨w5, o, hb5, rfl, ht5⟩ := hw.aft (hall 7 (by decide))
          have HT5 := Lib.hid ht5
          have HB5 := Lib.hid hb5
          clear hw hs hall ht5 hb5
          go_wp2
          go_ret
          refine ⟨ret_num R1.out, ?_⟩
          exact TM.turned h1 h2 h3 H4W.out hB (HB3.out.trans ((HB4.out.trans (HB5.out.mono HB4.out.size)).mono HB3.out.size)) HT5.out (h6.put ⟨v, m, u⟩ HG.out HROOM.out)
end
end Go.Proofs.YtelohoomlgjjmaaDoor
