/- A PDU's bytes: what bpdu.Encode makes of one. -/
import Derived.Test.YtkohnleeiajiiaaPduM
import Derived.Test.YtkohnleeiajiiaaPack
import Derived.Test.YtkohnleeiajiiaaBytes
import Derived.Deep.DeepCutAuto
namespace Go.Proofs.Ytkohnleeiajiiaa
open Go.RowKit
set_option linter.unusedSimpArgs false

theorem hadd (a b : ByteArray) (h : a.size + b.size ≤ 9223372036854775807) : ∀ W, (Op.stringOp .add a b).run Try.prog W = .ok (.string (a ++ b)) W := fun _ => run_string_add_sum _ _ _ h

/-- k bytes of a number. -/
def bS (x k : Nat) : ByteArray := ⟨(Nums.bytesN x k).toArray⟩
theorem bS_size (x k : Nat) : (bS x k).size = k := by show (Nums.bytesN x k).toArray.size = k; simp [Nums.bytesN_length]
theorem bytes_is (x k : Nat) (w : World) (h1 : 1 ≤ k) (h8 : k ≤ 8) : Calls Try.prog 27 #[.int .u64 x, .int .i64 k] w fun e w' => e = .returned (.string (bS x k)) ∧ Below w.heap.size w w' := bytes_yes x k w h1 h8

theorem app_size (a b : ByteArray) : (a ++ b).size = a.size + b.size := ByteArray.size_append

/-- The words behind the bridge. -/
def wd (p : Pd) : Nat → Nat
  | 0 => p.port
  | 1 => p.age
  | 2 => p.maxAge
  | 3 => p.hello
  | _ => p.delay
abbrev wA (p : Pd) : Array Value := #[.int .u16 (p.port : Nat), .int .u16 (p.age : Nat), .int .u16 (p.maxAge : Nat), .int .u16 (p.hello : Nat), .int .u16 (p.delay : Nat)]
theorem wA_at (p : Pd) (k : Nat) (hk : k < 5) : (wA p)[k]? = some (.int .u16 (wd p k : Nat)) := by
  match k, hk with
  | 0, _ => rfl
  | 1, _ => rfl
  | 2, _ => rfl
  | 3, _ => rfl
  | 4, _ => rfl
theorem wd_lt {p : Pd} (h : p.ok) (k : Nat) : wd p k < 65536 := by
  obtain ⟨-, -, -, -, -, h1, h2, h3, h4, h5⟩ := h
  unfold wd
  split <;> assumption

/-- The fields up to the bridge; and with k words. -/
def f4S (p : Pd) : ByteArray := ((bS (packN (flV p)) 1 ++ bS p.root 8) ++ bS p.cost 4) ++ bS p.bridge 8
def accS (p : Pd) : Nat → ByteArray
  | 0 => f4S p
  | k + 1 => accS p k ++ bS (wd p k) 2
theorem f4S_size (p : Pd) : (f4S p).size = 21 := by unfold f4S; simp only [app_size, bS_size]
theorem accS_size (p : Pd) (k : Nat) : (accS p k).size = 21 + 2 * k := by
  induction k with
  | zero => exact f4S_size p
  | succ k ih => show (accS p k ++ bS (wd p k) 2).size = _; rw [app_size, ih, bS_size]; omega

/-- The head. -/
def frontS : ByteArray := ⟨#[66, 66, 3, 0, 0]⟩
def hdS (p : Pd) : ByteArray := (frontS ++ bS (verN p.kind) 1) ++ bS p.kind 1
theorem hdS_size (p : Pd) : (hdS p).size = 7 := by unfold hdS; simp only [app_size, bS_size]; rfl

/-- Its bytes, if it may be. -/
def rawS (p : Pd) : ByteArray := if p.kind = 128 then hdS p else (hdS p ++ accS p 5) ++ endS p.kind
/-- What is answered. -/
def encP (p : Pd) : ByteArray := if goodP p = true then rawS p else ⟨#[]⟩
def encE (p : Pd) : Int := if goodP p = true then 0 else 8

theorem pd_of {p : Pd} {arr : Array Value} (h : arr = pdA p) (w : World) : Calls Try.prog 26 #[.agg arr] w fun e w' => e = .returned (.bool (goodP p)) ∧ Below w.heap.size w w' := by subst h; exact mayBe_any p w
theorem flags_of {p : Pd} {arr : Array Value} (h : arr = pdA p) (w : World) (hr : p.role < 256) : Calls Try.prog 44 #[.agg arr] w (MapRes w (flV p)) := by subst h; exact flags_any p w hr

set_option maxRecDepth 100000 in
set_option maxHeartbeats 4000000 in
theorem fields_any (p : Pd) (w : World) (hok : p.ok) : Calls Try.prog 29 #[pdV p] w fun e w' => e = .returned (.string (accS p 5)) ∧ Below w.heap.size w w' := by
  obtain ⟨arr, harr⟩ : ∃ arr, arr = pdA p := ⟨_, rfl⟩
  have a8 : arr[8]? = some (.int .u64 (p.root : Nat)) := by rw [harr]; rfl
  have a9 : arr[9]? = some (.int .u32 (p.cost : Nat)) := by rw [harr]; rfl
  have a10 : arr[10]? = some (.int .u64 (p.bridge : Nat)) := by rw [harr]; rfl
  have a11 : arr[11]? = some (.int .u16 (p.port : Nat)) := by rw [harr]; rfl
  have a12 : arr[12]? = some (.int .u16 (p.age : Nat)) := by rw [harr]; rfl
  have a13 : arr[13]? = some (.int .u16 (p.maxAge : Nat)) := by rw [harr]; rfl
  have a14 : arr[14]? = some (.int .u16 (p.hello : Nat)) := by rw [harr]; rfl
  have a15 : arr[15]? = some (.int .u16 (p.delay : Nat)) := by rw [harr]; rfl
  have hsz := Lib.hid (show (Try.prog.info? 31).map (·.size) = some arr.size by rw [harr]; exact size31)
  show Calls Try.prog 29 #[.agg (pdA p)] w _
  rw [← harr]
  have HA := Lib.hid harr
  clear harr
  have hb := (Below.refl w.heap.size w).alloc (Nat.le_refl _) (Obj.cells arr 31)
  have R := Lib.hid (Blk.new w arr 31)
  have HB := Lib.hid hb
  have hrole : p.role < 256 := hok.2.1
  have hcl : p.cost < 4294967296 := hok.2.2.2.1
  have OK := Lib.hid hok
  clear hb hok
  go_enter Try.func29, Try.ntmps29
  go_upto_region 1 with fail
  obtain ⟨w1, hw1⟩ : ∃ w1, w1 = w.alloc (Obj.cells arr 31) := ⟨_, rfl⟩
  rw [← hw1] at R HB ⊢
  clear hw1
  have hlt := R.out.lt
  have hle := HB.out.size
  generalize hg : w.heap.size = g at *
  have HG := Lib.hid hg
  clear hg
  obtain ⟨x, hx⟩ : ∃ x, x = packN (flV p) := ⟨_, rfl⟩
  have X := Lib.hid hx.symm
  clear hx
  obtain ⟨b1, hb1⟩ : ∃ b, b = bS x 1 := ⟨_, rfl⟩
  obtain ⟨b2, hb2⟩ : ∃ b, b = bS p.root 8 := ⟨_, rfl⟩
  obtain ⟨b3, hb3⟩ : ∃ b, b = bS p.cost 4 := ⟨_, rfl⟩
  obtain ⟨b4, hb4⟩ : ∃ b, b = bS p.bridge 8 := ⟨_, rfl⟩
  have z1 : b1.size = 1 := by rw [hb1, bS_size]
  have z2 : b2.size = 8 := by rw [hb2, bS_size]
  have z3 : b3.size = 4 := by rw [hb3, bS_size]
  have z4 : b4.size = 8 := by rw [hb4, bS_size]
  have add1 := hadd b1 b2 (by omega)
  have add2 := hadd (b1 ++ b2) b3 (by rw [app_size]; omega)
  have add3 := hadd ((b1 ++ b2) ++ b3) b4 (by rw [app_size, app_size]; omega)
  have F4 := Lib.hid (show ((b1 ++ b2) ++ b3) ++ b4 = accS p 0 by rw [hb1, hb2, hb3, hb4, ← X.out]; rfl)
  have B1 := Lib.hid hb1.symm
  have B2 := Lib.hid hb2.symm
  have B3 := Lib.hid hb3.symm
  have B4 := Lib.hid hb4.symm
  clear hb1 hb2 hb3 hb4 z1 z2 z3 z4
  go_wp2_with (first
    | (refine wpList_load_row rfl 31 _ rfl g rfl 31 _ (0, 0) _ R.out Try.underlying31 rfl hsz.out ?_))
  refine (flags_of HA.out _ hrole).mono ?_
  rintro e w2 ⟨b, rfl, -, hm, hb⟩
  have R2 := R.out.below hb hlt
  have Q2 := HB.out.trans (hb.mono hle)
  have L2 := R2.lt
  have M := Lib.hid hm
  clear hb hm R HB hle hlt
  go_wp2_with fail
  refine (pack_any b (flV p) _ M.out (flV_two p)).mono ?_
  rintro e w3 ⟨rfl, hb⟩
  rw [X.out]
  have R3 := R2.below hb L2
  have Q3 := Q2.trans (hb.mono (by have := Q2.size; omega))
  have L3 := R3.lt
  clear hb R2 Q2 L2 M
  go_wp2_with fail
  refine (bytes_is x 1 _ (by omega) (by omega)).mono ?_
  rintro e w4 ⟨rfl, hb⟩
  rw [B1.out]
  have R4 := R3.below hb L3
  have Q4 := Q3.trans (hb.mono (by have := Q3.size; omega))
  have L4 := R4.lt
  have c := R4.cell 8
  rw [a8] at c
  clear hb R3 Q3 L3 a8
  go_wp2_with fail
  refine (bytes_is p.root 8 _ (by omega) (by omega)).mono ?_
  rintro e w5 ⟨rfl, hb⟩
  rw [B2.out]
  have R5 := R4.below hb L4
  have Q5 := Q4.trans (hb.mono (by have := Q4.size; omega))
  have L5 := R5.lt
  have c := R5.cell 9
  rw [a9] at c
  clear hb R4 Q4 L4 a9
  go_wp2_with fail
  refine (bytes_is p.cost 4 _ (by omega) (by omega)).mono ?_
  rintro e w6 ⟨rfl, hb⟩
  rw [B3.out]
  have R6 := R5.below hb L5
  have Q6 := Q5.trans (hb.mono (by have := Q5.size; omega))
  have L6 := R6.lt
  have c := R6.cell 10
  rw [a10] at c
  clear hb R5 Q5 L5 a10
  go_wp2_with fail
  refine (bytes_is p.bridge 8 _ (by omega) (by omega)).mono ?_
  rintro e w7 ⟨rfl, hb⟩
  rw [B4.out]
  have R7 := R6.below hb L6
  have Q7 := Q6.trans (hb.mono (by have := Q6.size; omega))
  have L7 := R7.lt
  have c := R7.cell 11
  have c2 := R7.cell 12
  have c3 := R7.cell 13
  have c4 := R7.cell 14
  have c5 := R7.cell 15
  rw [a11] at c
  rw [a12] at c2
  rw [a13] at c3
  rw [a14] at c4
  rw [a15] at c5
  have hq := Q7.size
  have S := Lib.hid (Blk.new w7 (wA p) 24)
  have QA := Lib.hid (Q7.alloc (by omega) (Obj.cells (wA p) 24))
  clear hb R6 Q6 L6 a11 a12 a13 a14 a15
  go_wp2_with fail
  rw [F4.out]
  go_loopw [3, 38] (fun s3 i wr => ∃ k : Nat, k ≤ 5 ∧ i = .int .i64 k ∧ s3 = .string (accS p k) ∧ Blk wr w7.heap.size (wA p) 24 ∧ Below w.heap.size w wr) (fun _ i _ => 5 - (intOf i).toNat)
  case atStart => exact ⟨0, by omega, rfl, rfl, S.out, by rw [HG.out]; exact QA.out⟩
  case round =>
    obtain ⟨k, hk, rfl, rfl, hS, hW⟩ := hrel
    clear c c2 c3 c4 c5 add1 add2 add3
    by_cases hlt : k < 5
    · have hc := hS.cell k
      rw [wA_at p k hlt] at hc
      have hl := wd_lt OK.out k
      obtain ⟨y, hy⟩ : ∃ y, y = wd p k := ⟨_, rfl⟩
      rw [← hy] at hc hl
      obtain ⟨a, ha⟩ : ∃ a, a = accS p k := ⟨_, rfl⟩
      obtain ⟨d, hd⟩ : ∃ d, d = bS y 2 := ⟨_, rfl⟩
      have za : a.size = 21 + 2 * k := by rw [ha, accS_size]
      have zd : d.size = 2 := by rw [hd, bS_size]
      have add := hadd a d (by omega)
      have ST := Lib.hid (show a ++ d = accS p (k + 1) by rw [ha, hd, hy]; rfl)
      have D := Lib.hid hd.symm
      have A := Lib.hid ha.symm
      have WL := Lib.hid hW
      have SL := Lib.hid hS
      rw [A.out]
      clear hd ha za zd hy hS hW
      go_wp2_with (first
        | (go_at_call 27; refine (bytes_is y 2 _ (by omega) (by omega)).mono ?_; rintro e w8 ⟨rfl, hb⟩; rw [D.out]))
      go_roundw
      case rel => exact ⟨k + 1, by omega, by go_num, by rw [ST.out], SL.out.below hb SL.out.lt, WL.out.trans (hb.mono WL.out.size)⟩
      case measure => simp [intOf]; omega
    · have : k = 5 := by omega
      subst this
      go_wp2_with fail
      go_ret
      exact ⟨rfl, hW⟩
end Go.Proofs.Ytkohnleeiajiiaa
