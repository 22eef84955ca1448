/- What is shown is read again; and three addresses in memory. -/
import Derived.Test.YtegmhjdddcbanaaParse
import Derived.Test.YtegmhjdddcbanaaShow
import Derived.Test.YtegmhjdddcbanaaEq
namespace Go.Proofs.Ytegmhjdddcbanaa
open Go.RowKit

theorem hex_all : ∀ q : Fin 16, hexOk (digN q.val) = true ∧ hexV (digN q.val) = q.val := by decide
theorem hex_dig (q : Nat) (h : q < 16) : hexOk (digN q) = true ∧ hexV (digN q) = q := hex_all ⟨q, h⟩

def shownS (m : Nat → Nat) : ByteArray := ⟨(showT m 6).toArray⟩

theorem shown_size (m : Nat → Nat) : (shownS m).size = 17 := by
  show (showT m 6).toArray.size = 17
  simp [showT_len]

theorem shown_at (m : Nat → Nat) (k : Nat) (hk : k < 6) : atN (shownS m) (k * 3) = digN (m k / 16) ∧ atN (shownS m) (k * 3 + 1) = digN (m k % 16) ∧ (0 < k → atN (shownS m) (k * 3 - 1) = 58) := by
  have e : ∀ q, (UInt8.ofNat (digN q)).toNat = digN q := fun q => by have := digN_lt q; simp; omega
  match k, hk with
  | 0, _ => exact ⟨e _, e _, fun h => by omega⟩
  | 1, _ => exact ⟨e _, e _, fun _ => rfl⟩
  | 2, _ => exact ⟨e _, e _, fun _ => rfl⟩
  | 3, _ => exact ⟨e _, e _, fun _ => rfl⟩
  | 4, _ => exact ⟨e _, e _, fun _ => rfl⟩
  | 5, _ => exact ⟨e _, e _, fun _ => rfl⟩

theorem shown_back (m : Nat → Nat) (hm : Six m) : mac (parseV (shownS m)) = mac m ∧ parseE (shownS m) = 0 := by
  have hok : ∀ k, k < 6 → okAt (shownS m) k = true ∧ valAt (shownS m) k = m k := by
    intro k hk
    obtain ⟨h1, h2, h3⟩ := shown_at m k hk
    have hl := hm.at k hk
    obtain ⟨a1, a2⟩ := hex_dig (m k / 16) (by omega)
    obtain ⟨b1, b2⟩ := hex_dig (m k % 16) (by omega)
    refine ⟨?_, ?_⟩
    · unfold okAt
      rw [h1, h2, a1, b1]
      by_cases c : k = 0
      · simp [c]
      · simp [h3 (by omega)]
    · unfold valAt pairV
      rw [h1, h2, a2, b2]
      omega
  obtain ⟨e1, e2⟩ := parse_good (shownS m) (fun k hk => (hok k hk).1) (shown_size m)
  refine ⟨?_, e2⟩
  rw [← e1]
  apply mac_congr
  intro i hi
  unfold soFar
  rw [if_pos hi]
  exact (hok i hi).2

/-- Three blocks that hold the same address; and nothing that was there has changed. -/
structure Kp (w0 : World) (a b c : Nat) (m : Nat → Nat) (w : World) : Prop where
  ka : Blk w a (macA m) 22
  kb : Blk w b (macA m) 25
  kc : Blk w c (macA m) 25
  below : Below a w0 w

theorem Kp.next {w0 : World} {a b c : Nat} {m : Nat → Nat} {w w' : World} (h : Kp w0 a b c m w) (hb : Below w.heap.size w w') : Kp w0 a b c m w' :=
  ⟨h.ka.below hb h.ka.lt, h.kb.below hb h.kb.lt, h.kc.below hb h.kc.lt, h.below.trans (hb.mono (Nat.le_of_lt h.ka.lt))⟩

theorem Kp.drew {w0 : World} {a b c : Nat} {m : Nat → Nat} {w : World} (h : Kp w0 a b c m w) : Kp w0 a b c m w.drew :=
  ⟨h.ka.drew, h.kb.drew, h.kc.drew, h.below.drew⟩

theorem Kp.all {w0 : World} {a b c : Nat} {m : Nat → Nat} {w : World} (h : Kp w0 a b c m w) : w.cell? ⟨a, 0, none⟩ = some (.int .u8 (m 0 : Nat)) ∧ w.cell? ⟨a, 1, none⟩ = some (.int .u8 (m 1 : Nat)) ∧ w.cell? ⟨a, 2, none⟩ = some (.int .u8 (m 2 : Nat)) ∧ w.cell? ⟨a, 3, none⟩ = some (.int .u8 (m 3 : Nat)) ∧ w.cell? ⟨a, 4, none⟩ = some (.int .u8 (m 4 : Nat)) ∧ w.cell? ⟨a, 5, none⟩ = some (.int .u8 (m 5 : Nat)) ∧ w.cell? ⟨b, 0, none⟩ = some (.int .u8 (m 0 : Nat)) ∧ w.cell? ⟨b, 1, none⟩ = some (.int .u8 (m 1 : Nat)) ∧ w.cell? ⟨b, 2, none⟩ = some (.int .u8 (m 2 : Nat)) ∧ w.cell? ⟨b, 3, none⟩ = some (.int .u8 (m 3 : Nat)) ∧ w.cell? ⟨b, 4, none⟩ = some (.int .u8 (m 4 : Nat)) ∧ w.cell? ⟨b, 5, none⟩ = some (.int .u8 (m 5 : Nat)) ∧ w.cell? ⟨c, 0, none⟩ = some (.int .u8 (m 0 : Nat)) ∧ w.cell? ⟨c, 1, none⟩ = some (.int .u8 (m 1 : Nat)) ∧ w.cell? ⟨c, 2, none⟩ = some (.int .u8 (m 2 : Nat)) ∧ w.cell? ⟨c, 3, none⟩ = some (.int .u8 (m 3 : Nat)) ∧ w.cell? ⟨c, 4, none⟩ = some (.int .u8 (m 4 : Nat)) ∧ w.cell? ⟨c, 5, none⟩ = some (.int .u8 (m 5 : Nat)) ∧ Kp w0 a b c m w :=
  ⟨h.ka.cell 0, h.ka.cell 1, h.ka.cell 2, h.ka.cell 3, h.ka.cell 4, h.ka.cell 5, h.kb.cell 0, h.kb.cell 1, h.kb.cell 2, h.kb.cell 3, h.kb.cell 4, h.kb.cell 5, h.kc.cell 0, h.kc.cell 1, h.kc.cell 2, h.kc.cell 3, h.kc.cell 4, h.kc.cell 5, h⟩

end Go.Proofs.Ytegmhjdddcbanaa
