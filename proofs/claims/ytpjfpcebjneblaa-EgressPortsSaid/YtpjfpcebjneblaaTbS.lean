/- The developers' table: a map of its entries. -/
import Derived.Test.YtpjfpcebjneblaaRelK
import Derived.Test.YtpjfpcebjneblaaKx
import Derived.Test.YtpjfpcebjneblaaS10
import Derived.Test.YtpjfpcebjneblaaKept
import Derived.Test.YtpjfpcebjneblaaBks
namespace Go.Proofs.Ytpjfpcebjneblaa
open Go.RowKit
open Go.ChangeMaps (setBlock)
set_option linter.unusedSimpArgs false
set_option linter.unusedVariables false

/-- What the map holds for a key. -/
def vvS (x : Se) : Value := .int .u32 (x.prt : Nat)
/-- The developers' table: a block with a map of these entries. -/
def TS (w : World) (b A B : Nat) (l : List Se) : Prop :=
  ∃ (mb : Nat) (L : List (Nat × Se)), (A ≤ b ∧ b < B) ∧ (A ≤ mb ∧ mb < B) ∧ b ≠ mb ∧ Blk w b #[.map (some mb)] 99 ∧ Tb w mb kvK vvS L ∧ RelK seK L l ∧ (∀ x ∈ l, seOk x)
theorem TS.keep {w w' : World} {b A B : Nat} {l : List Se} (h : TS w b A B l) (hk : ∀ k, A ≤ k → k < B → w'.heap[k]? = w.heap[k]?) : TS w' b A B l := by
  obtain ⟨mb, L, h1, h2, h3, h4, h5, h6, h7⟩ := h
  exact ⟨mb, L, h1, h2, h3, (hk b h1.1 h1.2).trans h4, h5.same (hk mb h2.1 h2.2), h6, h7⟩
theorem TS.next {w w' : World} {b A B : Nat} {l : List Se} (h : TS w b A B l) (hB : B ≤ w.heap.size) (hb : Below w.heap.size w w') : TS w' b A B l ∧ KeptO A B w w' :=
  ⟨h.keep (fun k _ hk => hb.block k (by omega)), hb.os, hb.tape, hb.output, hb.size, fun k _ hk => hb.block k hk⟩
theorem TS.turned {w w2 : World} {b A B mb : Nat} {o : Obj} {L' : List (Nat × Se)} {l' : List Se} (h1 : A ≤ b ∧ b < B) (h2 : A ≤ mb ∧ mb < B) (h3 : b ≠ mb) (h4 : Blk w b #[.map (some mb)] 99) (hB : B ≤ w.heap.size)
    (hb : Below w.heap.size w w2) (h5 : Tb (setBlock w2 mb o) mb kvK vvS L') (h6 : RelK seK L' l') (h7 : ∀ x ∈ l', seOk x) : TS (setBlock w2 mb o) b A B l' ∧ KeptO A B w (setBlock w2 mb o) := by
  have hg := setBlock_grown w2 mb o
  refine ⟨⟨mb, L', h1, h2, h3, (h4.below hb (by omega)).grown hg (fun e => h3 (Option.some.inj e)), h5, h6, h7⟩, ?_⟩
  refine ⟨hg.os.trans hb.os, hg.tape.trans hb.tape, hg.output.trans hb.output, Nat.le_trans hb.size hg.size, fun k hk hk2 => ?_⟩
  exact (hg.block k (Nat.lt_of_lt_of_le hk2 hb.size) (fun e => by cases e; omega)).trans (hb.block k hk2)

end Go.Proofs.Ytpjfpcebjneblaa
