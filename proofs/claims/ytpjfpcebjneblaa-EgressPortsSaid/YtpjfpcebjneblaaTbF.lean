/- The developers' table: a map of its entries. -/
import Derived.Test.YtpjfpcebjneblaaRelK
import Derived.Test.YtpjfpcebjneblaaKx
import Derived.Test.YtpjfpcebjneblaaF9
import Derived.Test.YtpjfpcebjneblaaKept
import Derived.Test.YtpjfpcebjneblaaBks
namespace Go.Proofs.Ytpjfpcebjneblaa
open Go.RowKit
open Go.ChangeMaps (setBlock)
set_option linter.unusedSimpArgs false
set_option linter.unusedVariables false

/-- What the map holds for a key. -/
def vvE (x : En) : Value := enV x
/-- The developers' table: a block with a map of these entries. -/
def TF (w : World) (b A B : Nat) (mo li : Int) (l : List En) : Prop :=
  ∃ (mb : Nat) (L : List (Nat × En)), (A ≤ b ∧ b < B) ∧ (A ≤ mb ∧ mb < B) ∧ b ≠ mb ∧ Blk w b #[.int .i64 mo, .int .i64 li, .map (some mb)] 106 ∧ Tb w mb kvK vvE L ∧ RelK enK L l ∧ (∀ x ∈ l, enOk x)
theorem TF.keep {w w' : World} {b A B : Nat} {mo li : Int} {l : List En} (h : TF w b A B mo li l) (hk : ∀ k, A ≤ k → k < B → w'.heap[k]? = w.heap[k]?) : TF w' b A B mo li l := by
  obtain ⟨mb, L, h1, h2, h3, h4, h5, h6, h7⟩ := h
  exact ⟨mb, L, h1, h2, h3, (hk b h1.1 h1.2).trans h4, h5.same (hk mb h2.1 h2.2), h6, h7⟩
theorem TF.next {w w' : World} {b A B : Nat} {mo li : Int} {l : List En} (h : TF w b A B mo li l) (hB : B ≤ w.heap.size) (hb : Below w.heap.size w w') : TF w' b A B mo li l ∧ KeptO A B w w' :=
  ⟨h.keep (fun k _ hk => hb.block k (by omega)), hb.os, hb.tape, hb.output, hb.size, fun k _ hk => hb.block k hk⟩
theorem TF.turned {w w2 : World} {b A B mb : Nat} {mo li : Int} {o : Obj} {L' : List (Nat × En)} {l' : List En} (h1 : A ≤ b ∧ b < B) (h2 : A ≤ mb ∧ mb < B) (h3 : b ≠ mb) (h4 : Blk w b #[.int .i64 mo, .int .i64 li, .map (some mb)] 106) (hB : B ≤ w.heap.size)
    (hb : Below w.heap.size w w2) (h5 : Tb (setBlock w2 mb o) mb kvK vvE L') (h6 : RelK enK L' l') (h7 : ∀ x ∈ l', enOk x) : TF (setBlock w2 mb o) b A B mo li l' ∧ KeptO A B w (setBlock w2 mb o) := by
  have hg := setBlock_grown w2 mb o
  refine ⟨⟨mb, L', h1, h2, h3, (h4.below hb (by omega)).grown hg (fun e => h3 (Option.some.inj e)), h5, h6, h7⟩, ?_⟩
  refine ⟨hg.os.trans hb.os, hg.tape.trans hb.tape, hg.output.trans hb.output, Nat.le_trans hb.size hg.size, fun k hk hk2 => ?_⟩
  exact (hg.block k (Nat.lt_of_lt_of_le hk2 hb.size) (fun e => by cases e; omega)).trans (hb.block k hk2)

end Go.Proofs.Ytpjfpcebjneblaa
