/- The developers' table keeps the contract. -/
import Derived.Test.YtjipbdljljhijaaNil8
import Derived.Test.YtjipbdljljhijaaPlays
namespace Go.Proofs.Ytjipbdljljhijaa
open Go.RowKit

/-- The developers' table: at most sixteen VLANs. -/
def TT (w : World) (b A B : Nat) (l : List Vl) : Prop := TM w b A B l ∧ l.length ≤ 16

theorem tab_ok : TabOk TT where
  keep h hk := ⟨h.1.keep hk, h.2⟩
  new w := (new_tm w).mono fun e w' ⟨b, he, ht, hb⟩ => ⟨b, he, ⟨ht, by simp⟩, hb⟩
  set x h hAB hB := (set_tm x h.1 hAB hB).mono fun e w' ⟨he, ht, hk⟩ => ⟨he, ⟨ht, setV_few _ x h.2⟩, hk⟩
  drop vid h hAB hB := (drop_tm vid h.1 hAB hB).mono fun e w' ⟨he, ht, hk⟩ => ⟨he, ⟨ht, dropV_few _ vid h.2⟩, hk⟩
  get vid h := (get_tm vid h.1).mono fun e w' ⟨hb, hr⟩ => ⟨hb, hr⟩
  list h := (list_tm h.1 h.2).mono fun e w' ⟨v, he, hs, hb⟩ => by
    obtain ⟨A, c, hv, hr⟩ := src_rows vlC_len (by omega) hs
    exact ⟨A, c, by rw [he, hv], hr, hb⟩
  none0 := nil_get
  none1 := nil_set
  none2 := nil_drop
  none3 := nil_list
end Go.Proofs.Ytjipbdljljhijaa
