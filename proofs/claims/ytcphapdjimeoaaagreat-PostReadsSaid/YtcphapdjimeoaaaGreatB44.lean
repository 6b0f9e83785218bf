/- What the laws of chapter 16 ask of the program, of the landed package. -/
import Derived.Test.YtcphapdjimeoaaaGreatB33
import Derived.Test.YtcphapdjimeoaaaGreatB37
import Derived.Test.YtcphapdjimeoaaaGreatB42
import Derived.Test.YtcphapdjimeoaaaGreatB43
namespace Go.Proofs.YtcphapdjimeoaaaGreat
open Go.RowKit Num Wrd Dic

theorem dicLst_keep : DctKeep DicLst := fun h hE => dicLst_keep' h hE
theorem dWriteC_any (w : World) : DWriteC w := fun size l A n c W _ _ hnc hc hn hl h => dWrite_any size l A n c W hnc hc hn hl h
theorem dReadC_any (w : World) : DReadC DicLst w := fun size b A c W _ _ hc _ hl hB => by
  cases hs : sizeD size with
  | false =>
    have hs1 := of_decide_eq_false hs
    rw [show readE b size = ([], 0, 13) by unfold readE; rw [if_pos (by omega)]]
    exact (dReadSize_any size A b.length c W hs).mono fun _ _ ⟨h1, h2⟩ => ⟨h2, fun h => absurd h (by decide), fun _ => h1⟩
  | true =>
    have hs1 := of_decide_eq_true hs
    obtain ⟨sz, rfl⟩ : ∃ sz : Nat, size = (sz : Int) := ⟨size.toNat, by omega⟩
    rw [show readE b (sz : Int) = readR b sz by unfold readE; rw [if_neg (by omega), Int.toNat_natCast]]
    exact dReadGood_any sz b A c W (by omega) (by omega) hc (by omega) hB
theorem dLenC_any (w : World) : DLenC DicLst w := fun _ _ W _ ⟨_, _, _, _, _, _, h⟩ => (dLen_any h).mono fun _ _ ⟨h1, h2⟩ => ⟨h1, h2 ▸ Ext.refl W⟩
theorem dAtC_any (w : World) : DAtC DicLst w := fun _ i _ W _ _ ⟨_, _, _, _, _, _, h⟩ => (dAt_any h i).mono fun _ _ ⟨h1, h2⟩ => ⟨h1, h2 ▸ Ext.refl W⟩
theorem dAllC_any (w : World) : DAllC DicLst w := fun _ _ _ _ ⟨_, _, _, _, _, _, h⟩ => dAll_any h
end Go.Proofs.YtcphapdjimeoaaaGreat

