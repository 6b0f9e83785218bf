/- A reader of the program and one of the document, side by side. -/
import Derived.Test.YtabhemmmefefgaaBitAlive
import Derived.Test.YtabhemmmefefgaaBitRefR2
import Derived.Test.YtabhemmmefefgaaBitRefR3
namespace Go.Proofs.Ytabhemmmefefgaa
open Go.RowKit

/-- A reader of the program and one of the document, of the same bytes. -/
def Pair (w : World) (base b2 g1 g2 : Nat) (l : List UInt8) (q1 q2 : Nat) : Prop := Rdr w base g1 l q1 ∧ RefR w b2 g2 l q2 ∧ g1 < b2 ∧ base ≤ b2
theorem Pair.first {w w' : World} {base b2 g1 g2 q1 q1' q2 : Nat} {l : List UInt8} (h : Pair w base b2 g1 g2 l q1 q2) (hR : Rdr w' base g1 l q1') (hM : Mod w w' g1 none) : Pair w' base b2 g1 g2 l q1' q2 ∧ Below base w w' := by
  obtain ⟨h1, h2, h3, h4⟩ := h
  have := h2.le
  exact ⟨⟨hR, h2.kept hM (by omega) h3, h3, h4⟩, hM.below (by have := h1.lt; have := h1.le; omega) h1.le (fun k hk => by cases hk)⟩
theorem Pair.second {w w' : World} {base b2 g1 g2 q1 q2 q2' : Nat} {l : List UInt8} (h : Pair w base b2 g1 g2 l q1 q2) (hR : RefR w' b2 g2 l q2') (hM : Mod w w' g2 none) : Pair w' base b2 g1 g2 l q1 q2' ∧ Below base w w' := by
  obtain ⟨h1, h2, h3, h4⟩ := h
  have hb : Below b2 w w' := hM.below (Nat.le_trans h2.le (Nat.le_of_lt h2.lt)) h2.le (fun k hk => by cases hk)
  exact ⟨⟨h1.below hb h3, hR, h3, h4⟩, Below.mono hb h4⟩
theorem Pair.quiet {w w' : World} {base b2 g1 g2 q1 q2 : Nat} {l : List UInt8} (h : Pair w base b2 g1 g2 l q1 q2) (hQ : Qt w w') : Pair w' base b2 g1 g2 l q1 q2 ∧ Below base w w' := by
  obtain ⟨h1, h2, h3, h4⟩ := h
  exact ⟨⟨h1.ext hQ.ext, h2.ext hQ.ext, h3, h4⟩, Below.mono hQ.ext (by have := h1.lt; have := h1.le; omega)⟩
end Go.Proofs.Ytabhemmmefefgaa
