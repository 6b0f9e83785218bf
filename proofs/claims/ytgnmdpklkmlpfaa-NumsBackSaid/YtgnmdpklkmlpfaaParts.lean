/- Slices of slices of bytes. -/
import Derived.Test.YtgnmdpklkmlpfaaBase
namespace Go.Proofs.Ytgnmdpklkmlpfaa
open Go.RowKit

/-- A slice of slices that reads as these rows of bytes. -/
def Parts (w : World) (B : Nat) (A : Option Addr) (n : Nat) (ls : List (List UInt8)) : Prop :=
  ls.length = n ∧ (n = 0 ∨ ∃ b off, A = some ⟨b, off, none⟩ ∧ b < B ∧ ∀ i, i < n → ∃ A' n' c', w.cell? ⟨b, off + i, none⟩ = some (.slice A' n' c') ∧ n' ≤ maxLen ∧ Bytes w B A' n' (ls.getD i []))

end Go.Proofs.Ytgnmdpklkmlpfaa
