/- Are two rows of bytes the same? Bytes as strings. -/
import Derived.Test.YtlhncfjeleibmaaOwn
namespace Go.Proofs.Ytlhncfjeleibmaa
open Go.RowKit

def sameB (a b : List UInt8) : Bool := decide (a = b)
theorem sameB_true {a b : List UInt8} (h : a = b) : sameB a b = true := decide_eq_true h
theorem sameB_false {a b : List UInt8} (h : a ≠ b) : sameB a b = false := decide_eq_false h
end Go.Proofs.Ytlhncfjeleibmaa

namespace Go.Proofs.Ytlhncfjeleibmaa
open Go.RowKit

theorem conv_bytes {w : World} {B : Nat} {A : Option Addr} {n : Nat} {l : List UInt8} (c : Nat) (h : Bytes w B A n l) (hA : A = none → n = 0) :
    (convert 33 9 (.slice A n c)).run Try.prog w = .ok (.string ⟨l.toArray⟩) w := by
  obtain ⟨hl, hb⟩ := h
  rcases A with _ | ad
  · obtain rfl := hA rfl
    obtain rfl := List.eq_nil_of_length_eq_zero hl
    exact run_convert_bytes_nil w 33 5 Try.underlying33 Try.underlying5 0 c 9 Try.underlying9
  · subst hl
    refine run_convert_bytes_back w 33 9 5 ad c l Try.underlying33 Try.underlying5 Try.underlying9 fun j hj => ?_
    rcases hb with h0 | ⟨b, off, hA, _, hc⟩
    · omega
    · obtain rfl : ad = ⟨b, off, none⟩ := by injection hA
      have hadd : (⟨b, off, none⟩ : Addr).add j = ⟨b, off + j, none⟩ := by unfold Addr.add; split <;> simp_all
      rw [hadd, hc j hj, List.getD_eq_getElem?_getD, List.getElem?_eq_getElem hj]
      rfl

theorem same_beq (a b : List UInt8) : sameB a b = (a == b) := by
  by_cases h : a = b
  · rw [sameB_true h]; simp [h]
  · rw [sameB_false h]; simp [h]
end Go.Proofs.Ytlhncfjeleibmaa
