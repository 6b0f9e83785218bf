/- A text cut at its top. -/
import Derived.Test.YtnkiopfpcddliaaTxtVal
namespace Go.Proofs.Ytnkiopfpcddliaa
open Go.RowKit

theorem run_txtTop (W : World) (l : List UInt8) (k : IntKind) (i : Int) (h0 : 0 ≤ i) (h1 : i ≤ l.length) : (Instr.slice 9 (.string ⟨l.toArray⟩) none (some (.int k i)) none).run Try.prog W = .ok (.string ⟨(l.take i.toNat).toArray⟩) W := by
  rw [run_slice_string_h (P := Try.prog) W 9 _ Try.underlying9 k i h0 (by rw [txt_size]; exact h1)]
  congr 2
  apply ByteArray.ext
  rw [ByteArray.data_extract]
  show l.toArray.extract 0 i.toNat = (l.take i.toNat).toArray
  rw [List.extract_toArray, List.extract_eq_take_drop]
  simp
end Go.Proofs.Ytnkiopfpcddliaa
