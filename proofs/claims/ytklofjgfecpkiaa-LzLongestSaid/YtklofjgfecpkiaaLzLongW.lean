/- LzLongest and LzRuns at the landed package: their walks. -/
import Derived.Test.YtklofjgfecpkiaaLzW
import Derived.Test.YtklofjgfecpkiaaLzLong
import Derived.Test.YtklofjgfecpkiaaLzRuns
namespace Go.Proofs.Ytklofjgfecpkiaa
open Go.RowKit Go.WideMaps Lz

theorem lzLongest_walk (A : Option Addr) (n c : Nat) (b : List UInt8) (wh di : Int) (w : World) (hn : n ≤ c) (hc : c ≤ maxLen) (hB : Bytes w w.heap.size A n b) (hw : (Lit.int .u16 wh).wf = true) (hd : (Lit.int .u16 di).wf = true) : Calls Try.prog 7 #[.slice A n c, .int .u16 wh, .int .u16 di] w fun e w' => e = .returned (.bool true) ∧ Below w.heap.size w w' := by
  obtain ⟨h0, h1⟩ := bounds_u16 hw
  obtain ⟨wh, rfl⟩ := Int.eq_ofNat_of_zero_le h0
  obtain ⟨g0, g1⟩ := bounds_u16 hd
  obtain ⟨di, rfl⟩ := Int.eq_ofNat_of_zero_le g0
  exact lzLongest_walk0 wh di A n c b w (lzFindC w) (by omega) (by omega) hn hc hB
theorem lzRuns_walk (c n : Int) (w : World) (hc : (Lit.int .u8 c).wf = true) (hn : (Lit.int .u16 n).wf = true) : Calls Try.prog 8 #[.int .u8 c, .int .u16 n] w fun e w' => e = .returned (.bool true) ∧ Below w.heap.size w w' := by
  obtain ⟨h0, h1⟩ := bounds_u8 hc
  obtain ⟨c, rfl⟩ := Int.eq_ofNat_of_zero_le h0
  obtain ⟨g0, g1⟩ := bounds_u16 hn
  obtain ⟨n, rfl⟩ := Int.eq_ofNat_of_zero_le g0
  have e8 : ((UInt8.ofNat c).toNat : Int) = (c : Int) := by rw [UInt8.toNat_ofNat']; omega
  rw [← e8]
  exact lzRuns_walk0 (UInt8.ofNat c) n w (lzFindC w) (by omega)
end Go.Proofs.Ytklofjgfecpkiaa
