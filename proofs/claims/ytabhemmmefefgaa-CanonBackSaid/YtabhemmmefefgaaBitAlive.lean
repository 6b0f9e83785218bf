/- The document's example; a new reader. -/
import Derived.Test.YtabhemmmefefgaaBitWriter
import Derived.Test.YtabhemmmefefgaaBitReader2
namespace Go.Proofs.Ytabhemmmefefgaa
open Go.RowKit

theorem newReader_any (A : Option Addr) (n c : Nat) (l : List UInt8) (w : World) (hc : n ≤ c) (hn : n ≤ 1000000) (hb : Bytes w w.heap.size A n l) :
    Calls Try.prog 23 #[.slice A n c] w fun e w' => ∃ g, e = .returned (.pointer (some ⟨g, 0, none⟩)) ∧ Rdr w' w.heap.size g l 0 ∧ Ext w w' := by
  have hll := hb.1
  subst hll
  go_enter Try.func23, Try.ntmps23
  go_wp2_with (go_at_call 37; refine (rowOf_any A _ c l _ hc (by omega) hb).mono ?_; rintro e w2 ⟨A2, c2, rfl, hb2, hE2⟩)
  go_ret
  refine ⟨w2.heap.size, rfl, ⟨A2, c2, ?_, hb2.below (belowNew w2 _) (Nat.le_refl _), by omega, by omega, hE2.le⟩, hE2.alloc _⟩
  rw [← show (8 : Int) * (l.length : Int) = ((8 * l.length : Nat) : Int) by omega]
  exact Whole.new w2 _ _

/-- A new writer. -/
theorem Wrt.new (w : World) : Wrt (w.alloc (.cells #[.slice none 0 0, .int .i64 0] 35)) w.heap.size w.heap.size none [] :=
  ⟨.slice none 0 0, [], ⟨Whole.new w _ _, OwnB.nil _ _, by simp [Value.ownBlock], Nat.le_refl _⟩, Bit.Packs.nil, rfl⟩

theorem Bit.packs_alive : Bit.Packs [164] [true, false, true, false, false, true] := by
  refine ⟨by decide, fun i hi => ?_⟩
  simp only [List.length_singleton] at hi
  rcases (by omega : i = 0 ∨ i = 1 ∨ i = 2 ∨ i = 3 ∨ i = 4 ∨ i = 5 ∨ i = 6 ∨ i = 7) with rfl | rfl | rfl | rfl | rfl | rfl | rfl | rfl <;> decide

end Go.Proofs.Ytabhemmmefefgaa
