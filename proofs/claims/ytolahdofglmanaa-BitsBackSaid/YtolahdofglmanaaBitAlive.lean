/- The document's example; a new reader. -/
import Derived.Test.YtolahdofglmanaaBitWriter
import Derived.Test.YtolahdofglmanaaBitReader2
namespace Go.Proofs.Ytolahdofglmanaa
open Go.RowKit

theorem newReader_any (A : Option Addr) (n c : Nat) (l : List UInt8) (w : World) (hc : n ≤ c) (hn : n ≤ 1000000) (hb : Bytes w w.heap.size A n l) :
    Calls Try.prog 17 #[.slice A n c] w fun e w' => ∃ g, e = .returned (.pointer (some ⟨g, 0, none⟩)) ∧ Rdr w' w.heap.size g l 0 ∧ Ext w w' := by
  have hll := hb.1
  subst hll
  go_enter Try.func17, Try.ntmps17
  go_wp2_with (go_at_call 34; refine (rowOf_any A _ c l _ hc (by omega) hb).mono ?_; rintro e w2 ⟨A2, c2, rfl, hb2, hE2⟩)
  go_ret
  refine ⟨w2.heap.size, rfl, ⟨A2, c2, ?_, hb2.below (belowNew w2 _) (Nat.le_refl _), by omega, by omega, hE2.le⟩, hE2.alloc _⟩
  rw [← show (8 : Int) * (l.length : Int) = ((8 * l.length : Nat) : Int) by omega]
  exact Whole.new w2 _ _

/-- A new writer. -/
theorem Wrt.new (w : World) : Wrt (w.alloc (.cells #[.slice none 0 0, .int .i64 0] 28)) w.heap.size w.heap.size none [] :=
  ⟨.slice none 0 0, [], ⟨Whole.new w _ _, OwnB.nil _ _, by simp [Value.ownBlock], Nat.le_refl _⟩, Bit.Packs.nil, rfl⟩

theorem Bit.packs_alive : Bit.Packs [164] [true, false, true, false, false, true] := by
  refine ⟨by decide, fun i hi => ?_⟩
  simp only [List.length_singleton] at hi
  rcases (by omega : i = 0 ∨ i = 1 ∨ i = 2 ∨ i = 3 ∨ i = 4 ∨ i = 5 ∨ i = 6 ∨ i = 7) with rfl | rfl | rfl | rfl | rfl | rfl | rfl | rfl <;> decide

set_option maxHeartbeats 1000000 in
theorem alive2_any (w : World) : Calls Try.prog 8 #[] w fun e w' => e = .returned (.bool true) ∧ Ext w w' := by
  have HB1 := hide (show ([] : List Bool) ++ Bit.putBits 5 3 = [true, false, true] by decide)
  have HB2 := hide (show [true, false, true] ++ Bit.unaryBits 2 = [true, false, true, false, false, true] by decide)
  have hN := Wrt.new w
  go_enter Try.func8, Try.ntmps8
  go_wp2_with fail
  refine (put_any hN 5 3 (by simp)).mono ?_
  rintro e w2 ⟨rfl, ob2, hN2, hO2, hM2⟩
  rw [HB1.out] at hN2
  go_wp2_with fail
  refine (unary_any hN2 2 (by simp)).mono ?_
  rintro e w3 ⟨rfl, ob3, hN3, hO3, hM3⟩
  rw [HB2.out] at hN3
  go_wp2_with fail
  refine (wbytes_any hN3 (by simp)).mono ?_
  rintro e w4 ⟨l, hP, v4, rfl, hown4, hE4⟩
  obtain rfl := hP.uniq Bit.packs_alive
  obtain ⟨g4, c4, hv4, _, _⟩ := hown4.formG (by simp)
  simp only [List.length_singleton] at hv4
  subst hv4
  obtain ⟨hc4, _⟩ := hown4.cell (i := 0) (by simp)
  simp only [List.getD_cons_zero] at hc4
  go_wp2
  go_ret
  refine ⟨by rfl, ?_⟩
  have h1 : Mod (w.alloc (.cells #[.slice none 0 0, .int .i64 0] 28)) w4 w.heap.size none := (hM2.trans hM3 hO2).trans (Mod.ofExt hE4) (.inl rfl)
  exact (belowNew w _).trans (h1.below (by simp) (Nat.le_refl _) (fun k hk => by cases hk))
end Go.Proofs.Ytolahdofglmanaa
