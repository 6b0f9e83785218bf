/- The document's example; a new reader. A writer of the program and one of the document, side by side. -/
import Derived.Test.YtcphapdjimeoaaaB05
import Derived.Test.YtcphapdjimeoaaaB07
namespace Go.Proofs.Ytcphapdjimeoaaa
open Go.RowKit

/-- A new writer. -/
theorem Wrt.new (w : World) : Wrt (w.alloc (.cells #[.slice none 0 0, .int .i64 0] 125)) w.heap.size w.heap.size none [] :=
  ⟨.slice none 0 0, [], ⟨Whole.new w _ _, OwnB.nil _ _, by simp [Value.ownBlock], Nat.le_refl _⟩, Bit.Packs.nil, rfl⟩

theorem Bit.packs_alive : Bit.Packs [164] [true, false, true, false, false, true] := by
  refine ⟨by decide, fun i hi => ?_⟩
  simp only [List.length_singleton] at hi
  rcases (by omega : i = 0 ∨ i = 1 ∨ i = 2 ∨ i = 3 ∨ i = 4 ∨ i = 5 ∨ i = 6 ∨ i = 7) with rfl | rfl | rfl | rfl | rfl | rfl | rfl | rfl <;> decide

end Go.Proofs.Ytcphapdjimeoaaa

namespace Go.Proofs.Ytcphapdjimeoaaa
open Go.RowKit

theorem RefW.new (w : World) : RefW (w.alloc (.cells #[.slice none 0 0] 93)) w.heap.size w.heap.size none [] :=
  ⟨.slice none 0 0, Whole.new w _ _, OwnB.nil _ _, by simp [Value.ownBlock], Nat.le_refl _, rfl⟩

/-- A writer of the program and one of the document: neither lies in the other. -/
def Both (w : World) (base g1 g2 : Nat) (ob1 ob2 : Option Nat) (B : List Bool) (R : List UInt8) : Prop :=
  Wrt w base g1 ob1 B ∧ RefW w base g2 ob2 R ∧ g1 ≠ g2 ∧ ob1 ≠ some g2 ∧ ob2 ≠ some g1 ∧ (ob1 = none ∨ ob1 ≠ ob2)
theorem NewOb.apart {w : World} {ob ob' o2 : Option Nat} (h : NewOb w ob ob') (h2 : ∀ k, o2 = some k → k < w.heap.size) (hn : ob = none ∨ ob ≠ o2) : ob' = none ∨ ob' ≠ o2 := by
  rcases h with rfl | ⟨n, rfl, hn'⟩
  · exact hn
  · right
    intro e
    have := h2 n e.symm
    omega
theorem ob_symm {a b : Option Nat} (h : a = none ∨ a ≠ b) : b = none ∨ b ≠ a := by
  rcases h with rfl | h
  · cases b <;> simp
  · exact .inr (fun e => h e.symm)
theorem Both.first {w w' : World} {base g1 g2 : Nat} {ob1 ob2 : Option Nat} {B B' : List Bool} {R : List UInt8} {err : Int} {e : Ending} (h : Both w base g1 g2 ob1 ob2 B R) (hp : Puts w base g1 ob1 B' err e w') :
    e = .returned (.int .i64 err) ∧ ∃ ob1', Both w' base g1 g2 ob1' ob2 B' R ∧ Below base w w' := by
  obtain ⟨hW, hR, hg, h12, h21, hob⟩ := h
  obtain ⟨he, ob1', hW', hN, hM⟩ := hp
  refine ⟨he, ob1', ⟨hW', hR.kept hM (Ne.symm hg) h12 h21 (ob_symm hob), hg, hN.ne hR.lt h12, h21, hN.apart (fun k hk => (hR.own k hk).2) hob⟩, hM.below hW.bound hW.le (fun k hk => (hW.ob k hk).1)⟩
theorem Both.second {w w' : World} {base g1 g2 : Nat} {ob1 ob2 : Option Nat} {B : List Bool} {R R' : List UInt8} {err : Int} {e : Ending} (h : Both w base g1 g2 ob1 ob2 B R) (hp : RefPuts w base g2 ob2 R' err e w') :
    e = .returned (.int .i64 err) ∧ ∃ ob2', Both w' base g1 g2 ob1 ob2' B R' ∧ Below base w w' := by
  obtain ⟨hW, hR, hg, h12, h21, hob⟩ := h
  obtain ⟨he, ob2', hR', hN, hM⟩ := hp
  refine ⟨he, ob2', ⟨hW.kept hM hg h21 h12 hob, hR', hg, h12, hN.ne hW.lt h21, ob_symm (hN.apart (fun k hk => (hW.ob k hk).2) (ob_symm hob))⟩, hM.below hW.bound hR.le (fun k hk => (hR.own k hk).1)⟩
theorem Both.start (w1 : World) {b : Nat} (hb : b ≤ w1.heap.size) :
    Both ((w1.alloc (.cells #[.slice none 0 0, .int .i64 0] 125)).alloc (.cells #[.slice none 0 0] 93)) b w1.heap.size (w1.heap.size + 1) none none [] [] := by
  have hz1 : (w1.alloc (.cells #[.slice none 0 0, .int .i64 0] 125)).heap.size = w1.heap.size + 1 := by simp
  have h1 := (Wrt.new w1).ext (extNew _ (.cells #[.slice none 0 0] 93))
  have h2 := RefW.new (w1.alloc (.cells #[.slice none 0 0, .int .i64 0] 125))
  rw [hz1] at h2
  obtain ⟨v1, l1, ⟨a1, a2, a3, a4⟩, a5, a6⟩ := h1
  obtain ⟨v2, b1, b2, b3, b4, b5⟩ := h2
  exact ⟨⟨v1, l1, ⟨a1, a2.mono hb, a3, hb⟩, a5, a6⟩, ⟨v2, b1, b2.mono (Nat.le_succ_of_le hb), b3, Nat.le_succ_of_le hb, b5⟩, by omega, by simp, by simp, .inl rfl⟩
theorem below_drewN {B : Nat} {a b : World} (h : Below B a b) (n : Nat) : Below B a (b.drewN n) := ⟨h.os, h.tape, h.output, h.size, h.block⟩
theorem map_app (B C : List Bool) : B.map bit8 ++ C.map bit8 = (B ++ C).map bit8 := by rw [List.map_append]

theorem RefW.cellLen {w : World} {base g : Nat} {ob : Option Nat} {B : List Bool} (h : RefW w base g ob (B.map bit8)) : ∃ A c, w.cell? ⟨g, 0, none⟩ = some (.slice A B.length c) := by
  obtain ⟨v, hW, hO, _⟩ := h
  obtain ⟨A, c, rfl, _⟩ := hO.form
  refine ⟨A, c, ?_⟩
  have := hW.at 0 rfl
  rwa [show (B.map bit8).length = B.length by simp] at this
theorem Both.drew {w : World} {base g1 g2 : Nat} {ob1 ob2 : Option Nat} {B : List Bool} {R : List UInt8} (h : Both w base g1 g2 ob1 ob2 B R) : Both w.drew base g1 g2 ob1 ob2 B R := h
theorem Both.drewN {w : World} {base g1 g2 : Nat} {ob1 ob2 : Option Nat} {B : List Bool} {R : List UInt8} (h : Both w base g1 g2 ob1 ob2 B R) (m : Nat) : Both (w.drewN m) base g1 g2 ob1 ob2 B R := h
end Go.Proofs.Ytcphapdjimeoaaa

