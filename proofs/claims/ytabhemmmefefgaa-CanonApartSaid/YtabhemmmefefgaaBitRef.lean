/- Contracts of the document's writer: Put, Unary. -/
import Derived.Test.YtabhemmmefefgaaBitWriter
import Derived.Deep.RegionLaw
namespace Go.Proofs.Ytabhemmmefefgaa
open Go.RowKit

def bit8 (b : Bool) : UInt8 := if b then 1 else 0
theorem bit8_int (b : Bool) : ((bit8 b).toNat : Int) = (b.toNat : Int) := by cases b <;> rfl
/-- Block g is the document's writer with these bytes; ob: the block that they lie in. -/
def RefW (w : World) (base g : Nat) (ob : Option Nat) (L : List UInt8) : Prop := ∃ v, Whole w g 37 #[v] ∧ OwnB w base v L ∧ v.ownBlock ≠ some g ∧ base ≤ g ∧ v.ownBlock = ob
def RefPuts (w : World) (base g : Nat) (ob : Option Nat) (L : List UInt8) (err : Int) (e : Ending) (w' : World) : Prop :=
  e = .returned (.int .i64 err) ∧ ∃ ob', RefW w' base g ob' L ∧ NewOb w ob ob' ∧ Mod w w' g ob
section
variable {w w' : World} {base g : Nat} {ob : Option Nat} {L : List UInt8}
theorem RefW.lt (h : RefW w base g ob L) : g < w.heap.size := by obtain ⟨v, h, _⟩ := h; exact h.lt
theorem RefW.le (h : RefW w base g ob L) : base ≤ g := by obtain ⟨v, _, _, _, h, _⟩ := h; exact h
theorem RefW.ne (h : RefW w base g ob L) : ob ≠ some g := by obtain ⟨v, _, _, h, _, rfl⟩ := h; exact h
theorem RefW.own (h : RefW w base g ob L) : ∀ k, ob = some k → base ≤ k ∧ k < w.heap.size := by obtain ⟨v, _, h, _, _, rfl⟩ := h; exact h.lt
theorem RefW.ext (h : RefW w base g ob L) (hE : Ext w w') : RefW w' base g ob L := by
  obtain ⟨v, hW, hO, r⟩ := h
  exact ⟨v, hW.ext hE, hO.ext hE, r⟩
theorem RefW.kept {g' : Nat} {ob' : Option Nat} (h : RefW w base g ob L) (hM : Mod w w' g' ob') (h1 : g ≠ g') (h2 : ob' ≠ some g) (h3 : ob ≠ some g') (h4 : ob = none ∨ ob ≠ ob') : RefW w' base g ob L := by
  obtain ⟨v, hW, hO, hne, hb, rfl⟩ := h
  exact ⟨v, hM.whole hW h1 h2, hM.own hO h3 h4, hne, hb, rfl⟩
end
/-- Behind 'w.Bits = append(w.Bits, x)', x laid in a block of its own first. -/
theorem RefW.put {w w1 w2 w3 : World} {base g : Nat} {v v2 : Value} {L : List UInt8} {x : UInt8} (hW : Whole w g 37 #[v]) (hne : v.ownBlock ≠ some g) (hb : base ≤ g) (hE : Ext w w1)
    (hO2 : OwnB w2 base v2 (L ++ [x])) (hG : w1.grownBy w2 v.ownBlock) (hN : NewOb w1 v.ownBlock v2.ownBlock) (hW3 : Whole w3 g 37 #[v2]) (hG3 : w2.grownBy w3 (some g)) :
    ∃ ob', RefW w3 base g ob' (L ++ [x]) ∧ NewOb w v.ownBlock ob' ∧ Mod w w3 g v.ownBlock := by
  have hne2 : v2.ownBlock ≠ some g := hN.ne (Nat.lt_of_lt_of_le hW.lt hE.le) hne
  refine ⟨v2.ownBlock, ⟨v2, hW3, (Mod.ofRow (ob := none) hG3).own hO2 hne2 (by cases v2.ownBlock <;> simp), hne2, hb, rfl⟩, (NewOb.same w _).trans hE.le hN, ?_⟩
  exact ((Mod.ofExt hE).trans (Mod.ofOwn hG) (.inl rfl)).trans (Mod.ofRow (ob := v.ownBlock) hG3) (.inl rfl)

end Go.Proofs.Ytabhemmmefefgaa
