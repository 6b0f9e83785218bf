/- What a slice of calls (Op) that came in reads as. -/
import Derived.Test.YtcphapdjimeoaaaGreatB08
import Derived.Deep.Slices
import Derived.Deep.Strs
namespace Go.Proofs.YtcphapdjimeoaaaGreat
open Go.ChangeShapes Go.WideShapes Go.ChangeAt Go.WideMaps Go.WideElems Go.RowKit

theorem addr_add' (b off i : Nat) : (⟨b, off, none⟩ : Addr).add i = ⟨b, off + i, none⟩ := by unfold Addr.add; split <;> simp_all
/-- A call, as it reads. -/
structure OpV where
  k : Nat
  x : Nat
  n : Int
instance : Inhabited OpV := ⟨⟨0, 0, 0⟩⟩
/-- The call lies in block b from o on. -/
def OpAt (w : World) (b o : Nat) (v : OpV) : Prop :=
  w.cell? ⟨b, o, none⟩ = some (.int .u8 (v.k : Int)) ∧ w.cell? ⟨b, o + 1, none⟩ = some (.int .u64 (v.x : Int)) ∧ w.cell? ⟨b, o + 2, none⟩ = some (.int .i64 v.n)
def OpV.ok (v : OpV) : Prop := v.k ≤ 255 ∧ v.x ≤ 18446744073709551615 ∧ -9223372036854775808 ≤ v.n ∧ v.n ≤ 9223372036854775807
def OpsAt (w : World) (B : Nat) (A : Option Addr) (n : Nat) (L : List OpV) : Prop :=
  L.length = n ∧ (n = 0 ∨ ∃ b off, A = some ⟨b, off, none⟩ ∧ b < B ∧ ∀ i, i < n → OpAt w b (off + i * 3) (L.getD i default) ∧ (L.getD i default).ok)
theorem OpAt.below {w w' : World} {b o B : Nat} {v : OpV} (h : OpAt w b o v) (hb : Below B w w') (hB : b < B) : OpAt w' b o v :=
  ⟨(hb.cell (p := ⟨b, o, none⟩) hB).trans h.1, (hb.cell (p := ⟨b, o + 1, none⟩) hB).trans h.2.1, (hb.cell (p := ⟨b, o + 2, none⟩) hB).trans h.2.2⟩
theorem OpsAt.below {w w' : World} {B C n : Nat} {A : Option Addr} {L : List OpV} (h : OpsAt w B A n L) (hb : Below C w w') (hC : B ≤ C) : OpsAt w' B A n L := by
  refine ⟨h.1, ?_⟩
  rcases h.2 with h0 | ⟨b, off, hA, hB, hc⟩
  · exact .inl h0
  · exact .inr ⟨b, off, hA, hB, fun i hi => ⟨(hc i hi).1.below hb (by omega), (hc i hi).2⟩⟩

end Go.Proofs.YtcphapdjimeoaaaGreat

