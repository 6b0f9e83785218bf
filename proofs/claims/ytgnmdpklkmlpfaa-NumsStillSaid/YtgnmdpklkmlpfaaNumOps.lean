/- What a slice of a cursor's calls (Op) that came in reads as. -/
import Derived.Test.YtgnmdpklkmlpfaaOpen
import Derived.Deep.Slices
import Derived.Deep.Strs
namespace Go.Proofs.Ytgnmdpklkmlpfaa
open Go.ChangeShapes Go.WideShapes Go.ChangeAt Go.WideMaps Go.WideElems Go.RowKit

theorem addr_add3' (b off i : Nat) : (⟨b, off, none⟩ : Addr).add i = ⟨b, off + i, none⟩ := by unfold Addr.add; split <;> simp_all
/-- A call, as it reads. -/
structure NopV where
  k : Nat
  n : Int
  e : Int
instance : Inhabited NopV := ⟨⟨0, 0, 0⟩⟩
/-- The call lies in block b from o on. -/
def NopAt (w : World) (b o : Nat) (v : NopV) : Prop :=
  w.cell? ⟨b, o, none⟩ = some (.int .u8 (v.k : Int)) ∧ w.cell? ⟨b, o + 1, none⟩ = some (.int .i64 v.n) ∧ w.cell? ⟨b, o + 2, none⟩ = some (.int .i64 v.e)
def NopV.ok (v : NopV) : Prop := v.k ≤ 255 ∧ -9223372036854775808 ≤ v.n ∧ v.n ≤ 9223372036854775807
def NopsAt (w : World) (B : Nat) (A : Option Addr) (n : Nat) (L : List NopV) : Prop :=
  L.length = n ∧ (n = 0 ∨ ∃ b off, A = some ⟨b, off, none⟩ ∧ b < B ∧ ∀ i, i < n → NopAt w b (off + i * 3) (L.getD i default) ∧ (L.getD i default).ok)
theorem NopAt.below {w w' : World} {b o B : Nat} {v : NopV} (h : NopAt w b o v) (hb : Below B w w') (hB : b < B) : NopAt w' b o v :=
  ⟨(hb.cell (p := ⟨b, o, none⟩) hB).trans h.1, (hb.cell (p := ⟨b, o + 1, none⟩) hB).trans h.2.1, (hb.cell (p := ⟨b, o + 2, none⟩) hB).trans h.2.2⟩
theorem NopsAt.below {w w' : World} {B C n : Nat} {A : Option Addr} {L : List NopV} (h : NopsAt w B A n L) (hb : Below C w w') (hC : B ≤ C) : NopsAt w' B A n L := by
  refine ⟨h.1, ?_⟩
  rcases h.2 with h0 | ⟨b, off, hA, hB, hc⟩
  · exact .inl h0
  · exact .inr ⟨b, off, hA, hB, fun i hi => ⟨(hc i hi).1.below hb (by omega), (hc i hi).2⟩⟩

theorem open_nops {H : Type} {enc : TypeId × Value → H} {W : World} {a : Option Addr} {n c : Nat} {d : DataW H} {p : List MemPlace} (h : DataW.Trod enc Try.prog W 0 (fun _ => true) true 38 (.slice a n c) d p) :
    ∃ L : List NopV, n ≤ c ∧ c ≤ maxLen ∧ NopsAt W W.heap.size a n L := by
  obtain ⟨fuel, hf⟩ := h
  rcases Deep.open_slice Try.underlying38 hf with ⟨hcs, _⟩ | ⟨x, n', c', m, k, D, Pl, hcs, _, hl, hm, hmm, _, hx⟩
  · simp [Value.cells] at hcs
    obtain ⟨rfl, rfl, rfl⟩ := hcs
    exact ⟨[], by omega, by unfold maxLen; omega, rfl, .inl rfl⟩
  · simp [Value.cells] at hcs
    obtain ⟨rfl, rfl, rfl⟩ := hcs
    have hmc : m = c := by simpa using hmm
    subst hmc
    have ce : Try.prog.cellsOf 43 = 3 := by kernel_rfl
    have each : ∀ i, i < m → ∃ v : NopV, v.ok ∧ W.cell? (x.add (i * 3)) = some (.int .u8 (v.k : Int)) ∧ W.cell? (x.add (i * 3 + 1)) = some (.int .i64 v.n) ∧ W.cell? (x.add (i * 3 + 2)) = some (.int .i64 v.e) := fun i hi => by
      obtain ⟨cs', h1, h2⟩ := hx i hi
      rw [ce] at h1
      obtain ⟨_, hlen, hcell⟩ := World.cells?_some h1
      obtain ⟨y0, y1, y2, q, _, _, g0, g1, g2⟩ := Deep.trod_struct3 Try.underlying43 h2
      have c0 : Try.prog.cellsOf 5 = 1 := by kernel_rfl
      have c1 : Try.prog.cellsOf 3 = 1 := by kernel_rfl
      have c2 : Try.prog.cellsOf 25 = 1 := by kernel_rfl
      match cs', hlen with
      | [v0, v1, v2], _ =>
        simp [c0, c1, c2] at g0 g1 g2
        obtain ⟨z0, e0, _, w0⟩ := DataW.trod_int Try.underlying5 g0
        obtain ⟨z1, e1, _, w1⟩ := DataW.trod_int Try.underlying3 g1
        obtain ⟨z2, e2, _, w2⟩ := DataW.trod_int Try.underlying25 g2
        simp only [List.cons.injEq, and_true] at e0 e1 e2
        subst e0 e1 e2
        obtain ⟨a0, a1⟩ := bounds_u8 w0
        obtain ⟨d0, d1⟩ := bounds_i64 w1
        obtain ⟨z0, rfl⟩ := Int.eq_ofNat_of_zero_le a0
        have f0 := hcell 0 (by omega)
        have f1 := hcell 1 (by omega)
        have f2 := hcell 2 (by omega)
        rw [Deep.add_add] at f0 f1 f2
        exact ⟨⟨z0, z1, z2⟩, ⟨by show z0 ≤ 255; omega, d0, d1⟩, by simpa using f0, by simpa using f1, by simpa using f2⟩
    obtain ⟨V, hV⟩ := Deep.choose_lt each
    refine ⟨(List.range n).map V, hl, hm, by simp, ?_⟩
    rcases Nat.eq_zero_or_pos n with h0 | h0
    · exact .inl h0
    obtain ⟨b, off, spot⟩ := x
    have hc0 := (hV 0 (by omega)).2.1
    have hspot : spot = none := by simpa [Addr.add] using World.cell?_spot hc0
    subst hspot
    refine .inr ⟨b, off, rfl, by simpa [Addr.add] using World.block_lt_of_cell? W _ hc0, fun i hi => ?_⟩
    have e : ((List.range n).map V).getD i default = V i := by simp [List.getD_eq_getElem?_getD, hi]
    rw [e]
    obtain ⟨h1, h2, h3, h4⟩ := hV i (by omega)
    rw [addr_add3'] at h2 h3 h4
    exact ⟨⟨h2, by rw [Nat.add_assoc]; exact h3, by rw [Nat.add_assoc]; exact h4⟩, h1⟩
end Go.Proofs.Ytgnmdpklkmlpfaa
