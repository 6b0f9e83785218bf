/- What slices of matrices that came in read as. -/
import Derived.Test.YtedkajpodepkiaaMatOpen
import Derived.Test.YtedkajpodepkiaaMatStack
namespace Go.Proofs.Ytedkajpodepkiaa
open Go.ChangeShapes Go.WideShapes Go.ChangeAt Go.WideMaps Go.WideElems Go.RowKit

theorem open_mats {H : Type} {enc : TypeId × Value → H} {W : World} {a : Option Addr} {n c : Nat} {d : DataW H} {p : List MemPlace} (h : DataW.Trod enc Try.prog W 0 (fun _ => true) true 33 (.slice a n c) d p) :
    ∃ L : List MIn, n ≤ c ∧ c ≤ maxLen ∧ MatsAt W W.heap.size a n L := by
  obtain ⟨fuel, hf⟩ := h
  rcases Deep.open_slice Try.underlying33 hf with ⟨hcs, _⟩ | ⟨x, n', c', m, k, D, Pl, hcs, _, hl, hm, hmm, _, hx⟩
  · simp [Value.cells] at hcs
    obtain ⟨rfl, rfl, rfl⟩ := hcs
    exact ⟨[], by omega, by unfold maxLen; omega, rfl, .inl rfl⟩
  · simp [Value.cells] at hcs
    obtain ⟨rfl, rfl, rfl⟩ := hcs
    have hmc : m = c := by simpa using hmm
    subst hmc
    have each : ∀ i, i < m → ∃ v : MIn, v.m.lies W v.A v.k ∧ W.cell? (x.add (i * 3)) = some (.int .i64 v.m.r) ∧ W.cell? (x.add (i * 3 + 1)) = some (.int .i64 v.m.c) ∧ W.cell? (x.add (i * 3 + 2)) = some (.slice v.A v.m.l.length v.k) := fun i hi => by
      obtain ⟨cs', h1, h2⟩ := hx i hi
      rw [mat_cells] at h1
      obtain ⟨_, hlen, hcell⟩ := World.cells?_some h1
      obtain ⟨M, A, k, he, hm⟩ := open_mat_cs hlen h2
      subst he
      have f0 := hcell 0 (by omega)
      have f1 := hcell 1 (by omega)
      have f2 := hcell 2 (by omega)
      rw [Deep.add_add] at f0 f1 f2
      exact ⟨⟨M, A, k⟩, hm, by simpa using f0, by simpa using f1, by simpa using f2⟩
    obtain ⟨V, hV⟩ := Deep.choose_lt each
    refine ⟨(List.range n).map V, hl, hm, by simp, ?_⟩
    rcases Nat.eq_zero_or_pos n with h0 | h0
    · exact .inl h0
    obtain ⟨b, off, spot⟩ := x
    have hc0 := (hV 0 (by omega)).2.1
    have hspot : spot = none := by simpa [Addr.add] using World.cell?_spot hc0
    subst hspot
    refine .inr ⟨b, off, rfl, by simpa [Addr.add] using World.block_lt_of_cell? W _ hc0, fun i hi => ?_⟩
    have e : ((List.range n).map V).getD i default = V i := by simp [List.getD_eq_getElem?_getD, hi]
    rw [e]
    obtain ⟨h1, h2, h3, h4⟩ := hV i (by omega)
    rw [addr_addM] at h2 h3 h4
    exact ⟨⟨h2, by rw [Nat.add_assoc]; exact h3, by rw [Nat.add_assoc]; exact h4⟩, h1.1, h1.2⟩
end Go.Proofs.Ytedkajpodepkiaa
