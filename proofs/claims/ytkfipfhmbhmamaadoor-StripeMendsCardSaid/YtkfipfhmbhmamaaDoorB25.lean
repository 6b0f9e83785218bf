/- What slices of slices of bytes and slices of truth values that came in read as. -/
import Derived.Test.YtkfipfhmbhmamaaDoorB08
import Derived.Test.YtkfipfhmbhmamaaDoorB24
import Derived.Deep.Slices
namespace Go.Proofs.YtkfipfhmbhmamaaDoor
open Go.ChangeShapes Go.WideShapes Go.ChangeAt Go.WideMaps Go.WideElems Go.RowKit

theorem addr_addR (b off i : Nat) : (⟨b, off, none⟩ : Addr).add i = ⟨b, off + i, none⟩ := by unfold Addr.add; split <;> simp_all
theorem open_rows {H : Type} {enc : TypeId × Value → H} {W : World} {a : Option Addr} {n c : Nat} {d : DataW H} {p : List MemPlace} (h : DataW.Trod enc Tryd.prog W 0 (fun _ => true) true 55 (.slice a n c) d p) :
    ∃ ls : List (List UInt8), n ≤ c ∧ c ≤ maxLen ∧ RowsAt W W.heap.size a n ls := by
  obtain ⟨fuel, hf⟩ := h
  rcases Deep.open_slice1 Tryd.underlying55 (by kernel_rfl) hf with ⟨hcs, _⟩ | ⟨x, n', c', m, k, V, D, Pl, hcs, _, hl, hm, hmm, _, hx⟩
  · simp [Value.cells] at hcs
    obtain ⟨rfl, rfl, rfl⟩ := hcs
    exact ⟨[], by omega, by unfold maxLen; omega, rfl, .inl rfl⟩
  · simp [Value.cells] at hcs
    obtain ⟨rfl, rfl, rfl⟩ := hcs
    have hmc : m = c := by simpa using hmm
    subst hmc
    have hall : ∀ i, i < m → ∃ l : List UInt8, RowOf W W.heap.size (V i) l := fun i hi => by
      obtain ⟨a, n, c, l, hcs, h1, h2, h3⟩ := open_bytes_cs (hx i hi).2
      have hl3 := h3.1
      subst hl3
      exact ⟨l, a, c, by simpa using hcs, h1, h2, h3⟩
    obtain ⟨L, hL⟩ := Deep.choose_lt hall
    refine ⟨(List.range n).map L, hl, hm, by simp, ?_⟩
    rcases Nat.eq_zero_or_pos n with h0 | h0
    · exact .inl h0
    obtain ⟨b, off, spot⟩ := x
    have hc0 := (hx 0 (by omega)).1
    have hspot : spot = none := by simpa [Addr.add] using World.cell?_spot hc0
    subst hspot
    refine .inr ⟨b, off, rfl, by simpa [Addr.add] using World.block_lt_of_cell? W _ hc0, fun i hi => ⟨V i, ?_, ?_⟩⟩
    · rw [← addr_addR]
      exact (hx i (by omega)).1
    · have e : ((List.range n).map L).getD i [] = L i := by simp [List.getD_eq_getElem?_getD, hi]
      rw [e]
      exact hL i (by omega)
theorem open_boolsR {H : Type} {enc : TypeId × Value → H} {W : World} {a : Option Addr} {n c : Nat} {d : DataW H} {p : List MemPlace} (h : DataW.Trod enc Tryd.prog W 0 (fun _ => true) true 70 (.slice a n c) d p) :
    ∃ L : List Bool, n ≤ c ∧ c ≤ maxLen ∧ BoolsAt W W.heap.size a n L := by
  obtain ⟨fuel, hf⟩ := h
  rcases Deep.open_slice1 Tryd.underlying70 (by kernel_rfl) hf with ⟨hcs, _⟩ | ⟨x, n', c', m, k, V, D, Pl, hcs, _, hl, hm, hmm, _, hx⟩
  · simp [Value.cells] at hcs
    obtain ⟨rfl, rfl, rfl⟩ := hcs
    exact ⟨[], by omega, by unfold maxLen; omega, rfl, .inl rfl⟩
  · simp [Value.cells] at hcs
    obtain ⟨rfl, rfl, rfl⟩ := hcs
    have hmc : m = c := by simpa using hmm
    subst hmc
    have hall : ∀ i, i < m → ∃ l : Bool, V i = .bool l := fun i hi => by
      obtain ⟨b, h1, _⟩ := DataW.trod_bool Tryd.underlying4 (hx i hi).2
      exact ⟨b, by simpa using h1⟩
    obtain ⟨L, hL⟩ := Deep.choose_lt hall
    refine ⟨(List.range n).map L, hl, hm, by simp, ?_⟩
    rcases Nat.eq_zero_or_pos n with h0 | h0
    · exact .inl h0
    obtain ⟨b, off, spot⟩ := x
    have hc0 := (hx 0 (by omega)).1
    have hspot : spot = none := by simpa [Addr.add] using World.cell?_spot hc0
    subst hspot
    refine .inr ⟨b, off, rfl, by simpa [Addr.add] using World.block_lt_of_cell? W _ hc0, fun i hi => ?_⟩
    have e : ((List.range n).map L).getD i false = L i := by simp [List.getD_eq_getElem?_getD, hi]
    rw [e, ← hL i (by omega), ← addr_addR]
    exact (hx i (by omega)).1
end Go.Proofs.YtkfipfhmbhmamaaDoor

