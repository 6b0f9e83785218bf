/- What a slice of slices of bytes that came in reads as. -/
import Derived.Test.YtgnmdpklkmlpfaaOpen
import Derived.Test.YtgnmdpklkmlpfaaParts
namespace Go.Proofs.Ytgnmdpklkmlpfaa
open Go.ChangeShapes Go.WideShapes Go.ChangeAt Go.WideMaps Go.WideElems Go.RowKit

theorem addr_add (b off i : Nat) : (⟨b, off, none⟩ : Addr).add i = ⟨b, off + i, none⟩ := by unfold Addr.add; split <;> simp_all
theorem open_bytess {H : Type} {enc : TypeId × Value → H} {W : World} {a : Option Addr} {n c : Nat} {d : DataW H} {p : List MemPlace} (h : DataW.Trod enc Try.prog W 0 (fun _ => true) true 32 (.slice a n c) d p) :
    ∃ ls : List (List UInt8), n ≤ c ∧ c ≤ maxLen ∧ Parts W W.heap.size a n ls := by
  obtain ⟨fuel, hf⟩ := h
  rcases Deep.open_slice1 Try.underlying32 (by kernel_rfl) hf with ⟨hcs, _⟩ | ⟨x, n', c', m, k, V, D, Pl, hcs, _, hl, hm, hmm, _, hx⟩
  · simp [Value.cells] at hcs
    obtain ⟨rfl, rfl, rfl⟩ := hcs
    exact ⟨[], by omega, by unfold maxLen; omega, rfl, .inl rfl⟩
  · simp [Value.cells] at hcs
    obtain ⟨rfl, rfl, rfl⟩ := hcs
    have hmc : m = c := by simpa using hmm
    subst hmc
    have hall : ∀ i, i < m → ∃ l : List UInt8, ∃ a n c, V i = .slice a n c ∧ n ≤ maxLen ∧ Bytes W W.heap.size a n l := fun i hi => by
      obtain ⟨a, n, c, l, hcs, h1, h2, h3⟩ := open_bytes_cs (hx i hi).2
      exact ⟨l, a, n, c, by simpa using hcs, by omega, h3⟩
    obtain ⟨L, hL⟩ := Deep.choose_lt hall
    refine ⟨(List.range n).map L, hl, hm, by simp, ?_⟩
    rcases Nat.eq_zero_or_pos n with h0 | h0
    · exact .inl h0
    obtain ⟨b, off, spot⟩ := x
    have hc0 := (hx 0 (by omega)).1
    have hspot : spot = none := by simpa [Addr.add] using World.cell?_spot hc0
    subst hspot
    refine .inr ⟨b, off, rfl, by simpa [Addr.add] using World.block_lt_of_cell? W _ hc0, fun i hi => ?_⟩
    obtain ⟨a, n', c', hV, hn', hb⟩ := hL i (by omega)
    have hadd := addr_add b off i
    refine ⟨a, n', c', by rw [← hadd, (hx i (by omega)).1, hV], hn', ?_⟩
    simpa [List.getD_eq_getElem?_getD, hi] using hb
end Go.Proofs.Ytgnmdpklkmlpfaa
