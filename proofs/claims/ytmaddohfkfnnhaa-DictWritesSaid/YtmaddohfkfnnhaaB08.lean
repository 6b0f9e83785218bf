/- Slices of texts that came in. -/
import Derived.Test.YtmaddohfkfnnhaaB02
import Derived.Test.YtmaddohfkfnnhaaB07
import Derived.Deep.Slices
namespace Go.Proofs.Ytmaddohfkfnnhaa
open Go.ChangeShapes Go.WideShapes Go.ChangeAt Go.WideMaps Go.WideElems Go.RowKit

theorem addr_addTx (b off i : Nat) : (⟨b, off, none⟩ : Addr).add i = ⟨b, off + i, none⟩ := by unfold Addr.add; split <;> simp_all
theorem open_texts {H : Type} {enc : TypeId × Value → H} {W : World} {a : Option Addr} {n c : Nat} {d : DataW H} {p : List MemPlace} (h : DataW.Trod enc Try.prog W 0 (fun _ => true) true 22 (.slice a n c) d p) :
    ∃ L : List (List UInt8), n ≤ c ∧ c ≤ maxLen ∧ TextsAt W W.heap.size a n L := by
  obtain ⟨fuel, hf⟩ := h
  rcases Deep.open_slice1 Try.underlying22 (by kernel_rfl) hf with ⟨hcs, _⟩ | ⟨x, n', c', m, k, V, D, Pl, hcs, _, hl, hm, hmm, _, hx⟩
  · simp [Value.cells] at hcs
    obtain ⟨rfl, rfl, rfl⟩ := hcs
    exact ⟨[], by omega, by unfold maxLen; omega, rfl, .inl rfl⟩
  · simp [Value.cells] at hcs
    obtain ⟨rfl, rfl, rfl⟩ := hcs
    have hmc : m = c := by simpa using hmm
    subst hmc
    have hall : ∀ i, i < m → ∃ l : List UInt8, V i = .string ⟨l.toArray⟩ := fun i hi => by
      obtain ⟨b, h1, _⟩ := DataW.trod_string Try.underlying9 (hx i hi).2
      obtain ⟨l, rfl⟩ := txt_of b
      exact ⟨l, by simpa using h1⟩
    obtain ⟨L, hL⟩ := Deep.choose_lt hall
    refine ⟨(List.range n).map L, hl, hm, by simp, ?_⟩
    rcases Nat.eq_zero_or_pos n with h0 | h0
    · exact .inl h0
    obtain ⟨b, off, spot⟩ := x
    have hc0 := (hx 0 (by omega)).1
    have hspot : spot = none := by simpa [Addr.add] using World.cell?_spot hc0
    subst hspot
    refine .inr ⟨b, off, rfl, by simpa [Addr.add] using World.block_lt_of_cell? W _ hc0, fun i hi => ?_⟩
    have e : ((List.range n).map L).getD i [] = L i := by simp [List.getD_eq_getElem?_getD, hi]
    rw [e, ← hL i (by omega), ← addr_addTx]
    exact (hx i (by omega)).1
end Go.Proofs.Ytmaddohfkfnnhaa

