/- Slices of truth values that came in. -/
import Derived.Test.YtnkiopfpcddliaaBase
import Derived.Test.YtnkiopfpcddliaaOpen
import Derived.Deep.Slices
namespace Go.Proofs.Ytnkiopfpcddliaa
open Go.ChangeShapes Go.WideShapes Go.ChangeAt Go.WideMaps Go.WideElems Go.RowKit

def BoolRow (w : World) (B : Nat) (A : Option Addr) (n : Nat) (L : List Bool) : Prop :=
  L.length = n ∧ (n = 0 ∨ ∃ b off, A = some ⟨b, off, none⟩ ∧ b < B ∧ ∀ i, i < n → w.cell? ⟨b, off + i, none⟩ = some (.bool (L.getD i false)))
theorem BoolRow.later {w w' : World} {A : Option Addr} {n : Nat} {L : List Bool} (h : BoolRow w w.heap.size A n L) (hE : Ext w w') : BoolRow w' w'.heap.size A n L := by
  refine ⟨h.1, ?_⟩
  rcases h.2 with h0 | ⟨b, off, hA, hB, hc⟩
  · exact .inl h0
  · exact .inr ⟨b, off, hA, Nat.lt_of_lt_of_le hB hE.le, fun i hi => by rw [hE.cell hB]; exact hc i hi⟩
theorem addr_addB (b off i : Nat) : (⟨b, off, none⟩ : Addr).add i = ⟨b, off + i, none⟩ := by unfold Addr.add; split <;> simp_all
theorem open_boolRow {H : Type} {enc : TypeId × Value → H} {W : World} {a : Option Addr} {n c : Nat} {d : DataW H} {p : List MemPlace} (h : DataW.Trod enc Try.prog W 0 (fun _ => true) true 36 (.slice a n c) d p) :
    ∃ L : List Bool, n ≤ c ∧ c ≤ maxLen ∧ BoolRow W W.heap.size a n L := by
  obtain ⟨fuel, hf⟩ := h
  rcases Deep.open_slice1 Try.underlying36 (by kernel_rfl) hf with ⟨hcs, _⟩ | ⟨x, n', c', m, k, V, D, Pl, hcs, _, hl, hm, hmm, _, hx⟩
  · simp [Value.cells] at hcs
    obtain ⟨rfl, rfl, rfl⟩ := hcs
    exact ⟨[], by omega, by unfold maxLen; omega, rfl, .inl rfl⟩
  · simp [Value.cells] at hcs
    obtain ⟨rfl, rfl, rfl⟩ := hcs
    have hmc : m = c := by simpa using hmm
    subst hmc
    have hall : ∀ i, i < m → ∃ l : Bool, V i = .bool l := fun i hi => by
      obtain ⟨b, h1, _⟩ := DataW.trod_bool Try.underlying4 (hx i hi).2
      exact ⟨b, by simpa using h1⟩
    obtain ⟨L, hL⟩ := Deep.choose_lt hall
    refine ⟨(List.range n).map L, hl, hm, by simp, ?_⟩
    rcases Nat.eq_zero_or_pos n with h0 | h0
    · exact .inl h0
    obtain ⟨b, off, spot⟩ := x
    have hc0 := (hx 0 (by omega)).1
    have hspot : spot = none := by simpa [Addr.add] using World.cell?_spot hc0
    subst hspot
    refine .inr ⟨b, off, rfl, by simpa [Addr.add] using World.block_lt_of_cell? W _ hc0, fun i hi => ?_⟩
    have e : ((List.range n).map L).getD i false = L i := by simp [List.getD_eq_getElem?_getD, hi]
    rw [e, ← hL i (by omega), ← addr_addB]
    exact (hx i (by omega)).1
end Go.Proofs.Ytnkiopfpcddliaa
