/- Slices of texts that came in. Slices of slices of numbers: as values; what those that came in read as; a list of numbers as an answer. -/
import Derived.Test.YtcphapdjimeoaaaGreatB01
import Derived.Test.YtcphapdjimeoaaaGreatB03
import Derived.Test.YtcphapdjimeoaaaGreatB08
import Derived.Test.YtcphapdjimeoaaaGreatB10
import Derived.Deep.Slices
namespace Go.Proofs.YtcphapdjimeoaaaGreat
open Go.ChangeShapes Go.WideShapes Go.ChangeAt Go.WideMaps Go.WideElems Go.RowKit

theorem addr_addTx (b off i : Nat) : (⟨b, off, none⟩ : Addr).add i = ⟨b, off + i, none⟩ := by unfold Addr.add; split <;> simp_all
theorem open_texts {H : Type} {enc : TypeId × Value → H} {W : World} {a : Option Addr} {n c : Nat} {d : DataW H} {p : List MemPlace} (h : DataW.Trod enc Tryz.prog W 0 (fun _ => true) true 24 (.slice a n c) d p) :
    ∃ L : List (List UInt8), n ≤ c ∧ c ≤ maxLen ∧ TextsAt W W.heap.size a n L := by
  obtain ⟨fuel, hf⟩ := h
  rcases Deep.open_slice1 Tryz.underlying24 (by kernel_rfl) hf with ⟨hcs, _⟩ | ⟨x, n', c', m, k, V, D, Pl, hcs, _, hl, hm, hmm, _, hx⟩
  · simp [Value.cells] at hcs
    obtain ⟨rfl, rfl, rfl⟩ := hcs
    exact ⟨[], by omega, by unfold maxLen; omega, rfl, .inl rfl⟩
  · simp [Value.cells] at hcs
    obtain ⟨rfl, rfl, rfl⟩ := hcs
    have hmc : m = c := by simpa using hmm
    subst hmc
    have hall : ∀ i, i < m → ∃ l : List UInt8, V i = .string ⟨l.toArray⟩ := fun i hi => by
      obtain ⟨b, h1, _⟩ := DataW.trod_string Tryz.underlying9 (hx i hi).2
      obtain ⟨l, rfl⟩ := txt_of b
      exact ⟨l, by simpa using h1⟩
    obtain ⟨L, hL⟩ := Deep.choose_lt hall
    refine ⟨(List.range n).map L, hl, hm, by simp, ?_⟩
    rcases Nat.eq_zero_or_pos n with h0 | h0
    · exact .inl h0
    obtain ⟨b, off, spot⟩ := x
    have hc0 := (hx 0 (by omega)).1
    have hspot : spot = none := by simpa [Addr.add] using World.cell?_spot hc0
    subst hspot
    refine .inr ⟨b, off, rfl, by simpa [Addr.add] using World.block_lt_of_cell? W _ hc0, fun i hi => ?_⟩
    have e : ((List.range n).map L).getD i [] = L i := by simp [List.getD_eq_getElem?_getD, hi]
    rw [e, ← hL i (by omega), ← addr_addTx]
    exact (hx i (by omega)).1
end Go.Proofs.YtcphapdjimeoaaaGreat

namespace Go.Proofs.YtcphapdjimeoaaaGreat
open Go.ChangeShapes Go.WideShapes Go.ChangeAt Go.WideMaps Go.WideElems Go.RowKit

/-- A slice that reads as these numbers. -/
def IRow (w : World) (B : Nat) (v : Value) (l : List Int) : Prop := ∃ a c, v = .slice a l.length c ∧ l.length ≤ c ∧ c ≤ maxLen ∧ IntsAt w B a l.length l
theorem IRow.ext {w w' : World} {v : Value} {l : List Int} (h : IRow w w.heap.size v l) (hE : Ext w w') : IRow w' w'.heap.size v l := by
  obtain ⟨a, c, e, h1, h2, h3⟩ := h
  exact ⟨a, c, e, h1, h2, h3.later hE⟩
/-- A slice of slices that reads as these lists of numbers. -/
def ILists (w : World) (B : Nat) (A : Option Addr) (n : Nat) (ls : List (List Int)) : Prop :=
  ls.length = n ∧ (n = 0 ∨ ∃ b off, A = some ⟨b, off, none⟩ ∧ b < B ∧ ∀ i, i < n → ∃ v, w.cell? ⟨b, off + i, none⟩ = some v ∧ IRow w B v (ls.getD i []))
theorem ILists.ext {w w' : World} {A : Option Addr} {n : Nat} {ls : List (List Int)} (h : ILists w w.heap.size A n ls) (hE : Ext w w') : ILists w' w'.heap.size A n ls := by
  refine ⟨h.1, h.2.imp_right fun ⟨b, off, hA, hB, hc⟩ => ⟨b, off, hA, Nat.lt_of_lt_of_le hB hE.le, fun i hi => ?_⟩⟩
  obtain ⟨v, h1, h2⟩ := hc i hi
  exact ⟨v, by rw [hE.cell hB]; exact h1, h2.ext hE⟩
/-- The list at a place. -/
theorem ILists.at {w : World} {A : Option Addr} {n : Nat} {ls : List (List Int)} (h : ILists w w.heap.size A n ls) {i : Nat} (hi : i < n) :
    ∃ b off a c, A = some ⟨b, off, none⟩ ∧ w.cell? ⟨b, off + i, none⟩ = some (.slice a (ls.getD i []).length c) ∧ (ls.getD i []).length ≤ c ∧ c ≤ maxLen ∧ IntsAt w w.heap.size a (ls.getD i []).length (ls.getD i []) := by
  rcases h.2 with h0 | ⟨b, off, rfl, _, hc⟩
  · omega
  obtain ⟨v, h1, a, c, rfl, h2, h3, h4⟩ := hc i hi
  exact ⟨b, off, a, c, rfl, h1, h2, h3, h4⟩
theorem addr_addS (b off i : Nat) : (⟨b, off, none⟩ : Addr).add i = ⟨b, off + i, none⟩ := by unfold Addr.add; split <;> simp_all
theorem open_ints_cs {H : Type} {enc : TypeId × Value → H} {W : World} {fuel : Nat} {cs : List Value} {x : DataW H × List MemPlace} (hf : DataW.trod enc Tryz.prog W 0 (fun _ => true) true fuel 43 cs = some x) :
    ∃ a n c, ∃ l : List Int, cs = [.slice a n c] ∧ n ≤ c ∧ c ≤ maxLen ∧ IntsAt W W.heap.size a n l := by
  rcases open_ints Tryz.underlying43 Tryz.underlying3 (by kernel_rfl) hf with ⟨hcs, _⟩ | ⟨x, n, c, zs, hcs, _, hl, hm, hz, _, hcell, _⟩
  · exact ⟨none, 0, 0, [], hcs, by omega, by unfold maxLen; omega, rfl, .inl rfl⟩
  · have hz' : zs.length = c := by simpa using hz
    refine ⟨some x, n, c, zs.take n, hcs, hl, hm, by simp; omega, ?_⟩
    rcases Nat.eq_zero_or_pos n with h0 | h0
    · exact .inl h0
    obtain ⟨b, off, spot⟩ := x
    have hc0 := hcell 0 (by omega)
    have hspot : spot = none := by simpa [Addr.add] using World.cell?_spot hc0
    subst hspot
    refine .inr ⟨b, off, rfl, by simpa [Addr.add] using World.block_lt_of_cell? W _ hc0, fun i hi => ?_⟩
    have h1 := hcell i (by omega)
    have e : (zs.take n).getD i 0 = zs.getD i 0 := by simp [List.getD_eq_getElem?_getD, hi]
    rw [e]
    rw [addr_addS] at h1
    exact h1
theorem open_intss {H : Type} {enc : TypeId × Value → H} {W : World} {a : Option Addr} {n c : Nat} {d : DataW H} {p : List MemPlace} (h : DataW.Trod enc Tryz.prog W 0 (fun _ => true) true 25 (.slice a n c) d p) :
    ∃ ls : List (List Int), n ≤ c ∧ c ≤ maxLen ∧ ILists W W.heap.size a n ls := by
  obtain ⟨fuel, hf⟩ := h
  rcases Deep.open_slice1 Tryz.underlying25 (by kernel_rfl) hf with ⟨hcs, _⟩ | ⟨x, n', c', m, k, V, D, Pl, hcs, _, hl, hm, hmm, _, hx⟩
  · simp [Value.cells] at hcs
    obtain ⟨rfl, rfl, rfl⟩ := hcs
    exact ⟨[], by omega, by unfold maxLen; omega, rfl, .inl rfl⟩
  · simp [Value.cells] at hcs
    obtain ⟨rfl, rfl, rfl⟩ := hcs
    have hmc : m = c := by simpa using hmm
    subst hmc
    have hall : ∀ i, i < m → ∃ l : List Int, IRow W W.heap.size (V i) l := fun i hi => by
      obtain ⟨a, n, c, l, hcs, h1, h2, h3⟩ := open_ints_cs (hx i hi).2
      have hl3 := h3.1
      subst hl3
      exact ⟨l, a, c, by simpa using hcs, h1, h2, h3⟩
    obtain ⟨L, hL⟩ := Deep.choose_lt hall
    refine ⟨(List.range n).map L, hl, hm, by simp, ?_⟩
    rcases Nat.eq_zero_or_pos n with h0 | h0
    · exact .inl h0
    obtain ⟨b, off, spot⟩ := x
    have hc0 := (hx 0 (by omega)).1
    have hspot : spot = none := by simpa [Addr.add] using World.cell?_spot hc0
    subst hspot
    refine .inr ⟨b, off, rfl, by simpa [Addr.add] using World.block_lt_of_cell? W _ hc0, fun i hi => ⟨V i, ?_, ?_⟩⟩
    · rw [← addr_addS]
      exact (hx i (by omega)).1
    · have e : ((List.range n).map L).getD i [] = L i := by simp [List.getD_eq_getElem?_getD, hi]
      rw [e]
      exact hL i (by omega)
/-- A list of numbers and an error are told. -/
def MadeS (w : World) (r : List Int × Int) (e : Ending) (w' : World) : Prop := ∃ A c, e = .returned (.tuple #[.slice A r.1.length c, .int .i64 r.2]) ∧ r.1.length ≤ c ∧ c ≤ maxLen ∧ IntsAt w' w'.heap.size A r.1.length r.1 ∧ Ext w w'
theorem MadeS.none (w : World) {w' : World} (hE : Ext w w') (E : Int) : MadeS w ([], E) (.returned (.tuple #[.slice none 0 0, .int .i64 E])) w' := ⟨_, 0, rfl, Nat.le_refl _, by unfold maxLen; omega, ⟨rfl, .inl rfl⟩, hE⟩
end Go.Proofs.YtcphapdjimeoaaaGreat

