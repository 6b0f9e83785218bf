/- Slices of uint32 that came in, as numbers. -/
import Derived.Test.YtijelijooecoeaaOpen
import Derived.Test.YtijelijooecoeaaMod
import Derived.Deep.Slices
namespace Go.Proofs.Ytijelijooecoeaa
open Go.ChangeShapes Go.WideShapes Go.ChangeAt Go.WideMaps Go.WideElems Go.RowKit

/-- A slice of uint32 that reads as these numbers. -/
def U32At (w : World) (B : Nat) (A : Option Addr) (n : Nat) (L : List Nat) : Prop :=
  L.length = n ∧ (∀ i, L.getD i 0 < 4294967296) ∧ (n = 0 ∨ ∃ b off, A = some ⟨b, off, none⟩ ∧ b < B ∧ ∀ i, i < n → w.cell? ⟨b, off + i, none⟩ = some (.int .u32 ((L.getD i 0 : Nat) : Int)))
theorem U32At.ext {w w' : World} {A : Option Addr} {n : Nat} {L : List Nat} (h : U32At w w.heap.size A n L) (hE : Ext w w') : U32At w' w'.heap.size A n L := by
  refine ⟨h.1, h.2.1, h.2.2.imp_right ?_⟩
  rintro ⟨b, off, e, hb, hc⟩
  exact ⟨b, off, e, Nat.lt_of_lt_of_le hb hE.le, fun i hi => (hE.cell (i := off + i) hb).trans (hc i hi)⟩
theorem addr_addU (b off i : Nat) : (⟨b, off, none⟩ : Addr).add i = ⟨b, off + i, none⟩ := by unfold Addr.add; split <;> simp_all
theorem wf_u32 {z : Int} (h : (Lit.int .u32 z).wf = true) : ((z.toNat : Nat) : Int) = z ∧ z.toNat < 4294967296 := by
  have := bounds_u32 h
  omega
theorem open_u32s {H : Type} {enc : TypeId × Value → H} {W : World} {a : Option Addr} {n c : Nat} {d : DataW H} {p : List MemPlace} (h : DataW.Trod enc Try.prog W 0 (fun _ => true) true 22 (.slice a n c) d p) :
    ∃ L : List Nat, n ≤ c ∧ c ≤ maxLen ∧ U32At W W.heap.size a n L := by
  obtain ⟨fuel, hf⟩ := h
  rcases open_ints Try.underlying22 Try.underlying36 (by kernel_rfl) hf with ⟨hcs, _⟩ | ⟨x, n', c', zs, hcs, _, hl, hm, hz, _, hcell, hwf⟩
  · simp [Value.cells] at hcs
    obtain ⟨rfl, rfl, rfl⟩ := hcs
    exact ⟨[], by omega, by unfold maxLen; omega, rfl, fun i => by simp, .inl rfl⟩
  · simp [Value.cells] at hcs
    obtain ⟨rfl, rfl, rfl⟩ := hcs
    have hz' : zs.length = c := by simpa using hz
    have hat : ∀ i, i < n → ((zs.take n).map Int.toNat).getD i 0 = (zs.getD i 0).toNat := fun i hi => by
      simp [List.getD_eq_getElem?_getD, hi, show i < zs.length by omega]
    refine ⟨(zs.take n).map Int.toNat, hl, hm, by simp; omega, fun i => ?_, ?_⟩
    · by_cases hi : i < n
      · rw [hat i hi, List.getD_eq_getElem?_getD, List.getElem?_eq_getElem (by omega)]
        exact (wf_u32 (hwf _ (List.getElem_mem (by omega : i < zs.length)))).2
      · rw [List.getD_eq_getElem?_getD, List.getElem?_eq_none (by simp; omega)]
        simp
    rcases Nat.eq_zero_or_pos n with h0 | h0
    · exact .inl h0
    obtain ⟨b, off, spot⟩ := x
    have hc0 := hcell 0 (by omega)
    have hspot : spot = none := by simpa [Addr.add] using World.cell?_spot hc0
    subst hspot
    refine .inr ⟨b, off, rfl, by simpa [Addr.add] using World.block_lt_of_cell? W _ hc0, fun i hi => ?_⟩
    have h1 := hcell i (by omega)
    rw [hat i hi]
    have h2 : (((zs.getD i 0).toNat : Nat) : Int) = zs.getD i 0 := by
      rw [List.getD_eq_getElem?_getD, List.getElem?_eq_getElem (by omega)]
      exact (wf_u32 (hwf _ (List.getElem_mem (by omega : i < zs.length)))).1
    rw [h2]
    rw [addr_addU] at h1
    exact h1
end Go.Proofs.Ytijelijooecoeaa
