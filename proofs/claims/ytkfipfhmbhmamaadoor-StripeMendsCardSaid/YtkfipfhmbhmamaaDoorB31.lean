/- Chapter 23: shapes and turned bytes that came in. -/
import Derived.Test.YtkfipfhmbhmamaaDoorB03
import Derived.Test.YtkfipfhmbhmamaaDoorB24
import Derived.Deep.Slices
import Derived.Deep.Strs
namespace Go.Proofs.YtkfipfhmbhmamaaDoor
open Go.ChangeShapes Go.WideShapes Go.ChangeAt Go.WideMaps Go.WideElems Go.RowKit

/-- Where a byte is turned, and by what, lie in a slice. -/
def TurnsAt (w : World) (B : Nat) (A : Option Addr) (n : Nat) (L : List (Nat × UInt8)) : Prop :=
  L.length = n ∧ (n = 0 ∨ ∃ b off, A = some ⟨b, off, none⟩ ∧ b < B ∧ ∀ i, i < n → w.cell? ⟨b, off + i * 2, none⟩ = some (.int .u16 ((L.getD i (0, 0)).1 : Int)) ∧ w.cell? ⟨b, off + i * 2 + 1, none⟩ = some (.int .u8 ((L.getD i (0, 0)).2.toNat : Int)) ∧ (L.getD i (0, 0)).1 < 65536)
theorem TurnsAt.later {w w' : World} {A : Option Addr} {n : Nat} {L : List (Nat × UInt8)} (h : TurnsAt w w.heap.size A n L) (hE : Ext w w') : TurnsAt w' w'.heap.size A n L :=
  ⟨h.1, h.2.imp_right fun ⟨b, off, e, hb, hc⟩ => ⟨b, off, e, Nat.lt_of_lt_of_le hb hE.le, fun i hi => ⟨(hE.cell (i := off + i * 2) hb).trans (hc i hi).1, (hE.cell (i := off + i * 2 + 1) hb).trans (hc i hi).2.1, (hc i hi).2.2⟩⟩⟩
theorem addr_addN (b off i : Nat) : (⟨b, off, none⟩ : Addr).add i = ⟨b, off + i, none⟩ := by unfold Addr.add; split <;> simp_all
set_option maxRecDepth 1000000 in
theorem open_turns {H : Type} {enc : TypeId × Value → H} {W : World} {a : Option Addr} {n c : Nat} {d : DataW H} {p : List MemPlace} (h : DataW.Trod enc Tryd.prog W 0 (fun _ => true) true 42 (.slice a n c) d p) :
    ∃ L : List (Nat × UInt8), n ≤ c ∧ c ≤ maxLen ∧ TurnsAt W W.heap.size a n L := by
  obtain ⟨fuel, hf⟩ := h
  rcases Deep.open_slice Tryd.underlying42 hf with ⟨hcs, _⟩ | ⟨x, n', c', m, k, D, Pl, hcs, _, hl, hm, hmm, _, hx⟩
  · simp [Value.cells] at hcs
    obtain ⟨rfl, rfl, rfl⟩ := hcs
    exact ⟨[], by omega, by unfold maxLen; omega, rfl, .inl rfl⟩
  · simp [Value.cells] at hcs
    obtain ⟨rfl, rfl, rfl⟩ := hcs
    have hmc : m = c := by simpa using hmm
    subst hmc
    have ce : Tryd.prog.cellsOf 45 = 2 := by kernel_rfl
    have c0 : Tryd.prog.cellsOf 43 = 1 := by kernel_rfl
    have c1 : Tryd.prog.cellsOf 5 = 1 := by kernel_rfl
    have each : ∀ i, i < m → ∃ v : Nat × UInt8, v.1 < 65536 ∧ W.cell? (x.add (i * 2)) = some (.int .u16 (v.1 : Int)) ∧ W.cell? (x.add (i * 2 + 1)) = some (.int .u8 (v.2.toNat : Int)) := fun i hi => by
      obtain ⟨cs', h1, h2⟩ := hx i hi
      rw [ce] at h1
      obtain ⟨_, hlen, hcell⟩ := World.cells?_some h1
      obtain ⟨xs, q, _, _, _, hlx, hg⟩ := DataW.trod_struct Tryd.underlying45 h2
      match cs', hlen, xs, hlx with
      | [v0, v1], _, [y0, y1], _ =>
        have g0 := hg 0 _ rfl
        have g1 := hg 1 _ rfl
        simp [c0, c1] at g0 g1
        obtain ⟨z0, e0, _, w0⟩ := DataW.trod_int Tryd.underlying43 g0
        obtain ⟨z1, e1, _, w1⟩ := DataW.trod_int Tryd.underlying5 g1
        simp only [List.cons.injEq, and_true] at e0 e1
        subst e0 e1
        obtain ⟨a0, a1⟩ := bounds_u16 w0
        obtain ⟨b0, b1⟩ := bounds_u8 w1
        obtain ⟨z0, rfl⟩ := Int.eq_ofNat_of_zero_le a0
        obtain ⟨z1, rfl⟩ := Int.eq_ofNat_of_zero_le b0
        have f0 := hcell 0 (by omega)
        have f1 := hcell 1 (by omega)
        rw [Deep.add_add] at f0 f1
        have e8 : ((UInt8.ofNat z1).toNat : Int) = (z1 : Int) := by rw [UInt8.toNat_ofNat']; omega
        exact ⟨⟨z0, UInt8.ofNat z1⟩, by dsimp only; omega, by simpa using f0, by rw [e8]; simpa using f1⟩
    obtain ⟨V, hV⟩ := Deep.choose_lt each
    refine ⟨(List.range n).map V, hl, hm, by simp, ?_⟩
    rcases Nat.eq_zero_or_pos n with h0 | h0
    · exact .inl h0
    obtain ⟨b, off, spot⟩ := x
    have hc0 := (hV 0 (by omega)).2.1
    have hspot : spot = none := by simpa [Addr.add] using World.cell?_spot hc0
    subst hspot
    refine .inr ⟨b, off, rfl, by simpa [Addr.add] using World.block_lt_of_cell? W _ hc0, fun i hi => ?_⟩
    have e : ((List.range n).map V).getD i (0, 0) = V i := by simp [List.getD_eq_getElem?_getD, hi]
    rw [e]
    obtain ⟨h1, h2, h3⟩ := hV i (by omega)
    rw [addr_addN] at h2 h3
    exact ⟨h2, by rw [Nat.add_assoc]; exact h3, h1⟩
theorem shape_cells : Tryd.prog.cellsOf 38 = 3 := by kernel_rfl
set_option maxRecDepth 1000000 in
theorem open_shape {H : Type} {enc : TypeId × Value → H} {W : World} {cs : Array Value} {d : DataW H} {p : List MemPlace} (hs : cs.size = Tryd.prog.cellsOf 38) (h : DataW.Trod enc Tryd.prog W 0 (fun _ => true) true 38 (.agg cs) d p) :
    ∃ t : Nat × Nat × Nat, cs = #[.int .u8 (t.1 : Int), .int .u8 (t.2.1 : Int), .int .u8 (t.2.2 : Int)] ∧ t.1 < 256 ∧ t.2.1 < 256 ∧ t.2.2 < 256 := by
  obtain ⟨fuel, hf⟩ := h
  have hl : cs.toList.length = 3 := by rw [Array.length_toList, hs, shape_cells]
  rw [← Array.toArray_toList (xs := cs)]
  change DataW.trod enc Tryd.prog W 0 (fun _ => true) true fuel 38 cs.toList = some _ at hf
  generalize cs.toList = l at *
  obtain ⟨y0, y1, y2, q, _, _, g0, g1, g2⟩ := Deep.trod_struct3 Tryd.underlying38 hf
  have c0 : Tryd.prog.cellsOf 5 = 1 := by kernel_rfl
  match l, hl with
  | [v0, v1, v2], _ =>
    simp [c0] at g0 g1 g2
    obtain ⟨z0, e0, _, w0⟩ := DataW.trod_int Tryd.underlying5 g0
    obtain ⟨z1, e1, _, w1⟩ := DataW.trod_int Tryd.underlying5 g1
    obtain ⟨z2, e2, _, w2⟩ := DataW.trod_int Tryd.underlying5 g2
    simp only [List.cons.injEq, and_true] at e0 e1 e2
    subst e0 e1 e2
    obtain ⟨a0, a1⟩ := bounds_u8 w0
    obtain ⟨b0, b1⟩ := bounds_u8 w1
    obtain ⟨d0, d1⟩ := bounds_u8 w2
    obtain ⟨z0, rfl⟩ := Int.eq_ofNat_of_zero_le a0
    obtain ⟨z1, rfl⟩ := Int.eq_ofNat_of_zero_le b0
    obtain ⟨z2, rfl⟩ := Int.eq_ofNat_of_zero_le d0
    exact ⟨⟨z0, z1, z2⟩, rfl, by dsimp only; omega, by dsimp only; omega, by dsimp only; omega⟩
end Go.Proofs.YtkfipfhmbhmamaaDoor

