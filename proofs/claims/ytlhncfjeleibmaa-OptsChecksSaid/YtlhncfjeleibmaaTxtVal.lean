/- Texts as values: a text, lists of texts that came in or are the call's own. -/
import Derived.Test.YtlhncfjeleibmaaOwn
import Derived.Test.YtlhncfjeleibmaaConv
import Derived.Test.YtlhncfjeleibmaaMod
import Derived.Laws.OwnMore
import Derived.Maps.AppendAt
namespace Go.Proofs.Ytlhncfjeleibmaa
open Go.RowKit

/-- A text of these bytes. -/
def txt (l : List UInt8) : Value := .string ⟨l.toArray⟩
theorem txt_of (b : ByteArray) : ∃ l : List UInt8, b = ⟨l.toArray⟩ := ⟨b.data.toList, by cases b; simp⟩
theorem txt_size (l : List UInt8) : (ByteArray.mk l.toArray).size = l.length := by simp [ByteArray.size]
theorem run_txtAt (W : World) (l : List UInt8) (k : IntKind) (i : Int) (h0 : 0 ≤ i) (h1 : i < l.length) : (Instr.index 9 (.string ⟨l.toArray⟩) (.int k i)).run Try.prog W = .ok (.int .u8 ((l.getD i.toNat 0).toNat : Int)) W := by
  rw [run_index_string (P := Try.prog) W 9 _ k i Try.underlying9, dif_pos ⟨h0, by rw [txt_size]; exact h1⟩]
  have h : i.toNat < l.length := by omega
  simp [List.getD_eq_getElem?_getD, h]
  rfl
theorem run_txtLen (W : World) (l : List UInt8) (ty : TypeId) : (Builtin.len_ #[9] ty #[.string ⟨l.toArray⟩]).run Try.prog W = .ok (.int .i64 (l.length : Int)) W := by
  rw [run_len_string (P := Try.prog) W 9 ty _ Try.underlying9, txt_size]
  rfl
theorem run_txtCut (W : World) (l : List UInt8) (k : IntKind) (i : Int) (h0 : 0 ≤ i) (h1 : i ≤ l.length) : (Instr.slice 9 (.string ⟨l.toArray⟩) (some (.int k i)) none none).run Try.prog W = .ok (.string ⟨(l.drop i.toNat).toArray⟩) W := by
  rw [run_slice_string_l (P := Try.prog) W 9 _ Try.underlying9 k i h0 (by rw [txt_size]; exact h1)]
  congr 2
  apply ByteArray.ext
  rw [ByteArray.data_extract, txt_size]
  show l.toArray.extract i.toNat l.length = (l.drop i.toNat).toArray
  rw [List.extract_toArray, List.extract_eq_take_drop, List.take_of_length_le (by simp)]
/-- A slice that reads as these texts. -/
def TextsAt (w : World) (B : Nat) (A : Option Addr) (n : Nat) (L : List (List UInt8)) : Prop :=
  L.length = n ∧ (n = 0 ∨ ∃ b off, A = some ⟨b, off, none⟩ ∧ b < B ∧ ∀ i, i < n → w.cell? ⟨b, off + i, none⟩ = some (.string ⟨(L.getD i []).toArray⟩))
theorem TextsAt.below {w w' : World} {B C : Nat} {A : Option Addr} {n : Nat} {L : List (List UInt8)} (h : TextsAt w B A n L) (hb : Below C w w') (hC : B ≤ C) : TextsAt w' B A n L := by
  refine ⟨h.1, ?_⟩
  rcases h.2 with h0 | ⟨b, off, hA, hB, hc⟩
  · exact .inl h0
  · exact .inr ⟨b, off, hA, hB, fun i hi => by rw [hb.cell (p := ⟨b, off + i, none⟩) (Nat.lt_of_lt_of_le hB hC)]; exact hc i hi⟩
theorem TextsAt.later {w w' : World} {A : Option Addr} {n : Nat} {L : List (List UInt8)} (h : TextsAt w w.heap.size A n L) (hE : Ext w w') : TextsAt w' w'.heap.size A n L := by
  refine ⟨h.1, ?_⟩
  rcases h.2 with h0 | ⟨b, off, hA, hB, hc⟩
  · exact .inl h0
  · exact .inr ⟨b, off, hA, Nat.lt_of_lt_of_le hB hE.le, fun i hi => by rw [hE.cell hB]; exact hc i hi⟩
theorem TextsAt.cut {w : World} {B n : Nat} {A : Option Addr} {r : List (List UInt8)} (h : TextsAt w B A n r) {k c : Nat} (hk : k ≤ n) (hc : n ≤ c) : TextsAt w B (cutAt A c k) (n - k) (r.drop k) := by
  refine ⟨by rw [List.length_drop, h.1], ?_⟩
  by_cases hkn : k = n
  · exact .inl (by omega)
  rcases h.2 with h0 | ⟨b, off, rfl, hB, hcell⟩
  · exact .inl (by omega)
  · refine .inr ⟨b, off + k, ?_, hB, fun i hi => ?_⟩
    · simp [cutAt, show ¬ c = k by omega, Addr.add]
    · rw [Nat.add_assoc, hcell (k + i) (by omega)]
      simp [List.getD_eq_getElem?_getD]
theorem TextsAt.top {w : World} {B n : Nat} {A : Option Addr} {r : List (List UInt8)} (h : TextsAt w B A n r) {k : Nat} (hk : k ≤ n) : TextsAt w B A k (r.take k) := by
  refine ⟨by rw [List.length_take, h.1]; omega, ?_⟩
  rcases h.2 with h0 | ⟨b, off, hA, hB, hc⟩
  · exact .inl (by omega)
  · refine .inr ⟨b, off, hA, hB, fun i hi => ?_⟩
    rw [hc i (by omega)]
    simp [List.getD_eq_getElem?_getD, hi]
theorem textsNew (w : World) (L : List (List UInt8)) (cs : Array Value) (t : TypeId) (fr : Nat × Nat) (h : cs = (L.map txt).toArray) (n : Nat) (hn : L.length = n) :
    TextsAt (w.alloc (.cells cs t fr)) (w.alloc (.cells cs t fr)).heap.size (some ⟨w.heap.size, 0, none⟩) n L := by
  subst h
  subst hn
  refine ⟨rfl, .inr ⟨w.heap.size, 0, rfl, by simp, fun i hi => ?_⟩⟩
  rw [Nat.zero_add, World.cell?_alloc_mark]
  simp [hi, txt]
/-- v is nil, or lies in a block of the call's own, and reads as these texts. -/
def OwnTx (w : World) (base : Nat) (v : Value) (L : List (List UInt8)) : Prop := w.ownsRow base 9 1 v L.length (L.map txt)
theorem text_info : (Try.prog.info? 9).map (fun i => (i.zero, i.size, i.bytes)) = some (some (.string ⟨#[]⟩), 1, 16) := by kernel_rfl
theorem OwnTx.nil (w : World) (base : Nat) : OwnTx w base (.slice none 0 0) [] := World.ownsRow_nil w base _ _
theorem OwnTx.ext {w w' : World} {base : Nat} {v : Value} {L : List (List UInt8)} (h : OwnTx w base v L) (hE : Ext w w') : OwnTx w' base v L :=
  World.ownsRow.kept h (hE.grown none) (by cases hv : v.ownBlock <;> simp)
theorem OwnTx.lt {w : World} {base : Nat} {v : Value} {L : List (List UInt8)} (h : OwnTx w base v L) : ∀ k, v.ownBlock = some k → base ≤ k ∧ k < w.heap.size := World.ownsRow.lt h
theorem OwnTx.form {w : World} {base : Nat} {v : Value} {L : List (List UInt8)} (h : OwnTx w base v L) : ∃ A c, v = .slice A L.length c ∧ L.length ≤ c ∧ c ≤ maxLen ∧ TextsAt w w.heap.size A L.length L := by
  have hl := h.lt
  rcases h.2 with ⟨rfl, h0⟩ | ⟨g, cap, cur, rfl, hb, hg, hn, hc, hs, ht⟩
  · exact ⟨none, 0, by rw [h0], by omega, by unfold maxLen; omega, rfl, .inl h0⟩
  · refine ⟨_, cap, rfl, hn, hc, rfl, .inr ⟨g, 0, rfl, (hl g rfl).2, fun i hi => ?_⟩⟩
    have hk := World.ownsRow.cellAt h i (by omega)
    rw [Nat.zero_add, hk]
    simp [hi, txt]
/-- A list of texts is told. -/
def MadeTx (w : World) (l : List (List UInt8)) (e : Ending) (w' : World) : Prop := ∃ A c, e = .returned (.slice A l.length c) ∧ l.length ≤ c ∧ c ≤ maxLen ∧ TextsAt w' w'.heap.size A l.length l ∧ Ext w w'
end Go.Proofs.Ytlhncfjeleibmaa
