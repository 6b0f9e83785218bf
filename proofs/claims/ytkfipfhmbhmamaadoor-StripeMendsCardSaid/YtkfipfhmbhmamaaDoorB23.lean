/- What the laws of chapter 6 ask of the program's parts; the example; what is more than statements reckon with. The laws RsParity, RsMends, RsRight. -/
import Derived.Test.YtkfipfhmbhmamaaDoorB08
import Derived.Lib.SlBytesConst
namespace Go.Proofs.YtkfipfhmbhmamaaDoor
open Go.RowKit

theorem BoolsAt.ext {w w' : World} {A : Option Addr} {n : Nat} {L : List Bool} (h : BoolsAt w w.heap.size A n L) (hE : Ext w w') : BoolsAt w' w'.heap.size A n L := by
  refine ⟨h.1, h.2.imp_right ?_⟩
  rintro ⟨b, off, e, hb, hc⟩
  exact ⟨b, off, e, Nat.lt_of_lt_of_le hb hE.le, fun i hi => (hE.cell (i := off + i) hb).trans (hc i hi)⟩
/-- Not more than statements reckon with. -/
def few (ls : List (List UInt8)) : Prop := ls.length ≤ 16 ∧ ∀ i, i < ls.length → (ls.getD i []).length ≤ 40
/-- From world w on, the program's functions tell what the document's tell. -/
def ParityC (w : World) : Prop := ∀ (m : Int) (A : Option Addr) (k : Nat) (data : List (List UInt8)) (W : World), Ext w W → RowsAt W W.heap.size A data.length data → data.length ≤ k → data.length ≤ 1000 → (∀ i, i < data.length → (data.getD i []).length ≤ 1000) →
  Calls Tryd.prog 26 #[.int .i64 m, .slice A data.length k] W (MadePE W (parityE m data).1 (parityE m data).2)
def MendC (w : World) : Prop := ∀ (k m : Int) (A1 A2 : Option Addr) (c1 c2 : Nat) (parts : List (List UInt8)) (good : List Bool) (W : World), Ext w W → -9223372036854775808 ≤ k → k ≤ 9223372036854775807 → RowsAt W W.heap.size A1 parts.length parts → BoolsAt W W.heap.size A2 good.length good →
  parts.length ≤ c1 → good.length ≤ c2 → parts.length ≤ 1000 → good.length ≤ 1000 → (∀ i, i < parts.length → (parts.getD i []).length ≤ 1000) →
  Calls Tryd.prog 73 #[.int .i64 k, .int .i64 m, .slice A1 parts.length c1, .slice A2 good.length c2] W (MadePE W (mendE k m parts good).1 (mendE k m parts good).2)
theorem mend11 : mendE 1 1 [[97], []] [true, false] = ([[97], [97]], 0) := by
  have hg : goodAt [true, false] = [0] := by decide
  have ha : alike ([[97]] : List (List UInt8)) := by decide
  have h := mend_code (k := 1) (m := 1) (parts := [[97], []]) (good := [true, false]) (D := [[97]]) (by omega) (by omega) rfl rfl rfl ha (by rw [hg]; simp) (fun i hi hgd => by
    have hi0 : i = 0 := by
      rcases Nat.lt_or_ge i 1 with h | h
      · omega
      · obtain rfl : i = 1 := by omega
        simp at hgd
    subst hi0
    rw [codeL_data (k := 1) (t := 1 + 1) (D := [[97]]) rfl ha (by omega) (by omega)]
    rfl)
  have h2 : codeL 1 (1 + 1) [[97]] = [[97], [97]] := by
    rw [code_split (k := 1) (m := 1) (D := [[97]]) rfl ha]
    have h3 : cauchyF 1 0 0 = 1 := by decide +kernel
    simp [timesL, List.range_succ, rowB, cellL, Mat.sum, h3, Mat.one_fm]
  rw [h2] at h
  exact h

end Go.Proofs.YtkfipfhmbhmamaaDoor

namespace Go.Proofs.YtkfipfhmbhmamaaDoor
open Go.RowKit

theorem parityE_len (m : Int) (data : List (List UInt8)) : (parityE m data).1.length ≤ 1000000 := by
  unfold parityE
  split
  · rename_i h
    have := mayK_iff.1 h.1
    rw [timesL_len]
    omega
  · simp
theorem mendE_len (k m : Int) (parts : List (List UInt8)) (good : List Bool) : (mendE k m parts good).1.length ≤ 1000000 := by
  unfold mendE
  split
  · rename_i h
    have := mayK_iff.1 h.1
    split
    · split
      · simp
      · rw [codeL_len]
        omega
    · simp
  · simp

end Go.Proofs.YtkfipfhmbhmamaaDoor

