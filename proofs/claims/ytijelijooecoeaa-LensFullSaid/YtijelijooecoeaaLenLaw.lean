/- What the laws of chapter 7 ask of the program's parts; the example; the laws without loops: LensFinds, LensWeighs, LensMore. -/
import Derived.Test.YtijelijooecoeaaLenWeigh
import Derived.Test.YtijelijooecoeaaStrs
import Derived.Test.YtijelijooecoeaaOwn
namespace Go.Proofs.Ytijelijooecoeaa.Len

/-- Merging by steps that are counted, for the example. -/
def mergeF : Nat → List Item → List Item → List Item
  | 0, _, _ => []
  | _ + 1, [], ps => ps
  | _ + 1, ls, [] => ls
  | f + 1, a :: ls, b :: ps => if a.1 ≤ b.1 then a :: mergeF f ls (b :: ps) else b :: mergeF f (a :: ls) ps
theorem mergeF_eq : ∀ (f : Nat) (ls ps : List Item), ls.length + ps.length ≤ f → mergeF f ls ps = mergeI ls ps
  | 0, [], [], _ => by rw [mergeF, nil_mergeI]
  | 0, _ :: _, _, h => by simp at h
  | 0, [], _ :: _, h => by simp at h
  | f + 1, [], ps, _ => by rw [mergeF, nil_mergeI]
  | f + 1, a :: ls, [], _ => by
    rw [mergeI_nil]
    rfl
  | f + 1, a :: ls, b :: ps, h => by
    rw [mergeF, mergeI_cons]
    simp only [List.length_cons] at h
    rw [mergeF_eq f ls (b :: ps) (by simp; omega), mergeF_eq f (a :: ls) ps (by simp; omega)]
def rowF (lv : List Item) (f : Nat) : Nat → List Item
  | 0 => lv
  | r + 1 => mergeF f lv (pairsOf (rowF lv f r))
theorem row_le (lv : List Item) : ∀ r, (row lv r).length ≤ 2 * lv.length
  | 0 => by rw [row]; omega
  | r + 1 => by
    have := row_le lv r
    rw [row_len]
    omega
theorem rowF_eq (lv : List Item) (f : Nat) (hf : 2 * lv.length ≤ f) : ∀ r, rowF lv f r = row lv r
  | 0 => rfl
  | r + 1 => by
    have := row_le lv r
    rw [rowF, row, rowF_eq lv f hf r, mergeF_eq f _ _ (by rw [pairsOf_len]; omega)]
theorem lens_example : lensE [5, 1, 1, 2] 15 = ([1, 3, 3, 2], 0) := by
  have hX : usedTo [5, 1, 1, 2] 4 = [(1, [1]), (1, [2]), (2, [3]), (5, [0])] := by decide
  have hr : row [(1, [1]), (1, [2]), (2, [3]), (5, [0])] 14 = rowF [(1, [1]), (1, [2]), (2, [3]), (5, [0])] 8 14 := (rowF_eq _ 8 (by decide) 14).symm
  have h : ∀ q, lenN [5, 1, 1, 2] 15 q = (syms ((rowF [(1, [1]), (1, [2]), (2, [3]), (5, [0])] 8 14).take 6)).count q := fun q => by
    unfold lenN
    rw [show [5, 1, 1, 2].length = 4 from rfl, hX]
    rw [if_neg (by decide)]
    rw [show (15 - 1 : Nat) = 14 from rfl, hr]
    rfl
  unfold lensE lensL
  rw [if_neg (by decide), show [5, 1, 1, 2].length = 4 from rfl, hX, if_neg (by decide)]
  refine Prod.ext ?_ rfl
  show (List.range 4).map (fun q => UInt8.ofNat (lenN [5, 1, 1, 2] (15 : Int).toNat q)) = _
  rw [show (15 : Int).toNat = 15 from rfl]
  simp only [h]
  decide +kernel
end Go.Proofs.Ytijelijooecoeaa.Len
namespace Go.Proofs.Ytijelijooecoeaa
open Go.RowKit Len

/-- Behind a call that tells bytes and an error. -/
def TellsB (w : World) (r : List UInt8 × Int) (e : Ending) (w' : World) : Prop := ∃ v, e = .returned (.tuple #[v, .int .i64 r.2]) ∧ OwnB w' w.heap.size v r.1 ∧ Ext w w'
/-- From world w on, the program's functions tell what the document's tell. -/
def LensC (w : World) : Prop := ∀ (often : List Nat) (limit : Int) (A : Option Addr) (n c : Nat) (W : World), Ext w W → n ≤ c → c ≤ maxLen → U32At W W.heap.size A n often → -9223372036854775808 ≤ limit → limit ≤ 9223372036854775807 →
  Calls Try.prog 10 #[.slice A n c, .int .i64 limit] W (TellsB W (lensE often limit))
def KraftC (w : World) : Prop := ∀ (l : List UInt8) (A : Option Addr) (n c : Nat) (W : World), Ext w W → n ≤ c → c ≤ maxLen → Bytes W W.heap.size A n l → Calls Try.prog 13 #[.slice A n c] W (TellsI .i64 W (kraftE l))
def CostC (w : World) : Prop := ∀ (often : List Nat) (l : List UInt8) (A1 A2 : Option Addr) (n1 c1 n2 c2 : Nat) (W : World), Ext w W → n1 ≤ c1 → n2 ≤ c2 → c1 ≤ maxLen → c2 ≤ maxLen → U32At W W.heap.size A1 n1 often → Bytes W W.heap.size A2 n2 l →
  Calls Try.prog 15 #[.slice A1 n1 c1, .slice A2 n2 c2] W (TellsI .u64 W (costE often l))
/-- The document's Lens. -/
def RefLensC (w : World) : Prop := ∀ (often : List Nat) (limit : Int) (A : Option Addr) (n c : Nat) (W : World), Ext w W → n ≤ c → U32At W W.heap.size A n often → -9223372036854775808 ≤ limit → limit ≤ 9223372036854775807 →
  Calls Try.prog 11 #[.slice A n c, .int .i64 limit] W (TellsB W (lensE often limit))
theorem lensE_len (often : List Nat) (limit : Int) : (lensE often limit).1.length ≤ 300 := by
  unfold lensE
  split
  · simp
  · split
    · simp
    · rw [lensL_len]; omega

set_option maxHeartbeats 2000000 in
set_option maxRecDepth 100000 in
theorem alive7_any {w W : World} (hL : LensC w) (hE : Ext w W) : Calls Try.prog 9 #[] W fun e W' => e = .returned (.bool true) ∧ Ext W W' := by
  have hE1 := extNew W (.cells #[.int .u32 5, .int .u32 1, .int .u32 1, .int .u32 2] 36)
  have hU : U32At (W.alloc (.cells #[.int .u32 5, .int .u32 1, .int .u32 1, .int .u32 2] 36)) (W.alloc (.cells #[.int .u32 5, .int .u32 1, .int .u32 1, .int .u32 2] 36)).heap.size (some ⟨W.heap.size, 0, none⟩) 4 [5, 1, 1, 2] := by
    refine ⟨rfl, fun i => ?_, .inr ⟨W.heap.size, 0, rfl, by simp, fun i hi => ?_⟩⟩
    · match i with
      | 0 => decide
      | 1 => decide
      | 2 => decide
      | 3 => decide
      | i + 4 => simp
    · rw [Nat.zero_add, cellNew]
      match i, hi with
      | 0, _ => rfl
      | 1, _ => rfl
      | 2, _ => rfl
      | 3, _ => rfl
  have C := hL [5, 1, 1, 2] 15 _ 4 4 _ (hE.trans hE1) (Nat.le_refl _) (by unfold maxLen; omega) hU (by omega) (by omega)
  rw [lens_example] at C
  clear hU
  go_enter Try.func9, Try.ntmps9
  go_wp2_with fail
  refine C.mono ?_
  rintro e w2 ⟨v, rfl, hO, hE2⟩
  dsimp only at hO
  obtain ⟨A, c, rfl, _, _, hB⟩ := hO.form
  have hE3 := extNew w2 (.cells #[.int .u8 1, .int .u8 3, .int .u8 3, .int .u8 2] 5)
  have hb2 := bytesNew w2 [1, 3, 3, 2] #[.int .u8 1, .int .u8 3, .int .u8 3, .int .u8 2] 5 (0, 0) rfl 4 rfl
  have S := same_any A (some ⟨w2.heap.size, 0, none⟩) 4 4 c 4 [1, 3, 3, 2] [1, 3, 3, 2] _ (hE3.bytes hB) hb2
  rw [sameB_true rfl] at S
  go_wp2_with fail
  refine S.mono ?_
  rintro e w3 ⟨rfl, hE4⟩
  go_wp2
  go_ret
  exact ⟨rfl, ((hE1.trans hE2).trans hE3).trans hE4⟩
end Go.Proofs.Ytijelijooecoeaa
