/- What the laws of chapter 6 ask of the program's parts; the example; what is more than statements reckon with. -/
import Derived.Test.YtbfkknoeaekajaaRsMend
import Derived.Lib.SlBytesConst
namespace Go.Proofs.Ytbfkknoeaekajaa
open Go.RowKit

theorem BoolsAt.ext {w w' : World} {A : Option Addr} {n : Nat} {L : List Bool} (h : BoolsAt w w.heap.size A n L) (hE : Ext w w') : BoolsAt w' w'.heap.size A n L := by
  refine ⟨h.1, h.2.imp_right ?_⟩
  rintro ⟨b, off, e, hb, hc⟩
  exact ⟨b, off, e, Nat.lt_of_lt_of_le hb hE.le, fun i hi => (hE.cell (i := off + i) hb).trans (hc i hi)⟩
/-- Not more than statements reckon with. -/
def few (ls : List (List UInt8)) : Prop := ls.length ≤ 16 ∧ ∀ i, i < ls.length → (ls.getD i []).length ≤ 40
/-- From world w on, the program's functions tell what the document's tell. -/
def ParityC (w : World) : Prop := ∀ (m : Int) (A : Option Addr) (k : Nat) (data : List (List UInt8)) (W : World), Ext w W → RowsAt W W.heap.size A data.length data → data.length ≤ k → data.length ≤ 1000 → (∀ i, i < data.length → (data.getD i []).length ≤ 1000) →
  Calls Try.prog 18 #[.int .i64 m, .slice A data.length k] W (MadePE W (parityE m data).1 (parityE m data).2)
def MendC (w : World) : Prop := ∀ (k m : Int) (A1 A2 : Option Addr) (c1 c2 : Nat) (parts : List (List UInt8)) (good : List Bool) (W : World), Ext w W → -9223372036854775808 ≤ k → k ≤ 9223372036854775807 → RowsAt W W.heap.size A1 parts.length parts → BoolsAt W W.heap.size A2 good.length good →
  parts.length ≤ c1 → good.length ≤ c2 → parts.length ≤ 1000 → good.length ≤ 1000 → (∀ i, i < parts.length → (parts.getD i []).length ≤ 1000) →
  Calls Try.prog 21 #[.int .i64 k, .int .i64 m, .slice A1 parts.length c1, .slice A2 good.length c2] W (MadePE W (mendE k m parts good).1 (mendE k m parts good).2)
def RightC (w : World) : Prop := ∀ (k m : Int) (A : Option Addr) (c : Nat) (parts : List (List UInt8)) (W : World), Ext w W → -9223372036854775808 ≤ k → k ≤ 9223372036854775807 → RowsAt W W.heap.size A parts.length parts → parts.length ≤ c → parts.length ≤ 1000 → (∀ i, i < parts.length → (parts.getD i []).length ≤ 1000) →
  Calls Try.prog 24 #[.int .i64 k, .int .i64 m, .slice A parts.length c] W fun e W' => e = .returned (.bool (rightR k m parts)) ∧ Ext W W'

theorem mend11 : mendE 1 1 [[97], []] [true, false] = ([[97], [97]], 0) := by
  have hg : goodAt [true, false] = [0] := by decide
  have ha : alike ([[97]] : List (List UInt8)) := by decide
  have h := mend_code (k := 1) (m := 1) (parts := [[97], []]) (good := [true, false]) (D := [[97]]) (by omega) (by omega) rfl rfl rfl ha (by rw [hg]; simp) (fun i hi hgd => by
    have hi0 : i = 0 := by
      rcases Nat.lt_or_ge i 1 with h | h
      · omega
      · obtain rfl : i = 1 := by omega
        simp at hgd
    subst hi0
    rw [codeL_data (k := 1) (t := 1 + 1) (D := [[97]]) rfl ha (by omega) (by omega)]
    rfl)
  have h2 : codeL 1 (1 + 1) [[97]] = [[97], [97]] := by
    rw [code_split (k := 1) (m := 1) (D := [[97]]) rfl ha]
    have h3 : cauchyF 1 0 0 = 1 := by decide +kernel
    simp [timesL, List.range_succ, rowB, cellL, Mat.sum, h3, Mat.one_fm]
  rw [h2] at h
  exact h

set_option maxHeartbeats 2000000 in
set_option maxRecDepth 100000 in
theorem great6_any (A : Option Addr) (c : Nat) (ls : List (List UInt8)) (w : World) (h : RowsAt w w.heap.size A ls.length ls) :
    Calls Try.prog 16 #[.slice A ls.length c] w fun e w' => ∃ b, e = .returned (.bool b) ∧ (b = false → few ls) ∧ Ext w w' := by
  by_cases hl : (16 : Int) < (ls.length : Int)
  · clear h
    go_enter Try.func16, Try.ntmps16
    go_wp2
    go_ret
    exact ⟨true, rfl, fun h => (by cases h), Ext.refl _⟩
  · go_enter Try.func16, Try.ntmps16
    go_wp2
    go_loopw [3] (fun x wr => ∃ j : Nat, j ≤ ls.length ∧ x = .int .i64 (j : Int) ∧ (∀ i, i < j → (ls.getD i []).length ≤ 40) ∧ Ext w wr) (fun x _ => ls.length - (intOf x).toNat)
    case atStart => exact ⟨0, by omega, rfl, fun i hi => absurd hi (by omega), Ext.refl _⟩
    case round =>
      obtain ⟨j, hj, rfl, hz, hE⟩ := hrel
      have HZ := hide hz
      clear hz
      by_cases hlt : j < ls.length
      · rcases (h.ext hE).2 with h0 | ⟨b, o, rfl, hB, hcell⟩
        · omega
        obtain ⟨x, k1, Ax, kx, hx, _, _, _⟩ := hcell j hlt
        subst hx
        have hj0 : (0 : Int) ≤ (j : Int) := by omega
        have hj2 : (j : Int) < (ls.length : Int) := by omega
        obtain ⟨nx, hnx⟩ : ∃ n, n = (ls.getD j []).length := ⟨_, rfl⟩
        rw [← hnx] at k1
        have HX := hide hnx
        clear hnx hcell h
        by_cases h40 : (40 : Int) < (nx : Int)
        · go_wp2
          go_ret
          exact ⟨true, rfl, fun h => (by cases h), hE⟩
        · go_wp2
          go_roundw
          case rel =>
            refine ⟨j + 1, by omega, by go_num, fun i hi => ?_, hE⟩
            by_cases hij : i < j
            · exact HZ.out i hij
            · obtain rfl : i = j := by omega
              rw [← HX.out]
              omega
          case measure => simp [intOf]; omega
      · obtain rfl : ls.length = j := by omega
        clear h
        go_wp2
        go_ret
        exact ⟨false, rfl, fun _ => ⟨by omega, HZ.out⟩, hE⟩

set_option maxHeartbeats 2000000 in
set_option maxRecDepth 100000 in
theorem alive6_any {w W : World} (hM : MendC w) (hE : Ext w W) : Calls Try.prog 15 #[] W fun e W' => e = .returned (.bool true) ∧ Ext W W' := by
  have kc := fun (w : World) (C : Array Value) (n c : Nat) => Lib.run_convert_bytes_const (P := Try.prog) w 35 5 C n c Try.underlying35 Try.underlying5
  obtain ⟨W1, hW1⟩ : ∃ X, X = W.alloc (.cells #[.int .u8 97] 5 (1, 2)) := ⟨_, rfl⟩
  have hs1 : W1.heap.size = W.heap.size + 1 := by rw [hW1, World.size_alloc]
  have hE1 : Ext W W1 := by rw [hW1]; exact extNew W _
  have hb1 : Bytes W1 W1.heap.size (some ⟨W.heap.size, 0, none⟩) 1 [97] := by rw [hW1]; exact bytesNew W [97] #[.int .u8 97] 5 (1, 2) rfl 1 rfl
  have hE2 := extNew W1 (.cells #[.slice (some ⟨W.heap.size, 0, none⟩) 1 1, .slice none 0 0] 35)
  have hE3 := extNew (W1.alloc (.cells #[.slice (some ⟨W.heap.size, 0, none⟩) 1 1, .slice none 0 0] 35)) (.cells #[.bool true, .bool false] 4)
  have hR2 : RowsAt (W1.alloc (.cells #[.slice (some ⟨W.heap.size, 0, none⟩) 1 1, .slice none 0 0] 35)) (W1.alloc (.cells #[.slice (some ⟨W.heap.size, 0, none⟩) 1 1, .slice none 0 0] 35)).heap.size (some ⟨W1.heap.size, 0, none⟩) 2 [[97], []] := by
    refine ⟨rfl, .inr ⟨W1.heap.size, 0, rfl, by simp, fun i hi => ?_⟩⟩
    match i, hi with
    | 0, _ => exact ⟨_, cellNew _ _ _ _ _, some ⟨W.heap.size, 0, none⟩, 1, rfl, by simp, by unfold maxLen; omega, hE2.bytes hb1⟩
    | 1, _ => exact ⟨_, cellNew _ _ _ _ _, none, 0, rfl, by simp, by unfold maxLen; omega, Bytes.none _ _ _⟩
  have hB3 : BoolsAt ((W1.alloc (.cells #[.slice (some ⟨W.heap.size, 0, none⟩) 1 1, .slice none 0 0] 35)).alloc (.cells #[.bool true, .bool false] 4)) ((W1.alloc (.cells #[.slice (some ⟨W.heap.size, 0, none⟩) 1 1, .slice none 0 0] 35)).alloc (.cells #[.bool true, .bool false] 4)).heap.size (some ⟨W1.heap.size + 1, 0, none⟩) 2 [true, false] := by
    refine ⟨rfl, .inr ⟨W1.heap.size + 1, 0, rfl, by simp, fun i hi => ?_⟩⟩
    have hs : W1.heap.size + 1 = (W1.alloc (.cells #[.slice (some ⟨W.heap.size, 0, none⟩) 1 1, .slice none 0 0] 35)).heap.size := by rw [World.size_alloc]
    rw [hs]
    match i, hi with
    | 0, _ => exact cellNew _ _ _ _ _
    | 1, _ => exact cellNew _ _ _ _ _
  have hR3 := hR2.ext hE3
  have hE13 := (hE1.trans hE2).trans hE3
  have C := hM 1 1 _ _ 2 2 [[97], []] [true, false] _ (hE.trans hE13) (by omega) (by omega) hR3 hB3 (by simp) (by simp) (by simp) (by simp) (fun i hi => by
    match i, hi with
    | 0, _ => simp
    | 1, _ => simp)
  rw [mend11] at C
  clear hR2 hR3 hB3 hb1
  rw [hs1] at *
  go_enter Try.func15, Try.ntmps15
  go_wp2_with fail
  rw [← hW1]
  refine C.mono ?_
  rintro e w2 ⟨v, rfl, hO, hE5⟩
  obtain ⟨A, c, rfl, _, _, hR⟩ := hO.form
  rcases hR.2 with h0 | ⟨b, o, rfl, hb, hcell⟩
  · cases h0
  obtain ⟨x, k0, A0, c0, rfl, _, _, hB0⟩ := hcell 0 (by simp)
  obtain ⟨y, k1, A1, c1, rfl, _, _, hB1⟩ := hcell 1 (by simp)
  have v0 := conv_bytes c0 hB0 (fun h => by subst h; rcases hB0.2 with h | ⟨_, _, h, _⟩; exact h; cases h)
  have v1 := conv_bytes c1 hB1 (fun h => by subst h; rcases hB1.2 with h | ⟨_, _, h, _⟩; exact h; cases h)
  rw [Nat.add_zero] at k0
  clear hcell hR hO C hB0 hB1
  have e0 : (([[97], [97]] : List (List UInt8)).getD 0 []).length = 1 := rfl
  have e1 : (([[97], [97]] : List (List UInt8)).getD 1 []).length = 1 := rfl
  have e2 : ([[97], [97]] : List (List UInt8)).getD 0 [] = [97] := rfl
  have e3 : ([[97], [97]] : List (List UInt8)).getD 1 [] = [97] := rfl
  rw [e0] at k0 v0
  rw [e1] at k1 v1
  rw [e2] at v0
  rw [e3] at v1
  clear e0 e1 e2 e3
  have hEE := hE13.trans hE5
  clear hE13 hE3 hE2 hE1 hW1 hs1 kc hE5
  go_wp2
  go_ret
  exact ⟨rfl, hEE⟩
end Go.Proofs.Ytbfkknoeaekajaa
