/- Contracts of the program's small functions on matrices: counts, blank, row. Contract of the program's May. -/
import Derived.Test.YtkfipfhmbhmamaaDoorB04
import Derived.Laws.OwnMore
import Derived.Laws.CopyOwn
namespace Go.Proofs.YtkfipfhmbhmamaaDoor
open Go.RowKit

set_option maxRecDepth 100000 in
theorem counts_any (n : Int) (w : World) : Calls Tryd.prog 61 #[.int .i64 n] w fun e w' => e = .returned (.bool (decide (0 ≤ n ∧ n ≤ 255))) ∧ w = w' := by
  go_enter Tryd.func61, Tryd.ntmps61
  go_wp2
  all_goals go_ret
  all_goals exact ⟨ret_bool (by rw [Bool.eq_iff_iff]; simp; omega), rfl⟩

theorem zero_cells (n : Nat) : (madeCells (Value.int .u8 0).cells n).toList = (List.replicate n (0 : UInt8)).map byteV := by
  have : madeCells (Value.int .u8 0).cells n = ((List.replicate n (0 : UInt8)).map byteV).toArray := by
    apply Array.ext
    · simp [size_madeCells]
    · intro i h1 h2
      simp [madeCells, Value.cells, byteV, Nat.mod_one]
  rw [this]
theorem results_mat1 {fn : Func} {p : Tmp} (h : fn.results = #[.cell p 76]) (tmps : Array Value) {w : World} {g : Nat} {cs : Array Value} (hp : tmps.getD p undef = .pointer (some ⟨g, 0, none⟩))
    (hW : Whole w g 76 cs) (hs : cs.size = 3) : (results fn tmps).run Tryd.prog w = .ok (.agg cs) w := by
  have hp' : tmps[p]?.getD undef = .pointer (some ⟨g, 0, none⟩) := by simpa using hp
  have hl := run_loadVar_row (P := Tryd.prog) w g 76 76 cs (0, 0) _ hW Tryd.underlying76 rfl (by rw [hs]; exact mat_info)
  simp [results, h, hp', asAddr, hl]

/-- A new matrix of zeros. -/
def Blank (w : World) (r c : Nat) (e : Ending) (w' : World) : Prop := ∃ g, e = .returned (matV r c (.slice (some ⟨g, 0, none⟩) (r * c) (r * c))) ∧ w.heap.size ≤ g ∧ OwnB w' w.heap.size (.slice (some ⟨g, 0, none⟩) (r * c) (r * c)) (List.replicate (r * c) 0) ∧ Ext w w'

set_option maxHeartbeats 1000000 in
set_option maxRecDepth 100000 in
theorem blank_any (r c : Nat) (hr : r ≤ 255) (hc : c ≤ 510) (w : World) : Calls Tryd.prog 62 #[.int .i64 (r : Int), .int .i64 (c : Int)] w (Blank w r c) := by
  have hE1 := extNew w (.cells #[.int .i64 0, .int .i64 0, .slice none 0 0] 76)
  have hW1 := Whole.new w 76 #[.int .i64 0, .int .i64 0, .slice none 0 0]
  have hrc : r * c ≤ 255 * 510 := Nat.mul_le_mul hr hc
  have hmul : IntKind.i64.wrap ((r : Int) * (c : Int)) = ((r * c : Nat) : Int) := by rw [IntKind.wrap_i64]; rw [← Int.natCast_mul]; omega
  obtain ⟨i, hi, hz, hsz, hby⟩ := info_parts byte_info
  have HG := hide (show Blank w r c = fun e w' => ∃ g, e = .returned (matV r c (.slice (some ⟨g, 0, none⟩) (r * c) (r * c))) ∧ w.heap.size ≤ g ∧ OwnB w' w.heap.size (.slice (some ⟨g, 0, none⟩) (r * c) (r * c)) (List.replicate (r * c) 0) ∧ Ext w w' from rfl)
  generalize r * c = n at *
  rw [HG.out]
  clear HG
  have hi4 : n ≤ maxLen := by unfold maxLen; omega
  have hi5 : i.bytes * n ≤ 281474976710656 := by rw [hby]; omega
  have hn0 : 0 ≤ (n : Int) := by omega
  go_enter Tryd.func62, Tryd.ntmps62
  go_wp2_with (first
    | (at_make; refine wpList_make_full _ rfl _ _ _ rfl (w.heap.size + 1) 5 i _ 1 Tryd.underlying27 hi hz hsz _ _ _ _ n rfl rfl rfl rfl hi5 hi4 (by simp) ?_; intro w4 hO4 hG4; have hW4 := hW1.ownGrown hG4 (by simp))
    | (refine wpList_storeW rfl 76 (.tmp 4) (.tmp 11) rfl rfl rfl hW4 rfl mat_info (mat_one rfl) ?_; intro w5 hW5 hG5 _))
  refine bodyPost_ret (results_mat1 rfl _ rfl hW5 rfl) rfl ?_
  have hO : OwnB w4 (w.heap.size + 1) (.slice (some ⟨w.heap.size + 1, 0, none⟩) n n) (List.replicate n 0) := by
    unfold OwnB
    rw [Nat.mul_one, zero_cells, World.size_alloc] at hO4
    simpa using hO4
  have hE4 := hE1.grown' hG4
  exact ⟨_, rfl, by omega, ((Mod.ofRow (ob := none) hG5).own hO (by simp [Value.ownBlock]) (by simp [Classical.em])).mono (by omega), Below.grown hE4 hG5 hE4.le (fun k hk => by cases hk; omega)⟩

/-- The place of a row. -/
theorem cutAt_zero {g k i : Nat} (h : k ≠ i) : cutAt (some ⟨g, 0, none⟩) k i = some ⟨g, i, none⟩ := by
  unfold cutAt
  rw [if_neg h]
  simp [Addr.add]
  exact Eq.symm

set_option maxHeartbeats 1000000 in
set_option maxRecDepth 100000 in
theorem row_any' (r i c k n : Nat) (A : Option Addr) (hi : i ≤ 255) (hc : c ≤ 510) (hk : (i + 1) * c ≤ k) (w : World) : Calls Tryd.prog 63 #[matV r c (.slice A n k), .int .i64 (i : Int)] w fun e w' => e = .returned (.slice (cutAt A k (i * c)) c (k - i * c)) ∧ Ext w w' := by
  have hE1 := extNew w (.cells #[.int .i64 r, .int .i64 c, .slice A n k] 76)
  have hic : (i + 1) * c ≤ 256 * 510 := Nat.mul_le_mul (by omega) hc
  have hm1 : IntKind.i64.wrap ((i : Int) * (c : Int)) = ((i * c : Nat) : Int) := by
    have : i * c ≤ (i + 1) * c := Nat.mul_le_mul_right _ (by omega)
    rw [IntKind.wrap_i64]; rw [← Int.natCast_mul]; omega
  have hm2 : IntKind.i64.wrap (((i : Int) + 1) * (c : Int)) = (((i + 1) * c : Nat) : Int) := by
    rw [IntKind.wrap_i64, show ((i : Int) + 1) = ((i + 1 : Nat) : Int) from rfl, ← Int.natCast_mul]
    omega
  have hd : (i + 1) * c = i * c + c := by rw [Nat.add_mul, Nat.one_mul]
  have HC := fun W => run_mid W A n k .i64 .i64 ((i * c : Nat) : Int) (((i + 1) * c : Nat) : Int) (by omega) (by omega) (by omega)
  simp only [Int.toNat_natCast] at HC
  rw [show (i + 1) * c - i * c = c by omega] at HC
  generalize (i + 1) * c = e2 at *
  generalize i * c = e1 at *
  unfold matV
  go_enter Tryd.func63, Tryd.ntmps63
  go_wp2
  · skip
    subst h
    go_ret
    exact ⟨by simp [cutAt], hE1⟩
  · skip
    go_ret
    exact ⟨by simp [cutAt, h], hE1⟩

/-- One cell, put anew. -/
theorem cells_set (c N : Nat) (F : Mat.M) {i j : Nat} (hj : j < c) (x : UInt8) : (cellsOf c F N).set (i * c + j) x = cellsOf c (fun a b => if a = i ∧ b = j then x else F a b) N := by
  apply List.ext_getElem
  · simp [cellsOf_len]
  · intro p h1 h2
    rw [List.getElem_set]
    simp only [cellsOf, List.getElem_map, List.getElem_range]
    have hd : (i * c + j) / c = i := by rw [Nat.mul_comm, Nat.mul_add_div (by omega), Nat.div_eq_of_lt hj, Nat.add_zero]
    have hm : (i * c + j) % c = j := by rw [Nat.mul_comm, Nat.mul_add_mod, Nat.mod_eq_of_lt hj]
    by_cases hp : i * c + j = p
    · subst hp
      rw [if_pos rfl, hd, hm, if_pos ⟨rfl, rfl⟩]
    · rw [if_neg hp, if_neg]
      rintro ⟨h3, h4⟩
      have := Nat.div_add_mod p c
      rw [h3, h4, Nat.mul_comm] at this
      exact hp this
theorem cells_zero (c N : Nat) : List.replicate N (0 : UInt8) = cellsOf c (fun _ _ => 0) N := by
  unfold cellsOf
  rw [List.map_const', List.length_range]
theorem row_place {r c i : Nat} (hi : i < r) (hc : 0 < c) : i * c + c ≤ r * c ∧ r * c ≠ i * c := by
  have : (i + 1) * c ≤ r * c := Nat.mul_le_mul_right _ hi
  rw [Nat.add_mul, Nat.one_mul] at this
  exact ⟨this, by omega⟩
end Go.Proofs.YtkfipfhmbhmamaaDoor

namespace Go.Proofs.YtkfipfhmbhmamaaDoor
open Go.RowKit

set_option maxHeartbeats 1000000 in
set_option maxRecDepth 100000 in
theorem matMay_any (m : MV) (A : Option Addr) (k : Nat) (w : World) (hn : m.l.length ≤ maxLen) :
    Calls Tryd.prog 92 #[m.arg A k] w fun e w' => e = .returned (.bool m.may) ∧ Ext w w' := by
  obtain ⟨r, c, l⟩ := m
  have hE := extNew w (.cells #[.int .i64 r, .int .i64 c, .slice A l.length k] 76)
  have HM := hide (show MV.may ⟨r, c, l⟩ = decide (0 ≤ r ∧ r ≤ 255 ∧ 0 ≤ c ∧ c ≤ 255 ∧ (l.length : Int) = r * c) from rfl)
  have C1 := counts_any r
  have C2 := counts_any c
  unfold MV.arg
  dsimp only at hn ⊢
  by_cases hr : 0 ≤ r ∧ r ≤ 255
  · rw [decide_eq_true hr] at C1
    by_cases hc : 0 ≤ c ∧ c ≤ 255
    · rw [decide_eq_true hc] at C2
      have h1 : 0 ≤ r * c := Int.mul_nonneg hr.1 hc.1
      have h2 : r * c ≤ 255 * 255 := Int.mul_le_mul hr.2 hc.2 hc.1 (by decide)
      have hw : IntKind.i64.wrap (r * c) = r * c := by rw [IntKind.wrap_i64]; omega
      have HM2 := hide (show MV.may ⟨r, c, l⟩ = decide ((l.length : Int) = r * c) by rw [HM.out]; simp [hr.1, hr.2, hc.1, hc.2])
      clear HM hr hc
      go_enter Tryd.func92, Tryd.ntmps92
      go_wp2_with fail
      refine (C1 _).mono ?_
      rintro e w1 ⟨rfl, rfl⟩
      go_wp2_with fail
      refine (C2 _).mono ?_
      rintro e w1 ⟨rfl, rfl⟩
      go_wp2
      go_ret
      exact ⟨ret_bool (by rw [HM2.out, Bool.eq_iff_iff]; simp), hE⟩
    · rw [decide_eq_false hc] at C2
      have HM2 := hide (show MV.may ⟨r, c, l⟩ = false by rw [HM.out]; simp; omega)
      clear HM hr hc
      go_enter Tryd.func92, Tryd.ntmps92
      go_wp2_with fail
      refine (C1 _).mono ?_
      rintro e w1 ⟨rfl, rfl⟩
      go_wp2_with fail
      refine (C2 _).mono ?_
      rintro e w1 ⟨rfl, rfl⟩
      go_wp2
      go_ret
      exact ⟨ret_bool (by rw [HM2.out]), hE⟩
  · rw [decide_eq_false hr] at C1
    have HM2 := hide (show MV.may ⟨r, c, l⟩ = false by rw [HM.out]; simp; omega)
    clear HM hr
    go_enter Tryd.func92, Tryd.ntmps92
    go_wp2_with fail
    refine (C1 _).mono ?_
    rintro e w1 ⟨rfl, rfl⟩
    go_wp2
    go_ret
    exact ⟨ret_bool (by rw [HM2.out]), hE⟩

end Go.Proofs.YtkfipfhmbhmamaaDoor

