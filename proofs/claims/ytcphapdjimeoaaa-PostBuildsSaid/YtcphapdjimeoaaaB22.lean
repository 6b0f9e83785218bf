/- The program's small functions of chapter 13: mayBound, isRow, lowBits, number, count. The parts of a row as a value of the program: count, number. What the laws of chapter 13 ask of the program; the example; EfWrites, EfShort, EfNone. -/
import Derived.Test.YtcphapdjimeoaaaB01
import Derived.Test.YtcphapdjimeoaaaB14
import Derived.Test.YtcphapdjimeoaaaB15
namespace Go.Proofs.Ytcphapdjimeoaaa
open Go.RowKit Num Ef

theorem efMay_any (bound : Int) (w : World) : Calls Try.prog 76 #[.int .i64 bound] w fun e w' => e = .returned (.bool (decide (0 ≤ bound ∧ bound ≤ 20000))) ∧ w = w' := by
  by_cases h0 : 0 ≤ bound
  · by_cases h1 : bound ≤ 20000
    · have HD := hide (show decide (0 ≤ bound ∧ bound ≤ 20000) = true from decide_eq_true ⟨h0, h1⟩)
      generalize decide (0 ≤ bound ∧ bound ≤ 20000) = res at *
      go_enter Try.func76, Try.ntmps76
      go_wp2
      go_ret
      exact ⟨ret_bool HD.out.symm, rfl⟩
    · have HD := hide (show decide (0 ≤ bound ∧ bound ≤ 20000) = false from decide_eq_false fun h => h1 h.2)
      generalize decide (0 ≤ bound ∧ bound ≤ 20000) = res at *
      go_enter Try.func76, Try.ntmps76
      go_wp2
      go_ret
      exact ⟨ret_bool HD.out.symm, rfl⟩
  · have HD := hide (show decide (0 ≤ bound ∧ bound ≤ 20000) = false from decide_eq_false fun h => h0 h.1)
    generalize decide (0 ≤ bound ∧ bound ≤ 20000) = res at *
    go_enter Try.func76, Try.ntmps76
    go_wp2
    go_ret
    exact ⟨ret_bool HD.out.symm, rfl⟩

/-- The number ahead. -/
def Ef.aheadOf (ids : List Int) (i : Nat) : Int := if i = 0 then -1 else ids.getD (i - 1) 0
theorem Ef.aheadOf_succ (ids : List Int) (i : Nat) : aheadOf ids (i + 1) = ids.getD i 0 := by unfold aheadOf; rw [if_neg (by omega), Nat.add_sub_cancel]

set_option maxHeartbeats 1000000 in
set_option maxRecDepth 100000 in
theorem efIsRow_any (A : Option Addr) (n c : Nat) (ids : List Int) (bound : Int) (w : World) (h : IntsAt w w.heap.size A n ids) (hn : n ≤ 1000000) :
    Calls Try.prog 77 #[.int .i64 bound, .slice A n c] w fun e w' => e = .returned (.bool (row bound ids)) ∧ w = w' := by
  have hl := h.1
  have HA := hide h
  have HYes := hide (show (∀ i, i < n → aheadOf ids i < ids.getD i 0 ∧ ids.getD i 0 < bound) → row bound ids = true from fun h => row_yes (by rw [hl]; exact h))
  have HNo := hide (show ∀ i, i < n → (ids.getD i 0 ≤ aheadOf ids i ∨ bound ≤ ids.getD i 0) → row bound ids = false from fun i hi h => row_no (by omega) h)
  generalize row bound ids = res at *
  clear h hl
  go_enter Try.func77, Try.ntmps77
  go_wp2
  go_loopw [10, 5] (fun x y wr => ∃ i : Nat, i ≤ n ∧ x = .int .i64 (i : Int) ∧ y = .int .i64 (aheadOf ids i) ∧ (∀ j, j < i → aheadOf ids j < ids.getD j 0 ∧ ids.getD j 0 < bound) ∧ wr = w) (fun x _ _ => n - (intOf x).toNat)
  case atStart => exact ⟨0, by omega, rfl, rfl, fun j hj => absurd hj (by omega), rfl⟩
  case round =>
    obtain ⟨i, hi, rfl, rfl, hall, rfl⟩ := hrel
    have HAll := hide hall
    clear hall
    by_cases hlt : i < n
    · have hiI : (i : Int) < (n : Int) := by omega
      rcases HA.out.2 with hn0 | ⟨b1, o1, rfl, _, hc1⟩
      · omega
      have e1 := hc1 i hlt
      have HNi := hide (HNo.out i hlt)
      have HNext := hide (show aheadOf ids i < ids.getD i 0 → ids.getD i 0 < bound → ∀ j, j < i + 1 → aheadOf ids j < ids.getD j 0 ∧ ids.getD j 0 < bound from fun h1 h2 j hj => by
        by_cases e : j = i
        · rw [e]; exact ⟨h1, h2⟩
        · exact HAll.out j (by omega))
      have HS := hide (aheadOf_succ ids i)
      obtain ⟨y, hy⟩ : ∃ y, y = ids.getD i 0 := ⟨_, rfl⟩
      obtain ⟨z, hz⟩ : ∃ z, z = aheadOf ids i := ⟨_, rfl⟩
      rw [← hy] at e1 HNi HNext HS
      rw [← hz] at HNi HNext ⊢
      clear hc1 hy hz
      by_cases g1 : y ≤ z
      · have HR := hide (HNi.out (.inl g1))
        clear HNext HNi HS
        go_wp2
        go_ret
        exact ⟨ret_bool HR.out.symm, rfl⟩
      · by_cases g2 : bound ≤ y
        · have HR := hide (HNi.out (.inr g2))
          clear HNext HNi HS
          go_wp2
          go_ret
          exact ⟨ret_bool HR.out.symm, rfl⟩
        · have hNx := hide (HNext.out (by omega) (by omega))
          clear HNext HNi
          go_wp2
          go_roundw
          case rel => exact ⟨i + 1, by omega, by go_num, by rw [HS.out], hNx.out, trivial⟩
          case measure => simp [intOf]; omega
    · obtain rfl : n = i := by omega
      have HN := hide (HYes.out HAll.out)
      go_wp2
      go_ret
      exact ⟨ret_bool HN.out.symm, rfl⟩

theorem wrap64_pow {k : Nat} (h : k ≤ 20) : wrap64 (2 ^ k) = ((2 ^ k : Nat) : Int) := by
  have h1 : (2 : Nat) ^ k ≤ 2 ^ 20 := Nat.pow_le_pow_right (by omega) h
  rw [show (2 : Int) ^ k = ((2 ^ k : Nat) : Int) by simp]
  generalize 2 ^ k = v at *
  unfold wrap64
  omega

set_option maxHeartbeats 1000000 in
set_option maxRecDepth 100000 in
theorem efLow_any (bd n : Nat) (w : World) (hb : bd ≤ 20000) (hn : n ≤ 20000) : Calls Try.prog 92 #[.int .i64 (bd : Int), .int .i64 (n : Int)] w fun e w' => e = .returned (.int .i64 ((widE (bd : Int) n : Nat) : Int)) ∧ Qt w w' := by
  by_cases hz : n = 0
  · subst hz
    have HW := hide (show widE (bd : Int) 0 = 0 by unfold widE wid; rw [Nat.div_zero]; rfl)
    rw [HW.out]
    go_enter Try.func92, Try.ntmps92
    go_wp2
    go_ret
    exact ⟨rfl, Qt.refl _⟩
  have hzb : ((n : Int) == 0) = false := by rw [beq_eq_false_iff_ne]; omega
  have hnI : (n : Int) ≠ 0 := by omega
  obtain ⟨q, hq⟩ : ∃ q, q = bd / n := ⟨_, rfl⟩
  have hqI : (bd : Int).tdiv (n : Int) = (q : Int) := by rw [hq, Int.tdiv_eq_ediv_of_nonneg (by omega)]; rfl
  have hq2 : q ≤ 20000 := by rw [hq]; exact Nat.le_trans (Nat.div_le_self _ _) (by omega)
  have HWd := hide (show widE (bd : Int) n = wid q by unfold widE; rw [hq, Int.toNat_natCast])
  rw [HWd.out]
  clear hq HWd
  go_enter Try.func92, Try.ntmps92
  go_wp2
  go_loopw [5] (fun x wr => ∃ j : Nat, x = .int .i64 (j : Int) ∧ (j = 0 ∨ 2 ^ j ≤ q) ∧ j ≤ 16 ∧ Qt w wr) (fun x _ => 20 - (intOf x).toNat)
  case atStart => exact ⟨0, rfl, .inl rfl, by omega, Qt.refl _⟩
  case round =>
    obtain ⟨j, rfl, hj, hj2, hQ⟩ := hrel
    have hwp := wrap64_pow (k := j + 1) (by omega)
    obtain ⟨p, hp⟩ : ∃ p, p = 2 ^ (j + 1) := ⟨_, rfl⟩
    rw [← hp] at hwp
    by_cases hlt : p ≤ q
    · have hI : (p : Int) ≤ (q : Int) := by omega
      have hd : decide ((p : Int) ≤ (q : Int)) = true := decide_eq_true hI
      have hj15 : j < 15 := by
        refine Decidable.byContradiction fun h => ?_
        have : 2 ^ 15 ≤ 2 ^ (j + 1) := Nat.pow_le_pow_right (by omega) (by omega)
        omega
      have HP := hide hp
      have HJ := hide hj
      clear hp hj
      go_wp2_with fail
      go_quiet (fail)
      go_wp2
      go_roundw
      case rel => exact ⟨j + 1, by go_num, .inr (by rw [← HP.out]; exact hlt), by omega, hQ.drewN _⟩
      case measure => simp [intOf]; omega
    · have hI : ¬ (p : Int) ≤ (q : Int) := by omega
      have hd : decide ((p : Int) ≤ (q : Int)) = false := decide_eq_false hI
      have HW := hide (wid_is (q := q) (j := j) hj (by rw [← hp]; omega))
      clear hp hj
      go_wp2_with fail
      go_quiet (fail)
      go_wp2
      go_ret
      exact ⟨ret_i64 (by rw [HW.out]), hQ.drewN _⟩

end Go.Proofs.Ytcphapdjimeoaaa

namespace Go.Proofs.Ytcphapdjimeoaaa
open Go.RowKit Num Ef

theorem Ef.part_bits (h x k : Nat) (hk : k ≤ 14) (hx : x < 2 ^ k) (hh : h ≤ 1000000) : wrap64 ((h : Int) * 2 ^ k) = ((h * 2 ^ k : Nat) : Int) ∧ bits .or .i64 ((h * 2 ^ k : Nat) : Int) (x : Int) = ((h * 2 ^ k + x : Nat) : Int) := by
  have hpw : (2 : Nat) ^ k ≤ 2 ^ 14 := Nat.pow_le_pow_right (by omega) hk
  have hm : h * 2 ^ k ≤ 1000000 * 2 ^ 14 := Nat.mul_le_mul hh hpw
  have h1 : h * 2 ^ k < 4611686018427387904 := by omega
  have h2 : x < 4611686018427387904 := by omega
  refine ⟨?_, by rw [i64_or_nat (h * 2 ^ k) x h1 h2, part_or h x k hx]⟩
  have e : (h : Int) * 2 ^ k = ((h * 2 ^ k : Nat) : Int) := by push_cast; rfl
  rw [e]
  generalize h * 2 ^ k = m at *
  unfold wrap64
  omega

/-- A row's parts as a value, its memory below block B. -/
structure PartsV (w : World) (B : Nat) (k : Nat) (A1 : Option Addr) (n1 : Nat) (A2 : Option Addr) (n2 : Nat) (ids : List Int) : Prop where
  ex : ∃ L H, IntsAt w B A1 n1 L ∧ IntsAt w B A2 n2 H ∧ Ef.Parts k ids L H
theorem PartsV.ext {w w' : World} {k n1 n2 : Nat} {A1 A2 : Option Addr} {ids : List Int} (h : PartsV w w.heap.size k A1 n1 A2 n2 ids) (hE : Ext w w') : PartsV w' w'.heap.size k A1 n1 A2 n2 ids := by
  obtain ⟨L, H, h1, h2, h3⟩ := h.ex
  exact ⟨L, H, h1.later hE, h2.later hE, h3⟩
/-- Parts as a value. -/
def partsV (k : Nat) (A1 : Option Addr) (n1 c1 : Nat) (A2 : Option Addr) (n2 c2 : Nat) : Value := .agg #[.int .i64 (k : Int), .slice A1 n1 c1, .slice A2 n2 c2]

end Go.Proofs.Ytcphapdjimeoaaa

namespace Go.Proofs.Ytcphapdjimeoaaa
open Go.RowKit Num Ef

/-- Block g is a list of these numbers. -/
abbrev LstP := World → Nat → List Int → Prop
def LstKeep (LP : LstP) : Prop := ∀ {W W' : World} {g : Nat} {ids : List Int}, LP W g ids → Ext W W' → LP W' g ids
/-- What Read tells. -/
def RdTo (LP : LstP) (W : World) (r : List Int × Nat × Int) (e : Ending) (w' : World) : Prop :=
  Ext W w' ∧ (r.2.2 = 0 → ∃ g, e = .returned (.tuple #[.pointer (some ⟨g, 0, none⟩), .int .i64 (r.2.1 : Int), .int .i64 0]) ∧ LP w' g r.1) ∧ (r.2.2 ≠ 0 → e = .returned (.tuple #[.pointer none, .int .i64 0, .int .i64 r.2.2]))
/-- What All tells. -/
def AllTo (W : World) (ids : List Int) (e : Ending) (w' : World) : Prop :=
  ∃ A c, e = .returned (.slice A ids.length c) ∧ ids.length ≤ c ∧ c ≤ maxLen ∧ IntsAt w' w'.heap.size A ids.length ids ∧ Ext W w'
/-- What At tells. -/
def Ef.atE (ids : List Int) (i : Int) : Int := if 0 ≤ i ∧ i < (ids.length : Int) then ids.getD i.toNat 0 else 0
def AtTo (W : World) (ids : List Int) (i : Int) (e : Ending) (w' : World) : Prop := e = .returned (.tuple #[.int .i64 (atE ids i), .bool (decide (0 ≤ i ∧ i < (ids.length : Int)))]) ∧ Ext W w'
def NextTo (W : World) (ids : List Int) (x : Int) (e : Ending) (w' : World) : Prop := e = .returned (.tuple #[.int .i64 (nextE ids x).1, .int .i64 (nextE ids x).2.1, .bool (nextE ids x).2.2]) ∧ Ext W w'
/-- From world w on, the program's functions tell what the document's tell. -/
def EfWriteC (w : World) : Prop := ∀ (bound : Int) (ids : List Int) (A : Option Addr) (n c : Nat) (W : World), Ext w W → IsI64 bound → n ≤ c → c ≤ maxLen → n ≤ 20000 → IntsAt W W.heap.size A n ids → Calls Try.prog 57 #[.int .i64 bound, .slice A n c] W (MadeE W (writeE bound ids).1 (writeE bound ids).2)
theorem Ef.example : writeE 8 [2, 3, 5, 7] = ([4, 0x76, 0xA0], 0) := by decide +kernel

end Go.Proofs.Ytcphapdjimeoaaa

