/- The document's Kraft of chapter 7. -/
import Derived.Test.YtabhemmmefefgaaLenDoc
import Derived.Test.YtabhemmmefefgaaMod
import Derived.Deep.QuietTactic
import Derived.BigQuiet
namespace Go.Proofs.Ytabhemmmefefgaa
open Go.RowKit Len

theorem kraft_le (l : List UInt8) : ∀ n, kraftOf l n ≤ n * 32768
  | 0 => by simp [kraftOf, sumN]
  | n + 1 => by
    have := kraft_le l n
    unfold kraftOf at *
    rw [sumN]
    have h : (if (l.getD n 0).toNat = 0 then 0 else 2 ^ (15 - (l.getD n 0).toNat)) ≤ 2 ^ 15 := by
      split
      · omega
      · exact Nat.pow_le_pow_right (by omega) (by omega)
    omega
/-- Behind a call that tells a number and an error. -/
def TellsI (k : IntKind) (w : World) (r : Nat × Int) (e : Ending) (w' : World) : Prop := e = .returned (.tuple #[.int k ((r.1 : Nat) : Int), .int .i64 r.2]) ∧ Ext w w'

set_option maxHeartbeats 2000000 in
set_option maxRecDepth 100000 in
theorem refKraft_any (A : Option Addr) (n c : Nat) (l : List UInt8) (w : World) (h : Bytes w w.heap.size A n l) : Calls Try.prog 31 #[.slice A n c] w (TellsI .i64 w (kraftE l)) := by
  have hl := h.1
  subst hl
  by_cases h300 : (300 : Int) < (l.length : Int)
  · have HN := hide (show kraftE l = (0, 13) from if_neg (by omega))
    clear h
    go_enter Try.func31, Try.ntmps31
    go_wp2
    go_ret2
    rw [HN.out]
    exact ⟨rfl, Ext.refl _⟩
  · have HBad := hide (show ∀ i, i < l.length → 15 < (l.getD i 0).toNat → kraftE l = (0, 13) from fun i hi hb => if_neg (fun h => by have := h.2 i hi; omega))
    have HOk := hide (show (∀ i, i < l.length → (l.getD i 0).toNat ≤ 15) → kraftE l = (kraftOf l l.length, 0) from fun h => if_pos ⟨by omega, h⟩)
    have HK := hide (kraft_le l)
    have HS := hide (show ∀ i, kraftOf l (i + 1) = kraftOf l i + if (l.getD i 0).toNat = 0 then 0 else 2 ^ (15 - (l.getD i 0).toNat) from fun _ => rfl)
    have HZ := hide (show kraftOf l 0 = 0 from rfl)
    generalize kraftE l = res at *
    go_enter Try.func31, Try.ntmps31
    go_wp2
    go_loopw [4, 5] (fun a b wr => ∃ i s : Nat, i ≤ l.length ∧ b = .int .i64 (i : Int) ∧ a = .int .i64 (s : Int) ∧ s = kraftOf l i ∧ (∀ q, q < i → (l.getD q 0).toNat ≤ 15) ∧ Ext w wr) (fun _ b _ => l.length - (intOf b).toNat)
    case atStart => exact ⟨0, 0, by omega, rfl, rfl, HZ.out.symm, fun q hq => absurd hq (by omega), Ext.refl _⟩
    case round =>
      obtain ⟨i, s, hi, rfl, rfl, hs, hall, hE⟩ := hrel
      have HAll := hide hall
      have HSS := hide hs
      clear hall
      by_cases hlt : i < l.length
      · rcases (hE.bytes h).2 with h0 | ⟨b, o, rfl, hB, hc⟩
        · omega
        have hk := hc i hlt
        have hyl := UInt8.toNat_lt (l.getD i 0)
        have hSum := HS.out i
        have hBad := HBad.out i hlt
        have hkr := HK.out i
        rw [← hs] at hkr hSum
        obtain ⟨y, hy⟩ : ∃ y, y = (l.getD i 0).toNat := ⟨_, rfl⟩
        rw [← hy] at hk hyl hSum hBad
        have HY := hide hy
        have hil : (i : Int) < (l.length : Int) := by omega
        clear hc hy hs
        by_cases h15 : (15 : Int) < (y : Int)
        · have HN := hide (hBad (by omega))
          clear hBad hSum
          go_wp2
          go_ret2
          rw [HN.out]
          exact ⟨rfl, hE⟩
        · by_cases h0 : (0 : Int) < (y : Int)
          · rw [if_neg (by omega)] at hSum
            have HSum := hide hSum
            clear hSum hBad
            obtain ⟨wa, rfl⟩ : ∃ W, W = wr := ⟨_, rfl⟩
            go_wp2_with fail
            go_loopw [6, 7] (fun a b wr => ∃ k v : Nat, k ≤ y ∧ b = .int .i64 (k : Int) ∧ a = .int .i64 (v : Int) ∧ v = 2 ^ (15 - k) ∧ wr = wa) (fun _ b _ => y - (intOf b).toNat)
            case atStart => exact ⟨0, 32768, by omega, rfl, rfl, rfl, rfl⟩
            case round =>
              obtain ⟨k, v, hk1, rfl, rfl, hv, rfl⟩ := hrel
              by_cases hky : (k : Int) < (y : Int)
              · have e : 2 ^ (15 - k) = 2 * 2 ^ (15 - (k + 1)) := by rw [show 15 - k = (15 - (k + 1)) + 1 by omega, Nat.pow_succ, Nat.mul_comm]
                have hb : 2 ^ (15 - (k + 1)) ≤ 32768 := Nat.le_trans (Nat.pow_le_pow_right (by omega) (show 15 - (k + 1) ≤ 15 by omega)) (by decide)
                obtain ⟨v', hv'⟩ : ∃ v, v = 2 ^ (15 - (k + 1)) := ⟨_, rfl⟩
                rw [← hv, ← hv'] at e
                rw [← hv'] at hb
                have hq : ((v : Nat) : Int).tdiv 2 = ((v' : Nat) : Int) := by
                  rw [Int.tdiv_eq_ediv_of_nonneg (by omega), e]
                  omega
                have hb2 : (v : Int) ≤ 65536 := by omega
                have HV' := hide hv'
                clear e hv hv'
                go_wp2
                go_roundw
                case rel => exact ⟨k + 1, v', by omega, by go_num, by go_num, HV'.out, trivial⟩
                case measure => simp [intOf]; omega
              · obtain rfl : k = y := by omega
                have hb : 2 ^ (15 - k) ≤ 32768 := Nat.le_trans (Nat.pow_le_pow_right (by omega) (show 15 - k ≤ 15 by omega)) (by decide)
                rw [← hv] at hb HSum
                clear hv
                go_wp2
                go_roundw
                case rel => exact ⟨i + 1, s + v, by omega, by go_num, by go_num, HSum.out.symm, fun q hq => (by
                  by_cases hqi : q = i
                  · rw [hqi, ← HY.out]; omega
                  · exact HAll.out q (by omega)), hE⟩
                case measure => simp [intOf]; omega
          · rw [if_pos (by omega), Nat.add_zero] at hSum
            have HSum := hide hSum
            clear hSum hBad
            go_wp2
            go_roundw
            case rel => exact ⟨i + 1, s, by omega, by go_num, rfl, HSum.out.symm, fun q hq => (by
              by_cases hqi : q = i
              · rw [hqi, ← HY.out]; omega
              · exact HAll.out q (by omega)), hE⟩
            case measure => simp [intOf]; omega
      · obtain rfl : l.length = i := by omega
        have HN := hide (HOk.out HAll.out)
        clear h
        rw [← hs] at HN
        clear hs
        go_wp2
        go_ret2
        rw [HN.out]
        exact ⟨rfl, hE⟩
end Go.Proofs.Ytabhemmmefefgaa
