/- Contracts of the program's Kraft and Cost of chapter 7. -/
import Derived.Test.YtijelijooecoeaaLenLaw
namespace Go.Proofs.Ytijelijooecoeaa
open Go.RowKit Len

theorem wrap_pow (k : Nat) (hk : k ≤ 15) : wrap64 ((2 : Int) ^ k) = ((2 ^ k : Nat) : Int) := by
  have h1 : 2 ^ k ≤ 32768 := Nat.le_trans (Nat.pow_le_pow_right (by omega) hk) (by decide)
  rw [show (2 : Int) ^ k = ((2 ^ k : Nat) : Int) by simp]
  generalize 2 ^ k = v at *
  unfold wrap64
  omega

set_option maxHeartbeats 2000000 in
set_option maxRecDepth 100000 in
theorem pKraft_any (A : Option Addr) (n c : Nat) (l : List UInt8) (w : World) (h : Bytes w w.heap.size A n l) : Calls Try.prog 13 #[.slice A n c] w (TellsI .i64 w (kraftE l)) := by
  have hl := h.1
  subst hl
  by_cases h300 : (300 : Int) < (l.length : Int)
  · have HN := hide (show kraftE l = (0, 13) from if_neg (by omega))
    clear h
    go_enter Try.func13, Try.ntmps13
    go_wp2
    go_ret2
    rw [HN.out]
    exact ⟨rfl, Ext.refl _⟩
  · have HBad := hide (show ∀ i, i < l.length → 15 < (l.getD i 0).toNat → kraftE l = (0, 13) from fun i hi hb => if_neg (fun h => by have := h.2 i hi; omega))
    have HOk := hide (show (∀ i, i < l.length → (l.getD i 0).toNat ≤ 15) → kraftE l = (kraftOf l l.length, 0) from fun h => if_pos ⟨by omega, h⟩)
    have HK := hide (kraft_le l)
    have HS := hide (show ∀ i, kraftOf l (i + 1) = kraftOf l i + if (l.getD i 0).toNat = 0 then 0 else 2 ^ (15 - (l.getD i 0).toNat) from fun _ => rfl)
    have HZ := hide (show kraftOf l 0 = 0 from rfl)
    generalize kraftE l = res at *
    go_enter Try.func13, Try.ntmps13
    go_wp2
    go_loopw [4, 12] (fun a b wr => ∃ i s : Nat, i ≤ l.length ∧ b = .int .i64 (i : Int) ∧ a = .int .i64 (s : Int) ∧ s = kraftOf l i ∧ (∀ q, q < i → (l.getD q 0).toNat ≤ 15) ∧ Ext w wr) (fun _ b _ => l.length - (intOf b).toNat)
    case atStart => exact ⟨0, 0, by omega, rfl, rfl, HZ.out.symm, fun q hq => absurd hq (by omega), Ext.refl _⟩
    case round =>
      obtain ⟨i, s, hi, rfl, rfl, hs, hall, hE⟩ := hrel
      have HAll := hide hall
      have HSS := hide hs
      clear hall
      by_cases hlt : i < l.length
      · rcases (hE.bytes h).2 with h0 | ⟨b, o, rfl, hB, hc⟩
        · omega
        have hk := hc i hlt
        have hyl := UInt8.toNat_lt (l.getD i 0)
        have hSum := HS.out i
        have hBad := HBad.out i hlt
        have hkr := HK.out i
        rw [← hs] at hkr hSum
        obtain ⟨y, hy⟩ : ∃ y, y = (l.getD i 0).toNat := ⟨_, rfl⟩
        rw [← hy] at hk hyl hSum hBad
        have HY := hide hy
        have hil : (i : Int) < (l.length : Int) := by omega
        clear hc hy hs
        by_cases h15 : (15 : Int) < (y : Int)
        · have HN := hide (hBad (by omega))
          clear hBad hSum
          go_wp2
          go_ret2
          rw [HN.out]
          exact ⟨rfl, hE⟩
        · by_cases h0 : (0 : Int) < (y : Int)
          · rw [if_neg (by omega)] at hSum
            have hb : 2 ^ (15 - y) ≤ 32768 := Nat.le_trans (Nat.pow_le_pow_right (by omega) (show 15 - y ≤ 15 by omega)) (by decide)
            have hsh := wrap_pow (15 - y) (by omega)
            generalize 2 ^ (15 - y) = v at *
            have HSum := hide hSum
            clear hSum hBad
            go_wp2
            go_roundw
            case rel => exact ⟨i + 1, s + v, by omega, by go_num, by go_num, HSum.out.symm, fun q hq => (by
              by_cases hqi : q = i
              · rw [hqi, ← HY.out]; omega
              · exact HAll.out q (by omega)), hE⟩
            case measure => simp [intOf]; omega
          · rw [if_pos (by omega), Nat.add_zero] at hSum
            have HSum := hide hSum
            clear hSum hBad
            go_wp2
            go_roundw
            case rel => exact ⟨i + 1, s, by omega, by go_num, rfl, HSum.out.symm, fun q hq => (by
              by_cases hqi : q = i
              · rw [hqi, ← HY.out]; omega
              · exact HAll.out q (by omega)), hE⟩
            case measure => simp [intOf]; omega
      · obtain rfl : l.length = i := by omega
        have HN := hide (HOk.out HAll.out)
        clear h
        rw [← hs] at HN
        clear hs
        go_wp2
        go_ret2
        rw [HN.out]
        exact ⟨rfl, hE⟩
set_option maxHeartbeats 2000000 in
set_option maxRecDepth 100000 in
theorem pCost_any (A1 A2 : Option Addr) (n1 c1 n2 c2 : Nat) (often : List Nat) (l : List UInt8) (w : World) (h1 : U32At w w.heap.size A1 n1 often) (h2 : Bytes w w.heap.size A2 n2 l) :
    Calls Try.prog 15 #[.slice A1 n1 c1, .slice A2 n2 c2] w (TellsI .u64 w (costE often l)) := by
  have hl1 := h1.1
  subst hl1
  have hl2 := h2.1
  subst hl2
  by_cases hne : often.length = l.length
  · have hneI : ((often.length : Int) != (l.length : Int)) = false := by simp; omega
    by_cases h300 : (300 : Int) < (l.length : Int)
    · have HN := hide (show costE often l = (0, 13) from if_neg (by omega))
      have h300o : (300 : Int) < (often.length : Int) := by omega
      have h300d : decide ((300 : Int) < (often.length : Int)) = true := decide_eq_true h300o
      clear h1 h2 hne
      go_enter Try.func15, Try.ntmps15
      go_wp2
      go_ret2
      rw [HN.out]
      exact ⟨rfl, Ext.refl _⟩
    · have HN := hide (show costE often l = (costOf often l l.length, 0) from if_pos ⟨hne, by omega⟩)
      have HK := hide (cost_le h1.2.1 l)
      have HB := hide h1.2.1
      have HNE := hide hne
      have h300o : ¬ (300 : Int) < (often.length : Int) := by omega
      clear hne
      go_enter Try.func15, Try.ntmps15
      go_wp2
      go_loopw [6, 21] (fun a b wr => ∃ i s : Nat, i ≤ often.length ∧ b = .int .i64 (i : Int) ∧ a = .int .u64 (s : Int) ∧ s = costOf often l i ∧ Ext w wr) (fun _ b _ => often.length - (intOf b).toNat)
      case atStart => exact ⟨0, 0, by omega, rfl, rfl, rfl, Ext.refl _⟩
      case round =>
        obtain ⟨i, s, hi, rfl, rfl, hs, hE⟩ := hrel
        by_cases hlt : i < often.length
        · rcases (h1.ext hE).2.2 with h0 | ⟨b1, o1, rfl, hB1, hc1⟩
          · omega
          rcases (hE.bytes h2).2 with h0 | ⟨b2, o2, rfl, hB2, hc2⟩
          · have := HNE.out; omega
          have k1 := hc1 i hlt
          have k2 := hc2 i (by have := HNE.out; omega)
          have hSum : costOf often l (i + 1) = s + often.getD i 0 * (l.getD i 0).toNat := by rw [hs]; rfl
          have hkr := HK.out i
          rw [← hs] at hkr
          have hab : often.getD i 0 * (l.getD i 0).toNat ≤ 4294967296 * 256 := Nat.mul_le_mul (Nat.le_of_lt (HB.out i)) (Nat.le_of_lt (UInt8.toNat_lt _))
          have ha32 := HB.out i
          have hb8 := UInt8.toNat_lt (l.getD i 0)
          clear hc1 hc2 hs
          generalize often.getD i 0 = a at *
          obtain ⟨y, hy⟩ : ∃ y, y = (l.getD i 0).toNat := ⟨_, rfl⟩
          rw [← hy] at k2 hSum hab hb8
          have hmul : IntKind.u64.wrap ((a : Int) * (y : Int)) = ((a * y : Nat) : Int) := by
            rw [IntKind.wrap_u64, ← Int.natCast_mul]
            omega
          generalize a * y = ay at *
          have HSum := hide hSum
          have hil : (i : Int) < (l.length : Int) := by have := HNE.out; omega
          have hio : (i : Int) < (often.length : Int) := by omega
          have hadd : IntKind.u64.wrap ((s : Int) + (ay : Int)) = ((s + ay : Nat) : Int) := by
            rw [IntKind.wrap_u64]
            omega
          have hcv : IntKind.u64.wrap (a : Int) = (a : Int) := by rw [IntKind.wrap_u64]; omega
          have hcy : IntKind.u64.wrap (y : Int) = (y : Int) := by rw [IntKind.wrap_u64]; omega
          clear hSum hy
          go_wp2
          go_roundw
          case rel => exact ⟨i + 1, s + ay, by omega, by go_num, by go_num, HSum.out.symm, hE⟩
          case measure => simp [intOf]; omega
        · have hii : i = often.length := by omega
          rw [← HNE.out, ← hii, ← hs] at HN
          have hni : ¬ (i : Int) < (often.length : Int) := by omega
          clear h1 h2 hs hii
          go_wp2
          go_ret2
          rw [HN.out]
          exact ⟨rfl, hE⟩
  · have hneI : ((often.length : Int) != (l.length : Int)) = true := by simp; omega
    have HN := hide (show costE often l = (0, 13) from if_neg (fun h => hne h.1))
    clear h1 h2 hne
    go_enter Try.func15, Try.ntmps15
    go_wp2
    go_ret2
    rw [HN.out]
    exact ⟨rfl, Ext.refl _⟩
theorem kraftC_any (w : World) : KraftC w := fun l A n c W _ _ _ h => pKraft_any A n c l W h
theorem costC_any (w : World) : CostC w := fun often l A1 A2 n1 c1 n2 c2 W _ _ _ _ _ h1 h2 => pCost_any A1 A2 n1 c1 n2 c2 often l W h1 h2
end Go.Proofs.Ytijelijooecoeaa
