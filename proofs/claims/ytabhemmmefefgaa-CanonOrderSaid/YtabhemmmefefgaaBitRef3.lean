/- The contract of the document's Bytes. -/
import Derived.Test.YtabhemmmefefgaaBitRef
namespace Go.Proofs.Ytabhemmmefefgaa
open Go.RowKit

theorem Bit.val_bit (f : Nat → Bool) : ∀ n j, j < n → (Bit.val f n).testBit (n - 1 - j) = f j
  | n + 1, j, h => by
    rw [Bit.val]
    have hb : (2 * Bit.val f n + (f n).toNat) / 2 = Bit.val f n := by cases f n <;> simp <;> omega
    rcases Nat.lt_or_ge j n with hj | hj
    · rw [show n + 1 - 1 - j = (n - 1 - j) + 1 by omega, Nat.testBit_succ, hb]
      exact Bit.val_bit f n j hj
    · obtain rfl : j = n := by omega
      rw [show j + 1 - 1 - j = 0 by omega, Nat.testBit_zero]
      cases f j <;> simp
/-- The first m bytes of these bits. -/
def Bit.Front (l : List UInt8) (B : List Bool) (m : Nat) : Prop := l.length = m ∧ ∀ t, t < 8 * m → Bit.at_ l t = B.getD t false
theorem Bit.Front.next {l : List UInt8} {B : List Bool} {m : Nat} (h : Bit.Front l B m) : Bit.Front (l ++ [UInt8.ofNat (Bit.val (fun t => B.getD (8 * m + t) false) 8)]) B (m + 1) := by
  obtain ⟨hl, hb⟩ := h
  refine ⟨by simp [hl], fun t ht => ?_⟩
  have hv := Bit.val_lt (fun t => B.getD (8 * m + t) false) 8
  have h2 := Bit.val_bit (fun t => B.getD (8 * m + t) false) 8 (t % 8) (by omega)
  generalize Bit.val (fun t => B.getD (8 * m + t) false) 8 = X at *
  unfold Bit.at_
  rcases Nat.lt_or_ge t (8 * m) with h8 | h8
  · have h1 := hb t h8
    unfold Bit.at_ at h1
    rw [← h1]
    simp only [List.getD_eq_getElem?_getD]
    rw [List.getElem?_append_left (by omega)]
  · have h1 : t / 8 = m := by omega
    simp only [List.getD_eq_getElem?_getD]
    rw [h1, List.getElem?_append_right (by omega), hl, Nat.sub_self]
    simp only [List.getElem?_cons_zero, Option.getD_some]
    rw [UInt8.toNat_ofNat', Nat.mod_eq_of_lt hv]
    rw [show (8 : Nat) - 1 - t % 8 = 7 - t % 8 by omega] at h2
    rw [h2, show 8 * m + t % 8 = t by omega, List.getD_eq_getElem?_getD]
theorem Bit.Front.packs {l : List UInt8} {B : List Bool} {m : Nat} (h : Bit.Front l B m) (hm : m = (B.length + 7) / 8) : Bit.Packs l B := ⟨h.1.trans hm, fun i hi => h.2 i (by rw [← h.1]; exact hi)⟩

set_option maxHeartbeats 2000000 in
theorem refBytes_any {w : World} {base g : Nat} {ob : Option Nat} {B : List Bool} (h : RefW w base g ob (B.map bit8)) (hB : B.length ≤ 900000000) :
    Calls Try.prog 22 #[.pointer (some ⟨g, 0, none⟩)] w fun e w' => ∃ l, Bit.Packs l B ∧ MadeB w l e w' := by
  obtain ⟨v, hW, hO, hne, hb, rfl⟩ := h
  obtain ⟨A, c, rfl, hc, _, hbb⟩ := hO.form
  have hLn := hide (show (B.map bit8).length = B.length by simp)
  rw [hLn.out] at hW hbb hc
  have HW := hide hW
  have HBB := hide hbb
  clear hbb hO hne
  go_enter Try.func22, Try.ntmps22
  go_wp2
  go_loopw [3, 4, 5, 6] (fun o i _ _ wr => ∃ (m : Nat) (l : List UInt8), m ≤ (B.length + 7) / 8 ∧ i = .int .i64 ((8 * m : Nat) : Int) ∧ OwnB wr w.heap.size o l ∧ Bit.Front l B m ∧ Ext w wr) (fun _ i _ _ _ => B.length + 8 - (intOf i).toNat)
  case atStart => exact ⟨0, [], by omega, rfl, OwnB.nil _ _, ⟨rfl, fun t ht => by omega⟩, Ext.refl _⟩
  case round =>
    obtain ⟨m, l, hm, rfl, hOl, hF, hE⟩ := hrel
    have d0 : wr.cell? ⟨g, 0, none⟩ = some (.slice A B.length c) := (HW.out.ext hE).at 0 rfl
    have HF := hide hF
    by_cases hlt : 8 * m < B.length
    · have HC := hide ((hE.bytes HBB.out).2)
      go_wp2
      go_loop [5, 6] (fun x k => ∃ d : Nat, d ≤ 8 ∧ x = .int .i64 (Bit.val (fun t => B.getD (8 * m + t) false) d : Nat) ∧ k = .int .i64 ((8 * m + d : Nat) : Int)) (fun _ k => 8 * m + 8 - (intOf k).toNat)
      case atStart => exact ⟨0, by omega, rfl, by simp⟩
      case round =>
        obtain ⟨d, hd, rfl, rfl⟩ := hrel
        by_cases hd8 : d < 8
        · have hv := Bit.val_lt (fun t => B.getD (8 * m + t) false) d
          have hv8 : Bit.val (fun t => B.getD (8 * m + t) false) d < 256 := Nat.lt_of_lt_of_le hv (show 2 ^ d ≤ 2 ^ 8 from Nat.pow_le_pow_right (by omega) (by omega))
          have HV := hide (show Bit.val (fun t => B.getD (8 * m + t) false) (d + 1) = 2 * Bit.val (fun t => B.getD (8 * m + t) false) d + (B.getD (8 * m + d) false).toNat from rfl)
          clear hv
          generalize Bit.val (fun t => B.getD (8 * m + t) false) d = X at *
          by_cases hk : 8 * m + d < B.length
          · have hcell := HC.out
            rcases hcell with h0 | ⟨b, off, rfl, hbl, hcell⟩
            · omega
            have hc1 := hcell (8 * m + d) hk
            have hget : (B.map bit8).getD (8 * m + d) 0 = bit8 (B.getD (8 * m + d) false) := by simp [List.getD_eq_getElem?_getD, hk]
            rw [hget, bit8_int] at hc1
            clear hcell hget
            generalize B.getD (8 * m + d) false = bt at *
            have hbt : bt.toNat ≤ 1 := by cases bt <;> simp
            go_wp2
            go_round
            case rel => exact ⟨d + 1, by omega, by rw [HV.out]; go_num, by go_num⟩
            case measure => simp [intOf]; omega
          · have hfar := Bit.getD_far B (8 * m + d) (by omega)
            rw [hfar] at HV
            go_wp2
            go_round
            case rel => exact ⟨d + 1, by omega, by rw [HV.out]; simp, by go_num⟩
            case measure => simp [intOf]; omega
        · obtain rfl : d = 8 := by omega
          have HN := hide (HF.out.next)
          have hv := Bit.val_lt (fun t => B.getD (8 * m + t) false) 8
          generalize Bit.val (fun t => B.getD (8 * m + t) false) 8 = X at *
          obtain ⟨bt, rfl⟩ : ∃ bt : UInt8, X = bt.toNat := ⟨UInt8.ofNat X, by rw [UInt8.toNat_ofNat']; omega⟩
          rw [UInt8.ofNat_toNat] at HN
          have hbt := bt.toNat_lt
          have hl := HF.out.1
          have hfit : l.length + 1 ≤ 140737488355328 := by omega
          have hb1 := bytesNew wr [bt] #[.int .u8 (bt.toNat : Int)] 5 (0, 0) rfl 1 rfl
          have hO1 := hOl.ext (extNew wr (.cells #[.int .u8 (bt.toNat : Int)] 5))
          have hE1 := hE.trans (extNew wr (.cells #[.int .u8 (bt.toNat : Int)] 5))
          have hB1 := hE1.le
          clear hl hF
          go_wp2_with (at_builtin; refine wpList_appAt rfl (.tmp 42) (.tmp 45) rfl rfl hO1 rfl hb1 hfit hB1 ?_; intro v2 w2 hO2 hG2 hN2)
          go_roundw
          case rel => exact ⟨m + 1, _, by omega, by go_num, hO2, HN.out, hO1.below hE1 hG2 hB1⟩
          case measure => simp [intOf]; omega
    · have hP := hide (HF.out.packs (by omega))
      go_wp2
      go_ret
      exact ⟨l, hP.out, _, rfl, hOl, hE⟩
end Go.Proofs.Ytabhemmmefefgaa
