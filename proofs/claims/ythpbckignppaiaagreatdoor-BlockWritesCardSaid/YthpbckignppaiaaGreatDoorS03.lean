/- The document's Kraft of chapter 7. Slices of uint32 that came in, as numbers. What the laws of chapter 7 ask of the program's parts; the example; the laws without loops: LensFinds, LensWeighs, LensMore. The law LensFull. The lengths that are found are right, and pack with no more bits than others. Plain mathematics of chapter 9. The document's Check of chapter 8. Contracts of the document's writer: Put, Unary. Tokens as bits, and read of any bits, as values: what was written is read. Plain mathematics of chapter 11. Bits as bytes. Frames, as values: what is written is read. Plain mathematics of chapter 12. The document's Find of chapter 10. Results: a row of cells in a block, and what a slot holds. The document's May and Play of chapter 10. What the laws of chapter 10 ask of the program; the example; LzFinds, LzBack, LzPlays, LzMay. The document's Split and Join of chapter 11. Numbers of 32 bits in a row of the call's own. The document's Count of chapter 11. The contract of the document's Put. The document's Write of chapter 8. Words counted out one behind the other; slices of uint16 of the call's own. -/
import Derived.Test.YthpbckignppaiaaGreatDoorS01
import Derived.Test.YthpbckignppaiaaGreatDoorS02
import Derived.Deep.QuietTactic
import Derived.BigQuiet
import Derived.Deep.Slices
import Derived.Deep.RegionLaw
import Derived.Laws.ResultCell
import Derived.Lib.SlBytesConst
import Derived.Laws.OwnMore
import Derived.Maps.AppendAt
import Derived.Deep.DeepCutAuto
import Derived.Deep.OwnRows
import Derived.StillTailTactics
namespace Go.Proofs.YthpbckignppaiaaGreatDoor
open Go.RowKit Len
theorem kraft_le (l : List UInt8) : ∀ n, kraftOf l n ≤ n * 32768
  | 0 => by simp [kraftOf, sumN]
  | n + 1 => by
    have := kraft_le l n
    unfold kraftOf at *
    rw [sumN]
    have h : (if (l.getD n 0).toNat = 0 then 0 else 2 ^ (15 - (l.getD n 0).toNat)) ≤ 2 ^ 15 := by
      split
      · omega
      · exact Nat.pow_le_pow_right (by omega) (by omega)
    omega
def TellsI (k : IntKind) (w : World) (r : Nat × Int) (e : Ending) (w' : World) : Prop := e = .returned (.tuple #[.int k ((r.1 : Nat) : Int), .int .i64 r.2]) ∧ Ext w w'
set_option maxHeartbeats 2000000 in
set_option maxRecDepth 100000 in
theorem refKraft_any (A : Option Addr) (n c : Nat) (l : List UInt8) (w : World) (h : Bytes w w.heap.size A n l) : Calls Tryz.prog 59 #[.slice A n c] w (TellsI .i64 w (kraftE l)) := by
  have hl := h.1
  subst hl
  by_cases h300 : (300 : Int) < (l.length : Int)
  · have HN := hide (show kraftE l = (0, 13) from if_neg (by omega))
    clear h
    go_enter Tryz.func59, Tryz.ntmps59
    go_wp2
    go_ret2
    rw [HN.out]
    exact ⟨rfl, Ext.refl _⟩
  · have HBad := hide (show ∀ i, i < l.length → 15 < (l.getD i 0).toNat → kraftE l = (0, 13) from fun i hi hb => if_neg (fun h => by have := h.2 i hi; omega))
    have HOk := hide (show (∀ i, i < l.length → (l.getD i 0).toNat ≤ 15) → kraftE l = (kraftOf l l.length, 0) from fun h => if_pos ⟨by omega, h⟩)
    have HK := hide (kraft_le l)
    have HS := hide (show ∀ i, kraftOf l (i + 1) = kraftOf l i + if (l.getD i 0).toNat = 0 then 0 else 2 ^ (15 - (l.getD i 0).toNat) from fun _ => rfl)
    have HZ := hide (show kraftOf l 0 = 0 from rfl)
    generalize kraftE l = res at *
    go_enter Tryz.func59, Tryz.ntmps59
    go_wp2
    go_loopw [4, 5] (fun a b wr => ∃ i s : Nat, i ≤ l.length ∧ b = .int .i64 (i : Int) ∧ a = .int .i64 (s : Int) ∧ s = kraftOf l i ∧ (∀ q, q < i → (l.getD q 0).toNat ≤ 15) ∧ Ext w wr) (fun _ b _ => l.length - (intOf b).toNat)
    case atStart => exact ⟨0, 0, by omega, rfl, rfl, HZ.out.symm, fun q hq => absurd hq (by omega), Ext.refl _⟩
    case round =>
      obtain ⟨i, s, hi, rfl, rfl, hs, hall, hE⟩ := hrel
      have HAll := hide hall
      have HSS := hide hs
      clear hall
      by_cases hlt : i < l.length
      · rcases (hE.bytes h).2 with h0 | ⟨b, o, rfl, hB, hc⟩
        · omega
        have hk := hc i hlt
        have hyl := UInt8.toNat_lt (l.getD i 0)
        have hSum := HS.out i
        have hBad := HBad.out i hlt
        have hkr := HK.out i
        rw [← hs] at hkr hSum
        obtain ⟨y, hy⟩ : ∃ y, y = (l.getD i 0).toNat := ⟨_, rfl⟩
        rw [← hy] at hk hyl hSum hBad
        have HY := hide hy
        have hil : (i : Int) < (l.length : Int) := by omega
        clear hc hy hs
        by_cases h15 : (15 : Int) < (y : Int)
        · have HN := hide (hBad (by omega))
          clear hBad hSum
          go_wp2
          go_ret2
          rw [HN.out]
          exact ⟨rfl, hE⟩
        · by_cases h0 : (0 : Int) < (y : Int)
          · rw [if_neg (by omega)] at hSum
            have HSum := hide hSum
            clear hSum hBad
            obtain ⟨wa, rfl⟩ : ∃ W, W = wr := ⟨_, rfl⟩
            go_wp2_with fail
            go_loopw [6, 7] (fun a b wr => ∃ k v : Nat, k ≤ y ∧ b = .int .i64 (k : Int) ∧ a = .int .i64 (v : Int) ∧ v = 2 ^ (15 - k) ∧ wr = wa) (fun _ b _ => y - (intOf b).toNat)
            case atStart => exact ⟨0, 32768, by omega, rfl, rfl, rfl, rfl⟩
            case round =>
              obtain ⟨k, v, hk1, rfl, rfl, hv, rfl⟩ := hrel
              by_cases hky : (k : Int) < (y : Int)
              · have e : 2 ^ (15 - k) = 2 * 2 ^ (15 - (k + 1)) := by rw [show 15 - k = (15 - (k + 1)) + 1 by omega, Nat.pow_succ, Nat.mul_comm]
                have hb : 2 ^ (15 - (k + 1)) ≤ 32768 := Nat.le_trans (Nat.pow_le_pow_right (by omega) (show 15 - (k + 1) ≤ 15 by omega)) (by decide)
                obtain ⟨v', hv'⟩ : ∃ v, v = 2 ^ (15 - (k + 1)) := ⟨_, rfl⟩
                rw [← hv, ← hv'] at e
                rw [← hv'] at hb
                have hq : ((v : Nat) : Int).tdiv 2 = ((v' : Nat) : Int) := by
                  rw [Int.tdiv_eq_ediv_of_nonneg (by omega), e]
                  omega
                have hb2 : (v : Int) ≤ 65536 := by omega
                have HV' := hide hv'
                clear e hv hv'
                go_wp2
                go_roundw
                case rel => exact ⟨k + 1, v', by omega, by go_num, by go_num, HV'.out, trivial⟩
                case measure => simp [intOf]; omega
              · obtain rfl : k = y := by omega
                have hb : 2 ^ (15 - k) ≤ 32768 := Nat.le_trans (Nat.pow_le_pow_right (by omega) (show 15 - k ≤ 15 by omega)) (by decide)
                rw [← hv] at hb HSum
                clear hv
                go_wp2
                go_roundw
                case rel => exact ⟨i + 1, s + v, by omega, by go_num, by go_num, HSum.out.symm, fun q hq => (by
                  by_cases hqi : q = i
                  · rw [hqi, ← HY.out]; omega
                  · exact HAll.out q (by omega)), hE⟩
                case measure => simp [intOf]; omega
          · rw [if_pos (by omega), Nat.add_zero] at hSum
            have HSum := hide hSum
            clear hSum hBad
            go_wp2
            go_roundw
            case rel => exact ⟨i + 1, s, by omega, by go_num, rfl, HSum.out.symm, fun q hq => (by
              by_cases hqi : q = i
              · rw [hqi, ← HY.out]; omega
              · exact HAll.out q (by omega)), hE⟩
            case measure => simp [intOf]; omega
      · obtain rfl : l.length = i := by omega
        have HN := hide (HOk.out HAll.out)
        clear h
        rw [← hs] at HN
        clear hs
        go_wp2
        go_ret2
        rw [HN.out]
        exact ⟨rfl, hE⟩
end Go.Proofs.YthpbckignppaiaaGreatDoor

namespace Go.Proofs.YthpbckignppaiaaGreatDoor
open Go.ChangeShapes Go.WideShapes Go.ChangeAt Go.WideMaps Go.WideElems Go.RowKit
def U32At (w : World) (B : Nat) (A : Option Addr) (n : Nat) (L : List Nat) : Prop :=
  L.length = n ∧ (∀ i, L.getD i 0 < 4294967296) ∧ (n = 0 ∨ ∃ b off, A = some ⟨b, off, none⟩ ∧ b < B ∧ ∀ i, i < n → w.cell? ⟨b, off + i, none⟩ = some (.int .u32 ((L.getD i 0 : Nat) : Int)))
theorem U32At.ext {w w' : World} {A : Option Addr} {n : Nat} {L : List Nat} (h : U32At w w.heap.size A n L) (hE : Ext w w') : U32At w' w'.heap.size A n L := by
  refine ⟨h.1, h.2.1, h.2.2.imp_right ?_⟩
  rintro ⟨b, off, e, hb, hc⟩
  exact ⟨b, off, e, Nat.lt_of_lt_of_le hb hE.le, fun i hi => (hE.cell (i := off + i) hb).trans (hc i hi)⟩
end Go.Proofs.YthpbckignppaiaaGreatDoor

namespace Go.Proofs.YthpbckignppaiaaGreatDoor.Len
theorem row_le (lv : List Item) : ∀ r, (row lv r).length ≤ 2 * lv.length
  | 0 => by rw [row]; omega
  | r + 1 => by
    have := row_le lv r
    rw [row_len]
    omega
end Go.Proofs.YthpbckignppaiaaGreatDoor.Len
namespace Go.Proofs.YthpbckignppaiaaGreatDoor
open Go.RowKit Len
def TellsB (w : World) (r : List UInt8 × Int) (e : Ending) (w' : World) : Prop := ∃ v, e = .returned (.tuple #[v, .int .i64 r.2]) ∧ OwnB w' w.heap.size v r.1 ∧ Ext w w'
def LensC (w : World) : Prop := ∀ (often : List Nat) (limit : Int) (A : Option Addr) (n c : Nat) (W : World), Ext w W → n ≤ c → c ≤ maxLen → U32At W W.heap.size A n often → -9223372036854775808 ≤ limit → limit ≤ 9223372036854775807 →
  Calls Tryz.prog 60 #[.slice A n c, .int .i64 limit] W (TellsB W (lensE often limit))
def RefLensC (w : World) : Prop := ∀ (often : List Nat) (limit : Int) (A : Option Addr) (n c : Nat) (W : World), Ext w W → n ≤ c → U32At W W.heap.size A n often → -9223372036854775808 ≤ limit → limit ≤ 9223372036854775807 →
  Calls Tryz.prog 21 #[.slice A n c, .int .i64 limit] W (TellsB W (lensE often limit))
end Go.Proofs.YthpbckignppaiaaGreatDoor

namespace Go.Proofs.YthpbckignppaiaaGreatDoor
open Go.RowKit Len
def usedN (often : List Nat) (i : Nat) : Nat := sumN i fun q => if often.getD q 0 = 0 then 0 else 1
theorem kraft_lens {often : List Nat} {L : Nat} (h300 : often.length ≤ 300) (hL : 1 ≤ L) (hL15 : L ≤ 15) (hu : (usedTo often often.length).length ≤ 2 ^ L) :
    kraftE (lensL often L) = ((if 2 ≤ usedN often often.length then 32768 else if usedN often often.length = 1 then 16384 else 0), 0) := by
  have hf := lenN_full hL hL15 hu
  rw [used_len] at hf
  have hk : kraftOf (lensL often L) (lensL often L).length = sumN often.length fun q => if often.getD q 0 = 0 then 0 else 2 ^ (15 - lenN often L q) := by
    unfold kraftOf
    rw [lensL_len]
    refine sumN_congr fun q hq => ?_
    rw [lensL_at hq hL hL15 hu]
    by_cases h0 : often.getD q 0 = 0
    · rw [if_pos h0, if_pos (lenN_free h0 hL hu)]
    · have := (lenN_used hq h0 hL hu).1
      rw [if_neg h0, if_neg (by omega)]
  unfold kraftE
  rw [if_pos ⟨by rw [lensL_len]; exact h300, fun q hq => by
    rw [lensL_len] at hq
    rw [lensL_at hq hL hL15 hu]
    have := lenN_small hq hL hL15 hu
    omega⟩, hk, hf]
  rfl
end Go.Proofs.YthpbckignppaiaaGreatDoor

namespace Go.Proofs.YthpbckignppaiaaGreatDoor.Huf
open Len Can
theorem lens_lenAt {often : List Nat} (h300 : often.length ≤ 300) {q : Nat} (hq : q < often.length) : lenAt (lensL often 15) q = lenN often 15 q :=
  lensL_at hq (by omega) (by omega) (Nat.le_trans (used_le _) (Nat.le_trans h300 (by decide)))
theorem right_lens {often : List Nat} (h300 : often.length ≤ 300) : right (lensL often 15) = true := by
  have hu : (usedTo often often.length).length ≤ 2 ^ 15 := Nat.le_trans (used_le _) (Nat.le_trans h300 (by decide))
  have hk := kraft_lens h300 (show 1 ≤ 15 by omega) (Nat.le_refl 15) hu
  have hU : usedC (lensL often 15) (lensL often 15).length = usedN often often.length := by
    unfold usedC usedN
    rw [lensL_len]
    refine sumN_congr fun q hq => ?_
    rw [lens_lenAt h300 hq]
    by_cases h0 : often.getD q 0 = 0
    · rw [if_pos h0, if_pos (lenN_free h0 (by omega) hu)]
    · have := (lenN_used hq h0 (L := 15) (by omega) hu).1
      rw [if_neg h0, if_neg (by omega)]
  refine decide_eq_true ⟨by rw [hk], ?_⟩
  rw [hU, hk]
  by_cases h2 : 2 ≤ usedN often often.length
  · rw [if_pos h2]
    exact .inr (.inr rfl)
  · by_cases h1 : usedN often often.length = 1
    · refine .inr (.inl ⟨h1, ?_⟩)
      have h1' : (usedTo often often.length).length = 1 := by rw [used_len]; exact h1
      have hs := (used_at (often := often) (j := often.length) (i := 0) (by omega)).1
      unfold oneC
      rw [lensL_len, sumN_congr (g := fun q => if q = sOf (usedTo often often.length) 0 then 1 else 0) (fun q hq => by
        rw [lens_lenAt h300 hq, lenN_one h1']
        by_cases e : q = sOf (usedTo often often.length) 0
        · rw [if_pos e]; rfl
        · rw [if_neg e]; rfl), sumN_pt, if_pos hs]
    · exact .inl (by omega)
end Go.Proofs.YthpbckignppaiaaGreatDoor.Huf

namespace Go.Proofs.YthpbckignppaiaaGreatDoor
open Go.RowKit Len Can
set_option maxHeartbeats 2000000 in
set_option maxRecDepth 100000 in
theorem refCheck_any (A : Option Addr) (n c : Nat) (l : List UInt8) (w : World) (h : Bytes w w.heap.size A n l) : Calls Tryz.prog 42 #[.slice A n c] w fun e w' => e = .returned (.int .i64 (checkE l)) ∧ Ext w w' := by
  have hl := h.1
  subst hl
  have C1 := refKraft_any A l.length c l w h
  by_cases hk : (kraftE l).2 = 0
  · have HR := hide (show ∀ r : Prop, ((usedC l l.length = 0 ∨ usedC l l.length = 1 ∧ oneC l l.length = 1 ∨ (kraftE l).1 = 32768) ↔ r) → (r → checkE l = 0) ∧ (¬ r → checkE l = 7) from fun r hr => ⟨fun h => check_right (decide_eq_true ⟨hk, hr.2 h⟩), fun h => check_wrong (decide_eq_false fun h2 => h (hr.1 h2.2))⟩)
    obtain ⟨h300, _, hkw⟩ := kraft_ok hk
    have HU := hide (show ∀ i, usedC l (i + 1) = usedC l i + if lenAt l i = 0 then 0 else 1 from fun _ => rfl)
    have HO := hide (show ∀ i, oneC l (i + 1) = oneC l i + if lenAt l i = 1 then 1 else 0 from fun _ => rfl)
    have HU0 := hide (show usedC l 0 = 0 from rfl)
    have HO0 := hide (show oneC l 0 = 0 from rfl)
    unfold TellsI at C1
    rw [hk] at C1
    clear hk hkw
    generalize (kraftE l).1 = kw at *
    generalize hck : checkE l = ck at *
    clear hck
    go_enter Tryz.func42, Tryz.ntmps42
    go_wp2_with fail
    refine C1.mono ?_
    rintro e w2 ⟨rfl, hE⟩
    clear C1
    go_wp2_with fail
    go_loopw [5, 6, 7] (fun a b d wr => ∃ i u o : Nat, i ≤ l.length ∧ d = .int .i64 (i : Int) ∧ a = .int .i64 (u : Int) ∧ b = .int .i64 (o : Int) ∧ u = usedC l i ∧ o = oneC l i ∧ u ≤ i ∧ o ≤ i ∧ Ext w wr) (fun _ _ d _ => l.length - (intOf d).toNat)
    case atStart => exact ⟨0, 0, 0, Nat.zero_le _, rfl, rfl, rfl, HU0.out.symm, HO0.out.symm, Nat.le_refl _, Nat.le_refl _, hE⟩
    case round =>
      obtain ⟨i, u, o, hi, rfl, rfl, rfl, hu, ho, hui, hoi, hE2⟩ := hrel
      by_cases hlt : i < l.length
      · rcases (hE2.bytes h).2 with h0 | ⟨b, off, rfl, hB, hc⟩
        · omega
        have hk := hc i hlt
        have hU := HU.out i
        have hO := HO.out i
        unfold lenAt at hU hO
        rw [← hu] at hU
        rw [← ho] at hO
        have hyl := UInt8.toNat_lt (l.getD i 0)
        obtain ⟨y, hy⟩ : ∃ y, y = (l.getD i 0).toNat := ⟨_, rfl⟩
        rw [← hy] at hk hU hO hyl
        have hil : (i : Int) < (l.length : Int) := by omega
        clear hc hy hu ho h
        by_cases y0 : y = 0
        · rw [if_pos y0] at hU
          rw [if_neg (by omega)] at hO
          have HU2 := hide hU
          have HO2 := hide hO
          subst y0
          clear hU hO
          go_wp2
          go_roundw
          case rel => exact ⟨i + 1, u, o, by omega, by go_num, rfl, rfl, HU2.out.symm, HO2.out.symm, by omega, by omega, hE2⟩
          case measure => simp [intOf]; omega
        · rw [if_neg y0] at hU
          have hy0 : (0 : Int) < (y : Int) := by omega
          by_cases y1 : y = 1
          · rw [if_pos y1] at hO
            have HU2 := hide hU
            have HO2 := hide hO
            subst y1
            clear hU hO
            go_wp2
            go_roundw
            case rel => exact ⟨i + 1, u + 1, o + 1, by omega, by go_num, by go_num, by go_num, HU2.out.symm, HO2.out.symm, by omega, by omega, hE2⟩
            case measure => simp [intOf]; omega
          · rw [if_neg y1] at hO
            have HU2 := hide hU
            have HO2 := hide hO
            have hyb : ((y : Int) == 1) = false := by rw [beq_eq_false_iff_ne]; omega
            clear hU hO
            go_wp2
            go_roundw
            case rel => exact ⟨i + 1, u + 1, o, by omega, by go_num, by go_num, rfl, HU2.out.symm, HO2.out.symm, by omega, by omega, hE2⟩
            case measure => simp [intOf]; omega
      · obtain rfl : l.length = i := by omega
        have HRu := hide (HR.out (u = 0 ∨ u = 1 ∧ o = 1 ∨ kw = 32768) (by rw [hu, ho]))
        clear hu ho h
        by_cases u0 : u = 0
        · have HK := hide (HRu.out.1 (.inl u0))
          subst u0
          clear HRu
          go_wp2
          go_ret
          exact ⟨ret_i64 HK.out.symm, hE2⟩
        · have hub : ((u : Int) == 0) = false := by rw [beq_eq_false_iff_ne]; omega
          by_cases hk : kw = 32768
          · have HK := hide (HRu.out.1 (.inr (.inr hk)))
            subst hk
            by_cases u1 : u = 1
            · subst u1
              by_cases o1 : o = 1
              · subst o1
                clear HRu
                go_wp2
                go_ret
                exact ⟨ret_i64 HK.out.symm, hE2⟩
              · have hob : ((o : Int) == 1) = false := by rw [beq_eq_false_iff_ne]; omega
                clear HRu
                go_wp2
                go_ret
                exact ⟨ret_i64 HK.out.symm, hE2⟩
            · have hu1 : ((u : Int) == 1) = false := by rw [beq_eq_false_iff_ne]; omega
              clear HRu
              go_wp2
              go_ret
              exact ⟨ret_i64 HK.out.symm, hE2⟩
          · have hkb : ((kw : Int) == 32768) = false := by rw [beq_eq_false_iff_ne]; omega
            by_cases u1 : u = 1
            · subst u1
              by_cases o1 : o = 1
              · have HK := hide (HRu.out.1 (.inr (.inl ⟨rfl, o1⟩)))
                subst o1
                clear HRu
                go_wp2
                go_ret
                exact ⟨ret_i64 HK.out.symm, hE2⟩
              · have HK := hide (HRu.out.2 (by omega))
                have hob : ((o : Int) == 1) = false := by rw [beq_eq_false_iff_ne]; omega
                clear HRu
                go_wp2
                go_ret
                exact ⟨ret_i64 HK.out.symm, hE2⟩
            · have HK := hide (HRu.out.2 (by omega))
              have hu1 : ((u : Int) == 1) = false := by rw [beq_eq_false_iff_ne]; omega
              clear HRu
              go_wp2
              go_ret
              exact ⟨ret_i64 HK.out.symm, hE2⟩
  · have HN := hide (show checkE l = 7 from check_wrong (decide_eq_false fun h2 => hk h2.1))
    have h13 : (kraftE l).2 = 13 := by
      unfold kraftE at hk ⊢
      split at hk
      · exact absurd rfl hk
      · rename_i h2
        rw [if_neg h2]
    unfold TellsI at C1
    rw [h13] at C1
    generalize (kraftE l).1 = kw at *
    generalize checkE l = ck at *
    clear hk h13 h
    go_enter Tryz.func42, Tryz.ntmps42
    go_wp2_with fail
    refine C1.mono ?_
    rintro e w2 ⟨rfl, hE⟩
    go_wp2
    go_ret
    exact ⟨ret_i64 HN.out.symm, hE⟩
end Go.Proofs.YthpbckignppaiaaGreatDoor

namespace Go.Proofs.YthpbckignppaiaaGreatDoor
open Go.RowKit
def bit8 (b : Bool) : UInt8 := if b then 1 else 0
theorem bit8_int (b : Bool) : ((bit8 b).toNat : Int) = (b.toNat : Int) := by cases b <;> rfl
def RefW (w : World) (base g : Nat) (ob : Option Nat) (L : List UInt8) : Prop := ∃ v, Whole w g 46 #[v] ∧ OwnB w base v L ∧ v.ownBlock ≠ some g ∧ base ≤ g ∧ v.ownBlock = ob
def RefPuts (w : World) (base g : Nat) (ob : Option Nat) (L : List UInt8) (err : Int) (e : Ending) (w' : World) : Prop :=
  e = .returned (.int .i64 err) ∧ ∃ ob', RefW w' base g ob' L ∧ NewOb w ob ob' ∧ Mod w w' g ob
section
variable {w w' : World} {base g : Nat} {ob : Option Nat} {L : List UInt8}
theorem RefW.lt (h : RefW w base g ob L) : g < w.heap.size := by obtain ⟨v, h, _⟩ := h; exact h.lt
theorem RefW.le (h : RefW w base g ob L) : base ≤ g := by obtain ⟨v, _, _, _, h, _⟩ := h; exact h
theorem RefW.own (h : RefW w base g ob L) : ∀ k, ob = some k → base ≤ k ∧ k < w.heap.size := by obtain ⟨v, _, h, _, _, rfl⟩ := h; exact h.lt
theorem RefW.ext (h : RefW w base g ob L) (hE : Ext w w') : RefW w' base g ob L := by
  obtain ⟨v, hW, hO, r⟩ := h
  exact ⟨v, hW.ext hE, hO.ext hE, r⟩
end
theorem RefW.put {w w1 w2 w3 : World} {base g : Nat} {v v2 : Value} {L : List UInt8} {x : UInt8} (hW : Whole w g 46 #[v]) (hne : v.ownBlock ≠ some g) (hb : base ≤ g) (hE : Ext w w1)
    (hO2 : OwnB w2 base v2 (L ++ [x])) (hG : w1.grownBy w2 v.ownBlock) (hN : NewOb w1 v.ownBlock v2.ownBlock) (hW3 : Whole w3 g 46 #[v2]) (hG3 : w2.grownBy w3 (some g)) :
    ∃ ob', RefW w3 base g ob' (L ++ [x]) ∧ NewOb w v.ownBlock ob' ∧ Mod w w3 g v.ownBlock := by
  have hne2 : v2.ownBlock ≠ some g := hN.ne (Nat.lt_of_lt_of_le hW.lt hE.le) hne
  refine ⟨v2.ownBlock, ⟨v2, hW3, (Mod.ofRow (ob := none) hG3).own hO2 hne2 (by cases v2.ownBlock <;> simp), hne2, hb, rfl⟩, (NewOb.same w _).trans hE.le hN, ?_⟩
  exact ((Mod.ofExt hE).trans (Mod.ofOwn hG) (.inl rfl)).trans (Mod.ofRow (ob := v.ownBlock) hG3) (.inl rfl)
end Go.Proofs.YthpbckignppaiaaGreatDoor

namespace Go.Proofs.YthpbckignppaiaaGreatDoor.Tok
open Len Can Huf Lz
def isSym (q : Nat) (t : TokV) : Bool := decide ((splitE t).1.sym = (q : Int))
def isFar (q : Nat) (t : TokV) : Bool := decide (t.len ≠ 0 ∧ (splitE t).1.dist = (q : Int))
def countsS (L : List TokV) : List Nat := (List.range 265).map fun q => L.countP (isSym q) + if q = 256 then 1 else 0
def countsF (L : List TokV) : List Nat := (List.range 12).map fun q => L.countP (isFar q)
theorem countsS_len (L : List TokV) : (countsS L).length = 265 := by simp [countsS]
theorem countsF_len (L : List TokV) : (countsF L).length = 12 := by simp [countsF]
theorem countsS_at (L : List TokV) {q : Nat} (hq : q < 265) : (countsS L).getD q 0 = L.countP (isSym q) + if q = 256 then 1 else 0 := by
  simp [countsS, List.getD_eq_getElem?_getD, hq]
theorem countsF_at (L : List TokV) {q : Nat} (hq : q < 12) : (countsF L).getD q 0 = L.countP (isFar q) := by
  simp [countsF, List.getD_eq_getElem?_getD, hq]
def bestS (L : List TokV) : List UInt8 := lensL (countsS L) 15
def bestF (L : List TokV) : List UInt8 := lensL (countsF L) 15
theorem lens_found {often : List Nat} (h : often.length ≤ 300) : lensE often 15 = (lensL often 15, 0) := by
  have hu := used_le (often := often) often.length
  unfold lensE
  rw [if_neg (by omega), if_neg (by rw [show (15 : Int).toNat = 15 from rfl]; omega)]
  rfl
theorem fine_found {often : List Nat} (h : often.length ≤ 300) {q : Nat} (hq : q < often.length) (h0 : often.getD q 0 ≠ 0) : fine (lensL often 15) (q : Int) = true := by
  have hu := used_le (often := often) often.length
  have h1 := (lenN_used (often := often) (L := 15) hq h0 (by omega) (by omega)).1
  refine decide_eq_true ⟨by omega, by rw [lensL_len]; omega, ?_⟩
  rw [Int.toNat_natCast, lens_lenAt h hq]
  omega
theorem bestS_right (L : List TokV) : right (bestS L) = true := right_lens (by rw [countsS_len]; omega)
theorem bestF_right (L : List TokV) : right (bestF L) = true := right_lens (by rw [countsF_len]; omega)
theorem bestS_len (L : List TokV) : (bestS L).length = 265 := by unfold bestS; rw [lensL_len, countsS_len]
theorem bestF_len (L : List TokV) : (bestF L).length = 12 := by unfold bestF; rw [lensL_len, countsF_len]
theorem end_fine (L : List TokV) : fine (bestS L) 256 = true := fine_found (often := countsS L) (q := 256) (by rw [countsS_len]; omega) (by rw [countsS_len]; omega) (by
  rw [countsS_at L (by omega), if_pos rfl]
  omega)
theorem sym_range {t : TokV} (h : may t = true) : 0 ≤ (splitE t).1.sym ∧ (splitE t).1.sym < 265 ∧ (splitE t).1.sym ≠ 256 ∧ (t.len ≠ 0 → 0 ≤ (splitE t).1.dist ∧ (splitE t).1.dist < 12) := by
  by_cases h0 : t.len = 0
  · rw [split_lit h h0]
    have := UInt8.toNat_lt t.lit
    dsimp only
    exact ⟨by omega, by omega, by omega, fun e => absurd h0 e⟩
  · obtain ⟨k, x, c, y, hk, hx, hc, hy, e1, e2, e3⟩ := split_match h h0
    rw [e3]
    dsimp only
    exact ⟨by omega, by omega, by omega, fun _ => ⟨by omega, by omega⟩⟩
theorem sym_fine {L : List TokV} {t : TokV} (ht : t ∈ L) (h : may t = true) : fine (bestS L) (splitE t).1.sym = true := by
  obtain ⟨h1, h2, _, _⟩ := sym_range h
  obtain ⟨q, hq⟩ := Int.eq_ofNat_of_zero_le h1
  rw [hq]
  refine fine_found (often := countsS L) (by rw [countsS_len]; omega) (by rw [countsS_len]; omega) ?_
  rw [countsS_at L (by omega)]
  have : 0 < L.countP (isSym q) := List.countP_pos_iff.2 ⟨t, ht, decide_eq_true hq⟩
  omega
theorem dist_fine {L : List TokV} {t : TokV} (ht : t ∈ L) (h : may t = true) (h0 : t.len ≠ 0) : fine (bestF L) (splitE t).1.dist = true := by
  obtain ⟨h1, h2⟩ := (sym_range h).2.2.2 h0
  obtain ⟨q, hq⟩ := Int.eq_ofNat_of_zero_le h1
  rw [hq]
  refine fine_found (often := countsF L) (by rw [countsF_len]; omega) (by rw [countsF_len]; omega) ?_
  rw [countsF_at L (by omega)]
  have : 0 < L.countP (isFar q) := List.countP_pos_iff.2 ⟨t, ht, decide_eq_true ⟨h0, hq⟩⟩
  omega
def matchB (y : List UInt8) (p : PcV) : List Bool := Bit.num p.len.toNat (p.sym - 257).toNat ++ (putB y p.dist ++ Bit.num p.far.toNat p.dist.toNat)
def tokB (x y : List UInt8) (t : TokV) : List Bool := putB x (splitE t).1.sym ++ if t.len = 0 then [] else matchB y (splitE t).1
def bodyB (x y : List UInt8) (L : List TokV) : List Bool := L.flatMap (tokB x y)
def writeB (L : List TokV) : List Bool := wbits (bestS L) ++ (wbits (bestF L) ++ (bodyB (bestS L) (bestF L) L ++ putB (bestS L) 256))
def writeE (L : List TokV) : List Bool × Int := if 32768 < L.length then ([], 6) else if L.all may then (writeB L, 0) else ([], 7)
end Go.Proofs.YthpbckignppaiaaGreatDoor.Tok

namespace Go.Proofs.YthpbckignppaiaaGreatDoor
theorem Bit.val_testBit (f : Nat → Bool) : ∀ n j, j < n → (Bit.val f n).testBit (n - 1 - j) = f j
  | 0, j, h => by omega
  | n + 1, j, h => by
    have hb : (f n).toNat ≤ 1 := by cases f n <;> simp
    rw [Bit.val]
    by_cases e : j = n
    · subst e
      rw [show j + 1 - 1 - j = 0 by omega, Nat.testBit_zero]
      cases hf : f j <;> simp <;> omega
    · rw [show n + 1 - 1 - j = (n - 1 - j) + 1 by omega, Nat.testBit_succ, show (2 * Bit.val f n + (f n).toNat) / 2 = Bit.val f n by omega]
      exact Bit.val_testBit f n j (by omega)
def Bit.pack (B : List Bool) : List UInt8 := (List.range ((B.length + 7) / 8)).map fun i => UInt8.ofNat (Bit.val (fun j => B.getD (8 * i + j) false) 8)
theorem Bit.packs_pack (B : List Bool) : Bit.Packs (Bit.pack B) B := by
  refine ⟨by simp [Bit.pack], fun i hi => ?_⟩
  have hl : (Bit.pack B).length = (B.length + 7) / 8 := by simp [Bit.pack]
  unfold Bit.at_
  have hd : i / 8 < (B.length + 7) / 8 := by omega
  have e : (Bit.pack B).getD (i / 8) 0 = UInt8.ofNat (Bit.val (fun j => B.getD (8 * (i / 8) + j) false) 8) := by
    unfold Bit.pack
    rw [List.getD_eq_getElem?_getD, List.getElem?_map, List.getElem?_range hd]
    rfl
  have hv := Bit.val_lt (fun j => B.getD (8 * (i / 8) + j) false) 8
  rw [e, UInt8.toNat_ofNat', Nat.mod_eq_of_lt hv, show 7 - i % 8 = 8 - 1 - i % 8 by omega, Bit.val_testBit _ 8 (i % 8) (by omega)]
  congr 1
  omega
theorem Bit.pack_len (B : List Bool) : (Bit.pack B).length = (B.length + 7) / 8 := by simp [Bit.pack]
theorem Bit.Packs.is {l : List UInt8} {B : List Bool} (h : Bit.Packs l B) : l = Bit.pack B := h.uniq (Bit.packs_pack B)
end Go.Proofs.YthpbckignppaiaaGreatDoor

namespace Go.Proofs.YthpbckignppaiaaGreatDoor.Blk
open Num Lz Tok
def squeeze (b : List UInt8) : List UInt8 := Bit.pack (writeB (toks b 0))
def useS (b : List UInt8) (plain : Bool) : Bool := !plain && decide ((squeeze b).length < b.length)
def wayOf (b : List UInt8) (plain : Bool) : Nat := if useS b plain then 1 else 0
def bodyOf (b : List UInt8) (plain : Bool) : List UInt8 := if useS b plain then squeeze b else b
def headB (b : List UInt8) (plain : Bool) : List UInt8 := UInt8.ofNat (wayOf b plain) :: (enc b.length ++ enc (bodyOf b plain).length)
def frame (b : List UInt8) (plain : Bool) : List UInt8 := Crc.put (headB b plain ++ bodyOf b plain)
def writeF (b : List UInt8) (plain : Bool) : List UInt8 × Int := if 32768 < b.length then ([], 6) else (frame b plain, 0)
end Go.Proofs.YthpbckignppaiaaGreatDoor.Blk

namespace Go.Proofs.YthpbckignppaiaaGreatDoor
open Go.RowKit Lz
def MadeTk (w : World) (L : List TokV) (e : Ending) (w' : World) : Prop := ∃ v, e = .returned v ∧ OwnTk w' w.heap.size v L ∧ Ext w w'
theorem Lz.run_on {b : List UInt8} {p d k : Nat} (hk : k < 257) (h : p + k < b.length ∧ b.getD (p + k - d) 0 = b.getD (p + k) 0) : runF b p d (257 - k) k = runF b p d (257 - (k + 1)) (k + 1) := by
  rw [show 257 - k = 257 - (k + 1) + 1 by omega, runF, if_pos h]
theorem Lz.run_off {b : List UInt8} {p d k : Nat} (hk : k < 257) (h : ¬ (p + k < b.length ∧ b.getD (p + k - d) 0 = b.getD (p + k) 0)) : runF b p d (257 - k) k = k := by
  rw [show 257 - k = 257 - (k + 1) + 1 by omega, runF, if_neg h]
theorem Lz.run_top (b : List UInt8) (p d : Nat) : runF b p d (257 - 257) 257 = 257 := rfl
set_option maxHeartbeats 4000000 in
set_option maxRecDepth 100000 in
theorem refFind_any (A : Option Addr) (n c : Nat) (b : List UInt8) (w : World) (hn : n ≤ 100000) (h : Bytes w w.heap.size A n b) : Calls Tryz.prog 12 #[.slice A n c] w (MadeTk w (toks b 0)) := by
  have hl := h.1
  subst hl
  have HB := hide h
  have HEnd := hide (show ∀ p, ¬ p < b.length → toks b p = [] from fun p hp => toks_end hp)
  have HNext := hide (show ∀ p, p < b.length → toks b p = tokAt b p :: toks b (p + stepAt b p) from fun p hp => toks_next hp)
  have HIn := hide (show ∀ p, p < b.length → p + stepAt b p ≤ b.length from fun p hp => step_in hp)
  have HPos := hide (step_pos b)
  clear h
  go_enter Tryz.func12, Tryz.ntmps12
  go_wp2
  go_loopw [3, 4] (fun o a wr => ∃ (p : Nat) (L : List TokV), p ≤ b.length ∧ L.length ≤ p ∧ a = .int .i64 (p : Int) ∧ OwnTk wr w.heap.size o L ∧ L ++ toks b p = toks b 0 ∧ Ext w wr) (fun _ a _ => b.length - (intOf a).toNat)
  case atStart => exact ⟨0, [], by omega, by simp, rfl, OwnTk.nil _ _, rfl, Ext.refl _⟩
  case round =>
    obtain ⟨p, L, hp, hLp, rfl, hO, hL, hE⟩ := hrel
    obtain ⟨Ao, co, rfl, _⟩ := hO.form
    by_cases hlt : p < b.length
    · have hpI : (p : Int) < (b.length : Int) := by omega
      have hBest0 : best b p 0 = (0, 0) := rfl
      have HBest := hide (show ∀ m, best b p (m + 1) = if (best b p m).1 < run b p (m + 1) then (run b p (m + 1), m + 1) else best b p m from fun _ => rfl)
      have HLe := hide (best_le b p)
      have HO := hide hO
      have HL := hide hL
      obtain ⟨wa, rfl⟩ : ∃ W, W = wr := ⟨_, rfl⟩
      clear hO hL
      go_wp2_with fail
      go_loopw [5, 6, 7] (fun x y z wq => ∃ m : Nat, m ≤ min 4095 p ∧ x = .int .i64 ((best b p m).1 : Int) ∧ y = .int .i64 ((best b p m).2 : Int) ∧ z = .int .i64 ((m + 1 : Nat) : Int) ∧ Qt wa wq) (fun _ _ z _ => 4097 - (intOf z).toNat)
      case atStart => exact ⟨0, by omega, rfl, rfl, rfl, Qt.refl _⟩
      case round =>
        obtain ⟨m, hm, rfl, rfl, rfl, hQ⟩ := hrel
        have hbl := HLe.out m
        have hBn := HBest.out m
        by_cases hmp : m < min 4095 p
        · have hm1 : ((m + 1 : Nat) : Int) ≤ 4095 := by omega
          have hm2 : ((m + 1 : Nat) : Int) ≤ (p : Int) := by omega
          obtain ⟨⟨bn, bd⟩, hbe⟩ : ∃ r, r = best b p m := ⟨_, rfl⟩
          rw [← hbe] at hBn hbl ⊢
          dsimp only at hBn hbl ⊢
          have HBn := hide hBn
          have HQ := hide hQ
          obtain ⟨wb, rfl⟩ : ∃ W, W = wr := ⟨_, rfl⟩
          clear hBn hbe hQ hBest0
          go_wp2_with fail
          go_loopw [8] (fun x wq => ∃ k : Nat, k ≤ 257 ∧ x = .int .i64 (k : Int) ∧ runF b p (m + 1) (257 - k) k = run b p (m + 1) ∧ Qt wa wq) (fun x _ => 258 - (intOf x).toNat)
          case atStart => exact ⟨0, by omega, rfl, rfl, HQ.out⟩
          case round =>
            obtain ⟨k, hk, rfl, hrun, hQ⟩ := hrel
            have HRun := hide hrun
            clear hrun
            by_cases hk257 : k < 257
            · have hkI : (k : Int) < 257 := by omega
              have hkd : decide ((k : Int) < 257) = true := decide_eq_true hkI
              by_cases hpk : p + k < b.length
              · have hpkI : (p : Int) + (k : Int) < (b.length : Int) := by omega
                have hpkd : decide ((p : Int) + (k : Int) < (b.length : Int)) = true := decide_eq_true hpkI
                rcases ((hE.trans hQ.ext).bytes HB.out).2 with h0 | ⟨b1, o1, rfl, _, hc⟩
                · omega
                have e1 := hc (p + k - (m + 1)) (by omega)
                have e2 := hc (p + k) hpk
                have hix : ((p : Int) + (k : Int) - ((m + 1 : Nat) : Int)) = ((p + k - (m + 1) : Nat) : Int) := by omega
                have hix0 : (0 : Int) ≤ (p : Int) + (k : Int) - ((m + 1 : Nat) : Int) := by omega
                clear hc
                by_cases he : b.getD (p + k - (m + 1)) 0 = b.getD (p + k) 0
                · have HOn := hide (run_on hk257 ⟨hpk, he⟩)
                  rw [he] at e1
                  have hy8 := UInt8.toNat_lt (b.getD (p + k) 0)
                  generalize (b.getD (p + k) 0).toNat = y at *
                  clear he
                  go_wp2_with fail
                  go_quiet (fail)
                  go_wp2
                  go_roundw
                  case rel => exact ⟨k + 1, by omega, by go_num, by rw [← HOn.out]; exact HRun.out, hQ.drewN _⟩
                  case measure => simp [intOf]; omega
                · have hrunK := HRun.out
                  rw [run_off hk257 (fun h => he h.2)] at hrunK
                  have HK := hide hrunK
                  have hy8 := UInt8.toNat_lt (b.getD (p + k - (m + 1)) 0)
                  have hz8 := UInt8.toNat_lt (b.getD (p + k) 0)
                  have hne : (b.getD (p + k - (m + 1)) 0).toNat ≠ (b.getD (p + k) 0).toNat := fun e => he (UInt8.toNat_inj.1 e)
                  generalize (b.getD (p + k - (m + 1)) 0).toNat = y at *
                  generalize (b.getD (p + k) 0).toNat = z at *
                  have hyz : ((y : Int) == (z : Int)) = false := by rw [beq_eq_false_iff_ne]; omega
                  have hrk := HBn.out
                  rw [← HK.out] at hrk
                  clear he hne hrunK
                  by_cases hgt : bn < k
                  · rw [if_pos hgt] at hrk
                    have HR := hide hrk
                    have hgtI : (bn : Int) < (k : Int) := by omega
                    clear hrk
                    go_wp2_with fail
                    go_quiet (fail)
                    go_wp2
                    go_roundw
                    case rel => exact ⟨m + 1, by omega, by rw [HR.out], by rw [HR.out]; go_num, by go_num, hQ.drewN _⟩
                    case measure => simp [intOf]; omega
                  · rw [if_neg hgt] at hrk
                    have HR := hide hrk
                    have hgtI : ¬ (bn : Int) < (k : Int) := by omega
                    clear hrk
                    go_wp2_with fail
                    go_quiet (fail)
                    go_wp2
                    go_roundw
                    case rel => exact ⟨m + 1, by omega, by rw [HR.out], by rw [HR.out], by go_num, hQ.drewN _⟩
                    case measure => simp [intOf]; omega
              · have hpkd : decide ((p : Int) + (k : Int) < (b.length : Int)) = false := decide_eq_false (by omega)
                have hrunK := HRun.out
                rw [run_off hk257 (fun h => hpk h.1)] at hrunK
                have HK := hide hrunK
                have hrk := HBn.out
                rw [← HK.out] at hrk
                clear hrunK
                by_cases hgt : bn < k
                · rw [if_pos hgt] at hrk
                  have HR := hide hrk
                  have hgtI : (bn : Int) < (k : Int) := by omega
                  clear hrk
                  go_wp2_with fail
                  go_quiet (fail)
                  go_wp2
                  go_roundw
                  case rel => exact ⟨m + 1, by omega, by rw [HR.out], by rw [HR.out]; go_num, by go_num, hQ.drewN _⟩
                  case measure => simp [intOf]; omega
                · rw [if_neg hgt] at hrk
                  have HR := hide hrk
                  have hgtI : ¬ (bn : Int) < (k : Int) := by omega
                  clear hrk
                  go_wp2_with fail
                  go_quiet (fail)
                  go_wp2
                  go_roundw
                  case rel => exact ⟨m + 1, by omega, by rw [HR.out], by rw [HR.out], by go_num, hQ.drewN _⟩
                  case measure => simp [intOf]; omega
            · obtain rfl : k = 257 := by omega
              have hkd : decide (((257 : Nat) : Int) < 257) = false := decide_eq_false (by omega)
              have hrk := HBn.out
              rw [← HRun.out, run_top] at hrk
              by_cases hgt : bn < 257
              · rw [if_pos hgt] at hrk
                have HR := hide hrk
                have hgtI : (bn : Int) < ((257 : Nat) : Int) := by omega
                clear hrk
                go_wp2_with fail
                go_quiet (fail)
                go_wp2
                go_roundw
                case rel => exact ⟨m + 1, by omega, by rw [HR.out], by rw [HR.out]; go_num, by go_num, hQ.drewN _⟩
                case measure => simp [intOf]; omega
              · rw [if_neg hgt] at hrk
                have HR := hide hrk
                have hgtI : ¬ (bn : Int) < ((257 : Nat) : Int) := by omega
                clear hrk
                go_wp2_with fail
                go_quiet (fail)
                go_wp2
                go_roundw
                case rel => exact ⟨m + 1, by omega, by rw [HR.out], by rw [HR.out], by go_num, hQ.drewN _⟩
                case measure => simp [intOf]; omega
        · obtain rfl : m = min 4095 p := by omega
          have hpos := HPos.out p
          have hin := HIn.out p hlt
          have hnx := HNext.out p hlt
          have hTok := hide (show tokAt b p = if 3 ≤ (bestAt b p).1 then ⟨0, ((bestAt b p).1 : Int), ((bestAt b p).2 : Int)⟩ else ⟨b.getD p 0, 0, 0⟩ from rfl)
          have hStep := hide (show stepAt b p = if 3 ≤ (bestAt b p).1 then (bestAt b p).1 else 1 from rfl)
          have HNx := hide hnx
          change (bestAt b p).1 ≤ 257 ∧ _ at hbl
          have hBe : best b p (min 4095 p) = bestAt b p := rfl
          rw [hBe] at hbl ⊢
          generalize bestAt b p = r at *
          obtain ⟨bn, bd⟩ := r
          dsimp only at hbl ⊢
          have hbd : bd ≤ 4095 := by omega
          have hEq := hE.trans hQ.ext
          have hOq := HO.out.ext hQ.ext
          have hLn : L.length ≤ 1000000 := by omega
          clear hnx hBn hBe hBest0
          have hT := hTok.out
          have hS := hStep.out
          dsimp only at hT hS
          clear hTok hStep hpos
          by_cases h4 : min 4095 p + 1 ≤ 4095
          · have h4I : ((min 4095 p + 1 : Nat) : Int) ≤ 4095 := by omega
            have h5I : ¬ ((min 4095 p + 1 : Nat) : Int) ≤ (p : Int) := by omega
            obtain ⟨mm, hmm⟩ : ∃ mm, mm = min 4095 p := ⟨_, rfl⟩
            rw [← hmm] at h4I h5I hbl hm ⊢
            clear hmm h4 hmp
            by_cases h3 : 3 ≤ bn
            · rw [if_pos h3] at hT hS
              have h3I : (3 : Int) ≤ (bn : Int) := by omega
              have HT := hide hT
              have HS := hide hS
              have hEa := extNew wr (.cells #[.int .u8 0, .int .i64 (bn : Int), .int .i64 (bd : Int)] 60)
              have hOa := hOq.ext hEa
              have hbs : w.heap.size ≤ wr.heap.size := hEq.le
              clear hT hS
              go_wp2_with (at_builtin; refine wpList_appTkB rfl (.tmp 58) (.tmp 62) rfl rfl ⟨0, (bn : Int), (bd : Int)⟩ hOa rfl hLn hbs ?_; intro v5 w5 hO5 hG5 _)
              have hE5 : Ext w w5 := Below.grown (hEq.trans hEa) hG5 (hEq.trans hEa).le (fun k hk => (hOq.lt k hk).1)
              go_roundw
              case rel => exact ⟨p + bn, L ++ [⟨0, (bn : Int), (bd : Int)⟩], by rw [HS.out] at hin; exact hin, by rw [List.length_append]; simp; omega, by go_num, hO5, by rw [List.append_assoc, ← HL.out, HNx.out, HT.out, HS.out]; rfl, hE5⟩
              case measure => simp [intOf]; omega
            · rw [if_neg h3] at hT hS
              have h3I : ¬ (3 : Int) ≤ (bn : Int) := by omega
              rcases (hEq.bytes HB.out).2 with h0 | ⟨b1, o1, rfl, _, hc⟩
              · omega
              have e1 := hc p hlt
              have HT := hide hT
              have HS := hide hS
              have hEa := extNew wr (.cells #[.int .u8 ((b.getD p 0).toNat : Int), .int .i64 0, .int .i64 0] 60)
              have hOa := hOq.ext hEa
              have hbs : w.heap.size ≤ wr.heap.size := hEq.le
              have HTk := hide (show ∀ y, y = b.getD p 0 → (⟨y, 0, 0⟩ : TokV) = ⟨b.getD p 0, 0, 0⟩ from fun y e => by rw [e])
              obtain ⟨y, hy⟩ : ∃ y, y = b.getD p 0 := ⟨_, rfl⟩
              rw [← hy] at e1 hEa hOa
              have HTy := hide (HTk.out y hy)
              clear hT hS hc hy HTk
              go_wp2_with (at_builtin; refine wpList_appTkB rfl (.tmp 67) (.tmp 73) rfl rfl ⟨y, 0, 0⟩ hOa rfl hLn hbs ?_; intro v5 w5 hO5 hG5 _)
              have hE5 : Ext w w5 := Below.grown (hEq.trans hEa) hG5 (hEq.trans hEa).le (fun k hk => (hOq.lt k hk).1)
              go_roundw
              case rel => exact ⟨p + 1, L ++ [⟨y, 0, 0⟩], by omega, by rw [List.length_append]; simp; omega, by go_num, hO5, by rw [List.append_assoc, ← HL.out, HNx.out, HT.out, HS.out, HTy.out]; rfl, hE5⟩
              case measure => simp [intOf]; omega
          · have h4I : ¬ ((min 4095 p + 1 : Nat) : Int) ≤ 4095 := by omega
            obtain ⟨mm, hmm⟩ : ∃ mm, mm = min 4095 p := ⟨_, rfl⟩
            rw [← hmm] at h4I hbl hm ⊢
            clear hmm h4 hmp
            by_cases h3 : 3 ≤ bn
            · rw [if_pos h3] at hT hS
              have h3I : (3 : Int) ≤ (bn : Int) := by omega
              have HT := hide hT
              have HS := hide hS
              have hEa := extNew wr (.cells #[.int .u8 0, .int .i64 (bn : Int), .int .i64 (bd : Int)] 60)
              have hOa := hOq.ext hEa
              have hbs : w.heap.size ≤ wr.heap.size := hEq.le
              clear hT hS
              go_wp2_with (at_builtin; refine wpList_appTkB rfl (.tmp 58) (.tmp 62) rfl rfl ⟨0, (bn : Int), (bd : Int)⟩ hOa rfl hLn hbs ?_; intro v5 w5 hO5 hG5 _)
              have hE5 : Ext w w5 := Below.grown (hEq.trans hEa) hG5 (hEq.trans hEa).le (fun k hk => (hOq.lt k hk).1)
              go_roundw
              case rel => exact ⟨p + bn, L ++ [⟨0, (bn : Int), (bd : Int)⟩], by rw [HS.out] at hin; exact hin, by rw [List.length_append]; simp; omega, by go_num, hO5, by rw [List.append_assoc, ← HL.out, HNx.out, HT.out, HS.out]; rfl, hE5⟩
              case measure => simp [intOf]; omega
            · rw [if_neg h3] at hT hS
              have h3I : ¬ (3 : Int) ≤ (bn : Int) := by omega
              rcases (hEq.bytes HB.out).2 with h0 | ⟨b1, o1, rfl, _, hc⟩
              · omega
              have e1 := hc p hlt
              have HT := hide hT
              have HS := hide hS
              have hEa := extNew wr (.cells #[.int .u8 ((b.getD p 0).toNat : Int), .int .i64 0, .int .i64 0] 60)
              have hOa := hOq.ext hEa
              have hbs : w.heap.size ≤ wr.heap.size := hEq.le
              have HTk := hide (show ∀ y, y = b.getD p 0 → (⟨y, 0, 0⟩ : TokV) = ⟨b.getD p 0, 0, 0⟩ from fun y e => by rw [e])
              obtain ⟨y, hy⟩ : ∃ y, y = b.getD p 0 := ⟨_, rfl⟩
              rw [← hy] at e1 hEa hOa
              have HTy := hide (HTk.out y hy)
              clear hT hS hc hy HTk
              go_wp2_with (at_builtin; refine wpList_appTkB rfl (.tmp 67) (.tmp 73) rfl rfl ⟨y, 0, 0⟩ hOa rfl hLn hbs ?_; intro v5 w5 hO5 hG5 _)
              have hE5 : Ext w w5 := Below.grown (hEq.trans hEa) hG5 (hEq.trans hEa).le (fun k hk => (hOq.lt k hk).1)
              go_roundw
              case rel => exact ⟨p + 1, L ++ [⟨y, 0, 0⟩], by omega, by rw [List.length_append]; simp; omega, by go_num, hO5, by rw [List.append_assoc, ← HL.out, HNx.out, HT.out, HS.out, HTy.out]; rfl, hE5⟩
              case measure => simp [intOf]; omega
    · obtain rfl : p = b.length := by omega
      rw [HEnd.out _ (by omega), List.append_nil] at hL
      have HL := hide hL
      have HO := hide hO
      clear hL hO
      go_wp2
      go_ret
      refine ⟨_, rfl, ?_, hE⟩
      rw [← HL.out]
      exact HO.out
end Go.Proofs.YthpbckignppaiaaGreatDoor

namespace Go.Proofs.YthpbckignppaiaaGreatDoor
open Go.RowKit
theorem results_row2 {fn : Func} {p u : Tmp} {ty : TypeId} (h : fn.results = #[.cell p ty, .tmp u]) (tmps : Array Value) {w : World} {g : Nat} {cs : Array Value} {x : Value} (hp : tmps.getD p undef = .pointer (some ⟨g, 0, none⟩)) (hx : tmps.getD u undef = x)
    (hl : (loadVar ty ⟨g, 0, none⟩).run Tryz.prog w = .ok (.agg cs) w) : (results fn tmps).run Tryz.prog w = .ok (.tuple #[.agg cs, x]) w := by
  rw [results_cell_tmp h, hp, hx]
  simp [asAddr, Result.andThen, hl]
end Go.Proofs.YthpbckignppaiaaGreatDoor

namespace Go.Proofs.YthpbckignppaiaaGreatDoor
open Go.RowKit Lz
def tokV (t : TokV) : Value := .agg #[.int .u8 (t.lit.toNat : Int), .int .i64 t.len, .int .i64 t.dist]
theorem Lz.may_lit {t : TokV} (h : t.len = 0) : may t = decide (t.dist = 0) := by unfold may; rw [if_pos h]
theorem Lz.may_match {t : TokV} (h : t.len ≠ 0) : may t = decide (t.lit = 0 ∧ 3 ≤ t.len ∧ t.len ≤ 257 ∧ 1 ≤ t.dist ∧ t.dist ≤ 4095) := by unfold may; rw [if_neg h]
set_option maxHeartbeats 2000000 in
set_option maxRecDepth 100000 in
theorem refTMay_any (t : TokV) (w : World) : Calls Tryz.prog 44 #[tokV t] w fun e w' => e = .returned (.bool (may t)) ∧ Ext w w' := by
  have hE1 := extNew w (.cells #[.int .u8 (t.lit.toNat : Int), .int .i64 t.len, .int .i64 t.dist] 60)
  have hW1 := Whole.new w 60 #[.int .u8 (t.lit.toNat : Int), .int .i64 t.len, .int .i64 t.dist]
  have c0 := hW1.at 0 rfl
  have c1 := hW1.at 1 rfl
  have c2 := hW1.at 2 rfl
  have hl8 := UInt8.toNat_lt t.lit
  have HLit := hide (show t.lit.toNat = 0 ↔ t.lit = 0 from ⟨fun h => UInt8.toNat_inj.1 h, fun h => by rw [h]; rfl⟩)
  unfold tokV
  by_cases h0 : t.len = 0
  · have HM := hide (may_lit h0)
    generalize may t = res at *
    obtain ⟨tl, tn, td⟩ := t
    dsimp only at *
    subst h0
    by_cases hd : td = 0
    · have HR := hide (show res = true by rw [HM.out]; exact decide_eq_true hd)
      subst hd
      clear HM HLit
      go_enter Tryz.func44, Tryz.ntmps44
      go_wp2
      go_ret
      exact ⟨ret_bool HR.out.symm, hE1⟩
    · have HR := hide (show res = false by rw [HM.out]; exact decide_eq_false hd)
      have hdb : (td == 0) = false := by rw [beq_eq_false_iff_ne]; exact hd
      clear HM HLit
      go_enter Tryz.func44, Tryz.ntmps44
      go_wp2
      go_ret
      exact ⟨ret_bool HR.out.symm, hE1⟩
  · have HM := hide (may_match h0)
    generalize may t = res at *
    obtain ⟨tl, tn, td⟩ := t
    dsimp only at *
    have h0b : (tn == 0) = false := by rw [beq_eq_false_iff_ne]; exact h0
    have HNo := hide (show ¬ (tl = 0 ∧ 3 ≤ tn ∧ tn ≤ 257 ∧ 1 ≤ td ∧ td ≤ 4095) → res = false from fun h => by rw [HM.out]; exact decide_eq_false h)
    have HYes := hide (show (tl = 0 ∧ 3 ≤ tn ∧ tn ≤ 257 ∧ 1 ≤ td ∧ td ≤ 4095) → res = true from fun h => by rw [HM.out]; exact decide_eq_true h)
    obtain ⟨y, hy⟩ : ∃ y, y = tl.toNat := ⟨_, rfl⟩
    rw [← hy] at c0 c1 c2 hE1 hl8 HLit ⊢
    clear HM hy hW1
    by_cases g1 : y = 0
    · have hl0 := HLit.out.1 g1
      subst g1
      by_cases g2 : 3 ≤ tn
      · by_cases g3 : tn ≤ 257
        · by_cases g4 : 1 ≤ td
          · by_cases g5 : td ≤ 4095
            · have HR := hide (HYes.out ⟨hl0, g2, g3, g4, g5⟩)
              clear HYes HNo HLit hl0
              go_enter Tryz.func44, Tryz.ntmps44
              go_wp2
              go_ret
              exact ⟨ret_bool HR.out.symm, hE1⟩
            · have HR := hide (HNo.out fun h => g5 h.2.2.2.2)
              clear HYes HNo HLit hl0
              go_enter Tryz.func44, Tryz.ntmps44
              go_wp2
              go_ret
              exact ⟨ret_bool HR.out.symm, hE1⟩
          · have HR := hide (HNo.out fun h => g4 h.2.2.2.1)
            clear HYes HNo HLit hl0
            go_enter Tryz.func44, Tryz.ntmps44
            go_wp2
            go_ret
            exact ⟨ret_bool HR.out.symm, hE1⟩
        · have HR := hide (HNo.out fun h => g3 h.2.2.1)
          clear HYes HNo HLit hl0
          go_enter Tryz.func44, Tryz.ntmps44
          go_wp2
          go_ret
          exact ⟨ret_bool HR.out.symm, hE1⟩
      · have HR := hide (HNo.out fun h => g2 h.2.1)
        clear HYes HNo HLit hl0
        go_enter Tryz.func44, Tryz.ntmps44
        go_wp2
        go_ret
        exact ⟨ret_bool HR.out.symm, hE1⟩
    · have HR := hide (HNo.out fun h => g1 (HLit.out.2 h.1))
      have hyb : ((y : Int) == 0) = false := by rw [beq_eq_false_iff_ne]; omega
      clear HYes HNo HLit
      go_enter Tryz.func44, Tryz.ntmps44
      go_wp2
      go_ret
      exact ⟨ret_bool HR.out.symm, hE1⟩
theorem TokAt.cells {w : World} {g o : Nat} {t : TokV} (h : TokAt w g o t) : w.cell? ⟨g, o, none⟩ = some (.int .u8 (t.lit.toNat : Int)) ∧ w.cell? ⟨g, o + 1, none⟩ = some (.int .i64 t.len) ∧ w.cell? ⟨g, o + 2, none⟩ = some (.int .i64 t.dist) := h
end Go.Proofs.YthpbckignppaiaaGreatDoor

namespace Go.Proofs.YthpbckignppaiaaGreatDoor
open Go.RowKit Lz
theorem Lz.tok_ok (b : List UInt8) (p : Nat) : (tokAt b p).ok := by
  have h := best_le b p (min 4095 p)
  unfold tokAt TokV.ok
  split
  · unfold bestAt at *
    dsimp only
    omega
  · dsimp only
    omega
theorem Lz.toks_ok (b : List UInt8) (p : Nat) : ∀ t, t ∈ toks b p → t.ok := by
  intro t ht
  by_cases h : p < b.length
  · rw [toks_next h] at ht
    rcases List.mem_cons.1 ht with rfl | ht
    · exact tok_ok b p
    · exact toks_ok b (p + stepAt b p) t ht
  · rw [toks_end h] at ht
    cases ht
termination_by b.length - p
decreasing_by have := step_pos b p; omega
theorem OwnTk.at {w : World} {base : Nat} {v : Value} {L : List TokV} (h : OwnTk w base v L) (hok : ∀ t, t ∈ L → t.ok) : ∃ A c, v = .slice A L.length c ∧ L.length ≤ c ∧ c ≤ maxLen ∧ ToksAt w w.heap.size A L.length L := by
  have hl := h.lt
  obtain ⟨A, c, rfl, hA⟩ := h.form
  have hc : L.length ≤ c ∧ c ≤ maxLen := by
    rcases h.2 with ⟨e, h0⟩ | ⟨g, cap, cur, e, hb, hgg, hn, hc, _⟩
    · simp only [Value.slice.injEq] at e
      unfold maxLen
      omega
    · simp only [Value.slice.injEq] at e
      obtain ⟨_, _, rfl⟩ := e
      exact ⟨hn, hc⟩
  refine ⟨A, c, rfl, hc.1, hc.2, rfl, ?_⟩
  rcases hA with h0 | ⟨g, rfl, hi⟩
  · exact .inl h0
  · refine .inr ⟨g, 0, rfl, (hl g rfl).2, fun i hi2 => ⟨hi i hi2, hok _ ?_⟩⟩
    rw [List.getD_eq_getElem?_getD, List.getElem?_eq_getElem hi2]
    exact List.getElem_mem hi2
end Go.Proofs.YthpbckignppaiaaGreatDoor

namespace Go.Proofs.YthpbckignppaiaaGreatDoor
open Go.RowKit Lz Tok
def pcV (p : PcV) : Value := .agg #[.int .i64 p.sym, .int .i64 p.len, .int .i64 p.dist, .int .i64 p.far]
theorem pc_info : (Tryz.prog.info? 56).map (·.size) = some 4 := by kernel_rfl
theorem pc_one (a b c d : Int) : (#[.int .i64 a, .int .i64 b, .int .i64 c, .int .i64 d] : Array Value).all (·.oneCell') = true := by
  simp
  exact ⟨rfl, rfl, rfl, rfl⟩
theorem tk_info : (Tryz.prog.info? 60).map (·.size) = some 3 := by kernel_rfl
set_option maxHeartbeats 1000000 in
theorem class_any (v : Nat) (h1 : 1 ≤ v) (h2 : v ≤ 4095) (w : World) : Calls Tryz.prog 45 #[.int .i64 (v : Int)] w fun e w' => e = .returned (.tuple #[.int .i64 ((Nat.log2 v : Nat) : Int), .int .i64 ((v - 2 ^ Nat.log2 v : Nat) : Int)]) ∧ Ext w w' := by
  go_enter Tryz.func45, Tryz.ntmps45
  go_wp2
  go_loopw [4, 5] (fun x y wr => ∃ b p : Nat, b ≤ 11 ∧ p = 2 ^ b ∧ p ≤ v ∧ x = .int .i64 (b : Int) ∧ y = .int .i64 (p : Int) ∧ wr = w) (fun x _ _ => 12 - (intOf x).toNat)
  case atStart => exact ⟨0, 1, by omega, rfl, h1, rfl, rfl, rfl⟩
  case round =>
    obtain ⟨b, p, hb, hp, hpv, rfl, rfl, rfl⟩ := hrel
    have HP := hide hp
    by_cases hlt : 2 * p ≤ v
    · have hI : 2 * (p : Int) ≤ (v : Int) := by omega
      have hb10 : b ≤ 10 := by
        refine Classical.byContradiction fun hc => ?_
        have := pow_top (k := 11) (m := b) (by omega)
        omega
      have HS := hide (show 2 * p = 2 ^ (b + 1) by rw [Nat.pow_succ, ← HP.out, Nat.mul_comm])
      clear hp
      go_wp2
      go_roundw
      case rel => exact ⟨b + 1, 2 * p, by omega, HS.out, hlt, by go_num, by go_num, trivial⟩
      case measure => simp [intOf]; omega
    · have hI : ¬ 2 * (p : Int) ≤ (v : Int) := by omega
      have HL := hide (log_eq (v := v) (b := b) (by omega) (by rw [Nat.pow_succ]; omega))
      clear hp
      go_wp2
      go_ret2
      rw [HL.out, ← HP.out]
      exact ⟨congrArg (fun z => Ending.returned (.tuple #[.int .i64 (b : Int), .int .i64 z])) (by omega), Ext.refl _⟩
def SplitTo (w : World) (r : PcV × Int) (e : Ending) (w' : World) : Prop := e = .returned (.tuple #[pcV r.1, .int .i64 r.2]) ∧ Ext w w'
set_option maxHeartbeats 2000000 in
set_option maxRecDepth 100000 in
theorem refSplit_any (t : TokV) (w : World) : Calls Tryz.prog 24 #[tokV t] w (SplitTo w (splitE t)) := by
  have hE1 := (extNew w (.cells #[.int .u8 (t.lit.toNat : Int), .int .i64 t.len, .int .i64 t.dist] 60)).alloc (.cells #[.int .i64 0, .int .i64 0, .int .i64 0, .int .i64 0] 56)
  have hW1 := (Whole.new w 60 #[.int .u8 (t.lit.toNat : Int), .int .i64 t.len, .int .i64 t.dist]).alloc (.cells #[.int .i64 0, .int .i64 0, .int .i64 0, .int .i64 0] 56)
  have hP1 := Whole.new (w.alloc (.cells #[.int .u8 (t.lit.toNat : Int), .int .i64 t.len, .int .i64 t.dist] 60)) 56 #[.int .i64 0, .int .i64 0, .int .i64 0, .int .i64 0]
  rw [World.size_alloc] at hP1
  have CM := fun W => refTMay_any t W
  unfold tokV at CM ⊢
  cases hm : may t with
  | false =>
    rw [hm] at CM
    have HN := hide (split_bad hm)
    generalize splitE t = res at *
    clear hm
    generalize t.lit.toNat = y at *
    generalize t.len = tn at *
    generalize t.dist = td at *
    go_enter Tryz.func24, Tryz.ntmps24
    go_wp2_with (refine wpList_load_row rfl 60 (.tmp 1) rfl _ rfl _ _ _ _ hW1 Tryz.underlying60 rfl tk_info ?_)
    refine (CM _).mono ?_
    rintro e w2 ⟨rfl, hE2⟩
    have hP2 := hP1.ext hE2
    clear CM
    go_wp2_with (refine wpList_storeW rfl 56 (.tmp 2) (.tmp 11) rfl rfl rfl hP2 rfl pc_info (pc_one ..) ?_; intro w5 hW5 hG5 _)
    refine bodyPost_ret (results_row2 rfl _ rfl rfl (run_loadVar_row _ _ _ _ _ _ _ hW5 Tryz.underlying56 rfl pc_info)) rfl ?_
    have hE := hE1.trans hE2
    rw [HN.out]
    exact ⟨rfl, Below.grown hE hG5 hE.le (fun k hk => by cases hk; omega)⟩
  | true =>
    rw [hm] at CM
    have hwp := hP1.lt
    by_cases h0 : t.len = 0
    · have HN := hide (split_lit hm h0)
      generalize splitE t = res at *
      rw [h0] at CM hE1 hW1 hP1 ⊢
      clear hm h0
      have h8 := UInt8.toNat_lt t.lit
      generalize t.lit.toNat = y at *
      generalize t.dist = td at *
      go_enter Tryz.func24, Tryz.ntmps24
      go_wp2_with (refine wpList_load_row rfl 60 (.tmp 1) rfl _ rfl _ _ _ _ hW1 Tryz.underlying60 rfl tk_info ?_)
      refine (CM _).mono ?_
      rintro e w2 ⟨rfl, hE2⟩
      have hP2 := hP1.ext hE2
      have hW2 := hW1.ext hE2
      have c0 := hW2.at 0 (u := .int .u8 (y : Int)) rfl
      have c1 := hW2.at 1 (u := .int .i64 0) rfl
      clear CM
      go_wp2_with (refine wpList_storeW rfl 56 (.tmp 2) (.tmp 18) rfl rfl rfl hP2 rfl pc_info (pc_one ..) ?_; intro w5 hW5 hG5 _)
      refine bodyPost_ret (results_row2 rfl _ rfl rfl (run_loadVar_row _ _ _ _ _ _ _ hW5 Tryz.underlying56 rfl pc_info)) rfl ?_
      have hE := hE1.trans hE2
      rw [HN.out]
      exact ⟨rfl, Below.grown hE hG5 hE.le (fun k hk => by cases hk; omega)⟩
    · obtain ⟨_, m1, m2, m3, m4⟩ := may_facts hm h0
      obtain ⟨v, hv⟩ := Int.eq_ofNat_of_zero_le (show 0 ≤ t.len - 2 by omega)
      obtain ⟨d, hd⟩ := Int.eq_ofNat_of_zero_le (show 0 ≤ t.dist by omega)
      have hlv : t.len = (v : Int) + 2 := by omega
      have HN := hide (show splitE t = (⟨257 + (Nat.log2 v : Nat), (v - 2 ^ Nat.log2 v : Nat), (Nat.log2 d : Nat), (d - 2 ^ Nat.log2 d : Nat)⟩, 0) by
        unfold splitE
        rw [if_neg (by rw [hm]; simp), if_neg h0, hv, hd, Int.toNat_natCast, Int.toNat_natCast])
      have C1 := fun W => class_any v (by omega) (by omega) W
      have C2 := fun W => class_any d (by omega) (by omega) W
      have b1 : Nat.log2 v < 8 := log_lt (by omega) (by omega)
      have b2 : Nat.log2 d < 12 := log_lt (by omega) (by omega)
      generalize splitE t = res at *
      rw [hlv, hd] at CM hE1 hW1 hP1 ⊢
      have hv8 : v ≤ 255 := by omega
      have hd4 : d ≤ 4095 := by omega
      clear hm h0 m1 m2 m3 m4 hv hd hlv
      generalize t.lit.toNat = y at *
      generalize v - 2 ^ Nat.log2 v = x1 at *
      generalize d - 2 ^ Nat.log2 d = x2 at *
      generalize Nat.log2 v = l1 at *
      generalize Nat.log2 d = l2 at *
      have hlb : (((v : Int) + 2) == 0) = false := by rw [beq_eq_false_iff_ne]; omega
      go_enter Tryz.func24, Tryz.ntmps24
      go_wp2_with (refine wpList_load_row rfl 60 (.tmp 1) rfl _ rfl _ _ _ _ hW1 Tryz.underlying60 rfl tk_info ?_)
      refine (CM _).mono ?_
      rintro e w2 ⟨rfl, hE2⟩
      have hP2 := hP1.ext hE2
      have hW2 := hW1.ext hE2
      have c1 := hW2.at 1 (u := .int .i64 ((v : Int) + 2)) rfl
      clear CM
      go_wp2_with fail
      have hv2 : (v : Int) + 2 - 2 = (v : Int) := by omega
      try rw [hv2]
      refine (C1 _).mono ?_
      rintro e w3 ⟨rfl, hE3⟩
      have hP3 := hP2.ext hE3
      have hW3 := hW2.ext hE3
      have c2 := hW3.at 2 (u := .int .i64 (d : Int)) rfl
      clear C1
      go_wp2_with fail
      refine (C2 _).mono ?_
      rintro e w4 ⟨rfl, hE4⟩
      have hP4 := hP3.ext hE4
      have hE := ((hE1.trans hE2).trans hE3).trans hE4
      clear C2
      go_wp2_with (refine wpList_storeW rfl 56 (.tmp 2) (.tmp 37) rfl rfl rfl hP4 rfl pc_info (pc_one ..) ?_; intro w5 hW5 hG5 _)
      refine bodyPost_ret (results_row2 rfl _ rfl rfl (run_loadVar_row _ _ _ _ _ _ _ hW5 Tryz.underlying56 rfl pc_info)) rfl ?_
      rw [HN.out]
      exact ⟨rfl, Below.grown hE hG5 hE.le (fun k hk => by cases hk; omega)⟩
end Go.Proofs.YthpbckignppaiaaGreatDoor

namespace Go.Proofs.YthpbckignppaiaaGreatDoor
open Go.ChangeShapes Go.WideShapes Go.ChangeAt Go.WideMaps Go.WideElems Go.RowKit
def u32V (x : Nat) : Value := .int .u32 (x : Int)
def OwnU (w : World) (base : Nat) (v : Value) (L : List Nat) : Prop := w.ownsRow base 39 1 v L.length (L.map u32V)
theorem u32_info : (Tryz.prog.info? 39).map (fun i => (i.zero, i.size, i.bytes)) = some (some (.int .u32 0), 1, 4) := by kernel_rfl
section
variable {w w' : World} {base g c : Nat} {v : Value} {L : List Nat}
theorem OwnU.ext (h : OwnU w base v L) (hE : Ext w w') : OwnU w' base v L := World.ownsRow.kept h (hE.grown none) (by cases hv : v.ownBlock <;> simp)
theorem OwnU.lt (h : OwnU w base v L) : ∀ k, v.ownBlock = some k → base ≤ k ∧ k < w.heap.size := World.ownsRow.lt h
theorem OwnU.cell {n : Nat} (h : OwnU w base (.slice (some ⟨g, 0, none⟩) n c) L) {i : Nat} (hi : i < L.length) (hn : n = L.length) :
    w.cell? ⟨g, i, none⟩ = some (.int .u32 ((L.getD i 0 : Nat) : Int)) ∧ w.frozen? ⟨g, i, none⟩ = false := by
  subst hn
  refine ⟨?_, World.ownsRow.frozenAt h i⟩
  rw [World.ownsRow.cellAt h i (by omega)]
  simp [u32V, hi]
theorem OwnU.set {n : Nat} (h : OwnU w base (.slice (some ⟨g, 0, none⟩) n c) L) (i x : Nat) (hn : n = L.length) :
    OwnU (w.setCell ⟨g, i, none⟩ (.int .u32 (x : Int))) base (.slice (some ⟨g, 0, none⟩) n c) (L.set i x) := by
  subst hn
  have := (World.ownsRow.stored h i (.int .u32 (x : Int))).1
  unfold OwnU
  rw [List.length_set, List.map_set]
  exact this
theorem OwnU.at {n : Nat} (h : OwnU w base (.slice (some ⟨g, 0, none⟩) n c) L) (hn : n = L.length) (hb : ∀ i, L.getD i 0 < 4294967296) : U32At w w.heap.size (some ⟨g, 0, none⟩) n L := by
  refine ⟨hn.symm, hb, .inr ⟨g, 0, rfl, (h.lt g rfl).2, fun i hi => ?_⟩⟩
  rw [Nat.zero_add]
  exact (h.cell (by omega) hn).1
end
end Go.Proofs.YthpbckignppaiaaGreatDoor

namespace Go.Proofs.YthpbckignppaiaaGreatDoor
open Go.RowKit Lz Tok Len
theorem Tok.cnt_set {p : Nat → TokV → Bool} {m s : Nat} {L : List TokV} {t : TokV} (h : ∀ q, q < m → p q t = decide (q = s)) :
    ((List.range m).map fun q => L.countP (p q)).set s (((List.range m).map fun q => L.countP (p q)).getD s 0 + 1) = (List.range m).map fun q => (L ++ [t]).countP (p q) := by
  refine List.ext_getElem (by simp) fun i h1 h2 => ?_
  simp only [List.length_set, List.length_map, List.length_range] at h1
  rw [List.getElem_set]
  simp only [List.getElem_map, List.getElem_range, List.countP_append, List.countP_singleton, h i h1]
  by_cases e : s = i
  · subst e
    simp [List.getD_eq_getElem?_getD, h1]
  · rw [if_neg e, if_neg (by simp; omega)]
    rfl
theorem Tok.cnt_same {p : Nat → TokV → Bool} {m : Nat} {L : List TokV} {t : TokV} (h : ∀ q, q < m → p q t = false) :
    ((List.range m).map fun q => (L ++ [t]).countP (p q)) = (List.range m).map fun q => L.countP (p q) := by
  refine List.ext_getElem (by simp) fun i h1 h2 => ?_
  simp only [List.length_map, List.length_range] at h1
  simp [List.countP_append, h i h1]
def Tok.cntS (L : List TokV) : List Nat := (List.range 265).map fun q => L.countP (isSym q)
theorem Tok.cntS_len (L : List TokV) : (cntS L).length = 265 := by simp [cntS]
theorem Tok.cnt_nil (p : Nat → TokV → Bool) (m : Nat) : ((List.range m).map fun q => List.countP (p q) []) = List.replicate m 0 := by
  refine List.ext_getElem (by simp) fun i h1 h2 => ?_
  simp
theorem Tok.cntS_nil : cntS [] = List.replicate 265 0 := cnt_nil isSym 265
theorem Tok.cntF_nil : countsF [] = List.replicate 12 0 := cnt_nil isFar 12
theorem Tok.cntS_end (L : List TokV) : (cntS L).set 256 ((cntS L).getD 256 0 + 1) = countsS L := by
  refine List.ext_getElem (by simp [cntS, countsS]) fun i h1 h2 => ?_
  rw [List.length_set, cntS_len] at h1
  rw [List.getElem_set]
  by_cases e : 256 = i
  · subst e
    simp [cntS, countsS, List.getD_eq_getElem?_getD]
  · rw [if_neg e]
    simp [cntS, countsS]
    omega
theorem Tok.cntS_le (L : List TokV) (q : Nat) : (cntS L).getD q 0 ≤ L.length := by
  rw [List.getD_eq_getElem?_getD]
  rcases Nat.lt_or_ge q 265 with h | h
  · simp [cntS, h]
    exact List.countP_le_length
  · rw [List.getElem?_eq_none (by rw [cntS_len]; exact h)]
    exact Nat.zero_le _
theorem Tok.cntF_le (L : List TokV) (q : Nat) : (countsF L).getD q 0 ≤ L.length := by
  rw [List.getD_eq_getElem?_getD]
  rcases Nat.lt_or_ge q 12 with h | h
  · simp [countsF, h]
    exact List.countP_le_length
  · rw [List.getElem?_eq_none (by rw [countsF_len]; exact h)]
    exact Nat.zero_le _
theorem Tok.take_next {L : List TokV} {i : Nat} (hi : i < L.length) : L.take (i + 1) = L.take i ++ [L.getD i default] := by
  rw [List.take_add_one, List.getD_eq_getElem?_getD, List.getElem?_eq_getElem hi]
  rfl
theorem Tok.cntS_next {L : List TokV} {i s : Nat} (hi : i < L.length) (hs : (splitE (L.getD i default)).1.sym = (s : Int)) : (cntS (L.take i)).set s ((cntS (L.take i)).getD s 0 + 1) = cntS (L.take (i + 1)) := by
  rw [take_next hi]
  exact cnt_set (p := isSym) fun q hq => by unfold isSym; rw [hs]; exact decide_eq_decide.2 ⟨fun h => by omega, fun h => by omega⟩
theorem Tok.cntF_next {L : List TokV} {i s : Nat} (hi : i < L.length) (h0 : (L.getD i default).len ≠ 0) (hs : (splitE (L.getD i default)).1.dist = (s : Int)) : (countsF (L.take i)).set s ((countsF (L.take i)).getD s 0 + 1) = countsF (L.take (i + 1)) := by
  rw [take_next hi]
  exact cnt_set (p := isFar) fun q hq => by unfold isFar; rw [hs]; exact decide_eq_decide.2 ⟨fun h => by omega, fun h => ⟨h0, by omega⟩⟩
theorem Tok.cntF_lit {L : List TokV} {i : Nat} (hi : i < L.length) (h0 : (L.getD i default).len = 0) : countsF (L.take (i + 1)) = countsF (L.take i) := by
  rw [take_next hi]
  exact cnt_same (p := isFar) fun q hq => decide_eq_false fun h => h.1 h0
theorem OwnU.new (w : World) (n : Nat) (hn : n ≤ 1000) : OwnU (w.alloc (.cells (madeCells #[.int .u32 0] n) 39)) w.heap.size (.slice (some ⟨w.heap.size, 0, none⟩) n n) (List.replicate n 0) := by
  unfold OwnU World.ownsRow
  refine ⟨by simp, .inr ⟨w.heap.size, n, madeCells #[.int .u32 0] n, by simp, Nat.le_refl _, heap_alloc_new w _, (by simp), by unfold maxLen; omega, by simp [size_madeCells], ?_⟩⟩
  have e : (madeCells #[Value.int .u32 0] n).toList = (List.replicate n (0 : Nat)).map u32V := by
    have : madeCells #[Value.int .u32 0] n = ((List.replicate n (0 : Nat)).map u32V).toArray := by
      apply Array.ext
      · simp [size_madeCells]
      · intro i h1 h2
        simp [madeCells, u32V, Nat.mod_one]
    rw [this]
  rw [e, List.take_of_length_le (by simp)]
theorem OwnU.base {w : World} {b b' : Nat} {v : Value} {L : List Nat} (h : OwnU w b v L) (hb : b' ≤ b) : OwnU w b' v L := by
  refine ⟨h.1, h.2.imp id ?_⟩
  rintro ⟨g, cap, cur, e, hg, r⟩
  exact ⟨g, cap, cur, e, by omega, r⟩
theorem OwnU.far {w : World} {base g b n c i : Nat} {u : Value} {L : List Nat} (h : OwnU w base (.slice (some ⟨g, 0, none⟩) n c) L) (hg : g ≠ b) : OwnU (w.setCell ⟨b, i, none⟩ u) base (.slice (some ⟨g, 0, none⟩) n c) L :=
  World.ownsRow.kept h (grown_setCell w b i u) (.inr fun e => hg (by simpa [Value.ownBlock] using e))
theorem Tok.split_form {t : TokV} (h : may t = true) : ∃ (s : Nat) (x c y : Int), splitE t = (⟨s, x, c, y⟩, 0) ∧ s < 265 ∧ (t.len ≠ 0 → 0 ≤ c ∧ c < 12) := by
  by_cases h0 : t.len = 0
  · have := UInt8.toNat_lt t.lit
    exact ⟨t.lit.toNat, 0, 0, 0, split_lit h h0, by omega, fun e => absurd h0 e⟩
  · obtain ⟨k, x, c, y, hk, hx, hc, hy, e1, e2, e3⟩ := split_match h h0
    exact ⟨257 + k, x, c, y, by rw [e3]; rfl, by omega, fun _ => ⟨by omega, by omega⟩⟩
theorem make_u32 (W : World) (n : Nat) (hn : n ≤ 1000) : (Instr.makeSlice 42 (.int .i64 (n : Int)) (.int .i64 (n : Int))).run Tryz.prog W = .ok (.slice (some ⟨W.heap.size, 0, none⟩) n n) (W.alloc (.cells (madeCells #[.int .u32 0] n) 39)) :=
  run_make_row' 42 39 (.int .u32 0) 4 Tryz.underlying42 u32_info rfl .i64 .i64 n (by omega) (by omega) W
def CountTo (w : World) (L : List TokV) (e : Ending) (w' : World) : Prop := Ext w w' ∧
  if L.all may then ∃ g1 g2 : Nat, g1 ≠ g2 ∧ e = .returned (.tuple #[.slice (some ⟨g1, 0, none⟩) 265 265, .slice (some ⟨g2, 0, none⟩) 12 12, .int .i64 0]) ∧ OwnU w' w.heap.size (.slice (some ⟨g1, 0, none⟩) 265 265) (countsS L) ∧ OwnU w' w.heap.size (.slice (some ⟨g2, 0, none⟩) 12 12) (countsF L)
  else e = .returned (.tuple #[.slice none 0 0, .slice none 0 0, .int .i64 7])
set_option maxHeartbeats 400000 in
set_option maxRecDepth 100000 in
theorem refCount_any (A : Option Addr) (n c : Nat) (L : List TokV) (w : World) (hn : n ≤ 100000) (hT : ToksAt w w.heap.size A n L) : Calls Tryz.prog 20 #[.slice A n c] w (CountTo w L) := by
  have M1 := fun W => make_u32 W 265 (by omega)
  have M2 := fun W => make_u32 W 12 (by omega)
  have N1 := hide (fun W => OwnU.new W 265 (by omega))
  have N2 := hide (fun W => OwnU.new W 12 (by omega))
  simp only [Int.cast_ofNat_Int] at M1 M2
  generalize madeCells #[Value.int .u32 0] 265 = Z1 at *
  generalize madeCells #[Value.int .u32 0] 12 = Z2 at *
  have P1 := hide (show OwnU ((w.alloc (.cells Z1 39)).alloc (.cells Z2 39)).drew w.heap.size (.slice (some ⟨w.heap.size, 0, none⟩) 265 265) (List.replicate 265 0) ∧ OwnU ((w.alloc (.cells Z1 39)).alloc (.cells Z2 39)).drew w.heap.size (.slice (some ⟨w.heap.size + 1, 0, none⟩) 12 12) (List.replicate 12 0) ∧ Ext w ((w.alloc (.cells Z1 39)).alloc (.cells Z2 39)).drew from by
    have a := N1.out w
    have b := N2.out (w.alloc (.cells Z1 39))
    rw [World.size_alloc] at b
    exact ⟨(a.ext (extNew _ _)).ext (Ext.refl _).drew, (b.base (by omega)).ext (Ext.refl _).drew, ((extNew w _).trans (extNew _ _)).drew⟩)
  have P2 := hide (show OwnU ((w.alloc (.cells Z2 39)).alloc (.cells Z1 39)).drew w.heap.size (.slice (some ⟨w.heap.size + 1, 0, none⟩) 265 265) (List.replicate 265 0) ∧ OwnU ((w.alloc (.cells Z2 39)).alloc (.cells Z1 39)).drew w.heap.size (.slice (some ⟨w.heap.size, 0, none⟩) 12 12) (List.replicate 12 0) ∧ Ext w ((w.alloc (.cells Z2 39)).alloc (.cells Z1 39)).drew from by
    have a := N2.out w
    have b := N1.out (w.alloc (.cells Z2 39))
    rw [World.size_alloc] at b
    exact ⟨(b.base (by omega)).ext (Ext.refl _).drew, (a.ext (extNew _ _)).ext (Ext.refl _).drew, ((extNew w _).trans (extNew _ _)).drew⟩)
  have HT := hide hT
  have hl := hT.1
  subst hl
  clear hT N1 N2
  go_enter Tryz.func20, Tryz.ntmps20
  go_upto_region 1 with fail
  go_cut [5, 6] (fun x y wx => ∃ g1 g2 : Nat, g1 ≠ g2 ∧ x = .slice (some ⟨g1, 0, none⟩) 265 265 ∧ y = .slice (some ⟨g2, 0, none⟩) 12 12 ∧ OwnU wx w.heap.size x (List.replicate 265 0) ∧ OwnU wx w.heap.size y (List.replicate 12 0) ∧ Ext w wx)
  case first =>
    go_region
    · go_wp2_with fail
      go_meet
      exact ⟨w.heap.size, w.heap.size + 1, by omega, rfl, rfl, P1.out⟩
    · go_wp2_with fail
      go_meet
      exact ⟨w.heap.size + 1, w.heap.size, by omega, rfl, rfl, P2.out⟩
  case rest =>
    clear M1 M2 P1 P2
    obtain ⟨g1, g2, hne, rfl, rfl, hO1, hO2, hE0⟩ := hcut
    have hw1 := (hO1.lt g1 rfl).1
    have hw2 := (hO2.lt g2 rfl).1
    rw [← cntS_nil] at hO1
    rw [← cntF_nil] at hO2
    go_wp2_with fail
    go_loopw [7] (fun x wr => ∃ i : Nat, i ≤ L.length ∧ x = .int .i64 (i : Int) ∧ (L.take i).all may = true ∧ OwnU wr w.heap.size (.slice (some ⟨g1, 0, none⟩) 265 265) (cntS (L.take i)) ∧ OwnU wr w.heap.size (.slice (some ⟨g2, 0, none⟩) 12 12) (countsF (L.take i)) ∧ Ext w wr) (fun x _ => L.length - (intOf x).toNat)
    case atStart => exact ⟨0, by omega, rfl, rfl, hO1, hO2, hE0⟩
    case round =>
      clear hO1 hO2 hE0
      obtain ⟨i, hi, rfl, hall, hO1, hO2, hE⟩ := hrel
      have HAll := hide hall
      clear hall
      by_cases hlt : i < L.length
      · have hiI : (i : Int) < (L.length : Int) := by omega
        have HNx := hide (take_next hlt)
        have hcl1 := fun s => cntS_le (L.take i) s
        have hcl2 := fun s => cntF_le (L.take i) s
        have hti : (L.take i).length ≤ L.length := by rw [List.length_take]; omega
        have HS1 := hide (fun s (hs : (splitE (L.getD i default)).1.sym = ((s : Nat) : Int)) => cntS_next hlt hs)
        have HS2 := hide (fun (h0 : (L.getD i default).len ≠ 0) s (hs : (splitE (L.getD i default)).1.dist = ((s : Nat) : Int)) => cntF_next hlt h0 hs)
        have HS3 := hide (fun (h0 : (L.getD i default).len = 0) => cntF_lit hlt h0)
        have hMem : L.getD i default ∈ L := by
          rw [List.getD_eq_getElem?_getD, List.getElem?_eq_getElem hlt]
          exact List.getElem_mem hlt
        have HMem := hide hMem
        have CM := fun W => refSplit_any (L.getD i default) W
        unfold tokV at CM
        have hToks := HT.out.below hE (Nat.le_refl _)
        rcases hToks.2 with h0 | ⟨b1, o1, rfl, hb1, hc⟩
        · omega
        obtain ⟨hAt, hOk⟩ := hc i hlt
        obtain ⟨c0, c1, c2⟩ := hAt.cells
        clear hc hToks hAt hMem
        obtain ⟨t, ht⟩ : ∃ t, t = L.getD i default := ⟨_, rfl⟩
        rw [← ht] at c0 c1 c2 hOk CM HS1 HS2 HS3 HMem HNx
        have HCell := hide (show ∀ W, Ext w W → W.cell? ⟨b1, o1 + i * 3 + 1, none⟩ = some (.int .i64 t.len) from fun W hW => by
          have := (HT.out.below hW (Nat.le_refl _)).2
          rcases this with h0 | ⟨b', o', e', _, hc'⟩
          · omega
          simp only [Option.some.injEq, Addr.mk.injEq, and_true] at e'
          obtain ⟨rfl, rfl⟩ := e'
          have := (hc' i hlt).1
          rw [← ht] at this
          exact this.2.1)
        clear ht
        have HLit := hide (show t.len = 0 → may t = true → splitE t = (⟨t.lit.toNat, 0, 0, 0⟩, 0) from fun a b => split_lit b a)
        go_wp2_with fail
        refine (CM wr).mono ?_
        rintro e w2 ⟨rfl, hE2⟩
        clear CM c0 c1 c2
        have hF2 := hE.trans hE2
        have hO1' := hO1.ext hE2
        have hO2' := hO2.ext hE2
        clear hO1 hO2 hE hE2
        cases hmay : may t with
        | false =>
          rw [split_bad hmay]
          have HM := hide hmay
          clear hmay
          unfold pcV
          dsimp only
          go_wp2
          go_ret3
          refine ⟨hF2.trans (extNew _ _), ?_⟩
          rw [if_neg (fun hA => by have := List.all_eq_true.1 hA t HMem.out; rw [HM.out] at this; exact Bool.noConfusion this)]
          rfl
        | true =>
          obtain ⟨sy, x, cd, y, hsp, hsy, hcd⟩ := split_form hmay
          rw [hsp] at HS1 HS2 ⊢
          have HNA := hide (show (L.take (i + 1)).all may = true by rw [HNx.out, List.all_append, HAll.out]; simp [hmay])
          have HMay := hide hmay
          have HS1' := hide (HS1.out sy rfl)
          unfold pcV
          dsimp only at HS2 ⊢
          have hEa := extNew w2 (.cells #[.int .i64 (sy : Int), .int .i64 x, .int .i64 cd, .int .i64 y] 56)
          have hO1a := hO1'.ext hEa
          have hO2a := hO2'.ext hEa
          obtain ⟨k1, k2⟩ := hO1a.cell (i := sy) (by rw [cntS_len]; exact hsy) (by rw [cntS_len])
          have hv1 := hcl1 sy
          have hS1 := hO1a.set sy ((cntS (L.take i)).getD sy 0 + 1) (by rw [cntS_len])
          rw [HS1'.out, show (((cntS (L.take i)).getD sy 0 + 1 : Nat) : Int) = (((cntS (L.take i)).getD sy 0 : Nat) : Int) + 1 from rfl] at hS1
          have HSet1 := hide hS1
          have hFa := hF2.trans hEa
          have HG := hide (hO1'.lt g1 rfl).2
          have hyI : (sy : Int) < 265 := by omega
          clear hS1 HS1 HS1' hO1a hO1' hO2' hsp hmay
          generalize (cntS (L.take i)).getD sy 0 = cv at *
          have hO2b := hO2a.far (b := g1) (i := sy) (u := .int .u32 ((cv : Int) + 1)) (Ne.symm hne)
          have hF3 := hFa.setCell (g := g1) (i := sy) hw1 (.int .u32 ((cv : Int) + 1))
          have d1 := HCell.out _ hF3
          have hcvI : (cv : Int) + 1 < 4294967296 := by omega
          by_cases h0 : t.len = 0
          · have HS3' := hide (HS3.out h0)
            rw [h0] at d1
            have HO2 := hide hO2b
            clear hO2a hO2b hcl1 hcl2 h0 HS2 HS3 HLit hcd HCell
            go_wp2
            go_roundw
            case rel => exact ⟨i + 1, by omega, by go_num, HNA.out, HSet1.out, by rw [HS3'.out]; exact HO2.out, hF3⟩
            case measure => simp [intOf]; omega
          · obtain ⟨hc0, hc1⟩ := hcd h0
            obtain ⟨cn, rfl⟩ := Int.eq_ofNat_of_zero_le hc0
            have hlp : 0 < t.len := by have := (may_facts HMay.out h0).2.1; omega
            have HS2' := hide (HS2.out h0 cn rfl)
            obtain ⟨k3, k4⟩ := hO2b.cell (i := cn) (by rw [countsF_len]; omega) (by rw [countsF_len])
            have hv2 := hcl2 cn
            have hS2 := hO2b.set cn ((countsF (L.take i)).getD cn 0 + 1) (by rw [countsF_len])
            rw [HS2'.out, show (((countsF (L.take i)).getD cn 0 + 1 : Nat) : Int) = (((countsF (L.take i)).getD cn 0 : Nat) : Int) + 1 from rfl] at hS2
            have HSet2 := hide hS2
            clear hO2a hO2b hcl1 hcl2 h0 HS2 HS3 HLit hcd HCell HS2' hS2
            generalize (countsF (L.take i)).getD cn 0 = cw at *
            have hcwI : (cw : Int) + 1 < 4294967296 := by omega
            have HSet3 := hide (HSet1.out.far (b := g2) (i := cn) (u := .int .u32 ((cw : Int) + 1)) hne)
            go_upto_region 9 with fail
            have hpc : (w2.alloc (.cells #[.int .i64 (sy : Int), .int .i64 x, .int .i64 (cn : Int), .int .i64 y] 56)).cell? ⟨w2.heap.size, 2, none⟩ = some (.int .i64 (cn : Int)) := (Whole.new w2 56 #[.int .i64 (sy : Int), .int .i64 x, .int .i64 (cn : Int), .int .i64 y]).at 2 rfl
            have hg1 : w2.heap.size ≠ g1 := by have := HG.out; omega
            have hp4 : ((w2.alloc (.cells #[.int .i64 (sy : Int), .int .i64 x, .int .i64 (cn : Int), .int .i64 y] 56)).setCell ⟨g1, sy, none⟩ (.int .u32 ((cv : Int) + 1))).cell? ⟨w2.heap.size, 2, none⟩ = some (.int .i64 (cn : Int)) := ((Whole.new w2 56 #[.int .i64 (sy : Int), .int .i64 x, .int .i64 (cn : Int), .int .i64 y]).far hg1 sy _).at 2 rfl
            clear hpc k1 k2 hg1 hc0 HG
            generalize (w2.alloc (.cells #[.int .i64 (sy : Int), .int .i64 x, .int .i64 (cn : Int), .int .i64 y] 56)).setCell ⟨g1, sy, none⟩ (.int .u32 ((cv : Int) + 1)) = W4 at *
            go_wp2
            go_roundw
            case rel => exact ⟨i + 1, by omega, by go_num, HNA.out, HSet3.out, HSet2.out, hF3.setCell hw2 _⟩
            case measure => simp [intOf]; omega
      · obtain rfl : L.length = i := by omega
        rw [List.take_length] at hO1 hO2 HAll
        obtain ⟨k1, k2⟩ := hO1.cell (i := 256) (by rw [cntS_len]; omega) (by rw [cntS_len])
        have hv1 := cntS_le L 256
        have hS1 := hO1.set 256 ((cntS L).getD 256 0 + 1) (by rw [cntS_len])
        rw [cntS_end] at hS1
        have HSet1 := hide hS1
        have HO2 := hide hO2
        clear hS1 hO1 hO2
        generalize (cntS L).getD 256 0 = cv at *
        have hcvI : (cv : Int) + 1 < 4294967296 := by omega
        go_wp2
        go_ret3
        refine ⟨hE.setCell hw1 _, ?_⟩
        rw [if_pos HAll.out]
        exact ⟨g1, g2, hne, rfl, HSet1.out, HO2.out.far (Ne.symm hne)⟩
end Go.Proofs.YthpbckignppaiaaGreatDoor

namespace Go.Proofs.YthpbckignppaiaaGreatDoor
open Go.RowKit
def Bit.lows (x k : Nat) : List UInt8 := (List.range k).map fun i => bit8 (x.testBit i)
theorem Bit.lows_len (x k : Nat) : (Bit.lows x k).length = k := by simp [Bit.lows]
theorem Bit.lows_succ (x k : Nat) : Bit.lows x (k + 1) = Bit.lows x k ++ [bit8 (x.testBit k)] := by simp [Bit.lows, List.range_succ]
theorem Bit.lows_get (x k i : Nat) (h : i < k) : (Bit.lows x k).getD i 0 = bit8 (x.testBit i) := by simp [Bit.lows, List.getD_eq_getElem?_getD, h]
theorem Bit.num_take (x n j : Nat) (hj : j < n) : ((Bit.num x n).take (n - (j + 1))).map bit8 ++ [bit8 (x.testBit j)] = ((Bit.num x n).take (n - j)).map bit8 := by
  have hl : n - (j + 1) < (Bit.num x n).length := by rw [Bit.num_length]; omega
  have hg : (Bit.num x n)[n - (j + 1)] = x.testBit j := by
    have h1 := Bit.num_getD x n (n - (j + 1)) (by omega)
    rw [List.getD_eq_getElem?_getD, List.getElem?_eq_getElem hl, show n - 1 - (n - (j + 1)) = j by omega] at h1
    exact h1
  rw [show n - j = n - (j + 1) + 1 by omega, List.take_succ_eq_append_getElem hl, List.map_append, hg]
  rfl
theorem Bit.bit_int (y : Nat) (b : Bool) (h : b.toNat = y % 2) : (y : Int) % 2 = ((bit8 b).toNat : Int) := by rw [bit8_int]; omega
set_option maxHeartbeats 2000000 in
theorem refPut_any {w : World} {base g : Nat} {ob : Option Nat} {L : List UInt8} (h : RefW w base g ob L) (x : Nat) (n : Int) (hx64 : x ≤ 18446744073709551615) (hL : L.length ≤ 900000000) :
    Calls Tryz.prog 26 #[.pointer (some ⟨g, 0, none⟩), .int .u64 x, .int .i64 n] w (RefPuts w base g ob (L ++ (Bit.putBits x n).map bit8) (Bit.putErr x n)) := by
  by_cases hr : 0 ≤ n ∧ n ≤ 64
  · obtain ⟨h0, h1⟩ := hr
    obtain ⟨k, rfl⟩ := Int.eq_ofNat_of_zero_le h0
    have hk : k ≤ 64 := by omega
    have HF := hide h
    go_enter Tryz.func26, Tryz.ntmps26
    go_wp2
    go_loopw [1, 7, 8] (fun y v i wr => ∃ j : Nat, j ≤ k ∧ i = .int .i64 (j : Int) ∧ y = .int .u64 ((x / 2 ^ j : Nat) : Int) ∧ OwnB wr w.heap.size v (Bit.lows x j) ∧ Ext w wr) (fun _ _ i _ => k - (intOf i).toNat)
    case atStart => exact ⟨0, by omega, rfl, by simp, OwnB.nil _ _, Ext.refl _⟩
    case round =>
      obtain ⟨j, hj, rfl, rfl, hO, hE⟩ := hrel
      by_cases hlt : j < k
      · have hbit := Bit.bit_int (x / 2 ^ j) (x.testBit j) (Bit.testBit_toNat x j)
        have hdiv := hide (show ((x / 2 ^ j : Nat) : Int) / 2 = ((x / 2 ^ (j + 1) : Nat) : Int) by rw [Nat.pow_succ, ← Nat.div_div_eq_div_mul]; omega)
        have hy : x / 2 ^ j ≤ 18446744073709551615 := Nat.le_trans (Nat.div_le_self _ _) hx64
        have HL := hide (Bit.lows_succ x j)
        have hlen := Bit.lows_len x j
        have hfit : (Bit.lows x j).length + 1 ≤ 140737488355328 := by omega
        generalize Bit.lows x j = Lo at *
        generalize x / 2 ^ j = y at *
        generalize bit8 (x.testBit j) = bt at *
        have hbt := bt.toNat_lt
        have hb1 := bytesNew wr [bt] #[.int .u8 (bt.toNat : Int)] 5 (0, 0) rfl 1 rfl
        have hO1 := hO.ext (extNew wr (.cells #[.int .u8 (bt.toNat : Int)] 5))
        have hE1 := hE.trans (extNew wr (.cells #[.int .u8 (bt.toNat : Int)] 5))
        have hB1 := hE1.le
        clear hlen
        go_wp2_with (at_builtin; refine wpList_appAt rfl (.tmp 21) (.tmp 25) rfl rfl hO1 rfl hb1 hfit hB1 ?_; intro v2 w2 hO2 hG2 hN2)
        go_roundw
        case rel =>
          refine ⟨j + 1, by omega, by go_num, by rw [← hdiv.out], by rw [HL.out]; exact hO2, hO1.below hE1 hG2 hB1⟩
        case measure => simp [intOf]; omega
      · obtain rfl : j = k := by omega
        by_cases hz : x / 2 ^ j = 0
        · have hxl : x < 2 ^ j := by
            rcases Nat.div_eq_zero_iff.1 hz with h | h
            · exact absurd h (Nat.ne_of_gt (Nat.two_pow_pos j))
            · exact h
          have HP := hide (Bit.put_good (x := x) (n := (j : Int)) (decide_eq_true ⟨by omega, by omega, by simpa using hxl⟩))
          have hz' : (((x / 2 ^ j : Nat) : Int) != 0) = false := by rw [hz]; rfl
          have HO := hide hO
          clear hz hxl
          generalize x / 2 ^ j = y at *
          generalize hwz : wr = wz at *
          clear hwz
          go_wp2
          have hR := HF.out.ext hE
          go_loopw [9] (fun i ww => ∃ (m : Nat) (ob1 : Option Nat), m ≤ j ∧ i = .int .i64 ((m : Int) - 1) ∧ RefW ww base g ob1 (L ++ ((Bit.num x j).take (j - m)).map bit8) ∧ NewOb wz ob ob1 ∧ Mod wz ww g ob) (fun i _ => ((intOf i) + 1).toNat)
          case atStart => exact ⟨j, ob, by omega, rfl, by simpa using hR, .inl rfl, Mod.refl _ _ _⟩
          case round =>
            obtain ⟨m, ob1, hm, rfl, ⟨v, hW, hOw, hne, hb, rfl⟩, hN, hM⟩ := hrel
            rcases m with _ | m
            · have hneg : ¬ (0 ≤ ((0 : Nat) : Int) - 1) := by omega
              go_wp2
              go_ret
              refine ⟨ret_i64 HP.out.1.symm, v.ownBlock, ?_, (NewOb.same w ob).trans hE.le hN, (Mod.ofExt hE).trans hM (.inl rfl)⟩
              rw [HP.out.2, Int.toNat_natCast]
              rw [Nat.sub_zero, List.take_of_length_le (by rw [Bit.num_length]; exact Nat.le_refl _)] at *
              exact ⟨v, hW, hOw, hne, hb, rfl⟩
            · rw [show (((m + 1 : Nat) : Int) - 1) = (m : Int) by omega]
              have hO1 := HO.out
              have hgl := HF.out.lt
              have hob := HF.out.own
              obtain ⟨gl, cl, hu, hbl, hcl⟩ := hO1.formG (by rw [Bit.lows_len]; omega)
              rw [Bit.lows_len] at hu
              subst hu
              have hOl := hM.own hO1 (by simp [Value.ownBlock]; omega) (.inr (fun e => by have := (hob gl e.symm).2; omega))
              have hcell := (hOl.cell (i := m) (by rw [Bit.lows_len]; omega)).1
              rw [Bit.lows_get x j m (by omega)] at hcell
              have HT := hide (Bit.num_take x j m (by omega))
              have hlen : (L ++ List.map bit8 (List.take (j - (m + 1)) (Bit.num x j))).length ≤ 900000064 := by
                rw [List.length_append, List.length_map, List.length_take]; omega
              have hfit : (L ++ List.map bit8 (List.take (j - (m + 1)) (Bit.num x j))).length + 1 ≤ 140737488355328 := by omega
              generalize bit8 (x.testBit m) = bt at *
              generalize hLL : L ++ List.map bit8 (List.take (j - (m + 1)) (Bit.num x j)) = LL at *
              have HLL := hide hLL
              have hbt := bt.toNat_lt
              have d0 : wr.cell? ⟨g, 0, none⟩ = some v := hW.at 0 rfl
              have hEa := extNew wr (.cells #[.int .u8 (bt.toNat : Int)] 5)
              have d0' : (wr.alloc (.cells #[.int .u8 (bt.toNat : Int)] 5)).cell? ⟨g, 0, none⟩ = some v := (hW.ext hEa).at 0 rfl
              have hb1 := (Ext.refl (wr.alloc (.cells #[.int .u8 (bt.toNat : Int)] 5))).drew.bytes (bytesNew wr [bt] #[.int .u8 (bt.toNat : Int)] 5 (0, 0) rfl 1 rfl)
              have hEw : Ext wr (wr.alloc (.cells #[.int .u8 (bt.toNat : Int)] 5)).drew := hEa.drew
              have hOx := hOw.ext hEw
              have hB1 : base ≤ (wr.alloc (.cells #[.int .u8 (bt.toNat : Int)] 5)).drew.heap.size := Nat.le_trans (Nat.le_trans hb (Nat.le_of_lt hW.lt)) hEw.le
              have hi : (Tryz.prog.info? 22).map (·.size) = some 1 := by kernel_rfl
              have hmj : (m : Int) < (j : Int) := by omega
              clear hLL hlen hO1 hO hOl hob
              go_wp2
              go_region_law (refine step_appAt rfl (.tmp 41) (.tmp 46) rfl rfl hOx rfl hb1 hfit hB1 ?_; intro v2 w2 hO2 hG2' hN2'; have hG2 : (wr.alloc (.cells #[.int .u8 (bt.toNat : Int)] 5)).drew.grownBy w2 v.ownBlock := hG2'; have hN2 : NewOb (wr.alloc (.cells #[.int .u8 (bt.toNat : Int)] 5)).drew v.ownBlock v2.ownBlock := hN2'; clear hG2' hN2'; have hW2 := (hW.ext hEw).ownGrown hG2 hne; obtain ⟨A2, n2, c2, hv2, _, _, _⟩ := hO2.form'; subst hv2; have e0 := hW2.at 0 rfl; have f2 := hW2.frozen 0)
              all_goals (
                have hG3 := grown_setCell w2 g 0 (.slice A2 n2 c2)
                have hW3 : Whole (w2.setCell ⟨g, 0, none⟩ (.slice A2 n2 c2)) g 46 #[.slice A2 n2 c2] := hW2.set 0 _
                obtain ⟨ob2, hR2, hN3, hM3⟩ := RefW.put hW hne hb hEw hO2 hG2 hN2 hW3 hG3
                rw [← HLL.out, List.append_assoc, HT.out] at hR2
                have HR := hide (show RefW (w2.setCell ⟨g, 0, none⟩ (.slice A2 n2 c2)) base g ob2 (L ++ ((Bit.num x j).take (j - m)).map bit8) ∧ NewOb wz ob ob2 ∧ Mod wz (w2.setCell ⟨g, 0, none⟩ (.slice A2 n2 c2)) g ob from ⟨hR2, hN.trans hM.size hN3, hM.trans hM3 hN⟩)
                clear hR2 hN3 hM3 hW3 hG3
                go_wp2
                go_roundw
                case rel => exact ⟨m, ob2, by omega, rfl, HR.out⟩
                case measure => simp [intOf])
        · have hxl : ¬ x < 2 ^ j := fun h => hz (Nat.div_eq_of_lt h)
          have HP := hide (Bit.put_bad (x := x) (n := (j : Int)) (decide_eq_false (fun h => hxl (by simpa using h.2.2))))
          have hz' : (((x / 2 ^ j : Nat) : Int) != 0) = true := by simpa using fun h => hz (by exact_mod_cast h)
          clear hz hxl
          generalize x / 2 ^ j = y at *
          go_wp2
          go_ret
          exact ⟨ret_i64 HP.out.1.symm, ob, by rw [HP.out.2, List.map_nil, List.append_nil]; exact HF.out.ext hE, .inl rfl, Mod.ofExt hE⟩
  · have HP := hide (Bit.put_bad (x := x) (n := n) (decide_eq_false (fun h => hr ⟨h.1, h.2.1⟩)))
    have HF := hide h
    by_cases h0 : n < 0
    · clear hr
      go_enter Tryz.func26, Tryz.ntmps26
      go_wp2
      go_ret
      exact ⟨ret_i64 HP.out.1.symm, ob, by rw [HP.out.2, List.map_nil, List.append_nil]; exact HF.out, .inl rfl, Mod.refl _ _ _⟩
    · have h1 : 64 < n := by omega
      clear hr
      go_enter Tryz.func26, Tryz.ntmps26
      go_wp2
      go_ret
      exact ⟨ret_i64 HP.out.1.symm, ob, by rw [HP.out.2, List.map_nil, List.append_nil]; exact HF.out, .inl rfl, Mod.refl _ _ _⟩
end Go.Proofs.YthpbckignppaiaaGreatDoor

namespace Go.Proofs.YthpbckignppaiaaGreatDoor
open Go.RowKit Len Can
namespace Can
theorem zrun_more {f m : Nat} {r : List UInt8} (hm : m ≤ zrun f r) (hl : m < r.length) (h0 : r.getD m 0 = 0) (hf : m < f) : m + 1 ≤ zrun f r := by
  rcases Nat.lt_or_ge m (zrun f r) with h | h
  · exact h
  · obtain rfl : m = zrun f r := by omega
    refine absurd h0 (zrun_stop f r hf _ ?_)
    rw [List.head?_drop, List.getD_eq_getElem?_getD, List.getElem?_eq_getElem hl]
    rfl
theorem zrun_done {f m : Nat} {r : List UInt8} (hm : m ≤ zrun f r) (h : r.length ≤ m ∨ r.getD m 0 ≠ 0 ∨ f ≤ m) : m = zrun f r := by
  rcases Nat.lt_or_ge m (zrun f r) with h2 | h2
  · exfalso
    have hz := zrun_le f r
    rcases h with h | h | h
    · omega
    · apply h
      have e := congrArg (fun l => l.getD m 0) (zrun_zero f r)
      simp only [List.getD_eq_getElem?_getD, List.getElem?_take, if_pos h2] at e
      rw [List.getD_eq_getElem?_getD, e]
      simp [h2]
    · omega
  · omega
structure Wr (l : List UInt8) (i : Nat) (P : List Bool) : Prop where
  le : i ≤ l.length
  eq : P ++ wbits (l.drop i) = wbits l
theorem Wr.start (l : List UInt8) : Wr l 0 [] := ⟨Nat.zero_le _, rfl⟩
section
variable {l : List UInt8} {i : Nat} {P : List Bool}
theorem Wr.all (h : Wr l l.length P) : P = wbits l := by
  have := h.eq
  rwa [List.drop_length, wbits_nil, List.append_nil] at this
theorem Wr.small (h : Wr l i P) : P.length ≤ 10 * l.length := by
  have := congrArg List.length h.eq
  have h2 := wbits_len l
  rw [List.length_append] at this
  omega
theorem drop_cons (hi : i < l.length) : l.drop i = l.getD i 0 :: l.drop (i + 1) := by
  rw [List.drop_eq_getElem_cons hi, List.getD_eq_getElem?_getD, List.getElem?_eq_getElem hi]
  rfl
theorem Wr.used (h : Wr l i P) (hi : i < l.length) (h0 : lenAt l i ≠ 0) : Wr l (i + 1) (P ++ Bit.num (lenAt l i) 4) := by
  refine ⟨hi, ?_⟩
  rw [← h.eq, drop_cons hi, wbits_used _ (fun e => h0 (by unfold lenAt; rw [e]; rfl)), List.append_assoc]
  rfl
theorem Wr.zero (h : Wr l i P) (hi : i < l.length) (h0 : lenAt l i = 0) {m : Nat} (hm : m = zrun 63 (l.drop (i + 1))) : Wr l (i + 1 + m) (P ++ Bit.num 0 4 ++ Bit.num m 6) := by
  have hz := zrun_le 63 (l.drop (i + 1))
  rw [List.length_drop] at hz
  refine ⟨by omega, ?_⟩
  have e0 : l.getD i 0 = 0 := UInt8.toNat_inj.1 h0
  rw [← h.eq, drop_cons hi, e0, wbits_zero, ← hm, List.drop_drop]
  simp [List.append_assoc]
theorem drop_get (m : Nat) : (l.drop (i + 1)).getD m 0 = l.getD (i + 1 + m) 0 := by simp [List.getD_eq_getElem?_getD, List.getElem?_drop]
end
theorem put4 {x : Nat} (h : x ≤ 15) : Bit.putBits x 4 = Bit.num x 4 := (Bit.put_good (decide_eq_true ⟨by omega, by omega, by show x < 2 ^ 4; omega⟩)).2
theorem put6 {x : Nat} (h : x ≤ 63) : Bit.putBits x 6 = Bit.num x 6 := (Bit.put_good (decide_eq_true ⟨by omega, by omega, by show x < 2 ^ 6; omega⟩)).2
end Can
set_option maxHeartbeats 4000000 in
set_option maxRecDepth 100000 in
theorem refWriteK_any {w : World} {base g : Nat} {ob : Option Nat} {R : List UInt8} (h : RefW w base g ob R) (hR : R.length ≤ 800000000) (A : Option Addr) (n c : Nat) (l : List UInt8) (hBk : ∀ W, Mod w W g ob → Bytes W w.heap.size A n l) :
    Calls Tryz.prog 22 #[.pointer (some ⟨g, 0, none⟩), .slice A n c] w (RefPuts w base g ob (R ++ (if right l then wbits l else []).map bit8) (checkE l)) := by
  have hB := hBk w (Mod.ofExt (Ext.refl w))
  have hl := hB.1
  subst hl
  have hbw : base ≤ w.heap.size := Nat.le_of_lt (Nat.lt_of_le_of_lt h.le h.lt)
  have C1 := refCheck_any A l.length c l w hB
  cases hr : right l with
  | false =>
    have HE := hide (check_wrong hr)
    rw [check_wrong hr] at C1
    generalize checkE l = E at *
    have HF := hide h
    clear hr h
    go_enter Tryz.func22, Tryz.ntmps22
    go_wp2_with fail
    refine C1.mono ?_
    rintro e w2 ⟨rfl, hE⟩
    go_wp2
    go_ret
    rw [HE.out]
    exact ⟨rfl, ob, by simpa using HF.out.ext hE, .inl rfl, Mod.ofExt hE⟩
  | true =>
    have HE := hide (check_right hr)
    rw [check_right hr] at C1
    obtain ⟨h300, h15, _⟩ := right_facts hr
    have H15 := hide h15
    have HSt := hide (Wr.start l)
    generalize checkE l = E at *
    clear hr h15
    obtain ⟨N, hN⟩ : ∃ N, N = l.length := ⟨_, rfl⟩
    have HNl := hide hN
    rw [← hN] at C1 h300 hBk ⊢
    have HB := hide hBk
    have HF := hide h
    have hgb := h.le
    have hob := fun k hk => (h.own k hk).1
    clear hN hB hBk h
    go_enter Tryz.func22, Tryz.ntmps22
    go_wp2_with fail
    refine C1.mono ?_
    rintro e w2 ⟨rfl, hE⟩
    clear C1
    go_wp2_with fail
    go_loopw [5] (fun a wr => ∃ (i : Nat) (P : List Bool) (ob1 : Option Nat), i ≤ N ∧ a = .int .i64 (i : Int) ∧ RefW wr base g ob1 (R ++ P.map bit8) ∧ NewOb w ob ob1 ∧ Mod w wr g ob ∧ Wr l i P) (fun a _ => N - (intOf a).toNat)
    case atStart => exact ⟨0, [], ob, Nat.zero_le _, rfl, by simpa using HF.out.ext hE, .inl rfl, Mod.ofExt hE, HSt.out⟩
    case round =>
      obtain ⟨i, P, ob1, hi, rfl, hW, hN1, hM, hP⟩ := hrel
      by_cases hlt : i < N
      · have hil : (i : Int) < (N : Int) := by omega
        rcases (HB.out _ hM).2 with h0 | ⟨b, off, rfl, hbb, hc⟩
        · omega
        have hk := hc i hlt
        have hy15 := H15.out i (by rw [← HNl.out]; exact hlt)
        have hps := hP.small
        rw [← HNl.out] at hps
        obtain ⟨y, hy⟩ : ∃ y, y = lenAt l i := ⟨_, rfl⟩
        have hk' : wr.cell? ⟨b, off + i, none⟩ = some (.int .u8 (y : Int)) := by rw [hy]; exact hk
        rw [← hy] at hy15
        have HY := hide hy
        have HC := hide hc
        have HP := hide hP
        have HM := hide hM
        clear hk hy hc hP
        have hlen : (R ++ P.map bit8).length ≤ 900000000 := by simp; omega
        have CP := refPut_any hW y 4 (by omega) hlen
        rw [put4 hy15, List.append_assoc, ← List.map_append] at CP
        generalize Bit.putErr (↑y) 4 = E1 at CP
        clear hW
        go_wp2_with fail
        refine CP.mono ?_
        rintro e w3 ⟨rfl, ob3, hW3, hN3, hM3⟩
        clear CP
        have hN4 := hN1.trans HM.out.size hN3
        have HM4 := hide (HM.out.trans hM3 hN1)
        have HW3 := hide hW3
        rcases (HB.out _ HM4.out).2 with h0 | ⟨b2, off2, hA2, _, hc3⟩
        · omega
        have hb2 : b2 = b ∧ off2 = off := by injection hA2 with e; injection e with e1 e2; exact ⟨e1.symm, e2.symm⟩
        obtain ⟨rfl, rfl⟩ := hb2
        have hk3 := hc3 i hlt
        have hk3' : w3.cell? ⟨b2, off2 + i, none⟩ = some (.int .u8 (y : Int)) := by rw [HY.out]; exact hk3
        have HC3 := hide hc3
        clear hc3 hk3 hk' hM hM3 hW3 hA2 hN3
        by_cases y0 : y = 0
        · have HY0 := hide (show lenAt l i = 0 by rw [← HY.out]; exact y0)
          subst y0
          go_wp2_with fail
          go_loopw [5, 6] (fun a d wq => ∃ m : Nat, a = .int .i64 ((i + m : Nat) : Int) ∧ d = .int .i64 (m : Int) ∧ m ≤ zrun 63 (l.drop (i + 1)) ∧ Qt w3 wq) (fun _ d _ => 63 - (intOf d).toNat)
          case atStart => exact ⟨0, rfl, rfl, Nat.zero_le _, Qt.refl _⟩
          case round =>
            obtain ⟨m, rfl, rfl, hm, q, rfl⟩ := hrel
            have hz := zrun_le 63 (l.drop (i + 1))
            rw [List.length_drop, ← HNl.out] at hz
            have CW : ∀ W, Ext w3 W → Calls Tryz.prog 26 #[.pointer (some ⟨g, 0, none⟩), .int .u64 (m : Int), .int .i64 6] W (RefPuts W base g ob3 (R ++ (P ++ Bit.num 0 4 ++ Bit.num m 6).map bit8) (Bit.putErr m 6)) := fun W hX => by
              have := refPut_any (HW3.out.ext hX) m 6 (by omega) (by simp [Bit.num_length]; omega)
              rw [put6 (by omega), List.append_assoc, ← List.map_append] at this
              exact this
            have HEx := hide (show m = zrun 63 (l.drop (i + 1)) → ∀ w5 ob5, NewOb (w3.drewN q) ob3 ob5 → Mod (w3.drewN q) w5 g ob3 → i + m + 1 ≤ N ∧ NewOb w ob ob5 ∧ Mod w w5 g ob ∧ Wr l (i + m + 1) (P ++ Bit.num 0 4 ++ Bit.num m 6) from fun hmz w5 ob5 hN5 hM5 => by
              have hE3 : Ext w3 (w3.drewN q) := (Ext.refl w3).drewN q
              have hMd : Mod w (w3.drewN q) g ob := HM4.out.trans (Mod.ofExt (ob := ob3) hE3) hN4
              refine ⟨by omega, hN4.trans hMd.size hN5, hMd.trans hM5 hN4, ?_⟩
              rw [show i + m + 1 = i + 1 + m by omega]
              exact HP.out.zero (by rw [← HNl.out]; exact hlt) HY0.out hmz)
            generalize Bit.putErr m 6 = E6 at CW
            by_cases hin : i + m + 1 < N
            · have hinI : ((i + m : Nat) : Int) + 1 < (N : Int) := by omega
              obtain ⟨z, hz2⟩ : ∃ z, z = l.getD (i + 1 + m) 0 := ⟨_, rfl⟩
              have hkz := HC3.out (i + m + 1) hin
              rw [show i + m + 1 = i + 1 + m by omega, ← hz2] at hkz
              have HZ := hide hz2
              have hz8 := UInt8.toNat_lt z
              obtain ⟨zn, hzn⟩ : ∃ zn, zn = z.toNat := ⟨_, rfl⟩
              rw [← hzn] at hkz hz8
              have HZN := hide hzn
              obtain ⟨j, hj⟩ : ∃ j, j = i + m := ⟨_, rfl⟩
              rw [show off2 + (i + 1 + m) = off2 + (j + 1) by omega] at hkz
              rw [← hj] at hinI ⊢
              have HJ := hide hj
              have hkq : (w3.drewN q).cell? ⟨b2, off2 + (j + 1), none⟩ = some (.int .u8 (zn : Int)) := hkz
              clear hz2 hzn hj hkz
              by_cases hz0 : zn = 0
              · subst hz0
                by_cases hm63 : m < 63
                · have hmI : (m : Int) < 63 := by omega
                  have HM1 := hide (zrun_more hm (by rw [List.length_drop, ← HNl.out]; omega) (by rw [drop_get, ← HZ.out]; exact UInt8.toNat_inj.1 HZN.out.symm) hm63)
                  go_wp2
                  go_roundw
                  case rel => exact ⟨m + 1, by rw [HJ.out]; go_num, by go_num, HM1.out, (Qt.refl w3).drewN _⟩
                  case measure => simp [intOf]; omega
                · have hmI : ¬ (m : Int) < 63 := by omega
                  have HM1 := hide (zrun_done hm (.inr (.inr (by omega))))
                  go_wp2_with fail
                  refine (CW _ ((Ext.refl w3).drewN q)).mono ?_
                  rintro e w5 ⟨rfl, ob5, hW5, hN5, hM5⟩
                  obtain ⟨x1, x2, x3, x4⟩ := HEx.out HM1.out w5 ob5 hN5 hM5
                  clear CW hN5 hM5
                  go_wp2
                  go_roundw
                  case rel => exact ⟨i + m + 1, _, ob5, x1, by rw [HJ.out]; go_num, hW5, x2, x3, x4⟩
                  case measure => have := HJ.out; simp [intOf]; omega
              · have hzI : ((zn : Int) == 0) = false := by simp; omega
                have HM1 := hide (zrun_done hm (.inr (.inl (by rw [drop_get, ← HZ.out]; exact fun e => hz0 (by rw [HZN.out, e]; rfl)))))
                go_wp2_with fail
                refine (CW _ ((Ext.refl w3).drewN q)).mono ?_
                rintro e w5 ⟨rfl, ob5, hW5, hN5, hM5⟩
                obtain ⟨x1, x2, x3, x4⟩ := HEx.out HM1.out w5 ob5 hN5 hM5
                clear CW hN5 hM5
                go_wp2
                go_roundw
                case rel => exact ⟨i + m + 1, _, ob5, x1, by rw [HJ.out]; go_num, hW5, x2, x3, x4⟩
                case measure => have := HJ.out; simp [intOf]; omega
            · have hinI : ¬ ((i + m : Nat) : Int) + 1 < (N : Int) := by omega
              have HM1 := hide (zrun_done hm (.inl (by rw [List.length_drop, ← HNl.out]; omega)))
              go_wp2_with fail
              refine (CW _ ((Ext.refl w3).drewN q)).mono ?_
              rintro e w5 ⟨rfl, ob5, hW5, hN5, hM5⟩
              obtain ⟨x1, x2, x3, x4⟩ := HEx.out HM1.out w5 ob5 hN5 hM5
              clear CW hN5 hM5
              go_wp2
              go_roundw
              case rel => exact ⟨i + m + 1, _, ob5, x1, by go_num, hW5, x2, x3, x4⟩
              case measure => simp [intOf]; omega
        · have yI : ((y : Nat) : Int) > 0 := by omega
          have HP2 := hide (HP.out.used (by rw [← HNl.out]; exact hlt) (by rw [← HY.out]; exact y0))
          rw [← HY.out] at HP2
          go_wp2
          go_roundw
          case rel => exact ⟨i + 1, _, ob3, by omega, by go_num, HW3.out, hN4, HM4.out, HP2.out⟩
          case measure => simp [intOf]; omega
      · obtain rfl : i = N := by omega
        have hPa := hP
        rw [HNl.out] at hPa
        have HA := hide hPa.all
        clear hPa hP
        go_wp2
        go_ret
        rw [HE.out]
        refine ⟨rfl, ob1, ?_, hN1, hM⟩
        rw [← HA.out]
        exact hW
end Go.Proofs.YthpbckignppaiaaGreatDoor

namespace Go.Proofs.YthpbckignppaiaaGreatDoor.Can
open Len
def done (l : List UInt8) (k s t : Nat) : Prop := lenAt l t ≠ 0 ∧ (lenAt l t < k ∨ lenAt l t = k ∧ t < s)
structure Words (l : List UInt8) (k s nx was : Nat) (any : Bool) (O : List Nat) : Prop where
  len : O.length = l.length
  told : ∀ t, t < l.length → done l k s t → O.getD t 0 = word l t
  none : ∀ t, t < l.length → ¬ done l k s t → O.getD t 0 = 0
  no : any = false → acc l k s = 0 ∧ nx = 0
  yes : any = true → (nx + 1) * 2 ^ (15 - was) = acc l k s ∧ 1 ≤ was ∧ was ≤ k
section
variable {l : List UInt8} {k s nx was : Nat} {any : Bool} {O : List Nat}
theorem Words.start : Words l 1 0 0 0 false (List.replicate l.length 0) where
  len := by simp
  told := fun t _ h => by unfold done at h; omega
  none := fun t ht _ => by simp [List.getD_eq_getElem?_getD, ht]
  no := fun _ => ⟨acc_start l, rfl⟩
  yes := fun h => by cases h
theorem Words.turn (h : Words l k l.length nx was any O) : Words l (k + 1) 0 nx was any O where
  len := h.len
  told := fun t ht hd => h.told t ht (by unfold done at *; omega)
  none := fun t ht hd => h.none t ht (by unfold done at *; omega)
  no := fun e => by rw [acc_turn]; exact h.no e
  yes := fun e => by rw [acc_turn]; have := h.yes e; exact ⟨this.1, this.2.1, by omega⟩
theorem Words.pass (h : Words l k s nx was any O) (hk : 1 ≤ k) (hs : s < l.length) (hne : lenAt l s ≠ k) : Words l k (s + 1) nx was any O where
  len := h.len
  told := fun t ht hd => h.told t ht (by
    unfold done at *
    refine ⟨hd.1, ?_⟩
    rcases hd.2 with e | e
    · exact .inl e
    · by_cases e2 : t = s
      · subst e2; omega
      · exact .inr ⟨e.1, by omega⟩)
  none := fun t ht hd => h.none t ht (by unfold done at *; omega)
  no := fun e => by rw [acc_step l hk hs, if_neg hne]; exact h.no e
  yes := fun e => by rw [acc_step l hk hs, if_neg hne]; exact h.yes e
def nextW (any : Bool) (nx was k : Nat) : Nat := if any then (nx + 1) * 2 ^ (k - was) else nx
theorem Words.next (h : Words l k s nx was any O) (hk : 1 ≤ k) (hk15 : k ≤ 15) (hs : lenAt l s = k) : nextW any nx was k = word l s ∧ nextW any nx was k * 2 ^ (15 - k) = acc l k s := by
  have h1 : nextW any nx was k * 2 ^ (15 - k) = acc l k s := by
    unfold nextW
    cases any with
    | false =>
      obtain ⟨h2, h3⟩ := h.no rfl
      rw [h2, h3]
      simp
    | true =>
      obtain ⟨h2, h3, h4⟩ := h.yes rfl
      rw [if_pos rfl, ← h2, Nat.mul_assoc, ← Nat.pow_add, show k - was + (15 - k) = 15 - was by omega]
  refine ⟨?_, h1⟩
  unfold word
  rw [if_neg (by omega), hs, ← h1, Nat.mul_div_cancel _ (Nat.pow_pos (by omega))]
theorem Words.put (h : Words l k s nx was any O) (hk : 1 ≤ k) (hk15 : k ≤ 15) (hls : s < l.length) (hs : lenAt l s = k) : Words l k (s + 1) (nextW any nx was k) k true (O.set s (nextW any nx was k)) := by
  obtain ⟨h1, h2⟩ := h.next hk hk15 hs
  refine ⟨by rw [List.length_set, h.len], fun t ht hd => ?_, fun t ht hd => ?_, (fun e => by cases e), fun _ => ⟨?_, hk, Nat.le_refl _⟩⟩
  · by_cases e : s = t
    · subst e
      rw [List.getD_eq_getElem?_getD, List.getElem?_set_self (by rw [h.len]; exact ht), Option.getD_some, h1]
    · rw [List.getD_eq_getElem?_getD, List.getElem?_set_ne e, ← List.getD_eq_getElem?_getD]
      exact h.told t ht (by unfold done at *; omega)
  · have e : s ≠ t := fun e => hd (by subst e; unfold done; omega)
    rw [List.getD_eq_getElem?_getD, List.getElem?_set_ne e, ← List.getD_eq_getElem?_getD]
    exact h.none t ht (by unfold done at *; omega)
  · rw [acc_step l hk hls, if_pos hs, Nat.add_mul, h2, Nat.one_mul]
theorem Words.small (h : Words l k s nx was any O) (hr : right l = true) : nx < 32768 := by
  cases any with
  | false => rw [(h.no rfl).2]; decide
  | true =>
    have h1 := (h.yes rfl).1
    have h2 := acc_le l k s
    have h3 := (right_facts hr).2.2
    have h4 : 0 < 2 ^ (15 - was) := Nat.pow_pos (by omega)
    have h5 : (nx + 1) * 1 ≤ (nx + 1) * 2 ^ (15 - was) := Nat.mul_le_mul_left _ h4
    omega
theorem Words.all (h : Words l 16 0 nx was any O) (hr : right l = true) : O = codesL l := by
  have h15 := (right_facts hr).2.1
  refine List.ext_getElem (by rw [h.len]; simp [codesL]) fun t h1 h2 => ?_
  have ht : t < l.length := by rw [← h.len]; exact h1
  have e1 : (codesL l)[t] = word l t := by simp [codesL]
  rw [e1]
  have e2 : O[t] = O.getD t 0 := by rw [List.getD_eq_getElem?_getD, List.getElem?_eq_getElem h1]; rfl
  rw [e2]
  by_cases h0 : lenAt l t = 0
  · rw [h.none t ht (by unfold done; omega)]
    unfold word
    rw [if_pos h0]
  · exact h.told t ht (by have := h15 t ht; unfold done; omega)
end
end Go.Proofs.YthpbckignppaiaaGreatDoor.Can
namespace Go.Proofs.YthpbckignppaiaaGreatDoor
open Go.RowKit
def h16V (x : Nat) : Value := .int .u16 (x : Int)
def OwnH (w : World) (base : Nat) (v : Value) (L : List Nat) : Prop := w.ownsRow base 93 1 v L.length (L.map h16V)
theorem h16_info : (Tryz.prog.info? 93).map (fun i => (i.zero, i.size, i.bytes)) = some (some (.int .u16 0), 1, 2) := by kernel_rfl
section
variable {w w' : World} {base g n c : Nat} {v : Value} {L : List Nat}
theorem OwnH.nil (w : World) (base : Nat) : OwnH w base (.slice none 0 0) [] := World.ownsRow_nil w base _ _
theorem OwnH.ext (h : OwnH w base v L) (hE : Ext w w') : OwnH w' base v L := World.ownsRow.kept h (hE.grown none) (by cases hv : v.ownBlock <;> simp)
theorem OwnH.lt (h : OwnH w base v L) : ∀ k, v.ownBlock = some k → base ≤ k ∧ k < w.heap.size := World.ownsRow.lt h
theorem OwnH.mono {b' : Nat} (h : OwnH w base v L) (hb : b' ≤ base) : OwnH w b' v L := ⟨h.1, h.2.imp_right fun ⟨g, cap, cur, e, hg, r⟩ => ⟨g, cap, cur, e, Nat.le_trans hb hg, r⟩⟩
theorem OwnH.form (h : OwnH w base v L) : ∃ A c, v = .slice A L.length c ∧ L.length ≤ c ∧ c ≤ maxLen ∧ (L.length = 0 ∨ ∃ g, A = some ⟨g, 0, none⟩ ∧ base ≤ g ∧ g < w.heap.size) := by
  rcases h.2 with ⟨rfl, h0⟩ | ⟨g, cap, cur, rfl, hb, hg, hn, hc, hs, ht⟩
  · exact ⟨none, 0, by rw [h0], by omega, by unfold maxLen; omega, .inl h0⟩
  · exact ⟨_, cap, rfl, hn, hc, .inr ⟨g, rfl, hb, (Array.getElem?_eq_some_iff.1 hg).1⟩⟩
theorem OwnH.cell (h : OwnH w base (.slice (some ⟨g, 0, none⟩) L.length c) L) {i : Nat} (hi : i < L.length) :
    w.cell? ⟨g, i, none⟩ = some (.int .u16 ((L.getD i 0 : Nat) : Int)) ∧ w.frozen? ⟨g, i, none⟩ = false := by
  refine ⟨?_, World.ownsRow.frozenAt h i⟩
  rw [World.ownsRow.cellAt h i (by omega)]
  simp [h16V, hi]
theorem OwnH.set (h : OwnH w base (.slice (some ⟨g, 0, none⟩) L.length c) L) (i x : Nat) :
    OwnH (w.setCell ⟨g, i, none⟩ (.int .u16 (x : Int))) base (.slice (some ⟨g, 0, none⟩) L.length c) (L.set i x) := by
  have := (World.ownsRow.stored h i (.int .u16 (x : Int))).1
  unfold OwnH
  rw [List.length_set, List.map_set]
  exact this
end
section
variable {o : Oper} {a : Act} {Q : Exit → Act → World → Prop} {w : World} {base : Nat} {v : Value} {L : List Nat}
theorem wpList_appH {ops : Array Oper} {rest : List Oper} (hgd : o.guard = none) (s x : Operand) (ho : o.op = .call { callee := .builtin .append, args := #[s, x], argTypes := #[50, 50] }) (hs : a.eval s = v) (p : Nat)
    (hown : OwnH (w.alloc (.cells #[.int .u16 (p : Int)] 93)) base v L) {c : Nat} (hx : a.eval x = .slice (some ⟨w.heap.size, 0, none⟩) 1 c) (hlen : L.length ≤ 1000) (hbase : base ≤ w.heap.size)
    (h : ∀ v' w', OwnH w' base v' (L ++ [p]) → (w.alloc (.cells #[.int .u16 (p : Int)] 93)).grownBy w' v.ownBlock → wpList Tryz.prog ops Q rest (a.put o.dst v') w') :
    wpList Tryz.prog ops Q (o :: rest) a (w.alloc (.cells #[.int .u16 (p : Int)] 93)) := by
  obtain ⟨i, hi, hz, hsz, hby⟩ := info_parts h16_info
  refine wpList_append_own_at _ hgd s x 50 ho base 93 i _ 1 2 Tryz.underlying50 hi hz hsz hby rfl (by omega) v L.length (L.map h16V) hs hown ⟨w.heap.size, 0, none⟩ 1 c [.int .u16 (p : Int)] hx rfl (by
    intro j u hu
    match j, hu with
    | 0, hu =>
      have : (⟨w.heap.size, 0, none⟩ : Addr).add 0 = ⟨w.heap.size, 0, none⟩ := rfl
      rw [this, cellNew]
      simpa using hu
    | j + 1, hu => simp at hu) (by
    intro u hu
    simp at hu
    subst hu
    rfl) (by unfold maxLen; omega) (by omega) (by simp; omega) ?_
  intro v' w' h2 h3 _ h5
  refine h v' w' ?_ h3
  unfold OwnH
  rw [List.length_append, List.map_append]
  exact h2
end
end Go.Proofs.YthpbckignppaiaaGreatDoor

