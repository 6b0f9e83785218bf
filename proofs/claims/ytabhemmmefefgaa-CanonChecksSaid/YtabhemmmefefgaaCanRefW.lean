/- The document's Write of chapter 8. -/
import Derived.Test.YtabhemmmefefgaaCanRef
import Derived.Test.YtabhemmmefefgaaCanBits
import Derived.Test.YtabhemmmefefgaaBitRef2
import Derived.StillTailTactics
namespace Go.Proofs.Ytabhemmmefefgaa
open Go.RowKit Len Can

namespace Can
theorem zrun_more {f m : Nat} {r : List UInt8} (hm : m ≤ zrun f r) (hl : m < r.length) (h0 : r.getD m 0 = 0) (hf : m < f) : m + 1 ≤ zrun f r := by
  rcases Nat.lt_or_ge m (zrun f r) with h | h
  · exact h
  · obtain rfl : m = zrun f r := by omega
    refine absurd h0 (zrun_stop f r hf _ ?_)
    rw [List.head?_drop, List.getD_eq_getElem?_getD, List.getElem?_eq_getElem hl]
    rfl
theorem zrun_done {f m : Nat} {r : List UInt8} (hm : m ≤ zrun f r) (h : r.length ≤ m ∨ r.getD m 0 ≠ 0 ∨ f ≤ m) : m = zrun f r := by
  rcases Nat.lt_or_ge m (zrun f r) with h2 | h2
  · exfalso
    have hz := zrun_le f r
    rcases h with h | h | h
    · omega
    · apply h
      have e := congrArg (fun l => l.getD m 0) (zrun_zero f r)
      simp only [List.getD_eq_getElem?_getD, List.getElem?_take, if_pos h2] at e
      rw [List.getD_eq_getElem?_getD, e]
      simp [h2]
    · omega
  · omega
/-- The symbols ahead of i are written as P. -/
structure Wr (l : List UInt8) (i : Nat) (P : List Bool) : Prop where
  le : i ≤ l.length
  eq : P ++ wbits (l.drop i) = wbits l
theorem Wr.start (l : List UInt8) : Wr l 0 [] := ⟨Nat.zero_le _, rfl⟩
section
variable {l : List UInt8} {i : Nat} {P : List Bool}
theorem Wr.all (h : Wr l l.length P) : P = wbits l := by
  have := h.eq
  rwa [List.drop_length, wbits_nil, List.append_nil] at this
theorem Wr.small (h : Wr l i P) : P.length ≤ 10 * l.length := by
  have := congrArg List.length h.eq
  have h2 := wbits_len l
  rw [List.length_append] at this
  omega
theorem drop_cons (hi : i < l.length) : l.drop i = l.getD i 0 :: l.drop (i + 1) := by
  rw [List.drop_eq_getElem_cons hi, List.getD_eq_getElem?_getD, List.getElem?_eq_getElem hi]
  rfl
theorem Wr.used (h : Wr l i P) (hi : i < l.length) (h0 : lenAt l i ≠ 0) : Wr l (i + 1) (P ++ Bit.num (lenAt l i) 4) := by
  refine ⟨hi, ?_⟩
  rw [← h.eq, drop_cons hi, wbits_used _ (fun e => h0 (by unfold lenAt; rw [e]; rfl)), List.append_assoc]
  rfl
theorem Wr.zero (h : Wr l i P) (hi : i < l.length) (h0 : lenAt l i = 0) {m : Nat} (hm : m = zrun 63 (l.drop (i + 1))) : Wr l (i + 1 + m) (P ++ Bit.num 0 4 ++ Bit.num m 6) := by
  have hz := zrun_le 63 (l.drop (i + 1))
  rw [List.length_drop] at hz
  refine ⟨by omega, ?_⟩
  have e0 : l.getD i 0 = 0 := UInt8.toNat_inj.1 h0
  rw [← h.eq, drop_cons hi, e0, wbits_zero, ← hm, List.drop_drop]
  simp [List.append_assoc]
theorem drop_get (m : Nat) : (l.drop (i + 1)).getD m 0 = l.getD (i + 1 + m) 0 := by simp [List.getD_eq_getElem?_getD, List.getElem?_drop]
end
theorem put4 {x : Nat} (h : x ≤ 15) : Bit.putBits x 4 = Bit.num x 4 := (Bit.put_good (decide_eq_true ⟨by omega, by omega, by show x < 2 ^ 4; omega⟩)).2
theorem put6 {x : Nat} (h : x ≤ 63) : Bit.putBits x 6 = Bit.num x 6 := (Bit.put_good (decide_eq_true ⟨by omega, by omega, by show x < 2 ^ 6; omega⟩)).2
end Can

set_option maxHeartbeats 4000000 in
set_option maxRecDepth 100000 in
theorem refWrite_any {w : World} {base g : Nat} {ob : Option Nat} {R : List UInt8} (h : RefW w base g ob R) (hR : R.length ≤ 800000000) (A : Option Addr) (n c : Nat) (l : List UInt8) (hB : Bytes w base A n l) :
    Calls Try.prog 18 #[.pointer (some ⟨g, 0, none⟩), .slice A n c] w (RefPuts w base g ob (R ++ (if right l then wbits l else []).map bit8) (checkE l)) := by
  have hl := hB.1
  subst hl
  have hbw : base ≤ w.heap.size := Nat.le_of_lt (Nat.lt_of_le_of_lt h.le h.lt)
  have C1 := refCheck_any A l.length c l w (hB.mono hbw)
  cases hr : right l with
  | false =>
    have HE := hide (check_wrong hr)
    rw [check_wrong hr] at C1
    generalize checkE l = E at *
    have HF := hide h
    clear hr h
    go_enter Try.func18, Try.ntmps18
    go_wp2_with fail
    refine C1.mono ?_
    rintro e w2 ⟨rfl, hE⟩
    go_wp2
    go_ret
    rw [HE.out]
    exact ⟨rfl, ob, by simpa using HF.out.ext hE, .inl rfl, Mod.ofExt hE⟩
  | true =>
    have HE := hide (check_right hr)
    rw [check_right hr] at C1
    obtain ⟨h300, h15, _⟩ := right_facts hr
    have H15 := hide h15
    have HSt := hide (Wr.start l)
    generalize checkE l = E at *
    clear hr h15
    obtain ⟨N, hN⟩ : ∃ N, N = l.length := ⟨_, rfl⟩
    have HNl := hide hN
    rw [← hN] at C1 h300 hB ⊢
    have HB := hide hB
    have HF := hide h
    have hgb := h.le
    have hob := fun k hk => (h.own k hk).1
    clear hN hB h
    go_enter Try.func18, Try.ntmps18
    go_wp2_with fail
    refine C1.mono ?_
    rintro e w2 ⟨rfl, hE⟩
    clear C1
    go_wp2_with fail
    go_loopw [5] (fun a wr => ∃ (i : Nat) (P : List Bool) (ob1 : Option Nat), i ≤ N ∧ a = .int .i64 (i : Int) ∧ RefW wr base g ob1 (R ++ P.map bit8) ∧ NewOb w ob ob1 ∧ Mod w wr g ob ∧ Wr l i P) (fun a _ => N - (intOf a).toNat)
    case atStart => exact ⟨0, [], ob, Nat.zero_le _, rfl, by simpa using HF.out.ext hE, .inl rfl, Mod.ofExt hE, HSt.out⟩
    case round =>
      obtain ⟨i, P, ob1, hi, rfl, hW, hN1, hM, hP⟩ := hrel
      by_cases hlt : i < N
      · have hil : (i : Int) < (N : Int) := by omega
        rcases (HB.out.below (hM.below hbw hgb hob) (Nat.le_refl _)).2 with h0 | ⟨b, off, rfl, hbb, hc⟩
        · omega
        have hk := hc i hlt
        have hy15 := H15.out i (by rw [← HNl.out]; exact hlt)
        have hps := hP.small
        rw [← HNl.out] at hps
        obtain ⟨y, hy⟩ : ∃ y, y = lenAt l i := ⟨_, rfl⟩
        have hk' : wr.cell? ⟨b, off + i, none⟩ = some (.int .u8 (y : Int)) := by rw [hy]; exact hk
        rw [← hy] at hy15
        have HY := hide hy
        have HC := hide hc
        have HP := hide hP
        have HM := hide hM
        clear hk hy hc hP
        have hlen : (R ++ P.map bit8).length ≤ 900000000 := by simp; omega
        have CP := refPut_any hW y 4 (by omega) hlen
        rw [put4 hy15, List.append_assoc, ← List.map_append] at CP
        generalize Bit.putErr (↑y) 4 = E1 at CP
        clear hW
        go_wp2_with fail
        refine CP.mono ?_
        rintro e w3 ⟨rfl, ob3, hW3, hN3, hM3⟩
        clear CP
        have hN4 := hN1.trans HM.out.size hN3
        have HM4 := hide (HM.out.trans hM3 hN1)
        have HW3 := hide hW3
        rcases (HB.out.below (HM4.out.below hbw hgb hob) (Nat.le_refl _)).2 with h0 | ⟨b2, off2, hA2, _, hc3⟩
        · omega
        have hb2 : b2 = b ∧ off2 = off := by injection hA2 with e; injection e with e1 e2; exact ⟨e1.symm, e2.symm⟩
        obtain ⟨rfl, rfl⟩ := hb2
        have hk3 := hc3 i hlt
        have hk3' : w3.cell? ⟨b2, off2 + i, none⟩ = some (.int .u8 (y : Int)) := by rw [HY.out]; exact hk3
        have HC3 := hide hc3
        clear hc3 hk3 hk' hM hM3 hW3 hA2 hN3
        by_cases y0 : y = 0
        · have HY0 := hide (show lenAt l i = 0 by rw [← HY.out]; exact y0)
          subst y0
          go_wp2_with fail
          go_loopw [5, 6] (fun a d wq => ∃ m : Nat, a = .int .i64 ((i + m : Nat) : Int) ∧ d = .int .i64 (m : Int) ∧ m ≤ zrun 63 (l.drop (i + 1)) ∧ Qt w3 wq) (fun _ d _ => 63 - (intOf d).toNat)
          case atStart => exact ⟨0, rfl, rfl, Nat.zero_le _, Qt.refl _⟩
          case round =>
            obtain ⟨m, rfl, rfl, hm, q, rfl⟩ := hrel
            have hz := zrun_le 63 (l.drop (i + 1))
            rw [List.length_drop, ← HNl.out] at hz
            have CW : ∀ W, Ext w3 W → Calls Try.prog 16 #[.pointer (some ⟨g, 0, none⟩), .int .u64 (m : Int), .int .i64 6] W (RefPuts W base g ob3 (R ++ (P ++ Bit.num 0 4 ++ Bit.num m 6).map bit8) (Bit.putErr m 6)) := fun W hX => by
              have := refPut_any (HW3.out.ext hX) m 6 (by omega) (by simp [Bit.num_length]; omega)
              rw [put6 (by omega), List.append_assoc, ← List.map_append] at this
              exact this
            have HEx := hide (show m = zrun 63 (l.drop (i + 1)) → ∀ w5 ob5, NewOb (w3.drewN q) ob3 ob5 → Mod (w3.drewN q) w5 g ob3 → i + m + 1 ≤ N ∧ NewOb w ob ob5 ∧ Mod w w5 g ob ∧ Wr l (i + m + 1) (P ++ Bit.num 0 4 ++ Bit.num m 6) from fun hmz w5 ob5 hN5 hM5 => by
              have hE3 : Ext w3 (w3.drewN q) := (Ext.refl w3).drewN q
              have hMd : Mod w (w3.drewN q) g ob := HM4.out.trans (Mod.ofExt (ob := ob3) hE3) hN4
              refine ⟨by omega, hN4.trans hMd.size hN5, hMd.trans hM5 hN4, ?_⟩
              rw [show i + m + 1 = i + 1 + m by omega]
              exact HP.out.zero (by rw [← HNl.out]; exact hlt) HY0.out hmz)
            generalize Bit.putErr m 6 = E6 at CW
            by_cases hin : i + m + 1 < N
            · have hinI : ((i + m : Nat) : Int) + 1 < (N : Int) := by omega
              obtain ⟨z, hz2⟩ : ∃ z, z = l.getD (i + 1 + m) 0 := ⟨_, rfl⟩
              have hkz := HC3.out (i + m + 1) hin
              rw [show i + m + 1 = i + 1 + m by omega, ← hz2] at hkz
              have HZ := hide hz2
              have hz8 := UInt8.toNat_lt z
              obtain ⟨zn, hzn⟩ : ∃ zn, zn = z.toNat := ⟨_, rfl⟩
              rw [← hzn] at hkz hz8
              have HZN := hide hzn
              obtain ⟨j, hj⟩ : ∃ j, j = i + m := ⟨_, rfl⟩
              rw [show off2 + (i + 1 + m) = off2 + (j + 1) by omega] at hkz
              rw [← hj] at hinI ⊢
              have HJ := hide hj
              have hkq : (w3.drewN q).cell? ⟨b2, off2 + (j + 1), none⟩ = some (.int .u8 (zn : Int)) := hkz
              clear hz2 hzn hj hkz
              by_cases hz0 : zn = 0
              · subst hz0
                by_cases hm63 : m < 63
                · have hmI : (m : Int) < 63 := by omega
                  have HM1 := hide (zrun_more hm (by rw [List.length_drop, ← HNl.out]; omega) (by rw [drop_get, ← HZ.out]; exact UInt8.toNat_inj.1 HZN.out.symm) hm63)
                  go_wp2
                  go_roundw
                  case rel => exact ⟨m + 1, by rw [HJ.out]; go_num, by go_num, HM1.out, (Qt.refl w3).drewN _⟩
                  case measure => simp [intOf]; omega
                · have hmI : ¬ (m : Int) < 63 := by omega
                  have HM1 := hide (zrun_done hm (.inr (.inr (by omega))))
                  go_wp2_with fail
                  refine (CW _ ((Ext.refl w3).drewN q)).mono ?_
                  rintro e w5 ⟨rfl, ob5, hW5, hN5, hM5⟩
                  obtain ⟨x1, x2, x3, x4⟩ := HEx.out HM1.out w5 ob5 hN5 hM5
                  clear CW hN5 hM5
                  go_wp2
                  go_roundw
                  case rel => exact ⟨i + m + 1, _, ob5, x1, by rw [HJ.out]; go_num, hW5, x2, x3, x4⟩
                  case measure => have := HJ.out; simp [intOf]; omega
              · have hzI : ((zn : Int) == 0) = false := by simp; omega
                have HM1 := hide (zrun_done hm (.inr (.inl (by rw [drop_get, ← HZ.out]; exact fun e => hz0 (by rw [HZN.out, e]; rfl)))))
                go_wp2_with fail
                refine (CW _ ((Ext.refl w3).drewN q)).mono ?_
                rintro e w5 ⟨rfl, ob5, hW5, hN5, hM5⟩
                obtain ⟨x1, x2, x3, x4⟩ := HEx.out HM1.out w5 ob5 hN5 hM5
                clear CW hN5 hM5
                go_wp2
                go_roundw
                case rel => exact ⟨i + m + 1, _, ob5, x1, by rw [HJ.out]; go_num, hW5, x2, x3, x4⟩
                case measure => have := HJ.out; simp [intOf]; omega
            · have hinI : ¬ ((i + m : Nat) : Int) + 1 < (N : Int) := by omega
              have HM1 := hide (zrun_done hm (.inl (by rw [List.length_drop, ← HNl.out]; omega)))
              go_wp2_with fail
              refine (CW _ ((Ext.refl w3).drewN q)).mono ?_
              rintro e w5 ⟨rfl, ob5, hW5, hN5, hM5⟩
              obtain ⟨x1, x2, x3, x4⟩ := HEx.out HM1.out w5 ob5 hN5 hM5
              clear CW hN5 hM5
              go_wp2
              go_roundw
              case rel => exact ⟨i + m + 1, _, ob5, x1, by go_num, hW5, x2, x3, x4⟩
              case measure => simp [intOf]; omega
        · have yI : ((y : Nat) : Int) > 0 := by omega
          have HP2 := hide (HP.out.used (by rw [← HNl.out]; exact hlt) (by rw [← HY.out]; exact y0))
          rw [← HY.out] at HP2
          go_wp2
          go_roundw
          case rel => exact ⟨i + 1, _, ob3, by omega, by go_num, HW3.out, hN4, HM4.out, HP2.out⟩
          case measure => simp [intOf]; omega
      · obtain rfl : i = N := by omega
        have hPa := hP
        rw [HNl.out] at hPa
        have HA := hide hPa.all
        clear hPa hP
        go_wp2
        go_ret
        rw [HE.out]
        refine ⟨rfl, ob1, ?_, hN1, hM⟩
        rw [← HA.out]
        exact hW
end Go.Proofs.Ytabhemmmefefgaa
