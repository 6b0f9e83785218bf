/- The law CanonApart. The law CanonOrder. -/
import Derived.Test.YtabhemmmefefgaaCanLaw
import Derived.Test.YtabhemmmefefgaaCanCodes
namespace Go.Proofs.Ytabhemmmefefgaa
open Go.RowKit Len Can

theorem Can.tmod_nat1 (a b : Nat) : ((a : Int)).tmod (b : Int) = ((a % b : Nat) : Int) := by simp [Int.tmod_eq_emod_of_nonneg]

set_option maxHeartbeats 4000000 in
set_option maxRecDepth 100000 in
theorem canonApart_walk0 (i k : Int) (A : Option Addr) (n c : Nat) (l : List UInt8) (w : World) (hL : CodesC w) (hn : n ≤ c) (hc : c ≤ maxLen) (hi0 : 0 ≤ i) (hi1 : i ≤ 65535) (hk0 : 0 ≤ k) (hk1 : k ≤ 65535) (hb : Bytes w w.heap.size A n l) :
    Calls Try.prog 5 #[.slice A n c, .int .u16 i, .int .u16 k] w fun e w' => e = .returned (.bool true) ∧ Ext w w' := by
  have C1 := fun W hE => hL l A n c W hE hn hc (Ext.bytes hE hb)
  obtain ⟨i, rfl⟩ := Int.eq_ofNat_of_zero_le hi0
  obtain ⟨k, rfl⟩ := Int.eq_ofNat_of_zero_le hk0
  have hlen := hb.1
  by_cases hgood : right l = true ∧ n ≠ 0
  · obtain ⟨hr, hn0⟩ := hgood
    obtain ⟨h300, h15, _⟩ := right_facts hr
    rw [hlen] at h300
    have hEq : codesE l = (codesL l, 0) := by unfold codesE; rw [hr]; rfl
    simp only [hEq] at C1
    rcases hb.2 with h0 | ⟨bl, ol, rfl, hbl, hcl⟩
    · exact absurd h0 hn0
    have han : i % n < n := Nat.mod_lt _ (by omega)
    have hbn : k % n < n := Nat.mod_lt _ (by omega)
    have ta := tmod_nat1 i n
    have tb := tmod_nat1 k n
    have hll : (codesL l).length = n := by rw [codesL, List.length_map, List.length_range, hlen]
    have hat : ∀ s, s < n → (codesL l).getD s 0 = word l s := fun s hs => by simp [codesL, List.getD_eq_getElem?_getD, hlen, hs]
    have kA : w.cell? ⟨bl, ol + i % n, none⟩ = some (.int .u8 ((lenAt l (i % n) : Nat) : Int)) := hcl _ han
    have kB : w.cell? ⟨bl, ol + k % n, none⟩ = some (.int .u8 ((lenAt l (k % n) : Nat) : Int)) := hcl _ hbn
    have ya15 := h15 _ (by rw [hlen]; exact han)
    have yb15 := h15 _ (by rw [hlen]; exact hbn)
    have wal := word_lt hr (s := i % n) (by rw [hlen]; exact han)
    have wbl := word_lt hr (s := k % n) (by rw [hlen]; exact hbn)
    have hAp := (fun (hab : i % n ≠ k % n) (a0 : lenAt l (i % n) ≠ 0) (b0 : lenAt l (k % n) ≠ 0) (h : lenAt l (i % n) ≤ lenAt l (k % n)) => word_apart (by rw [hlen]; exact han) (by rw [hlen]; exact hbn) hab a0 b0 yb15 h)
    have hwa := hat _ han
    have hwb := hat _ hbn
    have hnz : ((n : Int) == 0) = false := by simp; omega
    have haI : ((i % n : Nat) : Int) < (n : Int) := by omega
    have hbI : ((k % n : Nat) : Int) < (n : Int) := by omega
    have HA := hide hAp
    clear hcl hAp h15 hat hr hEq hlen
    generalize codesL l = L at *
    generalize lenAt l (i % n) = ya at *
    generalize lenAt l (k % n) = yb at *
    generalize word l (i % n) = wa at *
    generalize word l (k % n) = wb at *
    generalize i % n = a at *
    generalize k % n = b at *
    have HB := hide hb
    have Hll := hide hll
    have Hwa := hide hwa
    have Hwb := hide hwb
    have wa16 : wa < 32768 := wal
    have wb16 : wb < 32768 := wbl
    clear hb hwa hwb wal wbl
    go_enter Try.func5, Try.ntmps5
    go_wp2_with fail
    refine (alive8_any hL (Ext.refl w)).mono ?_
    rintro e w1 ⟨rfl, hE1⟩
    have C2 := C1 _ hE1
    clear C1
    go_wp2_with fail
    refine C2.mono ?_
    rintro e w2 ⟨v2, rfl, hO, hE2⟩
    have hF := hE1.trans hE2
    dsimp only at hO
    obtain ⟨Ax, cx, rfl, hcx, _, hax⟩ := hO.form
    rcases hax with h0 | ⟨g, rfl, _⟩
    · rw [hll] at h0; omega
    have xa := (hO.cell (i := a) (by rw [hll]; exact han)).1
    have xb := (hO.cell (i := b) (by rw [hll]; exact hbn)).1
    rw [Hwa.out] at xa
    rw [Hwb.out] at xb
    rw [hll] at hcx ⊢
    have la := (hF.cell hbl).trans kA
    have lb := (hF.cell hbl).trans kB
    have HF := hide hF
    clear hO C2 kA kB hE1 hE2 hF hll
    go_wp2_with fail
    go_quiet (fail)
    have hQ : Ext w2 (w2.drewN nq) := (Ext.refl w2).drewN nq
    have HF3 := hide (HF.out.trans hQ)
    have la3 : (w2.drewN nq).cell? ⟨bl, ol + a, none⟩ = _ := la
    have lb3 : (w2.drewN nq).cell? ⟨bl, ol + b, none⟩ = _ := lb
    have xa3 : (w2.drewN nq).cell? ⟨g, a, none⟩ = _ := xa
    have xb3 : (w2.drewN nq).cell? ⟨g, b, none⟩ = _ := xb
    clear la lb xa xb hQ HF
    generalize w2.drewN nq = w3 at *
    by_cases hab : a = b
    · have h1 : ((a : Int) == (b : Int)) = true := by simp; omega
      have HQ := hide hab
      clear hab
      go_wp2
      go_quiet (fail)
      go_wp2
      go_ret
      exact ⟨rfl, HF3.out.drewN _⟩
    have h1 : ((a : Int) == (b : Int)) = false := by simp; omega
    by_cases a0 : ya = 0
    · have h2 : ((ya : Int) == 0) = true := by simp; omega
      have HQ := hide a0
      clear a0
      go_wp2
      go_quiet (fail)
      go_wp2
      go_ret
      exact ⟨rfl, HF3.out.drewN _⟩
    have h2 : ((ya : Int) == 0) = false := by simp; omega
    by_cases b0 : yb = 0
    · have h3 : ((yb : Int) == 0) = true := by simp; omega
      have HQ := hide b0
      clear b0
      go_wp2
      go_quiet (fail)
      go_wp2
      go_ret
      exact ⟨rfl, HF3.out.drewN _⟩
    have h3 : ((yb : Int) == 0) = false := by simp; omega
    by_cases hy : yb < ya
    · have h4 : decide ((yb : Int) < (ya : Int)) = true := by simp; omega
      go_wp2
      go_quiet (fail)
      go_wp2
      go_ret
      exact ⟨rfl, HF3.out.drewN _⟩
    have h4 : decide ((yb : Int) < (ya : Int)) = false := by simp; omega
    have HAp := hide (HA.out hab a0 b0 (by omega))
    have HQ := hide hab
    have HQ2 := hide a0
    have HQ3 := hide b0
    clear hab a0 b0
    go_wp2
    go_quiet (fail)
    generalize hw4 : w3.drewN nq = w4 at *
    have HF4 := hide (show Ext w w4 by rw [← hw4]; exact HF3.out.drewN _)
    have la4 : w4.cell? ⟨bl, ol + a, none⟩ = some (.int .u8 (ya : Int)) := by rw [← hw4]; exact la3
    have lb4 : w4.cell? ⟨bl, ol + b, none⟩ = some (.int .u8 (yb : Int)) := by rw [← hw4]; exact lb3
    have xa4 : w4.cell? ⟨g, a, none⟩ = some (.int .u16 (wa : Int)) := by rw [← hw4]; exact xa3
    have xb4 : w4.cell? ⟨g, b, none⟩ = some (.int .u16 (wb : Int)) := by rw [← hw4]; exact xb3
    clear hw4 la3 lb3 xa3 xb3 HF3
    go_wp2_with fail
    go_loopw [11, 12] (fun x y wq => ∃ t v : Nat, ya + t ≤ yb ∧ x = .int .u16 (v : Int) ∧ v = wb / 2 ^ t ∧ y = .int .u8 ((ya + t : Nat) : Int) ∧ wq = w4) (fun _ y _ => yb - (intOf y).toNat)
    case atStart => exact ⟨0, wb, by omega, rfl, by simp, rfl, rfl⟩
    case round =>
      obtain ⟨t, v, ht, rfl, hv, rfl, rfl⟩ := hrel
      have hvs : v ≤ wb := by rw [hv]; exact Nat.div_le_self _ _
      by_cases hlt : ya + t < yb
      · have hlI : ((ya + t : Nat) : Int) < (yb : Int) := by omega
        have HV := hide (show v / 2 = wb / 2 ^ (t + 1) by rw [hv, Nat.pow_succ, Nat.div_div_eq_div_mul])
        clear hv
        go_wp2
        go_roundw
        case rel => exact ⟨t + 1, v / 2, by omega, by go_num, HV.out, by go_num, trivial⟩
        case measure => simp [intOf]; omega
      · have hlI : ¬ ((ya + t : Nat) : Int) < (yb : Int) := by omega
        have hne : v ≠ wa := by
          rw [hv, show t = yb - ya by omega]
          exact HAp.out
        have h9 : ((v : Int) != (wa : Int)) = true := by simp; omega
        have HQ4 := hide hne
        clear hv hne
        go_wp2
        go_ret
        exact ⟨rfl, HF4.out⟩

  · by_cases her : (codesE l).2 = 0
    · have hnn : n = 0 := Classical.byContradiction fun h0 => hgood ⟨by
        cases hr : right l with
        | true => rfl
        | false => unfold codesE at her; rw [hr] at her; exact absurd her (by simp), h0⟩
      subst hnn
      have hcl := codesE_len l
      rw [hlen] at hcl
      have hc0 : (codesE l).1.length = 0 := by omega
      clear hgood hb hlen hcl
      generalize codesE l = r at *
      obtain ⟨L, er⟩ := r
      dsimp only at her hc0
      subst her
      go_enter Try.func5, Try.ntmps5
      go_wp2_with fail
      refine (alive8_any hL (Ext.refl w)).mono ?_
      rintro e w1 ⟨rfl, hE1⟩
      have C2 := C1 _ hE1
      clear C1
      go_wp2_with fail
      refine C2.mono ?_
      rintro e w2 ⟨v2, rfl, hO, hE2⟩
      have hF := hE1.trans hE2
      dsimp only at hO
      obtain ⟨Ax, cx, rfl, _⟩ := hO.form
      rw [hc0]
      clear hO C2 hc0
      go_wp2
      go_ret
      exact ⟨rfl, hF⟩
    · have hc0 : (codesE l).1.length = 0 ∧ (codesE l).2 = 7 := by
        unfold codesE at her ⊢
        split
        · rename_i hr
          rw [if_pos hr] at her
          exact absurd rfl her
        · exact ⟨rfl, rfl⟩
      clear hgood hb hlen her
      generalize codesE l = r at *
      obtain ⟨L, er⟩ := r
      dsimp only at hc0
      obtain ⟨hc0, rfl⟩ := hc0
      go_enter Try.func5, Try.ntmps5
      go_wp2_with fail
      refine (alive8_any hL (Ext.refl w)).mono ?_
      rintro e w1 ⟨rfl, hE1⟩
      have C2 := C1 _ hE1
      clear C1
      go_wp2_with fail
      refine C2.mono ?_
      rintro e w2 ⟨v2, rfl, hO, hE2⟩
      have hF := hE1.trans hE2
      dsimp only at hO
      obtain ⟨Ax, cx, rfl, _⟩ := hO.form
      rw [hc0]
      clear hO C2 hc0
      go_wp2
      go_ret
      exact ⟨rfl, hF⟩
end Go.Proofs.Ytabhemmmefefgaa

namespace Go.Proofs.Ytabhemmmefefgaa
open Go.RowKit Len Can

theorem Can.tmod_nat2 (a b : Nat) : ((a : Int)).tmod (b : Int) = ((a % b : Nat) : Int) := by simp [Int.tmod_eq_emod_of_nonneg]

set_option maxHeartbeats 4000000 in
set_option maxRecDepth 100000 in
theorem canonOrder_walk0 (i k : Int) (A : Option Addr) (n c : Nat) (l : List UInt8) (w : World) (hL : CodesC w) (hn : n ≤ c) (hc : c ≤ maxLen) (hi0 : 0 ≤ i) (hi1 : i ≤ 65535) (hk0 : 0 ≤ k) (hk1 : k ≤ 65535) (hb : Bytes w w.heap.size A n l) :
    Calls Try.prog 6 #[.slice A n c, .int .u16 i, .int .u16 k] w fun e w' => e = .returned (.bool true) ∧ Ext w w' := by
  have C1 := fun W hE => hL l A n c W hE hn hc (Ext.bytes hE hb)
  obtain ⟨i, rfl⟩ := Int.eq_ofNat_of_zero_le hi0
  obtain ⟨k, rfl⟩ := Int.eq_ofNat_of_zero_le hk0
  have hlen := hb.1
  by_cases hgood : right l = true ∧ n ≠ 0
  · obtain ⟨hr, hn0⟩ := hgood
    obtain ⟨h300, h15, _⟩ := right_facts hr
    rw [hlen] at h300
    have hEq : codesE l = (codesL l, 0) := by unfold codesE; rw [hr]; rfl
    simp only [hEq] at C1
    rcases hb.2 with h0 | ⟨bl, ol, rfl, hbl, hcl⟩
    · exact absurd h0 hn0
    have han : i % n < n := Nat.mod_lt _ (by omega)
    have hbn : k % n < n := Nat.mod_lt _ (by omega)
    have ta := tmod_nat2 i n
    have tb := tmod_nat2 k n
    have hll : (codesL l).length = n := by rw [codesL, List.length_map, List.length_range, hlen]
    have hat : ∀ s, s < n → (codesL l).getD s 0 = word l s := fun s hs => by simp [codesL, List.getD_eq_getElem?_getD, hlen, hs]
    have kA : w.cell? ⟨bl, ol + i % n, none⟩ = some (.int .u8 ((lenAt l (i % n) : Nat) : Int)) := hcl _ han
    have kB : w.cell? ⟨bl, ol + k % n, none⟩ = some (.int .u8 ((lenAt l (k % n) : Nat) : Int)) := hcl _ hbn
    have ya15 := h15 _ (by rw [hlen]; exact han)
    have yb15 := h15 _ (by rw [hlen]; exact hbn)
    have wal := word_lt hr (s := i % n) (by rw [hlen]; exact han)
    have wbl := word_lt hr (s := k % n) (by rw [hlen]; exact hbn)
    have hAp := (fun (a0 : lenAt l (i % n) ≠ 0) (b0 : lenAt l (k % n) ≠ 0) (h : lenAt l (i % n) < lenAt l (k % n) ∨ lenAt l (i % n) = lenAt l (k % n) ∧ i % n < k % n) => word_order (by rw [hlen]; exact han) a0 b0 yb15 h)
    have hwa := hat _ han
    have hwb := hat _ hbn
    have hnz : ((n : Int) == 0) = false := by simp; omega
    have haI : ((i % n : Nat) : Int) < (n : Int) := by omega
    have hbI : ((k % n : Nat) : Int) < (n : Int) := by omega
    have HA := hide hAp
    clear hcl hAp h15 hat hr hEq hlen
    generalize codesL l = L at *
    generalize lenAt l (i % n) = ya at *
    generalize lenAt l (k % n) = yb at *
    generalize word l (i % n) = wa at *
    generalize word l (k % n) = wb at *
    generalize i % n = a at *
    generalize k % n = b at *
    have HB := hide hb
    have Hll := hide hll
    have Hwa := hide hwa
    have Hwb := hide hwb
    have wa16 : wa < 32768 := wal
    have wb16 : wb < 32768 := wbl
    clear hb hwa hwb wal wbl
    go_enter Try.func6, Try.ntmps6
    go_wp2_with fail
    refine (alive8_any hL (Ext.refl w)).mono ?_
    rintro e w1 ⟨rfl, hE1⟩
    have C2 := C1 _ hE1
    clear C1
    go_wp2_with fail
    refine C2.mono ?_
    rintro e w2 ⟨v2, rfl, hO, hE2⟩
    have hF := hE1.trans hE2
    dsimp only at hO
    obtain ⟨Ax, cx, rfl, hcx, _, hax⟩ := hO.form
    rcases hax with h0 | ⟨g, rfl, _⟩
    · rw [hll] at h0; omega
    have xa := (hO.cell (i := a) (by rw [hll]; exact han)).1
    have xb := (hO.cell (i := b) (by rw [hll]; exact hbn)).1
    rw [Hwa.out] at xa
    rw [Hwb.out] at xb
    rw [hll] at hcx ⊢
    have la := (hF.cell hbl).trans kA
    have lb := (hF.cell hbl).trans kB
    have HF := hide hF
    clear hO C2 kA kB hE1 hE2 hF hll
    go_wp2_with fail
    go_quiet (fail)
    have hQ : Ext w2 (w2.drewN nq) := (Ext.refl w2).drewN nq
    have HF3 := hide (HF.out.trans hQ)
    have la3 : (w2.drewN nq).cell? ⟨bl, ol + a, none⟩ = _ := la
    have lb3 : (w2.drewN nq).cell? ⟨bl, ol + b, none⟩ = _ := lb
    have xa3 : (w2.drewN nq).cell? ⟨g, a, none⟩ = _ := xa
    have xb3 : (w2.drewN nq).cell? ⟨g, b, none⟩ = _ := xb
    clear la lb xa xb hQ HF
    generalize w2.drewN nq = w3 at *
    by_cases hab : a = b
    · have h1 : ((a : Int) == (b : Int)) = true := by simp; omega
      have HQ := hide hab
      clear hab
      go_wp2
      go_quiet (fail)
      go_wp2
      go_ret
      exact ⟨rfl, HF3.out.drewN _⟩
    have h1 : ((a : Int) == (b : Int)) = false := by simp; omega
    by_cases a0 : ya = 0
    · have h2 : ((ya : Int) == 0) = true := by simp; omega
      have HQ := hide a0
      clear a0
      go_wp2
      go_quiet (fail)
      go_wp2
      go_ret
      exact ⟨rfl, HF3.out.drewN _⟩
    have h2 : ((ya : Int) == 0) = false := by simp; omega
    by_cases b0 : yb = 0
    · have h3 : ((yb : Int) == 0) = true := by simp; omega
      have HQ := hide b0
      clear b0
      go_wp2
      go_quiet (fail)
      go_wp2
      go_ret
      exact ⟨rfl, HF3.out.drewN _⟩
    have h3 : ((yb : Int) == 0) = false := by simp; omega
    by_cases hy : yb < ya
    · have h4 : decide ((yb : Int) < (ya : Int)) = true := by simp; omega
      go_wp2
      go_quiet (fail)
      go_wp2
      go_ret
      exact ⟨rfl, HF3.out.drewN _⟩
    have h4 : decide ((yb : Int) < (ya : Int)) = false := by simp; omega
    by_cases hyy : ya = yb ∧ b < a
    · obtain ⟨hyy, hba⟩ := hyy
      have h5 : ((ya : Int) == (yb : Int)) = true := by simp; omega
      have h6 : decide ((b : Int) < (a : Int)) = true := by simp; omega
      have HQ := hide hyy
      clear hyy
      go_wp2
      go_quiet (fail)
      go_wp2
      go_ret
      exact ⟨rfl, HF3.out.drewN _⟩
    have HAp := hide (HA.out a0 b0 (by omega))
    have HSm := hide (show ∀ t, ya + t ≤ yb → wa * 2 ^ t ≤ wa * 2 ^ (yb - ya) ∧ wa * 2 ^ (yb - ya) < wb from fun t ht => by
      have h1 := HAp.out
      have h2 : 2 ^ t ≤ 2 ^ (yb - ya) := Nat.pow_le_pow_right (by omega) (by omega)
      have h3 := Nat.mul_le_mul_left wa h2
      have h4 : 0 < 2 ^ (yb - ya) := Nat.pow_pos (by omega)
      rw [Nat.add_mul] at h1
      omega)
    have HYY := hide hyy
    have HQ := hide hab
    have HQ2 := hide a0
    have HQ3 := hide b0
    clear hab a0 b0
    by_cases hyE : ya = yb
    · have h5 : ((ya : Int) == (yb : Int)) = true := by simp; omega
      have h6 : decide ((b : Int) < (a : Int)) = false := by simp; omega
      have h7 : ¬ b < a := by omega
      have HQ4 := hide hyE
      clear hyE hyy
      go_wp2
      go_quiet (fail)
      generalize hw4 : w3.drewN nq = w4 at *
      have HF4 := hide (show Ext w w4 by rw [← hw4]; exact HF3.out.drewN _)
      have la4 : w4.cell? ⟨bl, ol + a, none⟩ = some (.int .u8 (ya : Int)) := by rw [← hw4]; exact la3
      have lb4 : w4.cell? ⟨bl, ol + b, none⟩ = some (.int .u8 (yb : Int)) := by rw [← hw4]; exact lb3
      have xa4 : w4.cell? ⟨g, a, none⟩ = some (.int .u16 (wa : Int)) := by rw [← hw4]; exact xa3
      have xb4 : w4.cell? ⟨g, b, none⟩ = some (.int .u16 (wb : Int)) := by rw [← hw4]; exact xb3
      clear hw4 la3 lb3 xa3 xb3 HF3
      go_wp2_with fail
      go_loopw [11, 12] (fun x y wq => ∃ t v : Nat, ya + t ≤ yb ∧ x = .int .i64 (v : Int) ∧ v = wa * 2 ^ t ∧ y = .int .u8 ((ya + t : Nat) : Int) ∧ wq = w4) (fun _ y _ => yb - (intOf y).toNat)
      case atStart => exact ⟨0, wa, by omega, rfl, by simp, rfl, rfl⟩
      case round =>
        obtain ⟨t, v, ht, rfl, hv, rfl, rfl⟩ := hrel
        have hsm := HSm.out t ht
        by_cases hlt : ya + t < yb
        · have hlI : ((ya + t : Nat) : Int) < (yb : Int) := by omega
          have hvs : v < 32768 := by rw [hv]; omega
          have HV := hide (show 2 * v = wa * 2 ^ (t + 1) by rw [hv, Nat.pow_succ, Nat.mul_comm 2, Nat.mul_assoc])
          clear hv hsm
          go_wp2
          go_roundw
          case rel => exact ⟨t + 1, 2 * v, by omega, by go_num, HV.out, by go_num, trivial⟩
          case measure => simp [intOf]; omega
        · have hlI : ¬ ((ya + t : Nat) : Int) < (yb : Int) := by omega
          have hne : v < wb := by
            rw [show t = yb - ya by omega] at hv
            rw [hv]
            exact hsm.2
          have h9 : decide ((v : Int) < (wb : Int)) = true := by simp; omega
          have hneI : (v : Int) < (wb : Int) := by omega
          clear hv hne hsm
          go_wp2
          go_ret
          exact ⟨rfl, HF4.out⟩
    · have h5 : ((ya : Int) == (yb : Int)) = false := by simp; omega
      have HQ4 := hide hyE
      clear hyE hyy
      go_wp2
      go_quiet (fail)
      generalize hw4 : w3.drewN nq = w4 at *
      have HF4 := hide (show Ext w w4 by rw [← hw4]; exact HF3.out.drewN _)
      have la4 : w4.cell? ⟨bl, ol + a, none⟩ = some (.int .u8 (ya : Int)) := by rw [← hw4]; exact la3
      have lb4 : w4.cell? ⟨bl, ol + b, none⟩ = some (.int .u8 (yb : Int)) := by rw [← hw4]; exact lb3
      have xa4 : w4.cell? ⟨g, a, none⟩ = some (.int .u16 (wa : Int)) := by rw [← hw4]; exact xa3
      have xb4 : w4.cell? ⟨g, b, none⟩ = some (.int .u16 (wb : Int)) := by rw [← hw4]; exact xb3
      clear hw4 la3 lb3 xa3 xb3 HF3
      go_wp2_with fail
      go_loopw [11, 12] (fun x y wq => ∃ t v : Nat, ya + t ≤ yb ∧ x = .int .i64 (v : Int) ∧ v = wa * 2 ^ t ∧ y = .int .u8 ((ya + t : Nat) : Int) ∧ wq = w4) (fun _ y _ => yb - (intOf y).toNat)
      case atStart => exact ⟨0, wa, by omega, rfl, by simp, rfl, rfl⟩
      case round =>
        obtain ⟨t, v, ht, rfl, hv, rfl, rfl⟩ := hrel
        have hsm := HSm.out t ht
        by_cases hlt : ya + t < yb
        · have hlI : ((ya + t : Nat) : Int) < (yb : Int) := by omega
          have hvs : v < 32768 := by rw [hv]; omega
          have HV := hide (show 2 * v = wa * 2 ^ (t + 1) by rw [hv, Nat.pow_succ, Nat.mul_comm 2, Nat.mul_assoc])
          clear hv hsm
          go_wp2
          go_roundw
          case rel => exact ⟨t + 1, 2 * v, by omega, by go_num, HV.out, by go_num, trivial⟩
          case measure => simp [intOf]; omega
        · have hlI : ¬ ((ya + t : Nat) : Int) < (yb : Int) := by omega
          have hne : v < wb := by
            rw [show t = yb - ya by omega] at hv
            rw [hv]
            exact hsm.2
          have h9 : decide ((v : Int) < (wb : Int)) = true := by simp; omega
          have hneI : (v : Int) < (wb : Int) := by omega
          clear hv hne hsm
          go_wp2
          go_ret
          exact ⟨rfl, HF4.out⟩

  · by_cases her : (codesE l).2 = 0
    · have hnn : n = 0 := Classical.byContradiction fun h0 => hgood ⟨by
        cases hr : right l with
        | true => rfl
        | false => unfold codesE at her; rw [hr] at her; exact absurd her (by simp), h0⟩
      subst hnn
      have hcl := codesE_len l
      rw [hlen] at hcl
      have hc0 : (codesE l).1.length = 0 := by omega
      clear hgood hb hlen hcl
      generalize codesE l = r at *
      obtain ⟨L, er⟩ := r
      dsimp only at her hc0
      subst her
      go_enter Try.func6, Try.ntmps6
      go_wp2_with fail
      refine (alive8_any hL (Ext.refl w)).mono ?_
      rintro e w1 ⟨rfl, hE1⟩
      have C2 := C1 _ hE1
      clear C1
      go_wp2_with fail
      refine C2.mono ?_
      rintro e w2 ⟨v2, rfl, hO, hE2⟩
      have hF := hE1.trans hE2
      dsimp only at hO
      obtain ⟨Ax, cx, rfl, _⟩ := hO.form
      rw [hc0]
      clear hO C2 hc0
      go_wp2
      go_ret
      exact ⟨rfl, hF⟩
    · have hc0 : (codesE l).1.length = 0 ∧ (codesE l).2 = 7 := by
        unfold codesE at her ⊢
        split
        · rename_i hr
          rw [if_pos hr] at her
          exact absurd rfl her
        · exact ⟨rfl, rfl⟩
      clear hgood hb hlen her
      generalize codesE l = r at *
      obtain ⟨L, er⟩ := r
      dsimp only at hc0
      obtain ⟨hc0, rfl⟩ := hc0
      go_enter Try.func6, Try.ntmps6
      go_wp2_with fail
      refine (alive8_any hL (Ext.refl w)).mono ?_
      rintro e w1 ⟨rfl, hE1⟩
      have C2 := C1 _ hE1
      clear C1
      go_wp2_with fail
      refine C2.mono ?_
      rintro e w2 ⟨v2, rfl, hO, hE2⟩
      have hF := hE1.trans hE2
      dsimp only at hO
      obtain ⟨Ax, cx, rfl, _⟩ := hO.form
      rw [hc0]
      clear hO C2 hc0
      go_wp2
      go_ret
      exact ⟨rfl, hF⟩
end Go.Proofs.Ytabhemmmefefgaa
