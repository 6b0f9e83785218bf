/- The law BitsPeek. -/
import Derived.Test.YtolahdofglmanaaBitAlive
import Derived.OpenShut
namespace Go.Proofs.Ytolahdofglmanaa
open Go.RowKit

set_option maxHeartbeats 1000000 in
theorem bitsPeek_walk (A : Option Addr) (n c : Nat) (l : List UInt8) (s m : Int) (w : World) (hn : n ≤ c) (_hc : c ≤ maxLen) (hb : Bytes w w.heap.size A n l) (hs : (Lit.int .u16 s).wf = true) (hm : (Lit.int .u8 m).wf = true) :
    Calls Try.prog 6 #[.slice A n c, .int .u16 s, .int .u8 m] w fun e w' => e = .returned (.bool true) ∧ Below w.heap.size w w' := by
  have C0 := alive2_any w
  have hll := hb.1
  subst hll
  by_cases hbig : 3000 < l.length
  · go_enter Try.func6, Try.ntmps6
    go_wp2_with fail
    refine C0.mono ?_
    rintro e w1 ⟨rfl, hE1⟩
    go_wp2
    go_ret
    exact ⟨rfl, hE1⟩
  · obtain ⟨s0, s1⟩ := bounds_u16 hs
    obtain ⟨m0, m1⟩ := bounds_u8 hm
    obtain ⟨s, rfl⟩ := Int.eq_ofNat_of_zero_le s0
    obtain ⟨m, rfl⟩ := Int.eq_ofNat_of_zero_le m0
    obtain ⟨k, hk⟩ : ∃ k, k = s % (8 * l.length + 1) := ⟨_, rfl⟩
    obtain ⟨j, hj⟩ : ∃ j, j = m % 65 := ⟨_, rfl⟩
    have hk1 : k ≤ 8 * l.length := by have := Nat.mod_lt s (show 0 < 8 * l.length + 1 by omega); omega
    have hj1 : j ≤ 64 := by omega
    have ek : (s : Int) % (8 * l.length + 1) = (k : Int) := by rw [hk, Int.natCast_emod]; rfl
    have ej : (m : Int) % 65 = (j : Int) := by omega
    have HS := hide (show Bit.skipErr (8 * l.length - 0) (k : Int) = 0 ∧ Bit.skipTo (8 * l.length - 0) 0 (k : Int) = k by
      have : Bit.skipErr (8 * l.length - 0) (k : Int) = 0 := by unfold Bit.skipErr; rw [if_pos (by omega), if_pos (by omega)]
      exact ⟨this, by unfold Bit.skipTo; rw [this]; simp⟩)
    obtain ⟨t, ht⟩ : ∃ t, t = min j (8 * l.length - k) := ⟨_, rfl⟩
    have HP := hide (show Bit.peekThere (8 * l.length - k) (j : Int) = t by unfold Bit.peekThere; rw [if_pos ⟨by omega, by omega⟩, ht]; simp)
    clear hk hj
    have hl3 : l.length ≤ 3000 := by omega
    go_enter Try.func6, Try.ntmps6
    go_wp2_with fail
    refine C0.mono ?_
    rintro e w1 ⟨rfl, hE1⟩
    go_wp2_with fail
    refine (newReader_any _ _ _ l _ hn (by omega) (hE1.bytes hb)).mono ?_
    rintro e w2 ⟨g, rfl, hR, hE2⟩
    go_wp2_with fail
    refine (skip_any hR (k : Int)).mono ?_
    rintro e w3 ⟨rfl, hR3, hM3⟩
    rw [HS.out.2] at hR3
    rw [HS.out.1]
    go_wp2_with fail
    refine (peek_any hR3 (j : Int)).mono ?_
    rintro e w4 ⟨rfl, hQ4⟩
    rw [HP.out]
    have hR4 := hR3.ext hQ4.ext
    go_wp2_with fail
    refine (get_any hR4 (j : Int)).mono ?_
    rintro e w5 ⟨rfl, hR5, hM5⟩
    have hB5 : Below w.heap.size w w5 := by
      have h12 : Ext w w2 := hE1.trans hE2
      refine Below.trans (B := w.heap.size) h12 (((hM3.trans (Mod.ofExt hQ4.ext) (.inl rfl)).trans hM5 (.inl rfl)).below h12.le ?_ (fun k hk => by cases hk))
      exact Nat.le_trans hE1.le hR.le
    by_cases hsh : t < j
    · have HG := hide (show Bit.getErr (8 * l.length - k) (j : Int) = 1 ∧ Bit.getNum l k (j : Int) = 0 ∧ Bit.getTo (8 * l.length - k) k (j : Int) = k by
        have h1 : Bit.getErr (8 * l.length - k) (j : Int) = 1 := by unfold Bit.getErr; rw [if_pos ⟨by omega, by omega⟩, if_neg (by omega)]
        exact ⟨h1, by unfold Bit.getNum; rw [h1]; simp, by unfold Bit.getTo; rw [h1]; simp⟩)
      rw [HG.out.2.2] at hR5
      rw [HG.out.1, HG.out.2.1]
      have et : 8 * (l.length : Int) - k = (t : Int) := by omega
      have et2 : ((8 * l.length - k : Nat) : Int) = (t : Int) := by omega
      have e1 : ((t : Int) == (t : Int)) = true := by simp
      generalize Bit.peekNum l k (j : Int) = X at *
      go_wp2_with fail
      refine (left_any hR5).mono ?_
      rintro e w6 ⟨rfl, hQ6⟩
      rw [et2]
      go_wp2
      go_ret
      exact ⟨rfl, hB5.trans (Below.mono hQ6.ext hB5.size)⟩
    · obtain rfl : t = j := by omega
      have HG := hide (show Bit.getErr (8 * l.length - k) (t : Int) = 0 ∧ Bit.getNum l k (t : Int) = Bit.peekNum l k (t : Int) ∧ Bit.getTo (8 * l.length - k) k (t : Int) = k + t by
        have h1 : Bit.getErr (8 * l.length - k) (t : Int) = 0 := by unfold Bit.getErr; rw [if_pos ⟨by omega, by omega⟩, if_pos (by omega)]
        refine ⟨h1, ?_, by unfold Bit.getTo; rw [h1]; simp⟩
        unfold Bit.getNum Bit.peekNum
        rw [h1, if_pos rfl, if_pos ⟨by omega, by omega⟩, Int.toNat_natCast, ← ht, Nat.sub_self, Nat.pow_zero, Nat.mul_one])
      rw [HG.out.2.2] at hR5
      rw [HG.out.1, HG.out.2.1]
      generalize Bit.peekNum l k (t : Int) = X at *
      have eX : ((X : Int) == (X : Int)) = true := by simp
      have e1 : ((t : Int) == (t : Int)) = true := by simp
      obtain ⟨r, hr⟩ : ∃ r, r = 8 * l.length - (k + t) := ⟨_, rfl⟩
      have et : 8 * (l.length : Int) - k - t = (r : Int) := by omega
      clear ht
      have e2 : ((r : Int) == (r : Int)) = true := by simp
      have C6 := left_any hR5
      rw [← hr] at C6
      clear hr
      go_wp2_with fail
      refine C6.mono ?_
      rintro e w6 ⟨rfl, hQ6⟩
      go_wp2
      go_ret
      exact ⟨rfl, Below.trans hB5 (Below.mono hQ6.ext hB5.size)⟩
end Go.Proofs.Ytolahdofglmanaa
