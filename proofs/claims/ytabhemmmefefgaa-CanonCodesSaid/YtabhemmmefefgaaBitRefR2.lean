/- Contracts of the document's reader: Get, Skip, Unary, Pad. -/
import Derived.Test.YtabhemmmefefgaaBitRefR
namespace Go.Proofs.Ytabhemmmefefgaa
open Go.RowKit

theorem Bit.getNum_peek (l : List UInt8) (q k : Nat) (hk : k ≤ 64) (hs : k ≤ 8 * l.length - q) : Bit.getNum l q (k : Int) = Bit.peekNum l q (k : Int) := by
  have h1 : Bit.getErr (8 * l.length - q) (k : Int) = 0 := by unfold Bit.getErr; rw [if_pos ⟨by omega, by omega⟩, if_pos (by omega)]
  unfold Bit.getNum Bit.peekNum
  rw [h1, if_pos rfl, if_pos ⟨by omega, by omega⟩, Int.toNat_natCast, Nat.min_eq_left hs, Nat.sub_self, Nat.pow_zero, Nat.mul_one]

set_option maxHeartbeats 1000000 in
theorem refGet_any {w : World} {base g q : Nat} {l : List UInt8} (h : RefR w base g l q) (n : Int) :
    Calls Try.prog 40 #[.pointer (some ⟨g, 0, none⟩), .int .i64 n] w fun e w' =>
      e = .returned (.tuple #[.int .u64 ((Bit.getNum l q n : Nat) : Int), .int .i64 (Bit.getErr (8 * l.length - q) n)]) ∧ RefR w' base g l (Bit.getTo (8 * l.length - q) q n) ∧ Mod w w' g none := by
  by_cases hbad : 0 ≤ n ∧ n ≤ 64
  · obtain ⟨h0, h1⟩ := hbad
    obtain ⟨k, rfl⟩ := Int.eq_ofNat_of_zero_le h0
    have hk : k ≤ 64 := by omega
    by_cases hs : k ≤ 8 * l.length - q
    · have HE := hide (show Bit.getErr (8 * l.length - q) (k : Int) = 0 by unfold Bit.getErr; rw [if_pos ⟨h0, h1⟩, if_pos (by omega)])
      have HN := hide (Bit.getNum_peek l q k hk hs)
      have HT := hide (show Bit.getTo (8 * l.length - q) q (k : Int) = q + k by unfold Bit.getTo; rw [HE.out]; simp)
      go_enter Try.func40, Try.ntmps40
      go_wp2_with fail
      refine (refLeft_any h).mono ?_
      rintro e w2 ⟨rfl, hQ2⟩
      have hR2 := h.ext hQ2.ext
      clear h
      go_wp2_with fail
      refine (refPeek_any hR2 (k : Int)).mono ?_
      rintro e w3 ⟨rfl, hQ3⟩
      have hR3 := hR2.ext hQ3.ext
      obtain ⟨A, c, c0, c1, f1, hq, hl, _⟩ := hR3.cells
      have HR := hide hR3
      clear hR2 hR3 c0
      generalize Bit.peekNum l q (k : Int) = X at *
      generalize Bit.peekThere (8 * l.length - q) (k : Int) = T at *
      go_wp2
      go_ret2
      have hM := HR.out.moved (q' := q + k) (x := (q : Int) + k) (by omega) (by omega)
      exact ⟨ret_nverr (by rw [HN.out]) HE.out.symm, by rw [HT.out]; exact hM.1, (Mod.ofExt (hQ2.trans hQ3).ext).trans hM.2 (.inl rfl)⟩
    · have HE := hide (show Bit.getErr (8 * l.length - q) (k : Int) = 1 by unfold Bit.getErr; rw [if_pos ⟨h0, h1⟩, if_neg (by omega)])
      have HN := hide (show Bit.getNum l q (k : Int) = 0 by unfold Bit.getNum; rw [HE.out]; simp)
      have HT := hide (show Bit.getTo (8 * l.length - q) q (k : Int) = q by unfold Bit.getTo; rw [HE.out]; simp)
      have HR := hide h
      have hs' : ¬ ((k : Int) ≤ ((8 * l.length - q : Nat) : Int)) := by omega
      go_enter Try.func40, Try.ntmps40
      go_wp2_with fail
      refine (refLeft_any h).mono ?_
      rintro e w2 ⟨rfl, hQ2⟩
      go_wp2
      go_ret2
      exact ⟨ret_nverr (by rw [HN.out]; rfl) HE.out.symm, by rw [HT.out]; exact HR.out.ext hQ2.ext, Mod.ofExt hQ2.ext⟩
  · have HE := hide (show Bit.getErr (8 * l.length - q) n = 13 by unfold Bit.getErr; rw [if_neg hbad])
    have HN := hide (show Bit.getNum l q n = 0 by unfold Bit.getNum; rw [HE.out]; simp)
    have HT := hide (show Bit.getTo (8 * l.length - q) q n = q by unfold Bit.getTo; rw [HE.out]; simp)
    have HR := hide h
    by_cases h0 : n < 0
    · clear hbad
      go_enter Try.func40, Try.ntmps40
      go_wp2
      go_ret2
      exact ⟨ret_nverr (by rw [HN.out]; rfl) HE.out.symm, by rw [HT.out]; exact HR.out, Mod.refl _ _ _⟩
    · have h1 : 64 < n := by omega
      clear hbad
      go_enter Try.func40, Try.ntmps40
      go_wp2
      go_ret2
      exact ⟨ret_nverr (by rw [HN.out]; rfl) HE.out.symm, by rw [HT.out]; exact HR.out, Mod.refl _ _ _⟩

end Go.Proofs.Ytabhemmmefefgaa
