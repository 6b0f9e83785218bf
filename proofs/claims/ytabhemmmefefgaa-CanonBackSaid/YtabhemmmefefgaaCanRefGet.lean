/- The document's Read of chapter 8. -/
import Derived.Test.YtabhemmmefefgaaCanRef
import Derived.Test.YtabhemmmefefgaaCanBits
import Derived.Test.YtabhemmmefefgaaBitRefR2
namespace Go.Proofs.Ytabhemmmefefgaa
open Go.RowKit Len Can

/-- RefR with the bits' slice named. -/
def RefRV (w : World) (base g : Nat) (v : Value) (l : List UInt8) (q : Nat) : Prop :=
  Whole w g 75 #[v, .int .i64 (q : Int)] ∧ OwnB w base v (Bit.spread l (8 * l.length)) ∧ v.ownBlock ≠ some g ∧ base ≤ g ∧ q ≤ 8 * l.length ∧ l.length ≤ 1000000
section
variable {w w' : World} {base g q : Nat} {v : Value} {l : List UInt8}
theorem RefRV.ref (h : RefRV w base g v l q) : RefR w base g l q := ⟨v, h⟩
theorem RefRV.ext (h : RefRV w base g v l q) (hE : Ext w w') : RefRV w' base g v l q := by
  obtain ⟨hW, hO, r⟩ := h
  exact ⟨hW.ext hE, hO.ext hE, r⟩
theorem RefRV.grown {ob : Option Nat} (h : RefRV w base g v l q) (hG : w.grownBy w' ob) (h1 : ob ≠ some g) (h2 : v.ownBlock = none ∨ v.ownBlock ≠ ob) : RefRV w' base g v l q := by
  obtain ⟨hW, hO, r⟩ := h
  exact ⟨hW.ownGrown hG h1, World.ownsRow.kept hO hG h2, r⟩
theorem RefRV.moved {q' : Nat} (h : RefRV w base g v l q) (hq' : q' ≤ 8 * l.length) {x : Int} (hx : x = (q' : Int)) : RefRV (w.setCell ⟨g, 1, none⟩ (.int .i64 x)) base g v l q' ∧ Mod w (w.setCell ⟨g, 1, none⟩ (.int .i64 x)) g none := by
  obtain ⟨hW, hO, hne, hb, _, hl⟩ := h
  subst hx
  exact ⟨⟨hW.set 1 _, hO.far hne 1 _, hne, hb, hq', hl⟩, Mod.ofRow (grown_setCell w g 1 _)⟩
end
set_option maxHeartbeats 1000000 in
theorem refGetV_any {w : World} {base g q : Nat} {v : Value} {l : List UInt8} (h : RefRV w base g v l q) (n : Int) :
    Calls Try.prog 40 #[.pointer (some ⟨g, 0, none⟩), .int .i64 n] w fun e w' =>
      e = .returned (.tuple #[.int .u64 ((Bit.getNum l q n : Nat) : Int), .int .i64 (Bit.getErr (8 * l.length - q) n)]) ∧ RefRV w' base g v l (Bit.getTo (8 * l.length - q) q n) ∧ Mod w w' g none := by
  by_cases hbad : 0 ≤ n ∧ n ≤ 64
  · obtain ⟨h0, h1⟩ := hbad
    obtain ⟨k, rfl⟩ := Int.eq_ofNat_of_zero_le h0
    have hk : k ≤ 64 := by omega
    by_cases hs : k ≤ 8 * l.length - q
    · have HE := hide (show Bit.getErr (8 * l.length - q) (k : Int) = 0 by unfold Bit.getErr; rw [if_pos ⟨h0, h1⟩, if_pos (by omega)])
      have HN := hide (Bit.getNum_peek l q k hk hs)
      have HT := hide (show Bit.getTo (8 * l.length - q) q (k : Int) = q + k by unfold Bit.getTo; rw [HE.out]; simp)
      go_enter Try.func40, Try.ntmps40
      go_wp2_with fail
      refine (refLeft_any h.ref).mono ?_
      rintro e w2 ⟨rfl, hQ2⟩
      have hR2 := h.ext hQ2.ext
      clear h
      go_wp2_with fail
      refine (refPeek_any hR2.ref (k : Int)).mono ?_
      rintro e w3 ⟨rfl, hQ3⟩
      have hR3 := hR2.ext hQ3.ext
      obtain ⟨A, c, c0, c1, f1, hq, hl, _⟩ := hR3.ref.cells
      have HR := hide hR3
      clear hR2 hR3 c0
      generalize Bit.peekNum l q (k : Int) = X at *
      generalize Bit.peekThere (8 * l.length - q) (k : Int) = T at *
      go_wp2
      go_ret2
      have hM := HR.out.moved (q' := q + k) (x := (q : Int) + k) (by omega) (by omega)
      exact ⟨ret_nverr (by rw [HN.out]) HE.out.symm, by rw [HT.out]; exact hM.1, (Mod.ofExt (hQ2.trans hQ3).ext).trans hM.2 (.inl rfl)⟩
    · have HE := hide (show Bit.getErr (8 * l.length - q) (k : Int) = 1 by unfold Bit.getErr; rw [if_pos ⟨h0, h1⟩, if_neg (by omega)])
      have HN := hide (show Bit.getNum l q (k : Int) = 0 by unfold Bit.getNum; rw [HE.out]; simp)
      have HT := hide (show Bit.getTo (8 * l.length - q) q (k : Int) = q by unfold Bit.getTo; rw [HE.out]; simp)
      have HR := hide h
      have hs' : ¬ ((k : Int) ≤ ((8 * l.length - q : Nat) : Int)) := by omega
      go_enter Try.func40, Try.ntmps40
      go_wp2_with fail
      refine (refLeft_any h.ref).mono ?_
      rintro e w2 ⟨rfl, hQ2⟩
      go_wp2
      go_ret2
      exact ⟨ret_nverr (by rw [HN.out]; rfl) HE.out.symm, by rw [HT.out]; exact HR.out.ext hQ2.ext, Mod.ofExt hQ2.ext⟩
  · have HE := hide (show Bit.getErr (8 * l.length - q) n = 13 by unfold Bit.getErr; rw [if_neg hbad])
    have HN := hide (show Bit.getNum l q n = 0 by unfold Bit.getNum; rw [HE.out]; simp)
    have HT := hide (show Bit.getTo (8 * l.length - q) q n = q by unfold Bit.getTo; rw [HE.out]; simp)
    have HR := hide h
    by_cases h0 : n < 0
    · clear hbad
      go_enter Try.func40, Try.ntmps40
      go_wp2
      go_ret2
      exact ⟨ret_nverr (by rw [HN.out]; rfl) HE.out.symm, by rw [HT.out]; exact HR.out, Mod.refl _ _ _⟩
    · have h1 : 64 < n := by omega
      clear hbad
      go_enter Try.func40, Try.ntmps40
      go_wp2
      go_ret2
      exact ⟨ret_nverr (by rw [HN.out]; rfl) HE.out.symm, by rw [HT.out]; exact HR.out, Mod.refl _ _ _⟩

/-- An append to a row that is newer than world a. -/
theorem Mod.fresh {a b c : World} {g : Nat} {ob : Option Nat} (h : Mod a b g none) (hG : b.grownBy c ob) (ho : ∀ k, ob = some k → a.heap.size ≤ k) : Mod a c g none :=
  ⟨hG.os.trans h.os, hG.tape.trans h.tape, hG.output.trans h.output, Nat.le_trans h.size hG.size, fun k hk hg hn => (hG.block k (Nat.lt_of_lt_of_le hk h.size) (fun e => by have := ho k e.symm; omega)).trans (h.block k hk hg hn)⟩
theorem Can.getErr_le {left : Nat} {n : Nat} (hn : n ≤ 64) (h : Bit.getErr left (n : Int) ≠ 0) : Bit.getErr left (n : Int) = 1 := by
  unfold Bit.getErr at h ⊢
  rw [if_pos ⟨by omega, by omega⟩] at h ⊢
  split at h
  · exact absurd rfl h
  · rename_i h2
    rw [if_neg h2]
theorem Can.getNum_lt (b : List UInt8) (q n : Nat) : Bit.getNum b q (n : Int) < 2 ^ n := by
  unfold Bit.getNum
  split
  · exact Bit.val_lt _ _
  · exact Nat.two_pow_pos _
end Go.Proofs.Ytabhemmmefefgaa
