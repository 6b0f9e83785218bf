/- Contracts of the reader: NewReader, Left, Get, Skip, Peek, Unary, Pad. -/
import Derived.Test.YtabhemmmefefgaaBitNum
import Derived.Test.YtabhemmmefefgaaBitZeros
import Derived.Test.YtabhemmmefefgaaClone
import Derived.Laws.Tables
namespace Go.Proofs.Ytabhemmmefefgaa
open Go.RowKit

namespace Bit
def rest (l : List UInt8) (q : Nat) : Nat → Bool := fun i => at_ l (q + i)
def getErr (left : Nat) (n : Int) : Int := if 0 ≤ n ∧ n ≤ 64 then (if n ≤ left then 0 else 1) else 13
def getNum (l : List UInt8) (q : Nat) (n : Int) : Nat := if getErr (8 * l.length - q) n = 0 then val (rest l q) n.toNat else 0
def getTo (left q : Nat) (n : Int) : Nat := if getErr left n = 0 then q + n.toNat else q
def skipErr (left : Nat) (n : Int) : Int := if 0 ≤ n then (if n ≤ left then 0 else 1) else 13
def skipTo (left q : Nat) (n : Int) : Nat := if skipErr left n = 0 then q + n.toNat else q
def peekThere (left : Nat) (n : Int) : Nat := if 0 ≤ n ∧ n ≤ 64 then min n.toNat left else 0
def peekNum (l : List UInt8) (q : Nat) (n : Int) : Nat := if 0 ≤ n ∧ n ≤ 64 then val (rest l q) (min n.toNat (8 * l.length - q)) * 2 ^ (n.toNat - min n.toNat (8 * l.length - q)) else 0
def zs (l : List UInt8) (q : Nat) : Nat := zeros (8 * l.length - q) (rest l q)
def unErr (l : List UInt8) (q : Nat) : Int := if zs l q = 8 * l.length - q then 1 else 0
def unNum (l : List UInt8) (q : Nat) : Nat := if zs l q = 8 * l.length - q then 0 else zs l q
def unTo (l : List UInt8) (q : Nat) : Nat := if zs l q = 8 * l.length - q then q else q + zs l q + 1
def padErr (l : List UInt8) (q : Nat) : Int := if 8 * l.length - q < 8 ∧ zs l q = 8 * l.length - q then 0 else 2
end Bit

/-- Block g is a reader of the bytes l, of which q bits are taken. -/
def Rdr (w : World) (base g : Nat) (l : List UInt8) (q : Nat) : Prop :=
  ∃ A c, Whole w g 73 #[.slice A l.length c, .int .i64 ((8 * l.length : Nat) : Int), .int .i64 (q : Int)] ∧ Bytes w g A l.length l ∧ q ≤ 8 * l.length ∧ l.length ≤ 1000000 ∧ base ≤ g
theorem Rdr.lt {w : World} {base g q : Nat} {l : List UInt8} (h : Rdr w base g l q) : g < w.heap.size := by obtain ⟨A, c, hW, _⟩ := h; exact hW.lt
theorem Rdr.le {w : World} {base g q : Nat} {l : List UInt8} (h : Rdr w base g l q) : base ≤ g := by obtain ⟨A, c, _, _, _, _, h⟩ := h; exact h
theorem Rdr.below {w w' : World} {base g q B : Nat} {l : List UInt8} (h : Rdr w base g l q) (hE : Below B w w') (hg : g < B) : Rdr w' base g l q := by
  obtain ⟨A, c, hW, hb, r⟩ := h
  exact ⟨A, c, hW.below hE hg, hb.below hE (by omega), r⟩
theorem Rdr.ext {w w' : World} {base g q : Nat} {l : List UInt8} (h : Rdr w base g l q) (hE : Ext w w') : Rdr w' base g l q := h.below hE h.lt
theorem ret_nverr {k : IntKind} {a a' b b' : Int} (h : a = a') (h' : b = b') : Ending.returned (.tuple #[.int k a, .int .i64 b]) = .returned (.tuple #[.int k a', .int .i64 b']) := by rw [h, h']

theorem left_any {w : World} {base g q : Nat} {l : List UInt8} (h : Rdr w base g l q) :
    Calls Try.prog 27 #[.pointer (some ⟨g, 0, none⟩)] w fun e w' => e = .returned (.int .i64 ((8 * l.length - q : Nat) : Int)) ∧ Qt w w' := by
  obtain ⟨A, c, hW, hb, hq, hl, _⟩ := h
  have c1 : w.cell? ⟨g, 1, none⟩ = some (.int .i64 ((8 * l.length : Nat) : Int)) := hW.at 1 rfl
  have c2 : w.cell? ⟨g, 2, none⟩ = some (.int .i64 (q : Int)) := hW.at 2 rfl
  go_enter Try.func27, Try.ntmps27
  go_wp2
  go_quiet (fail)
  go_wp2
  go_ret
  exact ⟨ret_i64 (by omega), ⟨_, rfl⟩⟩

/-- What a reader's block is known to hold, in a later world. -/
theorem Rdr.number {w : World} {base g q : Nat} {l : List UInt8} (h : Rdr w base g l q) (k : Nat) (hk : k ≤ 64) (hs : k ≤ 8 * l.length - q) (m : Nat) :
    Calls Try.prog 47 #[.pointer (some ⟨g, 0, none⟩), .int .i64 q, .int .i64 k] (w.drewN m) fun e w' => e = .returned (.int .u64 (Bit.val (Bit.rest l q) k : Nat)) ∧ ∃ n, w' = w.drewN n := by
  obtain ⟨A, c, hW, hb, hq, hl, hbase⟩ := h
  have c0 : w.cell? ⟨g, 0, none⟩ = some (.slice A l.length c) := hW.at 0 rfl
  have hgl := hW.lt
  exact Calls.quiet_of (number_any (w := w.drewN m) q k (by simpa using c0) (by simpa using hgl) (hb.below (B := g) (C := w.heap.size) ((Ext.refl w).drewN m) (Nat.le_of_lt hgl) |>.mono (by simpa using Nat.le_of_lt hgl)) hk (by omega) (by omega))
theorem Rdr.zeros {w : World} {base g q : Nat} {l : List UInt8} (h : Rdr w base g l q) (m : Nat) :
    Calls Try.prog 41 #[.pointer (some ⟨g, 0, none⟩), .int .i64 q] (w.drewN m) fun e w' => e = .returned (.int .i64 (Bit.zs l q : Nat)) ∧ ∃ n, w' = w.drewN n := by
  obtain ⟨A, c, hW, hb, hq, hl, hbase⟩ := h
  have c0 : w.cell? ⟨g, 0, none⟩ = some (.slice A l.length c) := hW.at 0 rfl
  have c1 : w.cell? ⟨g, 1, none⟩ = some (.int .i64 ((8 * l.length : Nat) : Int)) := hW.at 1 rfl
  have hgl := hW.lt
  exact Calls.quiet_of (zerosFrom_any (w := w.drewN m) q (by simpa using c0) (by simpa using c1) (by simpa using hgl) (hb.below (B := g) (C := w.heap.size) ((Ext.refl w).drewN m) (Nat.le_of_lt hgl) |>.mono (by simpa using Nat.le_of_lt hgl)) hq (by omega))
theorem Rdr.leftQ {w : World} {base g q : Nat} {l : List UInt8} (h : Rdr w base g l q) (m : Nat) :
    Calls Try.prog 27 #[.pointer (some ⟨g, 0, none⟩)] (w.drewN m) fun e w' => e = .returned (.int .i64 ((8 * l.length - q : Nat) : Int)) ∧ ∃ n, w' = w.drewN n :=
  Calls.quiet_of (left_any (h.ext ((Ext.refl w).drewN m)))
theorem Rdr.cells {w : World} {base g q : Nat} {l : List UInt8} (h : Rdr w base g l q) : w.cell? ⟨g, 2, none⟩ = some (.int .i64 (q : Int)) ∧ w.frozen? ⟨g, 2, none⟩ = false ∧ q ≤ 8 * l.length ∧ l.length ≤ 1000000 := by
  obtain ⟨A, c, hW, hb, hq, hl, hbase⟩ := h
  exact ⟨hW.at 2 rfl, hW.frozen 2, hq, hl⟩
/-- The place is moved on. -/
theorem Rdr.moved {w : World} {base g q q' : Nat} {l : List UInt8} (h : Rdr w base g l q) (hq' : q' ≤ 8 * l.length) {x : Int} (hx : x = (q' : Int)) : Rdr (w.setCell ⟨g, 2, none⟩ (.int .i64 x)) base g l q' ∧ Mod w (w.setCell ⟨g, 2, none⟩ (.int .i64 x)) g none := by
  obtain ⟨A, c, hW, hb, hq, hl, hbase⟩ := h
  subst hx
  exact ⟨⟨A, c, hW.set 2 _, hb.below (Below.setCell (p := ⟨g, 2, none⟩) (Below.refl g w) (Nat.le_refl g) _) (Nat.le_refl g), hq', hl, hbase⟩, Mod.ofRow (grown_setCell w g 2 _)⟩

set_option maxHeartbeats 1000000 in
theorem get_any {w : World} {base g q : Nat} {l : List UInt8} (h : Rdr w base g l q) (n : Int) :
    Calls Try.prog 44 #[.pointer (some ⟨g, 0, none⟩), .int .i64 n] w fun e w' =>
      e = .returned (.tuple #[.int .u64 ((Bit.getNum l q n : Nat) : Int), .int .i64 (Bit.getErr (8 * l.length - q) n)]) ∧ Rdr w' base g l (Bit.getTo (8 * l.length - q) q n) ∧ Mod w w' g none := by
  by_cases hbad : 0 ≤ n ∧ n ≤ 64
  · obtain ⟨h0, h1⟩ := hbad
    obtain ⟨k, rfl⟩ := Int.eq_ofNat_of_zero_le h0
    have hk : k ≤ 64 := by omega
    by_cases hs : k ≤ 8 * l.length - q
    · have HE := hide (show Bit.getErr (8 * l.length - q) (k : Int) = 0 by unfold Bit.getErr; rw [if_pos ⟨h0, h1⟩, if_pos (by omega)])
      have HN := hide (show Bit.getNum l q (k : Int) = Bit.val (Bit.rest l q) k by unfold Bit.getNum; rw [HE.out]; simp)
      have HT := hide (show Bit.getTo (8 * l.length - q) q (k : Int) = q + k by unfold Bit.getTo; rw [HE.out]; simp)
      go_enter Try.func44, Try.ntmps44
      go_wp2_with fail
      refine (left_any h).mono ?_
      rintro e w2 ⟨rfl, hQ2⟩
      have hR := h.ext hQ2.ext
      obtain ⟨c2, f2, hq, hl⟩ := hR.cells
      have CN := hR.number k hk hs
      have HR := hide hR
      generalize Bit.val (Bit.rest l q) k = X at *
      clear h hR
      go_wp2_with fail
      go_quiet (first | (go_at_call 47; exact CN _))
      go_wp2
      go_ret2
      have hM := (HR.out.ext ((Ext.refl w2).drewN nq)).moved (q' := q + k) (x := (q : Int) + k) (by omega) (by omega)
      refine ⟨ret_nverr (by rw [HN.out]) HE.out.symm, by rw [HT.out]; exact hM.1, ?_⟩
      exact (Mod.ofExt (hQ2.drewN nq).ext).trans hM.2 (.inl rfl)
    · have HE := hide (show Bit.getErr (8 * l.length - q) (k : Int) = 1 by unfold Bit.getErr; rw [if_pos ⟨h0, h1⟩, if_neg (by omega)])
      have HN := hide (show Bit.getNum l q (k : Int) = 0 by unfold Bit.getNum; rw [HE.out]; simp)
      have HT := hide (show Bit.getTo (8 * l.length - q) q (k : Int) = q by unfold Bit.getTo; rw [HE.out]; simp)
      have HR := hide h
      have hs' : ¬ ((k : Int) ≤ ((8 * l.length - q : Nat) : Int)) := by omega
      go_enter Try.func44, Try.ntmps44
      go_wp2_with fail
      refine (left_any h).mono ?_
      rintro e w2 ⟨rfl, hQ2⟩
      go_wp2
      go_ret2
      exact ⟨ret_nverr (by rw [HN.out]; rfl) HE.out.symm, by rw [HT.out]; exact HR.out.ext hQ2.ext, Mod.ofExt hQ2.ext⟩
  · have HE := hide (show Bit.getErr (8 * l.length - q) n = 13 by unfold Bit.getErr; rw [if_neg hbad])
    have HN := hide (show Bit.getNum l q n = 0 by unfold Bit.getNum; rw [HE.out]; simp)
    have HT := hide (show Bit.getTo (8 * l.length - q) q n = q by unfold Bit.getTo; rw [HE.out]; simp)
    have HR := hide h
    by_cases h0 : n < 0
    · clear hbad
      go_enter Try.func44, Try.ntmps44
      go_wp2
      go_ret2
      exact ⟨ret_nverr (by rw [HN.out]; rfl) HE.out.symm, by rw [HT.out]; exact HR.out, Mod.refl _ _ _⟩
    · have h1 : 64 < n := by omega
      clear hbad
      go_enter Try.func44, Try.ntmps44
      go_wp2
      go_ret2
      exact ⟨ret_nverr (by rw [HN.out]; rfl) HE.out.symm, by rw [HT.out]; exact HR.out, Mod.refl _ _ _⟩

end Go.Proofs.Ytabhemmmefefgaa
