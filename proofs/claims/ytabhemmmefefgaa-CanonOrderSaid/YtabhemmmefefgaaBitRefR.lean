/- Contracts of the document's reader: Left, Peek, Get, Skip, Unary, Pad. -/
import Derived.Test.YtabhemmmefefgaaBitReader2
import Derived.Test.YtabhemmmefefgaaBitRef
namespace Go.Proofs.Ytabhemmmefefgaa
open Go.RowKit

/-- The first p bits of these bytes, a byte each. -/
def Bit.spread (l : List UInt8) (p : Nat) : List UInt8 := (List.range p).map fun i => bit8 (Bit.at_ l i)
theorem Bit.spread_len (l : List UInt8) (p : Nat) : (Bit.spread l p).length = p := by simp [Bit.spread]
theorem Bit.spread_get (l : List UInt8) (p i : Nat) (h : i < p) : (Bit.spread l p).getD i 0 = bit8 (Bit.at_ l i) := by simp [Bit.spread, List.getD_eq_getElem?_getD, h]
theorem Bit.spread_succ (l : List UInt8) (p : Nat) : Bit.spread l (p + 1) = Bit.spread l p ++ [bit8 (Bit.at_ l p)] := by simp [Bit.spread, List.range_succ]
/-- Block g is the document's reader of the bytes l, of which q bits are taken. -/
def RefR (w : World) (base g : Nat) (l : List UInt8) (q : Nat) : Prop :=
  ∃ v, Whole w g 75 #[v, .int .i64 (q : Int)] ∧ OwnB w base v (Bit.spread l (8 * l.length)) ∧ v.ownBlock ≠ some g ∧ base ≤ g ∧ q ≤ 8 * l.length ∧ l.length ≤ 1000000
section
variable {w w' : World} {base g q : Nat} {l : List UInt8}
theorem RefR.lt (h : RefR w base g l q) : g < w.heap.size := by obtain ⟨v, h, _⟩ := h; exact h.lt
theorem RefR.le (h : RefR w base g l q) : base ≤ g := by obtain ⟨v, _, _, _, h, _⟩ := h; exact h
theorem RefR.ext (h : RefR w base g l q) (hE : Ext w w') : RefR w' base g l q := by
  obtain ⟨v, hW, hO, r⟩ := h
  exact ⟨v, hW.ext hE, hO.ext hE, r⟩
theorem RefR.kept {g' : Nat} (h : RefR w base g l q) (hM : Mod w w' g' none) (h1 : g ≠ g') (h2 : g' < base) : RefR w' base g l q := by
  obtain ⟨v, hW, hO, hne, hb, r⟩ := h
  exact ⟨v, hM.whole hW h1 (by simp), hM.own hO (fun e => by have := (hO.lt _ e).1; omega) (by cases v.ownBlock <;> simp), hne, hb, r⟩
theorem RefR.moved {q' : Nat} (h : RefR w base g l q) (hq' : q' ≤ 8 * l.length) {x : Int} (hx : x = (q' : Int)) : RefR (w.setCell ⟨g, 1, none⟩ (.int .i64 x)) base g l q' ∧ Mod w (w.setCell ⟨g, 1, none⟩ (.int .i64 x)) g none := by
  obtain ⟨v, hW, hO, hne, hb, _, hl⟩ := h
  subst hx
  exact ⟨⟨v, hW.set 1 _, hO.far hne 1 _, hne, hb, hq', hl⟩, Mod.ofRow (grown_setCell w g 1 _)⟩
/-- What its cells hold. -/
theorem RefR.cells (h : RefR w base g l q) : ∃ A c, w.cell? ⟨g, 0, none⟩ = some (.slice A (8 * l.length) c) ∧ w.cell? ⟨g, 1, none⟩ = some (.int .i64 (q : Int)) ∧ w.frozen? ⟨g, 1, none⟩ = false ∧ q ≤ 8 * l.length ∧ l.length ≤ 1000000 ∧
    Bytes w w.heap.size A (8 * l.length) (Bit.spread l (8 * l.length)) := by
  obtain ⟨v, hW, hO, hne, hb, hq, hl⟩ := h
  obtain ⟨A, c, rfl, _, _, hbb⟩ := hO.form
  rw [Bit.spread_len] at hW hbb
  exact ⟨A, c, hW.at 0 rfl, hW.at 1 rfl, hW.frozen 1, hq, hl, hbb⟩
end
/-- One bit of it, as its cell. -/
theorem spread_cell {w : World} {A : Option Addr} {l : List UInt8} {i : Nat} (hb : Bytes w w.heap.size A (8 * l.length) (Bit.spread l (8 * l.length))) (hi : i < 8 * l.length) :
    ∃ b off, A = some ⟨b, off, none⟩ ∧ b < w.heap.size ∧ w.cell? ⟨b, off + i, none⟩ = some (.int .u8 ((Bit.at_ l i).toNat : Int)) := by
  rcases hb.2 with h0 | ⟨b, off, hA, hB, hc⟩
  · omega
  · refine ⟨b, off, hA, hB, ?_⟩
    rw [hc i hi, Bit.spread_get _ _ _ hi, bit8_int]

theorem refLeft_any {w : World} {base g q : Nat} {l : List UInt8} (h : RefR w base g l q) :
    Calls Try.prog 28 #[.pointer (some ⟨g, 0, none⟩)] w fun e w' => e = .returned (.int .i64 ((8 * l.length - q : Nat) : Int)) ∧ Qt w w' := by
  obtain ⟨A, c, c0, c1, _, hq, hl, _⟩ := h.cells
  go_enter Try.func28, Try.ntmps28
  go_wp2
  go_quiet (fail)
  go_wp2
  go_ret
  exact ⟨ret_i64 (by omega), ⟨_, rfl⟩⟩

/-- What is there of n bits, bits 0 behind it. -/
def Bit.upto (f : Nat → Bool) (left : Nat) : Nat → Bool := fun i => decide (i < left) && f i
theorem Bit.peek_upto (f : Nat → Bool) (left n : Nat) : Bit.val (Bit.upto f left) n = Bit.val f (min n left) * 2 ^ (n - min n left) := by
  have h := Bit.val_shift (Bit.upto f left) (min n left) (n - min n left) (fun i h1 h2 => by unfold Bit.upto; rw [decide_eq_false (by omega)]; rfl)
  rw [show min n left + (n - min n left) = n by omega] at h
  rw [h, Bit.val_congr (g := f) (min n left) (fun i hi => by unfold Bit.upto; rw [decide_eq_true (by omega), Bool.true_and])]

set_option maxHeartbeats 1000000 in
theorem refPeek_any {w : World} {base g q : Nat} {l : List UInt8} (h : RefR w base g l q) (n : Int) :
    Calls Try.prog 45 #[.pointer (some ⟨g, 0, none⟩), .int .i64 n] w fun e w' =>
      e = .returned (.tuple #[.int .u64 ((Bit.peekNum l q n : Nat) : Int), .int .i64 ((Bit.peekThere (8 * l.length - q) n : Nat) : Int)]) ∧ Qt w w' := by
  by_cases hbad : 0 ≤ n ∧ n ≤ 64
  · obtain ⟨h0, h1⟩ := hbad
    obtain ⟨k, rfl⟩ := Int.eq_ofNat_of_zero_le h0
    have hk : k ≤ 64 := by omega
    have HN := hide (show Bit.peekNum l q (k : Int) = Bit.val (Bit.upto (Bit.rest l q) (8 * l.length - q)) k by unfold Bit.peekNum; rw [if_pos ⟨h0, h1⟩, Bit.peek_upto]; simp)
    have HT := hide (show Bit.peekThere (8 * l.length - q) (k : Int) = min k (8 * l.length - q) by unfold Bit.peekThere; rw [if_pos ⟨h0, h1⟩]; simp)
    go_enter Try.func45, Try.ntmps45
    go_wp2
    go_loopw [6, 7, 8] (fun x t i wr => ∃ j : Nat, j ≤ k ∧ x = .int .u64 (Bit.val (Bit.upto (Bit.rest l q) (8 * l.length - q)) j : Nat) ∧ t = .int .i64 ((min j (8 * l.length - q) : Nat) : Int) ∧ i = .int .i64 (j : Int) ∧ Qt w wr) (fun _ _ i _ => k - (intOf i).toNat)
    case atStart => exact ⟨0, by omega, rfl, by simp, rfl, Qt.refl _⟩
    case round =>
      obtain ⟨j, hj, rfl, rfl, rfl, hQ⟩ := hrel
      by_cases hlt : j < k
      · have hv := Bit.val_lt (Bit.upto (Bit.rest l q) (8 * l.length - q)) j
        have hv2 : Bit.val (Bit.upto (Bit.rest l q) (8 * l.length - q)) j < 9223372036854775808 := Nat.lt_of_lt_of_le hv (show 2 ^ j ≤ 2 ^ 63 from Nat.pow_le_pow_right (by omega) (by omega))
        have HV := hide (show Bit.val (Bit.upto (Bit.rest l q) (8 * l.length - q)) (j + 1) = 2 * Bit.val (Bit.upto (Bit.rest l q) (8 * l.length - q)) j + (Bit.upto (Bit.rest l q) (8 * l.length - q) j).toNat from rfl)
        clear hv
        generalize Bit.val (Bit.upto (Bit.rest l q) (8 * l.length - q)) j = X at *
        have hR := h.ext hQ.ext
        by_cases hin : j < 8 * l.length - q
        · have HU := hide (show Bit.upto (Bit.rest l q) (8 * l.length - q) j = Bit.at_ l (q + j) by unfold Bit.upto; rw [decide_eq_true hin, Bool.true_and]; rfl)
          have hm1 : min j (8 * l.length - q) = j := by omega
          have hin' : (j : Int) < ((8 * l.length - q : Nat) : Int) := by omega
          rw [hm1]
          go_wp2_with fail
          refine (refLeft_any hR).mono ?_
          rintro e w2 ⟨rfl, hQ2⟩
          have hR2 := hR.ext hQ2.ext
          obtain ⟨A, c, c0, c1, _, hq, hl, hbb⟩ := hR2.cells
          obtain ⟨b, off, rfl, _, hc⟩ := spread_cell (i := q + j) hbb (by omega)
          have hix : (q : Int) + j < ((8 * l.length : Nat) : Int) := by omega
          have hbt : (Bit.at_ l (q + j)).toNat ≤ 1 := by cases Bit.at_ l (q + j) <;> simp
          generalize Bit.at_ l (q + j) = bt at *
          clear hR hR2 hbb h
          have hLb : ((8 * l.length : Nat) : Int) ≤ 8000000 := by omega
          generalize hLL : 8 * l.length = LL at *
          have HLL := hide hLL
          clear hLL
          have HQ := hide (hQ.trans hQ2)
          clear hQ hQ2 hm1
          go_wp2_with fail
          go_quiet (fail)
          go_wp2
          go_roundw
          case rel => exact ⟨j + 1, by omega, by rw [HLL.out, HV.out, HU.out]; go_num, by rw [HLL.out, show min (j + 1) (LL - q) = j + 1 by omega]; go_num, by go_num, HQ.out.drewN _⟩
          case measure => simp [intOf]; omega
        · have HU := hide (show Bit.upto (Bit.rest l q) (8 * l.length - q) j = false by unfold Bit.upto; rw [decide_eq_false hin]; rfl)
          have hm1 : min j (8 * l.length - q) = 8 * l.length - q := by omega
          have hm2 : min (j + 1) (8 * l.length - q) = 8 * l.length - q := by omega
          have hin' : ¬ ((j : Int) < ((8 * l.length - q : Nat) : Int)) := by omega
          have HM := hide hm2
          rw [hm1]
          go_wp2_with fail
          refine (refLeft_any hR).mono ?_
          rintro e w2 ⟨rfl, hQ2⟩
          clear hm1 hm2 hR h
          generalize hLQ : 8 * l.length - q = LQ at *
          have HLQ := hide hLQ
          clear hLQ
          go_wp2
          go_roundw
          case rel => exact ⟨j + 1, by omega, by rw [HLQ.out, HV.out, HU.out]; go_num, by rw [HLQ.out, HM.out], by go_num, hQ.trans hQ2⟩
          case measure => simp [intOf]; omega
      · obtain rfl : j = k := by omega
        go_wp2
        go_ret2
        exact ⟨ret_nverr (by rw [HN.out]) (by rw [HT.out]), hQ⟩
  · have HN := hide (show Bit.peekNum l q n = 0 by unfold Bit.peekNum; rw [if_neg hbad])
    have HT := hide (show Bit.peekThere (8 * l.length - q) n = 0 by unfold Bit.peekThere; rw [if_neg hbad])
    by_cases h0 : n < 0
    · clear hbad
      go_enter Try.func45, Try.ntmps45
      go_wp2
      go_ret2
      exact ⟨ret_nverr (by rw [HN.out]; rfl) (by rw [HT.out]; rfl), Qt.refl _⟩
    · have h1 : 64 < n := by omega
      clear hbad
      go_enter Try.func45, Try.ntmps45
      go_wp2
      go_ret2
      exact ⟨ret_nverr (by rw [HN.out]; rfl) (by rw [HT.out]; rfl), Qt.refl _⟩
end Go.Proofs.Ytabhemmmefefgaa
