/- The document's example; a new reader. A writer of the program and one of the document, side by side. Contracts of the document's reader: Left, Peek, Get, Skip, Unary, Pad. Contracts of the document's reader: Get, Skip, Unary, Pad. The contract of the document's Reader: what makes it. -/
import Derived.Test.YtcphapdjimeoaaaGreatB05
import Derived.Test.YtcphapdjimeoaaaGreatB07
import Derived.Deep.RegionLaw
namespace Go.Proofs.YtcphapdjimeoaaaGreat
open Go.RowKit

theorem newReader_any (A : Option Addr) (n c : Nat) (l : List UInt8) (w : World) (hc : n ≤ c) (hn : n ≤ 1000000) (hb : Bytes w w.heap.size A n l) :
    Calls Tryz.prog 114 #[.slice A n c] w fun e w' => ∃ g, e = .returned (.pointer (some ⟨g, 0, none⟩)) ∧ Rdr w' w.heap.size g l 0 ∧ Ext w w' := by
  have hll := hb.1
  subst hll
  go_enter Tryz.func114, Tryz.ntmps114
  go_wp2_with (go_at_call 136; refine (rowOf_any A _ c l _ hc (by omega) hb).mono ?_; rintro e w2 ⟨A2, c2, rfl, hb2, hE2⟩)
  go_ret
  refine ⟨w2.heap.size, rfl, ⟨A2, c2, ?_, hb2.below (belowNew w2 _) (Nat.le_refl _), by omega, by omega, hE2.le⟩, hE2.alloc _⟩
  rw [← show (8 : Int) * (l.length : Int) = ((8 * l.length : Nat) : Int) by omega]
  exact Whole.new w2 _ _

/-- A new writer. -/
theorem Wrt.new (w : World) : Wrt (w.alloc (.cells #[.slice none 0 0, .int .i64 0] 156)) w.heap.size w.heap.size none [] :=
  ⟨.slice none 0 0, [], ⟨Whole.new w _ _, OwnB.nil _ _, by simp [Value.ownBlock], Nat.le_refl _⟩, Bit.Packs.nil, rfl⟩

theorem Bit.packs_alive : Bit.Packs [164] [true, false, true, false, false, true] := by
  refine ⟨by decide, fun i hi => ?_⟩
  simp only [List.length_singleton] at hi
  rcases (by omega : i = 0 ∨ i = 1 ∨ i = 2 ∨ i = 3 ∨ i = 4 ∨ i = 5 ∨ i = 6 ∨ i = 7) with rfl | rfl | rfl | rfl | rfl | rfl | rfl | rfl <;> decide

end Go.Proofs.YtcphapdjimeoaaaGreat

namespace Go.Proofs.YtcphapdjimeoaaaGreat
open Go.RowKit

theorem NewOb.apart {w : World} {ob ob' o2 : Option Nat} (h : NewOb w ob ob') (h2 : ∀ k, o2 = some k → k < w.heap.size) (hn : ob = none ∨ ob ≠ o2) : ob' = none ∨ ob' ≠ o2 := by
  rcases h with rfl | ⟨n, rfl, hn'⟩
  · exact hn
  · right
    intro e
    have := h2 n e.symm
    omega
theorem ob_symm {a b : Option Nat} (h : a = none ∨ a ≠ b) : b = none ∨ b ≠ a := by
  rcases h with rfl | h
  · cases b <;> simp
  · exact .inr (fun e => h e.symm)
theorem below_drewN {B : Nat} {a b : World} (h : Below B a b) (n : Nat) : Below B a (b.drewN n) := ⟨h.os, h.tape, h.output, h.size, h.block⟩
theorem map_app (B C : List Bool) : B.map bit8 ++ C.map bit8 = (B ++ C).map bit8 := by rw [List.map_append]

end Go.Proofs.YtcphapdjimeoaaaGreat

namespace Go.Proofs.YtcphapdjimeoaaaGreat
open Go.RowKit

/-- The first p bits of these bytes, a byte each. -/
def Bit.spread (l : List UInt8) (p : Nat) : List UInt8 := (List.range p).map fun i => bit8 (Bit.at_ l i)
theorem Bit.spread_len (l : List UInt8) (p : Nat) : (Bit.spread l p).length = p := by simp [Bit.spread]
theorem Bit.spread_get (l : List UInt8) (p i : Nat) (h : i < p) : (Bit.spread l p).getD i 0 = bit8 (Bit.at_ l i) := by simp [Bit.spread, List.getD_eq_getElem?_getD, h]
theorem Bit.spread_succ (l : List UInt8) (p : Nat) : Bit.spread l (p + 1) = Bit.spread l p ++ [bit8 (Bit.at_ l p)] := by simp [Bit.spread, List.range_succ]
/-- Block g is the document's reader of the bytes l, of which q bits are taken. -/
def RefR (w : World) (base g : Nat) (l : List UInt8) (q : Nat) : Prop :=
  ∃ v, Whole w g 96 #[v, .int .i64 (q : Int)] ∧ OwnB w base v (Bit.spread l (8 * l.length)) ∧ v.ownBlock ≠ some g ∧ base ≤ g ∧ q ≤ 8 * l.length ∧ l.length ≤ 1000000
section
variable {w w' : World} {base g q : Nat} {l : List UInt8}
theorem RefR.lt (h : RefR w base g l q) : g < w.heap.size := by obtain ⟨v, h, _⟩ := h; exact h.lt
theorem RefR.le (h : RefR w base g l q) : base ≤ g := by obtain ⟨v, _, _, _, h, _⟩ := h; exact h
theorem RefR.ext (h : RefR w base g l q) (hE : Ext w w') : RefR w' base g l q := by
  obtain ⟨v, hW, hO, r⟩ := h
  exact ⟨v, hW.ext hE, hO.ext hE, r⟩
theorem RefR.kept {g' : Nat} (h : RefR w base g l q) (hM : Mod w w' g' none) (h1 : g ≠ g') (h2 : g' < base) : RefR w' base g l q := by
  obtain ⟨v, hW, hO, hne, hb, r⟩ := h
  exact ⟨v, hM.whole hW h1 (by simp), hM.own hO (fun e => by have := (hO.lt _ e).1; omega) (by cases v.ownBlock <;> simp), hne, hb, r⟩
theorem RefR.moved {q' : Nat} (h : RefR w base g l q) (hq' : q' ≤ 8 * l.length) {x : Int} (hx : x = (q' : Int)) : RefR (w.setCell ⟨g, 1, none⟩ (.int .i64 x)) base g l q' ∧ Mod w (w.setCell ⟨g, 1, none⟩ (.int .i64 x)) g none := by
  obtain ⟨v, hW, hO, hne, hb, _, hl⟩ := h
  subst hx
  exact ⟨⟨v, hW.set 1 _, hO.far hne 1 _, hne, hb, hq', hl⟩, Mod.ofRow (grown_setCell w g 1 _)⟩
/-- What its cells hold. -/
theorem RefR.cells (h : RefR w base g l q) : ∃ A c, w.cell? ⟨g, 0, none⟩ = some (.slice A (8 * l.length) c) ∧ w.cell? ⟨g, 1, none⟩ = some (.int .i64 (q : Int)) ∧ w.frozen? ⟨g, 1, none⟩ = false ∧ q ≤ 8 * l.length ∧ l.length ≤ 1000000 ∧
    Bytes w w.heap.size A (8 * l.length) (Bit.spread l (8 * l.length)) := by
  obtain ⟨v, hW, hO, hne, hb, hq, hl⟩ := h
  obtain ⟨A, c, rfl, _, _, hbb⟩ := hO.form
  rw [Bit.spread_len] at hW hbb
  exact ⟨A, c, hW.at 0 rfl, hW.at 1 rfl, hW.frozen 1, hq, hl, hbb⟩
end
/-- One bit of it, as its cell. -/
theorem spread_cell {w : World} {A : Option Addr} {l : List UInt8} {i : Nat} (hb : Bytes w w.heap.size A (8 * l.length) (Bit.spread l (8 * l.length))) (hi : i < 8 * l.length) :
    ∃ b off, A = some ⟨b, off, none⟩ ∧ b < w.heap.size ∧ w.cell? ⟨b, off + i, none⟩ = some (.int .u8 ((Bit.at_ l i).toNat : Int)) := by
  rcases hb.2 with h0 | ⟨b, off, hA, hB, hc⟩
  · omega
  · refine ⟨b, off, hA, hB, ?_⟩
    rw [hc i hi, Bit.spread_get _ _ _ hi, bit8_int]

theorem refLeft_any {w : World} {base g q : Nat} {l : List UInt8} (h : RefR w base g l q) :
    Calls Tryz.prog 69 #[.pointer (some ⟨g, 0, none⟩)] w fun e w' => e = .returned (.int .i64 ((8 * l.length - q : Nat) : Int)) ∧ Qt w w' := by
  obtain ⟨A, c, c0, c1, _, hq, hl, _⟩ := h.cells
  go_enter Tryz.func69, Tryz.ntmps69
  go_wp2
  go_quiet (fail)
  go_wp2
  go_ret
  exact ⟨ret_i64 (by omega), ⟨_, rfl⟩⟩

/-- What is there of n bits, bits 0 behind it. -/
def Bit.upto (f : Nat → Bool) (left : Nat) : Nat → Bool := fun i => decide (i < left) && f i
theorem Bit.peek_upto (f : Nat → Bool) (left n : Nat) : Bit.val (Bit.upto f left) n = Bit.val f (min n left) * 2 ^ (n - min n left) := by
  have h := Bit.val_shift (Bit.upto f left) (min n left) (n - min n left) (fun i h1 h2 => by unfold Bit.upto; rw [decide_eq_false (by omega)]; rfl)
  rw [show min n left + (n - min n left) = n by omega] at h
  rw [h, Bit.val_congr (g := f) (min n left) (fun i hi => by unfold Bit.upto; rw [decide_eq_true (by omega), Bool.true_and])]

set_option maxHeartbeats 1000000 in
theorem refPeek_any {w : World} {base g q : Nat} {l : List UInt8} (h : RefR w base g l q) (n : Int) :
    Calls Tryz.prog 70 #[.pointer (some ⟨g, 0, none⟩), .int .i64 n] w fun e w' =>
      e = .returned (.tuple #[.int .u64 ((Bit.peekNum l q n : Nat) : Int), .int .i64 ((Bit.peekThere (8 * l.length - q) n : Nat) : Int)]) ∧ Qt w w' := by
  by_cases hbad : 0 ≤ n ∧ n ≤ 64
  · obtain ⟨h0, h1⟩ := hbad
    obtain ⟨k, rfl⟩ := Int.eq_ofNat_of_zero_le h0
    have hk : k ≤ 64 := by omega
    have HN := hide (show Bit.peekNum l q (k : Int) = Bit.val (Bit.upto (Bit.rest l q) (8 * l.length - q)) k by unfold Bit.peekNum; rw [if_pos ⟨h0, h1⟩, Bit.peek_upto]; simp)
    have HT := hide (show Bit.peekThere (8 * l.length - q) (k : Int) = min k (8 * l.length - q) by unfold Bit.peekThere; rw [if_pos ⟨h0, h1⟩]; simp)
    go_enter Tryz.func70, Tryz.ntmps70
    go_wp2
    go_loopw [6, 7, 8] (fun x t i wr => ∃ j : Nat, j ≤ k ∧ x = .int .u64 (Bit.val (Bit.upto (Bit.rest l q) (8 * l.length - q)) j : Nat) ∧ t = .int .i64 ((min j (8 * l.length - q) : Nat) : Int) ∧ i = .int .i64 (j : Int) ∧ Qt w wr) (fun _ _ i _ => k - (intOf i).toNat)
    case atStart => exact ⟨0, by omega, rfl, by simp, rfl, Qt.refl _⟩
    case round =>
      obtain ⟨j, hj, rfl, rfl, rfl, hQ⟩ := hrel
      by_cases hlt : j < k
      · have hv := Bit.val_lt (Bit.upto (Bit.rest l q) (8 * l.length - q)) j
        have hv2 : Bit.val (Bit.upto (Bit.rest l q) (8 * l.length - q)) j < 9223372036854775808 := Nat.lt_of_lt_of_le hv (show 2 ^ j ≤ 2 ^ 63 from Nat.pow_le_pow_right (by omega) (by omega))
        have HV := hide (show Bit.val (Bit.upto (Bit.rest l q) (8 * l.length - q)) (j + 1) = 2 * Bit.val (Bit.upto (Bit.rest l q) (8 * l.length - q)) j + (Bit.upto (Bit.rest l q) (8 * l.length - q) j).toNat from rfl)
        clear hv
        generalize Bit.val (Bit.upto (Bit.rest l q) (8 * l.length - q)) j = X at *
        have hR := h.ext hQ.ext
        by_cases hin : j < 8 * l.length - q
        · have HU := hide (show Bit.upto (Bit.rest l q) (8 * l.length - q) j = Bit.at_ l (q + j) by unfold Bit.upto; rw [decide_eq_true hin, Bool.true_and]; rfl)
          have hm1 : min j (8 * l.length - q) = j := by omega
          have hin' : (j : Int) < ((8 * l.length - q : Nat) : Int) := by omega
          rw [hm1]
          go_wp2_with fail
          refine (refLeft_any hR).mono ?_
          rintro e w2 ⟨rfl, hQ2⟩
          have hR2 := hR.ext hQ2.ext
          obtain ⟨A, c, c0, c1, _, hq, hl, hbb⟩ := hR2.cells
          obtain ⟨b, off, rfl, _, hc⟩ := spread_cell (i := q + j) hbb (by omega)
          have hix : (q : Int) + j < ((8 * l.length : Nat) : Int) := by omega
          have hbt : (Bit.at_ l (q + j)).toNat ≤ 1 := by cases Bit.at_ l (q + j) <;> simp
          generalize Bit.at_ l (q + j) = bt at *
          clear hR hR2 hbb h
          have hLb : ((8 * l.length : Nat) : Int) ≤ 8000000 := by omega
          generalize hLL : 8 * l.length = LL at *
          have HLL := hide hLL
          clear hLL
          have HQ := hide (hQ.trans hQ2)
          clear hQ hQ2 hm1
          go_wp2_with fail
          go_quiet (fail)
          go_wp2
          go_roundw
          case rel => exact ⟨j + 1, by omega, by rw [HLL.out, HV.out, HU.out]; go_num, by rw [HLL.out, show min (j + 1) (LL - q) = j + 1 by omega]; go_num, by go_num, HQ.out.drewN _⟩
          case measure => simp [intOf]; omega
        · have HU := hide (show Bit.upto (Bit.rest l q) (8 * l.length - q) j = false by unfold Bit.upto; rw [decide_eq_false hin]; rfl)
          have hm1 : min j (8 * l.length - q) = 8 * l.length - q := by omega
          have hm2 : min (j + 1) (8 * l.length - q) = 8 * l.length - q := by omega
          have hin' : ¬ ((j : Int) < ((8 * l.length - q : Nat) : Int)) := by omega
          have HM := hide hm2
          rw [hm1]
          go_wp2_with fail
          refine (refLeft_any hR).mono ?_
          rintro e w2 ⟨rfl, hQ2⟩
          clear hm1 hm2 hR h
          generalize hLQ : 8 * l.length - q = LQ at *
          have HLQ := hide hLQ
          clear hLQ
          go_wp2
          go_roundw
          case rel => exact ⟨j + 1, by omega, by rw [HLQ.out, HV.out, HU.out]; go_num, by rw [HLQ.out, HM.out], by go_num, hQ.trans hQ2⟩
          case measure => simp [intOf]; omega
      · obtain rfl : j = k := by omega
        go_wp2
        go_ret2
        exact ⟨ret_nverr (by rw [HN.out]) (by rw [HT.out]), hQ⟩
  · have HN := hide (show Bit.peekNum l q n = 0 by unfold Bit.peekNum; rw [if_neg hbad])
    have HT := hide (show Bit.peekThere (8 * l.length - q) n = 0 by unfold Bit.peekThere; rw [if_neg hbad])
    by_cases h0 : n < 0
    · clear hbad
      go_enter Tryz.func70, Tryz.ntmps70
      go_wp2
      go_ret2
      exact ⟨ret_nverr (by rw [HN.out]; rfl) (by rw [HT.out]; rfl), Qt.refl _⟩
    · have h1 : 64 < n := by omega
      clear hbad
      go_enter Tryz.func70, Tryz.ntmps70
      go_wp2
      go_ret2
      exact ⟨ret_nverr (by rw [HN.out]; rfl) (by rw [HT.out]; rfl), Qt.refl _⟩
end Go.Proofs.YtcphapdjimeoaaaGreat

namespace Go.Proofs.YtcphapdjimeoaaaGreat
open Go.RowKit

theorem Bit.getNum_peek (l : List UInt8) (q k : Nat) (hk : k ≤ 64) (hs : k ≤ 8 * l.length - q) : Bit.getNum l q (k : Int) = Bit.peekNum l q (k : Int) := by
  have h1 : Bit.getErr (8 * l.length - q) (k : Int) = 0 := by unfold Bit.getErr; rw [if_pos ⟨by omega, by omega⟩, if_pos (by omega)]
  unfold Bit.getNum Bit.peekNum
  rw [h1, if_pos rfl, if_pos ⟨by omega, by omega⟩, Int.toNat_natCast, Nat.min_eq_left hs, Nat.sub_self, Nat.pow_zero, Nat.mul_one]

set_option maxHeartbeats 1000000 in
theorem refGet_any {w : World} {base g q : Nat} {l : List UInt8} (h : RefR w base g l q) (n : Int) :
    Calls Tryz.prog 44 #[.pointer (some ⟨g, 0, none⟩), .int .i64 n] w fun e w' =>
      e = .returned (.tuple #[.int .u64 ((Bit.getNum l q n : Nat) : Int), .int .i64 (Bit.getErr (8 * l.length - q) n)]) ∧ RefR w' base g l (Bit.getTo (8 * l.length - q) q n) ∧ Mod w w' g none := by
  by_cases hbad : 0 ≤ n ∧ n ≤ 64
  · obtain ⟨h0, h1⟩ := hbad
    obtain ⟨k, rfl⟩ := Int.eq_ofNat_of_zero_le h0
    have hk : k ≤ 64 := by omega
    by_cases hs : k ≤ 8 * l.length - q
    · have HE := hide (show Bit.getErr (8 * l.length - q) (k : Int) = 0 by unfold Bit.getErr; rw [if_pos ⟨h0, h1⟩, if_pos (by omega)])
      have HN := hide (Bit.getNum_peek l q k hk hs)
      have HT := hide (show Bit.getTo (8 * l.length - q) q (k : Int) = q + k by unfold Bit.getTo; rw [HE.out]; simp)
      go_enter Tryz.func44, Tryz.ntmps44
      go_wp2_with fail
      refine (refLeft_any h).mono ?_
      rintro e w2 ⟨rfl, hQ2⟩
      have hR2 := h.ext hQ2.ext
      clear h
      go_wp2_with fail
      refine (refPeek_any hR2 (k : Int)).mono ?_
      rintro e w3 ⟨rfl, hQ3⟩
      have hR3 := hR2.ext hQ3.ext
      obtain ⟨A, c, c0, c1, f1, hq, hl, _⟩ := hR3.cells
      have HR := hide hR3
      clear hR2 hR3 c0
      generalize Bit.peekNum l q (k : Int) = X at *
      generalize Bit.peekThere (8 * l.length - q) (k : Int) = T at *
      go_wp2
      go_ret2
      have hM := HR.out.moved (q' := q + k) (x := (q : Int) + k) (by omega) (by omega)
      exact ⟨ret_nverr (by rw [HN.out]) HE.out.symm, by rw [HT.out]; exact hM.1, (Mod.ofExt (hQ2.trans hQ3).ext).trans hM.2 (.inl rfl)⟩
    · have HE := hide (show Bit.getErr (8 * l.length - q) (k : Int) = 1 by unfold Bit.getErr; rw [if_pos ⟨h0, h1⟩, if_neg (by omega)])
      have HN := hide (show Bit.getNum l q (k : Int) = 0 by unfold Bit.getNum; rw [HE.out]; simp)
      have HT := hide (show Bit.getTo (8 * l.length - q) q (k : Int) = q by unfold Bit.getTo; rw [HE.out]; simp)
      have HR := hide h
      have hs' : ¬ ((k : Int) ≤ ((8 * l.length - q : Nat) : Int)) := by omega
      go_enter Tryz.func44, Tryz.ntmps44
      go_wp2_with fail
      refine (refLeft_any h).mono ?_
      rintro e w2 ⟨rfl, hQ2⟩
      go_wp2
      go_ret2
      exact ⟨ret_nverr (by rw [HN.out]; rfl) HE.out.symm, by rw [HT.out]; exact HR.out.ext hQ2.ext, Mod.ofExt hQ2.ext⟩
  · have HE := hide (show Bit.getErr (8 * l.length - q) n = 13 by unfold Bit.getErr; rw [if_neg hbad])
    have HN := hide (show Bit.getNum l q n = 0 by unfold Bit.getNum; rw [HE.out]; simp)
    have HT := hide (show Bit.getTo (8 * l.length - q) q n = q by unfold Bit.getTo; rw [HE.out]; simp)
    have HR := hide h
    by_cases h0 : n < 0
    · clear hbad
      go_enter Tryz.func44, Tryz.ntmps44
      go_wp2
      go_ret2
      exact ⟨ret_nverr (by rw [HN.out]; rfl) HE.out.symm, by rw [HT.out]; exact HR.out, Mod.refl _ _ _⟩
    · have h1 : 64 < n := by omega
      clear hbad
      go_enter Tryz.func44, Tryz.ntmps44
      go_wp2
      go_ret2
      exact ⟨ret_nverr (by rw [HN.out]; rfl) HE.out.symm, by rw [HT.out]; exact HR.out, Mod.refl _ _ _⟩

set_option maxHeartbeats 1000000 in
theorem refUnaryR_any {w : World} {base g q : Nat} {l : List UInt8} (h : RefR w base g l q) :
    Calls Tryz.prog 45 #[.pointer (some ⟨g, 0, none⟩)] w fun e w' =>
      e = .returned (.tuple #[.int .i64 ((Bit.unNum l q : Nat) : Int), .int .i64 (Bit.unErr l q)]) ∧ RefR w' base g l (Bit.unTo l q) ∧ Mod w w' g none := by
  go_enter Tryz.func45, Tryz.ntmps45
  go_wp2
  go_loopw [4] (fun i wr => ∃ j : Nat, q + j ≤ 8 * l.length ∧ i = .int .i64 (j : Int) ∧ (∀ t, t < j → Bit.at_ l (q + t) = false) ∧ Qt w wr) (fun i _ => 8 * l.length - (intOf i).toNat)
  case atStart =>
    obtain ⟨A, c, _, _, _, hq, _⟩ := h.cells
    exact ⟨0, by omega, rfl, fun t ht => by omega, Qt.refl _⟩
  case round =>
    obtain ⟨j, hj, rfl, hz, hQ⟩ := hrel
    have hR := h.ext hQ.ext
    obtain ⟨A, c, c0, c1, f1, hq, hl, hbb⟩ := hR.cells
    have HR := hide hR
    have hLb : ((8 * l.length : Nat) : Int) ≤ 8000000 := by omega
    clear hR h
    by_cases hlt : q + j < 8 * l.length
    · obtain ⟨b, off, rfl, _, hc⟩ := spread_cell (i := q + j) hbb hlt
      have hix : (q : Int) + j < ((8 * l.length : Nat) : Int) := by omega
      clear hbb
      by_cases hbit : Bit.at_ l (q + j) = true
      · have hZ : Bit.zs l q = j := Bit.zeros_eq (by omega) hz (fun _ => hbit)
        have hne : Bit.zs l q ≠ 8 * l.length - q := by omega
        have HN := hide (show Bit.unNum l q = j by unfold Bit.unNum; rw [if_neg hne, hZ])
        have HE := hide (show Bit.unErr l q = 0 by unfold Bit.unErr; rw [if_neg hne])
        have HT := hide (show Bit.unTo l q = q + j + 1 by unfold Bit.unTo; rw [if_neg hne, hZ])
        have hq1 : q + j + 1 ≤ 8 * l.length := by omega
        have HQ1 := hide hq1
        rw [hbit] at hc
        have HQ := hide hQ
        clear hz hbit hne hZ hq1 hj hQ
        generalize hLL : 8 * l.length = LL at *
        have HLL := hide hLL
        clear hLL
        go_wp2
        go_quiet (fail)
        go_wp2
        go_quiet (fail)
        go_wp2
        go_ret2
        have hM := HR.out.moved (q' := q + j + 1) (x := (q : Int) + j + 1) (by rw [HLL.out]; exact HQ1.out) (by omega)
        exact ⟨ret_nverr (by rw [HN.out]) HE.out.symm, by rw [HT.out]; exact hM.1.ext ((Ext.refl _).drewN _), (Mod.ofExt HQ.out.ext).trans (hM.2.trans (Mod.ofExt ((Ext.refl _).drewN _)) (.inl rfl)) (.inl rfl)⟩
      · have hbit' : Bit.at_ l (q + j) = false := by simpa using hbit
        rw [hbit'] at hc
        have HZ := hide (show ∀ t, t < j + 1 → Bit.at_ l (q + t) = false from fun t ht => by
          rcases Nat.lt_or_ge t j with h | h
          · exact hz t h
          · obtain rfl : t = j := by omega
            exact hbit')
        clear hz hbit hbit'
        generalize hLL : 8 * l.length = LL at *
        have HLL := hide hLL
        clear hLL
        go_wp2
        go_quiet (fail)
        go_wp2
        go_quiet (fail)
        go_wp2
        go_roundw
        case rel => exact ⟨j + 1, by omega, by go_num, HZ.out, hQ.drewN _⟩
        case measure => simp [intOf]; omega
    · have hZ : Bit.zs l q = 8 * l.length - q := Bit.zeros_eq (by omega) (fun t ht => hz t (by omega)) (fun h => by omega)
      have HN := hide (show Bit.unNum l q = 0 by unfold Bit.unNum; rw [if_pos hZ])
      have HE := hide (show Bit.unErr l q = 1 by unfold Bit.unErr; rw [if_pos hZ])
      have HT := hide (show Bit.unTo l q = q by unfold Bit.unTo; rw [if_pos hZ])
      have hix : ¬ ((q : Int) + j < ((8 * l.length : Nat) : Int)) := by omega
      clear hz hZ hbb
      generalize hLL : 8 * l.length = LL at *
      have HLL := hide hLL
      clear hLL
      go_wp2
      go_quiet (fail)
      go_wp2
      go_ret2
      exact ⟨ret_nverr (by rw [HN.out]; rfl) HE.out.symm, by rw [HT.out]; exact HR.out.ext ((Ext.refl wr).drewN _), Mod.ofExt (hQ.drewN _).ext⟩

end Go.Proofs.YtcphapdjimeoaaaGreat

namespace Go.Proofs.YtcphapdjimeoaaaGreat
open Go.RowKit

/-- While it is made: block g holds the first p bits. -/
def Making (w0 w : World) (g : Nat) (l : List UInt8) (p : Nat) : Prop :=
  ∃ v, Whole w g 96 #[v, .int .i64 0] ∧ OwnB w w0.heap.size v (Bit.spread l p) ∧ v.ownBlock ≠ some g ∧ w0.heap.size ≤ g ∧ Ext w0 w
theorem Bit.mask (d : Nat) (h : d < 8) : 128 / 2 ^ d = 2 ^ (7 - d) := by
  rcases (by omega : d = 0 ∨ d = 1 ∨ d = 2 ∨ d = 3 ∨ d = 4 ∨ d = 5 ∨ d = 6 ∨ d = 7) with rfl | rfl | rfl | rfl | rfl | rfl | rfl | rfl <;> decide

set_option maxHeartbeats 2000000 in
theorem refReader_any (A : Option Addr) (n c : Nat) (l : List UInt8) (w : World) (hn : n ≤ 1000000) (hb : Bytes w w.heap.size A n l) :
    Calls Tryz.prog 43 #[.slice A n c] w fun e w' => ∃ g, e = .returned (.pointer (some ⟨g, 0, none⟩)) ∧ RefR w' w.heap.size g l 0 ∧ Ext w w' := by
  have hll := hb.1
  subst hll
  have hM0 : Making w (w.alloc (.cells #[.slice none 0 0, .int .i64 0] 96)) w.heap.size l 0 :=
    ⟨.slice none 0 0, Whole.new w _ _, OwnB.nil _ _, by simp [Value.ownBlock], Nat.le_refl _, extNew w _⟩
  have HB := hide hb
  clear hb
  go_enter Tryz.func43, Tryz.ntmps43
  go_wp2
  go_loopw [4, 5, 6] (fun i _ _ wr => ∃ j : Nat, j ≤ l.length ∧ i = .int .i64 (j : Int) ∧ Making w wr w.heap.size l (8 * j)) (fun i _ _ _ => l.length - (intOf i).toNat)
  case atStart => exact ⟨0, by omega, rfl, hM0⟩
  case round =>
    obtain ⟨j, hj, rfl, hMk⟩ := hrel
    by_cases hlt : j < l.length
    · rcases HB.out.2 with h0 | ⟨b, off, rfl, hbl, hcells⟩
      · omega
      have hcell := hcells j hlt
      clear hcells
      go_wp2
      go_loopw [5, 6] (fun m k ww => ∃ d : Nat, d ≤ 8 ∧ m = .int .i64 ((128 / 2 ^ d : Nat) : Int) ∧ k = .int .i64 (d : Int) ∧ Making w ww w.heap.size l (8 * j + d)) (fun _ k _ => 8 - (intOf k).toNat)
      case atStart => exact ⟨0, by omega, rfl, rfl, hMk⟩
      case round =>
        obtain ⟨d, hd, rfl, rfl, v, hW, hO, hne, hge, hE⟩ := hrel
        by_cases hd8 : d < 8
        · have hc := (hE.cell hbl).trans hcell
          have hmask := Bit.mask d hd8
          have hbit := Bit.bit_int ((l.getD j 0).toNat / 2 ^ (7 - d)) ((l.getD j 0).toNat.testBit (7 - d)) (Bit.testBit_toNat _ _)
          have hat : Bit.at_ l (8 * j + d) = (l.getD j 0).toNat.testBit (7 - d) := by unfold Bit.at_; rw [show (8 * j + d) / 8 = j by omega, show (8 * j + d) % 8 = d by omega]
          have HS := hide (Bit.spread_succ l (8 * j + d))
          rw [hat] at HS
          have hnext : ((128 / 2 ^ d : Nat) : Int) / 2 = ((128 / 2 ^ (d + 1) : Nat) : Int) := by rw [Nat.pow_succ, ← Nat.div_div_eq_div_mul]; omega
          have Hnext := hide hnext
          have hpow : 0 < 2 ^ (7 - d) := Nat.two_pow_pos _
          rw [hmask] at Hnext
          have hdiv : ((l.getD j 0).toNat : Int) / ((2 ^ (7 - d) : Nat) : Int) = (((l.getD j 0).toNat / 2 ^ (7 - d) : Nat) : Int) := by rw [Int.natCast_ediv]
          rw [hmask]
          have hdivt : ((l.getD j 0).toNat : Int).tdiv ((2 ^ (7 - d) : Nat) : Int) = (((l.getD j 0).toNat / 2 ^ (7 - d) : Nat) : Int) := by rw [Int.tdiv_eq_ediv_of_nonneg (by omega)]; exact hdiv
          have hylt : (l.getD j 0).toNat / 2 ^ (7 - d) ≤ 255 := Nat.le_trans (Nat.div_le_self _ _) (by have := (l.getD j 0).toNat_lt; omega)
          have hcc : (l.getD j 0).toNat ≤ 255 := by have := (l.getD j 0).toNat_lt; omega
          have hM2 : 2 ^ (7 - d) ≤ 128 := Nat.le_trans (Nat.pow_le_pow_right (by omega) (show 7 - d ≤ 7 by omega)) (by decide)
          have hM1 : ¬ (2 ^ (7 - d) = 0) := Nat.ne_of_gt hpow
          have hlen : (Bit.spread l (8 * j + d)).length = 8 * j + d := Bit.spread_len _ _
          have hfit : (Bit.spread l (8 * j + d)).length + 1 ≤ 140737488355328 := by omega
          clear hat hnext hmask hlen
          generalize bit8 ((l.getD j 0).toNat.testBit (7 - d)) = bt at *
          generalize (l.getD j 0).toNat / 2 ^ (7 - d) = y at *
          generalize (l.getD j 0).toNat = cc at *
          generalize 2 ^ (7 - d) = M at *
          generalize Bit.spread l (8 * j + d) = Sp at *
          have hbt := bt.toNat_lt
          have a1 : IntKind.i64.wrap (cc : Int) = cc := by rw [IntKind.wrap_i64]; omega
          have a3 : IntKind.i64.wrap (y : Int) = y := by rw [IntKind.wrap_i64]; omega
          have a4 : (y : Int).tmod 2 = (bt.toNat : Int) := by rw [Int.tmod_eq_emod_of_nonneg (by omega)]; exact hbit
          have a5 : IntKind.u8.wrap (bt.toNat : Int) = (bt.toNat : Int) := by rw [IntKind.wrap_u8']; omega
          clear hdiv
          have d0 : wr.cell? ⟨w.heap.size, 0, none⟩ = some v := hW.at 0 rfl
          have hEa := extNew wr (.cells #[.int .u8 (bt.toNat : Int)] 5)
          have d0' : (wr.alloc (.cells #[.int .u8 (bt.toNat : Int)] 5)).cell? ⟨w.heap.size, 0, none⟩ = some v := (hW.ext hEa).at 0 rfl
          have hb1 := (Ext.refl (wr.alloc (.cells #[.int .u8 (bt.toNat : Int)] 5))).drew.bytes (bytesNew wr [bt] #[.int .u8 (bt.toNat : Int)] 5 (0, 0) rfl 1 rfl)
          have hEw : Ext wr (wr.alloc (.cells #[.int .u8 (bt.toNat : Int)] 5)).drew := hEa.drew
          have hOx := hO.ext hEw
          have hB1 : w.heap.size ≤ (wr.alloc (.cells #[.int .u8 (bt.toNat : Int)] 5)).drew.heap.size := (hE.trans hEw).le
          go_wp2
          go_region_law (refine step_appAt rfl (.tmp 23) (.tmp 33) rfl rfl hOx rfl hb1 hfit hB1 ?_; intro v2 w2 hO2 hG2' hN2'; have hG2 : (wr.alloc (.cells #[.int .u8 (bt.toNat : Int)] 5)).drew.grownBy w2 v.ownBlock := hG2'; have hN2 : NewOb (wr.alloc (.cells #[.int .u8 (bt.toNat : Int)] 5)).drew v.ownBlock v2.ownBlock := hN2'; clear hG2' hN2'; have hW2 := (hW.ext hEw).ownGrown hG2 hne; obtain ⟨A2, n2, c2, hv2, _, _, _⟩ := hO2.form'; subst hv2; have e0 := hW2.at 0 rfl; have f2 := hW2.frozen 0)
          all_goals (
            have hne2 : (Value.slice A2 n2 c2).ownBlock ≠ some w.heap.size := hN2.ne (Nat.lt_of_lt_of_le hW.lt hEw.le) hne
            have hMk2 : Making w (w2.setCell ⟨w.heap.size, 0, none⟩ (.slice A2 n2 c2)) w.heap.size l (8 * j + (d + 1)) := by
              refine ⟨.slice A2 n2 c2, hW2.set 0 _, ?_, hne2, Nat.le_refl _, ?_⟩
              · rw [← Nat.add_assoc, HS.out]
                exact hO2.far hne2 0 _
              · exact Ext.setCell (hOx.below (hE.trans hEw) hG2 hB1) (Nat.le_refl _) _
            have HMk := hide hMk2
            clear hMk2 hMk hM0
            go_wp2
            go_roundw
            case rel => exact ⟨d + 1, by omega, by rw [Hnext.out], by go_num, HMk.out⟩
            case measure => simp [intOf]; omega)
        · obtain rfl : d = 8 := by omega
          have HMk := hide (show Making w wr w.heap.size l (8 * (j + 1)) from ⟨v, hW, hO, hne, hge, hE⟩)
          clear hW hO hMk hM0
          go_wp2
          go_roundw
          case rel => exact ⟨j + 1, by omega, by go_num, HMk.out⟩
          case measure => simp [intOf]; omega
    · obtain rfl : j = l.length := by omega
      obtain ⟨v, hW, hO, hne, hge, hE⟩ := hMk
      go_wp2
      go_ret
      exact ⟨_, rfl, ⟨v, hW, hO, hne, hge, by omega, hn⟩, hE⟩
end Go.Proofs.YtcphapdjimeoaaaGreat

