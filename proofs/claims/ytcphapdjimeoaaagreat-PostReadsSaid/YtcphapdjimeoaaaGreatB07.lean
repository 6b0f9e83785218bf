/- Contracts of the library's LeadingZeros8 and of the row's zerosFrom. Contracts of the reader: NewReader, Left, Get, Skip, Peek, Unary, Pad. Contracts of the reader: Peek, Unary, Pad, NewReader. -/
import Derived.Test.YtcphapdjimeoaaaGreatB01
import Derived.Test.YtcphapdjimeoaaaGreatB03
import Derived.Test.YtcphapdjimeoaaaGreatB04
import Derived.Test.YtcphapdjimeoaaaGreatB06
import Derived.Deep.QuietTactic
import Derived.BigQuiet
import Derived.Lib.BitFns
import Derived.Laws.Tables
namespace Go.Proofs.YtcphapdjimeoaaaGreat
open Go.RowKit

namespace Bit
/-- How many bits 0 stand ahead of a byte's first 1. -/
def lz (r : Nat) : Nat := 7 - r.log2
/-- A byte shifted up by s. -/
def up (c : UInt8) (s : Nat) : UInt8 := UInt8.ofNat (c.toNat * 2 ^ s)
theorem up_bit (c : UInt8) (s i : Nat) (hi : i < 8) (h : s + i < 8) : (up c s).toNat.testBit (7 - i) = c.toNat.testBit (7 - (s + i)) := by
  unfold up
  rw [UInt8.toNat_ofNat', Nat.testBit_mod_two_pow, decide_eq_true (show 7 - i < 8 by omega), Bool.true_and, Nat.testBit_mul_two_pow, decide_eq_true (show s ≤ 7 - i by omega), Bool.true_and]
  congr 1
  omega
theorem up_bit_low (c : UInt8) (s i : Nat) (hi : i < 8) (h : 8 ≤ s + i) : (up c s).toNat.testBit (7 - i) = false := by
  unfold up
  rw [UInt8.toNat_ofNat', Nat.testBit_mod_two_pow, Nat.testBit_mul_two_pow, decide_eq_false (show ¬ s ≤ 7 - i by omega)]
  simp
theorem lz_facts (r : UInt8) (h : r.toNat ≠ 0) : lz r.toNat < 8 ∧ (∀ i, i < lz r.toNat → r.toNat.testBit (7 - i) = false) ∧ r.toNat.testBit (7 - lz r.toNat) = true := by
  have hr := r.toNat_lt
  have h8 : r.toNat.log2 < 8 := (Nat.log2_lt h).2 hr
  unfold lz
  refine ⟨by omega, fun i hi => ?_, ?_⟩
  · apply Nat.testBit_lt_two_pow
    have h1 : r.toNat.log2 < 7 - i := by omega
    exact (Nat.log2_lt h).1 h1
  · rw [show 7 - (7 - r.toNat.log2) = r.toNat.log2 by omega]
    exact Nat.testBit_log2 h
end Bit

theorem shl_byte (c : UInt8) (s : Nat) : ((c.toNat : Int) * 2 ^ s) % 256 = ((Bit.up c s).toNat : Int) := by
  unfold Bit.up
  rw [UInt8.toNat_ofNat']
  simp only [Int.natCast_emod, Int.natCast_mul, Int.natCast_pow]
  rfl

theorem bitLen_log2 : ∀ n : Fin 256, n.val ≠ 0 → Lib.bitLen n.val = n.val.log2 + 1 := by decide +kernel
set_option maxRecDepth 100000 in
theorem len8_int_any (x : Int) (w : World) (h0 : 0 ≤ x) (h1 : x ≤ 255) : Calls Tryz.prog 152 #[.int .u8 x] w fun e w' => e = .returned (.int .i64 (Lib.bitLen x.toNat)) ∧ w = w' := by
  rw [← Lib.len8_int x h0 h1]
  go_enter Tryz.func152, Tryz.ntmps152
  go_wp2
  go_ret
  exact ⟨congrArg (fun v => Ending.returned (.int .i64 v)) (by simp only [wrap64]), rfl⟩
theorem len8_any (r : UInt8) (w : World) (h : r.toNat ≠ 0) : Calls Tryz.prog 152 #[.int .u8 (r.toNat : Int)] w fun e w' => e = .returned (.int .i64 ((r.toNat.log2 + 1 : Nat) : Int)) ∧ w = w' := by
  have hr := r.toNat_lt
  have e := bitLen_log2 ⟨r.toNat, hr⟩ h
  have C := len8_int_any (r.toNat : Int) w (by omega) (by omega)
  simp only [Int.toNat_natCast] at C e
  rw [← e]
  exact C
theorem lz8_any (r : UInt8) (w : World) (h : r.toNat ≠ 0) : Calls Tryz.prog 151 #[.int .u8 (r.toNat : Int)] w fun e w' => e = .returned (.int .i64 (Bit.lz r.toNat : Nat)) ∧ w = w' := by
  have h8 : r.toNat.log2 < 8 := (Nat.log2_lt h).2 r.toNat_lt
  have C := fun w => len8_any r w h
  have HL := hide (show ((Bit.lz r.toNat : Nat) : Int) = 7 - (r.toNat.log2 : Int) by unfold Bit.lz; omega)
  generalize Bit.lz r.toNat = z at *
  generalize r.toNat.log2 = L at *
  go_enter Tryz.func151, Tryz.ntmps151
  go_wp2_with (go_at_call 152; refine (C _).mono ?_; rintro e w2 ⟨rfl, rfl⟩)
  go_ret
  refine ⟨?_, rfl⟩
  rw [HL.out]
  exact congrArg (fun v => Ending.returned (.int .i64 v)) (by omega)

set_option maxHeartbeats 1000000 in
theorem zerosFrom_any {w : World} {g : Nat} {A : Option Addr} {c : Nat} {l : List UInt8} (q : Nat) (h0 : w.cell? ⟨g, 0, none⟩ = some (.slice A l.length c)) (h1 : w.cell? ⟨g, 1, none⟩ = some (.int .i64 ((8 * l.length : Nat) : Int))) (hg : g < w.heap.size) (hb : Bytes w w.heap.size A l.length l)
    (hq : q ≤ 8 * l.length) (hl : l.length ≤ 1000000000) :
    Calls Tryz.prog 149 #[.pointer (some ⟨g, 0, none⟩), .int .i64 q] w fun e w' => e = .returned (.int .i64 (Bit.zeros (8 * l.length - q) (fun i => Bit.at_ l (q + i)) : Nat)) ∧ Qt w w' := by
  go_enter Tryz.func149, Tryz.ntmps149
  go_wp2
  go_loopw [5, 6, 7] (fun m _ _ wr => ∃ k : Nat, q + k ≤ 8 * l.length ∧ m = .int .i64 (k : Int) ∧ (∀ i, i < k → Bit.at_ l (q + i) = false) ∧ Qt w wr) (fun m _ _ _ => 8 * l.length - (intOf m).toNat)
  case atStart => exact ⟨0, by omega, rfl, fun i hi => by omega, Qt.refl _⟩
  case round =>
    obtain ⟨k, hk, rfl, hz, hE⟩ := hrel
    have d0 := (hE.ext.cell hg).trans h0
    have d1 := (hE.ext.cell hg).trans h1
    by_cases hlt : q + k < 8 * l.length
    · obtain ⟨hll, hb'⟩ := hb
      rcases hb' with h | ⟨b, off, rfl, hB, hcells⟩
      · omega
      have hc := (hE.ext.cell hB).trans (hcells ((q + k) / 8) (by omega))
      have hup := shl_byte (l.getD ((q + k) / 8) 0) ((q + k) % 8)
      have HU1 := hide (Bit.up_bit (l.getD ((q + k) / 8) 0) ((q + k) % 8))
      have HU2 := hide (Bit.up_bit_low (l.getD ((q + k) / 8) 0) ((q + k) % 8))
      have HC := hide (show ∀ i, (q + k) % 8 + i < 8 → Bit.at_ l (q + (k + i)) = (l.getD ((q + k) / 8) 0).toNat.testBit (7 - ((q + k) % 8 + i)) from fun i hi => by
        unfold Bit.at_
        rw [show (q + (k + i)) / 8 = (q + k) / 8 by omega, show (q + (k + i)) % 8 = (q + k) % 8 + i by omega])
      generalize Bit.up (l.getD ((q + k) / 8) 0) ((q + k) % 8) = r at *
      generalize l.getD ((q + k) / 8) 0 = cc at *
      clear hcells
      have hlt' : (q : Int) + k < 8 * (l.length : Int) := by omega
      have hi8 : ((q : Int) + k) / 8 < (l.length : Int) := by omega
      by_cases hr0 : r.toNat = 0
      · have ht : (((r.toNat : Int)) != 0) = false := by simp [hr0]
        have hall : ∀ i, i < 8 - (q + k) % 8 → Bit.at_ l (q + (k + i)) = false := fun i hi => by
          rw [HC.out i (by omega), ← HU1.out i (by omega) (by omega), hr0]
          simp
        have HA := hide hall
        have HZ := hide hz
        clear hall hz hr0
        go_wp2
        go_roundw
        case rel =>
          refine ⟨k + (8 - (q + k) % 8), by omega, ?_, fun i hi => ?_, hE⟩
          · rw [show ((k : Int) + (8 - ((q : Int) + k) % 8)) = ((k + (8 - (q + k) % 8) : Nat) : Int) by omega]
          · by_cases hik : i < k
            · exact HZ.out i hik
            · have := HA.out (i - k) (by omega)
              rwa [show k + (i - k) = i by omega] at this
        case measure => simp [intOf]; omega
      · have ht : (((r.toNat : Int)) != 0) = true := by simp; omega
        obtain ⟨z8, zf, zt⟩ := Bit.lz_facts r hr0
        have hz8 : (q + k) % 8 + Bit.lz r.toNat < 8 := by
          rcases Nat.lt_or_ge ((q + k) % 8 + Bit.lz r.toNat) 8 with h | h
          · exact h
          · rw [HU2.out _ z8 h] at zt; cases zt
        have HR := hide (Bit.zeros_eq (n := 8 * l.length - q) (z := k + Bit.lz r.toNat) (f := fun i => Bit.at_ l (q + i)) (by omega) (fun i hi => by
          by_cases hik : i < k
          · exact hz i hik
          · have h1 := HC.out (i - k) (by omega)
            rw [show k + (i - k) = i by omega] at h1
            show Bit.at_ l (q + i) = false
            rw [h1, ← HU1.out (i - k) (by omega) (by omega)]
            exact zf (i - k) (by omega)) (fun _ => by
          show Bit.at_ l (q + (k + Bit.lz r.toNat)) = true
          rw [HC.out _ hz8, ← HU1.out _ z8 hz8]
          exact zt))
        have hlz : Bit.lz r.toNat ≤ 8 := by omega
        have C := fun w => lz8_any r w hr0
        have HZ := hide hz
        clear zf zt hz
        generalize Bit.lz r.toNat = z at *
        go_wp2_with (go_at_call 151; refine (C _).mono ?_; rintro e w2 ⟨rfl, rfl⟩)
        go_ret
        refine ⟨?_, hE⟩
        rw [HR.out]
        exact congrArg (fun v => Ending.returned (.int .i64 v)) (by omega)
    · have HR := hide (Bit.zeros_eq (n := 8 * l.length - q) (z := k) (f := fun i => Bit.at_ l (q + i)) (by omega) hz (fun h => by omega))
      have hge : ¬ ((q : Int) + k < 8 * (l.length : Int)) := by omega
      clear hz
      go_wp2
      go_ret
      refine ⟨?_, hE⟩
      rw [HR.out]
      exact congrArg (fun v => Ending.returned (.int .i64 v)) (by omega)
end Go.Proofs.YtcphapdjimeoaaaGreat

namespace Go.Proofs.YtcphapdjimeoaaaGreat
open Go.RowKit

namespace Bit
def rest (l : List UInt8) (q : Nat) : Nat → Bool := fun i => at_ l (q + i)
def getErr (left : Nat) (n : Int) : Int := if 0 ≤ n ∧ n ≤ 64 then (if n ≤ left then 0 else 1) else 13
def getNum (l : List UInt8) (q : Nat) (n : Int) : Nat := if getErr (8 * l.length - q) n = 0 then val (rest l q) n.toNat else 0
def getTo (left q : Nat) (n : Int) : Nat := if getErr left n = 0 then q + n.toNat else q
def skipErr (left : Nat) (n : Int) : Int := if 0 ≤ n then (if n ≤ left then 0 else 1) else 13
def skipTo (left q : Nat) (n : Int) : Nat := if skipErr left n = 0 then q + n.toNat else q
def peekThere (left : Nat) (n : Int) : Nat := if 0 ≤ n ∧ n ≤ 64 then min n.toNat left else 0
def peekNum (l : List UInt8) (q : Nat) (n : Int) : Nat := if 0 ≤ n ∧ n ≤ 64 then val (rest l q) (min n.toNat (8 * l.length - q)) * 2 ^ (n.toNat - min n.toNat (8 * l.length - q)) else 0
def zs (l : List UInt8) (q : Nat) : Nat := zeros (8 * l.length - q) (rest l q)
def unErr (l : List UInt8) (q : Nat) : Int := if zs l q = 8 * l.length - q then 1 else 0
def unNum (l : List UInt8) (q : Nat) : Nat := if zs l q = 8 * l.length - q then 0 else zs l q
def unTo (l : List UInt8) (q : Nat) : Nat := if zs l q = 8 * l.length - q then q else q + zs l q + 1
def padErr (l : List UInt8) (q : Nat) : Int := if 8 * l.length - q < 8 ∧ zs l q = 8 * l.length - q then 0 else 2
end Bit

/-- Block g is a reader of the bytes l, of which q bits are taken. -/
def Rdr (w : World) (base g : Nat) (l : List UInt8) (q : Nat) : Prop :=
  ∃ A c, Whole w g 194 #[.slice A l.length c, .int .i64 ((8 * l.length : Nat) : Int), .int .i64 (q : Int)] ∧ Bytes w g A l.length l ∧ q ≤ 8 * l.length ∧ l.length ≤ 1000000 ∧ base ≤ g
theorem Rdr.lt {w : World} {base g q : Nat} {l : List UInt8} (h : Rdr w base g l q) : g < w.heap.size := by obtain ⟨A, c, hW, _⟩ := h; exact hW.lt
theorem Rdr.le {w : World} {base g q : Nat} {l : List UInt8} (h : Rdr w base g l q) : base ≤ g := by obtain ⟨A, c, _, _, _, _, h⟩ := h; exact h
theorem Rdr.below {w w' : World} {base g q B : Nat} {l : List UInt8} (h : Rdr w base g l q) (hE : Below B w w') (hg : g < B) : Rdr w' base g l q := by
  obtain ⟨A, c, hW, hb, r⟩ := h
  exact ⟨A, c, hW.below hE hg, hb.below hE (by omega), r⟩
theorem Rdr.ext {w w' : World} {base g q : Nat} {l : List UInt8} (h : Rdr w base g l q) (hE : Ext w w') : Rdr w' base g l q := h.below hE h.lt
theorem ret_nverr {k : IntKind} {a a' b b' : Int} (h : a = a') (h' : b = b') : Ending.returned (.tuple #[.int k a, .int .i64 b]) = .returned (.tuple #[.int k a', .int .i64 b']) := by rw [h, h']

theorem left_any {w : World} {base g q : Nat} {l : List UInt8} (h : Rdr w base g l q) :
    Calls Tryz.prog 118 #[.pointer (some ⟨g, 0, none⟩)] w fun e w' => e = .returned (.int .i64 ((8 * l.length - q : Nat) : Int)) ∧ Qt w w' := by
  obtain ⟨A, c, hW, hb, hq, hl, _⟩ := h
  have c1 : w.cell? ⟨g, 1, none⟩ = some (.int .i64 ((8 * l.length : Nat) : Int)) := hW.at 1 rfl
  have c2 : w.cell? ⟨g, 2, none⟩ = some (.int .i64 (q : Int)) := hW.at 2 rfl
  go_enter Tryz.func118, Tryz.ntmps118
  go_wp2
  go_quiet (fail)
  go_wp2
  go_ret
  exact ⟨ret_i64 (by omega), ⟨_, rfl⟩⟩

/-- What a reader's block is known to hold, in a later world. -/
theorem Rdr.number {w : World} {base g q : Nat} {l : List UInt8} (h : Rdr w base g l q) (k : Nat) (hk : k ≤ 64) (hs : k ≤ 8 * l.length - q) (m : Nat) :
    Calls Tryz.prog 148 #[.pointer (some ⟨g, 0, none⟩), .int .i64 q, .int .i64 k] (w.drewN m) fun e w' => e = .returned (.int .u64 (Bit.val (Bit.rest l q) k : Nat)) ∧ ∃ n, w' = w.drewN n := by
  obtain ⟨A, c, hW, hb, hq, hl, hbase⟩ := h
  have c0 : w.cell? ⟨g, 0, none⟩ = some (.slice A l.length c) := hW.at 0 rfl
  have hgl := hW.lt
  exact Calls.quiet_of (number_any (w := w.drewN m) q k (by simpa using c0) (by simpa using hgl) (hb.below (B := g) (C := w.heap.size) ((Ext.refl w).drewN m) (Nat.le_of_lt hgl) |>.mono (by simpa using Nat.le_of_lt hgl)) hk (by omega) (by omega))
theorem Rdr.zeros {w : World} {base g q : Nat} {l : List UInt8} (h : Rdr w base g l q) (m : Nat) :
    Calls Tryz.prog 149 #[.pointer (some ⟨g, 0, none⟩), .int .i64 q] (w.drewN m) fun e w' => e = .returned (.int .i64 (Bit.zs l q : Nat)) ∧ ∃ n, w' = w.drewN n := by
  obtain ⟨A, c, hW, hb, hq, hl, hbase⟩ := h
  have c0 : w.cell? ⟨g, 0, none⟩ = some (.slice A l.length c) := hW.at 0 rfl
  have c1 : w.cell? ⟨g, 1, none⟩ = some (.int .i64 ((8 * l.length : Nat) : Int)) := hW.at 1 rfl
  have hgl := hW.lt
  exact Calls.quiet_of (zerosFrom_any (w := w.drewN m) q (by simpa using c0) (by simpa using c1) (by simpa using hgl) (hb.below (B := g) (C := w.heap.size) ((Ext.refl w).drewN m) (Nat.le_of_lt hgl) |>.mono (by simpa using Nat.le_of_lt hgl)) hq (by omega))
theorem Rdr.leftQ {w : World} {base g q : Nat} {l : List UInt8} (h : Rdr w base g l q) (m : Nat) :
    Calls Tryz.prog 118 #[.pointer (some ⟨g, 0, none⟩)] (w.drewN m) fun e w' => e = .returned (.int .i64 ((8 * l.length - q : Nat) : Int)) ∧ ∃ n, w' = w.drewN n :=
  Calls.quiet_of (left_any (h.ext ((Ext.refl w).drewN m)))
theorem Rdr.cells {w : World} {base g q : Nat} {l : List UInt8} (h : Rdr w base g l q) : w.cell? ⟨g, 2, none⟩ = some (.int .i64 (q : Int)) ∧ w.frozen? ⟨g, 2, none⟩ = false ∧ q ≤ 8 * l.length ∧ l.length ≤ 1000000 := by
  obtain ⟨A, c, hW, hb, hq, hl, hbase⟩ := h
  exact ⟨hW.at 2 rfl, hW.frozen 2, hq, hl⟩
/-- The place is moved on. -/
theorem Rdr.moved {w : World} {base g q q' : Nat} {l : List UInt8} (h : Rdr w base g l q) (hq' : q' ≤ 8 * l.length) {x : Int} (hx : x = (q' : Int)) : Rdr (w.setCell ⟨g, 2, none⟩ (.int .i64 x)) base g l q' ∧ Mod w (w.setCell ⟨g, 2, none⟩ (.int .i64 x)) g none := by
  obtain ⟨A, c, hW, hb, hq, hl, hbase⟩ := h
  subst hx
  exact ⟨⟨A, c, hW.set 2 _, hb.below (Below.setCell (p := ⟨g, 2, none⟩) (Below.refl g w) (Nat.le_refl g) _) (Nat.le_refl g), hq', hl, hbase⟩, Mod.ofRow (grown_setCell w g 2 _)⟩

set_option maxHeartbeats 1000000 in
theorem get_any {w : World} {base g q : Nat} {l : List UInt8} (h : Rdr w base g l q) (n : Int) :
    Calls Tryz.prog 137 #[.pointer (some ⟨g, 0, none⟩), .int .i64 n] w fun e w' =>
      e = .returned (.tuple #[.int .u64 ((Bit.getNum l q n : Nat) : Int), .int .i64 (Bit.getErr (8 * l.length - q) n)]) ∧ Rdr w' base g l (Bit.getTo (8 * l.length - q) q n) ∧ Mod w w' g none := by
  by_cases hbad : 0 ≤ n ∧ n ≤ 64
  · obtain ⟨h0, h1⟩ := hbad
    obtain ⟨k, rfl⟩ := Int.eq_ofNat_of_zero_le h0
    have hk : k ≤ 64 := by omega
    by_cases hs : k ≤ 8 * l.length - q
    · have HE := hide (show Bit.getErr (8 * l.length - q) (k : Int) = 0 by unfold Bit.getErr; rw [if_pos ⟨h0, h1⟩, if_pos (by omega)])
      have HN := hide (show Bit.getNum l q (k : Int) = Bit.val (Bit.rest l q) k by unfold Bit.getNum; rw [HE.out]; simp)
      have HT := hide (show Bit.getTo (8 * l.length - q) q (k : Int) = q + k by unfold Bit.getTo; rw [HE.out]; simp)
      go_enter Tryz.func137, Tryz.ntmps137
      go_wp2_with fail
      refine (left_any h).mono ?_
      rintro e w2 ⟨rfl, hQ2⟩
      have hR := h.ext hQ2.ext
      obtain ⟨c2, f2, hq, hl⟩ := hR.cells
      have CN := hR.number k hk hs
      have HR := hide hR
      generalize Bit.val (Bit.rest l q) k = X at *
      clear h hR
      go_wp2_with fail
      go_quiet (first | (go_at_call 148; exact CN _))
      go_wp2
      go_ret2
      have hM := (HR.out.ext ((Ext.refl w2).drewN nq)).moved (q' := q + k) (x := (q : Int) + k) (by omega) (by omega)
      refine ⟨ret_nverr (by rw [HN.out]) HE.out.symm, by rw [HT.out]; exact hM.1, ?_⟩
      exact (Mod.ofExt (hQ2.drewN nq).ext).trans hM.2 (.inl rfl)
    · have HE := hide (show Bit.getErr (8 * l.length - q) (k : Int) = 1 by unfold Bit.getErr; rw [if_pos ⟨h0, h1⟩, if_neg (by omega)])
      have HN := hide (show Bit.getNum l q (k : Int) = 0 by unfold Bit.getNum; rw [HE.out]; simp)
      have HT := hide (show Bit.getTo (8 * l.length - q) q (k : Int) = q by unfold Bit.getTo; rw [HE.out]; simp)
      have HR := hide h
      have hs' : ¬ ((k : Int) ≤ ((8 * l.length - q : Nat) : Int)) := by omega
      go_enter Tryz.func137, Tryz.ntmps137
      go_wp2_with fail
      refine (left_any h).mono ?_
      rintro e w2 ⟨rfl, hQ2⟩
      go_wp2
      go_ret2
      exact ⟨ret_nverr (by rw [HN.out]; rfl) HE.out.symm, by rw [HT.out]; exact HR.out.ext hQ2.ext, Mod.ofExt hQ2.ext⟩
  · have HE := hide (show Bit.getErr (8 * l.length - q) n = 13 by unfold Bit.getErr; rw [if_neg hbad])
    have HN := hide (show Bit.getNum l q n = 0 by unfold Bit.getNum; rw [HE.out]; simp)
    have HT := hide (show Bit.getTo (8 * l.length - q) q n = q by unfold Bit.getTo; rw [HE.out]; simp)
    have HR := hide h
    by_cases h0 : n < 0
    · clear hbad
      go_enter Tryz.func137, Tryz.ntmps137
      go_wp2
      go_ret2
      exact ⟨ret_nverr (by rw [HN.out]; rfl) HE.out.symm, by rw [HT.out]; exact HR.out, Mod.refl _ _ _⟩
    · have h1 : 64 < n := by omega
      clear hbad
      go_enter Tryz.func137, Tryz.ntmps137
      go_wp2
      go_ret2
      exact ⟨ret_nverr (by rw [HN.out]; rfl) HE.out.symm, by rw [HT.out]; exact HR.out, Mod.refl _ _ _⟩

end Go.Proofs.YtcphapdjimeoaaaGreat

namespace Go.Proofs.YtcphapdjimeoaaaGreat
open Go.RowKit

theorem Bit.val_mul_lt (f : Nat → Bool) {a b : Nat} (h : a + b ≤ 64) : Bit.val f a * 2 ^ b < 18446744073709551616 := by
  have h1 : Bit.val f a * 2 ^ b < 2 ^ a * 2 ^ b := Nat.mul_lt_mul_of_pos_right (Bit.val_lt f a) (Nat.two_pow_pos b)
  rw [← Nat.pow_add] at h1
  exact Nat.lt_of_lt_of_le h1 (show 2 ^ (a + b) ≤ 2 ^ 64 from Nat.pow_le_pow_right (by omega) h)
theorem wrap_shl (X b : Nat) (h : X * 2 ^ b < 18446744073709551616) : IntKind.u64.wrap ((X : Int) * 2 ^ b) = ((X * 2 ^ b : Nat) : Int) := by
  have e : (X : Int) * 2 ^ b = ((X * 2 ^ b : Nat) : Int) := by simp only [Int.natCast_mul, Int.natCast_pow]; rfl
  rw [e, IntKind.wrap_u64]
  omega

set_option maxHeartbeats 1000000 in
theorem runary_any {w : World} {base g q : Nat} {l : List UInt8} (h : Rdr w base g l q) :
    Calls Tryz.prog 138 #[.pointer (some ⟨g, 0, none⟩)] w fun e w' =>
      e = .returned (.tuple #[.int .i64 ((Bit.unNum l q : Nat) : Int), .int .i64 (Bit.unErr l q)]) ∧ Rdr w' base g l (Bit.unTo l q) ∧ Mod w w' g none := by
  obtain ⟨c2, f2, hq, hl⟩ := h.cells
  have CN := h.zeros
  have hz : Bit.zs l q ≤ 8 * l.length - q := Bit.zeros_le _ _
  by_cases he : Bit.zs l q = 8 * l.length - q
  · have HN := hide (show Bit.unNum l q = 0 by unfold Bit.unNum; rw [if_pos he])
    have HE := hide (show Bit.unErr l q = 1 by unfold Bit.unErr; rw [if_pos he])
    have HT := hide (show Bit.unTo l q = q by unfold Bit.unTo; rw [if_pos he])
    have HR := hide h
    rw [he] at CN
    have CL := fun m => (left_any (h.ext ((Ext.refl w).drewN m)))
    clear he hz h
    have ht : (((8 * l.length - q : Nat) : Int) == ((8 * l.length - q : Nat) : Int)) = true := by simp
    generalize 8 * l.length - q = L at *
    go_enter Tryz.func138, Tryz.ntmps138
    go_wp2_with fail
    go_quiet (first | (go_at_call 149; exact CN _))
    go_wp2_with fail
    refine (CL _).mono ?_
    rintro e w3 ⟨rfl, hQ3⟩
    have hQ : Qt w w3 := Qt.trans ⟨_, rfl⟩ hQ3
    go_wp2
    go_ret2
    exact ⟨ret_nverr (by rw [HN.out]; rfl) HE.out.symm, by rw [HT.out]; exact HR.out.ext hQ.ext, Mod.ofExt hQ.ext⟩
  · have HN := hide (show Bit.unNum l q = Bit.zs l q by unfold Bit.unNum; rw [if_neg he])
    have HE := hide (show Bit.unErr l q = 0 by unfold Bit.unErr; rw [if_neg he])
    have HT := hide (show Bit.unTo l q = q + Bit.zs l q + 1 by unfold Bit.unTo; rw [if_neg he])
    have HR := hide h
    have CL := fun m => (left_any (h.ext ((Ext.refl w).drewN m)))
    have ht : (((Bit.zs l q : Nat) : Int) == ((8 * l.length - q : Nat) : Int)) = false := by simp; omega
    have HS := hide (show q + Bit.zs l q + 1 ≤ 8 * l.length by omega)
    have hsm : Bit.zs l q ≤ 8000000 := by omega
    have hqm : q ≤ 8000000 := by omega
    clear he hz h
    generalize Bit.zs l q = Z at *
    generalize 8 * l.length - q = L at *
    go_enter Tryz.func138, Tryz.ntmps138
    go_wp2_with fail
    go_quiet (first | (go_at_call 149; exact CN _))
    go_wp2_with fail
    refine (CL _).mono ?_
    rintro e w3 ⟨rfl, hQ3⟩
    have hQ : Qt w w3 := Qt.trans ⟨_, rfl⟩ hQ3
    have hR3 := HR.out.ext hQ.ext
    obtain ⟨c3, f3, _, _⟩ := hR3.cells
    have HR3 := hide hR3
    clear hR3
    go_wp2
    go_ret2
    have hM := HR3.out.moved (q' := q + Z + 1) (x := (q : Int) + ((Z : Int) + 1)) HS.out (by omega)
    exact ⟨ret_nverr (by rw [HN.out]) HE.out.symm, by rw [HT.out]; exact hM.1, (Mod.ofExt hQ.ext).trans hM.2 (.inl rfl)⟩

set_option maxHeartbeats 1000000 in
theorem rowOf_any (A : Option Addr) (n c : Nat) (l : List UInt8) (w : World) (hc : n ≤ c) (hn : n ≤ 1000000) (hb : Bytes w w.heap.size A n l) :
    Calls Tryz.prog 136 #[.slice A n c] w fun e w' => ∃ A' c', e = .returned (.agg #[.slice A' l.length c', .int .i64 ((8 * l.length : Nat) : Int)]) ∧ Bytes w' w'.heap.size A' l.length l ∧ Ext w w' := by
  have hll := hb.1
  subst hll
  have hE0 := extNew w (.cells #[.slice none 0 0, .int .i64 0] 154)
  have hW0 := Whole.new w 154 #[.slice none 0 0, .int .i64 0]
  have hi1 : (Tryz.prog.info? 154).map (·.size) = some 2 := by kernel_rfl
  go_enter Tryz.func136, Tryz.ntmps136
  go_wp2_with (first
    | (go_at_call 90; refine (slicesClone_any A l.length c l _ hc (by omega) (hE0.bytes hb)).mono ?_; rintro e w2 ⟨v2, rfl, hown2, hE2⟩; obtain ⟨A2, c2, hv2, _, _, hb2⟩ := hown2.form; subst hv2; have hW2 := hW0.ext hE2; have hne : (Value.slice A2 l.length c2).ownBlock ≠ some w.heap.size := fun e => by have := (hown2.lt _ e).1; simp at this; omega)
    | (refine wpList_storeW rfl 154 (.tmp 2) (.tmp 8) rfl rfl rfl hW2 rfl hi1 (all_oneCell_toArray (by simp [Value.oneCell'])) ?_; intro w3 hW3 hG3 _))
  refine bodyPost_ret (results_cell_row rfl _ _ _ _ _ _ _ rfl hW3 Tryz.underlying154 rfl hi1) rfl ⟨A2, c2, ?_, ?_, ?_⟩
  · have e : (8 : Int) * (l.length : Int) = ((8 * l.length : Nat) : Int) := by omega
    rw [← e]
  · obtain ⟨A3, c3, hv, _, _, hb3⟩ := ((Mod.ofRow (ob := none) hG3).own hown2 hne (by simp [Classical.em])).form
    injection hv with e1 _ _
    rw [e1]; exact hb3
  · exact Below.grown (hE0.trans hE2) hG3 (hE0.trans hE2).le (fun k hk => by cases hk; exact Nat.le_refl _)
end Go.Proofs.YtcphapdjimeoaaaGreat

