/- The law BitsReads. -/
import Derived.Test.YtolahdofglmanaaBitAlive
import Derived.Test.YtolahdofglmanaaBitOps
import Derived.Test.YtolahdofglmanaaBitRefR2
import Derived.Test.YtolahdofglmanaaBitRefR3
namespace Go.Proofs.Ytolahdofglmanaa
open Go.RowKit

/-- A reader of the program and one of the document, of the same bytes. -/
def Pair (w : World) (base b2 g1 g2 : Nat) (l : List UInt8) (q1 q2 : Nat) : Prop := Rdr w base g1 l q1 ∧ RefR w b2 g2 l q2 ∧ g1 < b2 ∧ base ≤ b2
theorem Pair.first {w w' : World} {base b2 g1 g2 q1 q1' q2 : Nat} {l : List UInt8} (h : Pair w base b2 g1 g2 l q1 q2) (hR : Rdr w' base g1 l q1') (hM : Mod w w' g1 none) : Pair w' base b2 g1 g2 l q1' q2 ∧ Below base w w' := by
  obtain ⟨h1, h2, h3, h4⟩ := h
  have := h2.le
  exact ⟨⟨hR, h2.kept hM (by omega) h3, h3, h4⟩, hM.below (by have := h1.lt; have := h1.le; omega) h1.le (fun k hk => by cases hk)⟩
theorem Pair.second {w w' : World} {base b2 g1 g2 q1 q2 q2' : Nat} {l : List UInt8} (h : Pair w base b2 g1 g2 l q1 q2) (hR : RefR w' b2 g2 l q2') (hM : Mod w w' g2 none) : Pair w' base b2 g1 g2 l q1 q2' ∧ Below base w w' := by
  obtain ⟨h1, h2, h3, h4⟩ := h
  have hb : Below b2 w w' := hM.below (Nat.le_trans h2.le (Nat.le_of_lt h2.lt)) h2.le (fun k hk => by cases hk)
  exact ⟨⟨h1.below hb h3, hR, h3, h4⟩, Below.mono hb h4⟩
theorem Pair.quiet {w w' : World} {base b2 g1 g2 q1 q2 : Nat} {l : List UInt8} (h : Pair w base b2 g1 g2 l q1 q2) (hQ : Qt w w') : Pair w' base b2 g1 g2 l q1 q2 ∧ Below base w w' := by
  obtain ⟨h1, h2, h3, h4⟩ := h
  exact ⟨⟨h1.ext hQ.ext, h2.ext hQ.ext, h3, h4⟩, Below.mono hQ.ext (by have := h1.lt; have := h1.le; omega)⟩

set_option maxHeartbeats 4000000 in
set_option maxRecDepth 100000 in
theorem bitsReads_walk (A1 : Option Addr) (n1 c1 : Nat) (l : List UInt8) (A : Option Addr) (n c : Nat) (L : List OpV) (w : World) (hn1 : n1 ≤ c1) (_hc1 : c1 ≤ maxLen) (hb1 : Bytes w w.heap.size A1 n1 l) (_hn : n ≤ c) (_hc : c ≤ maxLen) (hb : OpsAt w w.heap.size A n L) :
    Calls Try.prog 4 #[.slice A1 n1 c1, .slice A n c] w fun e w' => e = .returned (.bool true) ∧ Below w.heap.size w w' := by
  have C0 := alive2_any w
  by_cases hbig1 : 400 < n1
  · go_enter Try.func4, Try.ntmps4
    go_wp2_with fail
    refine C0.mono ?_
    rintro e w1 ⟨rfl, hE1⟩
    go_wp2
    go_ret
    exact ⟨rfl, hE1⟩
  by_cases hbig : 60 < n
  · go_enter Try.func4, Try.ntmps4
    go_wp2_with fail
    refine C0.mono ?_
    rintro e w1 ⟨rfl, hE1⟩
    go_wp2
    go_ret
    exact ⟨rfl, hE1⟩
  · obtain ⟨hLn, hcells⟩ := hb
    go_enter Try.func4, Try.ntmps4
    go_wp2_with fail
    refine C0.mono ?_
    rintro e w1 ⟨rfl, hE1⟩
    go_wp2_with fail
    refine (newReader_any _ _ _ l _ hn1 (by omega) (hE1.bytes hb1)).mono ?_
    rintro e w2 ⟨g1, rfl, hR1, hE2⟩
    have hE12 := hE1.trans hE2
    go_wp2_with fail
    refine (refReader_any _ _ _ l _ (by omega) (hE12.bytes hb1)).mono ?_
    rintro e w3 ⟨g2, rfl, hR2, hE3⟩
    have hP0 : Pair w3 w.heap.size w2.heap.size g1 g2 l 0 0 := by
      obtain ⟨A3, c3, a1, a2, a3, a4, a5⟩ := hR1.ext hE3
      exact ⟨⟨A3, c3, a1, a2, a3, a4, Nat.le_trans hE1.le a5⟩, hR2, hR1.lt, hE12.le⟩
    have hE0 : Below w.heap.size w w3 := hE12.trans hE3
    generalize w2.heap.size = b2 at *
    clear hR1 hR2 hE1 hE2 hE3 hE12
    go_wp2
    go_loopw [7, 8, 9, 10, 11, 12, 13] (fun i _ _ _ _ _ _ wr => ∃ (k q : Nat), i = .int .i64 (k : Int) ∧ k ≤ n ∧ Pair wr w.heap.size b2 g1 g2 l q q ∧ Below w.heap.size w wr) (fun i _ _ _ _ _ _ _ => n - (intOf i).toNat)
    case atStart => exact ⟨0, 0, rfl, by omega, hP0, hE0⟩
    case round =>
      obtain ⟨k, q, rfl, hk, hP, hE⟩ := hrel
      clear hP0 hE0
      by_cases hlt : k < n
      · rcases hcells with h0 | ⟨b, off, rfl, hbl, hcells⟩
        · omega
        obtain ⟨hop, hok⟩ := hcells k hlt
        have hop' := hop.below hE hbl
        obtain ⟨c0, _, c2⟩ := hop'
        obtain ⟨ok1, ok2, ok3, ok4⟩ := hok
        clear hcells
        generalize L.getD k default = op at *
        rcases (by omega : op.k % 5 = 0 ∨ op.k % 5 = 1 ∨ op.k % 5 = 2 ∨ op.k % 5 = 3 ∨ op.k % 5 = 4) with hk5 | hk5 | hk5 | hk5 | hk5
        · have hk5' : (op.k : Int) % 5 = 0 := by omega
          clear hk5
          go_wp2_with fail
          refine (get_any hP.1 op.n).mono ?_
          rintro e w3' ⟨rfl, hR, hM⟩
          obtain ⟨hP3, hE3⟩ := hP.first hR hM
          have hE3' : Below w.heap.size w w3' := hE.trans hE3
          obtain ⟨c0, _, c2⟩ := hop.below hE3' hbl
          clear hP hE hE3
          go_wp2_with fail
          refine (refGet_any hP3.2.1 op.n).mono ?_
          rintro e w4 ⟨rfl, hR, hM⟩
          obtain ⟨hP4, hE4⟩ := hP3.second hR hM
          have hE4' : Below w.heap.size w w4 := hE3'.trans hE4
          clear hP3 hE3' hE4
          have hx : (((Bit.getNum l q op.n : Nat) : Int) != ((Bit.getNum l q op.n : Nat) : Int)) = false := by simp
          have he : (Bit.getErr (8 * l.length - q) op.n != Bit.getErr (8 * l.length - q) op.n) = false := by simp
          generalize Bit.getNum l q op.n = X at *
          generalize Bit.getErr (8 * l.length - q) op.n = E at *
          generalize Bit.getTo (8 * l.length - q) q op.n = q2 at *
          have HP := hide hP4
          have hL1 := left_any hP4.1
          go_wp2_with fail
          refine hL1.mono ?_
          rintro e w5 ⟨rfl, hQ5⟩
          obtain ⟨hP5, hE5⟩ := HP.out.quiet hQ5
          have hE5' : Below w.heap.size w w5 := hE4'.trans hE5
          clear hL1 HP hP4 hE5 hE4'
          go_wp2_with fail
          refine (refLeft_any hP5.2.1).mono ?_
          rintro e w6 ⟨rfl, hQ6⟩
          obtain ⟨hP6, hE6⟩ := hP5.quiet hQ6
          have hE6' : Below w.heap.size w w6 := hE5'.trans hE6
          have hLL : (((8 * l.length - q2 : Nat) : Int) != ((8 * l.length - q2 : Nat) : Int)) = false := by simp
          have HP6 := hide hP6
          clear hP5 hE5' hE6 hP6
          generalize 8 * l.length - q2 = LQ at *
          go_wp2
          go_roundw
          case rel => exact ⟨k + 1, _, by go_num, by omega, HP6.out, hE6'⟩
          case measure => simp [intOf]; omega
        · have hk5' : (op.k : Int) % 5 = 1 := by omega
          clear hk5
          go_wp2_with fail
          refine (runary_any hP.1).mono ?_
          rintro e w3' ⟨rfl, hR, hM⟩
          obtain ⟨hP3, hE3⟩ := hP.first hR hM
          have hE3' : Below w.heap.size w w3' := hE.trans hE3
          obtain ⟨c0, _, c2⟩ := hop.below hE3' hbl
          clear hP hE hE3
          go_wp2_with fail
          refine (refUnaryR_any hP3.2.1).mono ?_
          rintro e w4 ⟨rfl, hR, hM⟩
          obtain ⟨hP4, hE4⟩ := hP3.second hR hM
          have hE4' : Below w.heap.size w w4 := hE3'.trans hE4
          clear hP3 hE3' hE4
          have hx : (((Bit.unNum l q : Nat) : Int) != ((Bit.unNum l q : Nat) : Int)) = false := by simp
          have he : (Bit.unErr l q != Bit.unErr l q) = false := by simp
          generalize Bit.unNum l q = X at *
          generalize Bit.unErr l q = E at *
          generalize Bit.unTo l q = q2 at *
          have HP := hide hP4
          have hL1 := left_any hP4.1
          go_wp2_with fail
          refine hL1.mono ?_
          rintro e w5 ⟨rfl, hQ5⟩
          obtain ⟨hP5, hE5⟩ := HP.out.quiet hQ5
          have hE5' : Below w.heap.size w w5 := hE4'.trans hE5
          clear hL1 HP hP4 hE5 hE4'
          go_wp2_with fail
          refine (refLeft_any hP5.2.1).mono ?_
          rintro e w6 ⟨rfl, hQ6⟩
          obtain ⟨hP6, hE6⟩ := hP5.quiet hQ6
          have hE6' : Below w.heap.size w w6 := hE5'.trans hE6
          have hLL : (((8 * l.length - q2 : Nat) : Int) != ((8 * l.length - q2 : Nat) : Int)) = false := by simp
          have HP6 := hide hP6
          clear hP5 hE5' hE6 hP6
          generalize 8 * l.length - q2 = LQ at *
          go_wp2
          go_roundw
          case rel => exact ⟨k + 1, _, by go_num, by omega, HP6.out, hE6'⟩
          case measure => simp [intOf]; omega
        · have hk5' : (op.k : Int) % 5 = 2 := by omega
          clear hk5
          go_wp2_with fail
          refine (skip_any hP.1 op.n).mono ?_
          rintro e w3' ⟨rfl, hR, hM⟩
          obtain ⟨hP3, hE3⟩ := hP.first hR hM
          have hE3' : Below w.heap.size w w3' := hE.trans hE3
          obtain ⟨c0, _, c2⟩ := hop.below hE3' hbl
          clear hP hE hE3
          go_wp2_with fail
          refine (refSkip_any hP3.2.1 op.n).mono ?_
          rintro e w4 ⟨rfl, hR, hM⟩
          obtain ⟨hP4, hE4⟩ := hP3.second hR hM
          have hE4' : Below w.heap.size w w4 := hE3'.trans hE4
          clear hP3 hE3' hE4
          have he : (Bit.skipErr (8 * l.length - q) op.n != Bit.skipErr (8 * l.length - q) op.n) = false := by simp
          generalize Bit.skipErr (8 * l.length - q) op.n = E at *
          generalize Bit.skipTo (8 * l.length - q) q op.n = q2 at *
          have HP := hide hP4
          have hL1 := left_any hP4.1
          go_wp2_with fail
          refine hL1.mono ?_
          rintro e w5 ⟨rfl, hQ5⟩
          obtain ⟨hP5, hE5⟩ := HP.out.quiet hQ5
          have hE5' : Below w.heap.size w w5 := hE4'.trans hE5
          clear hL1 HP hP4 hE5 hE4'
          go_wp2_with fail
          refine (refLeft_any hP5.2.1).mono ?_
          rintro e w6 ⟨rfl, hQ6⟩
          obtain ⟨hP6, hE6⟩ := hP5.quiet hQ6
          have hE6' : Below w.heap.size w w6 := hE5'.trans hE6
          have hLL : (((8 * l.length - q2 : Nat) : Int) != ((8 * l.length - q2 : Nat) : Int)) = false := by simp
          have HP6 := hide hP6
          clear hP5 hE5' hE6 hP6
          generalize 8 * l.length - q2 = LQ at *
          go_wp2
          go_roundw
          case rel => exact ⟨k + 1, _, by go_num, by omega, HP6.out, hE6'⟩
          case measure => simp [intOf]; omega
        · have hk5' : (op.k : Int) % 5 = 3 := by omega
          clear hk5
          go_wp2_with fail
          refine (peek_any hP.1 op.n).mono ?_
          rintro e w3' ⟨rfl, hQ⟩
          obtain ⟨hP3, hE3⟩ := hP.quiet hQ
          have hE3' : Below w.heap.size w w3' := hE.trans hE3
          obtain ⟨c0, _, c2⟩ := hop.below hE3' hbl
          clear hP hE hE3
          go_wp2_with fail
          refine (refPeek_any hP3.2.1 op.n).mono ?_
          rintro e w4 ⟨rfl, hQ⟩
          obtain ⟨hP4, hE4⟩ := hP3.quiet hQ
          have hE4' : Below w.heap.size w w4 := hE3'.trans hE4
          clear hP3 hE3' hE4
          have hx : (((Bit.peekNum l q op.n : Nat) : Int) != ((Bit.peekNum l q op.n : Nat) : Int)) = false := by simp
          have ht : (((Bit.peekThere (8 * l.length - q) op.n : Nat) : Int) != ((Bit.peekThere (8 * l.length - q) op.n : Nat) : Int)) = false := by simp
          generalize Bit.peekNum l q op.n = X at *
          generalize Bit.peekThere (8 * l.length - q) op.n = T at *
          have HP := hide hP4
          have hL1 := left_any hP4.1
          go_wp2_with fail
          refine hL1.mono ?_
          rintro e w5 ⟨rfl, hQ5⟩
          obtain ⟨hP5, hE5⟩ := HP.out.quiet hQ5
          have hE5' : Below w.heap.size w w5 := hE4'.trans hE5
          clear hL1 HP hP4 hE5 hE4'
          go_wp2_with fail
          refine (refLeft_any hP5.2.1).mono ?_
          rintro e w6 ⟨rfl, hQ6⟩
          obtain ⟨hP6, hE6⟩ := hP5.quiet hQ6
          have hE6' : Below w.heap.size w w6 := hE5'.trans hE6
          have hLL : (((8 * l.length - q : Nat) : Int) != ((8 * l.length - q : Nat) : Int)) = false := by simp
          have HP6 := hide hP6
          clear hP5 hE5' hE6 hP6
          generalize 8 * l.length - q = LQ at *
          go_wp2
          go_roundw
          case rel => exact ⟨k + 1, _, by go_num, by omega, HP6.out, hE6'⟩
          case measure => simp [intOf]; omega
        · have hk5' : (op.k : Int) % 5 = 4 := by omega
          clear hk5
          go_wp2_with fail
          refine (pad_any hP.1).mono ?_
          rintro e w3' ⟨rfl, hQ⟩
          obtain ⟨hP3, hE3⟩ := hP.quiet hQ
          have hE3' : Below w.heap.size w w3' := hE.trans hE3
          obtain ⟨c0, _, c2⟩ := hop.below hE3' hbl
          clear hP hE hE3
          go_wp2_with fail
          refine (refPad_any hP3.2.1).mono ?_
          rintro e w4 ⟨rfl, hQ⟩
          obtain ⟨hP4, hE4⟩ := hP3.quiet hQ
          have hE4' : Below w.heap.size w w4 := hE3'.trans hE4
          clear hP3 hE3' hE4
          have he : (Bit.padErr l q != Bit.padErr l q) = false := by simp
          generalize Bit.padErr l q = E at *
          have HP := hide hP4
          have hL1 := left_any hP4.1
          go_wp2_with fail
          refine hL1.mono ?_
          rintro e w5 ⟨rfl, hQ5⟩
          obtain ⟨hP5, hE5⟩ := HP.out.quiet hQ5
          have hE5' : Below w.heap.size w w5 := hE4'.trans hE5
          clear hL1 HP hP4 hE5 hE4'
          go_wp2_with fail
          refine (refLeft_any hP5.2.1).mono ?_
          rintro e w6 ⟨rfl, hQ6⟩
          obtain ⟨hP6, hE6⟩ := hP5.quiet hQ6
          have hE6' : Below w.heap.size w w6 := hE5'.trans hE6
          have hLL : (((8 * l.length - q : Nat) : Int) != ((8 * l.length - q : Nat) : Int)) = false := by simp
          have HP6 := hide hP6
          clear hP5 hE5' hE6 hP6
          generalize 8 * l.length - q = LQ at *
          go_wp2
          go_roundw
          case rel => exact ⟨k + 1, _, by go_num, by omega, HP6.out, hE6'⟩
          case measure => simp [intOf]; omega
      · obtain rfl : k = n := by omega
        clear hcells
        go_wp2
        go_ret
        exact ⟨rfl, hE⟩
end Go.Proofs.Ytolahdofglmanaa
