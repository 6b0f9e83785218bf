/- What the laws of chapter 8 ask of Read; the law CanonReads. -/
import Derived.Test.YtabhemmmefefgaaCanLaw
import Derived.Test.YtabhemmmefefgaaCanRefRd
import Derived.Test.YtabhemmmefefgaaBitPair
import Derived.Test.YtabhemmmefefgaaStrs
namespace Go.Proofs.Ytabhemmmefefgaa
open Go.RowKit Len Can

/-- Behind the program's Read: behind an error the reader may stand anywhere. -/
def Reads (w : World) (base g : Nat) (b : List UInt8) (r : List UInt8 × Int × Nat) (e : Ending) (w' : World) : Prop :=
  ∃ v q', e = .returned (.tuple #[v, .int .i64 r.2.1]) ∧ OwnB w' w.heap.size v r.1 ∧ Rdr w' base g b q' ∧ (r.2.1 = 0 → q' = r.2.2) ∧ Mod w w' g none
/-- From world w on, the program's Read reads what the document's reads. -/
def ReadC (w : World) : Prop := ∀ (n : Int) (W : World) (base g q : Nat) (b : List UInt8), Below w.heap.size w W → -9223372036854775808 ≤ n → n ≤ 9223372036854775807 → Rdr W base g b q →
  Calls Try.prog 25 #[.pointer (some ⟨g, 0, none⟩), .int .i64 n] W (Reads W base g b (readE b n q))

set_option maxHeartbeats 1000000 in
set_option maxRecDepth 100000 in
theorem canonReads_walk0 (x : Int) (A : Option Addr) (n c : Nat) (l : List UInt8) (w : World) (hL : CodesC w) (hR : ReadC w) (hn : n ≤ c) (_hc : c ≤ maxLen) (hb : Bytes w w.heap.size A n l) (hx0 : -9223372036854775808 ≤ x) (hx1 : x ≤ 9223372036854775807) :
    Calls Try.prog 8 #[.slice A n c, .int .i64 x] w fun e w' => e = .returned (.bool true) ∧ Below w.heap.size w w' := by
  have C0 := alive8_any hL (Ext.refl w)
  by_cases hbig : 400 < n
  · have hbI : (400 : Int) < (n : Int) := by omega
    go_enter Try.func8, Try.ntmps8
    go_wp2_with fail
    refine C0.mono ?_
    rintro e w1 ⟨rfl, hE1⟩
    go_wp2
    go_ret
    exact ⟨rfl, hE1⟩
  · have hbI : ¬ (400 : Int) < (n : Int) := by omega
    have HB := hide hb
    have CR := fun (W : World) (g : Nat) (hX : Below w.heap.size w W) (h : Rdr W w.heap.size g l 0) => hR x W w.heap.size g 0 l hX hx0 hx1 h
    have CD := fun (W : World) (base g : Nat) (h : RefR W base g l 0) => refRead_any h x
    clear hb hR
    go_enter Try.func8, Try.ntmps8
    go_wp2_with fail
    refine C0.mono ?_
    rintro e w1 ⟨rfl, hE1⟩
    clear C0
    go_wp2_with fail
    refine (newReader_any _ _ _ l _ hn (by omega) (hE1.bytes HB.out)).mono ?_
    rintro e w2 ⟨g1, rfl, hR1, hE2⟩
    have hE12 := hE1.trans hE2
    go_wp2_with fail
    refine (refReader_any _ _ _ l _ (by omega) (hE12.bytes HB.out)).mono ?_
    rintro e w3 ⟨g2, rfl, hR2, hE3⟩
    have hP0 : Pair w3 w.heap.size w2.heap.size g1 g2 l 0 0 := by
      obtain ⟨A3, c3, a1, a2, a3, a4, a5⟩ := hR1.ext hE3
      exact ⟨⟨A3, c3, a1, a2, a3, a4, Nat.le_trans hE1.le a5⟩, hR2, hR1.lt, hE12.le⟩
    have hE0 : Below w.heap.size w w3 := hE12.trans hE3
    generalize w2.heap.size = b2 at *
    clear hR1 hR2 hE1 hE2 hE3 hE12
    have C1 := CR w3 g1 hE0 hP0.1
    clear CR
    generalize readE l x 0 = r at *
    obtain ⟨L, er, qe⟩ := r
    go_wp2_with fail
    refine C1.mono ?_
    rintro e w4 ⟨v1, q1, rfl, hO1, hR1, hq1, hM1⟩
    dsimp only at hO1 hq1
    obtain ⟨hP1, hE4⟩ := hP0.first hR1 hM1
    have hF4 := hE0.trans hE4
    have C2 := CD w4 b2 g2 hP1.2.1
    have hg2 := hP0.2.1.lt
    clear C1 CD hR1 hE4
    go_wp2_with fail
    refine C2.mono ?_
    rintro e w5 ⟨v2, rfl, hO2, hR2, hM2⟩
    dsimp only at hO2 hR2
    have hO1b := hM2.own hO1 (fun e => by have := (hO1.lt _ e).1; omega) (by cases v1.ownBlock <;> simp)
    obtain ⟨hP2, hE5⟩ := hP1.second hR2 hM2
    have hF5 := hF4.trans hE5
    obtain ⟨A3, n3, c3, rfl, _, _, hb3⟩ := hO1b.form'
    obtain ⟨A4, n4, c4, rfl, _, _, hb4⟩ := hO2.form'
    have hS := same_any _ _ _ _ c3 c4 L L _ hb3 hb4
    rw [sameB_true rfl] at hS
    have HP2 := hide hP2
    clear hO1 hO2 hO1b hb3 hb4 hM1 hM2 hP0 hP1 hR2 C2 hF4 hE5 hE0 hP2
    have hee : ((er : Int) == er) = true := by simp
    by_cases he0 : er = 0
    · have hq := hq1 he0
      have HQ := hide hq
      subst he0
      clear hq hq1
      go_wp2_with fail
      refine hS.mono ?_
      rintro e w6 ⟨rfl, hE6⟩
      have hP3 := HP2.out.1.ext hE6
      have hP4 := HP2.out.2.1.ext hE6
      have hF6 := hF5.trans (Below.mono hE6 hF5.size)
      clear hS
      go_wp2_with fail
      refine (left_any hP3).mono ?_
      rintro e w7 ⟨rfl, hQ7⟩
      have hP5 := hP4.ext hQ7.ext
      go_wp2_with fail
      refine (refLeft_any hP5).mono ?_
      rintro e w8 ⟨rfl, hQ8⟩
      rw [HQ.out]
      have hF8 := hF6.trans (Below.mono (hQ7.trans hQ8).ext hF6.size)
      generalize 8 * l.length - qe = LQ at *
      have hll : (((LQ : Nat) : Int) == ((LQ : Nat) : Int)) = true := by simp
      go_wp2
      go_ret
      exact ⟨rfl, hF8⟩
    · have hz : (er != 0) = true := by simpa using he0
      go_wp2_with fail
      refine hS.mono ?_
      rintro e w6 ⟨rfl, hE6⟩
      have hF6 := hF5.trans (Below.mono hE6 hF5.size)
      clear hS
      go_wp2
      go_ret
      exact ⟨rfl, hF6⟩
end Go.Proofs.Ytabhemmmefefgaa
