/- The law NumsStill. -/
import Derived.Test.YtgnmdpklkmlpfaaCurEnd
import Derived.Test.YtgnmdpklkmlpfaaCurRest
import Derived.Test.YtgnmdpklkmlpfaaNumOps
import Derived.OpenShut
namespace Go.Proofs.Ytgnmdpklkmlpfaa
open Go.RowKit

section
variable {w : World} {g r q : Nat} {b : List UInt8} {e : Int}
theorem stFail (h : PC w g r b q e) (he : e ≠ 0) (e2 : Int) : Calls Try.prog 24 #[.pointer (some ⟨g, 0, none⟩), .int .i64 e2] w fun e' w' => e' = .returned (.tuple #[]) ∧ PcTo w g r b q e w' := by
  have := pcFail_any h e2
  rwa [show Num.failR e e2 = e by unfold Num.failR; rw [if_neg he]] at this
theorem stNum (h : PC w g r b q e) (he : e ≠ 0) : Calls Try.prog 25 #[.pointer (some ⟨g, 0, none⟩)] w fun e' w' => e' = .returned (.int .u64 0) ∧ PcTo w g r b q e w' := by
  have := pcNum_any h
  rwa [show Num.numR b q e = (0, q, e) by unfold Num.numR; rw [if_neg he]] at this
theorem stInt (h : PC w g r b q e) (he : e ≠ 0) (n : Int) (hn : n ≤ 9223372036854775807) : Calls Try.prog 26 #[.pointer (some ⟨g, 0, none⟩), .int .i64 n] w fun e' w' => e' = .returned (.int .i64 0) ∧ PcTo w g r b q e w' := by
  have := pcInt_any h n hn
  rwa [Num.intR_stuck he] at this
theorem stFixed (h : PC w g r b q e) (he : e ≠ 0) (n : Int) : Calls Try.prog 28 #[.pointer (some ⟨g, 0, none⟩), .int .i64 n] w fun e' w' => e' = .returned (.int .u64 0) ∧ PcTo w g r b q e w' := by
  have := pcFixed_any h n
  rwa [Num.fixedR_stuck he] at this
theorem stByte (h : PC w g r b q e) (he : e ≠ 0) : Calls Try.prog 27 #[.pointer (some ⟨g, 0, none⟩)] w fun e' w' => e' = .returned (.int .u8 0) ∧ PcTo w g r b q e w' := by
  have := pcByte_any h
  rwa [Num.byte_fixed, Num.fixedR_stuck he] at this
theorem stTake (h : PC w g r b q e) (he : e ≠ 0) (n : Int) : Calls Try.prog 29 #[.pointer (some ⟨g, 0, none⟩), .int .i64 n] w fun e' w' => ∃ A c, e' = .returned (.slice A 0 c) ∧ PcTo w g r b q e w' := by
  have := pcTake_any h n
  rw [Num.takeR_stuck he] at this
  refine this.mono ?_
  rintro e' w' ⟨v, rfl, hO, hT⟩
  obtain ⟨A, m, c, rfl, _, hm, _⟩ := hO.form'
  obtain rfl : m = 0 := by simpa using hm
  exact ⟨A, c, rfl, hT⟩
theorem stText (h : PC w g r b q e) (he : e ≠ 0) (n : Int) (hn : n ≤ 9223372036854775807) : Calls Try.prog 30 #[.pointer (some ⟨g, 0, none⟩), .int .i64 n] w fun e' w' => e' = .returned (.string ⟨#[]⟩) ∧ PcTo w g r b q e w' := by
  have := pcText_any h n hn
  rwa [Num.textR_stuck he] at this
theorem stEnd (h : PC w g r b q e) (he : e ≠ 0) : Calls Try.prog 31 #[.pointer (some ⟨g, 0, none⟩)] w fun e' w' => e' = .returned (.int .i64 e) ∧ PcTo w g r b q e w' := by
  have := pcEnd_any h
  rwa [show Num.endR b q e = e by unfold Num.endR; rw [if_neg (fun h => he h.1)]] at this
end

set_option maxHeartbeats 4000000 in
set_option maxRecDepth 100000 in
theorem numsStill_walk (A : Option Addr) (n c : Nat) (l : List UInt8) (e0 : Int) (A2 : Option Addr) (n2 c2 : Nat) (L : List NopV) (w : World)
    (hn : n ≤ c) (_hc : c ≤ maxLen) (hb : Bytes w w.heap.size A n l) (_he : (Lit.int .i64 e0).wf = true) (_hn2 : n2 ≤ c2) (_hc2 : c2 ≤ maxLen) (hL : NopsAt w w.heap.size A2 n2 L) :
    Calls Try.prog 6 #[.slice A n c, .int .i64 e0, .slice A2 n2 c2] w fun e w' => e = .returned (.bool true) ∧ Below w.heap.size w w' := by
  have C0 := alive3_any w
  have hll := hb.1
  subst hll
  have hlL := hL.1
  subst hlL
  by_cases h1 : (2000 : Int) < (l.length : Int)
  · go_enter Try.func6, Try.ntmps6
    go_wp2_with fail
    refine C0.mono ?_
    rintro e w1 ⟨rfl, hE1⟩
    go_wp2
    go_ret
    exact ⟨rfl, hE1⟩
  by_cases h2 : (60 : Int) < (L.length : Int)
  · go_enter Try.func6, Try.ntmps6
    go_wp2_with fail
    refine C0.mono ?_
    rintro e w1 ⟨rfl, hE1⟩
    go_wp2
    go_ret
    exact ⟨rfl, hE1⟩
  by_cases h0 : e0 = 0
  · subst h0
    go_enter Try.func6, Try.ntmps6
    go_wp2_with fail
    refine C0.mono ?_
    rintro e w1 ⟨rfl, hE1⟩
    go_wp2
    go_ret
    exact ⟨rfl, hE1⟩
  · have h3 : (e0 == 0) = false := by simpa using h0
    have hl2 : l.length ≤ 1000000 := by omega
    have H0 := hide h0
    clear h0
    go_enter Try.func6, Try.ntmps6
    go_wp2_with fail
    refine C0.mono ?_
    rintro e w1 ⟨rfl, hE1⟩
    go_wp2_with fail
    refine (pcNew_any A l.length c l w1 hn hl2 (hE1.bytes hb)).mono ?_
    rintro e w2 ⟨g, r, rfl, hg, hP2, hE2⟩
    go_wp2_with fail
    refine (pcFail_any hP2 e0).mono ?_
    rintro e w3 ⟨rfl, hP3, hM3⟩
    rw [show Num.failR 0 e0 = e0 from rfl] at hP3
    have hB3 : Below w.heap.size w w3 := Below.trans (B := w.heap.size) (hE1.trans hE2) (hM3.below (hE1.trans hE2).le (Nat.le_trans hE1.le hg) (fun k hk => by cases hk))
    have hgw := Nat.le_trans hE1.le hg
    clear hM3 hP2 hE2 C0 hE1 hg
    go_wp2_with fail
    go_loopw [8] (fun i wr => ∃ j : Nat, j ≤ L.length ∧ i = .int .i64 (j : Int) ∧ PC wr g r l 0 e0 ∧ Below w.heap.size w wr) (fun i _ => L.length - (intOf i).toNat)
    case atStart => exact ⟨0, by omega, rfl, hP3, hB3⟩
    case round =>
      obtain ⟨j, hj, rfl, hP, hB⟩ := hrel
      by_cases hlt : j < L.length
      · obtain ⟨_, hLc⟩ := hL
        rcases hLc with h0 | ⟨blk, off, rfl, hbl, hcs⟩
        · omega
        obtain ⟨hat, hok⟩ := hcs j hlt
        have hat' := hat.below hB hbl
        have hj0 : (0 : Int) ≤ (j : Int) := by omega
        have hj1 : (j : Int) < (L.length : Int) := by omega
        obtain ⟨a0, a1, a2⟩ := hat'
        obtain ⟨_, ok1, ok2⟩ := hok
        generalize L.getD j default = op at *
        have HB := hide hB
        have HP := hide hP
        clear hcs hB hP hP3 hB3 hat
        go_wp2_with fail
        refine (stFail HP.out H0.out op.e).mono ?_
        rintro e w10 ⟨rfl, hT0⟩
        go_wp2_with fail
        refine (stNum hT0.1 H0.out).mono ?_
        rintro e w11 ⟨rfl, hT1⟩
        go_wp2_with fail
        refine (stInt hT1.1 H0.out op.n ok2).mono ?_
        rintro e w12 ⟨rfl, hT2⟩
        go_wp2_with fail
        refine (stByte hT2.1 H0.out).mono ?_
        rintro e w13 ⟨rfl, hT3⟩
        go_wp2_with fail
        refine (stFixed hT3.1 H0.out op.n).mono ?_
        rintro e w14 ⟨rfl, hT4⟩
        go_wp2_with fail
        refine (stTake hT4.1 H0.out op.n).mono ?_
        rintro e w15 ⟨At, ct, rfl, hT5⟩
        go_wp2_with fail
        refine (stText hT5.1 H0.out op.n ok2).mono ?_
        rintro e w16 ⟨rfl, hT6⟩
        go_wp2_with fail
        refine (stEnd hT6.1 H0.out).mono ?_
        rintro e w17 ⟨rfl, hT7⟩
        go_wp2
        go_roundw
        case rel =>
          have hM := ((((((hT0.then hT1).then hT2).then hT3).then hT4).then hT5).then hT6).then hT7
          exact ⟨j + 1, by omega, by go_num, hM.1, HB.out.trans (hM.2.below HB.out.size hgw (fun k hk => by cases hk))⟩
        case measure => simp [intOf]; omega
      · obtain rfl : j = L.length := by omega
        have HB := hide hB
        have HP := hide hP
        clear hB hP hP3 hB3 hL
        go_wp2_with fail
        refine (pcAt_any HP.out).mono ?_
        rintro e w4 ⟨rfl, rfl⟩
        go_wp2_with fail
        refine (pcLeft_any HP.out).mono ?_
        rintro e w4 ⟨rfl, rfl⟩
        rw [Nat.sub_zero]
        go_wp2_with fail
        refine (pcErr_any HP.out).mono ?_
        rintro e w4 ⟨rfl, rfl⟩
        go_wp2
        go_ret
        exact ⟨rfl, HB.out⟩
end Go.Proofs.Ytgnmdpklkmlpfaa
