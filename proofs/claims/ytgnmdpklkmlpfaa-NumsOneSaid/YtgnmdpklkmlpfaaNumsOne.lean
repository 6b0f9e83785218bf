/- The law NumsOne. -/
import Derived.Test.YtgnmdpklkmlpfaaCurEnd
import Derived.Test.YtgnmdpklkmlpfaaStrs
import Derived.OpenShut
namespace Go.Proofs.Ytgnmdpklkmlpfaa
open Go.RowKit

set_option maxHeartbeats 2000000 in
set_option maxRecDepth 100000 in
theorem numsOne_walk (A : Option Addr) (n c : Nat) (l : List UInt8) (w : World) (hn : n ≤ c) (_hc : c ≤ maxLen) (hb : Bytes w w.heap.size A n l) :
    Calls Try.prog 8 #[.slice A n c] w fun e w' => e = .returned (.bool true) ∧ Below w.heap.size w w' := by
  have C0 := alive3_any w
  have hll := hb.1
  subst hll
  by_cases hbig : 40 < l.length
  · have hb' : (40 : Int) < (l.length : Int) := by omega
    go_enter Try.func8, Try.ntmps8
    go_wp2_with fail
    refine C0.mono ?_
    rintro e w1 ⟨rfl, hE1⟩
    go_wp2
    go_ret
    exact ⟨rfl, hE1⟩
  · have hb' : ¬ ((40 : Int) < (l.length : Int)) := by omega
    have HN := hide (show Num.numR l 0 0 = Num.scan l 0 from rfl)
    have HO := hide (fun x => Num.scan_one (b := l) (x := x))
    have HL := hide (Num.scan_lt l 0)
    go_enter Try.func8, Try.ntmps8
    go_wp2_with fail
    refine C0.mono ?_
    rintro e w1 ⟨rfl, hE1⟩
    go_wp2_with fail
    refine (pcNew_any A l.length c l w1 hn (by omega) (hE1.bytes hb)).mono ?_
    rintro e w2 ⟨g, r, rfl, hg, hP2, hE2⟩
    go_wp2_with fail
    refine (pcNum_any hP2).mono ?_
    rintro e w3 ⟨rfl, hP3, hM3⟩
    rw [HN.out] at *
    generalize Num.scan l 0 = res at *
    obtain ⟨x, q, er⟩ := res
    dsimp only at *
    go_wp2_with fail
    refine (pcEnd_any hP3).mono ?_
    rintro e w4 ⟨rfl, hP4, hM4⟩
    have hB4 : Below w.heap.size w w4 := Below.trans (B := w.heap.size) (hE1.trans hE2) ((hM3.trans hM4 (.inl rfl)).below (hE1.trans hE2).le (Nat.le_trans hE1.le hg) (fun k hk => by cases hk))
    by_cases he : Num.endR l q er = 0
    · have h0 : er = 0 ∧ q = l.length := by
        have hq := hP3.bounds.1
        unfold Num.endR at he
        by_cases h : er = 0 ∧ 0 < l.length - q
        · rw [if_pos h] at he; cases he
        · rw [if_neg h] at he
          subst he
          exact ⟨rfl, by omega⟩
      obtain ⟨rfl, rfl⟩ := h0
      have henc := HO.out x rfl
      rw [he]
      have hx := HL.out
      go_wp2_with fail
      refine (ownNum_any x w4 hx).mono ?_
      rintro e w5 ⟨v5, rfl, hO5, hE5⟩
      rw [henc] at hO5
      obtain ⟨A5, n5, c5, rfl, _, _, hb5⟩ := hO5.form'
      have hB5 := hB4.trans (Below.mono hE5 hB4.size)
      have hb6 : Bytes w5 w5.heap.size A l.length l := (hb.below hB5 (Nat.le_refl _)).mono hB5.size
      go_wp2_with fail
      refine (same_any A5 A n5 l.length c5 c l l w5 hb5 hb6).mono ?_
      rintro e w6 ⟨rfl, hE6⟩
      rw [sameB_true rfl]
      go_wp2
      go_ret
      exact ⟨rfl, hB5.trans (Below.mono hE6 hB5.size)⟩
    · have he' : (Num.endR l q er != 0) = true := by simpa using he
      generalize Num.endR l q er = E at *
      clear he
      go_wp2
      go_ret
      exact ⟨rfl, hB4⟩
end Go.Proofs.Ytgnmdpklkmlpfaa
