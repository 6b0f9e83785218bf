/- The law NumsWrites. -/
import Derived.Test.YtgnmdpklkmlpfaaNumAlive
import Derived.Test.YtgnmdpklkmlpfaaStrs
import Derived.OpenShut
namespace Go.Proofs.Ytgnmdpklkmlpfaa
open Go.RowKit

set_option maxHeartbeats 2000000 in
set_option maxRecDepth 100000 in
theorem numsWrites_walk (x : Int) (s : ByteArray) (n : Int) (w : World) (hx : (Lit.int .u64 x).wf = true) (_hn : (Lit.int .i64 n).wf = true) :
    Calls Try.prog 3 #[.int .u64 x, .string s, .int .i64 n] w fun e w' => e = .returned (.bool true) ∧ Below w.heap.size w w' := by
  have C0 := alive3_any w
  obtain ⟨x0, x1⟩ := bounds_u64 hx
  obtain ⟨x, rfl⟩ := Int.eq_ofNat_of_zero_le x0
  have hx' : x < 18446744073709551616 := by omega
  by_cases hbig : 2000 < s.size
  · have hb' : (2000 : Int) < (s.size : Int) := by omega
    go_enter Try.func3, Try.ntmps3
    go_wp2_with fail
    refine C0.mono ?_
    rintro e w1 ⟨rfl, hE1⟩
    go_wp2
    go_ret
    exact ⟨rfl, hE1⟩
  · have hb' : ¬ ((2000 : Int) < (s.size : Int)) := by omega
    have N1 := fun W => ownNum_any x W hx'
    have N2 := fun W => refNum_any x W hx'
    have T1 := fun W => ownText_any s W (by omega)
    have T2 := fun W => refText_any s W (by omega)
    have F1 := fun W => ownFixed_any x n W hx'
    have F2 := fun W => refFixed_any x n W hx'
    generalize Num.enc s.size ++ s.data.toList = LT at *
    generalize Num.enc x = LN at *
    generalize Num.fixBytes x n = LF at *
    generalize Num.fixErr x n = EF at *
    go_enter Try.func3, Try.ntmps3
    go_wp2_with fail
    refine C0.mono ?_
    rintro e w1 ⟨rfl, hE1⟩
    go_wp2_with fail
    refine (F1 _).mono ?_
    rintro e w2 ⟨v2, rfl, hO2, hE2⟩
    go_wp2_with fail
    refine (F2 _).mono ?_
    rintro e w3 ⟨v3, rfl, hO3, hE3⟩
    go_wp2_with fail
    refine (N1 _).mono ?_
    rintro e w4 ⟨v4, rfl, hO4, hE4⟩
    go_wp2_with fail
    refine (N2 _).mono ?_
    rintro e w5 ⟨v5, rfl, hO5, hE5⟩
    obtain ⟨A4, n4, c4, rfl, _, _, hb4⟩ := hO4.form'
    obtain ⟨A5, n5, c5, rfl, _, _, hb5⟩ := hO5.form'
    go_wp2_with fail
    refine (same_any A4 A5 n4 n5 c4 c5 LN LN w5 (hE5.bytes hb4) hb5).mono ?_
    rintro e w6 ⟨rfl, hE6⟩
    rw [sameB_true rfl]
    go_wp2_with fail
    refine (T1 _).mono ?_
    rintro e w7 ⟨v7, rfl, hO7, hE7⟩
    go_wp2_with fail
    refine (T2 _).mono ?_
    rintro e w8 ⟨v8, rfl, hO8, hE8⟩
    obtain ⟨A7, n7, c7, rfl, _, _, hb7⟩ := hO7.form'
    obtain ⟨A8, n8, c8, rfl, _, _, hb8⟩ := hO8.form'
    go_wp2_with fail
    refine (same_any A7 A8 n7 n8 c7 c8 LT LT w8 (hE8.bytes hb7) hb8).mono ?_
    rintro e w9 ⟨rfl, hE9⟩
    rw [sameB_true rfl]
    have hE39 := ((((hE4.trans hE5).trans hE6).trans hE7).trans hE8).trans hE9
    obtain ⟨A2, n2, c2, rfl, _, _, hb2⟩ := hO2.form'
    obtain ⟨A3, n3, c3, rfl, _, _, hb3⟩ := hO3.form'
    go_wp2_with fail
    refine (same_any A2 A3 n2 n3 c2 c3 LF LF w9 ((hE3.trans hE39).bytes hb2) (hE39.bytes hb3)).mono ?_
    rintro e w10 ⟨rfl, hE10⟩
    rw [sameB_true rfl]
    go_wp2
    go_ret
    exact ⟨rfl, ((((hE1.trans hE2).trans hE3).trans hE39).trans hE10)⟩
end Go.Proofs.Ytgnmdpklkmlpfaa
