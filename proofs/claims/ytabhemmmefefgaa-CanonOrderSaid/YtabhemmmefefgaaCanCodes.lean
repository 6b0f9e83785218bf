/- The law CanonCodes. -/
import Derived.Test.YtabhemmmefefgaaCanLaw
namespace Go.Proofs.Ytabhemmmefefgaa
open Go.RowKit Len Can

theorem Can.codesE_len (l : List UInt8) : (codesE l).1.length ≤ l.length := by
  unfold codesE
  split
  · simp [codesL]
  · simp
set_option maxHeartbeats 2000000 in
set_option maxRecDepth 100000 in
theorem canonCodes_walk0 (A : Option Addr) (n c : Nat) (l : List UInt8) (w : World) (hL : CodesC w) (hn : n ≤ c) (hc : c ≤ maxLen) (hb : Bytes w w.heap.size A n l) :
    Calls Try.prog 4 #[.slice A n c] w fun e w' => e = .returned (.bool true) ∧ Ext w w' := by
  have C0 := alive8_any hL (Ext.refl w)
  by_cases hbig : 400 < n
  · have hbI : (400 : Int) < (n : Int) := by omega
    go_enter Try.func4, Try.ntmps4
    go_wp2_with fail
    refine C0.mono ?_
    rintro e w1 ⟨rfl, hE1⟩
    go_wp2
    go_ret
    exact ⟨rfl, hE1⟩
  · have hbI : ¬ (400 : Int) < (n : Int) := by omega
    go_enter Try.func4, Try.ntmps4
    go_wp2_with fail
    refine C0.mono ?_
    rintro e w1 ⟨rfl, hE1⟩
    have C1 := hL l A n c w1 hE1 hn hc (hE1.bytes hb)
    have HC := hide (show ∀ W, Ext w W → Calls Try.prog 14 #[.slice A n c] W (TellsH W (codesE l)) from fun W hX => refCodes_any A n c l W (hX.bytes hb))
    have hnl := hb.1
    clear C0 hL hb
    have hlen := codesE_len l
    generalize codesE l = r at *
    obtain ⟨L, er⟩ := r
    go_wp2_with fail
    refine C1.mono ?_
    rintro e w2 ⟨vx, rfl, hX, hE2⟩
    dsimp only at hX
    clear C1
    go_wp2_with fail
    refine (HC.out w2 (hE1.trans hE2)).mono ?_
    rintro e w3 ⟨vy, rfl, hY, hE3⟩
    dsimp only at hY
    have hX3 := hX.ext hE3
    have hEE := (hE1.trans hE2).trans hE3
    obtain ⟨Ax, cx, rfl, hcx, hmx, hax⟩ := hX3.form
    obtain ⟨Ay, cy, rfl, hcy, hmy, hay⟩ := hY.form
    have he1 : ((er : Int) != er) = false := by simp
    have he2 : ((L.length : Int) != (L.length : Int)) = false := by simp
    rw [hnl] at hlen
    clear hX hE1 hE2 hE3 hnl
    have HX := hide (show ∀ g, Ax = some ⟨g, 0, none⟩ → ∀ i, i < L.length → w3.cell? ⟨g, i, none⟩ = some (.int .u16 ((L.getD i 0 : Nat) : Int)) from fun g e i hi => by subst e; exact (hX3.cell hi).1)
    have HY := hide (show ∀ g, Ay = some ⟨g, 0, none⟩ → ∀ i, i < L.length → w3.cell? ⟨g, i, none⟩ = some (.int .u16 ((L.getD i 0 : Nat) : Int)) from fun g e i hi => by subst e; exact (hY.cell hi).1)
    have HAx := hide hax
    have HAy := hide hay
    clear hX3 hY hax hay
    generalize L.length = m at *
    go_wp2_with fail
    go_loopw [7] (fun a wr => ∃ i : Nat, i ≤ m ∧ a = .int .i64 (i : Int) ∧ Qt w3 wr) (fun a _ => m - (intOf a).toNat)
    case atStart => exact ⟨0, Nat.zero_le _, rfl, Qt.refl _⟩
    case round =>
      obtain ⟨i, hi, rfl, q, rfl⟩ := hrel
      by_cases hlt : i < m
      · have hiI : (i : Int) < (m : Int) := by omega
        rcases HAx.out with h0 | ⟨gx, rfl, _⟩
        · omega
        rcases HAy.out with h0 | ⟨gy, rfl, _⟩
        · omega
        have k1 := HX.out gx rfl i hlt
        have k2 := HY.out gy rfl i hlt
        generalize L.getD i 0 = z at *
        have hzz : ((z : Int) != (z : Int)) = false := by simp
        go_wp2
        go_quiet (fail)
        go_wp2
        go_roundw
        case rel => exact ⟨i + 1, by omega, by go_num, (Qt.refl w3).drewN _⟩
        case measure => simp [intOf]; omega
      · have hiI : ¬ (i : Int) < (m : Int) := by omega
        go_wp2
        go_ret
        exact ⟨rfl, hEE.drewN _⟩
end Go.Proofs.Ytabhemmmefefgaa
