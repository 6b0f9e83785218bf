/- The row's reading methods: first, count, fixed, text. -/
import Derived.Test.YtgnmdpklkmlpfaaCurRead
namespace Go.Proofs.Ytgnmdpklkmlpfaa
open Go.RowKit
attribute [local go_sem ↓] run_cutR

/-- 'r[:h]' of a row. -/
theorem run_headR (W : World) (a : Option Addr) (n c : Nat) (k : IntKind) (h : Int) (h0 : 0 ≤ h) (h1 : h ≤ c) :
    (Instr.slice 58 (.slice a n c) none (some (.int k h)) none).run Try.prog W = .ok (.slice (cutAt a c 0) h.toNat c) W := by
  rw [run_slice_h (P := Try.prog) (w := W) 58 a n c (by kernel_rfl) k h h0 h1]
  have hs : (sizeOf (Try.prog.elem 58)).run Try.prog W = .ok 1 W := by kernel_rfl
  rw [hs]
  simp [Result.andThen, sliced, cutAt]
attribute [local go_sem ↓] run_headR

set_option maxHeartbeats 2000000 in
set_option maxRecDepth 100000 in
theorem first_any {w : World} {A : Option Addr} {m c K : Nat} {n : Int} {cap : Array Value} {R : Ending → World → Prop} (hK : Entered K) (hc : m ≤ c)
    (hR : ∀ e w', R e w' → ∃ er, e = .returned (.int .i64 er))
    (hneg : n < 0 → R (.returned (.int .i64 13)) w) (hbig : (m : Int) < n → R (.returned (.int .i64 1)) w)
    (hok : ∀ k : Nat, n = (k : Int) → k ≤ m → Calls Try.prog K (#[.slice (cutAt A c 0) k c, .slice (cutAt A c k) (m - k) (c - k)] ++ cap) w.drew R) :
    Calls Try.prog 48 #[.slice A m c, .int .i64 n, .func (.func K) #[] cap] w R := by
  have hE := fun args W => hK args W
  by_cases h0 : n < 0
  · have H := hide (hneg h0)
    clear hneg hbig hok
    go_enter Try.func48, Try.ntmps48
    go_wp2
    exact H.out
  · by_cases h1 : (m : Int) < n
    · have H := hide (hbig h1)
      clear hneg hbig hok
      go_enter Try.func48, Try.ntmps48
      go_wp2
      exact H.out
    · obtain ⟨k, rfl⟩ := Int.eq_ofNat_of_zero_le (show 0 ≤ n by omega)
      have H := hide (hok k rfl (by omega))
      have i1 : (k : Int) ≤ (m : Int) := by omega
      have i2 : (k : Int) ≤ (c : Int) := by omega
      clear hneg hbig hok h0
      go_enter Try.func48, Try.ntmps48
      go_wp2
      go_still_tail 7, (by kernel_rfl)
      change wpList _ _ _ _ _ w.drew
      go_wp2_with fail
      refine H.out.mono ?_
      intro e w2 hr
      obtain ⟨er, rfl⟩ := hR _ _ hr
      go_wp2
      exact hr

theorem entered_count1 : Entered 56 := entered_of Try.func56 (by kernel_rfl) rfl
set_option maxHeartbeats 2000000 in
set_option maxRecDepth 100000 in
theorem count1_any {w : World} {A : Option Addr} {m c K x Bm Bk : Nat} {most : Int} {cap : Array Value} {R : Ending → World → Prop} (hK : Entered K) (hm : most ≤ 9223372036854775807) (hx : x < 18446744073709551616)
    (hBm : w.cell? ⟨Bm, 0, none⟩ = some (.int .i64 most)) (hBk : w.cell? ⟨Bk, 0, none⟩ = some (.func (.func K) #[] cap))
    (hR : ∀ e w', R e w' → ∃ er, e = .returned (.int .i64 er))
    (hbig : most < (x : Int) → R (.returned (.int .i64 6)) w)
    (hok : (x : Int) ≤ most → Calls Try.prog K (#[.int .i64 (x : Int), .slice A m c] ++ cap) w R) :
    Calls Try.prog 56 #[.int .u64 (x : Int), .slice A m c, .pointer (some ⟨Bm, 0, none⟩), .pointer (some ⟨Bk, 0, none⟩)] w R := by
  have hE := fun args W => hK args W
  by_cases h0 : most < 0
  · have H := hide (hbig (by omega))
    clear hbig hok hx
    go_enter Try.func56, Try.ntmps56
    go_wp2
    exact H.out
  · obtain ⟨k, rfl⟩ := Int.eq_ofNat_of_zero_le (show 0 ≤ most by omega)
    have hwk : IntKind.u64.wrap (k : Int) = (k : Int) := by rw [IntKind.wrap_u64]; omega
    by_cases h1 : (k : Int) < (x : Int)
    · have H := hide (hbig h1)
      clear hbig hok hx h0
      go_enter Try.func56, Try.ntmps56
      go_wp2
      exact H.out
    · have H := hide (hok (by omega))
      have hwx : IntKind.i64.wrap (x : Int) = (x : Int) := by rw [IntKind.wrap_i64]; omega
      clear hbig hok h0
      go_enter Try.func56, Try.ntmps56
      go_wp2_with fail
      refine H.out.mono ?_
      intro e w2 hr
      obtain ⟨er, rfl⟩ := hR _ _ hr
      go_wp2
      exact hr
end Go.Proofs.Ytgnmdpklkmlpfaa
