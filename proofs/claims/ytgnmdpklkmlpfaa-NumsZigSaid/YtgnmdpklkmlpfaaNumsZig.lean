/- The law NumsZig. -/
import Derived.Test.YtgnmdpklkmlpfaaNumAlive
import Derived.OpenShut
namespace Go.Proofs.Ytgnmdpklkmlpfaa
open Go.RowKit

theorem zig_near {k : Nat} (h : k < 65536) : Num.zig k = 2 * k ∧ Num.zig ((18446744073709551616 - k) % 18446744073709551616) ≤ 2 * k := by
  unfold Num.zig
  split <;> split <;> omega

set_option maxHeartbeats 2000000 in
set_option maxRecDepth 100000 in
theorem numsZig_walk (x n : Int) (w : World) (hx : (Lit.int .u64 x).wf = true) (hn : (Lit.int .u16 n).wf = true) :
    Calls Try.prog 5 #[.int .u64 x, .int .u16 n] w fun e w' => e = .returned (.bool true) ∧ Below w.heap.size w w' := by
  have C0 := alive3_any w
  obtain ⟨x0, x1⟩ := bounds_u64 hx
  obtain ⟨n0, n1⟩ := bounds_u16 hn
  obtain ⟨x, rfl⟩ := Int.eq_ofNat_of_zero_le x0
  obtain ⟨k, rfl⟩ := Int.eq_ofNat_of_zero_le n0
  have hx' : x < 18446744073709551616 := by omega
  have Z1 := fun W => ownZig_any x W hx'
  have R1 := fun W => refZig_any x W hx'
  have Z2 := fun W => ownZag_any x W hx'
  have R2 := fun W => refZag_any x W hx'
  have Z3 := fun W => ownZag_any (Num.zig x) W (Num.zig_lt hx')
  have Z4 := fun W => ownZig_any (Num.zag x) W (Num.zag_lt hx')
  have Z5 := fun W => ownZig_any k W (by omega)
  have Z6 := fun W => ownZig_any ((18446744073709551616 - k) % 18446744073709551616) W (Nat.mod_lt _ (by decide))
  rw [Num.zag_zig hx'] at Z3
  rw [Num.zig_zag hx'] at Z4
  obtain ⟨h1, h2⟩ := zig_near (k := k) (by omega)
  rw [h1] at Z5
  have hneg : IntKind.u64.wrap (-(k : Int)) = (((18446744073709551616 - k) % 18446744073709551616 : Nat) : Int) := by rw [IntKind.wrap_u64]; omega
  have hmul : IntKind.u64.wrap (2 * (k : Int)) = ((2 * k : Nat) : Int) := by rw [IntKind.wrap_u64]; omega
  have hk : IntKind.u64.wrap (k : Int) = (k : Int) := by rw [IntKind.wrap_u64]; omega
  generalize (18446744073709551616 - k) % 18446744073709551616 = m at *
  generalize Num.zig x = zx at *
  generalize Num.zag x = ax at *
  generalize Num.zig m = zm at *
  clear hx hn h1 hx' x0 n0
  go_enter Try.func5, Try.ntmps5
  go_wp2_with fail
  refine C0.mono ?_
  rintro e w1 ⟨rfl, hE1⟩
  go_wp2_with fail
  refine (Z1 _).mono ?_
  rintro e w2 ⟨rfl, rfl⟩
  go_wp2_with fail
  refine (R1 _).mono ?_
  rintro e w2 ⟨rfl, rfl⟩
  go_wp2_with fail
  refine (Z2 _).mono ?_
  rintro e w2 ⟨rfl, rfl⟩
  go_wp2_with fail
  refine (R2 _).mono ?_
  rintro e w2 ⟨rfl, rfl⟩
  go_wp2_with fail
  refine (Z1 _).mono ?_
  rintro e w2 ⟨rfl, rfl⟩
  go_wp2_with fail
  refine (Z3 _).mono ?_
  rintro e w2 ⟨rfl, rfl⟩
  go_wp2_with fail
  refine (Z2 _).mono ?_
  rintro e w2 ⟨rfl, rfl⟩
  go_wp2_with fail
  refine (Z4 _).mono ?_
  rintro e w2 ⟨rfl, rfl⟩
  go_wp2_with fail
  refine (Z5 _).mono ?_
  rintro e w2 ⟨rfl, rfl⟩
  go_wp2_with fail
  refine (Z6 _).mono ?_
  rintro e w2 ⟨rfl, rfl⟩
  go_wp2
  go_ret
  exact ⟨ret_bool (decide_eq_true (by omega)), hE1⟩
end Go.Proofs.Ytgnmdpklkmlpfaa
