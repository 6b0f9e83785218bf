/- The law GfRows. -/
import Derived.Test.YtlelcapbpkccjaaGfLaw
import Derived.Deep.QuietTactic
import Derived.BigQuiet
namespace Go.Proofs.Ytlelcapbpkccjaa
open Go.RowKit

/-- The products of c, as an array. -/
def Gf.rowV (c : Nat) : Array Value := ((List.range 256).map fun i => Value.int .u8 ((Gf.mul c i : Nat) : Int)).toArray
theorem Gf.rowV_size (c : Nat) : (Gf.rowV c).size = 256 := by simp [Gf.rowV]
theorem Gf.rowV_at (c : Nat) {i : Nat} (hi : i < 256) : (Gf.rowV c)[i]? = some (.int .u8 ((Gf.mul c i : Nat) : Int)) := by simp [Gf.rowV, hi]
theorem Gf.rowV_one (c : Nat) : (Gf.rowV c).all (·.oneCell') = true := by
  simp [Gf.rowV]
  intros
  rfl
theorem row_zero : ∃ Z : Array Value, Z.size = 256 ∧ ∀ W : World, (zeroValue 37).run Try.prog W = .ok (.agg Z) W := by
  refine ⟨Array.replicate 256 (.int .u8 0), by simp, fun W => ?_⟩
  have h : (Try.prog.info? 37).map (fun i => i.zero) = some (some (.agg (Array.replicate 256 (.int .u8 0)))) := by kernel_rfl
  obtain ⟨i, hi, hz⟩ := Option.map_eq_some_iff.1 h
  simp [zeroValue, typeInfo, hi, hz]
theorem row_info : (Try.prog.info? 37).map (·.size) = some 256 := by kernel_rfl
def RowC (w : World) : Prop := ∀ (c : Nat) (W : World), c < 256 → Ext w W → Calls Try.prog 23 #[.int .u8 c] W fun e W' => e = .returned (.agg (Gf.rowV c)) ∧ Ext W W'

set_option maxHeartbeats 4000000 in
set_option maxRecDepth 100000 in
theorem gfRows_walk0 (c i : Int) (w : World) (hM : MulC w) (hR : RowC w) (hc : (Lit.int .u8 c).wf = true) (hi : (Lit.int .u8 i).wf = true) :
    Calls Try.prog 9 #[.int .u8 c, .int .u8 i] w fun e w' => e = .returned (.bool true) ∧ Below w.heap.size w w' := by
  obtain ⟨c0, c1⟩ := bounds_u8 hc
  obtain ⟨i0, i1⟩ := bounds_u8 hi
  obtain ⟨c, rfl⟩ := Int.eq_ofNat_of_zero_le c0
  obtain ⟨i, rfl⟩ := Int.eq_ofNat_of_zero_le i0
  have hc' : c < 256 := by omega
  have hi' : i < 256 := by omega
  clear hc hi c0 c1
  have R1 := fun W hE => hR c W hc' hE
  have M1 := fun W => refMul_any c i W hc' hi'
  have hsz := Gf.rowV_size c
  have hat := Gf.rowV_at c hi'
  have hone := Gf.rowV_one c
  generalize Gf.rowV c = V at *
  generalize Gf.mul c i = x at *
  go_enter Try.func9, Try.ntmps9
  go_wp2_with fail
  refine (alive4_any hM (Ext.refl w)).mono ?_
  rintro e w1 ⟨rfl, hE1⟩
  go_wp2_with fail
  refine (R1 w1 hE1).mono ?_
  rintro e w2 ⟨rfl, hE2⟩
  have k2 := hE1.trans hE2
  obtain ⟨Z, hZ, hzero⟩ := row_zero
  have hW0 := Whole.new w2 37 Z
  have hE0 := extNew w2 (.cells Z 37)
  have hs : V.size = Z.size := by rw [hsz, hZ]
  have hinf : (Try.prog.info? 37).map (·.size) = some V.size := by rw [hsz]; exact row_info
  clear hsz hZ
  go_wp2_with (refine wpList_storeW rfl 37 (.tmp 5) (.tmp 9) rfl rfl rfl hW0 hs hinf hone ?_; intro w3 hW3 hG3 _; have v0 : w3.cell? ⟨w2.heap.size, i, none⟩ = some (.int .u8 (x : Int)) := hW3.at i hat)
  simp only [Act.put]
  have hE3 : Ext w2 w3 := Below.grown hE0 hG3 hE0.le (fun k hk => by cases hk; exact Nat.le_refl _)
  have i2 : (i : Int) < 256 := by omega
  have C := fun m => M1 (w3.drewN m)
  clear hW0 hE0 hG3 hs hinf hone hzero hat M1 R1
  go_quiet (first | (go_at_call 14; exact Calls.quiet_of ((C _).mono fun _ _ ⟨he, hw⟩ => ⟨he, 0, hw.symm⟩)))
  go_wp2
  go_ret
  exact ⟨rfl, (k2.trans hE3).drewN _⟩
end Go.Proofs.Ytlelcapbpkccjaa
