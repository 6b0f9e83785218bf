/- The row's reading methods: number, first. -/
import Derived.Test.YtgnmdpklkmlpfaaCurTake
namespace Go.Proofs.Ytgnmdpklkmlpfaa
open Go.RowKit

theorem Num.or_seven (X i : Nat) (c : UInt8) (hX : X < 128 ^ i) (hi : i ≤ 9) (h9 : i = 9 → c.toNat = 1) :
    bits .or .u64 (X : Int) (IntKind.u64.wrap (IntKind.u64.wrap (bits .andNot .u8 (c.toNat : Int) 128) * 2 ^ (7 * i))) = ((X + c.toNat % 128 * 128 ^ i : Nat) : Int) := by
  have hc := c.toNat_lt
  have e1 : bits .andNot .u8 (c.toNat : Int) 128 = ((c.toNat % 128 : Nat) : Int) := by
    rw [show (128 : Int) = ((128 : Nat) : Int) from rfl, u8_andNot_nat _ _ hc (by decide), show (255 - 128 : Nat) = 2 ^ 7 - 1 from rfl, Nat.and_two_pow_sub_one_eq_mod]
  have hp : (128 : Nat) ^ i = 2 ^ (7 * i) := by rw [Nat.pow_mul]
  have hlt : c.toNat % 128 * 2 ^ (7 * i) < 2 ^ 64 := by
    rcases Nat.lt_or_ge i 9 with h | h
    · have h1 : c.toNat % 128 < 128 := Nat.mod_lt _ (by decide)
      have h2 : 2 ^ (7 * i) ≤ 2 ^ 56 := Nat.pow_le_pow_right (by decide) (by omega)
      have h3 : c.toNat % 128 * 2 ^ (7 * i) ≤ 127 * 2 ^ 56 := Nat.mul_le_mul (by omega) h2
      omega
    · obtain rfl : i = 9 := by omega
      rw [h9 rfl]
      decide
  have e2 : IntKind.u64.wrap (((c.toNat % 128 : Nat) : Int) * 2 ^ (7 * i)) = ((c.toNat % 128 * 2 ^ (7 * i) : Nat) : Int) := by
    have : ((c.toNat % 128 : Nat) : Int) * 2 ^ (7 * i) = ((c.toNat % 128 * 2 ^ (7 * i) : Nat) : Int) := by simp only [Int.natCast_mul, Int.natCast_pow]; rfl
    rw [this, IntKind.wrap_u64]
    omega
  have hX' : X < 2 ^ 64 := Nat.lt_of_lt_of_le hX (by rw [hp]; exact Nat.pow_le_pow_right (by decide) (by omega))
  have e3 : IntKind.u64.wrap ((c.toNat % 128 : Nat) : Int) = ((c.toNat % 128 : Nat) : Int) := by rw [IntKind.wrap_u64]; omega
  rw [e1, e3, e2, u64_or_nat _ _ hX' hlt, hp, Nat.mul_comm (c.toNat % 128), Nat.or_comm, ← Nat.two_pow_add_eq_or_of_lt (by rw [← hp]; exact hX), Nat.add_comm]

/-- 'r[l:]' of a row. -/
theorem run_cutR (W : World) (a : Option Addr) (n c : Nat) (k : IntKind) (l : Int) (h0 : 0 ≤ l) (h1 : l ≤ n) :
    (Instr.slice 58 (.slice a n c) (some (.int k l)) none none).run Try.prog W = .ok (.slice (cutAt a c l.toNat) (n - l.toNat) (c - l.toNat)) W := by
  rw [run_slice_l (P := Try.prog) (w := W) 58 a n c (by kernel_rfl) k l h0 h1]
  have hs : (sizeOf (Try.prog.elem 58)).run Try.prog W = .ok 1 W := by kernel_rfl
  rw [hs]
  simp [Result.andThen, sliced, cutAt]
attribute [local go_sem ↓] run_cutR

set_option maxHeartbeats 2000000 in
set_option maxRecDepth 100000 in
theorem number_any {w : World} {A : Option Addr} {c K : Nat} {l : List UInt8} {cap : Array Value} {R : Ending → World → Prop} (hK : Entered K) (hb : Bytes w w.heap.size A l.length l) (hl : l.length ≤ 1000000) (hc : l.length ≤ c)
    (hR : ∀ e w', R e w' → ∃ er, e = .returned (.int .i64 er))
    (hok : (Num.scan l 0).2.2 = 0 → Calls Try.prog K (#[.int .u64 (((Num.scan l 0).1 : Nat) : Int), .slice (cutAt A c (Num.scan l 0).2.1) (l.length - (Num.scan l 0).2.1) (c - (Num.scan l 0).2.1)] ++ cap) w R)
    (hbad : (Num.scan l 0).2.2 ≠ 0 → R (.returned (.int .i64 (Num.scan l 0).2.2)) w) :
    Calls Try.prog 40 #[.slice A l.length c, .func (.func K) #[] cap] w R := by
  have hE := fun args W => hK args W
  obtain ⟨_, hb⟩ := hb
  rcases hb with h0 | ⟨blk, off, rfl, hB, hcell⟩
  · obtain rfl := List.eq_nil_of_length_eq_zero h0
    have hbad' := hide (hbad (by decide))
    clear hok hbad
    go_enter Try.func40, Try.ntmps40
    go_wp2
    go_loop [5, 10] (fun x i => x = .int .u64 0 ∧ i = .int .i64 0) (fun _ _ => 0)
    case atStart => exact ⟨rfl, rfl⟩
    case round =>
      obtain ⟨rfl, rfl⟩ := hrel
      go_wp2
      exact hbad'.out
  · go_enter Try.func40, Try.ntmps40
    go_wp2
    go_loop [5, 10] (fun x i => ∃ (X j : Nat), x = .int .u64 (X : Int) ∧ i = .int .i64 (j : Int) ∧ X < 128 ^ j ∧ j ≤ 9 ∧ j ≤ l.length ∧ Num.scanF l 0 (10 - j) j X = Num.scan l 0) (fun _ i => l.length - (intOf i).toNat)
    case atStart => exact ⟨0, 0, rfl, rfl, by decide, by omega, by omega, rfl⟩
    case round =>
      obtain ⟨X, j, rfl, rfl, hX, hj, hjl, hs⟩ := hrel
      obtain ⟨f, hf⟩ : ∃ f, 10 - j = f + 1 := ⟨9 - j, by omega⟩
      rw [hf, Num.scanF, Nat.zero_add] at hs
      by_cases hlt : j < l.length
      · rw [if_neg (by omega)] at hs
        have hcj := hcell j hlt
        generalize l.getD j 0 = bt at *
        have hbt := bt.toNat_lt
        clear hcell
        by_cases h2 : (j = 9 ∧ bt.toNat ≠ 1) ∨ (0 < j ∧ bt.toNat = 0)
        · rw [if_pos h2] at hs
          rw [← hs] at hbad hok
          have hbad' := hide (hbad (by decide))
          clear hbad hok hs hX hf
          rcases h2 with ⟨h9, h1⟩ | ⟨h0, h1⟩
          · subst h9
            have h1' : ((bt.toNat : Int) != 1) = true := by simp; omega
            clear h1
            go_wp2_with fail
            exact hbad'.out
          · rw [h1] at hcj
            by_cases h9 : j = 9
            · subst h9
              go_wp2_with fail
              exact hbad'.out
            · have h9' : ((j : Int) == 9) = false := by simp; omega
              have h0' : (0 : Int) < (j : Int) := by omega
              clear h1
              go_wp2_with fail
              exact hbad'.out
        · rw [if_neg h2] at hs
          have HO := Num.or_seven X j bt hX hj (fun h => by omega)
          have hw7 : IntKind.i64.wrap (7 * (j : Int)) = ((7 * j : Nat) : Int) := by rw [IntKind.wrap_i64]; omega
          have hcases : (((j : Int) == 9) = true ∧ ((bt.toNat : Int) != 1) = false ∧ (0 < (j : Int)) ∧ ((bt.toNat : Int) == 0) = false) ∨ (((j : Int) == 9) = false ∧ 0 < (j : Int) ∧ ((bt.toNat : Int) == 0) = false) ∨ (((j : Int) == 9) = false ∧ ¬ (0 < (j : Int))) := by
            simp only [beq_iff_eq, beq_eq_false_iff_ne, bne_eq_false_iff_eq, ne_eq]
            omega
          have hNX := Num.part_lt (c := bt.toNat) hX
          clear h2
          by_cases h128 : bt.toNat < 128
          · rw [if_pos h128] at hs
            rw [← hs] at hok
            have hok' := hide (hok rfl)
            clear hok hbad hs hf hNX hX
            generalize X + bt.toNat % 128 * 128 ^ j = NX at *
            have h128' : (bt.toNat : Int) < 128 := by omega
            have i0 : (0 : Int) ≤ (j : Int) + 1 := by omega
            have i1 : (j : Int) + 1 ≤ (l.length : Int) := by omega
            have i2 : ((j : Int) + 1).toNat = j + 1 := by omega
            clear h128
            rcases hcases with ⟨a1, a2, a3, a4⟩ | ⟨a1, a3, a4⟩ | ⟨a1, a3⟩
            all_goals (
              go_wp2_with fail
              refine hok'.out.mono ?_
              intro e w2 hr
              obtain ⟨er, rfl⟩ := hR _ _ hr
              go_wp2
              exact hr)
          · rw [if_neg h128] at hs
            have hs' := hide hs
            have hf' := hide (show 10 - (j + 1) = f by omega)
            have hj8 : j + 1 ≤ 9 := by
              rcases hcases with ⟨a1, a2, _⟩ | ⟨a1, _⟩ | ⟨a1, _⟩
              · simp only [bne_eq_false_iff_eq] at a2
                omega
              · simp only [beq_eq_false_iff_ne, ne_eq] at a1
                omega
              · simp only [beq_eq_false_iff_ne, ne_eq] at a1
                omega
            clear hs hf hok hbad
            generalize X + bt.toNat % 128 * 128 ^ j = NX at *
            have hNX' := hide hNX
            have h128' : ¬ ((bt.toNat : Int) < 128) := by omega
            clear h128 hX hNX
            rcases hcases with ⟨a1, a2, a3, a4⟩ | ⟨a1, a3, a4⟩ | ⟨a1, a3⟩
            all_goals (
              go_wp2_with fail
              go_round
              case rel => exact ⟨NX, j + 1, rfl, by go_num, hNX'.out, hj8, by omega, by rw [hf'.out]; exact hs'.out⟩
              case measure => simp [intOf]; omega)
      · obtain rfl : j = l.length := by omega
        rw [if_pos (by omega)] at hs
        rw [← hs] at hbad hok
        have hbad' := hide (hbad (by decide))
        clear hbad hok hs hX hf
        go_wp2
        exact hbad'.out
end Go.Proofs.Ytgnmdpklkmlpfaa
