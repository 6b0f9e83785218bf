/- The contract of the document's Mul in its field; what its other calls answer. -/
import Derived.Test.YtbfkknoeaekajaaGfMath
import Derived.Test.YtbfkknoeaekajaaMod
namespace Go.Proofs.Ytbfkknoeaekajaa
open Go.RowKit

theorem i64_xor_nat (a b : Nat) (ha : a < 4611686018427387904) (hb : b < 4611686018427387904) : bits .xor .i64 (a : Int) (b : Int) = ((a ^^^ b : Nat) : Int) := by
  have hx : a ^^^ b < 2 ^ 62 := Nat.xor_lt_two_pow (by omega) (by omega)
  have h1 : (BitVec.ofInt 64 (a : Int)).toNat = a := by rw [BitVec.ofInt_natCast, BitVec.toNat_ofNat]; exact Nat.mod_eq_of_lt (by omega)
  have h2 : (BitVec.ofInt 64 (b : Int)).toNat = b := by rw [BitVec.ofInt_natCast, BitVec.toNat_ofNat]; exact Nat.mod_eq_of_lt (by omega)
  show IntKind.i64.wrap ((BitVec.ofInt 64 (a : Int) ^^^ BitVec.ofInt 64 (b : Int)).toNat : Int) = _
  rw [BitVec.toNat_xor, h1, h2, IntKind.wrap_i64]
  omega
namespace Gf
theorem cl_lt (a b : Nat) (ha : a < 256) : ∀ k, cl a b k < 2 ^ (8 + k)
  | 0 => by simp [cl]
  | k + 1 => by
    rw [cl]
    have h1 : cl a b k < 2 ^ (8 + (k + 1)) := Nat.lt_of_lt_of_le (cl_lt a b ha k) (Nat.pow_le_pow_right (by decide) (by omega))
    refine Nat.xor_lt_two_pow h1 ?_
    split
    · rw [Nat.shiftLeft_eq]
      have h2 : a * 2 ^ k < 2 ^ 8 * 2 ^ k := Nat.mul_lt_mul_of_pos_right ha (Nat.two_pow_pos k)
      rw [← Nat.pow_add] at h2
      exact Nat.lt_of_lt_of_le h2 (Nat.pow_le_pow_right (by decide) (by omega))
    · exact Nat.two_pow_pos _
theorem red1_lt {k p : Nat} (hk : k ≤ 6) (hp : p < 2 ^ 16) : red1 k p < 2 ^ 16 := by
  unfold red1
  split
  · refine Nat.xor_lt_two_pow hp ?_
    rw [Nat.shiftLeft_eq]
    have h2 : 285 * 2 ^ k ≤ 285 * 2 ^ 6 := Nat.mul_le_mul_left _ (Nat.pow_le_pow_right (by decide) hk)
    omega
  · exact hp
end Gf

theorem bit_int (b k : Nat) : (((b : Int) / 2 ^ k).tmod 2 == 1) = b.testBit k := by
  have h : (b : Int) / 2 ^ k = ((b / 2 ^ k : Nat) : Int) := by simp only [Int.natCast_ediv, Int.natCast_pow]; rfl
  rw [h, Nat.testBit_eq_decide_div_mod_eq, Bool.eq_iff_iff]
  simp only [beq_iff_eq, decide_eq_true_eq]
  rw [Int.tmod_eq_emod_of_nonneg (Int.natCast_nonneg _)]
  omega
theorem xor_shift (p a k : Nat) (hp : p < 2 ^ 16) (ha : a < 512) (hk : k < 8) : bits .xor .i64 (p : Int) (wrap64 ((a : Int) * 2 ^ k)) = ((p ^^^ a <<< k : Nat) : Int) := by
  have h1 : a * 2 ^ k < 2 ^ 17 := by
    have h2 : 2 ^ k ≤ 2 ^ 7 := Nat.pow_le_pow_right (by decide) (by omega)
    have h3 : a * 2 ^ k ≤ 511 * 2 ^ 7 := Nat.mul_le_mul (by omega) h2
    omega
  have e : IntKind.i64.wrap ((a : Int) * 2 ^ k) = ((a * 2 ^ k : Nat) : Int) := by
    have : (a : Int) * 2 ^ k = ((a * 2 ^ k : Nat) : Int) := by simp only [Int.natCast_mul, Int.natCast_pow]; rfl
    rw [this, IntKind.wrap_i64]
    omega
  rw [← IntWalk.i64_left, e, i64_xor_nat _ _ (by omega) (by omega), Nat.shiftLeft_eq]

set_option maxHeartbeats 1000000 in
set_option maxRecDepth 100000 in
theorem refMul_any (a b : Nat) (w : World) (ha : a < 256) (hb : b < 256) : Calls Try.prog 57 #[.int .u8 a, .int .u8 b] w fun e w' => e = .returned (.int .u8 (Gf.mul a b : Nat)) ∧ w = w' := by
  have HM := hide (show Gf.mul a b = Gf.red 7 (Gf.cl a b 8) from rfl)
  have HL := hide (Gf.mul_lt ha hb)
  go_enter Try.func57, Try.ntmps57
  go_wp2
  go_loop [5, 7] (fun p i => ∃ k : Nat, k ≤ 8 ∧ i = .int .i64 (k : Int) ∧ p = .int .i64 ((Gf.cl a b k : Nat) : Int)) (fun _ i => 8 - (intOf i).toNat)
  case atStart => exact ⟨0, by omega, rfl, rfl⟩
  case round =>
    obtain ⟨k, hk, rfl, rfl⟩ := hrel
    by_cases hlt : k < 8
    · have hcl := Gf.cl_lt a b ha k
      have hcl' : Gf.cl a b k < 2 ^ 16 := Nat.lt_of_lt_of_le hcl (Nat.pow_le_pow_right (by decide) (by omega))
      have hk' : (k : Int) < 8 := by omega
      have hbit := bit_int b k
      have HX := hide (xor_shift (Gf.cl a b k) a k hcl' (by omega) hlt)
      have HC := hide (show Gf.cl a b (k + 1) = Gf.cl a b k ^^^ (if b.testBit k then a <<< k else 0) from rfl)
      clear hcl hcl'
      cases hbk : b.testBit k with
      | true =>
        rw [hbk] at hbit HC
        rw [if_pos rfl] at HC
        go_wp2
        go_round
        case rel => exact ⟨k + 1, by omega, by go_num, by rw [HC.out]; exact congrArg _ HX.out⟩
        case measure => simp [intOf]; omega
      | false =>
        rw [hbk] at hbit HC
        rw [if_neg (by simp), Nat.xor_zero] at HC
        go_wp2
        go_round
        case rel => exact ⟨k + 1, by omega, by go_num, by rw [HC.out]⟩
        case measure => simp [intOf]; omega
    · obtain rfl : k = 8 := by omega
      have hcl := Gf.cl_lt a b ha 8
      go_wp2
      go_loop [5, 8] (fun p i => ∃ j q : Nat, j ≤ 7 ∧ i = .int .i64 (((7 + j : Nat) : Int)) ∧ p = .int .i64 (q : Int) ∧ q < 2 ^ 16 ∧ Gf.red j q = Gf.mul a b) (fun _ i => (intOf i).toNat)
      case atStart => exact ⟨7, _, by omega, rfl, rfl, hcl, HM.out.symm⟩
      case round =>
        obtain ⟨j, q, hj, rfl, rfl, hq, hred⟩ := hrel
        rcases j with _ | j
        · obtain rfl : q = Gf.mul a b := hred
          have hm := HL.out
          clear hq hcl
          go_wp2
          go_ret
          exact ⟨by go_num, rfl⟩
        · have hbit := bit_int q (8 + j)
          have hi : ((7 + (j + 1) : Nat) : Int) = ((8 + j : Nat) : Int) := by omega
          rw [hi]
          have HX := hide (xor_shift q 285 j hq (by omega) (by omega))
          have HR := hide (show Gf.red (j + 1) q = Gf.red j (Gf.red1 j q) from rfl)
          have HQ := hide (Gf.red1_lt (k := j) (by omega) hq)
          have HR1 := hide (show Gf.red1 j q = (if q.testBit (8 + j) then q ^^^ 285 <<< j else q) from rfl)
          have HRed := hide hred
          clear hred hcl hq
          cases hbk : q.testBit (8 + j) with
          | true =>
            rw [hbk] at hbit HR1
            rw [if_pos rfl] at HR1
            go_wp2
            go_round
            case rel => exact ⟨j, Gf.red1 j q, by omega, by go_num, by rw [HR1.out]; exact congrArg _ HX.out, HQ.out, by rw [← HR.out]; exact HRed.out⟩
            case measure => simp [intOf]; omega
          | false =>
            rw [hbk] at hbit HR1
            rw [if_neg (by simp)] at HR1
            go_wp2
            go_round
            case rel => exact ⟨j, q, by omega, by go_num, rfl, by rw [← HR1.out]; exact HQ.out, by rw [← HR1.out, ← HR.out]; exact HRed.out⟩
            case measure => simp [intOf]; omega

/-- What the calls answer. -/
def Gf.invR (a : Nat) : Nat × Int := if a = 0 then (0, 13) else (Gf.inv a, 0)
def Gf.divR (a b : Nat) : Nat × Int := if b = 0 then (0, 13) else (Gf.mul a (Gf.inv b), 0)
/-- The least n for which 2 to the n is a. -/
def Gf.logF (a : Nat) : Nat → Nat → Nat
  | 0, n => n
  | f + 1, n => if Gf.pow 2 n = a then n else Gf.logF a f (n + 1)
def Gf.logR (a : Nat) : Nat × Int := if a = 0 then (0, 13) else (Gf.logF a 255 0, 0)
theorem Gf.inv_only {a i : Nat} (ha : a < 256) (hi : i < 256) (h0 : a ≠ 0) (h : Gf.mul a i = 1) : i = Gf.inv a := Gf.mul_cancel ha hi (Gf.inv_lt ha h0) h0 (by rw [h, Gf.mul_inv ha h0])
theorem Gf.div_only {a b i : Nat} (ha : a < 256) (hb : b < 256) (hi : i < 256) (h0 : b ≠ 0) (h : Gf.mul b i = a) : i = Gf.mul a (Gf.inv b) := by
  have hib := Gf.inv_lt hb h0
  refine Gf.mul_cancel hb hi (Gf.mul_lt ha hib) h0 ?_
  rw [h, ← Gf.mul_assoc hb ha hib, Gf.mul_comm hb ha, Gf.mul_assoc ha hb hib, Gf.mul_inv hb h0, Gf.mul_one ha]
theorem Gf.mul_div {a b : Nat} (ha : a < 256) (hb : b < 256) (h0 : b ≠ 0) : Gf.mul b (Gf.mul a (Gf.inv b)) = a := by
  have hib := Gf.inv_lt hb h0
  rw [← Gf.mul_assoc hb ha hib, Gf.mul_comm hb ha, Gf.mul_assoc ha hb hib, Gf.mul_inv hb h0, Gf.mul_one ha]
theorem Gf.logF_spec (a : Nat) : ∀ (f n m : Nat), n ≤ m → m < n + f → (∀ k, n ≤ k → k < m → Gf.pow 2 k ≠ a) → Gf.pow 2 m = a → Gf.logF a f n = m
  | 0, n, m, h1, h2, _, _ => by omega
  | f + 1, n, m, h1, h2, h3, h4 => by
    rw [Gf.logF]
    by_cases h : n = m
    · rw [if_pos (by rw [h]; exact h4), h]
    · rw [if_neg (h3 n (Nat.le_refl _) (by omega))]
      exact Gf.logF_spec a f (n + 1) m (by omega) (by omega) (fun k hk => h3 k (by omega)) h4
/-- The logarithm is the one number below 255 whose power is a. -/
theorem Gf.log_only {a m : Nat} (hm : m < 255) (h : Gf.pow 2 m = a) : Gf.logF a 255 0 = m :=
  Gf.logF_spec a 255 0 m (by omega) (by omega) (fun k _ hk hp => by have := Gf.pow2_inj (n := k) (m := m) (by omega) hm (by rw [hp, h]); omega) h
theorem Gf.pow_log {a : Nat} (ha : a < 256) (h0 : a ≠ 0) : Gf.logF a 255 0 < 255 ∧ Gf.pow 2 (Gf.logF a 255 0) = a := by
  obtain ⟨n, hn, hp⟩ := Gf.log_exists ha h0
  rw [Gf.log_only hn hp]
  exact ⟨hn, hp⟩
theorem ret_u8err {x : Nat} {e : Int} {r : Nat × Int} (h : r = (x, e)) : Ending.returned (.tuple #[.int .u8 (x : Int), .int .i64 e]) = .returned (.tuple #[.int .u8 ((r.1 : Nat) : Int), .int .i64 r.2]) := by rw [h]
theorem ret_i64err {x : Nat} {e : Int} {r : Nat × Int} (h : r = (x, e)) : Ending.returned (.tuple #[.int .i64 (x : Int), .int .i64 e]) = .returned (.tuple #[.int .i64 ((r.1 : Nat) : Int), .int .i64 r.2]) := by rw [h]
end Go.Proofs.Ytbfkknoeaekajaa
