/- Contracts of the reader: Peek, Unary, Pad, NewReader. -/
import Derived.Test.YtabhemmmefefgaaBitReader
namespace Go.Proofs.Ytabhemmmefefgaa
open Go.RowKit

theorem Bit.val_mul_lt (f : Nat → Bool) {a b : Nat} (h : a + b ≤ 64) : Bit.val f a * 2 ^ b < 18446744073709551616 := by
  have h1 : Bit.val f a * 2 ^ b < 2 ^ a * 2 ^ b := Nat.mul_lt_mul_of_pos_right (Bit.val_lt f a) (Nat.two_pow_pos b)
  rw [← Nat.pow_add] at h1
  exact Nat.lt_of_lt_of_le h1 (show 2 ^ (a + b) ≤ 2 ^ 64 from Nat.pow_le_pow_right (by omega) h)
theorem wrap_shl (X b : Nat) (h : X * 2 ^ b < 18446744073709551616) : IntKind.u64.wrap ((X : Int) * 2 ^ b) = ((X * 2 ^ b : Nat) : Int) := by
  have e : (X : Int) * 2 ^ b = ((X * 2 ^ b : Nat) : Int) := by simp only [Int.natCast_mul, Int.natCast_pow]; rfl
  rw [e, IntKind.wrap_u64]
  omega

set_option maxHeartbeats 1000000 in
theorem pad_any {w : World} {base g q : Nat} {l : List UInt8} (h : Rdr w base g l q) :
    Calls Try.prog 29 #[.pointer (some ⟨g, 0, none⟩)] w fun e w' => e = .returned (.int .i64 (Bit.padErr l q)) ∧ Qt w w' := by
  by_cases h8 : 8 * l.length - q < 8
  · by_cases he : Bit.zs l q = 8 * l.length - q
    · have HE := hide (show Bit.padErr l q = 0 by unfold Bit.padErr; rw [if_pos ⟨h8, he⟩])
      have ht : (((8 * l.length - q : Nat) : Int) != ((8 * l.length - q : Nat) : Int)) = false := by simp
      have h8' : ¬ (8 ≤ ((8 * l.length - q : Nat) : Int)) := by omega
      go_enter Try.func29, Try.ntmps29
      go_wp2_with fail
      refine (left_any h).mono ?_
      rintro e w2 ⟨rfl, hQ2⟩
      have hR := h.ext hQ2.ext
      obtain ⟨c2, f2, hq, hl⟩ := hR.cells
      have CN := hR.zeros
      rw [he] at CN
      have CL := hR.leftQ
      clear he h hR
      generalize 8 * l.length - q = L at *
      go_wp2_with fail
      go_quiet (first | (go_at_call 41; exact CN _) | (go_at_call 27; exact CL _))
      go_wp2
      go_ret
      exact ⟨ret_i64 HE.out.symm, hQ2.drewN _⟩
    · have HE := hide (show Bit.padErr l q = 2 by unfold Bit.padErr; rw [if_neg (fun h => he h.2)])
      have ht : (((Bit.zs l q : Nat) : Int) != ((8 * l.length - q : Nat) : Int)) = true := by simp; omega
      have h8' : ¬ (8 ≤ ((8 * l.length - q : Nat) : Int)) := by omega
      go_enter Try.func29, Try.ntmps29
      go_wp2_with fail
      refine (left_any h).mono ?_
      rintro e w2 ⟨rfl, hQ2⟩
      have hR := h.ext hQ2.ext
      obtain ⟨c2, f2, hq, hl⟩ := hR.cells
      have CN := hR.zeros
      have CL := hR.leftQ
      clear he h hR
      generalize Bit.zs l q = Z at *
      generalize 8 * l.length - q = L at *
      go_wp2_with fail
      go_quiet (first | (go_at_call 41; exact CN _) | (go_at_call 27; exact CL _))
      go_wp2
      go_ret
      exact ⟨ret_i64 HE.out.symm, hQ2.drewN _⟩
  · have HE := hide (show Bit.padErr l q = 2 by unfold Bit.padErr; rw [if_neg (fun h => h8 h.1)])
    have h8' : 8 ≤ ((8 * l.length - q : Nat) : Int) := by omega
    clear h8
    go_enter Try.func29, Try.ntmps29
    go_wp2_with fail
    refine (left_any h).mono ?_
    rintro e w2 ⟨rfl, hQ2⟩
    go_wp2
    go_ret
    exact ⟨ret_i64 HE.out.symm, hQ2⟩

set_option maxHeartbeats 1000000 in
theorem rowOf_any (A : Option Addr) (n c : Nat) (l : List UInt8) (w : World) (hc : n ≤ c) (hn : n ≤ 1000000) (hb : Bytes w w.heap.size A n l) :
    Calls Try.prog 37 #[.slice A n c] w fun e w' => ∃ A' c', e = .returned (.agg #[.slice A' l.length c', .int .i64 ((8 * l.length : Nat) : Int)]) ∧ Bytes w' w'.heap.size A' l.length l ∧ Ext w w' := by
  have hll := hb.1
  subst hll
  have hE0 := extNew w (.cells #[.slice none 0 0, .int .i64 0] 33)
  have hW0 := Whole.new w 33 #[.slice none 0 0, .int .i64 0]
  have hi1 : (Try.prog.info? 33).map (·.size) = some 2 := by kernel_rfl
  go_enter Try.func37, Try.ntmps37
  go_wp2_with (first
    | (go_at_call 36; refine (slicesClone_any A l.length c l _ hc (by omega) (hE0.bytes hb)).mono ?_; rintro e w2 ⟨v2, rfl, hown2, hE2⟩; obtain ⟨A2, c2, hv2, _, _, hb2⟩ := hown2.form; subst hv2; have hW2 := hW0.ext hE2; have hne : (Value.slice A2 l.length c2).ownBlock ≠ some w.heap.size := fun e => by have := (hown2.lt _ e).1; simp at this; omega)
    | (refine wpList_storeW rfl 33 (.tmp 2) (.tmp 8) rfl rfl rfl hW2 rfl hi1 (all_oneCell_toArray (by simp [Value.oneCell'])) ?_; intro w3 hW3 hG3 _))
  refine bodyPost_ret (results_cell_row rfl _ _ _ _ _ _ _ rfl hW3 Try.underlying33 rfl hi1) rfl ⟨A2, c2, ?_, ?_, ?_⟩
  · have e : (8 : Int) * (l.length : Int) = ((8 * l.length : Nat) : Int) := by omega
    rw [← e]
  · obtain ⟨A3, c3, hv, _, _, hb3⟩ := ((Mod.ofRow (ob := none) hG3).own hown2 hne (by simp [Classical.em])).form
    injection hv with e1 _ _
    rw [e1]; exact hb3
  · exact Below.grown (hE0.trans hE2) hG3 (hE0.trans hE2).le (fun k hk => by cases hk; exact Nat.le_refl _)
end Go.Proofs.Ytabhemmmefefgaa
