/- Gauss' steps on rows that have the identity's behind them: plain mathematics. -/
import Derived.Test.YtpgdmdcooddgdaaMatGauss
namespace Go.Proofs.Ytpgdmdcooddgdaa
open Go.RowKit

namespace Mat
theorem Gs.congr {n : Nat} {A L X L' X' : M} (h : Gs n A L X) (hL : ∀ i j, i < n → j < n → L' i j = L i j) (hX : ∀ i j, i < n → j < n → X' i j = X i j) : Gs n A L' X' := by
  obtain ⟨h1, E, h2⟩ := h
  exact ⟨fun i j hi hj => by rw [hL i j hi hj, h1 i j hi hj]; exact mm_congr (fun k hk => (hX i k hi hk).symm) (fun _ _ => rfl), E, fun i j hi hj => by rw [← h2 i j hi hj]; exact mm_congr (fun _ _ => rfl) (fun k hk => hX k j hk hj)⟩
/-- The rows with the identity's behind them. -/
def both (n : Nat) (A : M) : M := fun i j => if j < n then A i j else if j - n = i then 1 else 0
/-- The first i columns are cleared. -/
def Inner (n i : Nat) (A F : M) : Prop := Gs n A F (fun a b => F a (n + b)) ∧ ∀ a b, a < n → b < i → F a b = one a b
theorem Inner.start (n : Nat) (A : M) : Inner n 0 A (both n A) := by
  refine ⟨Gs.start n A (fun a b _ hb => if_pos hb) (fun a b _ hb => ?_), fun a b _ hb => absurd hb (by omega)⟩
  show (if n + b < n then A a (n + b) else if n + b - n = a then 1 else 0) = one a b
  rw [if_neg (by omega), Nat.add_sub_cancel_left]
  unfold one
  by_cases h : a = b
  · rw [if_pos h, if_pos h.symm]
  · rw [if_neg h, if_neg (fun e => h e.symm)]
theorem Inner.swap {n i p : Nat} {A F : M} (h : Inner n i A F) (hi : i < n) (hp : p < n) (hip : i ≤ p) : Inner n i A (fun a => F (sw i p a)) := by
  refine ⟨h.1.swap hi hp, fun k j hk hj => ?_⟩
  show F (sw i p k) j = one k j
  rw [h.2 _ j (sw_lt hi hp hk) hj]
  unfold sw one
  by_cases h1 : k = i
  · rw [if_pos h1, if_neg (by omega), if_neg (by omega)]
  · rw [if_neg h1]
    by_cases h2 : k = p
    · rw [if_pos h2, if_neg (by omega), if_neg (by omega)]
    · rw [if_neg h2]
theorem sw_here (i p : Nat) : sw i p i = p := if_pos rfl
theorem Inner.scale {n i : Nat} {A F : M} (h : Inner n i A F) (h0 : F i i ≠ 0) : Inner n i A (fun a b => if a = i then fm (F a b) (fi (F i i)) else F a b) ∧ (if i = i then fm (F i i) (fi (F i i)) else F i i) = 1 := by
  have hfi : fi (F i i) ≠ 0 := fun e => by
    have := fm_fi h0
    rw [e, fm_zero] at this
    exact one_ne this.symm
  refine ⟨⟨h.1.scale (a := i) hfi, fun k j hk hj => ?_⟩, by rw [if_pos rfl, fm_fi h0]⟩
  show (if k = i then fm (F k j) (fi (F i i)) else F k j) = one k j
  rw [h.2 k j hk hj]
  by_cases hki : k = i
  · rw [if_pos hki, one, if_neg (by omega), zero_fm]
  · rw [if_neg hki]
theorem Inner.add {n i k : Nat} {A F : M} (h : Inner n i A F) (hi : i < n) (h1 : F i i = 1) (hki : k ≠ i) (hc : ∀ a, a < k → F a i = one a i) :
    Inner n i A (fun a b => if a = k then F a b ^^^ fm (F k i) (F i b) else F a b) ∧ (if i = k then F i i ^^^ fm (F k i) (F i i) else F i i) = 1 ∧ ∀ a, a < k + 1 → (if a = k then F a i ^^^ fm (F k i) (F i i) else F a i) = one a i := by
  refine ⟨⟨h.1.add (d := F k i) hi hki, fun a b ha hb => ?_⟩, by rw [if_neg (fun e => hki e.symm), h1], fun a ha => ?_⟩
  · show (if a = k then F a b ^^^ fm (F k i) (F i b) else F a b) = one a b
    have e0 : F i b = 0 := by rw [h.2 i b hi hb, one, if_neg (by omega)]
    rw [e0, fm_zero, UInt8.xor_zero, ite_self, h.2 a b ha hb]
  · by_cases hak : a = k
    · rw [if_pos hak, h1, fm_one, hak, UInt8.xor_self, one, if_neg hki]
    · rw [if_neg hak, hc a (by omega)]
theorem Inner.next {n i : Nat} {A F : M} (h : Inner n i A F) (hc : ∀ a, a < n → F a i = one a i) : Inner n (i + 1) A F :=
  ⟨h.1, fun a b ha hb => by
    by_cases hbi : b < i
    · exact h.2 a b ha hbi
    · obtain rfl : b = i := by omega
      exact hc a ha⟩
theorem Inner.flat {n i : Nat} {A F : M} (h : Inner n i A F) (hi : i < n) (h0 : ∀ p, i ≤ p → p < n → F p i = 0) : ∃ v, Ker n A v := h.1.flat hi h.2 h0
theorem Inner.done {n : Nat} {A F : M} (h : Inner n n A F) : Inv n A (fun a b => F a (n + b)) := h.1.done h.2
theorem fi_toNat {a : UInt8} (h : a ≠ 0) : (fi a).toNat = Gf.inv a.toNat := by
  have h0 : a.toNat ≠ 0 := fun e => h (ext8 e)
  unfold fi
  rw [UInt8.toNat_ofNat', Nat.mod_eq_of_lt (Gf.inv_lt (lt a) h0)]
end Mat
end Go.Proofs.Ytpgdmdcooddgdaa
