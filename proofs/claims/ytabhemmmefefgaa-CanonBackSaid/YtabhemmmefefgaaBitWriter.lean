/- Contracts of the writer: Put, Unary, Len, Bytes. -/
import Derived.Test.YtabhemmmefefgaaBitRow
import Derived.Test.YtabhemmmefefgaaClone
namespace Go.Proofs.Ytabhemmmefefgaa
open Go.RowKit

namespace Bit
/-- May x be put in n bits? -/
def fits (x : Nat) (n : Int) : Bool := decide (0 ≤ n ∧ n ≤ 64 ∧ x < 2 ^ n.toNat)
def putBits (x : Nat) (n : Int) : List Bool := if fits x n then num x n.toNat else []
def putErr (x : Nat) (n : Int) : Int := if fits x n then 0 else 13
def runs (n : Int) : Bool := decide (0 ≤ n ∧ n ≤ 100000)
def unBits (n : Nat) : List Bool := List.replicate n false ++ [true]
def unaryBits (n : Int) : List Bool := if runs n then unBits n.toNat else []
def unaryErr (n : Int) : Int := if runs n then 0 else 13
theorem put_bad {x : Nat} {n : Int} (h : fits x n = false) : putErr x n = 13 ∧ putBits x n = [] := by simp [putErr, putBits, h]
theorem put_good {x : Nat} {n : Int} (h : fits x n = true) : putErr x n = 0 ∧ putBits x n = num x n.toNat := by simp [putErr, putBits, h]
theorem unary_bad {n : Int} (h : runs n = false) : unaryErr n = 13 ∧ unaryBits n = [] := by simp [unaryErr, unaryBits, h]
theorem unary_good {n : Int} (h : runs n = true) : unaryErr n = 0 ∧ unaryBits n = unBits n.toNat := by simp [unaryErr, unaryBits, h]
theorem num_one : num 1 1 = [true] := by decide
theorem putBits_le (x : Nat) (n : Int) : (putBits x n).length ≤ 64 := by
  unfold putBits
  split
  · rename_i h
    have := of_decide_eq_true h
    rw [num_length]; omega
  · simp
theorem unaryBits_le (n : Int) : (unaryBits n).length ≤ 100001 := by
  unfold unaryBits
  split
  · rename_i h
    have := of_decide_eq_true h
    simp [unBits]; omega
  · simp
end Bit

/-- Block g is a writer with these bits; ob: the block of its bytes. -/
def Wrt (w : World) (base g : Nat) (ob : Option Nat) (B : List Bool) : Prop := ∃ v l, WRow w base g v l B.length ∧ Bit.Packs l B ∧ v.ownBlock = ob
/-- Behind a call that puts bits. -/
def Puts (w : World) (base g : Nat) (ob : Option Nat) (B : List Bool) (err : Int) (e : Ending) (w' : World) : Prop :=
  e = .returned (.int .i64 err) ∧ ∃ ob', Wrt w' base g ob' B ∧ NewOb w ob ob' ∧ Mod w w' g ob
theorem Wrt.bound {w : World} {base g : Nat} {ob : Option Nat} {B : List Bool} (h : Wrt w base g ob B) : base ≤ w.heap.size := by obtain ⟨v, l, h, _⟩ := h; exact h.bound
theorem Wrt.lt {w : World} {base g : Nat} {ob : Option Nat} {B : List Bool} (h : Wrt w base g ob B) : g < w.heap.size := by obtain ⟨v, l, h, _⟩ := h; exact h.1.lt
theorem Wrt.le {w : World} {base g : Nat} {ob : Option Nat} {B : List Bool} (h : Wrt w base g ob B) : base ≤ g := by obtain ⟨v, l, h, _⟩ := h; exact h.2.2.2
theorem Wrt.ne {w : World} {base g : Nat} {ob : Option Nat} {B : List Bool} (h : Wrt w base g ob B) : ob ≠ some g := by obtain ⟨v, l, h, _, rfl⟩ := h; exact h.2.2.1
theorem Wrt.ob {w : World} {base g : Nat} {ob : Option Nat} {B : List Bool} (h : Wrt w base g ob B) : ∀ k, ob = some k → base ≤ k ∧ k < w.heap.size := by obtain ⟨v, l, h, _, rfl⟩ := h; exact h.2.1.lt
/-- A writer stays as it is where another block and another row are turned. -/
theorem Wrt.kept {w w' : World} {base g g' : Nat} {ob ob' : Option Nat} {B : List Bool} (h : Wrt w base g ob B) (hM : Mod w w' g' ob') (h1 : g ≠ g') (h2 : ob' ≠ some g) (h3 : ob ≠ some g') (h4 : ob = none ∨ ob ≠ ob') : Wrt w' base g ob B := by
  obtain ⟨v, l, ⟨hW, hO, hne, hb⟩, hP, rfl⟩ := h
  exact ⟨v, l, ⟨hM.whole hW h1 h2, hM.own hO h3 h4, hne, hb⟩, hP, rfl⟩
theorem Wrt.ext {w w' : World} {base g : Nat} {ob : Option Nat} {B : List Bool} (h : Wrt w base g ob B) (hE : Ext w w') : Wrt w' base g ob B := by
  obtain ⟨v, l, ⟨hW, hO, hne, hb⟩, hP, ho⟩ := h
  exact ⟨v, l, ⟨hW.ext hE, hO.ext hE, hne, hb⟩, hP, ho⟩

set_option maxHeartbeats 1000000 in
theorem put_any {w : World} {base g : Nat} {ob : Option Nat} {B : List Bool} (h : Wrt w base g ob B) (x : Nat) (n : Int) (hfit : B.length ≤ 900000000) :
    Calls Try.prog 15 #[.pointer (some ⟨g, 0, none⟩), .int .u64 x, .int .i64 n] w (Puts w base g ob (B ++ Bit.putBits x n) (Bit.putErr x n)) := by
  by_cases hbad : Bit.fits x n = false
  · have HE := hide (Bit.put_bad hbad)
    have HF := hide h
    by_cases h0 : n < 0
    · go_enter Try.func15, Try.ntmps15
      go_wp2
      go_ret
      refine ⟨ret_i64 HE.out.1.symm, ob, by rw [HE.out.2, List.append_nil]; exact HF.out, .inl rfl, Mod.refl _ _ _⟩
    · by_cases h1 : 64 < n
      · go_enter Try.func15, Try.ntmps15
        go_wp2
        go_ret
        refine ⟨ret_i64 HE.out.1.symm, ob, by rw [HE.out.2, List.append_nil]; exact HF.out, .inl rfl, Mod.refl _ _ _⟩
      · obtain ⟨k, rfl⟩ := Int.eq_ofNat_of_zero_le (show 0 ≤ n by omega)
        have hk : k ≤ 64 := by omega
        have hx : 2 ^ k ≤ x := by
          rcases Nat.lt_or_ge x (2 ^ k) with h | h
          · exfalso
            have : Bit.fits x (k : Int) = true := decide_eq_true ⟨by omega, by omega, by simpa using h⟩
            rw [this] at hbad; cases hbad
          · exact h
        have hx0 : ((x : Int) / 2 ^ k != 0) = true := by
          have h1 : 0 < x / 2 ^ k := Nat.div_pos hx (Nat.two_pow_pos k)
          have e : (x : Int) / 2 ^ k = ((x / 2 ^ k : Nat) : Int) := by simp only [Int.natCast_ediv, Int.natCast_pow]; rfl
          rw [e]; simp; omega
        clear hx hbad
        go_enter Try.func15, Try.ntmps15
        go_wp2
        go_ret
        refine ⟨ret_i64 HE.out.1.symm, ob, by rw [HE.out.2, List.append_nil]; exact HF.out, .inl rfl, Mod.refl _ _ _⟩
  · have hgood : Bit.fits x n = true := by simpa using hbad
    have HE := hide (Bit.put_good hgood)
    obtain ⟨h0, h1, hx⟩ := of_decide_eq_true hgood
    obtain ⟨k, rfl⟩ := Int.eq_ofNat_of_zero_le h0
    have hk : k ≤ 64 := by omega
    have hx' : x < 2 ^ k := by simpa using hx
    have hx0 : ((x : Int) / 2 ^ k != 0) = false := by
      have e : (x : Int) / 2 ^ k = ((x / 2 ^ k : Nat) : Int) := by simp only [Int.natCast_ediv, Int.natCast_pow]; rfl
      rw [e, Nat.div_eq_of_lt hx']; rfl
    obtain ⟨v, l, hR, hP, rfl⟩ := h
    have C := add_any x k hR hP rfl hx' hk (by omega)
    clear hx hx' hbad hgood
    go_enter Try.func15, Try.ntmps15
    go_wp2_with (go_at_call 33; refine C.mono ?_; rintro e w2 ⟨rfl, l2, hP2, v2, hR2, hN2, hM2⟩)
    go_ret
    refine ⟨ret_i64 HE.out.1.symm, v2.ownBlock, ⟨v2, l2, ?_, ?_, rfl⟩, hN2, hM2⟩
    · rw [HE.out.2, List.length_append, Bit.num_length]; exact hR2
    · rw [HE.out.2]; exact hP2

theorem wlen_any {w : World} {base g : Nat} {ob : Option Nat} {B : List Bool} (h : Wrt w base g ob B) :
    Calls Try.prog 19 #[.pointer (some ⟨g, 0, none⟩)] w fun e w' => e = .returned (.int .i64 (B.length : Nat)) ∧ w = w' := by
  obtain ⟨v, l, hR, hP, rfl⟩ := h
  have c1 : w.cell? ⟨g, 1, none⟩ = some (.int .i64 B.length) := hR.1.at 1 rfl
  go_enter Try.func19, Try.ntmps19
  go_wp2
  go_ret
  exact ⟨rfl, rfl⟩

theorem wbytes_any {w : World} {base g : Nat} {ob : Option Nat} {B : List Bool} (h : Wrt w base g ob B) (hB : B.length ≤ 1000000000) :
    Calls Try.prog 21 #[.pointer (some ⟨g, 0, none⟩)] w fun e w' => ∃ l, Bit.Packs l B ∧ MadeB w l e w' := by
  obtain ⟨v, l, hR, hP, rfl⟩ := h
  obtain ⟨hW, hO, _, _⟩ := hR
  obtain ⟨A, c, rfl, hc, _, hb⟩ := hO.form
  have c0 : w.cell? ⟨g, 0, none⟩ = some (.slice A l.length c) := hW.at 0 rfl
  have hl := hP.1
  have C := slicesClone_any A l.length c l w hc (by omega) hb
  have HP := hide hP
  clear hl hP
  go_enter Try.func21, Try.ntmps21
  go_wp2_with (go_at_call 36; refine C.mono ?_; rintro e w2 ⟨v2, rfl, hown2, hE2⟩)
  go_ret
  exact ⟨l, HP.out, v2, rfl, hown2, hE2⟩
end Go.Proofs.Ytabhemmmefefgaa
