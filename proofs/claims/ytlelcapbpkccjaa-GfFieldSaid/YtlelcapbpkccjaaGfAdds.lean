/- The laws GfAdds, GfTwice. -/
import Derived.Test.YtlelcapbpkccjaaGfLaw
import Derived.Test.YtlelcapbpkccjaaStrs
namespace Go.Proofs.Ytlelcapbpkccjaa
open Go.RowKit

/-- From world w on, the program's Add and Dot tell what the document asks. -/
def AddC (w : World) : Prop := ∀ (A1 A2 : Option Addr) (c1 c2 c : Nat) (to b : List UInt8) (W : World), c < 256 → to.length ≤ c1 → b.length ≤ c2 → to.length ≤ 1000000 → b.length ≤ 1000000 → Ext w W →
  Bytes W W.heap.size A1 to.length to → Bytes W W.heap.size A2 b.length b → Calls Try.prog 24 #[.slice A1 to.length c1, .int .u8 (c : Int), .slice A2 b.length c2] W (MadeR W (Gf.addR to c b))
def DotC (w : World) : Prop := ∀ (A1 A2 : Option Addr) (c1 c2 : Nat) (a b : List UInt8) (W : World), a.length ≤ c1 → b.length ≤ c2 → a.length ≤ 1000000 → b.length ≤ 1000000 → Ext w W →
  Bytes W W.heap.size A1 a.length a → Bytes W W.heap.size A2 b.length b → Calls Try.prog 26 #[.slice A1 a.length c1, .slice A2 b.length c2] W fun e W' => e = .returned (.tuple #[.int .u8 (((Gf.dotR a b).1 : Nat) : Int), .int .i64 (Gf.dotR a b).2]) ∧ Ext W W'

namespace Gf
theorem addN_at (to : List UInt8) (c : Nat) (b : List UInt8) : ∀ (n k : Nat), k < n → (addN to c b n).getD k 0 = to.getD k 0 ^^^ UInt8.ofNat (mul c (b.getD k 0).toNat)
  | 0, k, h => by omega
  | n + 1, k, h => by
    have hl := addN_len to c b n
    rw [addN]
    by_cases hk : k < n
    · rw [← addN_at to c b n k hk]
      simp [List.getD_eq_getElem?_getD, List.getElem?_append_left, hl, hk]
    · obtain rfl : k = n := by omega
      simp [List.getD_eq_getElem?_getD, hl]
theorem ofNat_xor (x y : Nat) : UInt8.ofNat (x ^^^ y) = UInt8.ofNat x ^^^ UInt8.ofNat y := by
  apply UInt8.toNat_inj.1
  rw [UInt8.toNat_xor, UInt8.toNat_ofNat', UInt8.toNat_ofNat', UInt8.toNat_ofNat']
  exact Nat.xor_mod_two_pow (n := 8)
theorem addN_again (to : List UInt8) (c d : Nat) (b : List UInt8) (n : Nat) : ∀ k, k ≤ n → addN (addN to c b n) d b k = addN to (c ^^^ d) b k
  | 0, _ => rfl
  | k + 1, h => by
    rw [addN, addN, addN_again to c d b n k (by omega), addN_at to c b n k (by omega), xor_mul, ofNat_xor, UInt8.xor_assoc]
theorem addN_none (to b : List UInt8) : ∀ k, k ≤ to.length → addN to 0 b k = to.take k
  | 0, _ => by simp [addN]
  | k + 1, h => by
    rw [addN, addN_none to b k (by omega), zero_mul, List.take_succ_eq_append_getElem (by omega), List.getD_eq_getElem?_getD, List.getElem?_eq_getElem (by omega)]
    simp
end Gf

set_option maxHeartbeats 4000000 in
set_option maxRecDepth 100000 in
theorem gfAdds_walk0 (A1 : Option Addr) (n1 c1 : Nat) (l1 : List UInt8) (c : Int) (A2 : Option Addr) (n2 c2 : Nat) (l2 : List UInt8) (w : World) (hM : MulC w) (hA : AddC w) (hD : DotC w)
    (hn1 : n1 ≤ c1) (_hc1 : c1 ≤ maxLen) (hb1 : Bytes w w.heap.size A1 n1 l1) (hc : (Lit.int .u8 c).wf = true) (hn2 : n2 ≤ c2) (_hc2 : c2 ≤ maxLen) (hb2 : Bytes w w.heap.size A2 n2 l2) :
    Calls Try.prog 10 #[.slice A1 n1 c1, .int .u8 c, .slice A2 n2 c2] w fun e w' => e = .returned (.bool true) ∧ Below w.heap.size w w' := by
  obtain ⟨x0, x1⟩ := bounds_u8 hc
  obtain ⟨c, rfl⟩ := Int.eq_ofNat_of_zero_le x0
  have hc' : c < 256 := by omega
  have hl1 := hb1.1
  subst hl1
  have hl2 := hb2.1
  subst hl2
  clear hc
  by_cases h1 : (500 : Int) < (l1.length : Int)
  · go_enter Try.func10, Try.ntmps10
    go_wp2_with fail
    refine (alive4_any hM (Ext.refl w)).mono ?_
    rintro e w1 ⟨rfl, hE1⟩
    go_wp2
    go_ret
    exact ⟨rfl, hE1⟩
  by_cases h2 : (500 : Int) < (l2.length : Int)
  · go_enter Try.func10, Try.ntmps10
    go_wp2_with fail
    refine (alive4_any hM (Ext.refl w)).mono ?_
    rintro e w1 ⟨rfl, hE1⟩
    go_wp2
    go_ret
    exact ⟨rfl, hE1⟩
  have P1 := fun W hE hx hy => hA A1 A2 c1 c2 c l1 l2 W hc' hn1 hn2 (by omega) (by omega) hE hx hy
  have P2 := fun W hx hy => refAdd_any A1 A2 c1 c2 c l1 l2 W hc' hx hy (by omega)
  have D1 := fun W hE hx hy => hD A1 A2 c1 c2 l1 l2 W hn1 hn2 (by omega) (by omega) hE hx hy
  have D2 := fun W hx hy => refDot_any A1 A2 c1 c2 l1 l2 W hx hy (by omega)
  generalize Gf.addR l1 c l2 = ra at *
  generalize Gf.dotR l1 l2 = rd at *
  obtain ⟨la, ea⟩ := ra
  obtain ⟨xd, ed⟩ := rd
  dsimp only at *
  go_enter Try.func10, Try.ntmps10
  go_wp2_with fail
  refine (alive4_any hM (Ext.refl w)).mono ?_
  rintro e w1 ⟨rfl, hE1⟩
  go_wp2_with fail
  refine (P1 w1 hE1 (hE1.bytes hb1) (hE1.bytes hb2)).mono ?_
  rintro e w2 ⟨v2, rfl, hO2, hE2⟩
  have k2 := hE1.trans hE2
  go_wp2_with fail
  refine (P2 w2 (k2.bytes hb1) (k2.bytes hb2)).mono ?_
  rintro e w3 ⟨v3, rfl, hO3, hE3⟩
  have k3 := k2.trans hE3
  go_wp2_with fail
  refine (D1 w3 k3 (k3.bytes hb1) (k3.bytes hb2)).mono ?_
  rintro e w4 ⟨rfl, hE4⟩
  have k4 := k3.trans hE4
  go_wp2_with fail
  refine (D2 w4 (k4.bytes hb1) (k4.bytes hb2)).mono ?_
  rintro e w5 ⟨rfl, hE5⟩
  have k5 := k4.trans hE5
  obtain ⟨A3, n3, c3, rfl, _, _, hb3⟩ := hO2.form'
  obtain ⟨A4, n4, c4, rfl, _, _, hb4⟩ := hO3.form'
  clear P1 P2 D1 D2
  go_wp2_with fail
  refine (same_any A3 A4 n3 n4 c3 c4 la la w5 (((hE3.trans hE4).trans hE5).bytes hb3) ((hE4.trans hE5).bytes hb4)).mono ?_
  rintro e w6 ⟨rfl, hE6⟩
  rw [sameB_true rfl]
  go_wp2
  go_ret
  exact ⟨rfl, k5.trans hE6⟩

set_option maxHeartbeats 4000000 in
set_option maxRecDepth 100000 in
theorem gfTwice_walk0 (A1 : Option Addr) (n1 c1 : Nat) (l1 : List UInt8) (c d : Int) (A2 : Option Addr) (n2 c2 : Nat) (l2 : List UInt8) (w : World) (hM : MulC w) (hA : AddC w)
    (hn1 : n1 ≤ c1) (_hc1 : c1 ≤ maxLen) (hb1 : Bytes w w.heap.size A1 n1 l1) (hc : (Lit.int .u8 c).wf = true) (hd : (Lit.int .u8 d).wf = true) (hn2 : n2 ≤ c2) (_hc2 : c2 ≤ maxLen) (hb2 : Bytes w w.heap.size A2 n2 l2) :
    Calls Try.prog 11 #[.slice A1 n1 c1, .int .u8 c, .int .u8 d, .slice A2 n2 c2] w fun e w' => e = .returned (.bool true) ∧ Below w.heap.size w w' := by
  obtain ⟨x0, x1⟩ := bounds_u8 hc
  obtain ⟨y0, y1⟩ := bounds_u8 hd
  obtain ⟨c, rfl⟩ := Int.eq_ofNat_of_zero_le x0
  obtain ⟨d, rfl⟩ := Int.eq_ofNat_of_zero_le y0
  have hc' : c < 256 := by omega
  have hd' : d < 256 := by omega
  have hl1 := hb1.1
  subst hl1
  have hl2 := hb2.1
  subst hl2
  clear hc hd
  by_cases h1 : (500 : Int) < (l1.length : Int)
  · go_enter Try.func11, Try.ntmps11
    go_wp2_with fail
    refine (alive4_any hM (Ext.refl w)).mono ?_
    rintro e w1 ⟨rfl, hE1⟩
    go_wp2
    go_ret
    exact ⟨rfl, hE1⟩
  by_cases hq : l1.length = l2.length
  · have hq' : ((l1.length : Int) != (l2.length : Int)) = false := by simp; omega
    have hcd : c ^^^ d < 256 := Nat.xor_lt_two_pow (n := 8) hc' hd'
    have hxor := u8_xor_nat c d hc' hd'
    have e1 : Gf.addR l1 c l2 = (Gf.addN l1 c l2 l2.length, 0) := by unfold Gf.addR; rw [if_pos hq]
    have hX := Gf.addN_len l1 c l2 l2.length
    have e2 : Gf.addR (Gf.addN l1 c l2 l2.length) c l2 = (l1, 0) := by
      unfold Gf.addR
      rw [if_pos hX, Gf.addN_again l1 c c l2 _ _ (Nat.le_refl _), Nat.xor_self, Gf.addN_none l1 l2 _ (by omega), ← hq, List.take_length]
    have e3 : Gf.addR (Gf.addN l1 c l2 l2.length) d l2 = (Gf.addN l1 (c ^^^ d) l2 l2.length, 0) := by
      unfold Gf.addR
      rw [if_pos hX, Gf.addN_again l1 c d l2 _ _ (Nat.le_refl _)]
    have e4 : Gf.addR l1 (c ^^^ d) l2 = (Gf.addN l1 (c ^^^ d) l2 l2.length, 0) := by unfold Gf.addR; rw [if_pos hq]
    have P1 := fun W hE hx hy => hA A1 A2 c1 c2 c l1 l2 W hc' hn1 hn2 (by omega) (by omega) hE hx hy
    have P2 := fun A c0 W h0 hE hx hy => hA A A2 c0 c2 c (Gf.addN l1 c l2 l2.length) l2 W hc' h0 hn2 (by omega) (by omega) hE hx hy
    have P3 := fun A c0 W h0 hE hx hy => hA A A2 c0 c2 d (Gf.addN l1 c l2 l2.length) l2 W hd' h0 hn2 (by omega) (by omega) hE hx hy
    have P4 := fun W hE hx hy => hA A1 A2 c1 c2 (c ^^^ d) l1 l2 W hcd hn1 hn2 (by omega) (by omega) hE hx hy
    rw [e1] at P1
    rw [e2] at P2
    rw [e3] at P3
    rw [e4] at P4
    have HX := hide hX
    clear e1 e2 e3 e4 hX
    generalize Gf.addN l1 c l2 l2.length = X at *
    generalize Gf.addN l1 (c ^^^ d) l2 l2.length = Z at *
    generalize c ^^^ d = cd at *
    have HQ := hide hq
    clear hq
    go_enter Try.func11, Try.ntmps11
    go_wp2_with fail
    refine (alive4_any hM (Ext.refl w)).mono ?_
    rintro e w1 ⟨rfl, hE1⟩
    go_wp2_with fail
    refine (P1 w1 hE1 (hE1.bytes hb1) (hE1.bytes hb2)).mono ?_
    rintro e w2 ⟨v2, rfl, hO2, hE2⟩
    have k2 := hE1.trans hE2
    obtain ⟨A3, c3, rfl, hc3, _, hb3⟩ := hO2.form
    go_wp2_with fail
    refine (P2 A3 c3 w2 hc3 k2 hb3 (k2.bytes hb2)).mono ?_
    rintro e w3 ⟨v3, rfl, hO3, hE3⟩
    have k3 := k2.trans hE3
    go_wp2_with fail
    refine (P3 A3 c3 w3 hc3 k3 (hE3.bytes hb3) (k3.bytes hb2)).mono ?_
    rintro e w4 ⟨v4, rfl, hO4, hE4⟩
    have k4 := k3.trans hE4
    go_wp2_with fail
    refine (P4 w4 k4 (k4.bytes hb1) (k4.bytes hb2)).mono ?_
    rintro e w5 ⟨v5, rfl, hO5, hE5⟩
    have k5 := k4.trans hE5
    obtain ⟨A6, n6, c6, rfl, _, _, hb6⟩ := hO3.form'
    obtain ⟨A7, n7, c7, rfl, _, _, hb7⟩ := hO4.form'
    obtain ⟨A8, n8, c8, rfl, _, _, hb8⟩ := hO5.form'
    clear P1 P2 P3 P4
    go_wp2_with fail
    refine (same_any A6 A1 n6 l1.length c6 c1 l1 l1 w5 ((hE4.trans hE5).bytes hb6) (k5.bytes hb1)).mono ?_
    rintro e w6 ⟨rfl, hE6⟩
    rw [sameB_true rfl]
    go_wp2_with fail
    refine (same_any A7 A8 n7 n8 c7 c8 Z Z w6 ((hE5.trans hE6).bytes hb7) (hE6.bytes hb8)).mono ?_
    rintro e w7 ⟨rfl, hE7⟩
    rw [sameB_true rfl]
    go_wp2
    go_ret
    exact ⟨rfl, (k5.trans hE6).trans hE7⟩
  · have hq' : ((l1.length : Int) != (l2.length : Int)) = true := by simp; omega
    clear hq
    go_enter Try.func11, Try.ntmps11
    go_wp2_with fail
    refine (alive4_any hM (Ext.refl w)).mono ?_
    rintro e w1 ⟨rfl, hE1⟩
    go_wp2
    go_ret
    exact ⟨rfl, hE1⟩
end Go.Proofs.Ytlelcapbpkccjaa
