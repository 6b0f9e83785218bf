/- The row's reading methods: count, fixed, text. -/
import Derived.Test.YtgnmdpklkmlpfaaCurFirst
namespace Go.Proofs.Ytgnmdpklkmlpfaa
open Go.RowKit
attribute [local go_sem ↓] run_cutR

theorem Num.scan_lt (l : List UInt8) (q : Nat) : (Num.scan l q).1 < 18446744073709551616 := (Num.scan_facts l q).1

set_option maxHeartbeats 2000000 in
set_option maxRecDepth 100000 in
theorem count_any {w : World} {A : Option Addr} {c K : Nat} {l : List UInt8} {most : Int} {cap : Array Value} {R : Ending → World → Prop} (hK : Entered K) (hm : most ≤ 9223372036854775807) (hb : Bytes w w.heap.size A l.length l) (hl : l.length ≤ 1000000) (hc : l.length ≤ c)
    (hR : ∀ e w', R e w' → ∃ er, e = .returned (.int .i64 er))
    (hbad : ∀ er w', Ext w w' → (Num.scan l 0).2.2 = er ∧ er ≠ 0 ∨ (Num.scan l 0).2.2 = 0 ∧ most < ((Num.scan l 0).1 : Int) ∧ er = 6 → R (.returned (.int .i64 er)) w')
    (hok : (Num.scan l 0).2.2 = 0 → ((Num.scan l 0).1 : Int) ≤ most → ∀ w', Ext w w' →
      Calls Try.prog K (#[.int .i64 (((Num.scan l 0).1 : Nat) : Int), .slice (cutAt A c (Num.scan l 0).2.1) (l.length - (Num.scan l 0).2.1) (c - (Num.scan l 0).2.1)] ++ cap) w' R) :
    Calls Try.prog 43 #[.slice A l.length c, .int .i64 most, .func (.func K) #[] cap] w R := by
  have hE1 := extNew w (.cells #[.int .i64 most] 3)
  have hE2 := extNew (w.alloc (.cells #[.int .i64 most] 3)) (.cells #[.func (.func K) #[] cap] 67)
  have hE := hE1.trans hE2
  have hBm : ((w.alloc (.cells #[.int .i64 most] 3)).alloc (.cells #[.func (.func K) #[] cap] 67)).cell? ⟨w.heap.size, 0, none⟩ = some (.int .i64 most) := (hE2.cell (by simp)).trans (cellNew w _ _ _ 0)
  have hBk : ((w.alloc (.cells #[.int .i64 most] 3)).alloc (.cells #[.func (.func K) #[] cap] 67)).cell? ⟨w.heap.size + 1, 0, none⟩ = some (.func (.func K) #[] cap) := by
    have := cellNew (w.alloc (.cells #[.int .i64 most] 3)) #[.func (.func K) #[] cap] 67 (0, 0) 0
    rwa [World.size_alloc] at this
  have H := hide (number_any (K := 56) (cap := #[.pointer (some ⟨w.heap.size, 0, none⟩), .pointer (some ⟨w.heap.size + 1, 0, none⟩)]) (R := R) entered_count1 (hE.bytes hb) hl hc hR
    (fun h0 => count1_any hK hm (Num.scan_lt l 0) hBm hBk hR (fun h6 => hbad 6 _ hE (.inr ⟨h0, h6, rfl⟩)) (fun hle => hok h0 hle _ hE))
    (fun h0 => hbad _ _ hE (.inl ⟨rfl, h0⟩)))
  clear hbad hok hE1 hE2 hE hBm hBk hb
  go_enter Try.func43, Try.ntmps43
  go_wp2_with fail
  refine H.out.mono ?_
  intro e w2 hr
  obtain ⟨er, rfl⟩ := hR _ _ hr
  go_wp2
  exact hr

theorem entered_fixed1 : Entered 58 := entered_of Try.func58 (by kernel_rfl) rfl
theorem Num.low_snoc (l : List UInt8) (c : UInt8) : Num.low (l ++ [c]) = Num.low l + c.toNat * 256 ^ l.length := by
  induction l with
  | nil => simp [Num.low]
  | cons d l ih => rw [List.cons_append, Num.low, Num.low, ih, List.length_cons, Nat.pow_succ, Nat.mul_add, Nat.mul_comm 256 (c.toNat * 256 ^ l.length), Nat.mul_assoc, Nat.add_assoc]
theorem Num.low_take (l : List UInt8) (k : Nat) (h : k < l.length) : Num.low (l.take (k + 1)) = Num.low (l.take k) + (l.getD k 0).toNat * 256 ^ k := by
  rw [List.take_succ_eq_append_getElem h, Num.low_snoc, List.length_take, Nat.min_eq_left (by omega), List.getD_eq_getElem?_getD, List.getElem?_eq_getElem h]
  rfl
theorem Num.or_eight (X i : Nat) (c : UInt8) (hX : X < 256 ^ i) (hi : i < 8) :
    bits .or .u64 (X : Int) (IntKind.u64.wrap ((c.toNat : Int) * 2 ^ (8 * i))) = ((X + c.toNat * 256 ^ i : Nat) : Int) := by
  have hc := c.toNat_lt
  have hp : (256 : Nat) ^ i = 2 ^ (8 * i) := by rw [Nat.pow_mul]
  have hlt : c.toNat * 2 ^ (8 * i) < 2 ^ 64 := by
    have h2 : 2 ^ (8 * i) ≤ 2 ^ 56 := Nat.pow_le_pow_right (by decide) (by omega)
    have h3 : c.toNat * 2 ^ (8 * i) ≤ 255 * 2 ^ 56 := Nat.mul_le_mul (by omega) h2
    omega
  have e2 : IntKind.u64.wrap ((c.toNat : Int) * 2 ^ (8 * i)) = ((c.toNat * 2 ^ (8 * i) : Nat) : Int) := by
    have : (c.toNat : Int) * 2 ^ (8 * i) = ((c.toNat * 2 ^ (8 * i) : Nat) : Int) := by simp only [Int.natCast_mul, Int.natCast_pow]; rfl
    rw [this, IntKind.wrap_u64]
    omega
  have hX' : X < 2 ^ 64 := Nat.lt_of_lt_of_le hX (by rw [hp]; exact Nat.pow_le_pow_right (by decide) (by omega))
  rw [e2, u64_or_nat _ _ hX' hlt, hp, Nat.mul_comm c.toNat, Nat.or_comm, ← Nat.two_pow_add_eq_or_of_lt (by rw [← hp]; exact hX), Nat.add_comm]

set_option maxHeartbeats 2000000 in
set_option maxRecDepth 100000 in
theorem fixed1_any {w : World} {A A2 : Option Addr} {c m c2 K Bk : Nat} {l : List UInt8} {cap : Array Value} {R : Ending → World → Prop} (hK : Entered K) (hb : Bytes w w.heap.size A l.length l) (hl0 : 1 ≤ l.length) (hl : l.length ≤ 8)
    (hBk : w.cell? ⟨Bk, 0, none⟩ = some (.func (.func K) #[] cap)) (hR : ∀ e w', R e w' → ∃ er, e = .returned (.int .i64 er))
    (hok : Calls Try.prog K (#[.int .u64 ((Num.low l : Nat) : Int), .slice A2 m c2] ++ cap) w R) :
    Calls Try.prog 58 #[.slice A l.length c, .slice A2 m c2, .pointer (some ⟨Bk, 0, none⟩)] w R := by
  have hE := fun args W => hK args W
  have H := hide hok
  clear hok
  obtain ⟨_, hb⟩ := hb
  rcases hb with h0 | ⟨blk, off, rfl, hB, hcell⟩
  · omega
  go_enter Try.func58, Try.ntmps58
  go_wp2
  go_loop [6, 11] (fun x i => ∃ (X j : Nat), x = .int .u64 (X : Int) ∧ i = .int .i64 (j : Int) ∧ j ≤ l.length ∧ X = Num.low (l.take j)) (fun _ i => l.length - (intOf i).toNat)
  case atStart => exact ⟨0, 0, rfl, rfl, by omega, by simp [Num.low]⟩
  case round =>
    obtain ⟨X, j, rfl, rfl, hjl, hX⟩ := hrel
    by_cases hlt : j < l.length
    · have hcj := hcell j hlt
      have HT := hide (Num.low_take l j hlt)
      have hXl : X < 256 ^ j := by
        have := Num.low_lt (l.take j)
        rw [List.length_take, Nat.min_eq_left (by omega)] at this
        omega
      have hw8 : IntKind.i64.wrap (8 * (j : Int)) = ((8 * j : Nat) : Int) := by rw [IntKind.wrap_i64]; omega
      have HO := Num.or_eight X j (l.getD j 0) hXl (by omega)
      clear hcell hXl
      rw [← hX] at HT
      have hX' := hide hX
      clear hX
      generalize l.getD j 0 = bt at *
      have hbt := bt.toNat_lt
      generalize X + bt.toNat * 256 ^ j = NX at *
      go_wp2
      go_round
      case rel => exact ⟨NX, j + 1, rfl, by go_num, by omega, HT.out.symm⟩
      case measure => simp [intOf]; omega
    · obtain rfl : j = l.length := by omega
      rw [List.take_length] at hX
      subst hX
      clear hcell
      go_wp2_with fail
      refine H.out.mono ?_
      intro e w2 hr
      obtain ⟨er, rfl⟩ := hR _ _ hr
      go_wp2
      exact hr

set_option maxHeartbeats 2000000 in
set_option maxRecDepth 100000 in
theorem fixed_any {w : World} {A : Option Addr} {c K : Nat} {n : Int} {l : List UInt8} {cap : Array Value} {R : Ending → World → Prop} (hK : Entered K) (hb : Bytes w w.heap.size A l.length l) (hc : l.length ≤ c)
    (hR : ∀ e w', R e w' → ∃ er, e = .returned (.int .i64 er))
    (hbad : ∀ er w', Ext w w' → (n < 1 ∨ 8 < n) ∧ er = 13 ∨ 1 ≤ n ∧ n ≤ 8 ∧ (l.length : Int) < n ∧ er = 1 → R (.returned (.int .i64 er)) w')
    (hok : ∀ k : Nat, n = (k : Int) → 1 ≤ k → k ≤ 8 → k ≤ l.length → ∀ w', Ext w w' → Calls Try.prog K (#[.int .u64 ((Num.low (l.take k) : Nat) : Int), .slice (cutAt A c k) (l.length - k) (c - k)] ++ cap) w' R) :
    Calls Try.prog 46 #[.slice A l.length c, .int .i64 n, .func (.func K) #[] cap] w R := by
  have hE := extNew w (.cells #[.func (.func K) #[] cap] 63)
  by_cases h13 : n < 1 ∨ 8 < n
  · have H := hide (hbad 13 _ hE (.inl ⟨h13, rfl⟩))
    clear hbad hok hE hb
    rcases h13 with h | h
    · go_enter Try.func46, Try.ntmps46
      go_wp2
      exact H.out
    · have h' : ¬ (n < 1) := by omega
      go_enter Try.func46, Try.ntmps46
      go_wp2
      exact H.out
  · have hBk : (w.alloc (.cells #[.func (.func K) #[] cap] 63)).drew.cell? ⟨w.heap.size, 0, none⟩ = some (.func (.func K) #[] cap) := cellNew w _ _ (0, 0) 0
    have hEd := hE.drew
    have H := hide (first_any (w := w.alloc (.cells #[.func (.func K) #[] cap] 63)) (A := A) (m := l.length) (n := n) (K := 58) (cap := #[.pointer (some ⟨w.heap.size, 0, none⟩)]) (R := R) entered_fixed1 hc hR
      (fun h => absurd h (by omega)) (fun h => hbad 1 _ hE (.inr ⟨by omega, by omega, h, rfl⟩)) (fun k hk hkm => by
        have hbk := (hb.drop (k := 0) (c := c) (by omega) hc)
        rw [List.drop_zero, Nat.sub_zero] at hbk
        have h1 := hEd.bytes (hbk.take hkm)
        have hlk : (l.take k).length = k := by rw [List.length_take]; omega
        rw [← hlk] at h1
        have := fixed1_any (A := cutAt A c 0) (c := c) (A2 := cutAt A c k) (m := l.length - k) (c2 := c - k) (Bk := w.heap.size) hK (by rw [hlk] at h1 ⊢; exact h1) (by omega) (by omega) hBk hR (hok k hk (by omega) (by omega) hkm _ hEd)
        rwa [hlk] at this))
    have h1 : ¬ (n < 1) := by omega
    have h8 : ¬ (8 < n) := by omega
    clear hbad hok hE hBk hb hEd h13
    go_enter Try.func46, Try.ntmps46
    go_wp2_with fail
    refine H.out.mono ?_
    intro e w2 hr
    obtain ⟨er, rfl⟩ := hR _ _ hr
    go_wp2
    exact hr

theorem entered_text1 : Entered 60 := entered_of Try.func60 (by kernel_rfl) rfl
set_option maxHeartbeats 2000000 in
set_option maxRecDepth 100000 in
theorem text_any {w : World} {A : Option Addr} {c K : Nat} {l : List UInt8} {most : Int} {cap : Array Value} {R : Ending → World → Prop} (hK : Entered K) (hm : most ≤ 9223372036854775807) (hb : Bytes w w.heap.size A l.length l) (hl : l.length ≤ 1000000) (hc : l.length ≤ c)
    (hR : ∀ e w', R e w' → ∃ er, e = .returned (.int .i64 er))
    (hbad : ∀ er w', Ext w w' → (Num.scan l 0).2.2 = er ∧ er ≠ 0 ∨ (Num.scan l 0).2.2 = 0 ∧ most < ((Num.scan l 0).1 : Int) ∧ er = 6 ∨ (Num.scan l 0).2.2 = 0 ∧ ((Num.scan l 0).1 : Int) ≤ most ∧ l.length - (Num.scan l 0).2.1 < (Num.scan l 0).1 ∧ er = 1 → R (.returned (.int .i64 er)) w')
    (hok : (Num.scan l 0).2.2 = 0 → ((Num.scan l 0).1 : Int) ≤ most → (Num.scan l 0).1 ≤ l.length - (Num.scan l 0).2.1 → ∀ w', Ext w w' →
      Calls Try.prog K (#[.slice (cutAt (cutAt A c (Num.scan l 0).2.1) (c - (Num.scan l 0).2.1) 0) (Num.scan l 0).1 (c - (Num.scan l 0).2.1), .slice (cutAt (cutAt A c (Num.scan l 0).2.1) (c - (Num.scan l 0).2.1) (Num.scan l 0).1) (l.length - (Num.scan l 0).2.1 - (Num.scan l 0).1) (c - (Num.scan l 0).2.1 - (Num.scan l 0).1)] ++ cap) w' R) :
    Calls Try.prog 52 #[.slice A l.length c, .int .i64 most, .func (.func K) #[] cap] w R := by
  have hE := extNew w (.cells #[.func (.func K) #[] cap] 72)
  have hBk : (w.alloc (.cells #[.func (.func K) #[] cap] 72)).cell? ⟨w.heap.size, 0, none⟩ = some (.func (.func K) #[] cap) := cellNew w _ _ (0, 0) 0
  have H := hide (count_any (w := w.alloc (.cells #[.func (.func K) #[] cap] 72)) (K := 60) (cap := #[.pointer (some ⟨w.heap.size, 0, none⟩)]) (R := R) entered_text1 hm (hE.bytes hb) hl hc hR
    (fun er w' hE' h => hbad er w' (hE.trans hE') (by rcases h with h | h; exact .inl h; exact .inr (.inl h)))
    (fun h0 hle w' hE' => by
      have hBk' := (hE'.cell (i := 0) (by simp)).trans hBk
      have hn := Num.scan_facts l 0
      have F := hide (first_any (w := w') (A := cutAt A c (Num.scan l 0).2.1) (c := c - (Num.scan l 0).2.1) (m := l.length - (Num.scan l 0).2.1) (n := (((Num.scan l 0).1 : Nat) : Int)) (K := K) (cap := cap) (R := R) hK (by omega) hR
        (fun h => absurd h (by omega)) (fun h => hbad 1 w' (hE.trans hE') (.inr (.inr ⟨h0, hle, by omega, rfl⟩)))
        (fun k hk hkm => by
          obtain rfl : (Num.scan l 0).1 = k := by omega
          exact hok h0 hle hkm _ (hE.trans hE'.drew)))
      clear hbad hok hE hE' hb hn
      generalize cutAt A c (Num.scan l 0).2.1 = A' at *
      generalize c - (Num.scan l 0).2.1 = c' at *
      generalize l.length - (Num.scan l 0).2.1 = m' at *
      generalize (Num.scan l 0).1 = x at *
      show Calls Try.prog 60 #[_, _, _] _ _
      go_enter Try.func60, Try.ntmps60
      go_wp2_with fail
      refine F.out.mono ?_
      intro e w2 hr
      obtain ⟨er, rfl⟩ := hR _ _ hr
      go_wp2
      exact hr))
  clear hbad hok hE hBk hb
  go_enter Try.func52, Try.ntmps52
  go_wp2_with fail
  refine H.out.mono ?_
  intro e w2 hr
  obtain ⟨er, rfl⟩ := hR _ _ hr
  go_wp2
  exact hr
end Go.Proofs.Ytgnmdpklkmlpfaa
