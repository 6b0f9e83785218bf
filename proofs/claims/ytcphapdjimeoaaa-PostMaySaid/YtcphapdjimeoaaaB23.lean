/- The document's functions of chapter 17: Weight, Check, Great, Same. -/
import Derived.Test.YtcphapdjimeoaaaB02
import Derived.Test.YtcphapdjimeoaaaB13
import Derived.BigQuiet
import Derived.OwnWalk
namespace Go.Proofs.Ytcphapdjimeoaaa
open Go.RowKit Rcs

attribute [local go_sem ↓] run_txtAt run_txtLen run_txtCut
set_option maxHeartbeats 2000000 in
set_option maxRecDepth 10000 in
theorem refWeight17_any (A : Option Addr) (n c : Nat) (l : List Rc) (w : World) (h : RcsAt w w.heap.size A n l) (hn : n ≤ maxLen) : Calls Try.prog 23 #[.slice A n c] w fun e w' => e = .returned (.int .i64 (wgtF 0 l : Int)) ∧ Qt w w' := by
  have hl := h.1
  have H0 := hide (show wgtF 0 l = wgtF 0 (l.drop 0) from rfl)
  have HSt := hide (fun (i sum : Nat) (hi : i < n) => wgt_step (l := l) (i := i) (sum := sum) (by omega))
  have HEnd := hide (show ∀ sum, wgtF sum (l.drop n) = sum from fun sum => by rw [List.drop_eq_nil_of_le (by omega)]; rfl)
  have HOk := hide (fun (i : Nat) (hi : i < n) => h.okAt hi)
  have HA := hide h
  unfold maxLen at hn
  generalize wgtF 0 l = res at *
  clear h hl
  go_enter Try.func23, Try.ntmps23
  go_wp2
  go_loopw [4, 3] (fun x y wr => ∃ i sum : Nat, i ≤ n ∧ x = .int .i64 (i : Int) ∧ y = .int .i64 (sum : Int) ∧ sum ≤ 3298534883344 ∧ res = wgtF sum (l.drop i) ∧ Qt w wr) (fun x _ _ => n - (intOf x).toNat)
  case atStart => exact ⟨0, 0, by omega, rfl, rfl, by omega, H0.out, Qt.refl _⟩
  case round =>
    clear H0
    obtain ⟨i, sum, hi, rfl, rfl, hs, hres, hQ⟩ := hrel
    by_cases hlt : i < n
    · have hiI : (i : Int) < (n : Int) := by omega
      rcases (HA.out.later hQ.ext).2.1 with hn0 | ⟨b1, o1, rfl, _, hc1⟩
      · omega
      obtain ⟨-, -, e2, e3⟩ := hc1 i hlt
      rw [HSt.out i sum hlt] at hres
      obtain ⟨-, k1, k2⟩ := HOk.out i hlt
      unfold maxLen at k1 k2
      obtain ⟨s, hs0⟩ : ∃ s, s = (l.getD i default).src := ⟨_, rfl⟩
      obtain ⟨t, ht0⟩ : ∃ t, t = (l.getD i default).text := ⟨_, rfl⟩
      rw [← hs0] at e2 hres k1
      rw [← ht0] at e3 hres k2
      have HRes := hide hres
      clear hc1 hs0 ht0 hres
      have HQ := hide hQ
      clear hQ
      by_cases b1' : 1099511627776 < sum
      · have bI : (1099511627776 : Int) < (sum : Int) := by omega
        have HR := hide (show res = 2199023255552 by rw [HRes.out, if_pos (.inl b1')])
        clear b1' HRes
        go_wp2
        go_ret
        rw [HR.out]
        exact ⟨rfl, HQ.out⟩
      have bI : ¬ (1099511627776 : Int) < (sum : Int) := by omega
      by_cases b2' : 1099511627776 < s.length
      · have cI : (1099511627776 : Int) < (s.length : Int) := by omega
        have HR := hide (show res = 2199023255552 by rw [HRes.out, if_pos (.inr (.inl b2'))])
        clear b1' b2' HRes
        go_wp2
        go_ret
        rw [HR.out]
        exact ⟨rfl, HQ.out⟩
      have cI : ¬ (1099511627776 : Int) < (s.length : Int) := by omega
      by_cases b3' : 1099511627776 < t.length
      · have dI : (1099511627776 : Int) < (t.length : Int) := by omega
        have HR := hide (show res = 2199023255552 by rw [HRes.out, if_pos (.inr (.inr b3'))])
        clear b1' b2' b3' HRes
        go_wp2
        go_ret
        rw [HR.out]
        exact ⟨rfl, HQ.out⟩
      have dI : ¬ (1099511627776 : Int) < (t.length : Int) := by omega
      have HR := hide (show res = wgtF (sum + 16 + s.length + t.length) (l.drop (i + 1)) by rw [HRes.out, if_neg (by omega)])
      have w1 : IntKind.i64.wrap ((sum : Int) + 16) = (sum : Int) + 16 := by rw [IntKind.wrap_i64]; omega
      have w2 : IntKind.i64.wrap ((sum : Int) + 16 + (s.length : Int)) = (sum : Int) + 16 + (s.length : Int) := by rw [IntKind.wrap_i64]; omega
      have w3 : IntKind.i64.wrap ((sum : Int) + 16 + (s.length : Int) + (t.length : Int)) = ((sum + 16 + s.length + t.length : Nat) : Int) := by rw [IntKind.wrap_i64]; omega
      have hs' : sum + 16 + s.length + t.length ≤ 3298534883344 := by omega
      clear b1' b2' b3' HRes k1 k2
      generalize hz : sum + 16 + s.length + t.length = z at *
      go_wp2_with fail
      go_quiet (fail)
      clear w1 w2 w3
      go_wp2
      go_roundw
      case rel => exact ⟨i + 1, z, by omega, by go_num, by first | rfl | (rw [← hz]; rfl) | (rw [← hz]; congr 1; omega), hs', by rw [← hz] at *; exact HR.out, HQ.out.drewN _⟩
      case measure => simp [intOf]; omega
    · have hiI : ¬ (i : Int) < (n : Int) := by omega
      obtain rfl : i = n := by omega
      rw [HEnd.out] at hres
      subst hres
      clear hlt
      go_wp2
      go_ret
      exact ⟨rfl, hQ⟩

set_option maxHeartbeats 2000000 in
set_option maxRecDepth 10000 in
theorem refGreat17_any (A : Option Addr) (n c : Nat) (l : List Rc) (records bytes : Int) (w : World) (h : RcsAt w w.heap.size A n l) (hn : n ≤ maxLen) : Calls Try.prog 9 #[.slice A n c, .int .i64 records, .int .i64 bytes] w fun e w' => e = .returned (.bool (greatE l records bytes)) ∧ Qt w w' := by
  have CW := refWeight17_any A n c l w h hn
  have hl := h.1
  unfold greatE
  rw [hl]
  generalize wgtF 0 l = g at *
  clear h hl hn
  by_cases h1 : records < (n : Int)
  · rw [decide_eq_true (.inl h1)]
    clear CW
    go_enter Try.func9, Try.ntmps9
    go_wp2
    go_ret
    exact ⟨rfl, Qt.refl _⟩
  · by_cases h2 : bytes < (g : Int)
    · rw [decide_eq_true (.inr h2)]
      go_enter Try.func9, Try.ntmps9
      go_wp2_with fail
      refine CW.mono ?_
      rintro e w1 ⟨rfl, hQ1⟩
      go_wp2
      go_ret
      exact ⟨rfl, hQ1⟩
    · rw [decide_eq_false (by omega)]
      go_enter Try.func9, Try.ntmps9
      go_wp2_with fail
      refine CW.mono ?_
      rintro e w1 ⟨rfl, hQ1⟩
      go_wp2
      go_ret
      exact ⟨ret_bool (decide_eq_false (by omega)), hQ1⟩
end Go.Proofs.Ytcphapdjimeoaaa

