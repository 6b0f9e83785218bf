/- Contracts of the row of bits: number and zerosFrom. The document's functions of chapter 16: Find, Begins, Range, Alike. The document's functions of chapter 16: Alike, May. The document's functions of chapter 15: Small, Words, One, Term. The document's functions of chapter 15: One, Term, Same, Has. The document's Same of chapter 9: two slices of numbers. The document's Write of chapter 16. The document's functions of chapter 15: Put, Terms. The document's Terms of chapter 15. The program's small functions of chapter 16: maySize, mayFollow, isRow, same. -/
import Derived.Test.YtcphapdjimeoaaaB01
import Derived.Test.YtcphapdjimeoaaaB03
import Derived.Deep.QuietTactic
import Derived.BigQuiet
import Derived.OwnWalk
namespace Go.Proofs.Ytcphapdjimeoaaa
open Go.RowKit

theorem Bit.take_byte (X d k t : Nat) (c : UInt8) (hX : X < 2 ^ d) (hd : d + k ≤ 64) (hk : k ≤ 8) :
    bits .or .u64 (IntKind.u64.wrap ((X : Int) * 2 ^ k)) (bits .and .u64 (IntKind.u64.wrap (c.toNat : Int) / 2 ^ t) (IntKind.u64.wrap (IntKind.u64.wrap (2 ^ k) - 1))) = ((X * 2 ^ k + c.toNat / 2 ^ t % 2 ^ k : Nat) : Int) := by
  have hc := c.toNat_lt
  have hXk : X * 2 ^ k < 2 ^ 64 := by
    have h1 : X * 2 ^ k < 2 ^ d * 2 ^ k := Nat.mul_lt_mul_of_pos_right hX (Nat.two_pow_pos k)
    rw [← Nat.pow_add] at h1
    exact Nat.lt_of_lt_of_le h1 (Nat.pow_le_pow_right (by omega) hd)
  have hk2 : 2 ^ k ≤ 256 := Nat.pow_le_pow_right (n := 2) (by omega) hk
  have hk0 : 0 < 2 ^ k := Nat.two_pow_pos k
  have e1 : IntKind.u64.wrap ((X : Int) * 2 ^ k) = ((X * 2 ^ k : Nat) : Int) := by
    have : (X : Int) * 2 ^ k = ((X * 2 ^ k : Nat) : Int) := by simp only [Int.natCast_mul, Int.natCast_pow]; rfl
    rw [this, IntKind.wrap_u64]
    omega
  have e2 : IntKind.u64.wrap (c.toNat : Int) / 2 ^ t = ((c.toNat / 2 ^ t : Nat) : Int) := by
    have h1 : IntKind.u64.wrap (c.toNat : Int) = (c.toNat : Int) := by rw [IntKind.wrap_u64]; omega
    rw [h1]
    simp only [Int.natCast_ediv, Int.natCast_pow]; rfl
  have e3 : IntKind.u64.wrap (IntKind.u64.wrap (2 ^ k) - 1) = ((2 ^ k - 1 : Nat) : Int) := by
    have : (2 : Int) ^ k = ((2 ^ k : Nat) : Int) := by simp only [Int.natCast_pow]; rfl
    rw [this, IntKind.wrap_u64, IntKind.wrap_u64]
    omega
  have hdiv : c.toNat / 2 ^ t < 2 ^ 64 := Nat.lt_of_le_of_lt (Nat.div_le_self _ _) (by omega)
  rw [e1, e2, e3, u64_and_nat _ _ hdiv (by omega), Nat.and_two_pow_sub_one_eq_mod]
  have hm : c.toNat / 2 ^ t % 2 ^ k < 2 ^ k := Nat.mod_lt _ hk0
  rw [u64_or_nat _ _ hXk (by omega), Nat.mul_comm X, ← Nat.two_pow_add_eq_or_of_lt hm]

end Go.Proofs.Ytcphapdjimeoaaa

namespace Go.Proofs.Ytcphapdjimeoaaa
open Go.RowKit Wrd Dic

attribute [local go_sem ↓] run_txtAt run_txtLen run_txtCut run_txtTop
theorem findF_step {s : List UInt8} {L : List (List UInt8)} {i : Nat} (h : i < L.length) : findF s (L.drop i) i = if L.getD i [] = s then (i, true) else findF s (L.drop (i + 1)) (i + 1) := by
  rw [List.drop_eq_getElem_cons h, findF, List.getD_eq_getElem?_getD, List.getElem?_eq_getElem h]
  rfl
theorem rangeF_step {s : List UInt8} {L : List (List UInt8)} {i : Nat} (h : i < L.length) : rangeF s (L.drop i) i = if beginsB (L.getD i []) s = true then (i, if (rangeF s (L.drop (i + 1)) (i + 1)).2 = 0 then i + 1 else (rangeF s (L.drop (i + 1)) (i + 1)).2) else rangeF s (L.drop (i + 1)) (i + 1) := by
  rw [List.drop_eq_getElem_cons h, rangeF, List.getD_eq_getElem?_getD, List.getElem?_eq_getElem h]
  rfl
end Go.Proofs.Ytcphapdjimeoaaa

namespace Go.Proofs.Ytcphapdjimeoaaa
open Go.RowKit Wrd Dic

theorem Dic.alike_at : ∀ (a b : List UInt8) (i : Nat), i ≤ alike a b → alike a b = i + alike (a.drop i) (b.drop i)
  | _, _, 0, _ => by simp
  | [], _, i + 1, h => by simp [alike] at h
  | _ :: _, [], i + 1, h => by simp [alike] at h
  | a :: s, b :: t, i + 1, h => by
    rw [alike] at h ⊢
    split
    · rename_i e
      rw [if_pos e] at h
      have := alike_at s t i (by omega)
      rw [List.drop_succ_cons, List.drop_succ_cons]
      omega
    · rename_i e
      rw [if_neg e] at h
      omega
theorem Dic.alike_step {a b : List UInt8} {i : Nat} (h1 : i < a.length) (h2 : i < b.length) : alike (a.drop i) (b.drop i) = if a[i] = b[i] then alike (a.drop (i + 1)) (b.drop (i + 1)) + 1 else 0 := by
  rw [List.drop_eq_getElem_cons h1, List.drop_eq_getElem_cons h2, alike]
attribute [local go_sem ↓] run_txtAt run_txtLen run_txtCut run_txtTop
set_option maxHeartbeats 1000000 in
set_option maxRecDepth 10000 in
theorem refAlike_any (a b : List UInt8) (w : World) (ha : a.length ≤ 1000000) : Calls Try.prog 61 #[.string ⟨a.toArray⟩, .string ⟨b.toArray⟩] w fun e w' => e = .returned (.int .i64 (alike a b : Int)) ∧ Qt w w' := by
  have H0 := hide (show alike a b = 0 + alike (a.drop 0) (b.drop 0) by simp)
  have HSt := hide (fun (i : Nat) (h1 : i < a.length) (h2 : i < b.length) => alike_step h1 h2)
  have HEa := hide (show ∀ t, alike (a.drop a.length) t = 0 from fun t => by rw [List.drop_length]; simp [alike])
  have HEb := hide (show ∀ t i, b.length ≤ i → alike t (b.drop i) = 0 from fun t i h => by rw [List.drop_of_length_le h]; cases t <;> simp [alike])
  generalize alike a b = res at *
  go_enter Try.func61, Try.ntmps61
  go_wp2
  go_loopw [5] (fun y wr => ∃ i : Nat, i ≤ a.length ∧ y = .int .i64 (i : Int) ∧ res = i + alike (a.drop i) (b.drop i) ∧ Qt w wr) (fun y _ => a.length - (intOf y).toNat)
  case atStart => exact ⟨0, by omega, rfl, H0.out, Qt.refl _⟩
  case round =>
    clear H0
    obtain ⟨i, hi, rfl, hres, hQ⟩ := hrel
    have HR := hide hres
    clear hres
    by_cases hlt : i < a.length
    · have hiI : (i : Int) < (a.length : Int) := by omega
      by_cases hlb : i < b.length
      · have hbI : (i : Int) < (b.length : Int) := by omega
        have hd0 : decide ((b.length : Int) ≤ (i : Int)) = false := decide_eq_false (by omega)
        have hst := HSt.out i hlt hlb
        obtain ⟨x, hx⟩ : ∃ x, a[i]'hlt = x := ⟨_, rfl⟩
        obtain ⟨y, hy⟩ : ∃ y, b[i]'hlb = y := ⟨_, rfl⟩
        rw [hx, hy] at hst
        by_cases hxy : x = y
        · rw [if_pos hxy] at hst
          have HS := hide (show res = (i + 1) + alike (a.drop (i + 1)) (b.drop (i + 1)) by rw [HR.out, hst]; omega)
          have hne : ((x.toNat : Int) != (y.toNat : Int)) = false := by rw [hxy]; simp
          clear hst hxy
          go_wp2_with fail
          go_quiet (fail)
          go_wp2
          go_roundw
          case rel => exact ⟨i + 1, by omega, by go_num, HS.out, hQ.drewN _⟩
          case measure => simp [intOf]; omega
        · rw [if_neg hxy] at hst
          have HS := hide (show res = i by rw [HR.out, hst]; rfl)
          have hne : ((x.toNat : Int) != (y.toNat : Int)) = true := by
            rw [bne_iff_ne]
            intro h
            exact hxy (UInt8.toNat_inj.1 (by omega))
          clear hst hxy
          go_wp2_with fail
          go_quiet (fail)
          go_wp2
          go_ret
          rw [HS.out]
          exact ⟨rfl, hQ.drewN _⟩
      · have hd0 : decide ((b.length : Int) ≤ (i : Int)) = true := decide_eq_true (by omega)
        have HS := hide (show res = i by rw [HR.out, HEb.out _ i (by omega)]; rfl)
        go_wp2_with fail
        go_quiet (fail)
        go_wp2
        go_ret
        rw [HS.out]
        exact ⟨rfl, hQ.drewN _⟩
    · obtain rfl : i = a.length := by omega
      have HS := hide (show res = a.length by rw [HR.out, HEa.out]; rfl)
      go_wp2
      go_ret
      rw [HS.out]
      exact ⟨rfl, hQ⟩

theorem Dic.rises_of : ∀ (l : List (List UInt8)), (∀ i, i + 1 < l.length → Op.bytesLess (l.getD i []) (l.getD (i + 1) []) = true) → risesB l = true
  | [], _ => rfl
  | [_], _ => rfl
  | a :: b :: t, h => by
    rw [risesB, Bool.and_eq_true]
    refine ⟨h 0 (by simp), rises_of (b :: t) fun i hi => ?_⟩
    have := h (i + 1) (by simpa using hi)
    rwa [List.getD_cons_succ, List.getD_cons_succ] at this
theorem Dic.may_yes {l : List (List UInt8)} (h0 : l.length ≤ 1048576) (h : ∀ i, i < l.length → (1 ≤ (l.getD i []).length ∧ (l.getD i []).length ≤ 25) ∧ (0 < i → Op.bytesLess (l.getD (i - 1) []) (l.getD i []) = true)) : mayD l = true := by
  refine may_of h0 (fun s hs => ?_) ((rises_iff l).1 (rises_of l fun i hi => (h (i + 1) hi).2 (by omega)))
  obtain ⟨i, hi, rfl⟩ := List.getElem_of_mem hs
  have := (h i hi).1
  rwa [List.getD_eq_getElem?_getD, List.getElem?_eq_getElem hi] at this
theorem Dic.may_no {l : List (List UInt8)} {i : Nat} (hi : i < l.length) (h : (l.getD i []).length < 1 ∨ 25 < (l.getD i []).length ∨ (0 < i ∧ (Op.bytesLess (l.getD i []) (l.getD (i - 1) []) || l.getD i [] == l.getD (i - 1) []) = true)) : mayD l = false := by
  cases hm : mayD l with
  | false => rfl
  | true =>
    exfalso
    obtain ⟨_, h2, h3⟩ := may_facts hm
    have hmem := h2 (l.getD i []) (by rw [List.getD_eq_getElem?_getD, List.getElem?_eq_getElem hi]; exact List.getElem_mem _)
    rcases h with h | h | ⟨h0, h⟩
    · omega
    · omega
    · have hl := rise_lt h3 (show i - 1 < i by omega) hi
      rw [Bool.or_eq_true, beq_iff_eq] at h
      rcases h with h | h
      · have := less_trans _ _ _ hl h
        rw [less_self] at this
        cases this
      · rw [h, less_self] at hl
        cases hl

set_option maxHeartbeats 2000000 in
set_option maxRecDepth 10000 in
theorem refMay16_any (A : Option Addr) (n c : Nat) (L : List (List UInt8)) (w : World) (h : TextsAt w w.heap.size A n L) (hn : n ≤ 1048576) (hs : ∀ s, s ∈ L → s.length ≤ 1000000) :
    Calls Try.prog 29 #[.slice A n c] w fun e w' => e = .returned (.bool (mayD L)) ∧ Qt w w' := by
  have hl := h.1
  have HA := hide h
  have hnI : ¬ (1048576 : Int) < (n : Int) := by omega
  have HYes := hide (show (∀ i, i < n → (1 ≤ (L.getD i []).length ∧ (L.getD i []).length ≤ 25) ∧ (0 < i → Op.bytesLess (L.getD (i - 1) []) (L.getD i []) = true)) → mayD L = true from fun h => may_yes (by omega) (by rw [hl]; exact h))
  have HNo := hide (fun (i : Nat) (hi : i < n) => may_no (l := L) (i := i) (by omega))
  have HLe := hide (show ∀ i, i < n → (L.getD i []).length ≤ 1000000 from fun i hi => hs _ (by
    rw [List.getD_eq_getElem?_getD, List.getElem?_eq_getElem (by omega)]
    exact List.getElem_mem _))
  generalize mayD L = res at *
  clear h hl hs
  go_enter Try.func29, Try.ntmps29
  go_wp2
  go_loopw [3] (fun x wr => ∃ i : Nat, i ≤ n ∧ x = .int .i64 (i : Int) ∧ (∀ j, j < i → (1 ≤ (L.getD j []).length ∧ (L.getD j []).length ≤ 25) ∧ (0 < j → Op.bytesLess (L.getD (j - 1) []) (L.getD j []) = true)) ∧ Qt w wr) (fun x _ => n - (intOf x).toNat)
  case atStart => exact ⟨0, by omega, rfl, fun j hj => absurd hj (by omega), Qt.refl _⟩
  case round =>
    obtain ⟨i, hi, rfl, hall, hQ⟩ := hrel
    have HAll := hide hall
    clear hall
    by_cases hlt : i < n
    · have hiI : (i : Int) < (n : Int) := by omega
      rcases (HA.out.later hQ.ext).2 with hn0 | ⟨b1, o1, rfl, _, hc1⟩
      · omega
      have e1 := hc1 i hlt
      have HNi := hide (HNo.out i hlt)
      have HNext := hide (show ((1 ≤ (L.getD i []).length ∧ (L.getD i []).length ≤ 25) ∧ (0 < i → Op.bytesLess (L.getD (i - 1) []) (L.getD i []) = true)) → ∀ j, j < i + 1 → (1 ≤ (L.getD j []).length ∧ (L.getD j []).length ≤ 25) ∧ (0 < j → Op.bytesLess (L.getD (j - 1) []) (L.getD j []) = true) from fun h j hj => by
        by_cases e : j = i
        · rw [e]; exact h
        · exact HAll.out j (by omega))
      obtain ⟨j, hj⟩ : ∃ j, j = i - 1 := ⟨_, rfl⟩
      have HC2 := hide (show 0 < i → wr.cell? ⟨b1, o1 + j, none⟩ = some (.string ⟨(L.getD j []).toArray⟩) from fun h => hc1 j (by omega))
      rw [← hj] at HNi HNext
      obtain ⟨y, hy⟩ : ∃ y, y = L.getD i [] := ⟨_, rfl⟩
      obtain ⟨z, hz⟩ : ∃ z, z = L.getD j [] := ⟨_, rfl⟩
      rw [← hy] at e1 HNi HNext
      rw [← hz] at HNi HNext HC2
      have HJ := hide hj
      clear hc1 hy hz hj
      by_cases g1 : y.length < 1
      · have hd1 : decide ((y.length : Int) < 1) = true := decide_eq_true (by omega)
        have HR := hide (HNi.out (.inl g1))
        clear HNext HNi HC2 g1
        go_wp2_with fail
        go_quiet (fail)
        go_wp2
        go_ret
        exact ⟨ret_bool HR.out.symm, hQ.drewN _⟩
      have hd1 : decide ((y.length : Int) < 1) = false := decide_eq_false (by omega)
      by_cases g2 : 25 < y.length
      · have hd2 : decide ((25 : Int) < (y.length : Int)) = true := decide_eq_true (by omega)
        have HR := hide (HNi.out (.inr (.inl g2)))
        clear HNext HNi HC2 g1 g2
        go_wp2_with fail
        go_quiet (fail)
        go_wp2
        go_ret
        exact ⟨ret_bool HR.out.symm, hQ.drewN _⟩
      have hd2 : decide ((25 : Int) < (y.length : Int)) = false := decide_eq_false (by omega)
      rcases Nat.eq_zero_or_pos i with hi0 | hi0
      · have hd0 : decide ((0 : Int) < (i : Int)) = false := decide_eq_false (by omega)
        have hdn : decide (0 < i) = false := decide_eq_false (by omega)
        have hNx := hide (HNext.out ⟨⟨by omega, by omega⟩, fun h => absurd h (by omega)⟩)
        clear HNext HNi HC2 g1 g2 hi0
        go_wp2_with fail
        go_quiet (fail)
        go_wp2
        go_roundw
        case rel => exact ⟨i + 1, by omega, by go_num, hNx.out, hQ.drewN _⟩
        case measure => simp [intOf]; omega
      have hd0 : decide ((0 : Int) < (i : Int)) = true := decide_eq_true (by omega)
      have hdn : decide (0 < i) = true := decide_eq_true hi0
      have e2 := HC2.out hi0
      have hji : (i : Int) - 1 = (j : Int) := by have := HJ.out; omega
      have hj0 : (0 : Int) < (i : Int) := by omega
      have hjn : (j : Int) < (n : Int) := by omega
      cases hle : (Op.bytesLess y z || y == z) with
      | true =>
        have HR := hide (HNi.out (.inr (.inr ⟨hi0, hle⟩)))
        clear HNext HNi HC2 g1 g2 hi0
        go_wp2_with fail
        go_quiet (fail)
        go_wp2
        go_ret
        exact ⟨ret_bool HR.out.symm, hQ.drewN _⟩
      | false =>
        have hNx := hide (HNext.out ⟨⟨by omega, by omega⟩, fun _ => by
          rw [Bool.or_eq_false_iff, beq_eq_false_iff_ne] at hle
          exact less_total y z hle.1 hle.2⟩)
        clear HNext HNi HC2 g1 g2 hi0
        go_wp2_with fail
        go_quiet (fail)
        go_wp2
        go_roundw
        case rel => exact ⟨i + 1, by omega, by go_num, hNx.out, hQ.drewN _⟩
        case measure => simp [intOf]; omega
    · obtain rfl : n = i := by omega
      have HN := hide (HYes.out HAll.out)
      go_wp2
      go_ret
      exact ⟨ret_bool HN.out.symm, hQ⟩
end Go.Proofs.Ytcphapdjimeoaaa

namespace Go.Proofs.Ytcphapdjimeoaaa
open Go.RowKit Wrd

attribute [local go_sem ↓] run_txtAt run_txtLen run_txtCut
set_option maxHeartbeats 1000000 in
theorem refSmall_any (c : UInt8) (w : World) : Calls Try.prog 67 #[.int .u8 (c.toNat : Int)] w fun e w' => e = .returned (.int .u8 ((small c).toNat : Int)) ∧ w = w' := by
  have hc : c.toNat < 256 := c.toNat_lt
  have hs : small c = if (97 ≤ c.toNat ∧ c.toNat ≤ 122) ∨ (48 ≤ c.toNat ∧ c.toNat ≤ 57) then c else if 65 ≤ c.toNat ∧ c.toNat ≤ 90 then c + 32 else 0 := rfl
  have h32 : c.toNat ≤ 90 → (c + 32).toNat = c.toNat + 32 := fun h => by rw [UInt8.toNat_add]; show (c.toNat + 32) % 256 = _; omega
  by_cases a1 : 97 ≤ c.toNat ∧ c.toNat ≤ 122
  · rw [if_pos (.inl a1)] at hs
    rw [hs]
    obtain ⟨n, hn⟩ : ∃ n, n = c.toNat := ⟨_, rfl⟩
    rw [← hn] at a1 ⊢
    have b1 : (97 : Int) ≤ (n : Int) := by omega
    have b2 : (n : Int) ≤ (122 : Int) := by omega
    clear hn hs h32 hc a1
    go_enter Try.func67, Try.ntmps67
    go_wp2
    go_ret
    exact ⟨rfl, rfl⟩
  by_cases a2 : 48 ≤ c.toNat ∧ c.toNat ≤ 57
  · rw [if_pos (.inr a2)] at hs
    rw [hs]
    obtain ⟨n, hn⟩ : ∃ n, n = c.toNat := ⟨_, rfl⟩
    rw [← hn] at a2 ⊢
    have b1 : ¬ (97 : Int) ≤ (n : Int) := by omega
    have b2 : (48 : Int) ≤ (n : Int) := by omega
    have b3 : (n : Int) ≤ (57 : Int) := by omega
    clear hn hs h32 hc a2 a1
    go_enter Try.func67, Try.ntmps67
    go_wp2
    go_ret
    exact ⟨rfl, rfl⟩
  rw [if_neg (by omega)] at hs
  by_cases a3 : 65 ≤ c.toNat ∧ c.toNat ≤ 90
  · rw [if_pos a3] at hs
    rw [hs, h32 a3.2]
    obtain ⟨n, hn⟩ : ∃ n, n = c.toNat := ⟨_, rfl⟩
    rw [← hn] at a3 ⊢
    have b1 : ¬ (97 : Int) ≤ (n : Int) := by omega
    have b2 : (48 : Int) ≤ (n : Int) := by omega
    have b3 : ¬ (n : Int) ≤ (57 : Int) := by omega
    have b4 : (65 : Int) ≤ (n : Int) := by omega
    have b5 : (n : Int) ≤ (90 : Int) := by omega
    have hw : IntKind.u8.wrap ((n : Int) + 32) = ((n + 32 : Nat) : Int) := by rw [IntKind.wrap_u8]; omega
    clear hn hs h32 hc a3 a2 a1
    go_enter Try.func67, Try.ntmps67
    go_wp2
    go_ret
    exact ⟨rfl, rfl⟩
  rw [if_neg a3] at hs
  rw [hs]
  obtain ⟨n, hn⟩ : ∃ n, n = c.toNat := ⟨_, rfl⟩
  rw [← hn] at a1 a2 a3 hc ⊢
  clear hn hs h32
  rcases (by omega : n < 48 ∨ (57 < n ∧ n < 65) ∨ (90 < n ∧ n < 97) ∨ 122 < n) with h | h | h | h
  · have b1 : ¬ (97 : Int) ≤ (n : Int) := by omega
    have b2 : ¬ (48 : Int) ≤ (n : Int) := by omega
    have b4 : ¬ (65 : Int) ≤ (n : Int) := by omega
    clear h a1 a2 a3 hc
    go_enter Try.func67, Try.ntmps67
    go_wp2
    go_ret
    exact ⟨rfl, rfl⟩
  · have b1 : ¬ (97 : Int) ≤ (n : Int) := by omega
    have b2 : (48 : Int) ≤ (n : Int) := by omega
    have b3 : ¬ (n : Int) ≤ (57 : Int) := by omega
    have b4 : ¬ (65 : Int) ≤ (n : Int) := by omega
    clear h a1 a2 a3 hc
    go_enter Try.func67, Try.ntmps67
    go_wp2
    go_ret
    exact ⟨rfl, rfl⟩
  · have b1 : ¬ (97 : Int) ≤ (n : Int) := by omega
    have b2 : (48 : Int) ≤ (n : Int) := by omega
    have b3 : ¬ (n : Int) ≤ (57 : Int) := by omega
    have b4 : (65 : Int) ≤ (n : Int) := by omega
    have b5 : ¬ (n : Int) ≤ (90 : Int) := by omega
    clear h a1 a2 a3 hc
    go_enter Try.func67, Try.ntmps67
    go_wp2
    go_ret
    exact ⟨rfl, rfl⟩
  · have b1 : (97 : Int) ≤ (n : Int) := by omega
    have b1' : ¬ (n : Int) ≤ (122 : Int) := by omega
    have b2 : (48 : Int) ≤ (n : Int) := by omega
    have b3 : ¬ (n : Int) ≤ (57 : Int) := by omega
    have b4 : (65 : Int) ≤ (n : Int) := by omega
    have b5 : ¬ (n : Int) ≤ (90 : Int) := by omega
    clear h a1 a2 a3 hc
    go_enter Try.func67, Try.ntmps67
    go_wp2
    go_ret
    exact ⟨rfl, rfl⟩
theorem small_zero {c : UInt8} (h : isL c = false) : ((small c).toNat : Int) = 0 := by rw [isL_no.1 h]; rfl
theorem small_ne {c : UInt8} (h : isL c = true) : (small c).toNat ≠ 0 := fun e => isL_iff.1 h (UInt8.toNat_inj.1 (by simpa using e))

theorem Wrd.drop_at {l : List UInt8} {i : Nat} (h : i < l.length) : l.drop i = l.getD i 0 :: l.drop (i + 1) := by
  rw [List.drop_eq_getElem_cons h, List.getD_eq_getElem?_getD, List.getElem?_eq_getElem h]
  rfl
/-- Is there a letter ahead of the place? -/
def Wrd.prior (l : List UInt8) (i : Nat) : Bool := decide (0 < i) && isL (l.getD (i - 1) 0)
theorem Wrd.prior_next (l : List UInt8) (i : Nat) : prior l (i + 1) = isL (l.getD i 0) := by simp [prior]
theorem Wrd.words_at {l : List UInt8} {i : Nat} (h : i < l.length) : wordsF (prior l i) (l.drop i) = (if isL (l.getD i 0) = true ∧ prior l i = false then [wordR 24 (l.drop i)] else []) ++ wordsF (prior l (i + 1)) (l.drop (i + 1)) := by
  rw [prior_next]
  conv => lhs; rw [drop_at h, wordsF]
  rw [← drop_at h]
theorem Wrd.word_at {l : List UInt8} {k m : Nat} (h : k < l.length) : wordR (m + 1) (l.drop k) = if isL (l.getD k 0) = true then small (l.getD k 0) :: wordR m (l.drop (k + 1)) else [] := by rw [drop_at h, wordR]

set_option maxHeartbeats 1500000 in
set_option maxRecDepth 10000 in
theorem refWWords_any (l : List UInt8) (w : World) (hl : l.length ≤ 100000) : Calls Try.prog 46 #[.string ⟨l.toArray⟩] w (MadeTx w (wordsE l)) := by
  have H0 := hide (show wordsE l = [] ++ wordsF (prior l 0) (l.drop 0) from rfl)
  have HEnd := hide (show ∀ p, wordsF p (l.drop l.length) = [] from fun p => by rw [List.drop_length]; cases p <;> rfl)
  have HAt := hide (fun (i : Nat) (hi : i < l.length) => words_at hi)
  have HWd := hide (fun (k m : Nat) (hk : k < l.length) => word_at (m := m) hk)
  have HLen := hide (words_len l)
  have HW0 := hide (show ∀ m, wordR m (l.drop l.length) = [] from fun m => by rw [List.drop_length]; cases m <;> rfl)
  generalize wordsE l = res at *
  unfold MadeTx
  go_enter Try.func46, Try.ntmps46
  go_wp2
  go_loopw [4, 3] (fun x u wr => ∃ (i : Nat) (v : Value) (P : List (List UInt8)), i ≤ l.length ∧ x = .int .i64 (i : Int) ∧ v = u ∧ OwnTx wr w.heap.size v P ∧ P.length ≤ i ∧ res = P ++ wordsF (prior l i) (l.drop i) ∧ Ext w wr) (fun x _ _ => l.length - (intOf x).toNat)
  case atStart => exact ⟨0, _, [], by omega, rfl, rfl, OwnTx.nil _ _, by simp, H0.out, Ext.refl _⟩
  case round =>
    clear H0
    obtain ⟨i, v, P, hi, rfl, rfl, hO, hPl, hres, hE⟩ := hrel
    by_cases hlt : i < l.length
    · have hiI : (i : Int) < (l.length : Int) := by omega
      rw [HAt.out i hlt] at hres
      have HRes := hide hres
      have HA1 := hide (prior_next l i)
      have HO := hide hO
      have HE := hide hE
      have HPl := hide hPl
      clear hres hO hE hPl
      obtain ⟨c, hc0⟩ : ∃ c, c = l.getD i 0 := ⟨_, rfl⟩
      have hc : l[i]'hlt = c := by rw [hc0]; simp [List.getD_eq_getElem?_getD, hlt]
      have HWi := hide (show ∀ m, wordR (m + 1) (l.drop i) = if isL c = true then small c :: wordR m (l.drop (i + 1)) else [] from fun m => by rw [hc0]; exact HWd.out i m hlt)
      rw [← hc0] at HRes HA1
      have CS := fun W => refSmall_any c W
      clear hc0
      cases hL : isL c with
      | false =>
        have hz := small_zero hL
        have HRe2 := hide (show res = P ++ wordsF (prior l (i + 1)) (l.drop (i + 1)) by rw [HRes.out, if_neg (by rw [hL]; simp)]; rfl)
        generalize (small c).toNat = z at *
        clear hL
        go_wp2_with (refine (CS _).mono ?_; rintro e w' ⟨rfl, rfl⟩)
        go_roundw
        case rel => exact ⟨i + 1, v, P, by omega, by go_num, rfl, HO.out, by have := HPl.out; omega, HRe2.out, HE.out⟩
        case measure => simp [intOf]; omega
      | true =>
        have hz := small_ne hL
        have HL := hide hL
        cases hp : prior l i with
        | true =>
          have HRe2 := hide (show res = P ++ wordsF (prior l (i + 1)) (l.drop (i + 1)) by rw [HRes.out, if_neg (by rw [hp]; simp)]; rfl)
          obtain ⟨j, hj⟩ : ∃ j, i = j + 1 := ⟨i - 1, by
            rcases Nat.eq_zero_or_pos i with h | h
            · subst h; simp [prior] at hp
            · omega⟩
          have hp : isL (l.getD j 0) = true := by rw [hj, prior_next] at hp; exact hp
          have hjl : j < l.length := by omega
          obtain ⟨d, hd0⟩ : ∃ d, d = l.getD j 0 := ⟨_, rfl⟩
          have hd : l[j]'hjl = d := by rw [hd0]; simp [List.getD_eq_getElem?_getD, hjl]
          rw [← hd0] at hp
          have hy := small_ne hp
          have CD := fun W => refSmall_any d W
          have hj1 : (i : Int) - 1 = (j : Int) := by omega
          have hj0 : (0 : Int) < (i : Int) := by omega
          have hjI : (j : Int) < (l.length : Int) := by omega
          generalize (small c).toNat = z at *
          generalize (small d).toNat = y at *
          have hzb : ((z : Int) == 0) = false := by rw [beq_eq_false_iff_ne]; omega
          have hyb : ((y : Int) != 0) = true := by rw [bne_iff_ne]; omega
          clear hL hp hd0 hj
          go_wp2_with fail
          refine (CS _).mono ?_
          rintro e w' ⟨rfl, rfl⟩
          go_wp2_with fail
          refine (CD _).mono ?_
          rintro e w' ⟨rfl, rfl⟩
          go_wp2
          go_roundw
          case rel => exact ⟨i + 1, v, P, by omega, by go_num, rfl, HO.out, by have := HPl.out; omega, HRe2.out, HE.out⟩
          case measure => simp [intOf]; omega
        | false =>
          have HRe2 := hide (show res = P ++ ([wordR 24 (l.drop i)] ++ wordsF (prior l (i + 1)) (l.drop (i + 1))) by rw [HRes.out, if_pos ⟨hL, hp⟩])
          obtain ⟨word, hw0⟩ : ∃ x, x = wordR 24 (l.drop i) := ⟨_, rfl⟩
          have HQ0 := hide (show word = ([] : List UInt8) ++ wordR (24 - ([] : List UInt8).length) (l.drop i) from hw0)
          rw [← hw0] at HRe2
          clear hw0
          obtain ⟨wa, rfl⟩ : ∃ W, W = wr := ⟨_, rfl⟩
          generalize (small c).toNat = z at *
          have hzb : ((z : Int) == 0) = false := by rw [beq_eq_false_iff_ne]; omega
          rcases Nat.eq_zero_or_pos i with hi0 | hi0
          · have HI0 := hide hi0
            have hj0 : ¬ (0 : Int) < (i : Int) := by omega
            clear hL hp hi0 HRes HL HWi
            go_wp2_with fail
            refine (CS _).mono ?_
            rintro e w' ⟨rfl, rfl⟩
            go_wp2
            go_loopw [6, 5] (fun x u wr => ∃ (k : Nat) (q : Value) (Q : List UInt8), k ≤ l.length ∧ x = .int .i64 (k : Int) ∧ q = u ∧ OwnB wr wa.heap.size q Q ∧ Q.length ≤ 24 ∧ word = Q ++ wordR (24 - Q.length) (l.drop k) ∧ Ext wa wr) (fun x _ _ => l.length - (intOf x).toNat)
            case atStart => exact ⟨i, _, [], by omega, rfl, rfl, OwnB.nil _ _, by simp, HQ0.out, Ext.refl _⟩
            case round =>
              clear HQ0
              obtain ⟨k, q, Q, hk, rfl, rfl, hQ, hQl, hword, hEk⟩ := hrel
              obtain ⟨Aq, cq, rfl, hq1, hq2, hq3⟩ := hQ.form
              have HDone := hide (show Q = word → ∀ (v2 : Value) (w2 : World), OwnTx w2 w.heap.size v2 (P ++ [Q]) → Ext w w2 → ∃ (i' : Nat) (v' : Value) (P' : List (List UInt8)), i' ≤ l.length ∧ Value.int .i64 ((i : Int) + 1) = .int .i64 (i' : Int) ∧ v' = v2 ∧ OwnTx w2 w.heap.size v' P' ∧ P'.length ≤ i' ∧ res = P' ++ wordsF (prior l i') (l.drop i') ∧ Ext w w2 from fun h v2 w2 h1 h2 =>
                ⟨i + 1, v2, P ++ [Q], by omega, rfl, rfl, h1, by rw [List.length_append, List.length_singleton]; have := HPl.out; omega, by rw [HRe2.out, h, List.append_assoc], h2⟩)
              have hconv := fun (W : World) (hb : Ext wr W) => conv_bytes cq ((hb.bytes hq3)) (fun h => by subst h; rcases hq3.2 with h | ⟨_, _, h, _⟩; exact h; cases h)
              have HCv := hide (hconv wr (Ext.refl _))
              have HOx := hide (HO.out.ext hEk)
              have HEx := hide (HE.out.trans hEk)
              have HEk := hide hEk
              have hp1 : P.length ≤ 1000000 := by have := HPl.out; omega
              have HQ := hide hQ
              clear hq2 hq3 hQ hEk hconv
              by_cases hkl : k < l.length
              · have hkI : (k : Int) < (l.length : Int) := by omega
                obtain ⟨d, hd0⟩ : ∃ d, d = l.getD k 0 := ⟨_, rfl⟩
                have hd : l[k]'hkl = d := by rw [hd0]; simp [List.getD_eq_getElem?_getD, hkl]
                have HWk := hide (show ∀ m, wordR (m + 1) (l.drop k) = if isL d = true then small d :: wordR m (l.drop (k + 1)) else [] from fun m => by rw [hd0]; exact HWd.out k m hkl)
                have CD := fun W => refSmall_any d W
                clear hd0
                cases hLd : isL d with
                | false =>
                  have hy := small_zero hLd
                  have HW := hide (show Q = word by
                    rw [hword]
                    rcases Nat.eq_zero_or_pos (24 - Q.length) with h | h
                    · rw [h, wordR, List.append_nil]
                    · obtain ⟨m, hm⟩ : ∃ m, 24 - Q.length = m + 1 := ⟨24 - Q.length - 1, by omega⟩
                      rw [hm, HWk.out, if_neg (by rw [hLd]; simp), List.append_nil])
                  generalize (small d).toNat = y at *
                  have hyb : ((y : Int) != 0) = false := by rw [hy]; rfl
                  clear hLd hword
                  go_wp2_with fail
                  refine (CD _).mono ?_
                  rintro e w' ⟨rfl, rfl⟩
                  have hcv := HCv.out
                  go_wp2_with (at_builtin; refine wpList_litTx (v := v) rfl (.tmp 56) (.tmp 59) rfl HEx.out HOx.out rfl Q rfl hp1 ?_; intro v2 w2 hO2 hE2)
                  go_roundw
                  case rel => exact HDone.out HW.out v2 w2 hO2 hE2
                  case measure => simp [intOf]; omega
                | true =>
                  have hy := small_ne hLd
                  obtain ⟨y, hy0⟩ : ∃ y, y = (small d).toNat := ⟨_, rfl⟩
                  rw [← hy0] at CD hy
                  have hyb : ((y : Int) != 0) = true := by rw [bne_iff_ne]; omega
                  have HY := hide hy0
                  have HLd := hide hLd
                  clear hy0 hLd
                  by_cases hq24 : Q.length < 24
                  · have hqI : (Q.length : Int) < (24 : Int) := by omega
                    have HW := hide (show word = (Q ++ [small d]) ++ wordR (24 - (Q ++ [small d]).length) (l.drop (k + 1)) by
                      rw [hword, show 24 - Q.length = (24 - (Q ++ [small d]).length) + 1 by simp; omega, HWk.out, if_pos HLd.out, List.append_assoc]; rfl)
                    have hX := extNew wr (.cells #[.int .u8 (y : Int)] 5)
                    have HQX := hide (HQ.out.ext hX)
                    have HBX := hide (bytesNew wr [small d] #[.int .u8 (y : Int)] 5 (0, 0) (by rw [HY.out]; rfl) 1 rfl)
                    have HEX := hide (HEk.out.trans hX)
                    have hql : Q.length + 1 ≤ 140737488355328 := by omega
                    clear hword hX
                    go_wp2_with fail
                    refine (CD _).mono ?_
                    rintro e w' ⟨rfl, rfl⟩
                    go_wp2_with fail
                    refine (CD _).mono ?_
                    rintro e w' ⟨rfl, rfl⟩
                    go_wp2_with (at_builtin; refine wpList_app (l := Q) rfl (.tmp 49) (.tmp 54) rfl rfl HQX.out rfl HBX.out hql HEX.out.le ?_; intro v2 w2 hO2 hG2)
                    go_roundw
                    case rel => exact ⟨k + 1, v2, Q ++ [small d], by omega, by go_num, rfl, hO2, by simp; omega, HW.out, Below.grown HEX.out hG2 HEX.out.le (fun j hj => (HQX.out.lt j hj).1)⟩
                    case measure => simp [intOf]; omega
                  · have hqI : ¬ (Q.length : Int) < (24 : Int) := by omega
                    have HW := hide (show Q = word by rw [hword, show 24 - Q.length = 0 by omega, wordR, List.append_nil])
                    clear hword
                    go_wp2_with fail
                    refine (CD _).mono ?_
                    rintro e w' ⟨rfl, rfl⟩
                    have hcv := HCv.out
                    go_wp2_with (at_builtin; refine wpList_litTx (v := v) rfl (.tmp 56) (.tmp 59) rfl HEx.out HOx.out rfl Q rfl hp1 ?_; intro v2 w2 hO2 hE2)
                    go_roundw
                    case rel => exact HDone.out HW.out v2 w2 hO2 hE2
                    case measure => simp [intOf]; omega
              · obtain rfl : k = l.length := by omega
                rw [HW0.out, List.append_nil] at hword
                have HW := hide hword.symm
                have hcv := HCv.out
                clear hword
                go_wp2_with (at_builtin; refine wpList_litTx (v := v) rfl (.tmp 56) (.tmp 59) rfl HEx.out HOx.out rfl Q rfl hp1 ?_; intro v2 w2 hO2 hE2)
                go_roundw
                case rel => exact HDone.out HW.out v2 w2 hO2 hE2
                case measure => simp [intOf]; omega
          · obtain ⟨j, hj⟩ : ∃ j, i = j + 1 := ⟨i - 1, by omega⟩
            have hp : isL (l.getD j 0) = false := by rw [hj, prior_next] at hp; exact hp
            have hjl : j < l.length := by omega
            obtain ⟨d, hd0⟩ : ∃ d, d = l.getD j 0 := ⟨_, rfl⟩
            have hd : l[j]'hjl = d := by rw [hd0]; simp [List.getD_eq_getElem?_getD, hjl]
            rw [← hd0] at hp
            have hy := small_zero hp
            have CD := fun W => refSmall_any d W
            have hj1 : (i : Int) - 1 = (j : Int) := by omega
            have hj0 : (0 : Int) < (i : Int) := by omega
            have hjI : (j : Int) < (l.length : Int) := by omega
            generalize (small d).toNat = y at *
            have hyb : ((y : Int) != 0) = false := by rw [hy]; rfl
            clear hL hp hd0 hj HRes HL HWi
            go_wp2_with fail
            refine (CS _).mono ?_
            rintro e w' ⟨rfl, rfl⟩
            go_wp2_with fail
            refine (CD _).mono ?_
            rintro e w' ⟨rfl, rfl⟩
            go_wp2
            clear CD hy hyb hd hjI hj1
            go_loopw [6, 5] (fun x u wr => ∃ (k : Nat) (q : Value) (Q : List UInt8), k ≤ l.length ∧ x = .int .i64 (k : Int) ∧ q = u ∧ OwnB wr wa.heap.size q Q ∧ Q.length ≤ 24 ∧ word = Q ++ wordR (24 - Q.length) (l.drop k) ∧ Ext wa wr) (fun x _ _ => l.length - (intOf x).toNat)
            case atStart => exact ⟨i, _, [], by omega, rfl, rfl, OwnB.nil _ _, by simp, HQ0.out, Ext.refl _⟩
            case round =>
              clear HQ0
              obtain ⟨k, q, Q, hk, rfl, rfl, hQ, hQl, hword, hEk⟩ := hrel
              obtain ⟨Aq, cq, rfl, hq1, hq2, hq3⟩ := hQ.form
              have HDone := hide (show Q = word → ∀ (v2 : Value) (w2 : World), OwnTx w2 w.heap.size v2 (P ++ [Q]) → Ext w w2 → ∃ (i' : Nat) (v' : Value) (P' : List (List UInt8)), i' ≤ l.length ∧ Value.int .i64 ((i : Int) + 1) = .int .i64 (i' : Int) ∧ v' = v2 ∧ OwnTx w2 w.heap.size v' P' ∧ P'.length ≤ i' ∧ res = P' ++ wordsF (prior l i') (l.drop i') ∧ Ext w w2 from fun h v2 w2 h1 h2 =>
                ⟨i + 1, v2, P ++ [Q], by omega, rfl, rfl, h1, by rw [List.length_append, List.length_singleton]; have := HPl.out; omega, by rw [HRe2.out, h, List.append_assoc], h2⟩)
              have hconv := fun (W : World) (hb : Ext wr W) => conv_bytes cq ((hb.bytes hq3)) (fun h => by subst h; rcases hq3.2 with h | ⟨_, _, h, _⟩; exact h; cases h)
              have HCv := hide (hconv wr (Ext.refl _))
              have HOx := hide (HO.out.ext hEk)
              have HEx := hide (HE.out.trans hEk)
              have HEk := hide hEk
              have hp1 : P.length ≤ 1000000 := by have := HPl.out; omega
              have HQ := hide hQ
              clear hq2 hq3 hQ hEk hconv
              by_cases hkl : k < l.length
              · have hkI : (k : Int) < (l.length : Int) := by omega
                obtain ⟨d, hd0⟩ : ∃ d, d = l.getD k 0 := ⟨_, rfl⟩
                have hd : l[k]'hkl = d := by rw [hd0]; simp [List.getD_eq_getElem?_getD, hkl]
                have HWk := hide (show ∀ m, wordR (m + 1) (l.drop k) = if isL d = true then small d :: wordR m (l.drop (k + 1)) else [] from fun m => by rw [hd0]; exact HWd.out k m hkl)
                have CD := fun W => refSmall_any d W
                clear hd0
                cases hLd : isL d with
                | false =>
                  have hy := small_zero hLd
                  have HW := hide (show Q = word by
                    rw [hword]
                    rcases Nat.eq_zero_or_pos (24 - Q.length) with h | h
                    · rw [h, wordR, List.append_nil]
                    · obtain ⟨m, hm⟩ : ∃ m, 24 - Q.length = m + 1 := ⟨24 - Q.length - 1, by omega⟩
                      rw [hm, HWk.out, if_neg (by rw [hLd]; simp), List.append_nil])
                  generalize (small d).toNat = y at *
                  have hyb : ((y : Int) != 0) = false := by rw [hy]; rfl
                  clear hLd hword
                  go_wp2_with fail
                  refine (CD _).mono ?_
                  rintro e w' ⟨rfl, rfl⟩
                  have hcv := HCv.out
                  go_wp2_with (at_builtin; refine wpList_litTx (v := v) rfl (.tmp 56) (.tmp 59) rfl HEx.out HOx.out rfl Q rfl hp1 ?_; intro v2 w2 hO2 hE2)
                  go_roundw
                  case rel => exact HDone.out HW.out v2 w2 hO2 hE2
                  case measure => simp [intOf]; omega
                | true =>
                  have hy := small_ne hLd
                  obtain ⟨y, hy0⟩ : ∃ y, y = (small d).toNat := ⟨_, rfl⟩
                  rw [← hy0] at CD hy
                  have hyb : ((y : Int) != 0) = true := by rw [bne_iff_ne]; omega
                  have HY := hide hy0
                  have HLd := hide hLd
                  clear hy0 hLd
                  by_cases hq24 : Q.length < 24
                  · have hqI : (Q.length : Int) < (24 : Int) := by omega
                    have HW := hide (show word = (Q ++ [small d]) ++ wordR (24 - (Q ++ [small d]).length) (l.drop (k + 1)) by
                      rw [hword, show 24 - Q.length = (24 - (Q ++ [small d]).length) + 1 by simp; omega, HWk.out, if_pos HLd.out, List.append_assoc]; rfl)
                    have hX := extNew wr (.cells #[.int .u8 (y : Int)] 5)
                    have HQX := hide (HQ.out.ext hX)
                    have HBX := hide (bytesNew wr [small d] #[.int .u8 (y : Int)] 5 (0, 0) (by rw [HY.out]; rfl) 1 rfl)
                    have HEX := hide (HEk.out.trans hX)
                    have hql : Q.length + 1 ≤ 140737488355328 := by omega
                    clear hword hX
                    go_wp2_with fail
                    refine (CD _).mono ?_
                    rintro e w' ⟨rfl, rfl⟩
                    go_wp2_with fail
                    refine (CD _).mono ?_
                    rintro e w' ⟨rfl, rfl⟩
                    go_wp2_with (at_builtin; refine wpList_app (l := Q) rfl (.tmp 49) (.tmp 54) rfl rfl HQX.out rfl HBX.out hql HEX.out.le ?_; intro v2 w2 hO2 hG2)
                    go_roundw
                    case rel => exact ⟨k + 1, v2, Q ++ [small d], by omega, by go_num, rfl, hO2, by simp; omega, HW.out, Below.grown HEX.out hG2 HEX.out.le (fun j hj => (HQX.out.lt j hj).1)⟩
                    case measure => simp [intOf]; omega
                  · have hqI : ¬ (Q.length : Int) < (24 : Int) := by omega
                    have HW := hide (show Q = word by rw [hword, show 24 - Q.length = 0 by omega, wordR, List.append_nil])
                    clear hword
                    go_wp2_with fail
                    refine (CD _).mono ?_
                    rintro e w' ⟨rfl, rfl⟩
                    have hcv := HCv.out
                    go_wp2_with (at_builtin; refine wpList_litTx (v := v) rfl (.tmp 56) (.tmp 59) rfl HEx.out HOx.out rfl Q rfl hp1 ?_; intro v2 w2 hO2 hE2)
                    go_roundw
                    case rel => exact HDone.out HW.out v2 w2 hO2 hE2
                    case measure => simp [intOf]; omega
              · obtain rfl : k = l.length := by omega
                rw [HW0.out, List.append_nil] at hword
                have HW := hide hword.symm
                have hcv := HCv.out
                clear hword
                go_wp2_with (at_builtin; refine wpList_litTx (v := v) rfl (.tmp 56) (.tmp 59) rfl HEx.out HOx.out rfl Q rfl hp1 ?_; intro v2 w2 hO2 hE2)
                go_roundw
                case rel => exact HDone.out HW.out v2 w2 hO2 hE2
                case measure => simp [intOf]; omega
    · obtain rfl : i = l.length := by omega
      rw [HEnd.out, List.append_nil] at hres
      have HRes := hide hres
      have HO := hide hO
      have HE := hide hE
      clear hres hO hE
      go_wp2
      go_ret
      obtain ⟨A, c, rfl, h1, h2, h3⟩ := HO.out.form
      rw [HRes.out]
      exact ⟨A, c, rfl, h1, h2, h3, HE.out⟩
end Go.Proofs.Ytcphapdjimeoaaa

namespace Go.Proofs.Ytcphapdjimeoaaa
open Go.RowKit Wrd

theorem Wrd.list_ext {a b : List (List UInt8)} (hl : a.length = b.length) (h : ∀ i, i < a.length → a.getD i [] = b.getD i []) : a = b := by
  refine List.ext_getElem hl fun i h1 h2 => ?_
  have := h i h1
  rwa [List.getD_eq_getElem?_getD, List.getD_eq_getElem?_getD, List.getElem?_eq_getElem h1, List.getElem?_eq_getElem h2] at this
set_option maxHeartbeats 1000000 in
set_option maxRecDepth 100000 in
theorem refSame15_any (A1 A2 : Option Addr) (c1 c2 : Nat) (a b : List (List UInt8)) (w : World) (h1 : TextsAt w w.heap.size A1 a.length a) (h2 : TextsAt w w.heap.size A2 b.length b) (hn0 : a.length ≤ 140737488355328) :
    Calls Try.prog 24 #[.slice A1 a.length c1, .slice A2 b.length c2] w fun e w' => e = .returned (.bool (decide (a = b))) ∧ Ext w w' := by
  by_cases hl : a.length = b.length
  · have HEq := hide (show (∀ i, i < a.length → a.getD i [] = b.getD i []) → decide (a = b) = true from fun h => decide_eq_true (Wrd.list_ext hl h))
    have HNe := hide (show ∀ i, a.getD i [] ≠ b.getD i [] → decide (a = b) = false from fun i h => decide_eq_false fun e => h (by rw [e]))
    have hlb : ((a.length : Int) != (b.length : Int)) = false := by simp; omega
    have HA := hide h1
    have HB := hide h2
    generalize decide (a = b) = res at *
    rw [← hl] at HB ⊢
    generalize a.length = n at *
    clear h1 h2 hl
    go_enter Try.func24, Try.ntmps24
    go_wp2
    go_loopw [5] (fun x wr => ∃ i : Nat, i ≤ n ∧ x = .int .i64 (i : Int) ∧ (∀ j, j < i → a.getD j [] = b.getD j []) ∧ Qt w wr) (fun x _ => n - (intOf x).toNat)
    case atStart => exact ⟨0, by omega, rfl, fun j hj => absurd hj (by omega), Qt.refl _⟩
    case round =>
      obtain ⟨i, hi, rfl, hall, hQ⟩ := hrel
      have HAll := hide hall
      clear hall
      by_cases hlt : i < n
      · have hiI : (i : Int) < (n : Int) := by omega
        rcases (HA.out.later hQ.ext).2 with hn | ⟨b1, o1, rfl, _, hc1⟩
        · omega
        rcases (HB.out.later hQ.ext).2 with hn | ⟨b2, o2, rfl, _, hc2⟩
        · omega
        have e1 := hc1 i hlt
        have e2 := hc2 i hlt
        have hNe := HNe.out i
        clear hc1 hc2
        by_cases he : a.getD i [] = b.getD i []
        · have HE := hide he
          obtain ⟨y, hy⟩ : ∃ y, y = b.getD i [] := ⟨_, rfl⟩
          rw [he, ← hy] at e1
          rw [← hy] at e2
          clear he hNe hy
          go_wp2_with fail
          go_quiet (fail)
          go_wp2
          go_roundw
          case rel => exact ⟨i + 1, by omega, by go_num, fun j hj => (by
            by_cases e : j = i
            · rw [e]; exact HE.out
            · exact HAll.out j (by omega)), hQ.drewN _⟩
          case measure => simp [intOf]; omega
        · have HN := hide (hNe he)
          have heb : (!(a.getD i [] == b.getD i [])) = true := by simpa using he
          generalize a.getD i [] = y1 at *
          generalize b.getD i [] = y2 at *
          clear hNe he
          go_wp2_with fail
          go_quiet (fail)
          go_wp2
          go_ret
          exact ⟨ret_bool HN.out.symm, (hQ.drewN _).ext⟩
      · obtain rfl : n = i := by omega
        have HN := hide (HEq.out HAll.out)
        go_wp2
        go_ret
        exact ⟨ret_bool HN.out.symm, hQ.ext⟩
  · have HN := hide (show decide (a = b) = false from decide_eq_false fun e => hl (by rw [e]))
    have hlb : ((a.length : Int) != (b.length : Int)) = true := by simp; omega
    generalize decide (a = b) = res at *
    clear h1 h2
    go_enter Try.func24, Try.ntmps24
    go_wp2
    go_ret
    exact ⟨ret_bool HN.out.symm, Ext.refl _⟩

theorem Wrd.mem_at {l : List (List UInt8)} {i : Nat} (h : i < l.length) : l.getD i [] ∈ l := by
  rw [List.getD_eq_getElem?_getD, List.getElem?_eq_getElem h]
  exact List.getElem_mem _
theorem Wrd.at_mem {l : List (List UInt8)} {x : List UInt8} (h : x ∈ l) : ∃ i, i < l.length ∧ l.getD i [] = x := by
  obtain ⟨i, hi, rfl⟩ := List.getElem_of_mem h
  exact ⟨i, hi, by rw [List.getD_eq_getElem?_getD, List.getElem?_eq_getElem hi]; rfl⟩
set_option maxHeartbeats 1000000 in
set_option maxRecDepth 10000 in
theorem refHas15_any (A : Option Addr) (n c : Nat) (L : List (List UInt8)) (x : List UInt8) (w : World) (h : TextsAt w w.heap.size A n L) (hn : n ≤ 1000000) :
    Calls Try.prog 16 #[.slice A n c, .string ⟨x.toArray⟩] w fun e w' => e = .returned (.bool (decide (x ∈ L))) ∧ w = w' := by
  have hl := h.1
  have HA := hide h
  have HYes := hide (show ∀ i, i < n → L.getD i [] = x → decide (x ∈ L) = true from fun i hi e => decide_eq_true (e ▸ mem_at (by omega)))
  have HNo := hide (show (∀ i, i < n → L.getD i [] ≠ x) → decide (x ∈ L) = false from fun h => decide_eq_false fun hm => by
    obtain ⟨i, hi, e⟩ := at_mem hm
    exact h i (by omega) e)
  generalize decide (x ∈ L) = res at *
  clear h hl
  go_enter Try.func16, Try.ntmps16
  go_wp2
  go_loopw [5] (fun y wr => ∃ i : Nat, i ≤ n ∧ y = .int .i64 (i : Int) ∧ (∀ j, j < i → L.getD j [] ≠ x) ∧ wr = w) (fun y _ => n - (intOf y).toNat)
  case atStart => exact ⟨0, by omega, rfl, fun j hj => absurd hj (by omega), rfl⟩
  case round =>
    obtain ⟨i, hi, rfl, hall, rfl⟩ := hrel
    have HAll := hide hall
    clear hall
    by_cases hlt : i < n
    · have hiI : (i : Int) < (n : Int) := by omega
      rcases HA.out.2 with hn0 | ⟨b1, o1, rfl, _, hc1⟩
      · omega
      have e1 := hc1 i hlt
      have HYi := hide (HYes.out i hlt)
      obtain ⟨y, hy⟩ : ∃ y, y = L.getD i [] := ⟨_, rfl⟩
      rw [← hy] at e1 HYi
      have HY := hide hy
      clear hc1 hy
      by_cases g : y = x
      · have HR := hide (HYi.out g)
        have hb : (y == x) = true := by simpa using g
        clear g HYi HYes HNo
        go_wp2
        go_ret
        exact ⟨ret_bool HR.out.symm, rfl⟩
      · have hb : (y == x) = false := by simpa using g
        have HG := hide g
        clear g
        go_wp2
        go_roundw
        case rel => exact ⟨i + 1, by omega, by go_num, fun j hj => (by
          by_cases e : j = i
          · rw [e, ← HY.out]; exact HG.out
          · exact HAll.out j (by omega)), trivial⟩
        case measure => simp [intOf]; omega
    · obtain rfl : n = i := by omega
      have HN := hide (HNo.out HAll.out)
      go_wp2
      go_ret
      exact ⟨ret_bool HN.out.symm, rfl⟩

attribute [local go_sem ↓] run_txtAt run_txtLen run_txtCut
/-- What One tells. -/
def OneTo (w : World) (l : List UInt8) (e : Ending) (w' : World) : Prop := e = .returned (.tuple #[.string ⟨(oneE l).1.toArray⟩, .bool (oneE l).2]) ∧ Ext w w'
end Go.Proofs.Ytcphapdjimeoaaa

namespace Go.Proofs.Ytcphapdjimeoaaa
open Go.RowKit

theorem Huf.list_ext {a b : List Int} (hl : a.length = b.length) (h : ∀ i, i < a.length → a.getD i 0 = b.getD i 0) : a = b := by
  refine List.ext_getElem hl fun i h1 h2 => ?_
  have := h i h1
  rwa [List.getD_eq_getElem?_getD, List.getD_eq_getElem?_getD, List.getElem?_eq_getElem h1, List.getElem?_eq_getElem h2] at this
set_option maxHeartbeats 1000000 in
set_option maxRecDepth 100000 in
theorem refSame9Q_any (A1 A2 : Option Addr) (c1 c2 : Nat) (a b : List Int) (w : World) (h1 : IntsAt w w.heap.size A1 a.length a) (h2 : IntsAt w w.heap.size A2 b.length b) (hn0 : a.length ≤ 140737488355328) :
    Calls Try.prog 25 #[.slice A1 a.length c1, .slice A2 b.length c2] w fun e w' => e = .returned (.bool (decide (a = b))) ∧ Qt w w' := by
  by_cases hl : a.length = b.length
  · have HEq := hide (show (∀ i, i < a.length → a.getD i 0 = b.getD i 0) → decide (a = b) = true from fun h => decide_eq_true (Huf.list_ext hl h))
    have HNe := hide (show ∀ i, a.getD i 0 ≠ b.getD i 0 → decide (a = b) = false from fun i h => decide_eq_false fun e => h (by rw [e]))
    have hlb : ((a.length : Int) != (b.length : Int)) = false := by simp; omega
    have HA := hide h1
    have HB := hide h2
    generalize decide (a = b) = res at *
    rw [← hl] at HB ⊢
    generalize a.length = n at *
    clear h1 h2 hl
    go_enter Try.func25, Try.ntmps25
    go_wp2
    go_loopw [5] (fun x wr => ∃ i : Nat, i ≤ n ∧ x = .int .i64 (i : Int) ∧ (∀ j, j < i → a.getD j 0 = b.getD j 0) ∧ Qt w wr) (fun x _ => n - (intOf x).toNat)
    case atStart => exact ⟨0, by omega, rfl, fun j hj => absurd hj (by omega), Qt.refl _⟩
    case round =>
      obtain ⟨i, hi, rfl, hall, hQ⟩ := hrel
      have HAll := hide hall
      clear hall
      by_cases hlt : i < n
      · have hiI : (i : Int) < (n : Int) := by omega
        rcases (HA.out.later hQ.ext).2 with hn | ⟨b1, o1, rfl, _, hc1⟩
        · omega
        rcases (HB.out.later hQ.ext).2 with hn | ⟨b2, o2, rfl, _, hc2⟩
        · omega
        have e1 := hc1 i hlt
        have e2 := hc2 i hlt
        have hNe := HNe.out i
        clear hc1 hc2
        by_cases he : a.getD i 0 = b.getD i 0
        · have HE := hide he
          obtain ⟨y, hy⟩ : ∃ y, y = b.getD i 0 := ⟨_, rfl⟩
          rw [he, ← hy] at e1
          rw [← hy] at e2
          clear he hNe hy
          go_wp2_with fail
          go_quiet (fail)
          go_wp2
          go_roundw
          case rel => exact ⟨i + 1, by omega, by go_num, fun j hj => (by
            by_cases e : j = i
            · rw [e]; exact HE.out
            · exact HAll.out j (by omega)), hQ.drewN _⟩
          case measure => simp [intOf]; omega
        · have HN := hide (hNe he)
          have heb : (a.getD i 0 != b.getD i 0) = true := by simpa using he
          generalize a.getD i 0 = y1 at *
          generalize b.getD i 0 = y2 at *
          clear hNe he
          go_wp2_with fail
          go_quiet (fail)
          go_wp2
          go_ret
          exact ⟨ret_bool HN.out.symm, hQ.drewN _⟩
      · obtain rfl : n = i := by omega
        have HN := hide (HEq.out HAll.out)
        go_wp2
        go_ret
        exact ⟨ret_bool HN.out.symm, hQ⟩
  · have HN := hide (show decide (a = b) = false from decide_eq_false fun e => hl (by rw [e]))
    have hlb : ((a.length : Int) != (b.length : Int)) = true := by simp; omega
    generalize decide (a = b) = res at *
    clear h1 h2
    go_enter Try.func25, Try.ntmps25
    go_wp2
    go_ret
    exact ⟨ret_bool HN.out.symm, Qt.refl _⟩
theorem refSame9_any (A1 A2 : Option Addr) (c1 c2 : Nat) (a b : List Int) (w : World) (h1 : IntsAt w w.heap.size A1 a.length a) (h2 : IntsAt w w.heap.size A2 b.length b) (hn0 : a.length ≤ 140737488355328) :
    Calls Try.prog 25 #[.slice A1 a.length c1, .slice A2 b.length c2] w fun e w' => e = .returned (.bool (decide (a = b))) ∧ Ext w w' :=
  (refSame9Q_any A1 A2 c1 c2 a b w h1 h2 hn0).mono fun _ _ ⟨h1, h2⟩ => ⟨h1, h2.ext⟩
end Go.Proofs.Ytcphapdjimeoaaa

namespace Go.Proofs.Ytcphapdjimeoaaa
open Go.RowKit Wrd Dic Num

theorem refTextL_any (s : List UInt8) (w : World) (hs : s.length ≤ 1000000) : Calls Try.prog 60 #[.string ⟨s.toArray⟩] w (MadeB w (textB s)) := by
  have := refText_any ⟨s.toArray⟩ w (by rw [txt_size]; exact hs)
  rw [txt_size] at this
  simpa [textB] using this
theorem u64_wrap {n : Nat} (h : n ≤ 1000000000) : IntKind.u64.wrap (n : Int) = (n : Int) := by rw [IntKind.wrap_u64]; omega

attribute [local go_sem ↓] run_txtAt run_txtLen run_txtCut run_txtTop
set_option maxHeartbeats 4000000 in
set_option maxRecDepth 10000 in
theorem refWrite16_any (A : Option Addr) (n c : Nat) (l : List (List UInt8)) (size : Int) (w : World) (h : TextsAt w w.heap.size A n l) (hn : n ≤ 1000) (hl : ∀ s, s ∈ l → s.length ≤ 1000000) (hs : -9223372036854775808 ≤ size ∧ size ≤ 9223372036854775807) :
    Calls Try.prog 43 #[.int .i64 size, .slice A n c] w (MadeE w (writeE size l).1 (writeE size l).2) := by
  unfold MadeE
  have hln := h.1
  have CM := fun W (hE : Ext w W) => refMay16_any A n c l W (h.later hE) (by omega) hl
  by_cases h1 : size < 1
  · have hw : writeE size l = ([], 13) := by unfold writeE; rw [if_pos (.inl h1)]
    rw [hw]
    clear CM hw hl h hln
    go_enter Try.func43, Try.ntmps43
    go_wp2
    go_ret2
    exact ⟨_, rfl, OwnB.nil _ _, Ext.refl _⟩
  by_cases h2 : 64 < size
  · have hw : writeE size l = ([], 13) := by unfold writeE; rw [if_pos (.inr (.inl h2))]
    rw [hw]
    clear CM hw hl h hln
    go_enter Try.func43, Try.ntmps43
    go_wp2
    go_ret2
    exact ⟨_, rfl, OwnB.nil _ _, Ext.refl _⟩
  cases hm : mayD l with
  | false =>
    have hw : writeE size l = ([], 13) := by unfold writeE; rw [if_pos (.inr (.inr hm))]
    rw [hw]
    rw [hm] at CM
    have CC := CM w (Ext.refl w)
    clear CM hw hl h hln hm
    go_enter Try.func43, Try.ntmps43
    go_wp2_with fail
    refine CC.mono ?_
    rintro e w1 ⟨rfl, hQ1⟩
    have hE1 := hQ1.ext
    go_wp2
    go_ret2
    exact ⟨_, rfl, OwnB.nil _ _, hE1⟩
  | true =>
    obtain ⟨sz, rfl⟩ : ∃ sz : Nat, size = (sz : Int) := ⟨size.toNat, by omega⟩
    have hsz1 : 1 ≤ sz := by omega
    have hsz2 : sz ≤ 64 := by omega
    have hw : writeE (sz : Int) l = (dictB sz l, 0) := by unfold writeE; rw [if_neg (by rw [hm]; simp; omega)]; simp
    obtain ⟨-, hfit, -⟩ := may_facts hm
    obtain ⟨hb1, hb2, -⟩ := dict_len hsz1 hsz2 (l := l) (fun s hs => (hfit s hs).2)
    rw [hw]
    rw [hm] at CM
    have CC := CM w (Ext.refl w)
    have CN := hide (fun (x : Nat) (W : World) (hx : x ≤ 1000000000) => refNum_any x W (by omega))
    have HFit := hide (show ∀ i, i < n → (l.getD i []).length ≤ 25 from fun i hi => by
      rw [List.getD_eq_getElem?_getD, List.getElem?_eq_getElem (by omega)]
      exact (hfit _ (List.getElem_mem _)).2)
    have HIn := hide (fun i => bucket_in hsz1 hsz2 (l := l) (fun s hs => (hfit s hs).2) i)
    have HStep := hide (fun (i : Nat) (hi : i < n) => buckets_step hsz1 (l := l) (i := i) (by omega))
    have HBs := hide (fun (i : Nat) (hi : i < n) => bucket_start hsz1 (l := l) (i := i) (by omega))
    have HTs := hide (fun (k e : Nat) (h1 : k < e) (h2 : k < n) => tail_step (l := l) (k := k) (e := e) h1 (by omega))
    have HTe := hide (fun (k e : Nat) (was : List UInt8) (h : e ≤ k ∨ n ≤ k) => tail_end (l := l) (k := k) (e := e) (by omega) was)
    have HEnd := hide (fun (i : Nat) (hi : n ≤ i) => buckets_end (size := sz) (l := l) (i := i) (by omega))
    have HA := hide (fun W (hE : Ext w W) => h.later hE)
    have HD := hide (show dictB sz l = (enc n ++ headB (bucketsOf sz l)) ++ bodyB (bucketsOf sz l) by rw [← hln]; rfl)
    rw [buckets_start] at HD hb1 hb2
    rw [hln] at hb1 hb2
    have HT1 := hide (show (enc n ++ headB (bucketsAt sz l 0)).length ≤ 100000 by omega)
    have HT2 := hide (show (bodyB (bucketsAt sz l 0)).length ≤ 10000000 by omega)
    obtain ⟨T1, hT1⟩ : ∃ T1, T1 = enc n ++ headB (bucketsAt sz l 0) := ⟨_, rfl⟩
    obtain ⟨T2, hT2⟩ : ∃ T2, T2 = bodyB (bucketsAt sz l 0) := ⟨_, rfl⟩
    rw [← hT1] at HT1
    rw [← hT2] at HT2
    rw [← hT1, ← hT2] at HD
    have HI1 := hide hT1
    have HI2 := hide (show T2 = [] ++ bodyB (bucketsAt sz l 0) by rw [hT2]; rfl)
    have hwn := u64_wrap (n := n) (by omega)
    rw [HD.out]
    clear CM hw hl h hln hm hfit hT1 hT2 hb1 hb2 HD hs
    go_enter Try.func43, Try.ntmps43
    go_wp2_with fail
    refine CC.mono ?_
    rintro e w1 ⟨rfl, hQ1⟩
    have HE1 := hide hQ1.ext
    clear CC hQ1
    go_wp2_with fail
    refine (CN.out n w1 (by omega)).mono ?_
    rintro e w2 ⟨v2, rfl, hO2, hE2⟩
    have HO2 := hide (hO2.mono HE1.out.le)
    have HE2 := hide (HE1.out.trans hE2)
    clear hO2 hE2 HE1
    have H30 := hide (show Three w2 w.heap.size v2 (enc n) (.slice none 0 0) [] (.slice none 0 0) [] from ⟨HO2.out, OwnB.nil _ _, OwnB.nil _ _, Ap.nil _, Ap.nil _, Ap.nil _⟩)
    go_wp2
    go_loopw [8, 6, 7] (fun y u v wr => ∃ (i : Nat) (H B : List UInt8), i ≤ n + 64 ∧ y = .int .i64 (i : Int) ∧ Three wr w.heap.size u H v B (.slice none 0 0) [] ∧ T1 = H ++ headB (bucketsAt sz l i) ∧ T2 = B ++ bodyB (bucketsAt sz l i) ∧ Ext w wr) (fun y _ _ _ => n + 64 - (intOf y).toNat)
    case atStart => exact ⟨0, enc n, [], by omega, rfl, H30.out, HI1.out, HI2.out, HE2.out⟩
    case round =>
      clear HI1 HI2 H30 HE2 HO2
      obtain ⟨i, H, B, hi, rfl, h3, ht1, ht2, hE⟩ := hrel
      have HE := hide hE
      have H3 := hide h3
      have HT1' := hide ht1
      have HT2' := hide ht2
      clear hE h3 ht1 ht2
      by_cases hlt : i < n
      · have hiI : (i : Int) < (n : Int) := by omega
        rcases (HA.out wr HE.out).2 with h0 | ⟨b1, o1, rfl, -, hc1⟩
        · omega
        have hc := hc1 i hlt
        have HCell := hide (show ∀ W, Ext w W → ∀ j, j < n → W.cell? ⟨b1, o1 + j, none⟩ = some (.string ⟨(l.getD j []).toArray⟩) from fun W hW j hj => by
          rcases (HA.out W hW).2 with h0 | ⟨b2, o2, h2, -, hc2⟩
          · omega
          · simp only [Option.some.injEq, Addr.mk.injEq, and_true] at h2
            obtain ⟨rfl, rfl⟩ := h2
            exact hc2 j hj)
        have HP := hide (HBs.out i hlt)
        have HSi := hide (HStep.out i hlt)
        have HPl := hide (HIn.out i)
        obtain ⟨P, hP⟩ : ∃ P, P = bucketB ((l.drop i).take sz) := ⟨_, rfl⟩
        have hH1 := HT1'.out
        have hH2 := HT2'.out
        rw [HSi.out] at hH1 hH2
        rw [← hP] at HP HPl
        have HH1 := hide (show T1 = H ++ enc P.length ++ headB (bucketsAt sz l (i + sz)) by rw [hH1, hP]; simp [headB])
        have HH2 := hide (show T2 = B ++ P ++ bodyB (bucketsAt sz l (i + sz)) by rw [hH2, hP]; simp [bodyB])
        have HS0 := hide (HFit.out i hlt)
        obtain ⟨s0, hs0⟩ : ∃ s, s = l.getD i [] := ⟨_, rfl⟩
        rw [← hs0] at hc HP HS0
        have CT := refTextL_any s0 wr (by have := HS0.out; omega)
        have HSe := hide hs0
        clear hP hH1 hH2 hc1 HT1' HT2' HSi hs0
        go_wp2_with fail
        refine CT.mono ?_
        rintro e w4 ⟨v4, rfl, hO4, hE4⟩
        have H34 := hide (H3.out.fresh hE4 hO4 HE.out.le)
        have HE4 := hide (HE.out.trans hE4)
        clear hO4 hE4 CT hc
        go_wp2
        obtain ⟨wo, rfl⟩ : ∃ W, W = wr := ⟨_, rfl⟩
        go_loopw [10, 9] (fun y x wk => ∃ (k : Nat) (X : List UInt8), i + 1 ≤ k ∧ k ≤ n ∧ y = .int .i64 (k : Int) ∧ Three wk w.heap.size u6 H u7 B x X ∧ P = X ++ tailB (l.getD (k - 1) []) (left l k (i + sz)) ∧ Ext w wk) (fun y _ _ => n - (intOf y).toNat)
        case atStart => exact ⟨i + 1, textB s0, by omega, by omega, rfl, H34.out, by rw [HP.out, show i + 1 - 1 = i by omega, ← HSe.out], HE4.out⟩
        case round =>
          clear H34 HP HSe HS0
          obtain ⟨k, X, hk1, hkn, rfl, h3k, hPk, hEk⟩ := hrel
          by_cases hcont : k < i + sz ∧ k < n
          · obtain ⟨hk3, hk4⟩ := hcont
            have hkI1 : (k : Int) < (i : Int) + (sz : Int) := by omega
            have hkI2 : (k : Int) < (n : Int) := by omega
            obtain ⟨j, hj⟩ : ∃ j, k = j + 1 := ⟨k - 1, by omega⟩
            have hj1 : (k : Int) - 1 = (j : Int) := by omega
            have hjI : (j : Int) < (n : Int) := by omega
            have hk0 : (0 : Int) < (k : Int) := by omega
            have cj := HCell.out wr hEk j (by omega)
            have ck := HCell.out wr hEk k hk4
            rw [HTs.out k (i + sz) hk3 hk4, show k - 1 = j by omega] at hPk
            have HSj := hide (HFit.out j (by omega))
            have HSk := hide (HFit.out k hk4)
            obtain ⟨sk, hsk⟩ : ∃ s, s = l.getD k [] := ⟨_, rfl⟩
            obtain ⟨sj, hsj⟩ : ∃ s, s = l.getD j [] := ⟨_, rfl⟩
            rw [← hsk] at hPk ck HSk
            rw [← hsj] at hPk cj HSj
            have HSke := hide hsk
            have hall := (alike_le sj sk).2
            have CA := fun m => Calls.quiet_of (refAlike_any sj sk (wr.drewN m) (by have := HSj.out; omega))
            have HIt := hide (show itemB sj sk = enc (alike sj sk) ++ textB (sk.drop (alike sj sk)) from rfl)
            generalize alike sj sk = a at *
            have haI : (a : Int) ≤ (sk.length : Int) := by omega
            have ha25 : a ≤ 25 := by have := HSk.out; omega
            have hwa := u64_wrap (n := a) (by omega)
            have HPk := hide hPk
            have HXl := hide (show X.length ≤ 2000 by have h1 := HPl.out; rw [hPk, List.length_append] at h1; omega)
            have H3k := hide (h3k.ext (Ext.refl wr))
            have HEk := hide hEk
            clear hPk h3k hEk hsk hsj hk3 hall hj
            go_wp2_with fail
            go_quiet (first | (go_at_call 61; exact CA _))
            go_wp2_with fail
            refine (CN.out a _ (by omega)).mono ?_
            rintro e w5 ⟨v5, rfl, hO5, hE5⟩
            have hQ5 := ((Ext.refl wr).drewN _).trans hE5
            have H35 := hide (H3k.out.ext hQ5)
            have HE5 := hide (HEk.out.trans hQ5)
            obtain ⟨A5, c5, hv5, -, -, q5⟩ := hO5.form
            obtain ⟨m5, hm5⟩ : ∃ m, m = (enc a).length := ⟨_, rfl⟩
            rw [← hm5] at hv5 q5
            have HM5 := hide hm5
            have HQ5 := hide q5
            subst hv5
            clear hO5 hE5 q5 hm5 hQ5 cj ck CA
            go_wp2_with (at_builtin; refine wpList_appAt rfl (.tmp 64) (.tmp 67) rfl rfl H35.out.2.2.1 rfl HQ5.out (by have := HXl.out; have := HM5.out; have := enc_len a; omega) HE5.out.le ?_; intro v6 w6 hO6 hG6 hN6; have H36 := hide (H35.out.turn.grow hO6 hG6 hN6).turn.turn; have HE6 := hide (show Ext w w6 from Below.grown HE5.out hG6 HE5.out.le (fun k hk => (H35.out.2.2.1.lt k hk).1)); have ck6 := HCell.out w6 HE6.out k hk4; rw [← HSke.out] at ck6; clear hO6 hG6 hN6)
            refine (refTextL_any (sk.drop a) w6 (by have := HSk.out; rw [List.length_drop]; omega)).mono ?_
            rintro e w7 ⟨v7, rfl, hO7, hE7⟩
            have H37 := hide (H36.out.ext hE7)
            have HE7 := hide (HE6.out.trans hE7)
            obtain ⟨Z, hZ⟩ : ∃ Z, Z = textB (sk.drop a) := ⟨_, rfl⟩
            rw [← hZ] at hO7
            obtain ⟨A7, c7, hv7, -, -, q7⟩ := hO7.form
            obtain ⟨m7, hm7⟩ : ∃ m, m = Z.length := ⟨_, rfl⟩
            rw [← hm7] at hv7 q7
            have HM7 := hide hm7
            have HQ7 := hide q7
            have HZ := hide hZ
            have HZl := hide (show Z.length ≤ 40 by
              rw [hZ]
              unfold textB
              have := HSk.out
              have := enc_len (sk.drop a).length
              rw [List.length_append, List.length_drop] at *
              omega)
            subst hv7
            clear hO7 hE7 q7 hm7 hZ ck6
            go_wp2_with (at_builtin; refine wpList_appAt rfl (.tmp 69) (.tmp 76) rfl rfl H37.out.2.2.1 rfl HQ7.out (by have := HXl.out; have := enc_len a; have := HZl.out; have := HM7.out; rw [List.length_append]; omega) HE7.out.le ?_; intro v8 w8 hO8 hG8 hN8; have H38 := hide (H37.out.turn.grow hO8 hG8 hN8).turn.turn; have HE8 := hide (show Ext w w8 from Below.grown HE7.out hG8 HE7.out.le (fun k hk => (H37.out.2.2.1.lt k hk).1)); clear hO8 hG8 hN8)
            go_roundw
            case rel => exact ⟨k + 1, X ++ enc a ++ Z, by omega, by omega, by go_num, H38.out, by rw [HPk.out, HIt.out, ← HZ.out, show k + 1 - 1 = k by omega, ← HSke.out]; simp only [List.append_assoc], HE8.out⟩
            case measure => simp [intOf]; omega
          · have HXP : P = X := by rw [hPk, HTe.out k (i + sz) _ (by omega), List.append_nil]
            subst HXP
            have HXl := hide HPl.out
            obtain ⟨X, hX⟩ : ∃ X, X = P := ⟨_, rfl⟩
            rw [← hX] at h3k HH1 HH2 HXl
            have HHl := hide (show H.length ≤ 100000 by have h1 := HT1.out; rw [HH1.out, List.length_append, List.length_append] at h1; omega)
            have HBl := hide (show B.length ≤ 10000000 by have h1 := HT2.out; rw [HH2.out, List.length_append, List.length_append] at h1; omega)
            obtain ⟨A9, c9, hv9, -, -, -⟩ := h3k.2.2.1.form
            subst hv9
            have hwx := u64_wrap (n := X.length) (by have := HXl.out; omega)
            have H3k := hide h3k
            have HEk := hide hEk
            clear h3k hEk hPk hX HPl
            by_cases hge : i + sz ≤ k
            · have hgI : ¬ (k : Int) < (i : Int) + (sz : Int) := by omega
              clear hcont hge
              go_wp2_with fail
              refine (CN.out X.length wr (by have := HXl.out; omega)).mono ?_
              rintro e w5 ⟨v5, rfl, hO5, hE5⟩
              have h35 := (H3k.out.ext hE5).drop.flip.flip
              have H35 := hide (H3k.out.ext hE5)
              have HE5 := hide (HEk.out.trans hE5)
              obtain ⟨A5, c5, hv5, -, -, q5⟩ := hO5.form
              obtain ⟨m5, hm5⟩ : ∃ m, m = (enc X.length).length := ⟨_, rfl⟩
              rw [← hm5] at hv5 q5
              have HM5 := hide hm5
              have HQ5 := hide q5
              subst hv5
              clear hO5 hE5 q5 hm5 h35
              go_wp2_with (first | (at_builtin; refine wpList_appAt rfl (.tmp 78) (.tmp 82) rfl rfl H35.out.1 rfl HQ5.out (by have := HM5.out; have := HHl.out; have := enc_len X.length; omega) HE5.out.le ?_; intro v6 w6 hO6 hG6 hN6; have H36 := hide (H35.out.grow hO6 hG6 hN6); have HE6 := hide (show Ext w w6 from Below.grown HE5.out hG6 HE5.out.le (fun k hk => (H35.out.1.lt k hk).1)); clear hO6 hG6 hN6) | (at_builtin; refine wpList_appAt rfl (.tmp 84) (.tmp 85) rfl rfl H36.out.2.1 rfl H36.out.2.2.1.bytesOf (by have := HXl.out; have := HBl.out; omega) HE6.out.le ?_; intro v7 w7 hO7 hG7 hN7; have H37 := hide (H36.out.flip.grow hO7 hG7 hN7).flip.drop; have HE7 := hide (show Ext w w7 from Below.grown HE6.out hG7 HE6.out.le (fun k hk => (H36.out.2.1.lt k hk).1)); clear hO7 hG7 hN7))
              go_roundw
              case rel => exact ⟨i + sz, H ++ enc X.length, B ++ X, by omega, by go_num, H37.out, HH1.out, HH2.out, HE7.out⟩
              case measure => simp [intOf]; omega
            · have hgI : (k : Int) < (i : Int) + (sz : Int) := by omega
              have hgI2 : ¬ (k : Int) < (n : Int) := by omega
              clear hcont hge
              go_wp2_with fail
              refine (CN.out X.length wr (by have := HXl.out; omega)).mono ?_
              rintro e w5 ⟨v5, rfl, hO5, hE5⟩
              have h35 := (H3k.out.ext hE5).drop.flip.flip
              have H35 := hide (H3k.out.ext hE5)
              have HE5 := hide (HEk.out.trans hE5)
              obtain ⟨A5, c5, hv5, -, -, q5⟩ := hO5.form
              obtain ⟨m5, hm5⟩ : ∃ m, m = (enc X.length).length := ⟨_, rfl⟩
              rw [← hm5] at hv5 q5
              have HM5 := hide hm5
              have HQ5 := hide q5
              subst hv5
              clear hO5 hE5 q5 hm5 h35
              go_wp2_with (first | (at_builtin; refine wpList_appAt rfl (.tmp 78) (.tmp 82) rfl rfl H35.out.1 rfl HQ5.out (by have := HM5.out; have := HHl.out; have := enc_len X.length; omega) HE5.out.le ?_; intro v6 w6 hO6 hG6 hN6; have H36 := hide (H35.out.grow hO6 hG6 hN6); have HE6 := hide (show Ext w w6 from Below.grown HE5.out hG6 HE5.out.le (fun k hk => (H35.out.1.lt k hk).1)); clear hO6 hG6 hN6) | (at_builtin; refine wpList_appAt rfl (.tmp 84) (.tmp 85) rfl rfl H36.out.2.1 rfl H36.out.2.2.1.bytesOf (by have := HXl.out; have := HBl.out; omega) HE6.out.le ?_; intro v7 w7 hO7 hG7 hN7; have H37 := hide (H36.out.flip.grow hO7 hG7 hN7).flip.drop; have HE7 := hide (show Ext w w7 from Below.grown HE6.out hG7 HE6.out.le (fun k hk => (H36.out.2.1.lt k hk).1)); clear hO7 hG7 hN7))
              go_roundw
              case rel => exact ⟨i + sz, H ++ enc X.length, B ++ X, by omega, by go_num, H37.out, HH1.out, HH2.out, HE7.out⟩
              case measure => simp [intOf]; omega
      · have hiI : ¬ (i : Int) < (n : Int) := by omega
        have hz : bucketsAt sz l i = [] := HEnd.out i (by omega)
        have h1 := HT1'.out
        have h2 := HT2'.out
        rw [hz] at h1 h2
        have h1 : T1 = H := by rw [h1]; simp [headB]
        have h2 : T2 = B := by rw [h2]; simp [bodyB]
        subst h1 h2
        obtain ⟨A7, c7, hv7, -, -, -⟩ := H3.out.2.1.form
        subst hv7
        clear HT1' HT2' hz hlt h1 h2
        go_wp2_with (at_builtin; refine wpList_appAt rfl (.tmp 87) (.tmp 88) rfl rfl H3.out.1 rfl H3.out.2.1.bytesOf (by have := HT1.out; have := HT2.out; omega) HE.out.le ?_; intro v6 w6 hO6 hG6 hN6; have HO6 := hide hO6; have HE6 := hide (show Ext w w6 from Below.grown HE.out hG6 HE.out.le (fun k hk => (H3.out.1.lt k hk).1)); clear hO6 hG6 hN6)
        go_ret2
        exact ⟨_, rfl, HO6.out, HE6.out⟩
end Go.Proofs.Ytcphapdjimeoaaa

namespace Go.Proofs.Ytcphapdjimeoaaa
open Go.RowKit Wrd

theorem Wrd.drop_tx {L : List (List UInt8)} {i : Nat} (h : i < L.length) : L.drop i = L.getD i [] :: L.drop (i + 1) := by
  rw [List.drop_eq_getElem_cons h, List.getD_eq_getElem?_getD, List.getElem?_eq_getElem h]
  rfl
theorem Wrd.take_tx {L : List (List UInt8)} {i : Nat} (h : i < L.length) : L.take (i + 1) = L.take i ++ [L.getD i []] := by
  rw [List.take_add_one, List.getD_eq_getElem?_getD, List.getElem?_eq_getElem h]
  rfl
theorem Wrd.put_on {L R : List (List UInt8)} {s : List UInt8} {i : Nat} (h : i < L.length) (hb : Op.bytesLess (L.getD i []) s = true) (hR : R = L.take i ++ putT (L.drop i) s) : R = L.take (i + 1) ++ putT (L.drop (i + 1)) s := by
  rw [hR, drop_tx h, putT, if_pos hb, take_tx h, List.append_assoc]
  rfl
theorem Wrd.put_same {L R : List (List UInt8)} {s : List UInt8} {i : Nat} (h : i < L.length) (hb : Op.bytesLess (L.getD i []) s = false) (he : L.getD i [] = s) (hR : R = L.take i ++ putT (L.drop i) s) : R = L := by
  rw [hR, drop_tx h, putT, if_neg (by rw [hb]; simp), if_pos he, ← drop_tx h, List.take_append_drop]
theorem Wrd.put_in {L R : List (List UInt8)} {s : List UInt8} {i : Nat} (h : i < L.length) (hb : Op.bytesLess (L.getD i []) s = false) (he : L.getD i [] ≠ s) (hR : R = L.take i ++ putT (L.drop i) s) : ([] ++ L.take i ++ [s]) ++ L.drop i = R := by
  rw [hR]
  conv => rhs; rw [drop_tx h, putT, if_neg (by rw [hb]; simp), if_neg he, ← drop_tx h]
  simp
theorem Wrd.put_end {L R : List (List UInt8)} {s : List UInt8} {n : Nat} (hn : L.length = n) (hR : R = L.take n ++ putT (L.drop n) s) : ([] ++ L.take n ++ [s]) ++ L.drop n = R := by
  subst hn
  rw [hR, List.drop_length]
  simp [putT]

attribute [local go_sem ↓] run_txtAt run_txtLen run_txtCut run_cutTx run_topTx
set_option maxHeartbeats 2000000 in
set_option maxRecDepth 10000 in
theorem refPut15_any (A : Option Addr) (n c : Nat) (L : List (List UInt8)) (s : List UInt8) (w : World) (h : TextsAt w w.heap.size A n L) (hc : n ≤ c) (hcm : c ≤ maxLen) (hn : n ≤ 100000) :
    Calls Try.prog 28 #[.slice A n c, .string ⟨s.toArray⟩] w (MadeTx w (putT L s)) := by
  have hl := h.1
  have HA := hide h
  have H0 := hide (show putT L s = L.take 0 ++ putT (L.drop 0) s from rfl)
  have HOn := hide (fun (i : Nat) (hi : i < n) => put_on (L := L) (R := putT L s) (s := s) (i := i) (by omega))
  have HSame := hide (fun (i : Nat) (hi : i < n) => put_same (L := L) (R := putT L s) (s := s) (i := i) (by omega))
  have HIn := hide (fun (i : Nat) (hi : i < n) => put_in (L := L) (R := putT L s) (s := s) (i := i) (by omega))
  have HEnd := hide (put_end (L := L) (R := putT L s) (s := s) hl)
  have HC := hide (And.intro hc hcm)
  have HTl := hide (show ∀ i, i ≤ n → (L.take i).length = i from fun i hi => by rw [List.length_take]; omega)
  generalize putT L s = res at *
  have HN := hide hl
  unfold MadeTx
  clear h hcm hl
  -- what is done behind the loop, at the place i
  go_enter Try.func28, Try.ntmps28
  go_wp2
  go_loopw [5] (fun x wr => ∃ i : Nat, i ≤ n ∧ x = .int .i64 (i : Int) ∧ res = L.take i ++ putT (L.drop i) s ∧ wr = w) (fun x _ => n - (intOf x).toNat)
  case atStart => exact ⟨0, by omega, rfl, H0.out, rfl⟩
  case round =>
    clear H0
    obtain ⟨i, hi, rfl, hres, rfl⟩ := hrel
    have HR := hide hres
    clear hres
    have hiI2 : (i : Int) ≤ (n : Int) := by omega
    have hicI : (i : Int) ≤ (c : Int) := by omega
    have HT1 := hide (HA.out.top hi)
    have HT2 := hide (HA.out.cut hi HC.out.1)
    have hl1 : ([] : List (List UInt8)).length + i ≤ 2000000 := by simp; omega
    have hl2 : ([] ++ L.take i : List (List UInt8)).length ≤ 1000000 := by rw [List.nil_append, HTl.out i hi]; omega
    have HL3 := hide (show ([] ++ L.take i ++ [s] : List (List UInt8)).length + (n - i) ≤ 2000000 by rw [List.nil_append, List.length_append, HTl.out i hi, List.length_singleton]; omega)
    by_cases hlt : i < n
    · have hiI : (i : Int) < (n : Int) := by omega
      have hd0 : decide ((i : Int) < (n : Int)) = true := decide_eq_true hiI
      rcases HA.out.2 with hn0 | ⟨b1, o1, rfl, _, hc1⟩
      · omega
      have e1 := hc1 i hlt
      have hltL : i < n := hlt
      have HOn2 := hide (fun hb => HOn.out i hlt hb HR.out)
      have HSame2 := hide (fun hb he => HSame.out i hlt hb he HR.out)
      have HIn2 := hide (fun hb he => HIn.out i hlt hb he HR.out)
      obtain ⟨y, hy⟩ : ∃ y, y = L.getD i [] := ⟨_, rfl⟩
      rw [← hy] at e1 HOn2 HSame2 HIn2
      clear hc1 hy
      cases hb : Op.bytesLess y s with
      | true =>
        have HRn := hide (HOn2.out hb)
        go_wp2
        go_roundw
        case rel => exact ⟨i + 1, by omega, by go_num, HRn.out, trivial⟩
        case measure => simp [intOf]; omega
      | false =>
        by_cases he : y = s
        · have heb : (y == s) = true := by simpa using he
          have HRn := hide (HSame2.out hb he)
          clear he
          go_wp2
          go_ret
          rw [HRn.out]
          exact ⟨some ⟨b1, o1, none⟩, c, by rw [HN.out]; rfl, by rw [HN.out]; exact HC.out.1, HC.out.2, by rw [HN.out]; exact HA.out, Ext.refl _⟩
        · have heb : (y == s) = false := by simpa using he
          have HRn := hide (HIn2.out hb he)
          clear he
          go_wp2_with (first
            | (at_builtin; refine wpList_appTx (L := []) rfl (.tmp 34) (.tmp 37) rfl rfl (OwnTx.nil wr wr.heap.size) rfl HT1.out hl1 (Nat.le_refl _) ?_; intro v1 w1 hO1 hG1 hN1; have HO1 := hide hO1; have HE1 := hide (show Ext wr w1 from Below.grown (Ext.refl _) hG1 (Nat.le_refl _) (fun k hk => by cases hk)); clear hO1 hG1 hN1)
            | (at_builtin; refine wpList_litTx (L := [] ++ L.take i) rfl (.tmp 39) (.tmp 41) rfl HE1.out HO1.out rfl s rfl hl2 ?_; intro v2 w2 hO2 hE2; have HO2 := hide hO2; have HE2 := hide hE2; have HB2 := hide (HT2.out.later hE2); clear hO2 hE2)
            | (at_builtin; refine wpList_appTx rfl (.tmp 43) (.tmp 46) rfl rfl HO2.out rfl HB2.out HL3.out HE2.out.le ?_; intro v3 w3 hO3 hG3 hN3))
          go_ret
          rw [HRn.out] at hO3
          obtain ⟨A3, c3, rfl, q1, q2, q3⟩ := hO3.form
          exact ⟨A3, c3, rfl, q1, q2, q3, Below.grown HE2.out hG3 HE2.out.le (fun k hk => (HO2.out.lt k hk).1)⟩
    · obtain rfl : n = i := by omega
      have hd0 : decide ((n : Int) < (n : Int)) = false := decide_eq_false (by omega)
      have HRn := hide (HEnd.out HR.out)
      rw [Nat.sub_self] at HT2 HL3
      go_wp2_with (first
        | (at_builtin; refine wpList_appTx (L := []) rfl (.tmp 34) (.tmp 37) rfl rfl (OwnTx.nil wr wr.heap.size) rfl HT1.out hl1 (Nat.le_refl _) ?_; intro v1 w1 hO1 hG1 hN1; have HO1 := hide hO1; have HE1 := hide (show Ext wr w1 from Below.grown (Ext.refl _) hG1 (Nat.le_refl _) (fun k hk => by cases hk)); clear hO1 hG1 hN1)
        | (at_builtin; refine wpList_litTx (L := [] ++ L.take n) rfl (.tmp 39) (.tmp 41) rfl HE1.out HO1.out rfl s rfl hl2 ?_; intro v2 w2 hO2 hE2; have HO2 := hide hO2; have HE2 := hide hE2; have HB2 := hide (HT2.out.later hE2); clear hO2 hE2)
        | (at_builtin; refine wpList_appTx rfl (.tmp 43) (.tmp 46) rfl rfl HO2.out rfl HB2.out HL3.out HE2.out.le ?_; intro v3 w3 hO3 hG3 hN3))
      go_ret
      rw [HRn.out] at hO3
      obtain ⟨A3, c3, rfl, q1, q2, q3⟩ := hO3.form
      exact ⟨A3, c3, rfl, q1, q2, q3, Below.grown HE2.out hG3 HE2.out.le (fun k hk => (HO2.out.lt k hk).1)⟩
end Go.Proofs.Ytcphapdjimeoaaa

namespace Go.Proofs.Ytcphapdjimeoaaa
open Go.RowKit Wrd

theorem run_atAdd (W : World) (l : List UInt8) (hl : l.length ≤ 8388608) : (Op.stringOp .add ⟨#[64]⟩ ⟨l.toArray⟩).run Try.prog W = .ok (.string ⟨(64 :: l).toArray⟩) W := by
  have := run_string_add_lists (P := Try.prog) W [64] l (by simp) (by omega)
  exact this
theorem Wrd.puts_len : ∀ (l out : List (List UInt8)), (l.foldl putT out).length ≤ out.length + l.length
  | [], out => by simp
  | s :: l, out => by
    have h1 := puts_len l (putT out s)
    have h2 := putT_len s out
    rw [List.foldl_cons, List.length_cons]
    omega
theorem Wrd.puts_at {l out : List (List UInt8)} {i : Nat} (h : i < l.length) : (l.take (i + 1)).foldl putT out = putT ((l.take i).foldl putT out) (l.getD i []) := by
  rw [take_tx h, List.foldl_append]
  rfl
/-- A record as a value. -/
def recV (t lv : Int) (src text : List UInt8) : Value := .agg #[.int .u64 t, .int .u8 lv, .string ⟨src.toArray⟩, .string ⟨text.toArray⟩]

attribute [local go_sem ↓] run_txtAt run_txtLen run_txtCut
set_option maxHeartbeats 2000000 in
set_option maxRecDepth 10000 in
theorem refTerms15_any (t lv : Int) (src text : List UInt8) (w : World) (h1 : src.length ≤ 20000) (h2 : text.length ≤ 20000) :
    Calls Try.prog 27 #[recV t lv src text] w (MadeTx w (termsE text src)) := by
  unfold recV
  have hE1 := extNew w (.cells #[.int .u64 t, .int .u8 lv, .string ⟨src.toArray⟩, .string ⟨text.toArray⟩] 41)
  have hW1 := Whole.new w 41 #[.int .u64 t, .int .u8 lv, .string ⟨src.toArray⟩, .string ⟨text.toArray⟩]
  obtain ⟨w1, hw1⟩ : ∃ x, x = w.alloc (.cells #[.int .u64 t, .int .u8 lv, .string ⟨src.toArray⟩, .string ⟨text.toArray⟩] 41) := ⟨_, rfl⟩
  rw [← hw1] at hE1 hW1
  have C1 := refWWords_any text w1 (by omega)
  have C2 := hide (fun W => refWWords_any src W (by omega))
  have HEv := hide (show termsE text src = ((wordsE src).map fun w => 64 :: w).foldl putT ((wordsE text).foldl putT []) from rfl)
  have HL1 := hide (words_len text)
  have HL2 := hide (words_len src)
  have HEach := hide (fun z (hz : z ∈ wordsE src) => (words_each hz).1.2)
  generalize wordsE text = ws at *
  generalize wordsE src = vs at *
  generalize termsE text src = res at *
  have HT1 := hide (fun (i : Nat) (hi : i < ws.length) => puts_at (out := []) hi)
  have HW1 := hide hW1
  have HWd := hide hw1
  have HE1 := hide hE1
  have H2 := hide h2
  have H1 := hide h1
  rw [hw1] at C1
  unfold MadeTx at C1 C2 ⊢
  clear hE1 hW1 hw1
  go_enter Try.func27, Try.ntmps27
  go_wp2_with fail
  refine C1.mono ?_
  rintro e w2 ⟨A2, c2, rfl, p1, p2, p3, hE2⟩
  rw [← HWd.out] at hE2
  have hp1 : ws.length ≤ 20000 := by have := HL1.out; have := H2.out; omega
  have HP := hide p3
  have HE2 := hide hE2
  have HC := hide (And.intro p1 p2)
  have hWn : ws.length ≤ ws.length := Nat.le_refl _
  obtain ⟨n, hn⟩ : ∃ n, n = ws.length := ⟨_, rfl⟩
  rw [← hn] at HP hp1 ⊢
  have HN := hide hn
  clear C1 p1 p2 p3 hE2 hn hWn
  go_wp2
  go_loopw [5, 3] (fun x u wr => ∃ (i : Nat) (B : Option Addr) (d : Nat), i ≤ n ∧ x = .int .i64 (i : Int) ∧ u = .slice B ((ws.take i).foldl putT []).length d ∧ ((ws.take i).foldl putT []).length ≤ d ∧ d ≤ maxLen ∧ TextsAt wr wr.heap.size B ((ws.take i).foldl putT []).length ((ws.take i).foldl putT []) ∧ Ext w2 wr) (fun x _ _ => n - (intOf x).toNat)
  case atStart => exact ⟨0, none, 0, by omega, rfl, rfl, by simp, by unfold maxLen; omega, ⟨rfl, .inl rfl⟩, Ext.refl _⟩
  case round =>
    obtain ⟨i, B, d, hi, rfl, rfl, hd1, hd2, hI, hE⟩ := hrel
    by_cases hlt : i < n
    · have hiI : (i : Int) < (n : Int) := by omega
      rcases (HP.out.later hE).2 with hn0 | ⟨b1, o1, rfl, _, hc1⟩
      · omega
      have e1 := hc1 i hlt
      have HT := hide (HT1.out i (by rw [← HN.out]; exact hlt))
      have hPl := puts_len (ws.take i) []
      rw [List.length_take] at hPl
      obtain ⟨P, hP0⟩ : ∃ P, P = (ws.take i).foldl putT [] := ⟨_, rfl⟩
      rw [← hP0] at hd1 hI HT hPl ⊢
      obtain ⟨y, hy⟩ : ∃ y, y = ws.getD i [] := ⟨_, rfl⟩
      rw [← hy] at e1 HT
      have hPl2 : P.length ≤ 100000 := by simp at hPl; omega
      have CP := refPut15_any B P.length d P y wr hI hd1 hd2 hPl2
      unfold MadeTx at CP
      have HE := hide hE
      clear hy hP0 hI hd1 hPl hc1 hE
      go_wp2_with fail
      refine CP.mono ?_
      rintro e w5 ⟨B5, d5, rfl, q1, q2, q3, hE5⟩
      rw [← HT.out] at q1 q3 ⊢
      have HQ := hide (And.intro q1 (And.intro q2 (And.intro q3 (HE.out.trans hE5))))
      clear CP q1 q2 q3 hE5 e1
      generalize hR : (ws.take (i + 1)).foldl putT [] = R at *
      go_wp2
      go_roundw
      case rel => exact ⟨i + 1, B5, d5, by omega, by go_num, by rw [hR], by rw [hR]; exact HQ.out.1, HQ.out.2.1, by rw [hR]; exact HQ.out.2.2.1, HQ.out.2.2.2⟩
      case measure => simp [intOf]; omega
    · obtain rfl : n = i := by omega
      have hall : ws.take n = ws := List.take_of_length_le (by rw [HN.out]; exact Nat.le_refl _)
      rw [hall] at hd1 hI ⊢
      have hPl := puts_len ws []
      obtain ⟨P, hP0⟩ : ∃ P, P = ws.foldl putT [] := ⟨_, rfl⟩
      rw [← hP0] at hd1 hI hPl HEv ⊢
      have hPl2 : P.length ≤ 20000 := by rw [← HN.out] at hPl; simp at hPl; omega
      have f1 := ((HW1.out.ext HE2.out).ext hE).at 2 (u := .string ⟨src.toArray⟩) rfl
      have C3 := C2.out wr
      have HT2 := hide (fun (i : Nat) (hi : i < (vs.map fun w => 64 :: w).length) => puts_at (out := P) hi)
      have HI := hide hI
      have HE := hide (HE1.out.trans (HE2.out.trans hE))
      have HD := hide (And.intro hd1 hd2)
      clear hI hE hd1 hd2 hall hP0 hPl
      go_wp2_with fail
      refine C3.mono ?_
      rintro e w6 ⟨A6, c6, rfl, p1, p2, p3, hE6⟩
      have hm1 : vs.length ≤ 20000 := by have := HL2.out; have := H1.out; omega
      have HP6 := hide p3
      have HI6 := hide (HI.out.later hE6)
      have HE6 := hide (HE.out.trans hE6)
      obtain ⟨m, hm⟩ : ∃ m, m = vs.length := ⟨_, rfl⟩
      rw [← hm] at HP6 hm1 ⊢
      have HM := hide hm
      clear C3 p1 p2 p3 hE6 hm f1 HI HE
      go_wp2
      go_loopw [6, 3] (fun x u wr => ∃ (i : Nat) (B : Option Addr) (d : Nat), i ≤ m ∧ x = .int .i64 (i : Int) ∧ u = .slice B (((vs.map fun w => 64 :: w).take i).foldl putT P).length d ∧ (((vs.map fun w => 64 :: w).take i).foldl putT P).length ≤ d ∧ d ≤ maxLen ∧ TextsAt wr wr.heap.size B (((vs.map fun w => 64 :: w).take i).foldl putT P).length (((vs.map fun w => 64 :: w).take i).foldl putT P) ∧ Ext w6 wr) (fun x _ _ => m - (intOf x).toNat)
      case atStart => exact ⟨0, B, d, by omega, rfl, rfl, HD.out.1, HD.out.2, HI6.out, Ext.refl _⟩
      case round =>
        clear HD HI6
        obtain ⟨i, B, d, hi, rfl, rfl, hd1, hd2, hI, hE⟩ := hrel
        by_cases hlt : i < m
        · have hiI : (i : Int) < (m : Int) := by omega
          rcases (HP6.out.later hE).2 with hn0 | ⟨b1, o1, rfl, _, hc1⟩
          · omega
          have e1 := hc1 i hlt
          have hltv : i < vs.length := by rw [← HM.out]; exact hlt
          have HT := hide (HT2.out i (by rw [List.length_map]; exact hltv))
          have hg : (vs.map fun w => 64 :: w).getD i [] = 64 :: vs.getD i [] := by simp [List.getD_eq_getElem?_getD, hltv]
          rw [hg] at HT
          have hPl := puts_len ((vs.map fun w => 64 :: w).take i) P
          rw [List.length_take] at hPl
          obtain ⟨R, hR0⟩ : ∃ R, R = ((vs.map fun w => 64 :: w).take i).foldl putT P := ⟨_, rfl⟩
          rw [← hR0] at hd1 hI HT hPl ⊢
          have hy24 := HEach.out (vs.getD i []) (mem_at hltv)
          obtain ⟨y, hy⟩ : ∃ y, y = vs.getD i [] := ⟨_, rfl⟩
          rw [← hy] at e1 HT hy24
          have hadd := fun W => run_atAdd W y (by omega)
          have hPl2 : R.length ≤ 100000 := by omega
          have CP := refPut15_any B R.length d R (64 :: y) wr hI hd1 hd2 hPl2
          unfold MadeTx at CP
          have HE := hide hE
          clear hy hR0 hI hd1 hPl hc1 hE hg hltv hy24
          go_wp2_with fail
          refine CP.mono ?_
          rintro e w7 ⟨B7, d7, rfl, q1, q2, q3, hE7⟩
          rw [← HT.out] at q1 q3 ⊢
          have HQ := hide (And.intro q1 (And.intro q2 (And.intro q3 (HE.out.trans hE7))))
          clear CP q1 q2 q3 hE7 e1 hadd
          generalize hR : (((vs.map fun w => 64 :: w).take (i + 1)).foldl putT P) = R7 at *
          go_wp2
          go_roundw
          case rel => exact ⟨i + 1, B7, d7, by omega, by go_num, by rw [hR], by rw [hR]; exact HQ.out.1, HQ.out.2.1, by rw [hR]; exact HQ.out.2.2.1, HQ.out.2.2.2⟩
          case measure => simp [intOf]; omega
        · obtain rfl : m = i := by omega
          have hall : (vs.map fun w => 64 :: w).take m = vs.map fun w => 64 :: w := List.take_of_length_le (by rw [List.length_map, HM.out]; exact Nat.le_refl _)
          rw [hall, ← HEv.out] at hd1 hI ⊢
          have HI := hide hI
          have HE := hide (HE6.out.trans hE)
          have HD := hide (And.intro hd1 hd2)
          clear hI hE hd1 hd2 hall
          go_wp2
          go_ret
          exact ⟨B, d, rfl, HD.out.1, HD.out.2, HI.out, HE.out⟩
end Go.Proofs.Ytcphapdjimeoaaa

namespace Go.Proofs.Ytcphapdjimeoaaa
open Go.RowKit Wrd Dic

def Dic.sizeD (size : Int) : Bool := decide (1 ≤ size ∧ size ≤ 64)
theorem dSize_any (size : Int) (w : World) : Calls Try.prog 52 #[.int .i64 size] w fun e w' => e = .returned (.bool (sizeD size)) ∧ w = w' := by
  by_cases h0 : 1 ≤ size
  · by_cases h1 : size ≤ 64
    · have HD := hide (show sizeD size = true from decide_eq_true ⟨h0, h1⟩)
      generalize sizeD size = res at *
      go_enter Try.func52, Try.ntmps52
      go_wp2
      go_ret
      exact ⟨ret_bool HD.out.symm, rfl⟩
    · have HD := hide (show sizeD size = false from decide_eq_false fun h => h1 h.2)
      generalize sizeD size = res at *
      go_enter Try.func52, Try.ntmps52
      go_wp2
      go_ret
      exact ⟨ret_bool HD.out.symm, rfl⟩
  · have HD := hide (show sizeD size = false from decide_eq_false fun h => h0 h.1)
    generalize sizeD size = res at *
    go_enter Try.func52, Try.ntmps52
    go_wp2
    go_ret
    exact ⟨ret_bool HD.out.symm, rfl⟩

theorem Dic.gtr_less (a t : List UInt8) : (!Op.bytesLess t a && !t == a) = Op.bytesLess a t := by
  cases h : Op.bytesLess a t with
  | true =>
    have h1 : Op.bytesLess t a = false := by
      cases h2 : Op.bytesLess t a with
      | false => rfl
      | true => have := less_trans _ _ _ h h2; rw [less_self] at this; cases this
    have h2 : (t == a) = false := by
      rw [beq_eq_false_iff_ne]
      rintro rfl
      rw [less_self] at h
      cases h
    rw [h1, h2]
    rfl
  | false =>
    by_cases he : t = a
    · subst he; simp
    · rw [less_total _ _ h (fun e => he e.symm)]
      rfl
/-- May the text t follow the text a? -/
def Dic.followD (a t : List UInt8) : Bool := decide (t.length ≤ 25) && Op.bytesLess a t
attribute [local go_sem ↓] run_txtAt run_txtLen run_txtCut run_txtTop
set_option maxHeartbeats 1000000 in
set_option maxRecDepth 10000 in
theorem dFollow_any (a t : List UInt8) (w : World) (ht : t.length ≤ 1000000) : Calls Try.prog 72 #[.string ⟨a.toArray⟩, .string ⟨t.toArray⟩] w fun e w' => e = .returned (.bool (followD a t)) ∧ w = w' := by
  by_cases h1 : t.length ≤ 25
  · have h1I : (t.length : Int) ≤ 25 := by omega
    have HD := hide (show followD a t = (!Op.bytesLess t a && !t == a) by unfold followD; rw [decide_eq_true h1, Bool.true_and, gtr_less])
    generalize followD a t = res at *
    go_enter Try.func72, Try.ntmps72
    go_wp2
    go_ret
    exact ⟨ret_bool HD.out.symm, rfl⟩
  · have h1I : ¬ (t.length : Int) ≤ 25 := by omega
    have HD := hide (show followD a t = false by unfold followD; rw [decide_eq_false h1, Bool.false_and])
    generalize followD a t = res at *
    clear h1
    go_enter Try.func72, Try.ntmps72
    go_wp2
    go_ret
    exact ⟨ret_bool HD.out.symm, rfl⟩

/-- The text ahead. -/
def Dic.wasOf (l : List (List UInt8)) (i : Nat) : List UInt8 := if i = 0 then [] else l.getD (i - 1) []
theorem Dic.wasOf_succ (l : List (List UInt8)) (i : Nat) : wasOf l (i + 1) = l.getD i [] := by unfold wasOf; rw [if_neg (by omega), Nat.add_sub_cancel]
theorem Dic.less_pos {a t : List UInt8} (h : Op.bytesLess a t = true) : 1 ≤ t.length := by
  cases t with
  | nil => cases a <;> simp [Op.bytesLess] at h
  | cons _ _ => simp
theorem Dic.row_yes {l : List (List UInt8)} (h : ∀ i, i < l.length → followD (wasOf l i) (l.getD i []) = true) : mayD l = decide (l.length ≤ 1048576) := by
  by_cases h0 : l.length ≤ 1048576
  · rw [decide_eq_true h0]
    refine may_yes h0 fun i hi => ?_
    have h1 := h i hi
    unfold followD at h1
    rw [Bool.and_eq_true, decide_eq_true_eq] at h1
    refine ⟨⟨less_pos h1.2, h1.1⟩, fun hp => ?_⟩
    have h2 := h1.2
    unfold wasOf at h2
    rwa [if_neg (by omega)] at h2
  · rw [decide_eq_false h0]
    cases hm : mayD l with
    | false => rfl
    | true => exact absurd (may_facts hm).1 h0
theorem Dic.row_no {l : List (List UInt8)} {i : Nat} (hi : i < l.length) (h : followD (wasOf l i) (l.getD i []) = false) : mayD l = false := by
  cases hm : mayD l with
  | false => rfl
  | true =>
    exfalso
    obtain ⟨_, h2, h3⟩ := may_facts hm
    have hmem := h2 (l.getD i []) (by rw [List.getD_eq_getElem?_getD, List.getElem?_eq_getElem hi]; exact List.getElem_mem _)
    unfold followD at h
    rw [decide_eq_true hmem.2, Bool.true_and] at h
    unfold wasOf at h
    split at h
    · cases hx : l.getD i [] with
      | nil => rw [hx] at hmem; simp at hmem
      | cons _ _ => rw [hx] at h; simp [Op.bytesLess] at h
    · rw [rise_lt h3 (show i - 1 < i by omega) hi] at h
      cases h
set_option maxHeartbeats 1000000 in
set_option maxRecDepth 10000 in
theorem dIsRow_any (A : Option Addr) (n c : Nat) (L : List (List UInt8)) (w : World) (h : TextsAt w w.heap.size A n L) (hn : n ≤ 1000000) (hs : ∀ s, s ∈ L → s.length ≤ 1000000) :
    Calls Try.prog 53 #[.slice A n c] w fun e w' => e = .returned (.bool (mayD L)) ∧ w = w' := by
  have hl := h.1
  have HA := hide h
  have hnI : (n : Int) ≤ 1048576 := by omega
  have HYes := hide (show (∀ i, i < n → followD (wasOf L i) (L.getD i []) = true) → mayD L = true from fun h => by rw [row_yes (by rw [hl]; exact h), decide_eq_true (by omega)])
  have HNo := hide (fun (i : Nat) (hi : i < n) => row_no (l := L) (i := i) (by omega))
  have HLe := hide (show ∀ i, i < n → (L.getD i []).length ≤ 1000000 from fun i hi => hs _ (by
    rw [List.getD_eq_getElem?_getD, List.getElem?_eq_getElem (by omega)]
    exact List.getElem_mem _))
  generalize mayD L = res at *
  clear h hl hs
  go_enter Try.func53, Try.ntmps53
  go_wp2
  go_loopw [3, 8] (fun y x wr => ∃ i : Nat, i ≤ n ∧ x = .int .i64 (i : Int) ∧ y = .string ⟨(wasOf L i).toArray⟩ ∧ (∀ j, j < i → followD (wasOf L j) (L.getD j []) = true) ∧ w = wr) (fun _ x _ => n - (intOf x).toNat)
  case atStart => exact ⟨0, by omega, rfl, rfl, fun j hj => absurd hj (by omega), rfl⟩
  case round =>
    obtain ⟨i, hi, rfl, rfl, hall, rfl⟩ := hrel
    have HAll := hide hall
    clear hall
    by_cases hlt : i < n
    · have hiI : (i : Int) < (n : Int) := by omega
      rcases HA.out.2 with hn0 | ⟨b1, o1, rfl, -, hc1⟩
      · omega
      have e1 := hc1 i hlt
      have HNi := hide (HNo.out i hlt)
      have HNext := hide (show followD (wasOf L i) (L.getD i []) = true → ∀ j, j < i + 1 → followD (wasOf L j) (L.getD j []) = true from fun h1 j hj => by
        by_cases e : j = i
        · rw [e]; exact h1
        · exact HAll.out j (by omega))
      have hy := HLe.out i hlt
      have HW := hide (wasOf_succ L i)
      generalize wasOf L i = was at *
      obtain ⟨t, ht⟩ : ∃ t, t = L.getD i [] := ⟨_, rfl⟩
      rw [← ht] at e1 HNi HNext hy HW
      have C := dFollow_any was t w hy
      clear hc1 ht
      cases hf : followD was t with
      | true =>
        rw [hf] at C
        have HNx := hide (HNext.out hf)
        clear HNi HNext hf
        go_wp2_with fail
        refine C.mono ?_
        rintro e w2 ⟨rfl, rfl⟩
        clear C
        go_wp2
        go_roundw
        case rel => exact ⟨i + 1, by omega, by go_num, by rw [HW.out], HNx.out, by first | rfl | trivial⟩
        case measure => simp [intOf]; omega
      | false =>
        rw [hf] at C
        have HR := hide (HNi.out hf)
        clear HNi HNext hf
        go_wp2_with fail
        refine C.mono ?_
        rintro e w2 ⟨rfl, rfl⟩
        clear C
        go_wp2
        go_ret
        exact ⟨ret_bool HR.out.symm, rfl⟩
    · have hiI : ¬ (i : Int) < (n : Int) := by omega
      have HR := hide (HYes.out (fun j hj => HAll.out j (by omega)))
      clear hlt
      go_wp2
      go_ret
      exact ⟨ret_bool HR.out.symm, rfl⟩
set_option maxHeartbeats 1000000 in
set_option maxRecDepth 10000 in
theorem dSame_b (a b : List UInt8) (w : World) (ha : a.length ≤ 1000000) (hb : b.length ≤ 1000000) (hba : b.length < a.length) : Calls Try.prog 75 #[.string ⟨a.toArray⟩, .string ⟨b.toArray⟩] w fun e w' => e = .returned (.int .i64 (alike a b : Int)) ∧ Qt w w' := by
  have H0 := hide (show alike a b = 0 + alike (a.drop 0) (b.drop 0) by simp)
  have HSt := hide (fun (i : Nat) (h1 : i < a.length) (h2 : i < b.length) => alike_step h1 h2)
  have HEnd := hide (show ∀ i, b.length ≤ i → alike (a.drop i) (b.drop i) = 0 from fun i h => by
    rcases Nat.lt_or_ge i a.length with h1 | h1
    · rw [List.drop_of_length_le (by omega : b.length ≤ i)]; cases a.drop i <;> simp [alike]
    · rw [List.drop_of_length_le h1]; simp [alike])
  generalize alike a b = res at *
  go_enter Try.func75, Try.ntmps75
  go_wp2
  go_loopw [5] (fun y wr => ∃ i : Nat, i ≤ b.length ∧ y = .int .i64 (i : Int) ∧ res = i + alike (a.drop i) (b.drop i) ∧ Qt w wr) (fun y _ => b.length - (intOf y).toNat)
  case atStart => exact ⟨0, by omega, rfl, H0.out, Qt.refl _⟩
  case round =>
    clear H0
    obtain ⟨i, hi, rfl, hres, hQ⟩ := hrel
    have HR := hide hres
    clear hres
    by_cases hlt : i < b.length
    · have hiI : (i : Int) < (b.length : Int) := by omega
      have hla : i < a.length := by omega
      have hlb : i < b.length := by omega
      have hlaI : (i : Int) < (a.length : Int) := by omega
      have hlbI : (i : Int) < (b.length : Int) := by omega
      have hd0 : decide ((i : Int) < (b.length : Int)) = true := decide_eq_true hiI
      have hd1 : decide (i < b.length) = true := decide_eq_true hlt
      have hst := HSt.out i hla hlb
      obtain ⟨x, hx⟩ : ∃ x, a[i]'hla = x := ⟨_, rfl⟩
      obtain ⟨y, hy⟩ : ∃ y, b[i]'hlb = y := ⟨_, rfl⟩
      rw [hx, hy] at hst
      by_cases hxy : x = y
      · rw [if_pos hxy] at hst
        have HS := hide (show res = (i + 1) + alike (a.drop (i + 1)) (b.drop (i + 1)) by rw [HR.out, hst]; omega)
        have hne : ((x.toNat : Int) == (y.toNat : Int)) = true := by rw [hxy]; simp
        clear hst hxy
        go_wp2_with fail
        go_quiet (fail)
        go_wp2
        go_roundw
        case rel => exact ⟨i + 1, by omega, by go_num, HS.out, hQ.drewN _⟩
        case measure => simp [intOf]; omega
      · rw [if_neg hxy] at hst
        have HS := hide (show res = i by rw [HR.out, hst]; rfl)
        have hne : ((x.toNat : Int) == (y.toNat : Int)) = false := by
          rw [beq_eq_false_iff_ne]
          intro h
          exact hxy (UInt8.toNat_inj.1 (by omega))
        clear hst hxy
        go_wp2_with fail
        go_quiet (fail)
        go_wp2
        go_ret
        rw [HS.out]
        exact ⟨rfl, hQ.drewN _⟩
    · have hiI : ¬ (i : Int) < (b.length : Int) := by omega
      have hd0 : decide ((i : Int) < (b.length : Int)) = false := decide_eq_false hiI
      have hd1 : decide (i < b.length) = false := decide_eq_false hlt
      have HS := hide (show res = i by rw [HR.out, HEnd.out i (by omega)]; rfl)
      go_wp2_with fail
      go_quiet (fail)
      go_wp2
      go_ret
      rw [HS.out]
      exact ⟨rfl, hQ.drewN _⟩
set_option maxHeartbeats 1000000 in
set_option maxRecDepth 10000 in
theorem dSame_a (a b : List UInt8) (w : World) (ha : a.length ≤ 1000000) (hb : b.length ≤ 1000000) (hba : ¬ b.length < a.length) : Calls Try.prog 75 #[.string ⟨a.toArray⟩, .string ⟨b.toArray⟩] w fun e w' => e = .returned (.int .i64 (alike a b : Int)) ∧ Qt w w' := by
  have H0 := hide (show alike a b = 0 + alike (a.drop 0) (b.drop 0) by simp)
  have HSt := hide (fun (i : Nat) (h1 : i < a.length) (h2 : i < b.length) => alike_step h1 h2)
  have HEnd := hide (show ∀ i, a.length ≤ i → alike (a.drop i) (b.drop i) = 0 from fun i h => by
    rcases Nat.lt_or_ge i a.length with h1 | h1
    · rw [List.drop_of_length_le (by omega : b.length ≤ i)]; cases a.drop i <;> simp [alike]
    · rw [List.drop_of_length_le h1]; simp [alike])
  generalize alike a b = res at *
  go_enter Try.func75, Try.ntmps75
  go_wp2
  go_loopw [5] (fun y wr => ∃ i : Nat, i ≤ a.length ∧ y = .int .i64 (i : Int) ∧ res = i + alike (a.drop i) (b.drop i) ∧ Qt w wr) (fun y _ => a.length - (intOf y).toNat)
  case atStart => exact ⟨0, by omega, rfl, H0.out, Qt.refl _⟩
  case round =>
    clear H0
    obtain ⟨i, hi, rfl, hres, hQ⟩ := hrel
    have HR := hide hres
    clear hres
    by_cases hlt : i < a.length
    · have hiI : (i : Int) < (a.length : Int) := by omega
      have hla : i < a.length := by omega
      have hlb : i < b.length := by omega
      have hlaI : (i : Int) < (a.length : Int) := by omega
      have hlbI : (i : Int) < (b.length : Int) := by omega
      have hd0 : decide ((i : Int) < (a.length : Int)) = true := decide_eq_true hiI
      have hd1 : decide (i < a.length) = true := decide_eq_true hlt
      have hst := HSt.out i hla hlb
      obtain ⟨x, hx⟩ : ∃ x, a[i]'hla = x := ⟨_, rfl⟩
      obtain ⟨y, hy⟩ : ∃ y, b[i]'hlb = y := ⟨_, rfl⟩
      rw [hx, hy] at hst
      by_cases hxy : x = y
      · rw [if_pos hxy] at hst
        have HS := hide (show res = (i + 1) + alike (a.drop (i + 1)) (b.drop (i + 1)) by rw [HR.out, hst]; omega)
        have hne : ((x.toNat : Int) == (y.toNat : Int)) = true := by rw [hxy]; simp
        clear hst hxy
        go_wp2_with fail
        go_quiet (fail)
        go_wp2
        go_roundw
        case rel => exact ⟨i + 1, by omega, by go_num, HS.out, hQ.drewN _⟩
        case measure => simp [intOf]; omega
      · rw [if_neg hxy] at hst
        have HS := hide (show res = i by rw [HR.out, hst]; rfl)
        have hne : ((x.toNat : Int) == (y.toNat : Int)) = false := by
          rw [beq_eq_false_iff_ne]
          intro h
          exact hxy (UInt8.toNat_inj.1 (by omega))
        clear hst hxy
        go_wp2_with fail
        go_quiet (fail)
        go_wp2
        go_ret
        rw [HS.out]
        exact ⟨rfl, hQ.drewN _⟩
    · have hiI : ¬ (i : Int) < (a.length : Int) := by omega
      have hd0 : decide ((i : Int) < (a.length : Int)) = false := decide_eq_false hiI
      have hd1 : decide (i < a.length) = false := decide_eq_false hlt
      have HS := hide (show res = i by rw [HR.out, HEnd.out i (by omega)]; rfl)
      go_wp2_with fail
      go_quiet (fail)
      go_wp2
      go_ret
      rw [HS.out]
      exact ⟨rfl, hQ.drewN _⟩
theorem dSame_any (a b : List UInt8) (w : World) (ha : a.length ≤ 1000000) (hb : b.length ≤ 1000000) : Calls Try.prog 75 #[.string ⟨a.toArray⟩, .string ⟨b.toArray⟩] w fun e w' => e = .returned (.int .i64 (alike a b : Int)) ∧ Qt w w' := by
  by_cases h : b.length < a.length
  · exact dSame_b a b w ha hb h
  · exact dSame_a a b w ha hb h
end Go.Proofs.Ytcphapdjimeoaaa

