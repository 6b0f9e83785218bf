/- Contracts of the row of bits: number and zerosFrom. The document's functions of chapter 16: Find, Begins, Range, Alike. The document's functions of chapter 16: Alike, May. The document's functions of chapter 15: Small, Words, One, Term. The document's functions of chapter 15: One, Term, Same, Has. The document's Same of chapter 9: two slices of numbers. The document's Write of chapter 16. The document's functions of chapter 15: Put, Terms. The document's Terms of chapter 15. The program's small functions of chapter 16: maySize, mayFollow, isRow, same. Lists of texts of the dictionary's own kind: append, copy; two such lists side by side. How the program reads the texts of a bucket, step by step: plain mathematics. -/
import Derived.Test.YtcphapdjimeoaaaGreatB01
import Derived.Test.YtcphapdjimeoaaaGreatB02
import Derived.Test.YtcphapdjimeoaaaGreatB03
import Derived.Deep.QuietTactic
import Derived.BigQuiet
import Derived.OwnWalk
import Derived.Lib.SliceRun
namespace Go.Proofs.YtcphapdjimeoaaaGreat
open Go.RowKit

theorem Bit.take_byte (X d k t : Nat) (c : UInt8) (hX : X < 2 ^ d) (hd : d + k ≤ 64) (hk : k ≤ 8) :
    bits .or .u64 (IntKind.u64.wrap ((X : Int) * 2 ^ k)) (bits .and .u64 (IntKind.u64.wrap (c.toNat : Int) / 2 ^ t) (IntKind.u64.wrap (IntKind.u64.wrap (2 ^ k) - 1))) = ((X * 2 ^ k + c.toNat / 2 ^ t % 2 ^ k : Nat) : Int) := by
  have hc := c.toNat_lt
  have hXk : X * 2 ^ k < 2 ^ 64 := by
    have h1 : X * 2 ^ k < 2 ^ d * 2 ^ k := Nat.mul_lt_mul_of_pos_right hX (Nat.two_pow_pos k)
    rw [← Nat.pow_add] at h1
    exact Nat.lt_of_lt_of_le h1 (Nat.pow_le_pow_right (by omega) hd)
  have hk2 : 2 ^ k ≤ 256 := Nat.pow_le_pow_right (n := 2) (by omega) hk
  have hk0 : 0 < 2 ^ k := Nat.two_pow_pos k
  have e1 : IntKind.u64.wrap ((X : Int) * 2 ^ k) = ((X * 2 ^ k : Nat) : Int) := by
    have : (X : Int) * 2 ^ k = ((X * 2 ^ k : Nat) : Int) := by simp only [Int.natCast_mul, Int.natCast_pow]; rfl
    rw [this, IntKind.wrap_u64]
    omega
  have e2 : IntKind.u64.wrap (c.toNat : Int) / 2 ^ t = ((c.toNat / 2 ^ t : Nat) : Int) := by
    have h1 : IntKind.u64.wrap (c.toNat : Int) = (c.toNat : Int) := by rw [IntKind.wrap_u64]; omega
    rw [h1]
    simp only [Int.natCast_ediv, Int.natCast_pow]; rfl
  have e3 : IntKind.u64.wrap (IntKind.u64.wrap (2 ^ k) - 1) = ((2 ^ k - 1 : Nat) : Int) := by
    have : (2 : Int) ^ k = ((2 ^ k : Nat) : Int) := by simp only [Int.natCast_pow]; rfl
    rw [this, IntKind.wrap_u64, IntKind.wrap_u64]
    omega
  have hdiv : c.toNat / 2 ^ t < 2 ^ 64 := Nat.lt_of_le_of_lt (Nat.div_le_self _ _) (by omega)
  rw [e1, e2, e3, u64_and_nat _ _ hdiv (by omega), Nat.and_two_pow_sub_one_eq_mod]
  have hm : c.toNat / 2 ^ t % 2 ^ k < 2 ^ k := Nat.mod_lt _ hk0
  rw [u64_or_nat _ _ hXk (by omega), Nat.mul_comm X, ← Nat.two_pow_add_eq_or_of_lt hm]

set_option maxHeartbeats 1000000 in
theorem number_any {w : World} {g : Nat} {A : Option Addr} {c : Nat} {l : List UInt8} (q n : Nat) (h0 : w.cell? ⟨g, 0, none⟩ = some (.slice A l.length c)) (hg : g < w.heap.size) (hb : Bytes w w.heap.size A l.length l)
    (hn : n ≤ 64) (hfit : q + n ≤ 8 * l.length) (hl : l.length ≤ 1000000000) :
    Calls Tryz.prog 148 #[.pointer (some ⟨g, 0, none⟩), .int .i64 q, .int .i64 n] w fun e w' => e = .returned (.int .u64 (Bit.val (fun i => Bit.at_ l (q + i)) n : Nat)) ∧ Qt w w' := by
  go_enter Tryz.func148, Tryz.ntmps148
  go_wp2
  go_loopw [1, 2, 7] (fun p m x wr => ∃ k : Nat, k ≤ n ∧ p = .int .i64 ((q + k : Nat) : Int) ∧ m = .int .i64 ((n - k : Nat) : Int) ∧ x = .int .u64 (Bit.val (fun i => Bit.at_ l (q + i)) k : Nat) ∧ Qt w wr) (fun _ m _ _ => (intOf m).toNat)
  case atStart => exact ⟨0, by omega, by simp, by simp, rfl, Qt.refl _⟩
  case round =>
    obtain ⟨d, hd, rfl, rfl, rfl, hE⟩ := hrel
    by_cases hlt : d < n
    · obtain ⟨hll, hb'⟩ := hb
      rcases hb' with h | ⟨b, off, rfl, hB, hcells⟩
      · omega
      have d0 := (hE.ext.cell hg).trans h0
      have hc := (hE.ext.cell hB).trans (hcells ((q + d) / 8) (by omega))
      clear hcells
      obtain ⟨m, hm⟩ : ∃ m, m = n - d := ⟨_, rfl⟩
      obtain ⟨s, hs⟩ : ∃ s, s = q + d := ⟨_, rfl⟩
      obtain ⟨k, hk⟩ : ∃ k, k = min m (8 - s % 8) := ⟨_, rfl⟩
      have hmin : (if (8 - (s : Int) % 8) < (m : Int) then (8 - (s : Int) % 8) else (m : Int)) = (k : Int) := by split <;> omega
      rw [← hm, ← hs]
      rw [← hs] at hc
      have hm64 : m ≤ 64 := by omega
      have hm0 : 0 < m := by omega
      have hkm : k ≤ m := by omega
      have hk8 : k ≤ 8 := by omega
      have hqL : (s : Int) / 8 < (l.length : Int) := by omega
      have HV := hide (Bit.val_add (fun i => Bit.at_ l (q + i)) d k)
      have HY := hide (Bit.val_byte l s k (by omega))
      have HT := hide (Bit.take_byte (Bit.val (fun i => Bit.at_ l (q + i)) d) d k (8 - s % 8 - k) (l.getD (s / 8) 0) (Bit.val_lt _ _) (by omega) (by omega))
      generalize Bit.val (fun i => Bit.at_ l (q + i)) d = X at *
      have Hm := hide hm
      have Hk := hide hk
      have Hs := hide hs
      clear hm hk hs
      go_wp2_with (refine wpList_min rfl (.tmp 15) (.tmp 16) rfl rfl rfl hmin ?_)
      go_quiet (fail)
      go_wp2
      go_roundw
      case rel =>
        have hm := Hm.out
        have hs := Hs.out
        refine ⟨d + k, by omega, ?_, ?_, ?_, hE.drewN _⟩
        · rw [show ((s : Int) + k) = ((q + (d + k) : Nat) : Int) by omega]
        · rw [show ((m : Int) - k) = ((n - (d + k) : Nat) : Int) by omega]
        · rw [HV.out, show (fun i => Bit.at_ l (q + (d + i))) = (fun i => Bit.at_ l (s + i)) by funext i; rw [hs, Nat.add_assoc], HY.out, ← HT.out, List.getD_eq_getElem?_getD]
      case measure => simp [intOf]; omega
    · obtain rfl : d = n := by omega
      go_wp2
      go_ret
      exact ⟨rfl, hE⟩
end Go.Proofs.YtcphapdjimeoaaaGreat

namespace Go.Proofs.YtcphapdjimeoaaaGreat
open Go.RowKit Wrd Dic

attribute [local go_sem ↓] run_txtAt run_txtLen run_txtCut run_txtTop
theorem findF_step {s : List UInt8} {L : List (List UInt8)} {i : Nat} (h : i < L.length) : findF s (L.drop i) i = if L.getD i [] = s then (i, true) else findF s (L.drop (i + 1)) (i + 1) := by
  rw [List.drop_eq_getElem_cons h, findF, List.getD_eq_getElem?_getD, List.getElem?_eq_getElem h]
  rfl
theorem rangeF_step {s : List UInt8} {L : List (List UInt8)} {i : Nat} (h : i < L.length) : rangeF s (L.drop i) i = if beginsB (L.getD i []) s = true then (i, if (rangeF s (L.drop (i + 1)) (i + 1)).2 = 0 then i + 1 else (rangeF s (L.drop (i + 1)) (i + 1)).2) else rangeF s (L.drop (i + 1)) (i + 1) := by
  rw [List.drop_eq_getElem_cons h, rangeF, List.getD_eq_getElem?_getD, List.getElem?_eq_getElem h]
  rfl
end Go.Proofs.YtcphapdjimeoaaaGreat

namespace Go.Proofs.YtcphapdjimeoaaaGreat
open Go.RowKit Wrd Dic

theorem Dic.alike_at : ∀ (a b : List UInt8) (i : Nat), i ≤ alike a b → alike a b = i + alike (a.drop i) (b.drop i)
  | _, _, 0, _ => by simp
  | [], _, i + 1, h => by simp [alike] at h
  | _ :: _, [], i + 1, h => by simp [alike] at h
  | a :: s, b :: t, i + 1, h => by
    rw [alike] at h ⊢
    split
    · rename_i e
      rw [if_pos e] at h
      have := alike_at s t i (by omega)
      rw [List.drop_succ_cons, List.drop_succ_cons]
      omega
    · rename_i e
      rw [if_neg e] at h
      omega
theorem Dic.alike_step {a b : List UInt8} {i : Nat} (h1 : i < a.length) (h2 : i < b.length) : alike (a.drop i) (b.drop i) = if a[i] = b[i] then alike (a.drop (i + 1)) (b.drop (i + 1)) + 1 else 0 := by
  rw [List.drop_eq_getElem_cons h1, List.drop_eq_getElem_cons h2, alike]
attribute [local go_sem ↓] run_txtAt run_txtLen run_txtCut run_txtTop
set_option maxHeartbeats 1000000 in
set_option maxRecDepth 10000 in
theorem refAlike_any (a b : List UInt8) (w : World) (ha : a.length ≤ 1000000) : Calls Tryz.prog 40 #[.string ⟨a.toArray⟩, .string ⟨b.toArray⟩] w fun e w' => e = .returned (.int .i64 (alike a b : Int)) ∧ Qt w w' := by
  have H0 := hide (show alike a b = 0 + alike (a.drop 0) (b.drop 0) by simp)
  have HSt := hide (fun (i : Nat) (h1 : i < a.length) (h2 : i < b.length) => alike_step h1 h2)
  have HEa := hide (show ∀ t, alike (a.drop a.length) t = 0 from fun t => by rw [List.drop_length]; simp [alike])
  have HEb := hide (show ∀ t i, b.length ≤ i → alike t (b.drop i) = 0 from fun t i h => by rw [List.drop_of_length_le h]; cases t <;> simp [alike])
  generalize alike a b = res at *
  go_enter Tryz.func40, Tryz.ntmps40
  go_wp2
  go_loopw [5] (fun y wr => ∃ i : Nat, i ≤ a.length ∧ y = .int .i64 (i : Int) ∧ res = i + alike (a.drop i) (b.drop i) ∧ Qt w wr) (fun y _ => a.length - (intOf y).toNat)
  case atStart => exact ⟨0, by omega, rfl, H0.out, Qt.refl _⟩
  case round =>
    clear H0
    obtain ⟨i, hi, rfl, hres, hQ⟩ := hrel
    have HR := hide hres
    clear hres
    by_cases hlt : i < a.length
    · have hiI : (i : Int) < (a.length : Int) := by omega
      by_cases hlb : i < b.length
      · have hbI : (i : Int) < (b.length : Int) := by omega
        have hd0 : decide ((b.length : Int) ≤ (i : Int)) = false := decide_eq_false (by omega)
        have hst := HSt.out i hlt hlb
        obtain ⟨x, hx⟩ : ∃ x, a[i]'hlt = x := ⟨_, rfl⟩
        obtain ⟨y, hy⟩ : ∃ y, b[i]'hlb = y := ⟨_, rfl⟩
        rw [hx, hy] at hst
        by_cases hxy : x = y
        · rw [if_pos hxy] at hst
          have HS := hide (show res = (i + 1) + alike (a.drop (i + 1)) (b.drop (i + 1)) by rw [HR.out, hst]; omega)
          have hne : ((x.toNat : Int) != (y.toNat : Int)) = false := by rw [hxy]; simp
          clear hst hxy
          go_wp2_with fail
          go_quiet (fail)
          go_wp2
          go_roundw
          case rel => exact ⟨i + 1, by omega, by go_num, HS.out, hQ.drewN _⟩
          case measure => simp [intOf]; omega
        · rw [if_neg hxy] at hst
          have HS := hide (show res = i by rw [HR.out, hst]; rfl)
          have hne : ((x.toNat : Int) != (y.toNat : Int)) = true := by
            rw [bne_iff_ne]
            intro h
            exact hxy (UInt8.toNat_inj.1 (by omega))
          clear hst hxy
          go_wp2_with fail
          go_quiet (fail)
          go_wp2
          go_ret
          rw [HS.out]
          exact ⟨rfl, hQ.drewN _⟩
      · have hd0 : decide ((b.length : Int) ≤ (i : Int)) = true := decide_eq_true (by omega)
        have HS := hide (show res = i by rw [HR.out, HEb.out _ i (by omega)]; rfl)
        go_wp2_with fail
        go_quiet (fail)
        go_wp2
        go_ret
        rw [HS.out]
        exact ⟨rfl, hQ.drewN _⟩
    · obtain rfl : i = a.length := by omega
      have HS := hide (show res = a.length by rw [HR.out, HEa.out]; rfl)
      go_wp2
      go_ret
      rw [HS.out]
      exact ⟨rfl, hQ⟩

theorem Dic.rises_of : ∀ (l : List (List UInt8)), (∀ i, i + 1 < l.length → Op.bytesLess (l.getD i []) (l.getD (i + 1) []) = true) → risesB l = true
  | [], _ => rfl
  | [_], _ => rfl
  | a :: b :: t, h => by
    rw [risesB, Bool.and_eq_true]
    refine ⟨h 0 (by simp), rises_of (b :: t) fun i hi => ?_⟩
    have := h (i + 1) (by simpa using hi)
    rwa [List.getD_cons_succ, List.getD_cons_succ] at this
theorem Dic.may_yes {l : List (List UInt8)} (h0 : l.length ≤ 1048576) (h : ∀ i, i < l.length → (1 ≤ (l.getD i []).length ∧ (l.getD i []).length ≤ 25) ∧ (0 < i → Op.bytesLess (l.getD (i - 1) []) (l.getD i []) = true)) : mayD l = true := by
  refine may_of h0 (fun s hs => ?_) ((rises_iff l).1 (rises_of l fun i hi => (h (i + 1) hi).2 (by omega)))
  obtain ⟨i, hi, rfl⟩ := List.getElem_of_mem hs
  have := (h i hi).1
  rwa [List.getD_eq_getElem?_getD, List.getElem?_eq_getElem hi] at this
theorem Dic.may_no {l : List (List UInt8)} {i : Nat} (hi : i < l.length) (h : (l.getD i []).length < 1 ∨ 25 < (l.getD i []).length ∨ (0 < i ∧ (Op.bytesLess (l.getD i []) (l.getD (i - 1) []) || l.getD i [] == l.getD (i - 1) []) = true)) : mayD l = false := by
  cases hm : mayD l with
  | false => rfl
  | true =>
    exfalso
    obtain ⟨_, h2, h3⟩ := may_facts hm
    have hmem := h2 (l.getD i []) (by rw [List.getD_eq_getElem?_getD, List.getElem?_eq_getElem hi]; exact List.getElem_mem _)
    rcases h with h | h | ⟨h0, h⟩
    · omega
    · omega
    · have hl := rise_lt h3 (show i - 1 < i by omega) hi
      rw [Bool.or_eq_true, beq_iff_eq] at h
      rcases h with h | h
      · have := less_trans _ _ _ hl h
        rw [less_self] at this
        cases this
      · rw [h, less_self] at hl
        cases hl

set_option maxHeartbeats 2000000 in
set_option maxRecDepth 10000 in
theorem refMay16_any (A : Option Addr) (n c : Nat) (L : List (List UInt8)) (w : World) (h : TextsAt w w.heap.size A n L) (hn : n ≤ 1048576) (hs : ∀ s, s ∈ L → s.length ≤ 1000000) :
    Calls Tryz.prog 26 #[.slice A n c] w fun e w' => e = .returned (.bool (mayD L)) ∧ Qt w w' := by
  have hl := h.1
  have HA := hide h
  have hnI : ¬ (1048576 : Int) < (n : Int) := by omega
  have HYes := hide (show (∀ i, i < n → (1 ≤ (L.getD i []).length ∧ (L.getD i []).length ≤ 25) ∧ (0 < i → Op.bytesLess (L.getD (i - 1) []) (L.getD i []) = true)) → mayD L = true from fun h => may_yes (by omega) (by rw [hl]; exact h))
  have HNo := hide (fun (i : Nat) (hi : i < n) => may_no (l := L) (i := i) (by omega))
  have HLe := hide (show ∀ i, i < n → (L.getD i []).length ≤ 1000000 from fun i hi => hs _ (by
    rw [List.getD_eq_getElem?_getD, List.getElem?_eq_getElem (by omega)]
    exact List.getElem_mem _))
  generalize mayD L = res at *
  clear h hl hs
  go_enter Tryz.func26, Tryz.ntmps26
  go_wp2
  go_loopw [3] (fun x wr => ∃ i : Nat, i ≤ n ∧ x = .int .i64 (i : Int) ∧ (∀ j, j < i → (1 ≤ (L.getD j []).length ∧ (L.getD j []).length ≤ 25) ∧ (0 < j → Op.bytesLess (L.getD (j - 1) []) (L.getD j []) = true)) ∧ Qt w wr) (fun x _ => n - (intOf x).toNat)
  case atStart => exact ⟨0, by omega, rfl, fun j hj => absurd hj (by omega), Qt.refl _⟩
  case round =>
    obtain ⟨i, hi, rfl, hall, hQ⟩ := hrel
    have HAll := hide hall
    clear hall
    by_cases hlt : i < n
    · have hiI : (i : Int) < (n : Int) := by omega
      rcases (HA.out.later hQ.ext).2 with hn0 | ⟨b1, o1, rfl, _, hc1⟩
      · omega
      have e1 := hc1 i hlt
      have HNi := hide (HNo.out i hlt)
      have HNext := hide (show ((1 ≤ (L.getD i []).length ∧ (L.getD i []).length ≤ 25) ∧ (0 < i → Op.bytesLess (L.getD (i - 1) []) (L.getD i []) = true)) → ∀ j, j < i + 1 → (1 ≤ (L.getD j []).length ∧ (L.getD j []).length ≤ 25) ∧ (0 < j → Op.bytesLess (L.getD (j - 1) []) (L.getD j []) = true) from fun h j hj => by
        by_cases e : j = i
        · rw [e]; exact h
        · exact HAll.out j (by omega))
      obtain ⟨j, hj⟩ : ∃ j, j = i - 1 := ⟨_, rfl⟩
      have HC2 := hide (show 0 < i → wr.cell? ⟨b1, o1 + j, none⟩ = some (.string ⟨(L.getD j []).toArray⟩) from fun h => hc1 j (by omega))
      rw [← hj] at HNi HNext
      obtain ⟨y, hy⟩ : ∃ y, y = L.getD i [] := ⟨_, rfl⟩
      obtain ⟨z, hz⟩ : ∃ z, z = L.getD j [] := ⟨_, rfl⟩
      rw [← hy] at e1 HNi HNext
      rw [← hz] at HNi HNext HC2
      have HJ := hide hj
      clear hc1 hy hz hj
      by_cases g1 : y.length < 1
      · have hd1 : decide ((y.length : Int) < 1) = true := decide_eq_true (by omega)
        have HR := hide (HNi.out (.inl g1))
        clear HNext HNi HC2 g1
        go_wp2_with fail
        go_quiet (fail)
        go_wp2
        go_ret
        exact ⟨ret_bool HR.out.symm, hQ.drewN _⟩
      have hd1 : decide ((y.length : Int) < 1) = false := decide_eq_false (by omega)
      by_cases g2 : 25 < y.length
      · have hd2 : decide ((25 : Int) < (y.length : Int)) = true := decide_eq_true (by omega)
        have HR := hide (HNi.out (.inr (.inl g2)))
        clear HNext HNi HC2 g1 g2
        go_wp2_with fail
        go_quiet (fail)
        go_wp2
        go_ret
        exact ⟨ret_bool HR.out.symm, hQ.drewN _⟩
      have hd2 : decide ((25 : Int) < (y.length : Int)) = false := decide_eq_false (by omega)
      rcases Nat.eq_zero_or_pos i with hi0 | hi0
      · have hd0 : decide ((0 : Int) < (i : Int)) = false := decide_eq_false (by omega)
        have hdn : decide (0 < i) = false := decide_eq_false (by omega)
        have hNx := hide (HNext.out ⟨⟨by omega, by omega⟩, fun h => absurd h (by omega)⟩)
        clear HNext HNi HC2 g1 g2 hi0
        go_wp2_with fail
        go_quiet (fail)
        go_wp2
        go_roundw
        case rel => exact ⟨i + 1, by omega, by go_num, hNx.out, hQ.drewN _⟩
        case measure => simp [intOf]; omega
      have hd0 : decide ((0 : Int) < (i : Int)) = true := decide_eq_true (by omega)
      have hdn : decide (0 < i) = true := decide_eq_true hi0
      have e2 := HC2.out hi0
      have hji : (i : Int) - 1 = (j : Int) := by have := HJ.out; omega
      have hj0 : (0 : Int) < (i : Int) := by omega
      have hjn : (j : Int) < (n : Int) := by omega
      cases hle : (Op.bytesLess y z || y == z) with
      | true =>
        have HR := hide (HNi.out (.inr (.inr ⟨hi0, hle⟩)))
        clear HNext HNi HC2 g1 g2 hi0
        go_wp2_with fail
        go_quiet (fail)
        go_wp2
        go_ret
        exact ⟨ret_bool HR.out.symm, hQ.drewN _⟩
      | false =>
        have hNx := hide (HNext.out ⟨⟨by omega, by omega⟩, fun _ => by
          rw [Bool.or_eq_false_iff, beq_eq_false_iff_ne] at hle
          exact less_total y z hle.1 hle.2⟩)
        clear HNext HNi HC2 g1 g2 hi0
        go_wp2_with fail
        go_quiet (fail)
        go_wp2
        go_roundw
        case rel => exact ⟨i + 1, by omega, by go_num, hNx.out, hQ.drewN _⟩
        case measure => simp [intOf]; omega
    · obtain rfl : n = i := by omega
      have HN := hide (HYes.out HAll.out)
      go_wp2
      go_ret
      exact ⟨ret_bool HN.out.symm, hQ⟩
end Go.Proofs.YtcphapdjimeoaaaGreat

namespace Go.Proofs.YtcphapdjimeoaaaGreat
open Go.RowKit Wrd

attribute [local go_sem ↓] run_txtAt run_txtLen run_txtCut
theorem small_zero {c : UInt8} (h : isL c = false) : ((small c).toNat : Int) = 0 := by rw [isL_no.1 h]; rfl
theorem small_ne {c : UInt8} (h : isL c = true) : (small c).toNat ≠ 0 := fun e => isL_iff.1 h (UInt8.toNat_inj.1 (by simpa using e))

theorem Wrd.drop_at {l : List UInt8} {i : Nat} (h : i < l.length) : l.drop i = l.getD i 0 :: l.drop (i + 1) := by
  rw [List.drop_eq_getElem_cons h, List.getD_eq_getElem?_getD, List.getElem?_eq_getElem h]
  rfl
/-- Is there a letter ahead of the place? -/
def Wrd.prior (l : List UInt8) (i : Nat) : Bool := decide (0 < i) && isL (l.getD (i - 1) 0)
theorem Wrd.prior_next (l : List UInt8) (i : Nat) : prior l (i + 1) = isL (l.getD i 0) := by simp [prior]
theorem Wrd.words_at {l : List UInt8} {i : Nat} (h : i < l.length) : wordsF (prior l i) (l.drop i) = (if isL (l.getD i 0) = true ∧ prior l i = false then [wordR 24 (l.drop i)] else []) ++ wordsF (prior l (i + 1)) (l.drop (i + 1)) := by
  rw [prior_next]
  conv => lhs; rw [drop_at h, wordsF]
  rw [← drop_at h]
theorem Wrd.word_at {l : List UInt8} {k m : Nat} (h : k < l.length) : wordR (m + 1) (l.drop k) = if isL (l.getD k 0) = true then small (l.getD k 0) :: wordR m (l.drop (k + 1)) else [] := by rw [drop_at h, wordR]

end Go.Proofs.YtcphapdjimeoaaaGreat

namespace Go.Proofs.YtcphapdjimeoaaaGreat
open Go.RowKit Wrd

theorem Wrd.list_ext {a b : List (List UInt8)} (hl : a.length = b.length) (h : ∀ i, i < a.length → a.getD i [] = b.getD i []) : a = b := by
  refine List.ext_getElem hl fun i h1 h2 => ?_
  have := h i h1
  rwa [List.getD_eq_getElem?_getD, List.getD_eq_getElem?_getD, List.getElem?_eq_getElem h1, List.getElem?_eq_getElem h2] at this
set_option maxHeartbeats 1000000 in
set_option maxRecDepth 100000 in
theorem refSame15_any (A1 A2 : Option Addr) (c1 c2 : Nat) (a b : List (List UInt8)) (w : World) (h1 : TextsAt w w.heap.size A1 a.length a) (h2 : TextsAt w w.heap.size A2 b.length b) (hn0 : a.length ≤ 140737488355328) :
    Calls Tryz.prog 21 #[.slice A1 a.length c1, .slice A2 b.length c2] w fun e w' => e = .returned (.bool (decide (a = b))) ∧ Ext w w' := by
  by_cases hl : a.length = b.length
  · have HEq := hide (show (∀ i, i < a.length → a.getD i [] = b.getD i []) → decide (a = b) = true from fun h => decide_eq_true (Wrd.list_ext hl h))
    have HNe := hide (show ∀ i, a.getD i [] ≠ b.getD i [] → decide (a = b) = false from fun i h => decide_eq_false fun e => h (by rw [e]))
    have hlb : ((a.length : Int) != (b.length : Int)) = false := by simp; omega
    have HA := hide h1
    have HB := hide h2
    generalize decide (a = b) = res at *
    rw [← hl] at HB ⊢
    generalize a.length = n at *
    clear h1 h2 hl
    go_enter Tryz.func21, Tryz.ntmps21
    go_wp2
    go_loopw [5] (fun x wr => ∃ i : Nat, i ≤ n ∧ x = .int .i64 (i : Int) ∧ (∀ j, j < i → a.getD j [] = b.getD j []) ∧ Qt w wr) (fun x _ => n - (intOf x).toNat)
    case atStart => exact ⟨0, by omega, rfl, fun j hj => absurd hj (by omega), Qt.refl _⟩
    case round =>
      obtain ⟨i, hi, rfl, hall, hQ⟩ := hrel
      have HAll := hide hall
      clear hall
      by_cases hlt : i < n
      · have hiI : (i : Int) < (n : Int) := by omega
        rcases (HA.out.later hQ.ext).2 with hn | ⟨b1, o1, rfl, _, hc1⟩
        · omega
        rcases (HB.out.later hQ.ext).2 with hn | ⟨b2, o2, rfl, _, hc2⟩
        · omega
        have e1 := hc1 i hlt
        have e2 := hc2 i hlt
        have hNe := HNe.out i
        clear hc1 hc2
        by_cases he : a.getD i [] = b.getD i []
        · have HE := hide he
          obtain ⟨y, hy⟩ : ∃ y, y = b.getD i [] := ⟨_, rfl⟩
          rw [he, ← hy] at e1
          rw [← hy] at e2
          clear he hNe hy
          go_wp2_with fail
          go_quiet (fail)
          go_wp2
          go_roundw
          case rel => exact ⟨i + 1, by omega, by go_num, fun j hj => (by
            by_cases e : j = i
            · rw [e]; exact HE.out
            · exact HAll.out j (by omega)), hQ.drewN _⟩
          case measure => simp [intOf]; omega
        · have HN := hide (hNe he)
          have heb : (!(a.getD i [] == b.getD i [])) = true := by simpa using he
          generalize a.getD i [] = y1 at *
          generalize b.getD i [] = y2 at *
          clear hNe he
          go_wp2_with fail
          go_quiet (fail)
          go_wp2
          go_ret
          exact ⟨ret_bool HN.out.symm, (hQ.drewN _).ext⟩
      · obtain rfl : n = i := by omega
        have HN := hide (HEq.out HAll.out)
        go_wp2
        go_ret
        exact ⟨ret_bool HN.out.symm, hQ.ext⟩
  · have HN := hide (show decide (a = b) = false from decide_eq_false fun e => hl (by rw [e]))
    have hlb : ((a.length : Int) != (b.length : Int)) = true := by simp; omega
    generalize decide (a = b) = res at *
    clear h1 h2
    go_enter Tryz.func21, Tryz.ntmps21
    go_wp2
    go_ret
    exact ⟨ret_bool HN.out.symm, Ext.refl _⟩

theorem Wrd.mem_at {l : List (List UInt8)} {i : Nat} (h : i < l.length) : l.getD i [] ∈ l := by
  rw [List.getD_eq_getElem?_getD, List.getElem?_eq_getElem h]
  exact List.getElem_mem _
theorem Wrd.at_mem {l : List (List UInt8)} {x : List UInt8} (h : x ∈ l) : ∃ i, i < l.length ∧ l.getD i [] = x := by
  obtain ⟨i, hi, rfl⟩ := List.getElem_of_mem h
  exact ⟨i, hi, by rw [List.getD_eq_getElem?_getD, List.getElem?_eq_getElem hi]; rfl⟩
attribute [local go_sem ↓] run_txtAt run_txtLen run_txtCut
/-- What One tells. -/
def OneTo (w : World) (l : List UInt8) (e : Ending) (w' : World) : Prop := e = .returned (.tuple #[.string ⟨(oneE l).1.toArray⟩, .bool (oneE l).2]) ∧ Ext w w'
end Go.Proofs.YtcphapdjimeoaaaGreat

namespace Go.Proofs.YtcphapdjimeoaaaGreat
open Go.RowKit

theorem Huf.list_ext {a b : List Int} (hl : a.length = b.length) (h : ∀ i, i < a.length → a.getD i 0 = b.getD i 0) : a = b := by
  refine List.ext_getElem hl fun i h1 h2 => ?_
  have := h i h1
  rwa [List.getD_eq_getElem?_getD, List.getD_eq_getElem?_getD, List.getElem?_eq_getElem h1, List.getElem?_eq_getElem h2] at this
set_option maxHeartbeats 1000000 in
set_option maxRecDepth 100000 in
theorem refSame9Q_any (A1 A2 : Option Addr) (c1 c2 : Nat) (a b : List Int) (w : World) (h1 : IntsAt w w.heap.size A1 a.length a) (h2 : IntsAt w w.heap.size A2 b.length b) (hn0 : a.length ≤ 140737488355328) :
    Calls Tryz.prog 22 #[.slice A1 a.length c1, .slice A2 b.length c2] w fun e w' => e = .returned (.bool (decide (a = b))) ∧ Qt w w' := by
  by_cases hl : a.length = b.length
  · have HEq := hide (show (∀ i, i < a.length → a.getD i 0 = b.getD i 0) → decide (a = b) = true from fun h => decide_eq_true (Huf.list_ext hl h))
    have HNe := hide (show ∀ i, a.getD i 0 ≠ b.getD i 0 → decide (a = b) = false from fun i h => decide_eq_false fun e => h (by rw [e]))
    have hlb : ((a.length : Int) != (b.length : Int)) = false := by simp; omega
    have HA := hide h1
    have HB := hide h2
    generalize decide (a = b) = res at *
    rw [← hl] at HB ⊢
    generalize a.length = n at *
    clear h1 h2 hl
    go_enter Tryz.func22, Tryz.ntmps22
    go_wp2
    go_loopw [5] (fun x wr => ∃ i : Nat, i ≤ n ∧ x = .int .i64 (i : Int) ∧ (∀ j, j < i → a.getD j 0 = b.getD j 0) ∧ Qt w wr) (fun x _ => n - (intOf x).toNat)
    case atStart => exact ⟨0, by omega, rfl, fun j hj => absurd hj (by omega), Qt.refl _⟩
    case round =>
      obtain ⟨i, hi, rfl, hall, hQ⟩ := hrel
      have HAll := hide hall
      clear hall
      by_cases hlt : i < n
      · have hiI : (i : Int) < (n : Int) := by omega
        rcases (HA.out.later hQ.ext).2 with hn | ⟨b1, o1, rfl, _, hc1⟩
        · omega
        rcases (HB.out.later hQ.ext).2 with hn | ⟨b2, o2, rfl, _, hc2⟩
        · omega
        have e1 := hc1 i hlt
        have e2 := hc2 i hlt
        have hNe := HNe.out i
        clear hc1 hc2
        by_cases he : a.getD i 0 = b.getD i 0
        · have HE := hide he
          obtain ⟨y, hy⟩ : ∃ y, y = b.getD i 0 := ⟨_, rfl⟩
          rw [he, ← hy] at e1
          rw [← hy] at e2
          clear he hNe hy
          go_wp2_with fail
          go_quiet (fail)
          go_wp2
          go_roundw
          case rel => exact ⟨i + 1, by omega, by go_num, fun j hj => (by
            by_cases e : j = i
            · rw [e]; exact HE.out
            · exact HAll.out j (by omega)), hQ.drewN _⟩
          case measure => simp [intOf]; omega
        · have HN := hide (hNe he)
          have heb : (a.getD i 0 != b.getD i 0) = true := by simpa using he
          generalize a.getD i 0 = y1 at *
          generalize b.getD i 0 = y2 at *
          clear hNe he
          go_wp2_with fail
          go_quiet (fail)
          go_wp2
          go_ret
          exact ⟨ret_bool HN.out.symm, hQ.drewN _⟩
      · obtain rfl : n = i := by omega
        have HN := hide (HEq.out HAll.out)
        go_wp2
        go_ret
        exact ⟨ret_bool HN.out.symm, hQ⟩
  · have HN := hide (show decide (a = b) = false from decide_eq_false fun e => hl (by rw [e]))
    have hlb : ((a.length : Int) != (b.length : Int)) = true := by simp; omega
    generalize decide (a = b) = res at *
    clear h1 h2
    go_enter Tryz.func22, Tryz.ntmps22
    go_wp2
    go_ret
    exact ⟨ret_bool HN.out.symm, Qt.refl _⟩
theorem refSame9_any (A1 A2 : Option Addr) (c1 c2 : Nat) (a b : List Int) (w : World) (h1 : IntsAt w w.heap.size A1 a.length a) (h2 : IntsAt w w.heap.size A2 b.length b) (hn0 : a.length ≤ 140737488355328) :
    Calls Tryz.prog 22 #[.slice A1 a.length c1, .slice A2 b.length c2] w fun e w' => e = .returned (.bool (decide (a = b))) ∧ Ext w w' :=
  (refSame9Q_any A1 A2 c1 c2 a b w h1 h2 hn0).mono fun _ _ ⟨h1, h2⟩ => ⟨h1, h2.ext⟩
end Go.Proofs.YtcphapdjimeoaaaGreat

namespace Go.Proofs.YtcphapdjimeoaaaGreat
open Go.RowKit Wrd Dic Num

theorem u64_wrap {n : Nat} (h : n ≤ 1000000000) : IntKind.u64.wrap (n : Int) = (n : Int) := by rw [IntKind.wrap_u64]; omega

attribute [local go_sem ↓] run_txtAt run_txtLen run_txtCut run_txtTop
end Go.Proofs.YtcphapdjimeoaaaGreat

namespace Go.Proofs.YtcphapdjimeoaaaGreat
open Go.RowKit Wrd

theorem Wrd.drop_tx {L : List (List UInt8)} {i : Nat} (h : i < L.length) : L.drop i = L.getD i [] :: L.drop (i + 1) := by
  rw [List.drop_eq_getElem_cons h, List.getD_eq_getElem?_getD, List.getElem?_eq_getElem h]
  rfl
theorem Wrd.take_tx {L : List (List UInt8)} {i : Nat} (h : i < L.length) : L.take (i + 1) = L.take i ++ [L.getD i []] := by
  rw [List.take_add_one, List.getD_eq_getElem?_getD, List.getElem?_eq_getElem h]
  rfl
theorem Wrd.put_on {L R : List (List UInt8)} {s : List UInt8} {i : Nat} (h : i < L.length) (hb : Op.bytesLess (L.getD i []) s = true) (hR : R = L.take i ++ putT (L.drop i) s) : R = L.take (i + 1) ++ putT (L.drop (i + 1)) s := by
  rw [hR, drop_tx h, putT, if_pos hb, take_tx h, List.append_assoc]
  rfl
theorem Wrd.put_same {L R : List (List UInt8)} {s : List UInt8} {i : Nat} (h : i < L.length) (hb : Op.bytesLess (L.getD i []) s = false) (he : L.getD i [] = s) (hR : R = L.take i ++ putT (L.drop i) s) : R = L := by
  rw [hR, drop_tx h, putT, if_neg (by rw [hb]; simp), if_pos he, ← drop_tx h, List.take_append_drop]
theorem Wrd.put_in {L R : List (List UInt8)} {s : List UInt8} {i : Nat} (h : i < L.length) (hb : Op.bytesLess (L.getD i []) s = false) (he : L.getD i [] ≠ s) (hR : R = L.take i ++ putT (L.drop i) s) : ([] ++ L.take i ++ [s]) ++ L.drop i = R := by
  rw [hR]
  conv => rhs; rw [drop_tx h, putT, if_neg (by rw [hb]; simp), if_neg he, ← drop_tx h]
  simp
theorem Wrd.put_end {L R : List (List UInt8)} {s : List UInt8} {n : Nat} (hn : L.length = n) (hR : R = L.take n ++ putT (L.drop n) s) : ([] ++ L.take n ++ [s]) ++ L.drop n = R := by
  subst hn
  rw [hR, List.drop_length]
  simp [putT]

attribute [local go_sem ↓] run_txtAt run_txtLen run_txtCut run_cutTx run_topTx
end Go.Proofs.YtcphapdjimeoaaaGreat

namespace Go.Proofs.YtcphapdjimeoaaaGreat
open Go.RowKit Wrd

theorem run_atAdd (W : World) (l : List UInt8) (hl : l.length ≤ 8388608) : (Op.stringOp .add ⟨#[64]⟩ ⟨l.toArray⟩).run Tryz.prog W = .ok (.string ⟨(64 :: l).toArray⟩) W := by
  have := run_string_add_lists (P := Tryz.prog) W [64] l (by simp) (by omega)
  exact this
theorem Wrd.puts_len : ∀ (l out : List (List UInt8)), (l.foldl putT out).length ≤ out.length + l.length
  | [], out => by simp
  | s :: l, out => by
    have h1 := puts_len l (putT out s)
    have h2 := putT_len s out
    rw [List.foldl_cons, List.length_cons]
    omega
theorem Wrd.puts_at {l out : List (List UInt8)} {i : Nat} (h : i < l.length) : (l.take (i + 1)).foldl putT out = putT ((l.take i).foldl putT out) (l.getD i []) := by
  rw [take_tx h, List.foldl_append]
  rfl
/-- A record as a value. -/
def recV (t lv : Int) (src text : List UInt8) : Value := .agg #[.int .u64 t, .int .u8 lv, .string ⟨src.toArray⟩, .string ⟨text.toArray⟩]

attribute [local go_sem ↓] run_txtAt run_txtLen run_txtCut
end Go.Proofs.YtcphapdjimeoaaaGreat

namespace Go.Proofs.YtcphapdjimeoaaaGreat
open Go.RowKit Wrd Dic

def Dic.sizeD (size : Int) : Bool := decide (1 ≤ size ∧ size ≤ 64)
theorem dSize_any (size : Int) (w : World) : Calls Tryz.prog 30 #[.int .i64 size] w fun e w' => e = .returned (.bool (sizeD size)) ∧ w = w' := by
  by_cases h0 : 1 ≤ size
  · by_cases h1 : size ≤ 64
    · have HD := hide (show sizeD size = true from decide_eq_true ⟨h0, h1⟩)
      generalize sizeD size = res at *
      go_enter Tryz.func30, Tryz.ntmps30
      go_wp2
      go_ret
      exact ⟨ret_bool HD.out.symm, rfl⟩
    · have HD := hide (show sizeD size = false from decide_eq_false fun h => h1 h.2)
      generalize sizeD size = res at *
      go_enter Tryz.func30, Tryz.ntmps30
      go_wp2
      go_ret
      exact ⟨ret_bool HD.out.symm, rfl⟩
  · have HD := hide (show sizeD size = false from decide_eq_false fun h => h0 h.1)
    generalize sizeD size = res at *
    go_enter Tryz.func30, Tryz.ntmps30
    go_wp2
    go_ret
    exact ⟨ret_bool HD.out.symm, rfl⟩

theorem Dic.gtr_less (a t : List UInt8) : (!Op.bytesLess t a && !t == a) = Op.bytesLess a t := by
  cases h : Op.bytesLess a t with
  | true =>
    have h1 : Op.bytesLess t a = false := by
      cases h2 : Op.bytesLess t a with
      | false => rfl
      | true => have := less_trans _ _ _ h h2; rw [less_self] at this; cases this
    have h2 : (t == a) = false := by
      rw [beq_eq_false_iff_ne]
      rintro rfl
      rw [less_self] at h
      cases h
    rw [h1, h2]
    rfl
  | false =>
    by_cases he : t = a
    · subst he; simp
    · rw [less_total _ _ h (fun e => he e.symm)]
      rfl
/-- May the text t follow the text a? -/
def Dic.followD (a t : List UInt8) : Bool := decide (t.length ≤ 25) && Op.bytesLess a t
attribute [local go_sem ↓] run_txtAt run_txtLen run_txtCut run_txtTop
set_option maxHeartbeats 1000000 in
set_option maxRecDepth 10000 in
theorem dFollow_any (a t : List UInt8) (w : World) (ht : t.length ≤ 1000000) : Calls Tryz.prog 71 #[.string ⟨a.toArray⟩, .string ⟨t.toArray⟩] w fun e w' => e = .returned (.bool (followD a t)) ∧ w = w' := by
  by_cases h1 : t.length ≤ 25
  · have h1I : (t.length : Int) ≤ 25 := by omega
    have HD := hide (show followD a t = (!Op.bytesLess t a && !t == a) by unfold followD; rw [decide_eq_true h1, Bool.true_and, gtr_less])
    generalize followD a t = res at *
    go_enter Tryz.func71, Tryz.ntmps71
    go_wp2
    go_ret
    exact ⟨ret_bool HD.out.symm, rfl⟩
  · have h1I : ¬ (t.length : Int) ≤ 25 := by omega
    have HD := hide (show followD a t = false by unfold followD; rw [decide_eq_false h1, Bool.false_and])
    generalize followD a t = res at *
    clear h1
    go_enter Tryz.func71, Tryz.ntmps71
    go_wp2
    go_ret
    exact ⟨ret_bool HD.out.symm, rfl⟩

/-- The text ahead. -/
def Dic.wasOf (l : List (List UInt8)) (i : Nat) : List UInt8 := if i = 0 then [] else l.getD (i - 1) []
theorem Dic.wasOf_succ (l : List (List UInt8)) (i : Nat) : wasOf l (i + 1) = l.getD i [] := by unfold wasOf; rw [if_neg (by omega), Nat.add_sub_cancel]
theorem Dic.less_pos {a t : List UInt8} (h : Op.bytesLess a t = true) : 1 ≤ t.length := by
  cases t with
  | nil => cases a <;> simp [Op.bytesLess] at h
  | cons _ _ => simp
theorem Dic.row_yes {l : List (List UInt8)} (h : ∀ i, i < l.length → followD (wasOf l i) (l.getD i []) = true) : mayD l = decide (l.length ≤ 1048576) := by
  by_cases h0 : l.length ≤ 1048576
  · rw [decide_eq_true h0]
    refine may_yes h0 fun i hi => ?_
    have h1 := h i hi
    unfold followD at h1
    rw [Bool.and_eq_true, decide_eq_true_eq] at h1
    refine ⟨⟨less_pos h1.2, h1.1⟩, fun hp => ?_⟩
    have h2 := h1.2
    unfold wasOf at h2
    rwa [if_neg (by omega)] at h2
  · rw [decide_eq_false h0]
    cases hm : mayD l with
    | false => rfl
    | true => exact absurd (may_facts hm).1 h0
theorem Dic.row_no {l : List (List UInt8)} {i : Nat} (hi : i < l.length) (h : followD (wasOf l i) (l.getD i []) = false) : mayD l = false := by
  cases hm : mayD l with
  | false => rfl
  | true =>
    exfalso
    obtain ⟨_, h2, h3⟩ := may_facts hm
    have hmem := h2 (l.getD i []) (by rw [List.getD_eq_getElem?_getD, List.getElem?_eq_getElem hi]; exact List.getElem_mem _)
    unfold followD at h
    rw [decide_eq_true hmem.2, Bool.true_and] at h
    unfold wasOf at h
    split at h
    · cases hx : l.getD i [] with
      | nil => rw [hx] at hmem; simp at hmem
      | cons _ _ => rw [hx] at h; simp [Op.bytesLess] at h
    · rw [rise_lt h3 (show i - 1 < i by omega) hi] at h
      cases h
set_option maxHeartbeats 1000000 in
set_option maxRecDepth 10000 in
theorem dIsRow_any (A : Option Addr) (n c : Nat) (L : List (List UInt8)) (w : World) (h : TextsAt w w.heap.size A n L) (hn : n ≤ 1000000) (hs : ∀ s, s ∈ L → s.length ≤ 1000000) :
    Calls Tryz.prog 46 #[.slice A n c] w fun e w' => e = .returned (.bool (mayD L)) ∧ w = w' := by
  have hl := h.1
  have HA := hide h
  have hnI : (n : Int) ≤ 1048576 := by omega
  have HYes := hide (show (∀ i, i < n → followD (wasOf L i) (L.getD i []) = true) → mayD L = true from fun h => by rw [row_yes (by rw [hl]; exact h), decide_eq_true (by omega)])
  have HNo := hide (fun (i : Nat) (hi : i < n) => row_no (l := L) (i := i) (by omega))
  have HLe := hide (show ∀ i, i < n → (L.getD i []).length ≤ 1000000 from fun i hi => hs _ (by
    rw [List.getD_eq_getElem?_getD, List.getElem?_eq_getElem (by omega)]
    exact List.getElem_mem _))
  generalize mayD L = res at *
  clear h hl hs
  go_enter Tryz.func46, Tryz.ntmps46
  go_wp2
  go_loopw [3, 8] (fun y x wr => ∃ i : Nat, i ≤ n ∧ x = .int .i64 (i : Int) ∧ y = .string ⟨(wasOf L i).toArray⟩ ∧ (∀ j, j < i → followD (wasOf L j) (L.getD j []) = true) ∧ w = wr) (fun _ x _ => n - (intOf x).toNat)
  case atStart => exact ⟨0, by omega, rfl, rfl, fun j hj => absurd hj (by omega), rfl⟩
  case round =>
    obtain ⟨i, hi, rfl, rfl, hall, rfl⟩ := hrel
    have HAll := hide hall
    clear hall
    by_cases hlt : i < n
    · have hiI : (i : Int) < (n : Int) := by omega
      rcases HA.out.2 with hn0 | ⟨b1, o1, rfl, -, hc1⟩
      · omega
      have e1 := hc1 i hlt
      have HNi := hide (HNo.out i hlt)
      have HNext := hide (show followD (wasOf L i) (L.getD i []) = true → ∀ j, j < i + 1 → followD (wasOf L j) (L.getD j []) = true from fun h1 j hj => by
        by_cases e : j = i
        · rw [e]; exact h1
        · exact HAll.out j (by omega))
      have hy := HLe.out i hlt
      have HW := hide (wasOf_succ L i)
      generalize wasOf L i = was at *
      obtain ⟨t, ht⟩ : ∃ t, t = L.getD i [] := ⟨_, rfl⟩
      rw [← ht] at e1 HNi HNext hy HW
      have C := dFollow_any was t w hy
      clear hc1 ht
      cases hf : followD was t with
      | true =>
        rw [hf] at C
        have HNx := hide (HNext.out hf)
        clear HNi HNext hf
        go_wp2_with fail
        refine C.mono ?_
        rintro e w2 ⟨rfl, rfl⟩
        clear C
        go_wp2
        go_roundw
        case rel => exact ⟨i + 1, by omega, by go_num, by rw [HW.out], HNx.out, by first | rfl | trivial⟩
        case measure => simp [intOf]; omega
      | false =>
        rw [hf] at C
        have HR := hide (HNi.out hf)
        clear HNi HNext hf
        go_wp2_with fail
        refine C.mono ?_
        rintro e w2 ⟨rfl, rfl⟩
        clear C
        go_wp2
        go_ret
        exact ⟨ret_bool HR.out.symm, rfl⟩
    · have hiI : ¬ (i : Int) < (n : Int) := by omega
      have HR := hide (HYes.out (fun j hj => HAll.out j (by omega)))
      clear hlt
      go_wp2
      go_ret
      exact ⟨ret_bool HR.out.symm, rfl⟩
set_option maxHeartbeats 1000000 in
set_option maxRecDepth 10000 in
theorem dSame_b (a b : List UInt8) (w : World) (ha : a.length ≤ 1000000) (hb : b.length ≤ 1000000) (hba : b.length < a.length) : Calls Tryz.prog 74 #[.string ⟨a.toArray⟩, .string ⟨b.toArray⟩] w fun e w' => e = .returned (.int .i64 (alike a b : Int)) ∧ Qt w w' := by
  have H0 := hide (show alike a b = 0 + alike (a.drop 0) (b.drop 0) by simp)
  have HSt := hide (fun (i : Nat) (h1 : i < a.length) (h2 : i < b.length) => alike_step h1 h2)
  have HEnd := hide (show ∀ i, b.length ≤ i → alike (a.drop i) (b.drop i) = 0 from fun i h => by
    rcases Nat.lt_or_ge i a.length with h1 | h1
    · rw [List.drop_of_length_le (by omega : b.length ≤ i)]; cases a.drop i <;> simp [alike]
    · rw [List.drop_of_length_le h1]; simp [alike])
  generalize alike a b = res at *
  go_enter Tryz.func74, Tryz.ntmps74
  go_wp2
  go_loopw [5] (fun y wr => ∃ i : Nat, i ≤ b.length ∧ y = .int .i64 (i : Int) ∧ res = i + alike (a.drop i) (b.drop i) ∧ Qt w wr) (fun y _ => b.length - (intOf y).toNat)
  case atStart => exact ⟨0, by omega, rfl, H0.out, Qt.refl _⟩
  case round =>
    clear H0
    obtain ⟨i, hi, rfl, hres, hQ⟩ := hrel
    have HR := hide hres
    clear hres
    by_cases hlt : i < b.length
    · have hiI : (i : Int) < (b.length : Int) := by omega
      have hla : i < a.length := by omega
      have hlb : i < b.length := by omega
      have hlaI : (i : Int) < (a.length : Int) := by omega
      have hlbI : (i : Int) < (b.length : Int) := by omega
      have hd0 : decide ((i : Int) < (b.length : Int)) = true := decide_eq_true hiI
      have hd1 : decide (i < b.length) = true := decide_eq_true hlt
      have hst := HSt.out i hla hlb
      obtain ⟨x, hx⟩ : ∃ x, a[i]'hla = x := ⟨_, rfl⟩
      obtain ⟨y, hy⟩ : ∃ y, b[i]'hlb = y := ⟨_, rfl⟩
      rw [hx, hy] at hst
      by_cases hxy : x = y
      · rw [if_pos hxy] at hst
        have HS := hide (show res = (i + 1) + alike (a.drop (i + 1)) (b.drop (i + 1)) by rw [HR.out, hst]; omega)
        have hne : ((x.toNat : Int) == (y.toNat : Int)) = true := by rw [hxy]; simp
        clear hst hxy
        go_wp2_with fail
        go_quiet (fail)
        go_wp2
        go_roundw
        case rel => exact ⟨i + 1, by omega, by go_num, HS.out, hQ.drewN _⟩
        case measure => simp [intOf]; omega
      · rw [if_neg hxy] at hst
        have HS := hide (show res = i by rw [HR.out, hst]; rfl)
        have hne : ((x.toNat : Int) == (y.toNat : Int)) = false := by
          rw [beq_eq_false_iff_ne]
          intro h
          exact hxy (UInt8.toNat_inj.1 (by omega))
        clear hst hxy
        go_wp2_with fail
        go_quiet (fail)
        go_wp2
        go_ret
        rw [HS.out]
        exact ⟨rfl, hQ.drewN _⟩
    · have hiI : ¬ (i : Int) < (b.length : Int) := by omega
      have hd0 : decide ((i : Int) < (b.length : Int)) = false := decide_eq_false hiI
      have hd1 : decide (i < b.length) = false := decide_eq_false hlt
      have HS := hide (show res = i by rw [HR.out, HEnd.out i (by omega)]; rfl)
      go_wp2_with fail
      go_quiet (fail)
      go_wp2
      go_ret
      rw [HS.out]
      exact ⟨rfl, hQ.drewN _⟩
set_option maxHeartbeats 1000000 in
set_option maxRecDepth 10000 in
theorem dSame_a (a b : List UInt8) (w : World) (ha : a.length ≤ 1000000) (hb : b.length ≤ 1000000) (hba : ¬ b.length < a.length) : Calls Tryz.prog 74 #[.string ⟨a.toArray⟩, .string ⟨b.toArray⟩] w fun e w' => e = .returned (.int .i64 (alike a b : Int)) ∧ Qt w w' := by
  have H0 := hide (show alike a b = 0 + alike (a.drop 0) (b.drop 0) by simp)
  have HSt := hide (fun (i : Nat) (h1 : i < a.length) (h2 : i < b.length) => alike_step h1 h2)
  have HEnd := hide (show ∀ i, a.length ≤ i → alike (a.drop i) (b.drop i) = 0 from fun i h => by
    rcases Nat.lt_or_ge i a.length with h1 | h1
    · rw [List.drop_of_length_le (by omega : b.length ≤ i)]; cases a.drop i <;> simp [alike]
    · rw [List.drop_of_length_le h1]; simp [alike])
  generalize alike a b = res at *
  go_enter Tryz.func74, Tryz.ntmps74
  go_wp2
  go_loopw [5] (fun y wr => ∃ i : Nat, i ≤ a.length ∧ y = .int .i64 (i : Int) ∧ res = i + alike (a.drop i) (b.drop i) ∧ Qt w wr) (fun y _ => a.length - (intOf y).toNat)
  case atStart => exact ⟨0, by omega, rfl, H0.out, Qt.refl _⟩
  case round =>
    clear H0
    obtain ⟨i, hi, rfl, hres, hQ⟩ := hrel
    have HR := hide hres
    clear hres
    by_cases hlt : i < a.length
    · have hiI : (i : Int) < (a.length : Int) := by omega
      have hla : i < a.length := by omega
      have hlb : i < b.length := by omega
      have hlaI : (i : Int) < (a.length : Int) := by omega
      have hlbI : (i : Int) < (b.length : Int) := by omega
      have hd0 : decide ((i : Int) < (a.length : Int)) = true := decide_eq_true hiI
      have hd1 : decide (i < a.length) = true := decide_eq_true hlt
      have hst := HSt.out i hla hlb
      obtain ⟨x, hx⟩ : ∃ x, a[i]'hla = x := ⟨_, rfl⟩
      obtain ⟨y, hy⟩ : ∃ y, b[i]'hlb = y := ⟨_, rfl⟩
      rw [hx, hy] at hst
      by_cases hxy : x = y
      · rw [if_pos hxy] at hst
        have HS := hide (show res = (i + 1) + alike (a.drop (i + 1)) (b.drop (i + 1)) by rw [HR.out, hst]; omega)
        have hne : ((x.toNat : Int) == (y.toNat : Int)) = true := by rw [hxy]; simp
        clear hst hxy
        go_wp2_with fail
        go_quiet (fail)
        go_wp2
        go_roundw
        case rel => exact ⟨i + 1, by omega, by go_num, HS.out, hQ.drewN _⟩
        case measure => simp [intOf]; omega
      · rw [if_neg hxy] at hst
        have HS := hide (show res = i by rw [HR.out, hst]; rfl)
        have hne : ((x.toNat : Int) == (y.toNat : Int)) = false := by
          rw [beq_eq_false_iff_ne]
          intro h
          exact hxy (UInt8.toNat_inj.1 (by omega))
        clear hst hxy
        go_wp2_with fail
        go_quiet (fail)
        go_wp2
        go_ret
        rw [HS.out]
        exact ⟨rfl, hQ.drewN _⟩
    · have hiI : ¬ (i : Int) < (a.length : Int) := by omega
      have hd0 : decide ((i : Int) < (a.length : Int)) = false := decide_eq_false hiI
      have hd1 : decide (i < a.length) = false := decide_eq_false hlt
      have HS := hide (show res = i by rw [HR.out, HEnd.out i (by omega)]; rfl)
      go_wp2_with fail
      go_quiet (fail)
      go_wp2
      go_ret
      rw [HS.out]
      exact ⟨rfl, hQ.drewN _⟩
theorem dSame_any (a b : List UInt8) (w : World) (ha : a.length ≤ 1000000) (hb : b.length ≤ 1000000) : Calls Tryz.prog 74 #[.string ⟨a.toArray⟩, .string ⟨b.toArray⟩] w fun e w' => e = .returned (.int .i64 (alike a b : Int)) ∧ Qt w w' := by
  by_cases h : b.length < a.length
  · exact dSame_b a b w ha hb h
  · exact dSame_a a b w ha hb h
end Go.Proofs.YtcphapdjimeoaaaGreat

namespace Go.Proofs.YtcphapdjimeoaaaGreat
open Go.RowKit

theorem appTxD_run {w : World} (ty : TypeId) {base : Nat} {v : Value} {L : List (List UInt8)} (hown : OwnTx w base v L) {A : Option Addr} {m : Nat} (c : Nat) {k : List (List UInt8)} (hI : TextsAt w w.heap.size A m k) (hlen : L.length + m ≤ 2000000) (hbase : base ≤ w.heap.size) :
    ∃ v' w', (Builtin.append_ #[68, 68] ty #[v, .slice A m c]).run Tryz.prog w = .ok v' w' ∧ OwnTx w' base v' (L ++ k) ∧ w.grownBy w' v.ownBlock ∧ NewOb w v.ownBlock v'.ownBlock := by
  obtain ⟨i, hi, hz, hs, hby⟩ := info_parts text_info
  rcases hI.2 with h0 | ⟨b, off, rfl, hb, hc⟩
  · subst h0
    have hk : k = [] := List.eq_nil_of_length_eq_zero hI.1
    subst hk
    refine ⟨v, w, ?_, by simpa using hown, World.grownBy.refl w _, .inl rfl⟩
    rcases hown.2 with ⟨rfl, _⟩ | ⟨g, cap, cur, rfl, _, _, hnc, _⟩
    · cases A <;> simp [Builtin.append_, run_underlying Tryz.underlying68, sizeOf, typeInfo, hi, Builtin.lenOf, Builtin.firstCells, loadCells, loadCellsFrom]
    · cases A <;> simp [Builtin.append_, run_underlying Tryz.underlying68, sizeOf, typeInfo, hi, Builtin.lenOf, Builtin.firstCells, loadCells, loadCellsFrom, hnc, storeCells]
  · have hkl := hI.1
    obtain ⟨v', w', hr, h2, h3, _, h5⟩ := run_append_own_at (P := Tryz.prog) w base 68 ty 9 i _ 1 16 Tryz.underlying68 hi hz hs hby rfl (by omega) v L.length (L.map txt) hown
      ⟨b, off, none⟩ m c (k.map txt) (by simp [hkl]) (by
        intro j u hu
        have hj : j < m := by
          rcases Nat.lt_or_ge j m with h | h
          · exact h
          · rw [List.getElem?_eq_none (by rw [List.length_map]; omega)] at hu; cases hu
        have e : (⟨b, off, none⟩ : Addr).add j = ⟨b, off + j, none⟩ := by unfold Addr.add; split <;> simp_all
        rw [e, hc j hj]
        rw [List.getElem?_map, List.getElem?_eq_getElem (by omega)] at hu
        simp [List.getD_eq_getElem?_getD, show j < k.length by omega, txt] at hu ⊢
        exact hu) (by
        intro u hu
        obtain ⟨z, _, rfl⟩ := List.mem_map.1 hu
        rfl) (by unfold maxLen; omega) (by omega) hbase
    refine ⟨v', w', hr, ?_, h3, h5.imp id fun h => ⟨_, h, Nat.le_refl _⟩⟩
    unfold OwnTx
    rw [List.length_append, List.map_append, hkl]
    exact h2
theorem wpOper_appTxD {o : Oper} {a : Act} {K : Act → World → Prop} {Q : Exit → Act → World → Prop} {w : World} {base : Nat} {v : Value} {L : List (List UInt8)} (s x : Operand) (ho : o.op = .call { callee := .builtin .append, args := #[s, x], argTypes := #[68, 68] }) (hs : a.eval s = v)
    (hown : OwnTx w base v L) {A : Option Addr} {m c : Nat} {k : List (List UInt8)} (hx : a.eval x = .slice A m c) (hI : TextsAt w w.heap.size A m k) (hlen : L.length + m ≤ 2000000) (hbase : base ≤ w.heap.size)
    (h : ∀ v' w', OwnTx w' base v' (L ++ k) → w.grownBy w' v.ownBlock → NewOb w v.ownBlock v'.ownBlock → K (a.put o.dst v') w') : Oper.wp Tryz.prog o a w K Q := by
  obtain ⟨v', w', hr, h2, h3, h4⟩ := appTxD_run o.type hown c hI hlen hbase
  unfold Oper.wp execOp
  simp only [ho, resolve, invoke, builtin, Sem.run_bind, Sem.run_pure, Result.andThen_ok, List.map_toArray, List.map_cons, List.map_nil, hs, hx, hr]
  exact h v' w' h2 h3 h4
theorem wpList_appTxD {ops : Array Oper} {rest : List Oper} {o : Oper} {a : Act} {Q : Exit → Act → World → Prop} {w : World} {base : Nat} {v : Value} {L : List (List UInt8)} (hgd : o.guard = none) (s x : Operand) (ho : o.op = .call { callee := .builtin .append, args := #[s, x], argTypes := #[68, 68] }) (hs : a.eval s = v)
    (hown : OwnTx w base v L) {A : Option Addr} {m c : Nat} {k : List (List UInt8)} (hx : a.eval x = .slice A m c) (hI : TextsAt w w.heap.size A m k) (hlen : L.length + m ≤ 2000000) (hbase : base ≤ w.heap.size)
    (h : ∀ v' w', OwnTx w' base v' (L ++ k) → w.grownBy w' v.ownBlock → NewOb w v.ownBlock v'.ownBlock → wpList Tryz.prog ops Q rest (a.put o.dst v') w') : wpList Tryz.prog ops Q (o :: rest) a w := by
  refine wpList_plain hgd fun _ hK => ?_
  obtain ⟨v', w', hr, h2, h3, h4⟩ := appTxD_run o.type hown c hI hlen hbase
  unfold Oper.wp execOp
  simp only [ho, resolve, invoke, builtin, Sem.run_bind, Sem.run_pure, Result.andThen_ok, List.map_toArray, List.map_cons, List.map_nil, hs, hx, hr]
  exact hK _ _ (h v' w' h2 h3 h4)
theorem OwnTx.empty (w : World) {base : Nat} (hb : base ≤ w.heap.size) : OwnTx (w.alloc (.cells #[] 9)) base (.slice (some ⟨w.heap.size, 0, none⟩) 0 0) [] := by
  refine ⟨rfl, .inr ⟨w.heap.size, 0, #[], rfl, hb, heap_alloc_new w _, Nat.le_refl _, by unfold maxLen; omega, by simp, by simp⟩⟩
theorem OwnTx.textsOf {w : World} {base n c : Nat} {A : Option Addr} {l : List (List UInt8)} (h : OwnTx w base (.slice A n c) l) : TextsAt w w.heap.size A n l := by
  obtain ⟨A1, c1, hv, _, _, hb⟩ := h.form
  simp only [Value.slice.injEq] at hv
  obtain ⟨rfl, rfl, rfl⟩ := hv
  exact hb
theorem OwnTx.mono {w : World} {base base' : Nat} {v : Value} {l : List (List UInt8)} (h : OwnTx w base v l) (hb : base' ≤ base) : OwnTx w base' v l :=
  ⟨h.1, h.2.elim Or.inl fun ⟨g, cap, cur, hv, hg, r⟩ => Or.inr ⟨g, cap, cur, hv, Nat.le_trans hb hg, r⟩⟩
theorem OwnTx.grown {w w' : World} {base : Nat} {v u : Value} {l : List (List UInt8)} (h : OwnTx w base v l) (hg : w.grownBy w' u.ownBlock) (ha : Ap v u) : OwnTx w' base v l :=
  World.ownsRow.kept h hg (by
    cases hv : v.ownBlock with
    | none => exact .inl rfl
    | some k => exact .inr (fun e => ha k hv e.symm))
theorem OwnTx.put {w w' : World} {base g : Nat} {v : Value} {l : List (List UInt8)} {t : TypeId} {cs : Array Value} (h : OwnTx w base v l) (hw : Whole w g t cs) (ht : t ≠ 9) (hG : w.grownBy w' (some g)) : OwnTx w' base v l := World.ownsRow.kept h hG (.inr (h.notKind hw ht))
/-- Two lists in blocks of their own. -/
def TwoTx (w : World) (base : Nat) (u : Value) (U : List (List UInt8)) (v : Value) (V : List (List UInt8)) : Prop := OwnTx w base u U ∧ OwnTx w base v V ∧ Ap u v
section
variable {w w' : World} {base : Nat} {u u' v : Value} {U U' V : List (List UInt8)}
theorem TwoTx.nil (w : World) (base : Nat) : TwoTx w base (.slice none 0 0) [] (.slice none 0 0) [] := ⟨OwnTx.nil _ _, OwnTx.nil _ _, Ap.nil _⟩
theorem TwoTx.ext (h : TwoTx w base u U v V) (hE : Ext w w') : TwoTx w' base u U v V := ⟨h.1.ext hE, h.2.1.ext hE, h.2.2⟩
theorem TwoTx.flip (h : TwoTx w base u U v V) : TwoTx w base v V u U := ⟨h.2.1, h.1, h.2.2.symm⟩
theorem TwoTx.put {g : Nat} {t : TypeId} {cs : Array Value} (h : TwoTx w base u U v V) (hw : Whole w g t cs) (ht : t ≠ 9) (hG : w.grownBy w' (some g)) : TwoTx w' base u U v V := ⟨h.1.put hw ht hG, h.2.1.put hw ht hG, h.2.2⟩
/-- The first one has grown. -/
theorem TwoTx.grow (h : TwoTx w base u U v V) (h1 : OwnTx w' base u' U') (hG : w.grownBy w' u.ownBlock) (hN : NewOb w u.ownBlock u'.ownBlock) : TwoTx w' base u' U' v V := by
  refine ⟨h1, h.2.1.grown hG h.2.2.symm, fun k hk e => ?_⟩
  rcases hN with h2 | ⟨g, h2, hg⟩
  · exact h.2.2 k (h2 ▸ hk) e
  · rw [hk] at h2
    injection h2 with h2
    have := (h.2.1.lt k e).2
    omega
end
set_option maxHeartbeats 1000000 in
theorem dClone_any (A : Option Addr) (n c : Nat) (l : List (List UInt8)) (w : World) (hc : n ≤ c) (hn : n ≤ 1000000) (hb : TextsAt w w.heap.size A n l) :
    Calls Tryz.prog 35 #[.slice A n c] w fun e w' => ∃ v, e = .returned v ∧ OwnTx w' w.heap.size v l ∧ Ext w w' := by
  have hnil := fun (W : World) (a : Option Addr) (n c n' c' : Nat) => Lib.run_eql_slice_nil (P := Tryz.prog) W 68 9 a n c n' c' Tryz.underlying68
  rcases A with _ | ad
  · have hl : l = [] := by
      rcases hb.2 with h0 | ⟨_, _, h, _⟩
      · exact List.eq_nil_of_length_eq_zero (by rw [hb.1, h0])
      · cases h
    subst hl
    have hn0 : n = 0 := hb.1.symm
    subst hn0
    go_enter Tryz.func35, Tryz.ntmps35
    go_wp2
    go_ret
    exact ⟨_, rfl, OwnTx.nil _ _, Ext.refl _⟩
  · have ho := OwnTx.empty w (Nat.le_refl _)
    have hE := extNew w (.cells #[] 9)
    have hb' := hb.later hE
    have hB : w.heap.size ≤ (w.alloc (.cells #[] 9)).heap.size := by simp
    have hl0 : ([] : List (List UInt8)).length + n ≤ 2000000 := by simp; omega
    clear hb
    go_enter Tryz.func35, Tryz.ntmps35
    go_wp2_with (at_builtin; refine wpList_appTxD rfl (.tmp 5) (.tmp 6) rfl rfl ho rfl hb' hl0 hB ?_; intro v1 w1 hown1 hg1 hN1)
    go_ret
    exact ⟨v1, rfl, hown1, Below.grown hE hg1 hB (fun k hk => (ho.lt k hk).1)⟩
end Go.Proofs.YtcphapdjimeoaaaGreat

namespace Go.Proofs.YtcphapdjimeoaaaGreat
namespace Dic
open Num Wrd

/-- The error behind a text. -/
def followE (a t : List UInt8) (e : Int) : Int := if followD a t = true then e else failR e 2
/-- What the program takes first, and further on: the text, the place, the error. -/
def firstP (p a : List UInt8) (q : Nat) (e : Int) : List UInt8 × Nat × Int := ((textR p q e 25).1, (textR p q e 25).2.1, followE a (textR p q e 25).1 (textR p q e 25).2.2)
/-- The text, of what is the same and what is read. -/
def addT (p a : List UInt8) (q : Nat) (e : Int) : List UInt8 := a.take (intR p q e (a.length : Int)).1 ++ (textR p (intR p q e (a.length : Int)).2.1 (intR p q e (a.length : Int)).2.2 25).1
def sameE (p a : List UInt8) (q : Nat) (e : Int) : Int :=
  if alike a (addT p a q e) = (intR p q e (a.length : Int)).1 then (textR p (intR p q e (a.length : Int)).2.1 (intR p q e (a.length : Int)).2.2 25).2.2 else failR (textR p (intR p q e (a.length : Int)).2.1 (intR p q e (a.length : Int)).2.2 25).2.2 2
def furtherP (p a : List UInt8) (q : Nat) (e : Int) : List UInt8 × Nat × Int :=
  (addT p a q e, (textR p (intR p q e (a.length : Int)).2.1 (intR p q e (a.length : Int)).2.2 25).2.1, followE a (addT p a q e) (sameE p a q e))
theorem fail_err {e e' : Int} (he : e ≠ 0) : failR e e' = e := by unfold failR; rw [if_neg he]
theorem follow_err {a t : List UInt8} {e : Int} (he : e ≠ 0) : followE a t e = e := by
  unfold followE
  split
  · rfl
  · rw [fail_err he]
theorem follow_ok {a t : List UInt8} {e : Int} (h : followD a t = true) : followE a t e = e := by unfold followE; rw [if_pos h]
theorem follow_no {a t : List UInt8} (h : ¬ followD a t = true) : followE a t 0 = 2 := by unfold followE; rw [if_neg h]; rfl
theorem one_of {p a t : List UInt8} {f : Bool} {q n q1 q' : Nat} {e1 e : Int} (hs : sameR p f a q = (n, q1, e1)) (ht : textR p q1 e1 25 = (t, q', e)) :
    oneR p f a q = if e ≠ 0 then ([], 0, e) else if t = [] ∨ 25 < (a.take n ++ t).length ∨ Op.bytesLess a (a.take n ++ t) = false ∨ (f = false ∧ alike a (a.take n ++ t) ≠ n) then ([], 0, 2) else (a.take n ++ t, q', 0) := by
  unfold oneR
  rw [hs]
  dsimp only
  rw [ht]
theorem int_same {p : List UInt8} {q : Nat} {e most : Int} (h : 0 ≤ most) : ((intR p q e most).1 : Int) ≤ most := by
  unfold intR
  split
  · split
    · simpa using h
    · omega
  · simpa using h
/-- The first text of a bucket is read as the document reads it. -/
theorem first_is (p a : List UInt8) (q : Nat) : oneR p true a q = if (firstP p a q 0).2.2 ≠ 0 then ([], 0, (firstP p a q 0).2.2) else firstP p a q 0 := by
  obtain ⟨t, q', e, ht⟩ : ∃ t q' e, textR p q 0 25 = (t, q', e) := ⟨_, _, _, rfl⟩
  have hf : firstP p a q 0 = (t, q', followE a t e) := by unfold firstP; rw [ht]
  rw [one_of (show sameR p true a q = (0, q, 0) from rfl) ht, hf]
  dsimp only
  rw [List.take_zero, List.nil_append]
  by_cases he : e = 0
  case neg => rw [follow_err he, if_pos he, if_pos he]
  subst he
  rw [if_neg (by simp)]
  by_cases hd : followD a t = true
  · rw [follow_ok hd, if_neg (show ¬ ((0 : Int) ≠ 0) by simp)]
    unfold followD at hd
    rw [Bool.and_eq_true, decide_eq_true_eq] at hd
    have := less_pos hd.2
    rw [if_neg]
    rintro (h | h | h | h)
    · subst h; simp at this
    · omega
    · rw [hd.2] at h; cases h
    · cases h.1
  · rw [follow_no hd, if_pos (show (2 : Int) ≠ 0 by decide), if_pos]
    unfold followD at hd
    rw [Bool.and_eq_true, decide_eq_true_eq] at hd
    by_cases h1 : t.length ≤ 25
    · refine .inr (.inr (.inl ?_))
      cases h2 : Op.bytesLess a t with
      | false => rfl
      | true => exact absurd ⟨h1, h2⟩ hd
    · exact .inr (.inl (by omega))
/-- So is each further one. -/
theorem further_is (p a : List UInt8) (q : Nat) : oneR p false a q = if (furtherP p a q 0).2.2 ≠ 0 then ([], 0, (furtherP p a q 0).2.2) else furtherP p a q 0 := by
  obtain ⟨n, q1, e1, hn⟩ : ∃ n q1 e1, intR p q 0 (a.length : Int) = (n, q1, e1) := ⟨_, _, _, rfl⟩
  obtain ⟨t, q', e, ht⟩ : ∃ t q' e, textR p q1 e1 25 = (t, q', e) := ⟨_, _, _, rfl⟩
  obtain ⟨x, hx⟩ : ∃ x, x = a.take n ++ t := ⟨_, rfl⟩
  have hf : furtherP p a q 0 = (x, q', followE a x (if alike a x = n then e else failR e 2)) := by
    unfold furtherP sameE addT
    rw [hn]
    dsimp only
    rw [ht]
    dsimp only
    rw [hx]
  rw [one_of (show sameR p false a q = (n, q1, e1) from hn) ht, hf]
  dsimp only
  rw [← hx]
  by_cases he : e = 0
  case neg =>
    rw [show (if alike a x = n then e else failR e 2) = e by split; rfl; exact fail_err he, follow_err he, if_pos he, if_pos he]
  subst he
  rw [if_neg (show ¬ ((0 : Int) ≠ 0) by simp)]
  by_cases h3 : alike a x = n
  · rw [if_pos h3]
    by_cases hd : followD a x = true
    · rw [follow_ok hd, if_neg (show ¬ ((0 : Int) ≠ 0) by simp)]
      unfold followD at hd
      rw [Bool.and_eq_true, decide_eq_true_eq] at hd
      rw [if_neg]
      rintro (h | h | h | h)
      · subst h
        rw [List.append_nil] at hx
        have h4 := begins_low x a (hx ▸ List.take_prefix n a)
        rw [hd.2] at h4
        cases h4
      · omega
      · rw [hd.2] at h; cases h
      · exact h.2 h3
    · rw [follow_no hd, if_pos (show (2 : Int) ≠ 0 by decide), if_pos]
      unfold followD at hd
      rw [Bool.and_eq_true, decide_eq_true_eq] at hd
      by_cases h1 : x.length ≤ 25
      · refine .inr (.inr (.inl ?_))
        cases h2 : Op.bytesLess a x with
        | false => rfl
        | true => exact absurd ⟨h1, h2⟩ hd
      · exact .inr (.inl (by omega))
  · rw [if_neg h3, if_pos (.inr (.inr (.inr ⟨rfl, h3⟩))), show failR 0 2 = 2 from rfl, follow_err (by decide), if_pos (show (2 : Int) ≠ 0 by decide)]
theorem text_len25 {p : List UInt8} {q : Nat} {e : Int} : (textR p q e 25).1.length ≤ 25 := by
  unfold textR
  split
  · split
    · simp
    · unfold takeR
      have h := int_same (p := p) (q := q) (e := e) (most := 25) (by decide)
      rw [if_pos rfl]
      split
      · simp
      · split
        · simp
        · simp; omega
  · simp
theorem add_len {p a : List UInt8} {q : Nat} {e : Int} : (addT p a q e).length ≤ a.length + 25 := by
  unfold addT
  have := text_len25 (p := p) (q := (intR p q e (a.length : Int)).2.1) (e := (intR p q e (a.length : Int)).2.2)
  rw [List.length_append, List.length_take]
  omega
/-- Texts of a bucket, with others ahead. -/
theorem texts_err (p : List UInt8) : ∀ (k : Nat) (f : Bool) (a : List UInt8) (q : Nat), (textsR p k f a q).2.2 ≠ 0 → (textsR p k f a q).1 = [] ∧ (textsR p k f a q).2.1 = 0
  | 0, _, _, _, h => by simp [textsR] at h
  | k + 1, f, a, q, h => by
    rw [textsR] at h ⊢
    split
    · exact ⟨rfl, rfl⟩
    · rename_i h1
      rw [if_neg h1] at h
      split
      · exact ⟨rfl, rfl⟩
      · rename_i h2
        rw [if_neg h2] at h
        exact absurd rfl h
theorem texts_bad {p a : List UInt8} {k q : Nat} {f : Bool} (h : (oneR p f a q).2.2 ≠ 0) : textsR p (k + 1) f a q = ([], 0, (oneR p f a q).2.2) := by rw [textsR, if_pos h]
theorem texts_good {p a : List UInt8} {k q : Nat} {f : Bool} (h : (oneR p f a q).2.2 = 0) : textsR p (k + 1) f a q = behind [(oneR p f a q).1] (textsR p k false (oneR p f a q).1 (oneR p f a q).2.1) := by
  rw [textsR, if_neg (by simp [h])]
  rfl
/-- Where the program's loop stands: k texts in all, T taken, a the last, q the place, e the error. -/
def Stand (p : List UInt8) (k : Nat) (was : List UInt8) (T : List (List UInt8)) (a : List UInt8) (q : Nat) (e : Int) : Prop :=
  1 ≤ T.length ∧ T.length ≤ k ∧ (e = 0 → textsR p k true was 0 = behind T (textsR p (k - T.length) false a q)) ∧ (e ≠ 0 → (textsR p k true was 0).2.2 = e)
theorem stand_first {p was : List UInt8} {k : Nat} (hk : 1 ≤ k) : Stand p k was [(firstP p was 0 0).1] (firstP p was 0 0).1 (firstP p was 0 0).2.1 (firstP p was 0 0).2.2 := by
  obtain ⟨m, rfl⟩ : ∃ m, k = m + 1 := ⟨k - 1, by omega⟩
  have h1 := first_is p was 0
  refine ⟨by simp, by simp, fun he => ?_, fun he => ?_⟩
  · rw [if_neg (by simp [he])] at h1
    rw [texts_good (by rw [h1]; exact he), h1]
    rfl
  · rw [if_pos he] at h1
    rw [texts_bad (by rw [h1]; exact he), h1]
theorem stand_next {p was a : List UInt8} {k q : Nat} {T : List (List UInt8)} (h : Stand p k was T a q 0) (hk : T.length < k) : Stand p k was (T ++ [(furtherP p a q 0).1]) (furtherP p a q 0).1 (furtherP p a q 0).2.1 (furtherP p a q 0).2.2 := by
  obtain ⟨h1, h2, h3, _⟩ := h
  have h3 := h3 rfl
  obtain ⟨m, hm⟩ : ∃ m, k - T.length = m + 1 := ⟨k - T.length - 1, by omega⟩
  rw [hm] at h3
  have h5 := further_is p a q
  refine ⟨by simp, by simp; omega, fun he => ?_, fun he => ?_⟩
  · rw [if_neg (by simp [he])] at h5
    rw [h3, texts_good (by rw [h5]; exact he), h5, behind_behind, show k - (T ++ [(furtherP p a q 0).1]).length = m by simp; omega]
  · rw [if_pos he] at h5
    rw [h3, texts_bad (by rw [h5]; exact he), h5]
    unfold behind
    dsimp only
    rw [if_pos he]
/-- What a bucket's bytes tell, when the loop is over. -/
theorem stand_end {p was a : List UInt8} {k q : Nat} {T : List (List UInt8)} {e : Int} (h : Stand p k was T a q e) (hend : e ≠ 0 ∨ k ≤ T.length) :
    (partR p k was).2 = endR p q e ∧ (endR p q e = 0 → partR p k was = (T, 0)) := by
  obtain ⟨h1, h2, h3, h4⟩ := h
  by_cases he : e = 0
  · subst he
    have h3 := h3 rfl
    rw [show k - T.length = 0 by omega, textsR] at h3
    unfold behind at h3
    dsimp only at h3
    rw [if_neg (by simp), List.append_nil] at h3
    unfold partR endR
    rw [h3]
    dsimp only
    rw [if_neg (by simp)]
    by_cases hq : q < p.length
    · rw [if_pos hq, if_pos ⟨rfl, by omega⟩]
      exact ⟨rfl, fun h => absurd h (by decide)⟩
    · rw [if_neg hq, if_neg (by omega)]
      exact ⟨rfl, fun _ => rfl⟩
  · have h4 := h4 he
    unfold partR endR
    rw [if_pos (by rw [h4]; exact he), if_neg (fun h => he h.1)]
    exact ⟨h4, fun h => absurd h he⟩
end Dic
end Go.Proofs.YtcphapdjimeoaaaGreat

