/- Rows picked of the identity with Cauchy's matrix below it: plain mathematics. -/
import Derived.Test.YtbfkknoeaekajaaMatRank
namespace Go.Proofs.Ytbfkknoeaekajaa
open Go.RowKit

namespace Mat
def lsum : List Nat → (Nat → UInt8) → UInt8
  | [], _ => 0
  | j :: l, f => f j ^^^ lsum l f
theorem lsum_append (f : Nat → UInt8) : ∀ a b : List Nat, lsum (a ++ b) f = lsum a f ^^^ lsum b f
  | [], b => by simp [lsum]
  | j :: a, b => by rw [List.cons_append, lsum, lsum, lsum_append f a b, UInt8.xor_assoc]
theorem lsum_range (f : Nat → UInt8) : ∀ n, lsum (List.range n) f = sum n f
  | 0 => rfl
  | n + 1 => by rw [List.range_succ, lsum_append, lsum_range f n, sum]; simp [lsum]
theorem lsum_filter (f : Nat → UInt8) (q : Nat → Bool) : ∀ l : List Nat, (∀ j ∈ l, q j = false → f j = 0) → lsum (l.filter q) f = lsum l f
  | [], _ => rfl
  | j :: l, h => by
    have ih := lsum_filter f q l fun k hk => h k (List.mem_cons_of_mem _ hk)
    cases hq : q j with
    | true => rw [List.filter_cons_of_pos hq, lsum, lsum, ih]
    | false => rw [List.filter_cons_of_neg (by simp [hq]), lsum, ih, h j List.mem_cons_self hq, UInt8.zero_xor]
theorem csum_map (x : UInt8) (v : Nat → UInt8) : ∀ l : List Nat, csum x (l.map fun j => (UInt8.ofNat j, v j)) = lsum l fun j => fm (v j) (fi (x ^^^ UInt8.ofNat j))
  | [] => rfl
  | j :: l => by rw [List.map_cons, csum, lsum, csum_map x v l]
/-- The row of number p: of the identity of n rows, or of Cauchy's matrix below it. -/
def rowM (n p j : Nat) : UInt8 := if p < n then one p j else fi (UInt8.ofNat p ^^^ UInt8.ofNat j)
theorem ofNat_inj {a b : Nat} (ha : a < 256) (hb : b < 256) (h : UInt8.ofNat a = UInt8.ofNat b) : a = b := by
  have := congrArg UInt8.toNat h
  rwa [UInt8.toNat_ofNat', UInt8.toNat_ofNat', Nat.mod_eq_of_lt ha, Nat.mod_eq_of_lt hb] at this
theorem map_ofNat_nodup : ∀ l : List Nat, (∀ p ∈ l, p < 256) → l.Nodup → (l.map UInt8.ofNat).Nodup
  | [], _, _ => by simp
  | a :: l, h, hn => by
    rw [List.nodup_cons] at hn
    rw [List.map_cons, List.nodup_cons]
    refine ⟨fun hm => ?_, map_ofNat_nodup l (fun p hp => h p (List.mem_cons_of_mem _ hp)) hn.2⟩
    obtain ⟨b, hb, e⟩ := List.mem_map.1 hm
    exact hn.1 (ofNat_inj (h b (List.mem_cons_of_mem _ hb)) (h a List.mem_cons_self) e ▸ hb)
theorem picked (n : Nat) (hn : n ≤ 256) (P : List Nat) (hl : P.length = n) (hd : P.Nodup) (hp : ∀ p ∈ P, p < 256) : ∃ X, Inv n (fun i j => rowM n (P.getD i 0) j) X := by
  rcases inv_or_ker n (fun i j => rowM n (P.getD i 0) j) with h | ⟨v, ⟨i, hi, hv⟩, hz⟩
  · exact h
  exfalso
  have hrow : ∀ p ∈ P, sum n (fun k => fm (rowM n p k) (v k)) = 0 := fun p hpm => by
    obtain ⟨i, hi, rfl⟩ := List.getElem_of_mem hpm
    rw [← hz i (by omega)]
    refine sum_congr fun k _ => ?_
    show fm (rowM n P[i] k) (v k) = fm (rowM n (P.getD i 0) k) (v k)
    rw [List.getD_eq_getElem?_getD, List.getElem?_eq_getElem hi]
    rfl
  have hS : ∀ j, j < n → j ∈ P → v j = 0 := fun j hj hjP => by
    rw [← hrow j hjP, sum_one hj (fun k _ hk => by rw [rowM, if_pos hj, one, if_neg (fun e => hk e.symm), zero_fm]), rowM, if_pos hj, one, if_pos rfl, one_fm]
  have h1 : (List.range n).length = ((List.range n).filter fun j => decide (j ∈ P)).length + ((List.range n).filter fun j => !decide (j ∈ P)).length := by
    rw [← List.countP_eq_length_filter, ← List.countP_eq_length_filter, List.length_eq_countP_add_countP (p := fun j => decide (j ∈ P))]
    simp
  have h2 : P.length = (P.filter fun p => decide (p < n)).length + (P.filter fun p => !decide (p < n)).length := by
    rw [← List.countP_eq_length_filter, ← List.countP_eq_length_filter, List.length_eq_countP_add_countP (p := fun p => decide (p < n))]
    simp
    exact List.countP_congr fun a _ => by simp
  have h3 : ((List.range n).filter fun j => decide (j ∈ P)).length = (P.filter fun p => decide (p < n)).length := by
    refine ((List.perm_ext_iff_of_nodup (List.nodup_range.filter _) (hd.filter _)).2 fun a => ?_).length_eq
    simp only [List.mem_filter, List.mem_range, decide_eq_true_eq]
    exact ⟨fun h => ⟨h.2, h.1⟩, fun h => ⟨h.2, h.1⟩⟩
  have key := cauchy (((List.range n).filter fun j => !decide (j ∈ P)).map fun j => (UInt8.ofNat j, v j)) ((P.filter fun p => !decide (p < n)).map UInt8.ofNat)
    (by rw [List.length_map, List.length_map]; rw [List.length_range] at h1; omega)
    (map_ofNat_nodup _ (fun p h => hp p (List.mem_filter.1 h).1) (hd.filter _))
    (by
      rw [List.map_map]
      exact map_ofNat_nodup _ (fun p h => by have := List.mem_range.1 (List.mem_filter.1 h).1; omega) (List.nodup_range.filter _))
    (fun x hx q hq => by
      obtain ⟨p, hpm, rfl⟩ := List.mem_map.1 hx
      obtain ⟨j, hj, rfl⟩ := List.mem_map.1 hq
      have a1 := (List.mem_filter.1 hpm).2
      have a2 := List.mem_range.1 (List.mem_filter.1 hj).1
      simp only [Bool.not_eq_true', decide_eq_false_iff_not] at a1
      intro e
      have := ofNat_inj (hp p (List.mem_filter.1 hpm).1) (by omega) e
      omega)
    (fun x hx => by
      obtain ⟨p, hpm, rfl⟩ := List.mem_map.1 hx
      have a1 := (List.mem_filter.1 hpm).2
      simp only [Bool.not_eq_true', decide_eq_false_iff_not] at a1
      rw [csum_map, lsum_filter _ _ _ (fun j hj hjq => by
        simp only [Bool.not_eq_false', decide_eq_true_eq] at hjq
        rw [hS j (List.mem_range.1 hj) hjq, zero_fm]), lsum_range, ← hrow p (List.mem_filter.1 hpm).1]
      refine sum_congr fun k _ => ?_
      rw [rowM, if_neg a1, fm_comm])
  by_cases hiP : i ∈ P
  · exact hv (hS i hi hiP)
  · exact hv (key (UInt8.ofNat i, v i) (List.mem_map.2 ⟨i, List.mem_filter.2 ⟨List.mem_range.2 hi, by simpa using hiP⟩, rfl⟩))
end Mat
end Go.Proofs.Ytbfkknoeaekajaa
