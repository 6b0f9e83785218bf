/- Rows picked of the identity with Cauchy's matrix below it: what the law MatCauchy's calls tell. -/
import Derived.Test.YtbfkknoeaekajaaMatIdE
import Derived.Test.YtbfkknoeaekajaaMatInv
import Derived.Test.YtbfkknoeaekajaaMatStack
import Derived.Test.YtbfkknoeaekajaaMatPickR
import Derived.Test.YtbfkknoeaekajaaMatPick
namespace Go.Proofs.Ytbfkknoeaekajaa
open Go.RowKit

theorem inv_congr {n : Nat} {A B X : Mat.M} (h : ∀ i j, i < n → j < n → B i j = A i j) (hA : Mat.Inv n A X) : Mat.Inv n B X :=
  ⟨fun i j hi hj => by rw [← hA.1 i j hi hj]; exact Mat.mm_congr (fun k hk => h i k hi hk) (fun _ _ => rfl), fun i j hi hj => by rw [← hA.2 i j hi hj]; exact Mat.mm_congr (fun _ _ => rfl) (fun k hk => h k j hk hj)⟩
theorem at_get {r c : Nat} {l : List UInt8} (i j : Nat) : (⟨r, c, l⟩ : MV).at i j = l.getD (i * c + j) 0 := by
  unfold MV.at
  simp
theorem rect_may {r c : Nat} (f : Mat.M) (hr : r ≤ 255) (hc : c ≤ 255) : (⟨r, c, cellsOf c f (r * c)⟩ : MV).may = true :=
  MV.may_iff.2 ⟨by simp, by simp; omega, by simp, by simp; omega, by simp [cellsOf_len]⟩
theorem getD_l (a b : List UInt8) {i : Nat} (h : i < a.length) : (a ++ b).getD i 0 = a.getD i 0 := by simp [List.getD_eq_getElem?_getD, List.getElem?_append_left h]
theorem getD_r (a b : List UInt8) {i : Nat} (h : a.length ≤ i) : (a ++ b).getD i 0 = b.getD (i - a.length) 0 := by simp [List.getD_eq_getElem?_getD, List.getElem?_append_right h]
theorem map_toNat_nodup : ∀ l : List Int, (∀ x ∈ l, 0 ≤ x) → l.Nodup → (l.map Int.toNat).Nodup
  | [], _, _ => by simp
  | a :: l, h, hn => by
    rw [List.nodup_cons] at hn
    rw [List.map_cons, List.nodup_cons]
    refine ⟨fun hm => ?_, map_toNat_nodup l (fun p hp => h p (List.mem_cons_of_mem _ hp)) hn.2⟩
    obtain ⟨b, hb, e⟩ := List.mem_map.1 hm
    have h1 := h b (List.mem_cons_of_mem _ hb)
    have h2 := h a List.mem_cons_self
    obtain rfl : b = a := by omega
    exact hn.1 hb
/-- The stack's cells. -/
theorem stack_at {n p i j : Nat} (hi : i < n + p) (hj : j < n) : (⟨(n + p : Nat), n, cellsOf n Mat.one (n * n) ++ cellsOf n (cauchyF n) (p * n)⟩ : MV).at i j = Mat.rowM n i j := by
  rw [at_get]
  have hl := cellsOf_len n Mat.one (n * n)
  by_cases hin : i < n
  · have hlt : i * n + j < n * n := by
      have : (i + 1) * n ≤ n * n := Nat.mul_le_mul_right _ hin
      rw [Nat.add_mul, Nat.one_mul] at this
      omega
    have e := at_cells (r := n) (c := n) (f := Mat.one) hin hj
    rw [at_get] at e
    rw [getD_l _ _ (by omega), e, Mat.rowM, if_pos hin]
  · obtain ⟨q, rfl⟩ : ∃ q, i = n + q := ⟨i - n, by omega⟩
    have e := at_cells (r := p) (c := n) (f := cauchyF n) (i := q) (by omega) hj
    rw [at_get] at e
    have hidx : (n + q) * n + j - n * n = q * n + j := by rw [Nat.add_mul]; omega
    have hge : n * n ≤ (n + q) * n + j := by rw [Nat.add_mul]; omega
    rw [getD_r _ _ (by omega), hl, hidx, e, Mat.rowM, if_neg hin]
    rfl
theorem cauchy_calls {n p : Nat} (hnp : n + p ≤ 255) {L : List Int} (hl : L.length = n) (hd : L.Nodup) (hL : ∀ x ∈ L, 0 ≤ x ∧ x < ((n + p : Nat) : Int)) :
    ∃ I C S T, identityE n = (I, 0) ∧ cauchyE n p = (C, 0) ∧ stackE [I, C] = (S, 0) ∧ S.pickE L = (T, 0) ∧ T.invE.2 = 0 ∧ I.l.length ≤ maxLen ∧ C.l.length ≤ maxLen ∧ S.l.length ≤ maxLen ∧ T.l.length ≤ maxLen := by
  have hI := square_may (n := n) Mat.one (by omega)
  have hC := rect_may (r := p) (c := n) (cauchyF n) (by omega) (by omega)
  have hS : (⟨(n + p : Nat), n, cellsOf n Mat.one (n * n) ++ cellsOf n (cauchyF n) (p * n)⟩ : MV).may = true :=
    MV.may_iff.2 ⟨by simp; omega, by simp; omega, by simp, by simp; omega, by simp [cellsOf_len, Int.add_mul]⟩
  have hT := rect_may (r := n) (c := n) ((⟨(n + p : Nat), n, cellsOf n Mat.one (n * n) ++ cellsOf n (cauchyF n) (p * n)⟩ : MV).pickF L) (by omega) (by omega)
  refine ⟨_, ⟨p, n, cellsOf n (cauchyF n) (p * n)⟩, ⟨(n + p : Nat), n, cellsOf n Mat.one (n * n) ++ cellsOf n (cauchyF n) (p * n)⟩, _, identity_nat (by omega), ?_, ?_, ?_, ?_, MV.may_len hI, MV.may_len hC, MV.may_len hS, MV.may_len hT⟩
  · unfold cauchyE
    rw [if_pos ⟨by omega, by omega, by omega⟩]
    simp
  · have e1 : stackE [⟨n, n, cellsOf n Mat.one (n * n)⟩, ⟨p, n, cellsOf n (cauchyF n) (p * n)⟩] = stackGo n 0 [] [⟨n, n, cellsOf n Mat.one (n * n)⟩, ⟨p, n, cellsOf n (cauchyF n) (p * n)⟩] := rfl
    rw [e1, stackGo, if_pos ⟨hI, rfl, by simp; omega⟩, stackGo, if_pos ⟨hC, rfl, by simp; omega⟩, stackGo]
    simp
  · unfold MV.pickE
    rw [if_pos ⟨hS, by omega, fun i hi => hL _ (by rw [List.getD_eq_getElem?_getD, List.getElem?_eq_getElem hi]; exact List.getElem_mem hi)⟩]
    unfold MV.pickR
    rw [hl]
    simp
  · obtain ⟨X, hX⟩ := Mat.picked n (by omega) (L.map Int.toNat) (by simpa using hl) (map_toNat_nodup L (fun x hx => (hL x hx).1) hd) (fun q hq => by
      obtain ⟨x, hx, rfl⟩ := List.mem_map.1 hq
      have := hL x hx
      omega)
    have hT' : Mat.Inv n (⟨n, n, cellsOf n ((⟨(n + p : Nat), n, cellsOf n Mat.one (n * n) ++ cellsOf n (cauchyF n) (p * n)⟩ : MV).pickF L) (n * n)⟩ : MV).at X := by
      refine inv_congr (fun i j hi hj => ?_) hX
      rw [at_cells hi hj]
      have hm : L.getD i 0 ∈ L := by rw [List.getD_eq_getElem?_getD, List.getElem?_eq_getElem (by omega)]; exact List.getElem_mem _
      have hb := hL _ hm
      have e : (L.map Int.toNat).getD i 0 = (L.getD i 0).toNat := by simp [List.getD_eq_getElem?_getD, List.getElem?_eq_getElem (show i < L.length by omega)]
      rw [e]
      exact stack_at (by omega) hj
    rw [MV.invE_of hT rfl (X := X) (by simpa using hT')]
end Go.Proofs.Ytbfkknoeaekajaa
