/- The document's merge of chapter 7. -/
import Derived.Test.YtijelijooecoeaaLenItems
import Derived.Deep.QuietTactic
import Derived.BigQuiet
namespace Go.Proofs.Ytijelijooecoeaa
open Go.RowKit Len

theorem AtI.ext {w w' : World} {A : Option Addr} {i : Nat} {x : Len.Item} (h : AtI w w.heap.size A i x) (hE : Ext w w') : AtI w' w'.heap.size A i x := by
  obtain ⟨g, q, C, rfl, k1, k2, k3, k4⟩ := h.ex
  have hg : g < w.heap.size := World.block_lt_of_cell? w _ k1
  exact ⟨g, q, C, rfl, (hE.cell hg).trans k1, (hE.cell hg).trans k2, k3.ext hE, fun k hk => Nat.lt_of_lt_of_le (k4 k hk) hE.le⟩
theorem drop_at {X : List Len.Item} {i : Nat} (h : i < X.length) : X.drop i = X.getD i (0, []) :: X.drop (i + 1) := by
  rw [List.drop_eq_getElem_cons h, List.getD_eq_getElem?_getD, List.getElem?_eq_getElem h]
  rfl
theorem merge_first {X1 X2 P : List Len.Item} {i k : Nat} (hi : i < X1.length) (h : k = X2.length ∨ k < X2.length ∧ (X1.getD i (0, [])).1 ≤ (X2.getD k (0, [])).1) (hP : P ++ mergeI (X1.drop i) (X2.drop k) = mergeI X1 X2) :
    (P ++ [X1.getD i (0, [])]) ++ mergeI (X1.drop (i + 1)) (X2.drop k) = mergeI X1 X2 := by
  rw [← hP, List.append_assoc]
  congr 1
  rw [drop_at hi]
  rcases h with rfl | ⟨hk, hle⟩
  · rw [List.drop_length, mergeI_nil, mergeI_nil]
    rfl
  · rw [drop_at hk, mergeI_cons, if_pos hle]
    rfl
theorem merge_second {X1 X2 P : List Len.Item} {i k : Nat} (hk : k < X2.length) (h : i = X1.length ∨ i < X1.length ∧ ¬ (X1.getD i (0, [])).1 ≤ (X2.getD k (0, [])).1) (hP : P ++ mergeI (X1.drop i) (X2.drop k) = mergeI X1 X2) :
    (P ++ [X2.getD k (0, [])]) ++ mergeI (X1.drop i) (X2.drop (k + 1)) = mergeI X1 X2 := by
  rw [← hP, List.append_assoc]
  congr 1
  rw [drop_at hk]
  rcases h with rfl | ⟨hi, hle⟩
  · rw [List.drop_length, nil_mergeI, nil_mergeI]
    rfl
  · rw [drop_at hi, mergeI_cons, if_neg hle]
    rfl

set_option maxHeartbeats 4000000 in
set_option maxRecDepth 100000 in
theorem refMerge_any (v1 v2 : Value) (b1 b2 : Nat) (X1 X2 : List Len.Item) (w : World) (h1 : ItL w b1 v1 X1) (h2 : ItL w b2 v2 X2) (l1 : X1.length ≤ 400) (l2 : X2.length ≤ 400) :
    Calls Try.prog 24 #[v1, v2] w fun e w' => ∃ v, e = .returned v ∧ ItL w' w.heap.size v (mergeI X1 X2) ∧ Ext w w' := by
  obtain ⟨A1, c1, rfl, _, _, f1⟩ := h1.form
  obtain ⟨A2, c2, rfl, _, _, f2⟩ := h2.form
  have F1 := hide f1
  have F2 := hide f2
  have HM := hide (fun (i k : Nat) (P : List Len.Item) a b c => merge_first (X1 := X1) (X2 := X2) (P := P) (i := i) (k := k) a b c)
  have HS := hide (fun (i k : Nat) (P : List Len.Item) a b c => merge_second (X1 := X1) (X2 := X2) (P := P) (i := i) (k := k) a b c)
  have H0 := hide (show [] ++ mergeI (X1.drop 0) (X2.drop 0) = mergeI X1 X2 by simp)
  have HE := hide (show ∀ P : List Len.Item, P ++ mergeI (X1.drop X1.length) (X2.drop X2.length) = mergeI X1 X2 → P = mergeI X1 X2 from fun P h => by rw [List.drop_length, List.drop_length, nil_mergeI, List.append_nil] at h; exact h)
  obtain ⟨n1, hn1⟩ : ∃ n, n = X1.length := ⟨_, rfl⟩
  obtain ⟨n2, hn2⟩ : ∃ n, n = X2.length := ⟨_, rfl⟩
  rw [← hn1] at l1 ⊢
  rw [← hn2] at l2 ⊢
  have HN1 := hide hn1
  have HN2 := hide hn2
  clear f1 f2 h1 h2 hn1 hn2
  generalize mergeI X1 X2 = res at *
  go_enter Try.func24, Try.ntmps24
  go_wp2_with fail
  go_loopw [5, 6, 7] (fun u a b wr => ∃ (i k : Nat) (P : List Len.Item), i ≤ n1 ∧ k ≤ n2 ∧ a = .int .i64 (i : Int) ∧ b = .int .i64 (k : Int) ∧ P.length = i + k ∧ P ++ mergeI (X1.drop i) (X2.drop k) = res ∧ ItL wr w.heap.size u P ∧ Ext w wr) (fun _ a b _ => n1 + n2 - ((intOf a).toNat + (intOf b).toNat))
  case atStart => exact ⟨0, 0, [], by omega, by omega, rfl, rfl, rfl, H0.out, ItL.nil _ _, Ext.refl _⟩
  case round =>
    obtain ⟨i, k, P, hi, hk, rfl, rfl, hPl, hP, hI, hE⟩ := hrel
    have HP := hide hP
    have hPl10 : P.length ≤ 1000 := by omega
    have HPl := hide hPl
    clear hP hPl
    by_cases hk2 : k = n2
    · subst hk2
      by_cases hi1 : i = n1
      · subst hi1
        have HR := hide (show P = res by
          have := HP.out
          have e1 := HN1.out
          have e2 := HN2.out
          rw [e1, e2] at this
          exact HE.out P this)
        have hx1 : ¬ ((i : Int) < (i : Int)) := by omega
        have hx2 : ¬ ((k : Int) < (k : Int)) := by omega
        go_wp2
        go_ret
        exact ⟨_, rfl, by rw [← HR.out]; exact hI, hE⟩
      · have hi2 : i < n1 := by omega
        obtain ⟨g, q, C, rfl, j1, j2, j3, j4⟩ := ((F1.out i (by rw [← HN1.out]; exact hi2)).ext hE).ex
        have HP2 := hide (HM.out i k P (by rw [← HN1.out]; exact hi2) (.inl HN2.out) HP.out)
        generalize X1.getD i (0, []) = it at *
        have hd1 : (i : Int) < (n1 : Int) := by omega
        have hq2 : ((k : Int) == (k : Int)) = true := by simp
        clear hi1
        go_wp2_with fail
        go_quiet (fail)
        have hEq : Ext wr (wr.drewN nq) := (Ext.refl wr).drewN nq
        generalize wr.drewN nq = w3 at hEq ⊢
        have hg : g < wr.heap.size := World.block_lt_of_cell? wr _ j1
        have j1' := (hEq.cell hg).trans j1
        have j2' := (hEq.cell hg).trans j2
        have hI3 := hI.ext hEq
        have hE3 := hE.trans hEq
        have hb3 := hE3.le
        clear j1 j2 hI
        go_wp2_with (at_builtin; refine wpList_appY rfl (.tmp 41) (.tmp 46) rfl rfl hI3 (j3.ext hEq) rfl hPl10 hb3 ?_; intro v5 w5 hI5 hG5 hN5)
        have hEa := extNew w3 (.cells #[.int .u64 ((it.1 : Nat) : Int), .slice q it.2.length C] 54)
        have hE5 : Ext w w5 := Below.grown (hE3.trans hEa) hG5 (hE3.trans hEa).le (fun k hk => (hI3.lt k hk).1)
        go_roundw
        case rel => exact ⟨i + 1, k, _, by omega, by omega, by go_num, rfl, by rw [List.length_append, HPl.out, List.length_singleton]; omega, HP2.out, hI5, hE5⟩
        case measure => simp [intOf]; omega
    · have hk3 : k < n2 := by omega
      have hkI : (k : Int) < (n2 : Int) := by omega
      have hq2 : ((k : Int) == (n2 : Int)) = false := by simp; omega
      obtain ⟨g2, q2, C2, rfl, m1, m2, m3, m4⟩ := ((F2.out k (by rw [← HN2.out]; exact hk3)).ext hE).ex
      by_cases hi1 : i = n1
      · subst hi1
        have HP2 := hide (HS.out i k P (by rw [← HN2.out]; exact hk3) (.inl HN1.out) HP.out)
        generalize X2.getD k (0, []) = it at *
        have hx1 : ¬ ((i : Int) < (i : Int)) := by omega
        have hd1 : decide ((i : Int) < (i : Int)) = false := decide_eq_false (by omega)
        clear hk2
        go_wp2_with fail
        go_quiet (fail)
        have hEq : Ext wr (wr.drewN nq) := (Ext.refl wr).drewN nq
        generalize wr.drewN nq = w3 at hEq ⊢
        have hg : g2 < wr.heap.size := World.block_lt_of_cell? wr _ m1
        have j1' := (hEq.cell hg).trans m1
        have j2' := (hEq.cell hg).trans m2
        have hI3 := hI.ext hEq
        have hE3 := hE.trans hEq
        have hb3 := hE3.le
        clear m1 m2 hI
        go_wp2_with (at_builtin; refine wpList_appY rfl (.tmp 50) (.tmp 55) rfl rfl hI3 (m3.ext hEq) rfl hPl10 hb3 ?_; intro v5 w5 hI5 hG5 hN5)
        have hEa := extNew w3 (.cells #[.int .u64 ((it.1 : Nat) : Int), .slice q2 it.2.length C2] 54)
        have hE5 : Ext w w5 := Below.grown (hE3.trans hEa) hG5 (hE3.trans hEa).le (fun k hk => (hI3.lt k hk).1)
        go_roundw
        case rel => exact ⟨i, k + 1, _, by omega, by omega, rfl, by go_num, by rw [List.length_append, HPl.out, List.length_singleton]; omega, HP2.out, hI5, hE5⟩
        case measure => simp [intOf]; omega
      · have hi2 : i < n1 := by omega
        have hd1 : (i : Int) < (n1 : Int) := by omega
        have hd1b : decide ((i : Int) < (n1 : Int)) = true := decide_eq_true hd1
        obtain ⟨g, q, C, rfl, j1, j2, j3, j4⟩ := ((F1.out i (by rw [← HN1.out]; exact hi2)).ext hE).ex
        by_cases hle : (X1.getD i (0, [])).1 ≤ (X2.getD k (0, [])).1
        · have HP2 := hide (HM.out i k P (by rw [← HN1.out]; exact hi2) (.inr ⟨by rw [← HN2.out]; exact hk3, hle⟩) HP.out)
          generalize X1.getD i (0, []) = it at *
          generalize X2.getD k (0, []) = it2 at *
          have hleI : ((it.1 : Nat) : Int) ≤ ((it2.1 : Nat) : Int) := by omega
          have hled : decide (((it.1 : Nat) : Int) ≤ ((it2.1 : Nat) : Int)) = true := decide_eq_true hleI
          clear hk2 hi1 hle
          go_wp2_with fail
          go_quiet (fail)
          have hEq : Ext wr (wr.drewN nq) := (Ext.refl wr).drewN nq
          generalize wr.drewN nq = w3 at hEq ⊢
          have hg : g < wr.heap.size := World.block_lt_of_cell? wr _ j1
          have j1' := (hEq.cell hg).trans j1
          have j2' := (hEq.cell hg).trans j2
          have hI3 := hI.ext hEq
          have hE3 := hE.trans hEq
          have hb3 := hE3.le
          clear j1 j2 hI m1 m2
          go_wp2_with (at_builtin; refine wpList_appY rfl (.tmp 41) (.tmp 46) rfl rfl hI3 (j3.ext hEq) rfl hPl10 hb3 ?_; intro v5 w5 hI5 hG5 hN5)
          have hEa := extNew w3 (.cells #[.int .u64 ((it.1 : Nat) : Int), .slice q it.2.length C] 54)
          have hE5 : Ext w w5 := Below.grown (hE3.trans hEa) hG5 (hE3.trans hEa).le (fun k hk => (hI3.lt k hk).1)
          go_roundw
          case rel => exact ⟨i + 1, k, _, by omega, by omega, by go_num, rfl, by rw [List.length_append, HPl.out, List.length_singleton]; omega, HP2.out, hI5, hE5⟩
          case measure => simp [intOf]; omega
        · have HP2 := hide (HS.out i k P (by rw [← HN2.out]; exact hk3) (.inr ⟨by rw [← HN1.out]; exact hi2, hle⟩) HP.out)
          generalize X1.getD i (0, []) = it1 at *
          generalize X2.getD k (0, []) = it at *
          have hled : decide (((it1.1 : Nat) : Int) ≤ ((it.1 : Nat) : Int)) = false := decide_eq_false (by omega)
          have hleN : decide (it1.1 ≤ it.1) = false := decide_eq_false hle
          clear hk2 hi1
          go_wp2_with fail
          go_quiet (fail)
          have hEq : Ext wr (wr.drewN nq) := (Ext.refl wr).drewN nq
          generalize wr.drewN nq = w3 at hEq ⊢
          have hg : g2 < wr.heap.size := World.block_lt_of_cell? wr _ m1
          have j1' := (hEq.cell hg).trans m1
          have j2' := (hEq.cell hg).trans m2
          have hI3 := hI.ext hEq
          have hE3 := hE.trans hEq
          have hb3 := hE3.le
          clear j1 j2 hI m1 m2
          go_wp2_with (at_builtin; refine wpList_appY rfl (.tmp 50) (.tmp 55) rfl rfl hI3 (m3.ext hEq) rfl hPl10 hb3 ?_; intro v5 w5 hI5 hG5 hN5)
          have hEa := extNew w3 (.cells #[.int .u64 ((it.1 : Nat) : Int), .slice q2 it.2.length C2] 54)
          have hE5 : Ext w w5 := Below.grown (hE3.trans hEa) hG5 (hE3.trans hEa).le (fun k hk => (hI3.lt k hk).1)
          go_roundw
          case rel => exact ⟨i, k + 1, _, by omega, by omega, rfl, by go_num, by rw [List.length_append, HPl.out, List.length_singleton]; omega, HP2.out, hI5, hE5⟩
          case measure => simp [intOf]; omega
end Go.Proofs.Ytijelijooecoeaa
