/- The program's May, mayAll, isBelow, below and Next; the library's slices.BinarySearch at numbers. -/
import Derived.Test.YtfkmcknkapplmaaSetPWalk
namespace Go.Proofs.Ytfkmcknkapplmaa
open Go.RowKit Sets

/-- The number ahead of a place. -/
def Sets.prv (L : List Int) (i : Nat) : Int := if i = 0 then -1 else L.getD (i - 1) 0
theorem Sets.prv_no {L : List Int} {i : Nat} (hi : i < L.length) (h : L.getD i 0 ≤ prv L i) : ok L = false := by
  unfold prv at h
  split at h
  · exact ok_no hi (.inl (by omega))
  · exact ok_no hi (.inr ⟨by omega, h⟩)
theorem Sets.prv_yes {L : List Int} (h : ∀ i, i < L.length → prv L i < L.getD i 0) : ok L = true := by
  have key : ∀ i, i < L.length → 0 ≤ L.getD i 0 := by
    intro i
    induction i with
    | zero => intro hi; have := h 0 hi; rw [show prv L 0 = -1 from rfl] at this; omega
    | succ i ih =>
      intro hi
      have h1 := ih (by omega)
      have h2 := h (i + 1) hi
      unfold prv at h2
      rw [if_neg (by omega), Nat.add_sub_cancel] at h2
      omega
  refine ok_of fun i hi => ⟨key i hi, fun h0 => ?_⟩
  have h2 := h i hi
  unfold prv at h2
  rwa [if_neg (by omega)] at h2

set_option maxHeartbeats 1000000 in
set_option maxRecDepth 10000 in
theorem pmay_any (A : Option Addr) (n c : Nat) (L : List Int) (w : World) (h : IntsAt w w.heap.size A n L) (hn : n ≤ 1000000) :
    Calls Try.prog 13 #[.slice A n c] w fun e w' => e = .returned (.bool (ok L)) ∧ w = w' := by
  have hl := h.1
  have HA := hide h
  have HYes := hide (show (∀ i, i < n → prv L i < L.getD i 0) → ok L = true from fun h => prv_yes (by rw [hl]; exact h))
  have HNo := hide (show ∀ i, i < n → L.getD i 0 ≤ prv L i → ok L = false from fun i hi h => prv_no (by omega) h)
  have H0 := hide (show prv L 0 = -1 from rfl)
  have HS := hide (show ∀ i, prv L (i + 1) = L.getD i 0 from fun i => by unfold prv; rw [if_neg (by omega), Nat.add_sub_cancel])
  generalize ok L = res at *
  clear h hl
  go_enter Try.func13, Try.ntmps13
  go_wp2
  go_loopw [8, 3] (fun x y wr => ∃ i : Nat, i ≤ n ∧ x = .int .i64 (i : Int) ∧ y = .int .i64 (prv L i) ∧ (∀ j, j < i → prv L j < L.getD j 0) ∧ wr = w) (fun x _ _ => n - (intOf x).toNat)
  case atStart => exact ⟨0, by omega, rfl, by rw [H0.out], fun j hj => absurd hj (by omega), rfl⟩
  case round =>
    obtain ⟨i, hi, rfl, rfl, hall, rfl⟩ := hrel
    have HAll := hide hall
    clear hall
    by_cases hlt : i < n
    · have hiI : (i : Int) < (n : Int) := by omega
      rcases HA.out.2 with hn0 | ⟨b1, o1, rfl, _, hc1⟩
      · omega
      have e1 := hc1 i hlt
      have HNi := hide (HNo.out i hlt)
      have HNext := hide (show prv L i < L.getD i 0 → ∀ j, j < i + 1 → prv L j < L.getD j 0 from fun h j hj => by
        by_cases e : j = i
        · rw [e]; exact h
        · exact HAll.out j (by omega))
      have HSi := hide (HS.out i)
      obtain ⟨y, hy⟩ : ∃ y, y = L.getD i 0 := ⟨_, rfl⟩
      obtain ⟨p, hp⟩ : ∃ p, p = prv L i := ⟨_, rfl⟩
      rw [← hy] at e1 HNi HNext HSi
      rw [← hp] at HNi HNext ⊢
      clear hc1 hy hp
      by_cases g1 : y ≤ p
      · have HR := hide (HNi.out g1)
        go_wp2
        go_ret
        exact ⟨ret_bool HR.out.symm, rfl⟩
      · have HNx := hide (HNext.out (by omega))
        go_wp2
        go_roundw
        case rel => exact ⟨i + 1, by omega, by go_num, by rw [HSi.out], HNx.out, trivial⟩
        case measure => simp [intOf]; omega
    · obtain rfl : n = i := by omega
      have HN := hide (HYes.out HAll.out)
      generalize prv L n = p at *
      go_wp2
      go_ret
      exact ⟨ret_bool HN.out.symm, rfl⟩

set_option maxHeartbeats 1000000 in
set_option maxRecDepth 10000 in
theorem pmayAll_any (A : Option Addr) (n c : Nat) (ls : List (List Int)) (w : World) (h : ILists w w.heap.size A n ls) (hn : n ≤ 1000000) (hs : ∀ l, l ∈ ls → l.length ≤ 1000000) :
    Calls Try.prog 27 #[.slice A n c] w fun e w' => e = .returned (.bool (all ls)) ∧ w = w' := by
  have hl := h.1
  have HA := hide h
  have HYes := hide (show (∀ i, i < n → ok (ls.getD i []) = true) → all ls = true from fun h => all_iff.2 (by rw [hl]; exact h))
  have HNo := hide (show ∀ i, i < n → ok (ls.getD i []) = false → all ls = false from fun i hi h => by
    cases ha : all ls with
    | false => rfl
    | true => rw [all_iff.1 ha i (by omega)] at h; cases h)
  have HLen := hide (show ∀ i, i < n → (ls.getD i []).length ≤ 1000000 from fun i hi => hs _ (by
    rw [List.getD_eq_getElem?_getD, List.getElem?_eq_getElem (by omega)]
    exact List.getElem_mem _))
  generalize all ls = res at *
  clear h hl hs
  go_enter Try.func27, Try.ntmps27
  go_wp2
  go_loopw [7] (fun x wr => ∃ i : Nat, i ≤ n ∧ x = .int .i64 (i : Int) ∧ (∀ j, j < i → ok (ls.getD j []) = true) ∧ wr = w) (fun x _ => n - (intOf x).toNat)
  case atStart => exact ⟨0, by omega, rfl, fun j hj => absurd hj (by omega), rfl⟩
  case round =>
    obtain ⟨i, hi, rfl, hall, rfl⟩ := hrel
    have HAll := hide hall
    clear hall
    by_cases hlt : i < n
    · have hiI : (i : Int) < (n : Int) := by omega
      obtain ⟨b1, o1, a1, c1, rfl, e1, _, _, hr⟩ := HA.out.at hlt
      have C := pmay_any a1 _ c1 _ wr hr (HLen.out i hlt)
      have HNi := hide (HNo.out i hlt)
      obtain ⟨l, hl⟩ : ∃ l, l = ls.getD i [] := ⟨_, rfl⟩
      rw [← hl] at e1 C HNi
      have HL := hide hl
      clear hr hl
      generalize l.length = m at *
      cases hk : ok l with
      | true =>
        rw [hk] at C
        have HK := hide hk
        clear hk HNi
        go_wp2_with fail
        refine C.mono ?_
        rintro e w2 ⟨rfl, rfl⟩
        clear C
        go_wp2
        go_roundw
        case rel => exact ⟨i + 1, by omega, by go_num, fun j hj => (by
          by_cases e : j = i
          · rw [e, ← HL.out]; exact HK.out
          · exact HAll.out j (by omega)), trivial⟩
        case measure => simp [intOf]; omega
      | false =>
        rw [hk] at C
        have HR := hide (HNi.out hk)
        clear hk HNi
        go_wp2_with fail
        refine C.mono ?_
        rintro e w2 ⟨rfl, rfl⟩
        clear C
        go_wp2
        go_ret
        exact ⟨ret_bool HR.out.symm, rfl⟩
    · obtain rfl : n = i := by omega
      have HN := hide (HYes.out HAll.out)
      go_wp2
      go_ret
      exact ⟨ret_bool HN.out.symm, rfl⟩

theorem Sets.below_iff {L : List Int} {bound : Int} (h : ok L = true) (h0 : 0 < L.length) : (L.all fun y => decide (y < bound)) = decide (L.getD (L.length - 1) 0 < bound) := by
  rw [Bool.eq_iff_iff, List.all_eq_true, decide_eq_true_iff]
  constructor
  · intro h2
    exact of_decide_eq_true (h2 _ (getD_mem (by omega)))
  · intro h2 y hy
    obtain ⟨i, hi, rfl⟩ := mem_getD hy
    have := ok_le h (show i ≤ L.length - 1 by omega) (by omega)
    exact decide_eq_true (by omega)
set_option maxHeartbeats 1000000 in
set_option maxRecDepth 10000 in
theorem isBelow_any (A : Option Addr) (n c : Nat) (L : List Int) (bound : Int) (w : World) (h : IntsAt w w.heap.size A n L) (hn : n ≤ 1000000) (hk : ok L = true) :
    Calls Try.prog 35 #[.int .i64 bound, .slice A n c] w fun e w' => e = .returned (.bool (L.all fun y => decide (y < bound))) ∧ w = w' := by
  have hl := h.1
  rcases h.2 with h0 | ⟨b1, o1, rfl, _, hc1⟩
  · subst h0
    obtain rfl : L = [] := List.eq_nil_of_length_eq_zero hl
    clear h
    go_enter Try.func35, Try.ntmps35
    go_wp2
    go_ret
    exact ⟨rfl, rfl⟩
  · rcases Nat.eq_zero_or_pos n with h0 | h0
    · subst h0
      obtain rfl : L = [] := List.eq_nil_of_length_eq_zero hl
      clear h hc1
      go_enter Try.func35, Try.ntmps35
      go_wp2
      go_ret
      exact ⟨rfl, rfl⟩
    · rw [below_iff hk (by omega), hl]
      obtain ⟨k, rfl⟩ : ∃ k, n = k + 1 := ⟨n - 1, by omega⟩
      have e1 := hc1 k (by omega)
      rw [Nat.add_sub_cancel]
      obtain ⟨y, hy⟩ : ∃ y, y = L.getD k 0 := ⟨_, rfl⟩
      rw [← hy] at e1 ⊢
      have hk1 : ((k + 1 : Nat) : Int) - 1 = (k : Int) := by omega
      have hb : (((k + 1 : Nat) : Int) == 0) = false := by rw [beq_eq_false_iff_ne]; omega
      have hbd : decide (y < bound) = decide (y < bound) := rfl
      clear h hc1 hl hk hy h0
      by_cases g : y < bound
      · have hd : decide (y < bound) = true := decide_eq_true g
        go_enter Try.func35, Try.ntmps35
        go_wp2
        go_ret
        exact ⟨rfl, rfl⟩
      · have hd : decide (y < bound) = false := decide_eq_false g
        go_enter Try.func35, Try.ntmps35
        go_wp2
        go_ret
        exact ⟨ret_bool (by rw [beq_eq_false_iff_ne]; omega), rfl⟩

set_option maxHeartbeats 1000000 in
set_option maxRecDepth 10000 in
theorem below_any (n : Nat) (w : World) (hn : n ≤ 20000) : Calls Try.prog 36 #[.int .i64 (n : Int)] w (MadeL w ((List.range n).map fun i : Nat => (i : Int))) := by
  have HSet := hide (show ∀ (i : Nat), i < n → ((List.range i).map (fun i : Nat => (i : Int)) ++ List.replicate (n - i) 0).set i (i : Int) = (List.range (i + 1)).map (fun i : Nat => (i : Int)) ++ List.replicate (n - (i + 1)) 0 from fun i hi => by
    rw [List.set_append_right _ _ (by simp), show n - i = (n - (i + 1)) + 1 by omega, List.replicate_succ]
    simp [List.range_succ])
  have H0 := hide (show (List.range 0).map (fun i : Nat => (i : Int)) ++ List.replicate (n - 0) 0 = List.replicate n 0 by simp)
  have HEnd := hide (show (List.range n).map (fun i : Nat => (i : Int)) ++ List.replicate (n - n) 0 = (List.range n).map (fun i : Nat => (i : Int)) by simp)
  have HLen := hide (show ∀ i, i ≤ n → ((List.range i).map (fun i : Nat => (i : Int)) ++ List.replicate (n - i) 0).length = n from fun i hi => by simp; omega)
  have HLe := hide (show ((List.range n).map (fun i : Nat => (i : Int))).length = n by simp)
  have hn6 : n ≤ 1000000 := by omega
  unfold MadeL
  go_enter Try.func36, Try.ntmps36
  go_wp2_with (refine wpList_makeN (n := n) rfl (.tmp 5) (.tmp 5) rfl rfl rfl hn6 ?_; intro w1 hO1 hE1)
  have HO1 := hide hO1
  have HE1 := hide hE1
  clear hO1 hE1
  go_loopw [9] (fun x wr => ∃ i : Nat, i ≤ n ∧ x = .int .i64 (i : Int) ∧ OwnI wr w.heap.size (.slice (some ⟨w.heap.size, 0, none⟩) n n) ((List.range i).map (fun i : Nat => (i : Int)) ++ List.replicate (n - i) 0) ∧ Ext w wr) (fun x _ => n - (intOf x).toNat)
  case atStart => exact ⟨0, by omega, rfl, by rw [H0.out]; exact HO1.out, HE1.out⟩
  case round =>
    clear HO1 HE1
    obtain ⟨i, hi, rfl, hO, hE⟩ := hrel
    by_cases hlt : i < n
    · have hiI : (i : Int) < (n : Int) := by omega
      have hc := hO.cell (i := i) (by rw [HLen.out i hi]; exact hlt)
      have hP := hO.put i (i : Int)
      rw [HSet.out i hlt] at hP
      obtain ⟨e1, e2⟩ := hc
      have HP := hide hP
      have HE := hide hE
      clear hP hO hE
      go_wp2
      go_roundw
      case rel => exact ⟨i + 1, by omega, by go_num, HP.out, Ext.setCell HE.out (Nat.le_refl _) _⟩
      case measure => simp [intOf]; omega
    · obtain rfl : n = i := by omega
      rw [HEnd.out] at hO
      have HO := hide hO
      have HE := hide hE
      clear hO hE
      go_wp2
      go_ret
      obtain ⟨A2, c2, q0, q1, q2, q3⟩ := HO.out.form2
      rw [q0]
      exact ⟨A2, c2, rfl, q1, q2, q3, HE.out⟩

theorem nanC_any (x : Int) (w : World) : Calls Try.prog 43 #[.int .i64 x] w fun e w' => e = .returned (.bool false) ∧ w = w' := by
  have hb : (x != x) = false := by simp
  go_enter Try.func43, Try.ntmps43
  go_wp2
  go_ret
  exact ⟨rfl, rfl⟩
theorem nanS_any (x : Int) (w : World) : Calls Try.prog 38 #[.int .i64 x] w fun e w' => e = .returned (.bool false) ∧ w = w' := by
  have hb : (x != x) = false := by simp
  go_enter Try.func38, Try.ntmps38
  go_wp2
  go_ret
  exact ⟨rfl, rfl⟩
theorem lessI_any (x y : Int) (w : World) : Calls Try.prog 37 #[.int .i64 x, .int .i64 y] w fun e w' => e = .returned (.bool (decide (x < y))) ∧ w = w' := by
  by_cases h : x < y
  · have hd : decide (x < y) = true := decide_eq_true h
    go_enter Try.func37, Try.ntmps37
    go_wp2_with (refine (nanC_any _ _).mono ?_; rintro e w' ⟨rfl, rfl⟩)
    go_ret
    exact ⟨by simp [h], rfl⟩
  · have hd : decide (x < y) = false := decide_eq_false h
    go_enter Try.func37, Try.ntmps37
    go_wp2_with (refine (nanC_any _ _).mono ?_; rintro e w' ⟨rfl, rfl⟩)
    go_ret
    exact ⟨by simp [h], rfl⟩

/-- What the search tells: how many are below N, and whether N comes next. -/
def FoundI (w : World) (T : List Int) (N : Int) (e : Ending) (w' : World) : Prop :=
  ∃ i, i ≤ T.length ∧ (∀ j, j < i → T.getD j 0 < N) ∧ (∀ j, i ≤ j → j < T.length → N ≤ T.getD j 0) ∧ e = .returned (.tuple #[.int .i64 (i : Int), .bool (decide (i < T.length ∧ T.getD i 0 = N))]) ∧ w = w'

set_option maxHeartbeats 1000000 in
theorem bsearchI_any {w : World} {B : Nat} {A : Option Addr} {c : Nat} {T : List Int} (h : IntsAt w B A T.length T) (hT : T.length ≤ 1000000) (hs : ∀ i j, i ≤ j → j < T.length → T.getD i 0 ≤ T.getD j 0) (N : Int) :
    Calls Try.prog 26 #[.slice A T.length c, .int .i64 N] w (FoundI w T N) := by
  have H := hide h.2
  have HS := hide hs
  clear h hs
  generalize hn : T.length = n at *
  have HN := hide hn
  clear hn
  go_enter Try.func26, Try.ntmps26
  go_wp2
  go_loop [7, 8] (fun i j => ∃ a b : Nat, i = .int .i64 (a : Int) ∧ j = .int .i64 (b : Int) ∧ a ≤ b ∧ b ≤ n ∧ (∀ t, t < a → T.getD t 0 < N) ∧ (∀ t, b ≤ t → t < n → N ≤ T.getD t 0)) (fun i j => (intOf j).toNat - (intOf i).toNat)
  case atStart => exact ⟨0, n, rfl, rfl, by omega, Nat.le_refl _, fun t ht => absurd ht (by omega), fun t h1 h2 => by omega⟩
  case round =>
    obtain ⟨a, b, rfl, rfl, hab, hbn, h1, h2⟩ := hrel
    have H1 := hide h1
    have H2 := hide h2
    clear h1 h2
    by_cases hlt : a < b
    · have hltI : (a : Int) < (b : Int) := by omega
      rcases H.out with h0 | ⟨bk, off, rfl, _, hc⟩
      · omega
      obtain ⟨k, hk⟩ : ∃ k, k = (a + b) / 2 := ⟨_, rfl⟩
      have hkb : k < b := by omega
      have hak : a ≤ k := by omega
      have e1 := hc k (by omega)
      have hkI : ((a : Int) + (b : Int)) / 2 = (k : Int) := by omega
      have hkn : k < n := by omega
      obtain ⟨x, hx⟩ : ∃ x, x = T.getD k 0 := ⟨_, rfl⟩
      rw [← hx] at e1
      have HX := hide hx
      clear hc hx hk
      by_cases hxn : x < N
      · have hd : decide (x < N) = true := by simpa using hxn
        have HR1 := hide (show ∀ t, t < k + 1 → T.getD t 0 < N from fun t ht => Int.lt_of_le_of_lt (HS.out t k (by omega) hkn) (by rw [← HX.out]; exact hxn))
        go_wp2_with (refine (lessI_any _ _ _).mono ?_; rintro e w' ⟨rfl, rfl⟩)
        go_round
        case rel => exact ⟨k + 1, b, by go_num, rfl, by omega, hbn, HR1.out, H2.out⟩
        case measure => simp [intOf]; omega
      · have hd : decide (x < N) = false := by simpa using hxn
        have HR2 := hide (show ∀ t, k ≤ t → t < n → N ≤ T.getD t 0 from fun t ht htn => Int.le_trans (by rw [← HX.out]; omega) (HS.out k t ht htn))
        go_wp2_with (refine (lessI_any _ _ _).mono ?_; rintro e w' ⟨rfl, rfl⟩)
        go_round
        case rel => exact ⟨a, k, rfl, rfl, by omega, by omega, H1.out, HR2.out⟩
        case measure => simp [intOf]; omega
    · obtain rfl : a = b := by omega
      have hnI : ¬ (a : Int) < (a : Int) := by omega
      by_cases han : a < n
      · have hanI : (a : Int) < (n : Int) := by omega
        rcases H.out with h0 | ⟨bk, off, rfl, _, hc⟩
        · omega
        have e1 := hc a han
        obtain ⟨x, hx⟩ : ∃ x, x = T.getD a 0 := ⟨_, rfl⟩
        rw [← hx] at e1
        have HX := hide hx
        clear hc hx
        by_cases hxn : x = N
        · have hxb : (x == N) = true := by simp [hxn]
          have HXN := hide hxn
          clear hxn
          go_wp2
          go_ret2
          exact ⟨a, by rw [HN.out]; omega, H1.out, fun j h1 h2 => H2.out j h1 (by rw [HN.out] at h2; exact h2), (congrArg (fun z => Ending.returned (.tuple #[.int .i64 (a : Int), .bool z])) (decide_eq_true ⟨by rw [HN.out]; exact han, by rw [← HX.out, HXN.out]⟩).symm), rfl⟩
        · have hxb : (x == N) = false := by rw [beq_eq_false_iff_ne]; omega
          go_wp2_with (refine (nanS_any _ _).mono ?_; rintro e w' ⟨rfl, rfl⟩)
          go_ret2
          exact ⟨a, by rw [HN.out]; omega, H1.out, fun j h1 h2 => H2.out j h1 (by rw [HN.out] at h2; exact h2), (congrArg (fun z => Ending.returned (.tuple #[.int .i64 (a : Int), .bool z])) (decide_eq_false (by rw [← HX.out]; exact fun h => hxn h.2)).symm), rfl⟩
      · have hanI : ¬ (a : Int) < (n : Int) := by omega
        go_wp2
        go_ret2
        exact ⟨a, by rw [HN.out]; omega, H1.out, fun j h1 h2 => H2.out j h1 (by rw [HN.out] at h2; exact h2), (congrArg (fun z => Ending.returned (.tuple #[.int .i64 (a : Int), .bool z])) (decide_eq_false (by rw [HN.out]; exact fun h => han h.1)).symm), rfl⟩

set_option maxHeartbeats 1000000 in
set_option maxRecDepth 10000 in
theorem pnext_any (A : Option Addr) (n c : Nat) (L : List Int) (x : Int) (w : World) (h : IntsAt w w.heap.size A n L) (hn : n ≤ 1000000) :
    Calls Try.prog 11 #[.slice A n c, .int .i64 x] w fun e w' => e = .returned (.tuple #[.int .i64 (nextE L x).1, .bool (nextE L x).2]) ∧ w = w' := by
  have C := pmay_any A n c L w h hn
  have hl := h.1
  cases hk : ok L with
  | false =>
    have HN := hide (next_bad (x := x) hk)
    rw [hk] at C
    generalize nextE L x = res at *
    clear h hk hl
    go_enter Try.func11, Try.ntmps11
    go_wp2_with fail
    refine C.mono ?_
    rintro e w2 ⟨rfl, rfl⟩
    clear C
    go_wp2
    go_ret2
    rw [HN.out]
    exact ⟨rfl, rfl⟩
  | true =>
    subst hl
    have HAt := hide (fun (i : Nat) (hi : i < L.length) h ha => next_at (l := L) (x := x) (i := i) hk hi h ha)
    have HNone := hide (fun (ha : ∀ j, j < L.length → L.getD j 0 < x) => next_none (l := L) (x := x) ha)
    have CS := bsearchI_any (c := c) h hn (fun i j hij hj => ok_le hk hij hj) x
    unfold FoundI at CS
    rw [hk] at C
    generalize nextE L x = res at *
    obtain ⟨m, hm⟩ : ∃ m, m = L.length := ⟨_, rfl⟩
    rw [← hm] at C CS HAt HNone ⊢
    clear h hk hm hn
    go_enter Try.func11, Try.ntmps11
    go_wp2_with fail
    refine C.mono ?_
    rintro e w2 ⟨rfl, rfl⟩
    clear C
    go_wp2_with fail
    refine CS.mono ?_
    rintro e w2 ⟨i, hi, h1, h2, rfl, rfl⟩
    clear CS
    have H1 := hide h1
    have H2 := hide h2
    clear h1 h2
    by_cases g : i = m
    · have hb : ((i : Int) == (m : Int)) = true := by simp [g]
      have HR := hide (HNone.out (by rw [← g]; exact H1.out))
      generalize decide (i < m ∧ L.getD i 0 = x) = t at *
      clear g
      go_wp2
      go_ret2
      rw [HR.out]
      exact ⟨rfl, rfl⟩
    · have hb : ((i : Int) == (m : Int)) = false := by rw [beq_eq_false_iff_ne]; omega
      have HR := hide (HAt.out i (by omega) (H2.out i (Nat.le_refl _) (by omega)) H1.out)
      generalize decide (i < m ∧ L.getD i 0 = x) = t at *
      go_wp2
      go_ret2
      rw [HR.out]
      exact ⟨rfl, rfl⟩
end Go.Proofs.Ytfkmcknkapplmaa
