/- The document's functions of chapter 14: May, Has, all, Next. -/
import Derived.Test.YtfkmcknkapplmaaSetVal
import Derived.BigQuiet
import Derived.OwnWalk
namespace Go.Proofs.Ytfkmcknkapplmaa
open Go.RowKit Sets

set_option maxHeartbeats 1000000 in
set_option maxRecDepth 10000 in
theorem refSMay_any (A : Option Addr) (n c : Nat) (L : List Int) (w : World) (h : IntsAt w w.heap.size A n L) (hn : n ≤ 1000000) :
    Calls Try.prog 14 #[.slice A n c] w fun e w' => e = .returned (.bool (ok L)) ∧ Qt w w' := by
  have hl := h.1
  have HA := hide h
  have HYes := hide (show (∀ i, i < n → 0 ≤ L.getD i 0 ∧ (0 < i → L.getD (i - 1) 0 < L.getD i 0)) → ok L = true from fun h => ok_of (by rw [hl]; exact h))
  have HNo := hide (show ∀ i, i < n → (L.getD i 0 < 0 ∨ (0 < i ∧ L.getD i 0 ≤ L.getD (i - 1) 0)) → ok L = false from fun i hi h => ok_no (by omega) h)
  generalize ok L = res at *
  clear h hl
  go_enter Try.func14, Try.ntmps14
  go_wp2
  go_loopw [3] (fun x wr => ∃ i : Nat, i ≤ n ∧ x = .int .i64 (i : Int) ∧ (∀ j, j < i → 0 ≤ L.getD j 0 ∧ (0 < j → L.getD (j - 1) 0 < L.getD j 0)) ∧ Qt w wr) (fun x _ => n - (intOf x).toNat)
  case atStart => exact ⟨0, by omega, rfl, fun j hj => absurd hj (by omega), Qt.refl _⟩
  case round =>
    obtain ⟨i, hi, rfl, hall, hQ⟩ := hrel
    have HAll := hide hall
    clear hall
    by_cases hlt : i < n
    · have hiI : (i : Int) < (n : Int) := by omega
      rcases (HA.out.later hQ.ext).2 with hn0 | ⟨b1, o1, rfl, _, hc1⟩
      · omega
      have e1 := hc1 i hlt
      have HNi := hide (HNo.out i hlt)
      have HNext := hide (show (0 ≤ L.getD i 0 ∧ (0 < i → L.getD (i - 1) 0 < L.getD i 0)) → ∀ j, j < i + 1 → 0 ≤ L.getD j 0 ∧ (0 < j → L.getD (j - 1) 0 < L.getD j 0) from fun h j hj => by
        by_cases e : j = i
        · rw [e]; exact h
        · exact HAll.out j (by omega))
      rcases Nat.eq_zero_or_pos i with hi0 | hi0
      · obtain ⟨y, hy⟩ : ∃ y, y = L.getD i 0 := ⟨_, rfl⟩
        rw [← hy] at e1 HNi HNext
        have hd0 : decide ((0 : Int) < (i : Int)) = false := decide_eq_false (by omega)
        have hdn : decide (0 < i) = false := decide_eq_false (by omega)
        have HI0 := hide hi0
        clear hc1 hy hi0
        by_cases g1 : y < 0
        · have hd1 : decide (y < 0) = true := decide_eq_true g1
          have HR := hide (HNi.out (.inl g1))
          clear HNext HNi
          go_wp2_with fail
          go_quiet (fail)
          go_wp2
          go_ret
          exact ⟨ret_bool HR.out.symm, hQ.drewN _⟩
        have hd1 : decide (y < 0) = false := decide_eq_false g1
        have hNx := hide (HNext.out ⟨by omega, fun h => absurd h (by have := HI0.out; omega)⟩)
        clear HNext HNi
        go_wp2_with fail
        go_quiet (fail)
        go_wp2
        go_roundw
        case rel => exact ⟨i + 1, by omega, by go_num, hNx.out, hQ.drewN _⟩
        case measure => simp [intOf]; omega
      · obtain ⟨k, rfl⟩ : ∃ k, i = k + 1 := ⟨i - 1, by omega⟩
        have e2 := hc1 k (by omega)
        rw [Nat.add_sub_cancel] at HNi HNext
        obtain ⟨y, hy⟩ : ∃ y, y = L.getD (k + 1) 0 := ⟨_, rfl⟩
        obtain ⟨z, hz⟩ : ∃ z, z = L.getD k 0 := ⟨_, rfl⟩
        rw [← hy] at e1 HNi HNext
        rw [← hz] at e2 HNi HNext
        have hk : ((k + 1 : Nat) : Int) - 1 = (k : Int) := by omega
        have hk0 : (0 : Int) < ((k + 1 : Nat) : Int) := by omega
        have hd0 : decide ((0 : Int) < ((k + 1 : Nat) : Int)) = true := decide_eq_true hk0
        clear hc1 hy hz
        by_cases g1 : y < 0
        · have hd1 : decide (y < 0) = true := decide_eq_true g1
          have HR := hide (HNi.out (.inl g1))
          clear HNext HNi
          go_wp2_with fail
          go_quiet (fail)
          go_wp2
          go_ret
          exact ⟨ret_bool HR.out.symm, hQ.drewN _⟩
        have hd1 : decide (y < 0) = false := decide_eq_false g1
        by_cases g3 : z < y
        · have hg3 : ¬ y ≤ z := by omega
          have hd3 : decide (y ≤ z) = false := decide_eq_false hg3
          have hNx := hide (HNext.out ⟨by omega, fun _ => g3⟩)
          clear HNext HNi
          go_wp2_with fail
          go_quiet (fail)
          go_wp2
          go_roundw
          case rel => exact ⟨k + 1 + 1, by omega, by go_num, hNx.out, hQ.drewN _⟩
          case measure => simp [intOf]; omega
        · have hg3 : y ≤ z := by omega
          have hd3 : decide (y ≤ z) = true := decide_eq_true hg3
          have HR := hide (HNi.out (.inr ⟨by omega, hg3⟩))
          clear HNext HNi
          go_wp2_with fail
          go_quiet (fail)
          go_wp2
          go_ret
          exact ⟨ret_bool HR.out.symm, hQ.drewN _⟩
    · obtain rfl : n = i := by omega
      have HN := hide (HYes.out HAll.out)
      go_wp2
      go_ret
      exact ⟨ret_bool HN.out.symm, hQ⟩

set_option maxHeartbeats 1000000 in
set_option maxRecDepth 10000 in
theorem refSHas_any (A : Option Addr) (n c : Nat) (L : List Int) (x : Int) (w : World) (h : IntsAt w w.heap.size A n L) (hn : n ≤ 1000000) :
    Calls Try.prog 25 #[.slice A n c, .int .i64 x] w fun e w' => e = .returned (.bool (has L x)) ∧ w = w' := by
  have hl := h.1
  have HA := hide h
  have HYes := hide (show ∀ i, i < n → L.getD i 0 = x → has L x = true from fun i hi e => has_iff.2 (e ▸ getD_mem (by omega)))
  have HNo := hide (show (∀ i, i < n → L.getD i 0 ≠ x) → has L x = false from fun h => decide_eq_false fun hm => by
    obtain ⟨i, hi, e⟩ := mem_getD hm
    exact h i (by omega) e)
  generalize has L x = res at *
  clear h hl
  go_enter Try.func25, Try.ntmps25
  go_wp2
  go_loopw [5] (fun y wr => ∃ i : Nat, i ≤ n ∧ y = .int .i64 (i : Int) ∧ (∀ j, j < i → L.getD j 0 ≠ x) ∧ wr = w) (fun y _ => n - (intOf y).toNat)
  case atStart => exact ⟨0, by omega, rfl, fun j hj => absurd hj (by omega), rfl⟩
  case round =>
    obtain ⟨i, hi, rfl, hall, rfl⟩ := hrel
    have HAll := hide hall
    clear hall
    by_cases hlt : i < n
    · have hiI : (i : Int) < (n : Int) := by omega
      rcases HA.out.2 with hn0 | ⟨b1, o1, rfl, _, hc1⟩
      · omega
      have e1 := hc1 i hlt
      have HYi := hide (HYes.out i hlt)
      obtain ⟨y, hy⟩ : ∃ y, y = L.getD i 0 := ⟨_, rfl⟩
      rw [← hy] at e1 HYi
      have HY := hide hy
      clear hc1 hy
      by_cases g : y = x
      · have HR := hide (HYi.out g)
        have hb : (y == x) = true := by simpa using g
        clear HYi g
        go_wp2
        go_ret
        exact ⟨ret_bool HR.out.symm, rfl⟩
      · have hb : (y == x) = false := by simpa using g
        have HG := hide g
        clear HYi g
        go_wp2
        go_roundw
        case rel => exact ⟨i + 1, by omega, by go_num, fun j hj => (by
          by_cases e : j = i
          · rw [e, ← HY.out]; exact HG.out
          · exact HAll.out j (by omega)), trivial⟩
        case measure => simp [intOf]; omega
    · obtain rfl : n = i := by omega
      have HN := hide (HNo.out HAll.out)
      go_wp2
      go_ret
      exact ⟨ret_bool HN.out.symm, rfl⟩

theorem Sets.all_iff {ls : List (List Int)} : all ls = true ↔ ∀ i, i < ls.length → ok (ls.getD i []) = true := by
  unfold all
  rw [List.all_eq_true]
  constructor
  · intro h i hi
    rw [List.getD_eq_getElem?_getD, List.getElem?_eq_getElem hi]
    exact h _ (List.getElem_mem hi)
  · intro h l hl
    obtain ⟨i, hi, rfl⟩ := List.getElem_of_mem hl
    have := h i hi
    rw [List.getD_eq_getElem?_getD, List.getElem?_eq_getElem hi] at this
    exact this

set_option maxHeartbeats 1000000 in
set_option maxRecDepth 10000 in
theorem refSAll_any (A : Option Addr) (n c : Nat) (ls : List (List Int)) (w : World) (h : ILists w w.heap.size A n ls) (hn : n ≤ 1000000) (hs : ∀ l, l ∈ ls → l.length ≤ 1000000) :
    Calls Try.prog 31 #[.slice A n c] w fun e w' => e = .returned (.bool (all ls)) ∧ Ext w w' := by
  have hl := h.1
  have HA := hide h
  have HYes := hide (show (∀ i, i < n → ok (ls.getD i []) = true) → all ls = true from fun h => all_iff.2 (by rw [hl]; exact h))
  have HNo := hide (show ∀ i, i < n → ok (ls.getD i []) = false → all ls = false from fun i hi h => by
    cases ha : all ls with
    | false => rfl
    | true => rw [all_iff.1 ha i (by omega)] at h; cases h)
  have HLen := hide (show ∀ i, i < n → (ls.getD i []).length ≤ 1000000 from fun i hi => hs _ (by
    rw [List.getD_eq_getElem?_getD, List.getElem?_eq_getElem (by omega)]
    exact List.getElem_mem _))
  generalize all ls = res at *
  clear h hl hs
  go_enter Try.func31, Try.ntmps31
  go_wp2
  go_loopw [3] (fun x wr => ∃ i : Nat, i ≤ n ∧ x = .int .i64 (i : Int) ∧ (∀ j, j < i → ok (ls.getD j []) = true) ∧ Ext w wr) (fun x _ => n - (intOf x).toNat)
  case atStart => exact ⟨0, by omega, rfl, fun j hj => absurd hj (by omega), Ext.refl _⟩
  case round =>
    obtain ⟨i, hi, rfl, hall, hE⟩ := hrel
    have HAll := hide hall
    clear hall
    by_cases hlt : i < n
    · have hiI : (i : Int) < (n : Int) := by omega
      obtain ⟨b1, o1, a1, c1, rfl, e1, _, _, hr⟩ := (HA.out.ext hE).at hlt
      have C := refSMay_any a1 _ c1 _ wr hr (HLen.out i hlt)
      have HNi := hide (HNo.out i hlt)
      obtain ⟨l, hl⟩ : ∃ l, l = ls.getD i [] := ⟨_, rfl⟩
      rw [← hl] at e1 C HNi
      have HL := hide hl
      clear hr hl
      generalize l.length = m at *
      cases hk : ok l with
      | true =>
        rw [hk] at C
        have HK := hide hk
        clear hk HNi
        go_wp2_with fail
        refine C.mono ?_
        rintro e w2 ⟨rfl, hQ2⟩
        clear C
        go_wp2
        go_roundw
        case rel => exact ⟨i + 1, by omega, by go_num, fun j hj => (by
          by_cases e : j = i
          · rw [e, ← HL.out]; exact HK.out
          · exact HAll.out j (by omega)), hE.trans hQ2.ext⟩
        case measure => simp [intOf]; omega
      | false =>
        rw [hk] at C
        have HR := hide (HNi.out hk)
        clear hk HNi
        go_wp2_with fail
        refine C.mono ?_
        rintro e w2 ⟨rfl, hQ2⟩
        clear C
        go_wp2
        go_ret
        exact ⟨ret_bool HR.out.symm, hE.trans hQ2.ext⟩
    · obtain rfl : n = i := by omega
      have HN := hide (HYes.out HAll.out)
      go_wp2
      go_ret
      exact ⟨ret_bool HN.out.symm, hE⟩

theorem Sets.find_first {p : Nat → Bool} : ∀ {n i : Nat}, i < n → p i = true → (∀ j, j < i → p j = false) → (List.range n).find? p = some i
  | 0, i, h, _, _ => by omega
  | n + 1, i, h, hp, ha => by
    rw [List.range_succ, List.find?_append]
    rcases Nat.lt_or_ge i n with hi | hi
    · rw [find_first hi hp ha]; rfl
    · obtain rfl : i = n := by omega
      have : (List.range i).find? p = none := List.find?_eq_none.2 fun j hj => by rw [ha j (List.mem_range.1 hj)]; simp
      rw [this]
      simp [hp]
theorem Sets.next_at {l : List Int} {x : Int} {i : Nat} (hk : ok l = true) (hi : i < l.length) (h : x ≤ l.getD i 0) (ha : ∀ j, j < i → l.getD j 0 < x) : nextE l x = ((i : Int), true) := by
  unfold nextE
  have e : (List.range l.length).find? (fun i => decide (x ≤ l.getD i 0)) = some i := find_first hi (decide_eq_true h) fun j hj => decide_eq_false (by have := ha j hj; omega)
  rw [hk, if_neg (by simp), e]
theorem Sets.next_none {l : List Int} {x : Int} (ha : ∀ j, j < l.length → l.getD j 0 < x) : nextE l x = (0, false) := by
  unfold nextE
  have : (List.range l.length).find? (fun i => decide (x ≤ l.getD i 0)) = none := List.find?_eq_none.2 fun j hj => by
    have := ha j (List.mem_range.1 hj)
    rw [decide_eq_false (by omega)]
    simp
  rw [this]
  split <;> rfl
theorem Sets.next_bad {l : List Int} {x : Int} (hk : ok l = false) : nextE l x = (0, false) := by unfold nextE; rw [if_pos hk]

set_option maxHeartbeats 1000000 in
set_option maxRecDepth 10000 in
theorem refSNext_any (A : Option Addr) (n c : Nat) (L : List Int) (x : Int) (w : World) (h : IntsAt w w.heap.size A n L) (hn : n ≤ 1000000) :
    Calls Try.prog 12 #[.slice A n c, .int .i64 x] w fun e w' => e = .returned (.tuple #[.int .i64 (nextE L x).1, .bool (nextE L x).2]) ∧ Ext w w' := by
  have C := refSMay_any A n c L w h hn
  have hl := h.1
  have HA := hide h
  cases hk : ok L with
  | false =>
    have HN := hide (next_bad (x := x) hk)
    rw [hk] at C
    generalize nextE L x = res at *
    clear h hk hl
    go_enter Try.func12, Try.ntmps12
    go_wp2_with fail
    refine C.mono ?_
    rintro e w2 ⟨rfl, hQ⟩
    clear C
    go_wp2
    go_ret2
    rw [HN.out]
    exact ⟨rfl, hQ.ext⟩
  | true =>
    have HAt := hide (fun (i : Nat) (hi : i < n) h ha => next_at (l := L) (x := x) (i := i) hk (by omega) h ha)
    have HNone := hide (fun (ha : ∀ j, j < n → L.getD j 0 < x) => next_none (l := L) (x := x) (fun j hj => ha j (by omega)))
    rw [hk] at C
    generalize nextE L x = res at *
    clear h hk hl
    go_enter Try.func12, Try.ntmps12
    go_wp2_with fail
    refine C.mono ?_
    rintro e w2 ⟨rfl, hQ⟩
    clear C
    go_wp2
    go_loopw [6] (fun y wr => ∃ i : Nat, i ≤ n ∧ y = .int .i64 (i : Int) ∧ (∀ j, j < i → L.getD j 0 < x) ∧ Qt w wr) (fun y _ => n - (intOf y).toNat)
    case atStart => exact ⟨0, by omega, rfl, fun j hj => absurd hj (by omega), hQ⟩
    case round =>
      clear hQ
      obtain ⟨i, hi, rfl, hall, hQ⟩ := hrel
      have HAll := hide hall
      clear hall
      by_cases hlt : i < n
      · have hiI : (i : Int) < (n : Int) := by omega
        rcases (HA.out.later hQ.ext).2 with hn0 | ⟨b1, o1, rfl, _, hc1⟩
        · omega
        have e1 := hc1 i hlt
        have HNi := hide (HAt.out i hlt)
        obtain ⟨y, hy⟩ : ∃ y, y = L.getD i 0 := ⟨_, rfl⟩
        rw [← hy] at e1 HNi
        have HY := hide hy
        clear hc1 hy
        by_cases g : x ≤ y
        · have HR := hide (HNi.out g HAll.out)
          clear HNi HNone HAt
          go_wp2
          go_ret2
          rw [HR.out]
          exact ⟨rfl, hQ.ext⟩
        · clear HNi
          go_wp2
          go_roundw
          case rel => exact ⟨i + 1, by omega, by go_num, fun j hj => (by
            by_cases e : j = i
            · rw [e, ← HY.out]; omega
            · exact HAll.out j (by omega)), hQ⟩
          case measure => simp [intOf]; omega
      · obtain rfl : n = i := by omega
        have HN := hide (HNone.out HAll.out)
        clear HNone HAt
        go_wp2
        go_ret2
        rw [HN.out]
        exact ⟨rfl, hQ.ext⟩
end Go.Proofs.Ytfkmcknkapplmaa
