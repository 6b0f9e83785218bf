/- What the laws of chapter 14 ask of the program; the example; SetsMay, SetsBoth, SetsAny, SetsLess, SetsRest. -/
import Derived.Test.YtfkmcknkapplmaaSetRefD
import Derived.Test.YtfkmcknkapplmaaSame9
namespace Go.Proofs.Ytfkmcknkapplmaa
open Go.RowKit Sets

/-- From world w on, the program's functions tell what the document's tell. -/
def SMayC (w : World) : Prop := ∀ (l : List Int) (A : Option Addr) (n c : Nat) (W : World), Ext w W → n ≤ c → c ≤ maxLen → n ≤ 20000 → IntsAt W W.heap.size A n l → Calls Try.prog 13 #[.slice A n c] W fun e w' => e = .returned (.bool (ok l)) ∧ Ext W w'
def SNextC (w : World) : Prop := ∀ (l : List Int) (x : Int) (A : Option Addr) (n c : Nat) (W : World), Ext w W → (-9223372036854775808 ≤ x ∧ x ≤ 9223372036854775807) → n ≤ c → c ≤ maxLen → n ≤ 20000 → IntsAt W W.heap.size A n l → Calls Try.prog 11 #[.slice A n c, .int .i64 x] W fun e w' => e = .returned (.tuple #[.int .i64 (nextE l x).1, .bool (nextE l x).2]) ∧ Ext W w'
def SBothC (w : World) : Prop := ∀ (ls : List (List Int)) (A : Option Addr) (n c : Nat) (W : World), Ext w W → n ≤ c → c ≤ maxLen → n ≤ 12 → (∀ l, l ∈ ls → l.length ≤ 20000) → ILists W W.heap.size A n ls → Calls Try.prog 16 #[.slice A n c] W (MadeS W (bothE ls))
def SAnyC (w : World) : Prop := ∀ (ls : List (List Int)) (A : Option Addr) (n c : Nat) (W : World), Ext w W → n ≤ c → c ≤ maxLen → n ≤ 12 → (∀ l, l ∈ ls → l.length ≤ 20000) → ILists W W.heap.size A n ls → Calls Try.prog 19 #[.slice A n c] W (MadeS W (anyE ls))
def SLessC (w : World) : Prop := ∀ (a : List Int) (ls : List (List Int)) (A1 A : Option Addr) (n1 c1 n c : Nat) (W : World), Ext w W → n1 ≤ c1 → c1 ≤ maxLen → n1 ≤ 20000 → IntsAt W W.heap.size A1 n1 a → n ≤ c → c ≤ maxLen → n ≤ 12 → (∀ l, l ∈ ls → l.length ≤ 20000) → ILists W W.heap.size A n ls → Calls Try.prog 21 #[.slice A1 n1 c1, .slice A n c] W (MadeS W (lessE a ls))
def SRestC (w : World) : Prop := ∀ (bound : Int) (l : List Int) (A : Option Addr) (n c : Nat) (W : World), Ext w W → (-9223372036854775808 ≤ bound ∧ bound ≤ 9223372036854775807) → n ≤ c → c ≤ maxLen → n ≤ 20000 → IntsAt W W.heap.size A n l → Calls Try.prog 23 #[.int .i64 bound, .slice A n c] W (MadeS W (restE bound l))

theorem Sets.bothE_len (ls : List (List Int)) (m : Nat) (h : ∀ l, l ∈ ls → l.length ≤ m) : (bothE ls).1.length ≤ m := by
  unfold bothE
  split
  · simp
  · rename_i hc
    show (bothL ls).length ≤ m
    unfold bothL
    refine Nat.le_trans (List.length_filter_le _ _) ?_
    have h0 : 0 < ls.length := by
      rcases Nat.eq_zero_or_pos ls.length with e | e
      · exact absurd (.inl e) hc
      · exact e
    refine h _ ?_
    rw [List.getD_eq_getElem?_getD, List.getElem?_eq_getElem h0]
    exact List.getElem_mem _
theorem Sets.anyE_len (ls : List (List Int)) (m : Nat) (h : ∀ l, l ∈ ls → l.length ≤ m) : (anyE ls).1.length ≤ ls.length * m := by
  unfold anyE
  split
  · simp
  · exact any_len ls m h
theorem Sets.lessE_len (a : List Int) (ls : List (List Int)) : (lessE a ls).1.length ≤ a.length := by
  unfold lessE
  split
  · simp
  · exact List.length_filter_le _ _
theorem Sets.restE_len (bound : Int) (l : List Int) : (restE bound l).1.length ≤ 20000 := by
  unfold restE
  split
  · rename_i hc
    have := rest_len bound.toNat l
    show (restL bound.toNat l).length ≤ 20000
    omega
  · simp
theorem ilists_two (w : World) {c1 c2 : Nat} {A1 A2 : Option Addr} {a b : List Int} (t : TypeId) (m1 : a.length ≤ c1) (k1 : c1 ≤ maxLen) (m2 : b.length ≤ c2) (k2 : c2 ≤ maxLen) (h1 : IntsAt w w.heap.size A1 a.length a) (h2 : IntsAt w w.heap.size A2 b.length b) :
    ILists (w.alloc (.cells #[.slice A1 a.length c1, .slice A2 b.length c2] t)) (w.alloc (.cells #[.slice A1 a.length c1, .slice A2 b.length c2] t)).heap.size (some ⟨w.heap.size, 0, none⟩) 2 [a, b] := by
  have hE := extNew w (.cells #[.slice A1 a.length c1, .slice A2 b.length c2] t)
  have hW := Whole.new w t #[.slice A1 a.length c1, .slice A2 b.length c2]
  refine ⟨rfl, .inr ⟨w.heap.size, 0, rfl, by simp, fun i hi => ?_⟩⟩
  rcases (by omega : i = 0 ∨ i = 1) with rfl | rfl
  · exact ⟨_, hW.at 0 rfl, A1, c1, rfl, m1, k1, h1.later hE⟩
  · exact ⟨_, hW.at 1 rfl, A2, c2, rfl, m2, k2, h2.later hE⟩
theorem ilists_one (w : World) {c1 : Nat} {A1 : Option Addr} {a : List Int} (t : TypeId) (m1 : a.length ≤ c1) (k1 : c1 ≤ maxLen) (h1 : IntsAt w w.heap.size A1 a.length a) :
    ILists (w.alloc (.cells #[.slice A1 a.length c1] t)) (w.alloc (.cells #[.slice A1 a.length c1] t)).heap.size (some ⟨w.heap.size, 0, none⟩) 1 [a] := by
  have hE := extNew w (.cells #[.slice A1 a.length c1] t)
  have hW := Whole.new w t #[.slice A1 a.length c1]
  refine ⟨rfl, .inr ⟨w.heap.size, 0, rfl, by simp, fun i hi => ?_⟩⟩
  obtain rfl : i = 0 := by omega
  exact ⟨_, hW.at 0 rfl, A1, c1, rfl, m1, k1, h1.later hE⟩

theorem Sets.example : bothE [[1, 3, 5], [3, 4, 5]] = ([3, 5], 0) := by decide +kernel

set_option maxHeartbeats 2000000 in
set_option maxRecDepth 10000 in
theorem alive14_any {w W : World} (hB : SBothC w) (hE : Ext w W) : Calls Try.prog 10 #[] W fun e W' => e = .returned (.bool true) ∧ Ext W W' := by
  have hE1 := extNew W (.cells #[.int .i64 1, .int .i64 3, .int .i64 5] 3)
  have hL1 := intsNew W [1, 3, 5] #[.int .i64 1, .int .i64 3, .int .i64 5] 3 (0, 0) rfl 3 rfl
  obtain ⟨w1, hw1⟩ : ∃ x, x = W.alloc (.cells #[.int .i64 1, .int .i64 3, .int .i64 5] 3) := ⟨_, rfl⟩
  rw [← hw1] at hE1 hL1
  have hE2 := extNew w1 (.cells #[.int .i64 3, .int .i64 4, .int .i64 5] 3)
  have hL2 := intsNew w1 [3, 4, 5] #[.int .i64 3, .int .i64 4, .int .i64 5] 3 (0, 0) rfl 3 rfl
  obtain ⟨w2, hw2⟩ : ∃ x, x = w1.alloc (.cells #[.int .i64 3, .int .i64 4, .int .i64 5] 3) := ⟨_, rfl⟩
  rw [← hw2] at hE2 hL2
  have hP := ilists_two w2 (c1 := 3) (c2 := 3) (a := [1, 3, 5]) (b := [3, 4, 5]) 22 (by simp) (by unfold maxLen; omega) (by simp) (by unfold maxLen; omega) (hL1.later hE2) hL2
  have hE3 := extNew w2 (.cells #[.slice (some ⟨W.heap.size, 0, none⟩) 3 3, .slice (some ⟨w1.heap.size, 0, none⟩) 3 3] 22)
  have C := hB [[1, 3, 5], [3, 4, 5]] _ 2 2 _ (hE.trans ((hE1.trans hE2).trans hE3)) (Nat.le_refl _) (by unfold maxLen; omega) (by omega) (by intro l hl; simp at hl; rcases hl with rfl | rfl <;> simp) hP
  rw [Sets.example] at C
  have hF := hide ((hE1.trans hE2).trans hE3)
  have hs1 : w1.heap.size = W.heap.size + 1 := by rw [hw1]; simp
  have hs2 : w2.heap.size = W.heap.size + 1 + 1 := by rw [hw2, World.size_alloc, hs1]
  rw [hs1] at hF C
  rw [hs2] at C
  rw [hw2, hw1] at C hF
  clear hP hL1 hL2 hE1 hE2 hE3 hs1 hs2 hw1 hw2 hB
  go_enter Try.func10, Try.ntmps10
  go_wp2_with fail
  refine C.mono ?_
  rintro e w5 ⟨A5, c5, rfl, _, _, h5, hE5⟩
  have hE6 := extNew w5 (.cells #[.int .i64 3, .int .i64 5] 3)
  have CS := refSame9_any A5 (some ⟨w5.heap.size, 0, none⟩) c5 2 [3, 5] [3, 5] _ (h5.later hE6) (intsNew w5 [3, 5] #[.int .i64 3, .int .i64 5] 3 (0, 0) rfl 2 rfl) (by simp)
  rw [decide_eq_true rfl] at CS
  have hF6 := hide ((hF.out.trans hE5).trans hE6)
  clear C h5 hE5 hE6
  go_wp2_with fail
  refine CS.mono ?_
  rintro e w7 ⟨rfl, hE7⟩
  go_wp2
  go_ret
  exact ⟨rfl, hF6.out.trans hE7⟩

/-- What great tells. -/
def GreatTo (n : Nat) (ls : List (List Int)) (w : World) (e : Ending) (w' : World) : Prop := ∃ g, e = .returned (.bool g) ∧ (g = false → n ≤ 12 ∧ ∀ l, l ∈ ls → l.length ≤ 60) ∧ w = w'
set_option maxHeartbeats 1000000 in
set_option maxRecDepth 10000 in
theorem great_any (A : Option Addr) (n c : Nat) (ls : List (List Int)) (w : World) (h : ILists w w.heap.size A n ls) : Calls Try.prog 15 #[.slice A n c] w (GreatTo n ls w) := by
  have hl := h.1
  by_cases hbig : 12 < n
  · have hI : (12 : Int) < (n : Int) := by omega
    clear h hl
    go_enter Try.func15, Try.ntmps15
    go_wp2
    go_ret
    exact ⟨true, rfl, (fun h => by cases h), rfl⟩
  have hI : ¬ (12 : Int) < (n : Int) := by omega
  have HA := hide h
  have HAll := hide (show (∀ i, i < n → (ls.getD i []).length ≤ 60) → ∀ l, l ∈ ls → l.length ≤ 60 from fun h l hl2 => by
    obtain ⟨i, hi, rfl⟩ := List.getElem_of_mem hl2
    have := h i (by omega)
    rwa [List.getD_eq_getElem?_getD, List.getElem?_eq_getElem hi] at this)
  clear h hl
  go_enter Try.func15, Try.ntmps15
  go_wp2
  go_loopw [3] (fun x wr => ∃ i : Nat, i ≤ n ∧ x = .int .i64 (i : Int) ∧ (∀ j, j < i → (ls.getD j []).length ≤ 60) ∧ wr = w) (fun x _ => n - (intOf x).toNat)
  case atStart => exact ⟨0, by omega, rfl, fun j hj => absurd hj (by omega), rfl⟩
  case round =>
    obtain ⟨i, hi, rfl, hall, rfl⟩ := hrel
    have HA2 := hide hall
    clear hall
    by_cases hlt : i < n
    · have hiI : (i : Int) < (n : Int) := by omega
      obtain ⟨b1, o1, a1, c1, rfl, e1, k1, k2, -⟩ := HA.out.at hlt
      obtain ⟨m, hm⟩ : ∃ m, m = (ls.getD i []).length := ⟨_, rfl⟩
      rw [← hm] at e1 k1
      have HM := hide hm
      have hmm : m ≤ maxLen := by omega
      unfold maxLen at hmm
      clear hm k1 k2
      by_cases g : 60 < m
      · have gI : (60 : Int) < (m : Int) := by omega
        go_wp2
        go_ret
        exact ⟨true, rfl, (fun h => by cases h), rfl⟩
      · have gI : ¬ (60 : Int) < (m : Int) := by omega
        go_wp2
        go_roundw
        case rel => exact ⟨i + 1, by omega, by go_num, fun j hj => (by
          by_cases e : j = i
          · rw [e, ← HM.out]; omega
          · exact HA2.out j (by omega)), trivial⟩
        case measure => simp [intOf]; omega
    · obtain rfl : n = i := by omega
      go_wp2
      go_ret
      exact ⟨false, rfl, fun _ => ⟨by omega, HAll.out HA2.out⟩, rfl⟩

set_option maxHeartbeats 2000000 in
set_option maxRecDepth 10000 in
theorem setsBoth_walk0 (A : Option Addr) (n c : Nat) (ls : List (List Int)) (w : World) (hB : SBothC w) (hn : n ≤ c) (hc : c ≤ maxLen) (h : ILists w w.heap.size A n ls) :
    Calls Try.prog 4 #[.slice A n c] w fun e w' => e = .returned (.bool true) ∧ Ext w w' := by
  have C0 := alive14_any hB (Ext.refl w)
  have H := hide h
  have HC := hide hB
  clear h hB
  go_enter Try.func4, Try.ntmps4
  go_wp2_with fail
  refine C0.mono ?_
  rintro e w1 ⟨rfl, hE1⟩
  have CG := great_any A n c ls w1 (H.out.ext hE1)
  clear C0
  go_wp2_with fail
  refine CG.mono ?_
  rintro e w2 ⟨g, rfl, hg, rfl⟩
  clear CG
  cases g with
  | true =>
    clear hg
    go_wp2
    go_ret
    exact ⟨rfl, hE1⟩
  | false =>
    obtain ⟨g1, g2⟩ := hg rfl
    have C1 := HC.out ls A n c w1 hE1 hn hc g1 (fun l hl => by have := g2 l hl; omega) (H.out.ext hE1)
    have G2 := hide g2
    clear hg
    have hl4 : (bothE ls).1.length ≤ 140737488355328 := by
      have h9 := bothE_len ls 60 g2
      have h8 := H.out.1
      omega
    generalize hres : bothE ls = res at *
    have HRes := hide hres
    clear hres g2
    go_wp2_with fail
    refine C1.mono ?_
    rintro e w3 ⟨A3, c3, rfl, -, -, h3, hE3⟩
    have hF3 := hE1.trans hE3
    have C2 := refSBoth_any A n c ls w3 (H.out.ext hF3) (by omega) (fun l hl => by have := G2.out l hl; omega)
    rw [HRes.out] at C2
    clear C1
    go_wp2_with fail
    refine C2.mono ?_
    rintro e w4 ⟨A4, c4, rfl, _, _, h4, hE4⟩
    have CS := refSame9_any A3 A4 c3 c4 res.1 res.1 w4 (h3.later hE4) h4 hl4
    rw [decide_eq_true rfl] at CS
    have heb : (res.2 == res.2) = true := by simp
    have hF4 := hF3.trans hE4
    clear C2 h3 h4 HRes
    generalize res.2 = er at *
    generalize res.1.length = kk at *
    go_wp2_with fail
    refine CS.mono ?_
    rintro e w5 ⟨rfl, hE5⟩
    go_wp2
    go_ret
    exact ⟨rfl, hF4.trans hE5⟩

set_option maxHeartbeats 2000000 in
set_option maxRecDepth 10000 in
theorem setsAny_walk0 (A : Option Addr) (n c : Nat) (ls : List (List Int)) (w : World) (hB : SBothC w) (hC : SAnyC w) (hn : n ≤ c) (hc : c ≤ maxLen) (h : ILists w w.heap.size A n ls) :
    Calls Try.prog 5 #[.slice A n c] w fun e w' => e = .returned (.bool true) ∧ Ext w w' := by
  have C0 := alive14_any hB (Ext.refl w)
  have H := hide h
  have HC := hide hC
  clear h hB hC
  go_enter Try.func5, Try.ntmps5
  go_wp2_with fail
  refine C0.mono ?_
  rintro e w1 ⟨rfl, hE1⟩
  have CG := great_any A n c ls w1 (H.out.ext hE1)
  clear C0
  go_wp2_with fail
  refine CG.mono ?_
  rintro e w2 ⟨g, rfl, hg, rfl⟩
  clear CG
  cases g with
  | true =>
    clear hg
    go_wp2
    go_ret
    exact ⟨rfl, hE1⟩
  | false =>
    obtain ⟨g1, g2⟩ := hg rfl
    have C1 := HC.out ls A n c w1 hE1 hn hc g1 (fun l hl => by have := g2 l hl; omega) (H.out.ext hE1)
    have G2 := hide g2
    clear hg
    have hl4 : (anyE ls).1.length ≤ 140737488355328 := by
      have h9 := anyE_len ls 60 g2
      have h8 := H.out.1
      have h7 : ls.length * 60 ≤ 12 * 60 := Nat.mul_le_mul_right _ (by omega)
      omega
    generalize hres : anyE ls = res at *
    have HRes := hide hres
    clear hres g2
    go_wp2_with fail
    refine C1.mono ?_
    rintro e w3 ⟨A3, c3, rfl, -, -, h3, hE3⟩
    have hF3 := hE1.trans hE3
    have C2 := refSAny_any A n c ls w3 (H.out.ext hF3) (by omega) (fun l hl => by have := G2.out l hl; omega)
    rw [HRes.out] at C2
    clear C1
    go_wp2_with fail
    refine C2.mono ?_
    rintro e w4 ⟨A4, c4, rfl, _, _, h4, hE4⟩
    have CS := refSame9_any A3 A4 c3 c4 res.1 res.1 w4 (h3.later hE4) h4 hl4
    rw [decide_eq_true rfl] at CS
    have heb : (res.2 == res.2) = true := by simp
    have hF4 := hF3.trans hE4
    clear C2 h3 h4 HRes
    generalize res.2 = er at *
    generalize res.1.length = kk at *
    go_wp2_with fail
    refine CS.mono ?_
    rintro e w5 ⟨rfl, hE5⟩
    go_wp2
    go_ret
    exact ⟨rfl, hF4.trans hE5⟩
end Go.Proofs.Ytfkmcknkapplmaa
