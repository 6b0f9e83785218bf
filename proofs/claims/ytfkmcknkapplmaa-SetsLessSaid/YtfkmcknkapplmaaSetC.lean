/- The program's Both, Any, Less, Rest; what the laws of chapter 14 ask. -/
import Derived.Test.YtfkmcknkapplmaaSetPKept
import Derived.Test.YtfkmcknkapplmaaSetPTog
import Derived.Test.YtfkmcknkapplmaaSetPList
import Derived.Test.YtfkmcknkapplmaaSetLaw
namespace Go.Proofs.Ytfkmcknkapplmaa
open Go.RowKit Sets

set_option maxHeartbeats 1000000 in
set_option maxRecDepth 10000 in
theorem without_any (A1 : Option Addr) (n1 c1 : Nat) (A2 : Option Addr) (c2 : Nat) (a b : List Int) (W : World) (h1 : IntsAt W W.heap.size A1 n1 a) (h2 : IntsAt W W.heap.size A2 b.length b) (k1 : n1 ≤ 20000) (k2 : b.length ≤ 1000000) (m2 : b.length ≤ c2) (j2 : c2 ≤ maxLen) (ha : ok a = true) (hb : ok b = true) :
    Calls Try.prog 34 #[.slice A1 n1 c1, .slice A2 b.length c2] W (MadeL W (a.filter fun x => !has b x)) := by
  have hE1 := extNew W (.cells #[.slice A2 b.length c2] 22)
  have hP := ilists_one W 22 m2 j2 h2
  have C1 := along_any A1 n1 c1 _ 1 1 [b] _ hP (by omega) (by simp; omega)
  have hI1 := h1.later hE1
  obtain ⟨W1, hW1⟩ : ∃ W1, W1 = W.alloc (.cells #[.slice A2 b.length c2] 22) := ⟨_, rfl⟩
  rw [← hW1] at hE1 C1 hI1
  have HC := hide (show ∀ (w2 : World) (sb : Nat) (ov : Value), Sev w2 W1.heap.size sb (.slice A1 n1 c1) ov [b] → Ext W1 w2 → Calls Try.prog 29 #[.pointer (some ⟨sb, 0, none⟩), .func (.func 42) #[.pointer (some ⟨sb, 0, none⟩)] #[]] w2 (KeptTo w2 W1.heap.size (a.filter fun x => !has b x)) from fun w2 sb ov hS hE => by
    have e : (fun x => !has b x) = fun x => [b].all fun l => !has l x := by funext x; simp
    rw [e]
    exact kept_any entered_noneHas (fun W' rs x hS hR => noneHas_any hS hR (by simp)) hS (hI1.below hE (Nat.le_refl _)) k1 ha (by simp [all, hb]))
  have HE1 := hide hE1
  have HW1 := hide hW1
  unfold MadeL
  generalize (a.filter fun x => !has b x) = res at *
  generalize b.length = n2 at *
  rw [hW1] at C1
  clear h1 h2 hP hI1 ha hb hE1 hW1 m2 j2
  go_enter Try.func34, Try.ntmps34
  go_wp2_with fail
  refine C1.mono ?_
  rw [← HW1.out]
  rintro e w2 ⟨sb, ov, rfl, hS, hE2⟩
  have C2 := HC.out w2 sb ov hS hE2
  have HE2 := hide hE2
  clear hS hE2 C1
  go_wp2_with fail
  refine C2.mono ?_
  rintro e w3 ⟨A3, c3, rfl, q1, q2, q3, hB3⟩
  have HF := hide (And.intro q1 (And.intro q2 (And.intro q3 (HE1.out.trans (Below.trans HE2.out hB3)))))
  clear C2 q1 q2 q3 hB3
  go_wp2
  go_ret
  exact ⟨A3, c3, rfl, HF.out.1, HF.out.2.1, HF.out.2.2.1, HF.out.2.2.2⟩

attribute [local go_sem ↓] run_cutLL
set_option maxHeartbeats 1000000 in
set_option maxRecDepth 10000 in
theorem sBothC_any (w0 : World) : SBothC w0 := by
  intro ls A n c w hE0 hnc hcm hn hs h
  clear hE0
  have hl := h.1
  by_cases h0 : n = 0
  · subst h0
    have HN := hide (show bothE ls = ([], 13) by unfold bothE; rw [if_pos (.inl hl)])
    rw [HN.out]
    clear h hs hl HN
    go_enter Try.func16, Try.ntmps16
    go_wp2
    go_ret2
    exact MadeS.none w (Ext.refl w) 13
  have hb0 : ((n : Int) == 0) = false := by rw [beq_eq_false_iff_ne]; omega
  have C0 := pmayAll_any A n c ls w h (by omega) (fun l hl => by have := hs l hl; omega)
  cases ha : all ls with
  | false =>
    have HN := hide (show bothE ls = ([], 13) by unfold bothE; rw [if_pos (.inr ha)])
    rw [HN.out]
    rw [ha] at C0
    clear h hs hl HN ha
    go_enter Try.func16, Try.ntmps16
    go_wp2_with fail
    refine C0.mono ?_
    rintro e w2 ⟨rfl, rfl⟩
    clear C0
    go_wp2
    go_ret2
    exact MadeS.none _ (Ext.refl _) 13
  | true =>
    have HN := hide (show bothE ls = (bothL ls, 0) by unfold bothE; rw [if_neg (by rw [ha, hl]; simp [h0])])
    rw [HN.out]
    rw [ha] at C0
    obtain ⟨b1, o1, a1, c1, rfl, e1, k1, k2, hr⟩ := h.at (i := 0) (by omega)
    rw [Nat.add_zero] at e1
    have hbk := World.block_lt_of_cell? _ _ e1
    have hl0 : (ls.getD 0 []).length ≤ 20000 := hs _ (by
      rw [List.getD_eq_getElem?_getD, List.getElem?_eq_getElem (by omega)]
      exact List.getElem_mem _)
    have hok0 : ok (ls.getD 0 []) = true := List.all_eq_true.1 ha _ (by
      rw [List.getD_eq_getElem?_getD, List.getElem?_eq_getElem (by omega)]
      exact List.getElem_mem _)
    obtain ⟨m, hm⟩ : ∃ m, m = (ls.getD 0 []).length := ⟨_, rfl⟩
    rw [← hm] at e1 hr k1 hl0
    have C1 := hide (show ∀ W, Ext w W → Calls Try.prog 28 #[.slice a1 m c1, .slice (cutAt (some ⟨b1, o1, none⟩) c 1) (n - 1) (c - 1)] W (AlongTo W (.slice a1 m c1) (ls.drop 1)) from fun W hE =>
      along_any a1 m c1 _ (n - 1) (c - 1) (ls.drop 1) W ((h.ext hE).cut (by omega) hnc) (by omega) (fun l hl => by have := hs l (List.mem_of_mem_drop hl); omega))
    have HC := hide (show ∀ (W w2 : World) (sb : Nat) (ov : Value), Ext w W → Sev w2 W.heap.size sb (.slice a1 m c1) ov (ls.drop 1) → Ext W w2 → Calls Try.prog 29 #[.pointer (some ⟨sb, 0, none⟩), .func (.func 30) #[.pointer (some ⟨sb, 0, none⟩)] #[]] w2 (KeptTo w2 W.heap.size (bothL ls)) from fun W w2 sb ov hEW hS hE =>
      kept_any entered_allHave (fun W' rs x hS hR => allHave_any hS hR (by rw [List.length_drop]; omega)) hS ((hr.later hEW).below hE (Nat.le_refl _)) hl0 hok0 (all_drop ha 1))
    generalize bothL ls = res at *
    have hone : (1 : Int) ≤ (n : Int) := by omega
    have hpos : (0 : Int) < (n : Int) := by omega
    unfold AlongTo at C1
    clear h hs hl hr ha hok0 hm hl0 k1 k2 HN
    go_enter Try.func16, Try.ntmps16
    go_wp2_with fail
    refine C0.mono ?_
    rintro e wz ⟨rfl, rfl⟩
    clear C0
    go_wp2_with fail
    refine wp_region_T (fun W => Ext w W) 6 7 #[false, false, false, false, false, false, false] (by kernel_rfl) rfl rfl (Ext.refl w).drew ?_
    intro hS0
    refine wpAnyT_take 0 (some 13) (.slice (some ⟨b1, o1, none⟩) n c) #[true, false, false, false, false, false, false] rfl rfl rfl (by kernel_rfl) (fun _ _ _ h => h) hS0 (by rfl) (fun W hX => by have s0 := (hX.cell hbk).trans e1; go_simp) ?_
    simp only [Act.put, List.setIfInBounds_toArray, List.set_cons_zero, List.set_cons_succ]
    refine wpAnyT_take 1 (some 14) (.pointer (some ⟨b1, o1, none⟩)) #[true, true, false, false, false, false, false] rfl rfl rfl (by kernel_rfl) (fun _ _ _ h => h) hS0 (by rfl) (fun W hX => by have s0 := (hX.cell hbk).trans e1; go_simp) ?_
    simp only [Act.put, List.setIfInBounds_toArray, List.set_cons_zero, List.set_cons_succ]
    refine wpAnyT_take 2 (some 15) (.slice a1 m c1) #[true, true, true, false, false, false, false] rfl rfl rfl (by kernel_rfl) (fun _ _ _ h => h) hS0 (by rfl) (fun W hX => by have s0 := (hX.cell hbk).trans e1; go_simp) ?_
    simp only [Act.put, List.setIfInBounds_toArray, List.set_cons_zero, List.set_cons_succ]
    refine wpAnyT_take 3 (some 16) (.slice (some ⟨b1, o1, none⟩) n c) #[true, true, true, true, false, false, false] rfl rfl rfl (by kernel_rfl) (fun _ _ _ h => h) hS0 (by rfl) (fun W hX => by have s0 := (hX.cell hbk).trans e1; go_simp) ?_
    simp only [Act.put, List.setIfInBounds_toArray, List.set_cons_zero, List.set_cons_succ]
    refine wpAnyT_take 4 (some 17) (.slice (cutAt (some ⟨b1, o1, none⟩) c 1) (n - 1) (c - 1)) #[true, true, true, true, true, false, false] rfl rfl rfl (by kernel_rfl) (fun _ _ _ h => h) hS0 (by rfl) (fun W hX => by have s0 := (hX.cell hbk).trans e1; go_simp) ?_
    simp only [Act.put, List.setIfInBounds_toArray, List.set_cons_zero, List.set_cons_succ]
    refine wpAnyT_only 5 #[true, true, true, true, true, true, false] (by kernel_rfl) rfl rfl (by rfl) (fun K0 hK0 => ?_)
    go_simp
    go_at_call 28
    refine (C1.out _ hS0).mono ?_
    rintro e w1 ⟨sb, ov, rfl, hV, hE1⟩
    have hS1 := hS0.trans hE1
    refine hK0 _ _ (fun _ => hS1) ?_
    clear hK0 K0
    refine wpAnyT_only 6 #[true, true, true, true, true, true, true] (by kernel_rfl) rfl rfl (by rfl) (fun K1 hK1 => ?_)
    go_simp
    refine hK1 _ _ (fun h => absurd h (by decide)) (wpAnyT_done (by kernel_rfl) ?_ _)
    clear hK1 K1
    have C2 := HC.out _ w1 sb ov hS0 hV hE1
    have HS0 := hide hS0
    have HE1 := hide hE1
    have HB0 := hide (Nat.le_refl w.drew.heap.size)
    clear hV hS0 hE1 hS1 C1
    go_wp2_with fail
    refine C2.mono ?_
    rintro e w3 ⟨A3, c3, rfl, q1, q2, q3, hB3⟩
    have HF := hide (And.intro q1 (And.intro q2 (And.intro q3 (HS0.out.trans (Below.trans HE1.out hB3)))))
    clear C2 q1 q2 q3 hB3
    go_wp2
    go_ret2
    exact ⟨A3, c3, rfl, HF.out.1, HF.out.2.1, HF.out.2.2.1, HF.out.2.2.2⟩

set_option maxHeartbeats 1000000 in
set_option maxRecDepth 10000 in
theorem sAnyC_any (w0 : World) : SAnyC w0 := by
  intro ls A n c w hE0 hnc hcm hn hs h
  clear hE0
  have C0 := pmayAll_any A n c ls w h (by omega) (fun l hl => by have := hs l hl; omega)
  cases ha : all ls with
  | false =>
    have HN := hide (show anyE ls = ([], 13) by unfold anyE; rw [if_pos ha])
    rw [HN.out]
    rw [ha] at C0
    clear h hs HN ha
    go_enter Try.func19, Try.ntmps19
    go_wp2_with fail
    refine C0.mono ?_
    rintro e w2 ⟨rfl, rfl⟩
    clear C0
    go_wp2
    go_ret2
    exact MadeS.none _ (Ext.refl _) 13
  | true =>
    have HN := hide (show anyE ls = (anyL ls, 0) by unfold anyE; rw [if_neg (by rw [ha]; simp)])
    rw [HN.out]
    rw [ha] at C0
    have C1 := together_any n A n c ls w (Nat.le_refl _) h hnc hcm hn hs ha
    unfold MadeL at C1
    generalize anyL ls = res at *
    clear h hs HN ha
    go_enter Try.func19, Try.ntmps19
    go_wp2_with fail
    refine C0.mono ?_
    rintro e w2 ⟨rfl, rfl⟩
    clear C0
    go_wp2_with fail
    refine C1.mono ?_
    rintro e w3 ⟨A3, c3, rfl, q1, q2, q3, hE3⟩
    have HF := hide (And.intro q1 (And.intro q2 (And.intro q3 hE3)))
    clear C1 q1 q2 q3 hE3
    go_wp2
    go_ret2
    exact ⟨A3, c3, rfl, HF.out.1, HF.out.2.1, HF.out.2.2.1, HF.out.2.2.2⟩

theorem Sets.less_any {a : List Int} {ls : List (List Int)} (ha : all ls = true) : (a.filter fun x => !has (anyL ls) x) = lessL a ls := by
  unfold lessL
  congr 1
  funext x
  congr 1
  rw [Bool.eq_iff_iff, has_iff, mem_any ha, List.any_eq_true]
  constructor
  · rintro ⟨l, h1, h2⟩; exact ⟨l, h1, has_iff.2 h2⟩
  · rintro ⟨l, h1, h2⟩; exact ⟨l, h1, has_iff.1 h2⟩
set_option maxHeartbeats 1000000 in
set_option maxRecDepth 10000 in
theorem sLessC_any (w0 : World) : SLessC w0 := by
  intro a ls A1 A n1 c1 n c w hE0 hnc1 hcm1 hn1 hI hnc hcm hn hs h
  clear hE0
  have CM := pmay_any A1 n1 c1 a w hI (by omega)
  have C0 := pmayAll_any A n c ls w h (by omega) (fun l hl => by have := hs l hl; omega)
  cases hk : ok a with
  | false =>
    have HN := hide (show lessE a ls = ([], 13) by unfold lessE; rw [if_pos (.inl hk)])
    rw [HN.out]
    rw [hk] at CM
    clear h hs HN hk hI C0
    go_enter Try.func21, Try.ntmps21
    go_wp2_with fail
    refine CM.mono ?_
    rintro e w2 ⟨rfl, rfl⟩
    clear CM
    go_wp2
    go_ret2
    exact MadeS.none _ (Ext.refl _) 13
  | true =>
    rw [hk] at CM
    cases ha : all ls with
    | false =>
      have HN := hide (show lessE a ls = ([], 13) by unfold lessE; rw [if_pos (.inr ha)])
      rw [HN.out]
      rw [ha] at C0
      clear h hs HN ha hI hk
      go_enter Try.func21, Try.ntmps21
      go_wp2_with fail
      refine CM.mono ?_
      rintro e w2 ⟨rfl, rfl⟩
      clear CM
      go_wp2_with fail
      refine C0.mono ?_
      rintro e w2 ⟨rfl, rfl⟩
      clear C0
      go_wp2
      go_ret2
      exact MadeS.none _ (Ext.refl _) 13
    | true =>
      have HN := hide (show lessE a ls = (lessL a ls, 0) by unfold lessE; rw [if_neg (by rw [ha, hk]; simp)])
      rw [HN.out, ← less_any ha]
      rw [ha] at C0
      have C1 := together_any n A n c ls w (Nat.le_refl _) h hnc hcm hn hs ha
      have hal : (anyL ls).length ≤ 1000000 := Nat.le_trans (any_len ls 20000 hs) (Nat.le_trans (Nat.mul_le_mul_right _ (show ls.length ≤ 12 by rw [h.1]; exact hn)) (by omega))
      have C2 := hide (fun (W : World) (A2 : Option Addr) (c2 : Nat) (hE : Ext w W) (i2 : IntsAt W W.heap.size A2 (anyL ls).length (anyL ls)) (j1 : (anyL ls).length ≤ c2) (j2 : c2 ≤ maxLen) => without_any A1 n1 c1 A2 c2 a (anyL ls) W (hI.later hE) i2 hn1 hal j1 j2 hk (ok_any ha))
      unfold MadeL at C1 C2
      generalize (a.filter fun x => !has (anyL ls) x) = res at *
      generalize anyL ls = l2 at *
      clear h hs HN ha hI hk hal
      go_enter Try.func21, Try.ntmps21
      go_wp2_with fail
      refine CM.mono ?_
      rintro e w2 ⟨rfl, rfl⟩
      clear CM
      go_wp2_with fail
      refine C0.mono ?_
      rintro e w2 ⟨rfl, rfl⟩
      clear C0
      go_wp2_with fail
      refine C1.mono ?_
      rintro e w3 ⟨A3, c3, rfl, q1, q2, q3, hE3⟩
      have C3 := C2.out w3 A3 c3 hE3 q3 q1 q2
      have HE3 := hide hE3
      clear C1 q1 q2 q3 hE3
      go_wp2_with fail
      refine C3.mono ?_
      rintro e w4 ⟨A4, c4, rfl, q1, q2, q3, hE4⟩
      have HF := hide (And.intro q1 (And.intro q2 (And.intro q3 (HE3.out.trans hE4))))
      clear C3 q1 q2 q3 hE4
      go_wp2
      go_ret2
      exact ⟨A4, c4, rfl, HF.out.1, HF.out.2.1, HF.out.2.2.1, HF.out.2.2.2⟩

theorem Sets.ok_range (n : Nat) : ok ((List.range n).map fun i : Nat => (i : Int)) = true := by
  rw [ok_iff]
  refine ⟨?_, fun y hy => ?_⟩
  · rw [List.pairwise_map]
    exact List.pairwise_lt_range.imp (fun h => by omega)
  · obtain ⟨i, _, rfl⟩ := List.mem_map.1 hy
    omega
set_option maxHeartbeats 1000000 in
set_option maxRecDepth 10000 in
theorem sRestC_any (w0 : World) : SRestC w0 := by
  intro bound l A n c w hE0 hbd hnc hcm hn hI
  clear hE0
  have CM := pmay_any A n c l w hI (by omega)
  by_cases g1 : bound < 0
  · have HN := hide (show restE bound l = ([], 13) by unfold restE; rw [if_neg (by omega)])
    rw [HN.out]
    clear hI HN CM
    go_enter Try.func23, Try.ntmps23
    go_wp2
    go_ret2
    exact MadeS.none w (Ext.refl w) 13
  by_cases g2 : 20000 < bound
  · have HN := hide (show restE bound l = ([], 13) by unfold restE; rw [if_neg (by omega)])
    rw [HN.out]
    clear hI HN CM
    go_enter Try.func23, Try.ntmps23
    go_wp2
    go_ret2
    exact MadeS.none w (Ext.refl w) 13
  cases hk : ok l with
  | false =>
    have HN := hide (show restE bound l = ([], 13) by unfold restE; rw [if_neg (by rw [hk]; simp)])
    rw [HN.out]
    rw [hk] at CM
    clear HN hk hI
    go_enter Try.func23, Try.ntmps23
    go_wp2_with fail
    refine CM.mono ?_
    rintro e w2 ⟨rfl, rfl⟩
    clear CM
    go_wp2
    go_ret2
    exact MadeS.none _ (Ext.refl _) 13
  | true =>
    rw [hk] at CM
    have CB := isBelow_any A n c l bound w hI (by omega) hk
    cases hb : (l.all fun y => decide (y < bound)) with
    | false =>
      have HN := hide (show restE bound l = ([], 13) by unfold restE; rw [if_neg (by rw [hb]; simp)])
      rw [HN.out]
      rw [hb] at CB
      clear HN hk hI hb
      go_enter Try.func23, Try.ntmps23
      go_wp2_with fail
      refine CM.mono ?_
      rintro e w2 ⟨rfl, rfl⟩
      clear CM
      go_wp2_with fail
      refine CB.mono ?_
      rintro e w2 ⟨rfl, rfl⟩
      clear CB
      go_wp2
      go_ret2
      exact MadeS.none _ (Ext.refl _) 13
    | true =>
      have HN := hide (show restE bound l = (restL bound.toNat l, 0) by unfold restE; rw [if_pos ⟨by omega, hk, hb⟩])
      rw [HN.out]
      rw [hb] at CB
      obtain ⟨m, rfl⟩ : ∃ m : Nat, bound = (m : Int) := ⟨bound.toNat, by omega⟩
      have hm : m ≤ 20000 := by omega
      rw [Int.toNat_natCast]
      have C1 := below_any m w hm
      have hll := hI.1
      have C2 := hide (fun (W : World) (A2 : Option Addr) (c2 : Nat) (hE : Ext w W) (i2 : IntsAt W W.heap.size A2 ((List.range m).map fun i : Nat => (i : Int)).length ((List.range m).map fun i : Nat => (i : Int))) => without_any A2 _ c2 A c _ l W i2 (by rw [hll]; exact hI.later hE) (by simp; omega) (by omega) (by omega) hcm (ok_range m) hk)
      unfold MadeL at C1 C2
      rw [hll] at C2
      unfold restL
      generalize (((List.range m).map fun i : Nat => (i : Int)).filter fun x => !has l x) = res at *
      generalize ((List.range m).map fun i : Nat => (i : Int)) = l1 at *
      clear HN hk hI hb hll
      go_enter Try.func23, Try.ntmps23
      go_wp2_with fail
      refine CM.mono ?_
      rintro e w2 ⟨rfl, rfl⟩
      clear CM
      go_wp2_with fail
      refine CB.mono ?_
      rintro e w2 ⟨rfl, rfl⟩
      clear CB
      go_wp2_with fail
      refine C1.mono ?_
      rintro e w3 ⟨A3, c3, rfl, q1, q2, q3, hE3⟩
      have C3 := C2.out w3 A3 c3 hE3 q3
      have HE3 := hide hE3
      clear C1 q1 q2 q3 hE3
      go_wp2_with fail
      refine C3.mono ?_
      rintro e w4 ⟨A4, c4, rfl, q1, q2, q3, hE4⟩
      have HF := hide (And.intro q1 (And.intro q2 (And.intro q3 (HE3.out.trans hE4))))
      clear C3 q1 q2 q3 hE4
      go_wp2
      go_ret2
      exact ⟨A4, c4, rfl, HF.out.1, HF.out.2.1, HF.out.2.2.1, HF.out.2.2.2⟩

theorem sMayC_any (w0 : World) : SMayC w0 := by
  intro l A n c w _ _ _ hn h
  exact (pmay_any A n c l w h (by omega)).mono (by rintro e w' ⟨rfl, rfl⟩; exact ⟨rfl, Ext.refl _⟩)
theorem sNextC_any (w0 : World) : SNextC w0 := by
  intro l x A n c w _ _ _ _ hn h
  exact (pnext_any A n c l x w h (by omega)).mono (by rintro e w' ⟨rfl, rfl⟩; exact ⟨rfl, Ext.refl _⟩)
end Go.Proofs.Ytfkmcknkapplmaa
