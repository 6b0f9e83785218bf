/- The program's Read of chapter 13. The program's lists of chapter 13: Len, At, All; of a nil list. -/
import Derived.Test.YtcphapdjimeoaaaGreatB01
import Derived.Test.YtcphapdjimeoaaaGreatB03
import Derived.Test.YtcphapdjimeoaaaGreatB24
import Derived.Test.YtcphapdjimeoaaaGreatB30
namespace Go.Proofs.YtcphapdjimeoaaaGreat
open Go.RowKit Num Ef

attribute [local go_sem ↓] run_cut
theorem whole_range0 {w : World} {r : Nat} {t : TypeId} {a b c : Value} (h : Whole w r t #[a, b, c]) : w.rangeAt r 0 [a, b, c] := by
  intro j v hv
  match j, hv with
  | 0, hv => exact h.at 0 hv
  | 1, hv => exact h.at 1 hv
  | 2, hv => exact h.at 2 hv
  | j + 3, hv => simp at hv
/-- Block g is the program's list of these numbers. -/
def EfLst (W : World) (g : Nat) (ids : List Int) : Prop :=
  ∃ k A1 c1 A2 c2, Whole W g 123 #[.int .i64 ((k : Nat) : Int), .slice A1 ids.length c1, .slice A2 ids.length c2] ∧ PartsV W W.heap.size k A1 ids.length A2 ids.length ids ∧ ids.length ≤ 20000 ∧ ∀ i j, i ≤ j → j < ids.length → ids.getD i 0 ≤ ids.getD j 0
theorem efLst_keep : LstKeep EfLst := fun ⟨k, A1, c1, A2, c2, hW, hP, hl, hr⟩ hE => ⟨k, A1, c1, A2, c2, hW.ext hE, hP.ext hE, hl, hr⟩
theorem Ef.row_rises {bound : Int} {ids : List Int} (h : row bound ids = true) (i : Nat) : ∀ j, i ≤ j → j < ids.length → ids.getD i 0 ≤ ids.getD j 0
  | 0, h1, h2 => by obtain rfl : i = 0 := by omega
                    exact Int.le_refl _
  | j + 1, h1, h2 => by
    by_cases e : i = j + 1
    · rw [e]; exact Int.le_refl _
    · have := row_rises h i j (by omega) (by omega)
      have h3 := (row_at h h2).2.2 (by omega)
      rw [Nat.add_sub_cancel] at h3
      omega

set_option maxHeartbeats 4000000 in
set_option maxRecDepth 10000 in
theorem efReadC_any (w : World) : EfReadC EfLst w := by
  intro bound b A c W _ h64 hc hcm hb hB
  have CM := fun W => efMay_any bound W
  by_cases hbd : 0 ≤ bound ∧ bound ≤ 20000
  case neg =>
    have HN := hide (show readE bound b = ([], 0, 13) by unfold readE; rw [if_neg hbd])
    rw [decide_eq_false hbd] at CM
    rw [HN.out]
    clear hbd h64 HN hB
    go_enter Tryz.func32, Tryz.ntmps32
    go_wp2_with fail
    refine (CM _).mono ?_
    rintro e w2 ⟨rfl, rfl⟩
    clear CM
    go_wp2
    go_ret3
    exact ⟨Ext.refl _, fun h => absurd h (by simp), fun _ => rfl⟩
  rw [decide_eq_true hbd] at CM
  obtain ⟨bd, rfl⟩ := Int.eq_ofNat_of_zero_le hbd.1
  have hbd2 : bd ≤ 20000 := by have := hbd.2; omega
  obtain ⟨R1, R2, R3⟩ := readE_prog (b := b) hbd.1 hbd.2
  have HIs := hide (fun h => int_is (b := b) (most := (bd : Int)) h)
  have HCut := hide (intR_cut b (bd : Int))
  generalize readE (bd : Int) b = res at *
  generalize intR b 0 0 (bd : Int) = rr at *
  obtain ⟨x, q, E⟩ := rr
  dsimp only at R1 R2 R3 HIs
  obtain ⟨mn, hmn⟩ : ∃ mn, mn = min b.length 10 := ⟨_, rfl⟩
  rw [← hmn] at HCut
  have hmin : (if (10 : Int) < (b.length : Int) then (10 : Int) else (b.length : Int)) = (mn : Int) := by rw [hmn]; split <;> omega
  have hmnb : mn ≤ b.length := by omega
  have kc := fun W => run_headB W A b.length c .i64 (mn : Int) (by omega) (by omega)
  simp only [Int.toNat_natCast] at kc
  have C1 := pcNew_any (cutAt A c 0) mn c (b.take mn) W (by omega) (by omega) (bytes_head hB hmnb hc)
  have HB := hide hB
  have H1 := hide R1
  have H2 := hide R2
  have H3 := hide R3
  clear R1 R2 R3 hB hmn h64 hbd
  generalize hNl : b.length = N at *
  have HNl := hide hNl
  clear hNl
  go_enter Tryz.func32, Tryz.ntmps32
  go_wp2_with fail
  refine (CM _).mono ?_
  rintro e w2 ⟨rfl, rfl⟩
  clear CM
  go_wp2_with (refine wpList_min rfl (.tmp 18) (.const (.int .i64 10)) rfl rfl rfl hmin ?_)
  refine C1.mono ?_
  rintro e w3 ⟨g, r, rfl, hg3, hP3, hE3⟩
  have C2 := pcInt_any hP3 (bd : Int) (by omega)
  rw [HCut.out] at C2
  dsimp only at C2
  clear C1 HCut kc hP3
  go_wp2_with fail
  refine C2.mono ?_
  rintro e w4 ⟨rfl, hP4, hM4⟩
  have hE4 := hide (show Ext W w4 from Below.trans hE3 (hM4.below (B := W.heap.size) hE3.le hg3 (fun k hk => by cases hk)))
  have C3 := pcErr_any hP4
  clear C2 hM4 hE3 hg3
  go_wp2_with fail
  refine C3.mono ?_
  rintro e w5 ⟨rfl, rfl⟩
  clear C3
  by_cases h0 : E = 0
  case neg =>
    have hEb : (E != 0) = true := by rw [bne_iff_ne]; exact h0
    have HF := hide (H1.out h0)
    have HH := hide h0
    clear h0 hP4
    go_wp2
    go_ret3
    rw [HF.out]
    exact ⟨hE4.out, fun h => absurd h HH.out, fun _ => rfl⟩
  subst h0
  obtain ⟨i1, i2, -⟩ := HIs.out rfl
  have hx2 : x ≤ 20000 := by omega
  have CAt := pcAt_any hP4
  have HP4 := hide hP4
  clear HIs H1 hP4 i1
  go_wp2_with fail
  refine CAt.mono ?_
  rintro e w5 ⟨rfl, rfl⟩
  clear CAt
  have CR := readParts_any (cutAt A c q) (N - q) (c - q) (b.drop q) bd x w4 (by omega) (by omega) ((HB.out.below (C := W.heap.size) hE4.out (Nat.le_refl _)).mono hE4.out.le |>.drop i2 hc) hbd2 hx2
  obtain ⟨P, hPe⟩ : ∃ P, P = readP (b.drop q) (bd : Int) x := ⟨_, rfl⟩
  rw [← hPe] at CR H2 H3
  have HPe := hide hPe
  clear hPe
  generalize widE (bd : Int) x = k at *
  go_wp2_with fail
  refine CR.mono ?_
  rintro e w6 h6
  clear CR
  have hW6 := Whole.new w6 119 #[.int .i64 0, .slice none 0 0, .slice none 0 0]
  have hX6 := extNew w6 (.cells #[.int .i64 0, .slice none 0 0, .slice none 0 0] 119)
  have HX6 := hide hX6
  obtain ⟨h3, hh3⟩ : ∃ h3, h3 = w6.heap.size := ⟨_, rfl⟩
  rw [← hh3] at hW6
  have HH3 := hide hh3
  clear hX6 hh3
  by_cases hE2 : P.2.2 = 0
  case neg =>
    have HF := hide (H2.out trivial hE2)
    obtain ⟨kk, B1, m1, d1, B2, m2, d2, l, rfl, hE6, -⟩ := h6.form
    obtain ⟨E2, hEE⟩ : ∃ E, E = P.2.2 := ⟨_, rfl⟩
    rw [← hEE] at hE2 HF ⊢
    have hEb : (E2 != 0) = true := by rw [bne_iff_ne]; exact hE2
    have HH := hide hE2
    have HE6 := hide hE6
    clear hE2 hEE h6 hE6 H2 H3
    go_wp2_with (refine wpList_storeW rfl 119 (.tmp 10) (.tmp 38) rfl (by rw [HH3.out]; rfl) rfl hW6 rfl parts_info (parts_one ..) ?_; intro w8 hW8 hG8 hS8; clear hS8; have hX8 := hide (show Ext w6 w8 from Below.grown HX6.out hG8 HX6.out.le (fun k hk => by cases hk; rw [HH3.out]; exact Nat.le_refl _)); clear hW6 hG8 hW8)
    go_ret3
    rw [HF.out]
    exact ⟨(hE4.out.trans HE6.out).trans hX8.out, fun h => absurd h HH.out, fun _ => rfl⟩
  have HF := hide (H3.out trivial hE2)
  obtain ⟨hE6, hyes, -⟩ := h6
  obtain ⟨A1, c1, A2, c2, rfl, hV, hPl, -, -⟩ := hyes hE2
  have HLong2 := hide (show P.2.1 ≤ N - q ∧ row (bd : Int) P.1 = true by
    have h1 := readP_eq (b.drop q) (bd : Int) x
    obtain ⟨r1, m1, e1⟩ := P
    dsimp only at hE2
    subst hE2
    have h2 : (r1, m1, 0) = readN (b.drop q) (bd : Int) x := HPe.out.trans h1
    have h3 := readN_one (by omega) h2.symm
    have := h3.2.2.1
    rw [List.length_drop, HNl.out] at this
    exact ⟨this, h3.1⟩)
  have HLong := hide HLong2.out.1
  obtain ⟨ids, hids⟩ : ∃ ids, ids = P.1 := ⟨_, rfl⟩
  obtain ⟨long, hlong⟩ : ∃ z, z = P.2.1 := ⟨_, rfl⟩
  rw [← hids, ← hlong] at HF
  rw [← hids] at hV hPl
  have HRow := hide HLong2.out.2
  rw [← hids] at HRow
  rw [← hlong] at HLong ⊢
  have HE6 := hide hE6
  have HV := hide hV
  have HPl := hide hPl
  obtain ⟨tot, htot⟩ : ∃ z, z = q + long := ⟨_, rfl⟩
  have hll := HLong.out
  have hwt : IntKind.i64.wrap ((q : Int) + (long : Int)) = (tot : Int) := by rw [IntKind.wrap_i64]; omega
  rw [← htot] at HF
  clear HLong2 hE2 hyes H2 H3 hids hlong hE6 hV hPl htot hll HPe
  go_wp2_with (refine wpList_storeW rfl 119 (.tmp 10) (.tmp 38) rfl (by rw [HH3.out]; rfl) rfl hW6 rfl parts_info (parts_one ..) ?_; intro w8 hW8 hG8 hS8; clear hS8; have hX8 := hide (show Ext w6 w8 from Below.grown HX6.out hG8 HX6.out.le (fun k hk => by cases hk; rw [HH3.out]; exact Nat.le_refl _)); clear hW6 hG8)
  rw [← HH3.out]
  have hE68 := HE6.out.trans hX8.out
  have hW6 := hW8
  clear hW8
  have CA := fun (Wx : World) (hE : Ext w8.drew Wx) => pcAt_any (HP4.out.ext ((hE68.trans (Ext.refl w8).drew).trans hE))
  have HEnd := hide (show RdTo EfLst W res (.returned (.tuple #[.pointer (some ⟨w8.drew.heap.size, 0, none⟩), .int .i64 (tot : Int), .int .i64 0])) (w8.drew.alloc (.cells #[.int .i64 (k : Int), .slice A1 x c1, .slice A2 x c2] 123)) by
    have hEn := extNew w8.drew (.cells #[.int .i64 (k : Int), .slice A1 x c1, .slice A2 x c2] 123)
    have hWn := Whole.new w8.drew 123 #[.int .i64 (k : Int), .slice A1 x c1, .slice A2 x c2]
    rw [HF.out]
    refine ⟨((hE4.out.trans hE68).trans (Ext.refl w8).drew).trans hEn, fun _ => ⟨_, rfl, k, A1, c1, A2, c2, ?_, ?_, ?_, row_rises HRow.out⟩, fun h => absurd rfl h⟩
    · rw [HPl.out]; exact hWn
    · rw [HPl.out]; exact ((HV.out.ext hX8.out).ext (Ext.refl w8).drew).ext hEn
    · rw [HPl.out]; exact hx2)
  clear HE6 HX6 HV HF hX8 hE68 HLong
  refine wp_region_T (fun W => Whole W h3 119 #[.int .i64 (k : Int), .slice A1 x c1, .slice A2 x c2]) 7 10 #[false, false, false, false, false, false, false, false, false, false] (by kernel_rfl) rfl rfl hW6 ?_
  intro hS0
  refine wpAnyT_take 0 (some 44) (.agg #[.int .i64 (k : Int), .slice A1 x c1, .slice A2 x c2]) #[true, false, false, false, false, false, false, false, false, false] rfl rfl rfl (by kernel_rfl) (fun _ _ _ h => h) hS0 (by rfl) (fun W hX => by exact exec_load_mid 119 (.tmp 10) rfl h3 0 rfl [.int .i64 (k : Int), .slice A1 x c1, .slice A2 x c2] (whole_range0 hX) Tryz.underlying119 rfl (parts_infoL ..)) ?_
  simp only [Act.put, List.setIfInBounds_toArray, List.set_cons_zero, List.set_cons_succ]
  refine wpAnyT_take 1 (some 45) (.agg #[.int .i64 (k : Int), .slice A1 x c1, .slice A2 x c2]) #[true, true, false, false, false, false, false, false, false, false] rfl rfl rfl (by kernel_rfl) (fun _ _ _ h => h) hS0 (by rfl) (fun W hX => by go_simp) ?_
  simp only [Act.put, List.setIfInBounds_toArray, List.set_cons_zero, List.set_cons_succ]
  refine wpAnyT_take 3 (some 47) (.pointer (some ⟨g, 0, none⟩)) #[true, true, false, true, false, false, false, false, false, false] rfl rfl rfl (by kernel_rfl) (fun _ _ _ h => h) hS0 (by rfl) (fun W hX => by go_simp) ?_
  simp only [Act.put, List.setIfInBounds_toArray, List.set_cons_zero, List.set_cons_succ]
  refine wpAnyT_pure 5 (some 49) (.int .i64 (long : Int)) #[true, true, false, true, false, true, false, false, false, false] rfl rfl rfl (by kernel_rfl) (fun _ _ _ h => h) (fun _ => hS0) (by rfl) (fun W => by go_simp) ?_
  simp only [Act.put, List.setIfInBounds_toArray, List.set_cons_zero, List.set_cons_succ]
  refine wpAnyT_two 2 4 #[true, true, true, true, false, true, false, false, false, false] #[true, true, false, true, true, true, false, false, false, false] (by kernel_rfl) rfl rfl rfl rfl (by rfl) (by rfl) (fun K hK => ?_) (fun K hK => ?_)
  · go_simp
    have hSb := hS0.ext (extNew _ (.cells #[.int .i64 (k : Int), .slice A1 x c1, .slice A2 x c2] 123))
    refine hK _ _ (fun _ => hSb) ?_
    clear hK K
    have CAt := CA _ (extNew _ (.cells #[.int .i64 (k : Int), .slice A1 x c1, .slice A2 x c2] 123))
    refine wpAnyT_only 4 #[true, true, true, true, true, true, false, false, false, false] (by kernel_rfl) rfl rfl (by rfl) (fun K0 hK0 => ?_)
    go_simp
    go_at_call 65
    refine CAt.mono ?_
    rintro e wz ⟨rfl, rfl⟩
    refine hK0 _ _ (fun _ => hSb) ?_
    clear hK0 K0
    refine wpAnyT_pure 6 (some 50) (.int .i64 (tot : Int)) #[true, true, true, true, true, true, true, false, false, false] rfl rfl rfl (by kernel_rfl) (fun _ _ _ h => h) (fun _ => hSb) (by rfl) (fun W => by go_simp) ?_
    simp only [Act.put, List.setIfInBounds_toArray, List.set_cons_zero, List.set_cons_succ]
    refine wpAnyT_only 7 #[true, true, true, true, true, true, true, true, false, false] (by kernel_rfl) rfl rfl (by rfl) (fun K1 hK1 => ?_)
    go_simp
    refine hK1 _ _ (fun h => absurd h (by decide)) ?_
    clear hK1 K1
    refine wpAnyT_only 8 #[true, true, true, true, true, true, true, true, true, false] (by kernel_rfl) rfl rfl (by rfl) (fun K2 hK2 => ?_)
    go_simp
    refine hK2 _ _ (fun h => absurd h (by decide)) ?_
    clear hK2 K2
    refine wpAnyT_only 9 #[true, true, true, true, true, true, true, true, true, true] (by kernel_rfl) rfl rfl (by rfl) (fun K3 hK3 => ?_)
    go_simp
    refine hK3 _ _ (fun h => absurd h (by decide)) (wpAnyT_done (by kernel_rfl) ?_ _)
    clear hK3 K3
    clear hS0 hSb
    go_wp2
    go_ret3
    exact HEnd.out
  · go_simp
    have CAt := CA _ (Ext.refl _)
    go_at_call 65
    refine CAt.mono ?_
    rintro e wz ⟨rfl, rfl⟩
    refine hK _ _ (fun _ => hS0) ?_
    clear hK K
    refine wpAnyT_pure 6 (some 50) (.int .i64 (tot : Int)) #[true, true, false, true, true, true, true, false, false, false] rfl rfl rfl (by kernel_rfl) (fun _ _ _ h => h) (fun _ => hS0) (by rfl) (fun W => by go_simp) ?_
    simp only [Act.put, List.setIfInBounds_toArray, List.set_cons_zero, List.set_cons_succ]
    refine wpAnyT_only 2 #[true, true, true, true, true, true, true, false, false, false] (by kernel_rfl) rfl rfl (by rfl) (fun K0 hK0 => ?_)
    go_simp
    have hSb := hS0.ext (extNew _ (.cells #[.int .i64 (k : Int), .slice A1 x c1, .slice A2 x c2] 123))
    refine hK0 _ _ (fun _ => hSb) ?_
    clear hK0 K0
    refine wpAnyT_only 7 #[true, true, true, true, true, true, true, true, false, false] (by kernel_rfl) rfl rfl (by rfl) (fun K1 hK1 => ?_)
    go_simp
    refine hK1 _ _ (fun h => absurd h (by decide)) ?_
    clear hK1 K1
    refine wpAnyT_only 8 #[true, true, true, true, true, true, true, true, true, false] (by kernel_rfl) rfl rfl (by rfl) (fun K2 hK2 => ?_)
    go_simp
    refine hK2 _ _ (fun h => absurd h (by decide)) ?_
    clear hK2 K2
    refine wpAnyT_only 9 #[true, true, true, true, true, true, true, true, true, true] (by kernel_rfl) rfl rfl (by rfl) (fun K3 hK3 => ?_)
    go_simp
    refine hK3 _ _ (fun h => absurd h (by decide)) (wpAnyT_done (by kernel_rfl) ?_ _)
    clear hK3 K3
    clear hS0 hSb
    go_wp2
    go_ret3
    exact HEnd.out
end Go.Proofs.YtcphapdjimeoaaaGreat

namespace Go.Proofs.YtcphapdjimeoaaaGreat
open Go.RowKit Num Ef

set_option maxHeartbeats 1000000 in
set_option maxRecDepth 10000 in
theorem efLen_any {W : World} {g : Nat} {ids : List Int} (h : EfLst W g ids) : Calls Tryz.prog 33 #[.pointer (some ⟨g, 0, none⟩)] W fun e w' => e = .returned (.int .i64 (ids.length : Int)) ∧ Ext W w' := by
  obtain ⟨k, A1, c1, A2, c2, hW, hP, hl, -⟩ := h
  have C := efCount_any k A1 ids.length c1 A2 ids.length c2 W
  unfold partsV at C
  clear hP
  generalize ids.length = n at *
  go_enter Tryz.func33, Tryz.ntmps33
  go_wp2_with (refine wpList_load_mid rfl 119 (.tmp 7) rfl g 0 rfl [.int .i64 (k : Int), .slice A1 n c1, .slice A2 n c2] _ (whole_range0 hW) Tryz.underlying119 rfl (parts_infoL ..) ?_)
  refine C.mono ?_
  rintro e w2 ⟨rfl, hE⟩
  go_wp2
  go_ret
  exact ⟨rfl, hE⟩
theorem efLenNil_any (W : World) : Calls Tryz.prog 33 #[.pointer none] W fun e w' => e = .returned (.int .i64 0) ∧ W = w' := by
  go_enter Tryz.func33, Tryz.ntmps33
  go_wp2
  go_ret
  exact ⟨rfl, rfl⟩

theorem Ef.atTo_out {W w' : World} {ids : List Int} {i : Int} (h : ¬ (0 ≤ i ∧ i < (ids.length : Int))) (hE : Ext W w') : AtTo W ids i (.returned (.tuple #[.int .i64 0, .bool false])) w' := by
  refine ⟨?_, hE⟩
  unfold atE
  rw [if_neg h, decide_eq_false h]

set_option maxHeartbeats 1000000 in
set_option maxRecDepth 10000 in
theorem efAllO_any {W : World} {g : Nat} {ids : List Int} (h : EfLst W g ids) : Calls Tryz.prog 34 #[.pointer (some ⟨g, 0, none⟩)] W fun e w' => ∃ v, e = .returned v ∧ OwnI w' W.heap.size v ids ∧ Ext W w' := by
  have CL := efLen_any h
  obtain ⟨k, A1, c1, A2, c2, hW, hP, hl, -⟩ := h
  have CN := fun (j : Nat) (hj : j < ids.length) Wx (hE : Ext W Wx) => efNumber_any (c1 := c1) (c2 := c2) (hP.ext hE) hj
  unfold partsV at CN
  clear hP
  obtain ⟨n, hn⟩ : ∃ n, n = ids.length := ⟨_, rfl⟩
  rw [← hn] at CL hW CN hl
  have HN := hide hn
  have HW := hide hW
  clear hn hW
  go_enter Tryz.func34, Tryz.ntmps34
  go_wp2_with fail
  refine CL.mono ?_
  rintro e w2 ⟨rfl, hE2⟩
  have HE2 := hide hE2
  clear CL hE2
  have hnm : n ≤ 1000000 := by omega
  go_wp2_with (refine wpList_makeN (n := n) rfl (.tmp 6) (.tmp 6) rfl rfl rfl hnm ?_; intro w4 hO4 hE4)
  obtain ⟨gs, hgs⟩ : ∃ k, k = w2.heap.size := ⟨_, rfl⟩
  rw [← hgs] at hO4 ⊢
  have hgl : W.heap.size ≤ gs := by rw [hgs]; exact HE2.out.le
  have HE4 := hide (HE2.out.trans hE4)
  have HO4 := hide hO4
  clear hO4 hE4 hgs
  go_loopw [10] (fun x wr => ∃ i : Nat, i ≤ n ∧ x = .int .i64 (i : Int) ∧ OwnI wr gs (.slice (some ⟨gs, 0, none⟩) n n) (ids.take i ++ List.replicate (n - i) 0) ∧ Ext W wr) (fun x _ => n - (intOf x).toNat)
  case atStart => exact ⟨0, by omega, rfl, by simpa using HO4.out, HE4.out⟩
  case round =>
    clear HO4 HE4
    obtain ⟨i, hi, rfl, hO, hE⟩ := hrel
    have HO := hide hO
    have HE := hide hE
    clear hO hE
    by_cases hlt : i < n
    · have hiI : (i : Int) < (n : Int) := by omega
      have hWr := HW.out.ext HE.out
      have C2 := CN i hlt wr HE.out
      obtain ⟨y, hy⟩ : ∃ y, y = ids.getD i 0 := ⟨_, rfl⟩
      rw [← hy] at C2
      have HY := hide hy
      clear hy
      go_wp2_with (refine wpList_load_mid rfl 119 (.tmp 17) rfl g 0 rfl [.int .i64 (k : Int), .slice A1 n c1, .slice A2 n c2] _ (whole_range0 hWr) Tryz.underlying119 rfl (parts_infoL ..) ?_)
      refine C2.mono ?_
      rintro e w5 ⟨rfl, hE5⟩
      have hO5 := HO.out.ext hE5
      obtain ⟨e5, f5⟩ := hO5.cell (i := i) (by rw [List.length_append, List.length_take, List.length_replicate]; have := HN.out; omega)
      have HSet := hide (show (ids.take i ++ List.replicate (n - i) 0).set i y = ids.take (i + 1) ++ List.replicate (n - (i + 1)) 0 by
        have hl : (ids.take i).length = i := by rw [List.length_take]; have := HN.out; omega
        rw [List.set_append_right _ _ (by rw [hl]; exact Nat.le_refl _), hl, Nat.sub_self, show n - i = n - (i + 1) + 1 by omega, List.replicate_succ, List.set_cons_zero, List.take_add_one, List.getElem?_eq_getElem (by have := HN.out; omega), HY.out, List.getD_eq_getElem?_getD, List.getElem?_eq_getElem (by have := HN.out; omega), List.append_assoc]
        rfl)
      have HO5 := hide hO5
      have HE5 := hide (HE.out.trans hE5)
      obtain ⟨z, hz⟩ : ∃ z, z = (ids.take i ++ List.replicate (n - i) 0).getD i 0 := ⟨_, rfl⟩
      rw [← hz] at e5
      clear hO5 hE5 C2 hWr hz
      go_wp2
      go_roundw
      case rel => exact ⟨i + 1, by omega, by go_num, by rw [← HSet.out]; exact HO5.out.put i y, HE5.out.setCell hgl _⟩
      case measure => simp [intOf]; omega
    · obtain rfl : n = i := by omega
      go_wp2
      go_ret
      have h1 := HO.out
      rw [Nat.sub_self, List.replicate_zero, List.append_nil, HN.out, List.take_length, ← HN.out] at h1
      exact ⟨_, rfl, ⟨h1.1, h1.2.imp_right fun ⟨x, cap, cur, e, hb, r⟩ => ⟨x, cap, cur, e, Nat.le_trans hgl hb, r⟩⟩, HE.out⟩
theorem efAll_any {W : World} {g : Nat} {ids : List Int} (h : EfLst W g ids) : Calls Tryz.prog 34 #[.pointer (some ⟨g, 0, none⟩)] W (AllTo W ids) :=
  (efAllO_any h).mono fun _ _ ⟨_, h1, h2, h3⟩ => by
    obtain ⟨A, c, rfl, q1, q2, q3⟩ := h2.form2
    exact ⟨A, c, h1, q1, q2, q3, h3⟩
set_option maxHeartbeats 1000000 in
set_option maxRecDepth 10000 in
theorem efAllNil_any (W : World) : Calls Tryz.prog 34 #[.pointer none] W fun e w' => ∃ A c, e = .returned (.slice A 0 c) ∧ Ext W w' := by
  have CL := efLenNil_any W
  go_enter Tryz.func34, Tryz.ntmps34
  go_wp2_with fail
  refine CL.mono ?_
  rintro e w2 ⟨rfl, rfl⟩
  clear CL
  go_wp2_with (refine wpList_makeN (n := 0) rfl (.tmp 6) (.tmp 6) rfl rfl rfl (by omega) ?_; intro w4 hO4 hE4)
  go_loopw [10] (fun x wr => x = .int .i64 0 ∧ wr = w4) (fun _ _ => 0)
  case atStart => exact ⟨rfl, rfl⟩
  case round =>
    obtain ⟨rfl, rfl⟩ := hrel
    go_wp2
    go_ret
    exact ⟨_, _, rfl, hE4⟩
end Go.Proofs.YtcphapdjimeoaaaGreat

