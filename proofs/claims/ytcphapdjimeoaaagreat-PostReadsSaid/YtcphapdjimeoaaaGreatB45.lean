/- The program's Read of chapter 18. -/
import Derived.Test.YtcphapdjimeoaaaGreatB02
import Derived.Test.YtcphapdjimeoaaaGreatB21
import Derived.Test.YtcphapdjimeoaaaGreatB32
import Derived.Test.YtcphapdjimeoaaaGreatB40
import Derived.Test.YtcphapdjimeoaaaGreatB44
import Derived.Deep.DeepCutAuto
namespace Go.Proofs.YtcphapdjimeoaaaGreat
open Go.RowKit Pst

theorem Pst.read_prog {size bound : Int} {b : List UInt8} (hb : 0 ≤ bound ∧ bound ≤ 20000) : readE size bound b = if (Dic.readE b size).2.2 ≠ 0 then (⟨[], []⟩, (Dic.readE b size).2.2) else
    if (resL bound b (Dic.readE b size).1.length (Dic.readE b size).2.1).2 ≠ 0 then (⟨[], []⟩, (resL bound b (Dic.readE b size).1.length (Dic.readE b size).2.1).2) else (⟨(Dic.readE b size).1, (resL bound b (Dic.readE b size).1.length (Dic.readE b size).2.1).1⟩, 0) := by
  unfold readE
  by_cases hs : size < 1 ∨ 64 < size
  · have e : Dic.readE b size = ([], 0, 13) := by unfold Dic.readE; rw [if_pos hs]
    rw [if_pos (by omega), e, if_pos (by decide)]
  · have e : Dic.readE b size = Dic.readR b size.toNat := by unfold Dic.readE; rw [if_neg hs]
    rw [if_neg (by omega), e]
    unfold resL
    generalize Dic.readR b size.toNat = d
    obtain ⟨T, q, e0⟩ := d
    dsimp only
    generalize listsR bound b T.length q = r
    obtain ⟨L, p, e1⟩ := r
    dsimp only
    by_cases h1 : e0 = 0
    · by_cases h2 : e1 = 0
      · by_cases h3 : p < b.length
        · simp [h1, h2, h3]
        · simp [h1, h2, h3]
      · simp [h1, h2]
    · simp [h1]

attribute [local go_sem ↓] run_cut
set_option maxHeartbeats 4000000 in
set_option maxRecDepth 100000 in
theorem pRead18_any (size bound : Int) (b : List UInt8) (A : Option Addr) (c : Nat) (w : World) (hs64 : IsI64 size) (hnc : b.length ≤ c) (hcm : c ≤ maxLen) (hbl : b.length ≤ 40000) (hB : Bytes w w.heap.size A b.length b) :
    Calls Tryz.prog 6 #[.int .i64 size, .int .i64 bound, .slice A b.length c] w (RdIxTo w (readE size bound b)) := by
  have CM := fun W => pMayBound_any bound W
  obtain ⟨w1, hw1⟩ : ∃ w1, w1 = w.alloc (.cells #[.slice none 0 0, .slice none 0 0] 27) := ⟨_, rfl⟩
  have HE1 := hide (show Ext w w1 by rw [hw1]; exact extNew w _)
  have HW1 := hide (show Whole w1 w.heap.size 27 #[.slice none 0 0, .slice none 0 0] by rw [hw1]; exact Whole.new w _ _)
  have Hw1 := hide hw1
  clear hw1
  by_cases hb : 0 ≤ bound ∧ bound ≤ 20000
  case neg =>
    have HR := hide (show readE size bound b = (⟨[], []⟩, 13) by unfold readE; rw [if_pos (by omega)])
    rw [decide_eq_false hb] at CM
    generalize readE size bound b = res at *
    generalize b.length = n at *
    clear hb hB
    go_enter Tryz.func6, Tryz.ntmps6
    go_wp2_with fail
    rw [← Hw1.out]
    refine (CM _).mono ?_
    rintro e w2 ⟨rfl, rfl⟩
    clear CM
    go_wp2_with (refine wpList_storeW rfl 27 (.tmp 6) (.tmp 15) rfl rfl rfl HW1.out rfl ix_info (ix_one _ _ _ _ _ _) ?_; intro w6 hW6 hG6 _)
    refine bodyPost_ret (results_ixe rfl _ rfl rfl hW6 rfl) rfl ?_
    rw [HR.out]
    exact ⟨⟨none, 0, 0, none, 0, 0, ⟨[], []⟩⟩, rfl, rfl, ixNil _, Below.grown HE1.out hG6 HE1.out.le (fun k hk => by cases hk; omega)⟩
  have HX := hide (read_prog (size := size) (b := b) hb)
  rw [decide_eq_true hb] at CM
  have CD := dReadC_any w1 size b A c w1 (Ext.refl w1) hs64 hnc hcm hbl (HE1.out.bytes hB)
  have HF := hide (fun T q0 => Dic.one_facts (size := size) (b := b) (l := T) (n := q0))
  obtain ⟨T, q0, e0, hT⟩ : ∃ T q e, Dic.readE b size = (T, q, e) := ⟨_, _, _, rfl⟩
  rw [hT] at HX CD HF
  dsimp only at HX
  unfold RdToD at CD
  dsimp only at CD
  have HB := hide hB
  have HBl := hide hbl
  generalize readE size bound b = res at *
  obtain ⟨n, hn⟩ : ∃ n, n = b.length := ⟨_, rfl⟩
  rw [← hn] at CD hnc ⊢
  have HN := hide hn
  have HBd := hide hb
  clear hT hB hbl hn hb
  by_cases he0 : e0 = 0
  · subst he0
    have HFa := hide (HF.out T q0 rfl)
    rw [if_neg (by simp)] at HX
    generalize hRL : resL bound b T.length q0 = rl at *
    have HRL := hide hRL
    have hq0 : q0 ≤ n := by have := HFa.out; have := HN.out; omega
    have hq0I : (q0 : Int) ≤ (n : Int) := by omega
    clear HF hRL
    go_enter Tryz.func6, Tryz.ntmps6
    go_wp2_with fail
    rw [← Hw1.out]
    refine (CM _).mono ?_
    rintro e w2 ⟨rfl, rfl⟩
    clear CM
    go_wp2_with fail
    refine CD.mono ?_
    rintro e w3 ⟨hE3, hD3, -⟩
    obtain ⟨g, rfl, hG⟩ := hD3 (by trivial)
    have HG := hide hG
    have HE3 := hide (HE1.out.trans hE3)
    have HW3 := hide (HW1.out.ext hE3)
    have hcx : n - q0 ≤ c - q0 := by omega
    clear CD hD3 hG hE3
    obtain ⟨k, hk⟩ : ∃ k, k = T.length := ⟨_, rfl⟩
    have CL := hide (fun (W : World) (hE : Ext w3 W) => dLenC_any W T g W (Ext.refl W) (dicLst_keep HG.out hE))
    have CR := hide (fun (W : World) (hE : Ext w3 W) => pReadLists_any bound b q0 T.length (cutAt A c q0) (n - q0) (c - q0) W HBd.out (by rw [HN.out, List.length_drop]) (by have := HN.out; omega) hcx (by omega) HBl.out (by have := HFa.out; have := HBl.out; omega)
      (by have h1 := ((HE3.out.trans hE).bytes HB.out).drop (k := q0) (c := c) (by have := HN.out; omega) (by have := HN.out; omega); rw [← HN.out] at h1; exact h1))
    rw [HRL.out] at CR
    unfold LsTo at CR
    rw [← hk] at CL CR
    have HK := hide hk
    obtain ⟨wa, rfl⟩ : ∃ W, W = w3 := ⟨_, rfl⟩
    clear hk
    · go_upto_region 6 with fail
      refine wp_region_T (fun W => Ext wa W) 11 12 #[false, false, false, false, false, false, false, false, false, false, false, false] (by kernel_rfl) rfl rfl (Ext.refl wa).drew ?_
      intro hS0
      refine wpAnyT_take 0 (some 28) (.int .i64 bound) #[true, false, false, false, false, false, false, false, false, false, false, false] rfl rfl rfl (by kernel_rfl) (fun _ _ _ h => h) hS0 (by rfl) (fun W hX => by go_simp) ?_
      simp only [Act.put, List.setIfInBounds_toArray, List.set_cons_zero, List.set_cons_succ]
      refine wpAnyT_take 1 (some 29) (.pointer (some ⟨g, 0, none⟩)) #[true, true, false, false, false, false, false, false, false, false, false, false] rfl rfl rfl (by kernel_rfl) (fun _ _ _ h => h) hS0 (by rfl) (fun W hX => by go_simp) ?_
      simp only [Act.put, List.setIfInBounds_toArray, List.set_cons_zero, List.set_cons_succ]
      refine wpAnyT_take 3 (some 31) (.slice A n c) #[true, true, false, true, false, false, false, false, false, false, false, false] rfl rfl rfl (by kernel_rfl) (fun _ _ _ h => h) hS0 (by rfl) (fun W hX => by go_simp) ?_
      simp only [Act.put, List.setIfInBounds_toArray, List.set_cons_zero, List.set_cons_succ]
      refine wpAnyT_take 4 (some 32) (.int .i64 (q0 : Int)) #[true, true, false, true, true, false, false, false, false, false, false, false] rfl rfl rfl (by kernel_rfl) (fun _ _ _ h => h) hS0 (by rfl) (fun W hX => by go_simp) ?_
      simp only [Act.put, List.setIfInBounds_toArray, List.set_cons_zero, List.set_cons_succ]
      refine wpAnyT_take 5 (some 33) (.slice (cutAt A c q0) (n - q0) (c - q0)) #[true, true, false, true, true, true, false, false, false, false, false, false] rfl rfl rfl (by kernel_rfl) (fun _ _ _ h => h) hS0 (by rfl) (fun W hX => by go_simp) ?_
      simp only [Act.put, List.setIfInBounds_toArray, List.set_cons_zero, List.set_cons_succ]
      refine wpAnyT_only 2 #[true, true, true, true, true, true, false, false, false, false, false, false] (by kernel_rfl) rfl rfl (by rfl) (fun K0 hK0 => ?_)
      go_simp
      go_at_call 17
      refine (CL.out _ hS0).mono ?_
      rintro e wc ⟨rfl, hEc⟩
      have hX1 := hS0.trans hEc
      refine hK0 _ _ (fun _ => hX1) ?_
      clear hK0 K0
      refine wpAnyT_only 6 #[true, true, true, true, true, true, true, false, false, false, false, false] (by kernel_rfl) rfl rfl (by rfl) (fun K1 hK1 => ?_)
      go_simp
      go_at_call 16
      refine (CR.out _ hX1).mono ?_
      rintro e wd ⟨v6, rfl, hO6, hEd⟩
      have hX2 := hX1.trans hEd
      refine hK1 _ _ (fun _ => hX2) ?_
      clear hK1 K1
      refine wpAnyT_only 7 #[true, true, true, true, true, true, true, true, false, false, false, false] (by kernel_rfl) rfl rfl (by rfl) (fun K2 hK2 => ?_)
      go_simp
      refine hK2 _ _ (fun _ => hX2) ?_
      clear hK2 K2
      refine wpAnyT_take 8 (some 35) (v6) #[true, true, true, true, true, true, true, true, true, false, false, false] rfl rfl rfl (by kernel_rfl) (fun _ _ _ h => h) hX2 (by rfl) (fun W hX => by go_simp) ?_
      simp only [Act.put, List.setIfInBounds_toArray, List.set_cons_zero, List.set_cons_succ]
      refine wpAnyT_take 9 (some 36) (.int .i64 rl.2) #[true, true, true, true, true, true, true, true, true, true, false, false] rfl rfl rfl (by kernel_rfl) (fun _ _ _ h => h) hX2 (by rfl) (fun W hX => by go_simp) ?_
      simp only [Act.put, List.setIfInBounds_toArray, List.set_cons_zero, List.set_cons_succ]
      refine wpAnyT_only 10 #[true, true, true, true, true, true, true, true, true, true, true, false] (by kernel_rfl) rfl rfl (by rfl) (fun K5 hK5 => ?_)
      go_simp
      refine hK5 _ _ (fun _ => hX2) ?_
      clear hK5 K5
      refine wpAnyT_only 11 #[true, true, true, true, true, true, true, true, true, true, true, true] (by kernel_rfl) rfl rfl (by rfl) (fun K6 hK6 => ?_)
      go_simp
      refine hK6 _ _ (fun h => absurd h (by decide)) (wpAnyT_done (by kernel_rfl) ?_ _)
      clear hK6 K6
      have HX2 := hide (HE3.out.trans hX2)
      have HW4 := hide (HW3.out.ext hX2)
      have HG4 := hide (dicLst_keep HG.out hX2)
      have HLs := hide hO6
      obtain ⟨Al, cl, hv6, -, -, -⟩ := hO6.form
      subst hv6
      obtain ⟨L, e1⟩ := rl
      dsimp only at HX HLs ⊢
      have HRa := hide (And.intro HB.out HK.out)
      have hwd := HX2.out.le
      clear hO6 hX2 hX1 hEd hEc hS0 CL CR HRL
      generalize hml : L.length = ml at *
      have HMl := hide hml
      clear hml
      by_cases he1 : e1 = 0
      · subst he1
        have HR := hide (show res = (⟨T, L⟩, 0) by rw [HX.out, if_neg (by simp)])
        have CA := dAllC_any wd T g wd (Ext.refl wd) HG4.out
        unfold MadeTx at CA
        rw [← HK.out] at CA
        clear HX
        go_wp2_with fail
        refine CA.mono ?_
        rintro e w6 ⟨At, ct, rfl, t1, t2, t3, hE6⟩
        have HT6 := hide t3
        have HE6 := hide hE6
        have HW6 := hide (HW4.out.ext hE6)
        clear CA t3 hE6
        go_wp2_with (refine wpList_storeW rfl 27 (.tmp 6) (.tmp 44) rfl rfl rfl HW6.out rfl ix_info (ix_one _ _ _ _ _ _) ?_; intro w7 hW7 hG7 _)
        have hL7 := (HLs.out.ext HE6.out).kept HW6.out (by decide) (by decide) hG7
        obtain ⟨Az, cz, hz, z1, z2, z3⟩ := hL7.form
        injection hz with q1 q2 q3
        subst q1 q3
        rw [HMl.out] at z1 z3
        have hT7 : TextsAt w7 w7.heap.size At k T := (HT6.out.keptX HW6.out hG7)
        refine bodyPost_ret (results_ixe rfl _ rfl rfl hW7 rfl) rfl ?_
        rw [HR.out]
        exact ⟨⟨At, k, ct, Al, ml, cl, ⟨T, L⟩⟩, rfl, rfl, ⟨⟨t1, t2, hT7⟩, z1, z2, z3⟩, Below.grown (HX2.out.trans HE6.out) hG7 (HX2.out.trans HE6.out).le (fun k hk => by cases hk; omega)⟩
      · have he1' : (e1 != 0) = true := by simpa using he1
        have HR := hide (show res = (⟨[], []⟩, e1) by rw [HX.out, if_pos he1])
        clear HX he1
        go_wp2_with (refine wpList_storeW rfl 27 (.tmp 6) (.tmp 39) rfl rfl rfl HW4.out rfl ix_info (ix_one _ _ _ _ _ _) ?_; intro w7 hW7 hG7 _)
        refine bodyPost_ret (results_ixe rfl _ rfl rfl hW7 rfl) rfl ?_
        rw [HR.out]
        exact ⟨⟨none, 0, 0, none, 0, 0, ⟨[], []⟩⟩, rfl, rfl, ixNil _, Below.grown HX2.out hG7 HX2.out.le (fun k hk => by cases hk; omega)⟩
  · have hne : (e0 != 0) = true := by simpa using he0
    have HR := hide (show res = (⟨[], []⟩, e0) by rw [HX.out, if_pos he0])
    clear HX HF
    go_enter Tryz.func6, Tryz.ntmps6
    go_wp2_with fail
    rw [← Hw1.out]
    refine (CM _).mono ?_
    rintro e w2 ⟨rfl, rfl⟩
    clear CM
    go_wp2_with fail
    refine CD.mono ?_
    rintro e w3 ⟨hE3, -, hD3⟩
    obtain rfl := hD3 he0
    have HE3 := hide (HE1.out.trans hE3)
    have HW3 := hide (HW1.out.ext hE3)
    clear CD hD3 hE3 he0
    go_wp2_with (refine wpList_storeW rfl 27 (.tmp 6) (.tmp 25) rfl rfl rfl HW3.out rfl ix_info (ix_one _ _ _ _ _ _) ?_; intro w6 hW6 hG6 _)
    refine bodyPost_ret (results_ixe rfl _ rfl rfl hW6 rfl) rfl ?_
    rw [HR.out]
    exact ⟨⟨none, 0, 0, none, 0, 0, ⟨[], []⟩⟩, rfl, rfl, ixNil _, Below.grown HE3.out hG6 HE3.out.le (fun k hk => by cases hk; omega)⟩
theorem pReadC_any (w : World) : PReadC w := fun size bound b A c W _ hs _ hnc hcm hbl hB => pRead18_any size bound b A c W hs hnc hcm (by omega) hB
end Go.Proofs.YtcphapdjimeoaaaGreat

