/- The document's Read of chapter 16. -/
import Derived.Test.YtcphapdjimeoaaaGreatB29
import Derived.Deep.DeepCutAuto
namespace Go.Proofs.YtcphapdjimeoaaaGreat
open Go.RowKit Wrd Dic Num

attribute [local go_sem ↓] run_cut run_txtTop run_catNil
set_option maxHeartbeats 40000000 in
set_option maxRecDepth 100000 in
theorem refRead16_any (size : Nat) (A : Option Addr) (n c : Nat) (b : List UInt8) (w : World) (hs : 1 ≤ size) (hs2 : size ≤ 64) (_ : n ≤ c) (hn : n ≤ 800) (hb : Bytes w w.heap.size A n b) :
    Calls Tryz.prog 19 #[.int .i64 (size : Int), .slice A n c] w (Rd16To w (readR b size)) := by
  have hbl := hb.1
  have CN := refNew_any A n c b w (by omega) hb
  have hsI : ¬ (size : Int) < 1 := by omega
  have hs2I : ¬ (64 : Int) < (size : Int) := by omega
  have HX := hide (show readR b size = if (intR b 0 0 1048576).2.2 ≠ 0 then ([], 0, (intR b 0 0 1048576).2.2) else
    if (sizesR b (bucketsN size (intR b 0 0 1048576).1) (intR b 0 0 1048576).2.1).2.2 ≠ 0 then ([], 0, (sizesR b (bucketsN size (intR b 0 0 1048576).1) (intR b 0 0 1048576).2.1).2.2) else
    if (partsR b size (sizesR b (bucketsN size (intR b 0 0 1048576).1) (intR b 0 0 1048576).2.1).1 (intR b 0 0 1048576).1 [] (sizesR b (bucketsN size (intR b 0 0 1048576).1) (intR b 0 0 1048576).2.1).2.1).2.2 ≠ 0 then ([], 0, (partsR b size (sizesR b (bucketsN size (intR b 0 0 1048576).1) (intR b 0 0 1048576).2.1).1 (intR b 0 0 1048576).1 [] (sizesR b (bucketsN size (intR b 0 0 1048576).1) (intR b 0 0 1048576).2.1).2.1).2.2)
    else partsR b size (sizesR b (bucketsN size (intR b 0 0 1048576).1) (intR b 0 0 1048576).2.1).1 (intR b 0 0 1048576).1 [] (sizesR b (bucketsN size (intR b 0 0 1048576).1) (intR b 0 0 1048576).2.1).2.1 from rfl)
  have HLe := hide (Num.intR_le b 0 0 1048576)
  have HB := hide hb
  have HBl := hide hbl
  generalize hres : readR b size = res at *
  clear hb hbl hres
  go_enter Tryz.func19, Tryz.ntmps19
  go_wp2_with fail
  refine CN.mono ?_
  rintro e w1 ⟨g3, rfl, hC1, hE1⟩
  have C2 := curInt_any hC1 1048576 (by omega)
  have HE1 := hide hE1
  have hg3 := hC1.le
  clear CN hC1 hE1
  go_wp2_with fail
  refine C2.mono ?_
  rintro e w2 ⟨rfl, hC2, hM2⟩
  obtain ⟨N, q, er, hint⟩ : ∃ x y z, intR b 0 0 1048576 = (x, y, z) := ⟨_, _, _, rfl⟩
  rw [hint] at hC2 HX HLe ⊢
  dsimp only at hC2 HX HLe ⊢
  have HE2 := hide (show Ext w w2 from Below.trans HE1.out (hM2.below HE1.out.le hg3 (fun k hk => by cases hk)))
  have HC2 := hide hC2
  obtain ⟨v0, hW3, -⟩ := hC2
  have a2 := hW3.at 2 (u := .int .i64 er) rfl
  clear C2 hM2 hW3 hint
  by_cases he : er = 0
  · subst he
    obtain ⟨-, hNb, hqb⟩ := HLe.out rfl
    rw [if_neg (by simp)] at HX
    obtain ⟨M, hM⟩ : ∃ M, M = bucketsN size N := ⟨_, rfl⟩
    rw [← hM] at HX
    have HMlt := hide (fun j => show j < M ↔ j * size < N by rw [hM]; exact buckets_lt hs)
    have HM := hide hM
    clear hM HLe
    go_wp2_with fail
    clear a2
    go_loopw [10, 9] (fun x v wr => ∃ (j p : Nat) (zs : List Nat), j ≤ M ∧ j = zs.length ∧ x = .int .i64 ((j * size : Nat) : Int) ∧ j ≤ p ∧ OwnI wr w.heap.size v (zs.map fun (z : Nat) => (z : Int)) ∧ RefC wr w.heap.size g3 b p 0 ∧ Ext w wr ∧ (sizesR b M q).2.2 = (sizesR b (M - j) p).2.2 ∧ ((sizesR b (M - j) p).2.2 = 0 → sizesR b M q = (zs ++ (sizesR b (M - j) p).1, (sizesR b (M - j) p).2.1, 0))) (fun x _ _ => N - (intOf x).toNat)
    case atStart => exact ⟨0, q, [], by omega, rfl, by rw [Nat.zero_mul]; rfl, by omega, OwnI.nil _ _, HC2.out, HE2.out, rfl, fun h => by rw [Nat.sub_zero] at h ⊢; rw [List.nil_append, ← h]⟩
    case round =>
      clear HC2 HE2
      obtain ⟨j, p, zs, hj, hjz, rfl, hjp, hO, hC, hE, hq1, hq2⟩ := hrel
      have hpb := hC.bounds.1
      have hbl := HBl.out
      have HO := hide hO
      have HE := hide hE
      have HJZ := hide hjz
      by_cases hlt : j < M
      · have hltN := (HMlt.out j).1 hlt
        have C5 := curInt_any hC 2000 (by omega)
        have hgt := Num.intR_gt b p 0 2000
        have hle := Num.intR_le b p 0 2000
        obtain ⟨z, p', e5, hint⟩ : ∃ x y z, intR b p 0 2000 = (x, y, z) := ⟨_, _, _, rfl⟩
        rw [hint] at C5 hgt hle
        obtain ⟨f, hf⟩ : ∃ f, M - j = f + 1 := ⟨M - j - 1, by omega⟩
        obtain ⟨s1, s2⟩ := sizes_step (k := f) hint
        rw [hf] at hq1 hq2
        obtain ⟨js, hjs⟩ : ∃ js, js = j * size := ⟨_, rfl⟩
        have hjs2 : (j + 1) * size = js + size := by rw [hjs, Nat.succ_mul]
        have hltI : (js : Int) < (N : Int) := by rw [hjs]; omega
        rw [← hjs] at hltN ⊢
        dsimp only at C5 hgt hle
        obtain ⟨cs0, hW0⟩ := hC.whole16
        have HNe := hide (row_notKind hO hW0 (by decide))
        clear hint hC hE hO hjz hbl hW0
        by_cases he5 : e5 = 0
        · subst he5
          obtain ⟨-, hz2, hp2⟩ := hle rfl
          have hgt2 := hgt rfl
          obtain ⟨t1, t2⟩ := s2 rfl
          have HN1 := hide (hq1.trans t1)
          have HN2 := hide (show (sizesR b f p').2.2 = 0 → sizesR b M q = ((zs ++ [z]) ++ (sizesR b f p').1, (sizesR b f p').2.1, 0) from fun h => by
            rw [hq2 (t1.trans h), t2 h]
            simp)
          have HFi := hide (show f = M - (j + 1) by omega)
          have HJs := hide hjs2
          clear s1 s2 hq1 hq2 t1 t2 hgt hle hf hjs hjs2
          go_wp2_with fail
          refine C5.mono ?_
          rintro e w5 ⟨rfl, hC5, hM5⟩
          have HO5 := hide (show OwnI w5 w.heap.size _ _ from row_mod hM5 HO.out HNe.out)
          have HE5 := hide (show Ext w w5 from Below.trans HE.out (hM5.below HE.out.le hg3 (fun k hk => by cases hk)))
          have HC5 := hide hC5
          clear C5 hC5 hM5
          go_wp2_with (at_builtin; refine wpList_appIB rfl (.tmp 45) (.tmp 48) rfl rfl (z : Int) (HO5.out.ext (extNew w5 _)) rfl (by have := HJZ.out; have := HBl.out; rw [List.length_map]; omega) (by have := HE5.out.le; omega) ?_; intro v6 w6 hO6 hG6; have hC6 := (HC5.out.ext (extNew w5 _)).grow16 (HO5.out.ext (extNew w5 _)) (by decide) (by decide) hG6; have HE6 := hide (show Ext w w6 from Below.grown (HE5.out.trans (extNew w5 _)) hG6 (HE5.out.trans (extNew w5 _)).le (fun k hk => by have := (HO5.out.lt k hk).1; omega)); obtain ⟨_, _, -, -, a2, -⟩ := hC6.cells; have HC6 := hide hC6; have HO6 := hide hO6; clear hC6 hO6 hG6)
          refine ⟨⟨j + 1, p', zs ++ [z], by omega, by rw [List.length_append, List.length_singleton, ← HJZ.out], by rw [HJs.out]; go_num, by omega, by rw [List.map_append]; exact HO6.out, HC6.out, HE6.out, by rw [← HFi.out]; exact HN1.out, by rw [← HFi.out]; exact HN2.out⟩, by simp [intOf]; omega⟩
        · have he' : (e5 != 0) = true := by simpa using he5
          have HR := hide (show res = ([], 0, e5) by
            have h := hq1.trans (s1 he5)
            rw [HX.out, h, if_pos he5])
          clear s1 s2 hq1 hq2 hgt hle hf hjs hjs2 HX
          go_wp2_with fail
          refine C5.mono ?_
          rintro e w5 ⟨rfl, hC5, hM5⟩
          have HO5 := hide (show OwnI w5 w.heap.size _ _ from row_mod hM5 HO.out HNe.out)
          have HE5 := hide (show Ext w w5 from Below.trans HE.out (hM5.below HE.out.le hg3 (fun k hk => by cases hk)))
          have HC5 := hide hC5
          clear C5 hC5 hM5
          go_wp2_with (at_builtin; refine wpList_appIB rfl (.tmp 45) (.tmp 48) rfl rfl (z : Int) (HO5.out.ext (extNew w5 _)) rfl (by have := HJZ.out; have := HBl.out; rw [List.length_map]; omega) (by have := HE5.out.le; omega) ?_; intro v6 w6 hO6 hG6; have hC6 := (HC5.out.ext (extNew w5 _)).grow16 (HO5.out.ext (extNew w5 _)) (by decide) (by decide) hG6; have HE6 := hide (show Ext w w6 from Below.grown (HE5.out.trans (extNew w5 _)) hG6 (HE5.out.trans (extNew w5 _)).le (fun k hk => by have := (HO5.out.lt k hk).1; omega)); obtain ⟨_, _, -, -, a2, -⟩ := hC6.cells; clear hC6 hO6 hG6)
          go_quiet (fail)
          go_wp2
          refine bodyPost_ret (results_tmp3 rfl _ _ _) rfl ?_
          rw [HR.out]
          exact ⟨none, 0, rfl, Nat.le_refl _, Nat.zero_le _, ⟨rfl, .inl rfl⟩, HE6.out.drewN _⟩
      · have hltI : ¬ ((j * size : Nat) : Int) < (N : Int) := by have := (HMlt.out j).2; omega
        obtain rfl : M = j := by omega
        rw [Nat.sub_self, sizesR] at hq2
        have hS := hq2 rfl
        dsimp only at hS
        rw [List.append_nil] at hS
        rw [hS, if_neg (by simp)] at HX
        obtain ⟨Az, cz, hvz, hz1, hzI⟩ := OwnI.form hO
        rw [List.length_map, ← hjz] at hvz hz1 hzI
        subst hvz
        have hzl : zs.length = M := hjz.symm
        have hM8 : M ≤ 800 := by omega
        have HC := hide hC
        obtain ⟨wz, rfl⟩ : ∃ W, W = wr := ⟨_, rfl⟩
        clear hq1 hq2 hS hlt hO hE hC hzI hjz hbl
        go_wp2_with fail
        have HP0 := hide (show partsR b size (zs.drop 0) (N - ([] : List (List UInt8)).length) (([] : List (List UInt8)).getLastD []) p = partsR b size zs N [] p by simp)
        obtain ⟨F, hF⟩ : ∃ F, F = partsR b size zs N [] p := ⟨_, rfl⟩
        rw [← hF] at HX HP0
        clear hF
        go_loopw [12, 11] (fun x v wr => ∃ (i p : Nat) (T : List (List UInt8)), i ≤ M ∧ x = .int .i64 (i : Int) ∧ T.length ≤ 64 * i ∧ (T.getLastD []).length ≤ 25 ∧ OwnTx wr w.heap.size v T ∧ OwnI wr w.heap.size (.slice Az M cz) (zs.map fun (z : Nat) => (z : Int)) ∧ RefC wr w.heap.size g3 b p 0 ∧ Ext w wr ∧
          F.2.2 = (partsR b size (zs.drop i) (N - T.length) (T.getLastD []) p).2.2 ∧ ((partsR b size (zs.drop i) (N - T.length) (T.getLastD []) p).2.2 = 0 → F = (T ++ (partsR b size (zs.drop i) (N - T.length) (T.getLastD []) p).1, (partsR b size (zs.drop i) (N - T.length) (T.getLastD []) p).2.1, 0))) (fun x _ _ => M - (intOf x).toNat)
        case atStart => exact ⟨0, p, [], by omega, rfl, by simp, by simp, OwnTx.nil _ _, HO.out, HC.out, HE.out, by rw [HP0.out], fun h => by rw [HP0.out] at h ⊢; rw [List.nil_append, ← h]⟩
        case round =>
          clear HO HC HE HP0
          obtain ⟨i, p1, T, hi, rfl, hTl, hTw, hT, hO, hC, hE, hq1, hq2⟩ := hrel
          have hpb := hC.bounds
          obtain ⟨cs0, hW0⟩ := hC.whole16
          have HT := hide hT
          have HO := hide hO
          have HE := hide hE
          have HCc := hide hC
          by_cases hlt : i < M
          · have hltI : (i : Int) < (M : Int) := by omega
            rw [List.drop_eq_getElem_cons (by omega)] at hq1 hq2
            obtain ⟨z, hz⟩ : ∃ z, z = zs[i]'(by omega) := ⟨_, rfl⟩
            rw [← hz] at hq1 hq2
            have C7 := curTake_any hC (z : Int)
            obtain ⟨P, q1, e7, htk⟩ : ∃ x y z', takeR b p1 0 (z : Int) = (x, y, z') := ⟨_, _, _, rfl⟩
            rw [htk] at C7
            obtain ⟨s1, s2, s3⟩ := parts_step (size := size) (left := N - T.length) (zs := zs.drop (i + 1)) (was := T.getLastD []) htk
            obtain ⟨Az', cz', hvz', hzc, hzI⟩ := OwnI.form hO
            rw [List.length_map, hzl] at hvz' hzI
            simp only [Value.slice.injEq] at hvz'
            obtain ⟨rfl, -, rfl⟩ := hvz'
            rcases hzI.2 with h0 | ⟨b1, o1, rfl, hb1, hc1⟩
            · omega
            have e1 := hc1 i hlt
            rw [show (zs.map fun (z : Nat) => (z : Int)).getD i 0 = (z : Int) by rw [hz, List.getD_eq_getElem?_getD, List.getElem?_map, List.getElem?_eq_getElem (by omega)]; rfl] at e1
            have HPl := hide (show P.length ≤ 800 from Nat.le_trans (Num.take_len htk) (by have := HBl.out; omega))
            unfold Took at C7
            dsimp only at C7
            have HNe := hide (row_notKind hO hW0 (by decide))
            have HNt := hide (row_notKind hT hW0 (by decide))
            clear hc1 hz htk hT hO hC hE hzI hW0
            go_wp2_with fail
            refine C7.mono ?_
            rintro e w5 ⟨v5, rfl, hO5, hC5, hM5⟩
            have HE5 := hide (show Ext w w5 from Below.trans HE.out (hM5.below HE.out.le hg3 (fun k hk => by cases hk)))
            have HT5 := hide (show OwnTx w5 w.heap.size _ _ from row_mod hM5 HT.out HNt.out)
            have HI5 := hide (show OwnI w5 w.heap.size _ _ from row_mod hM5 HO.out HNe.out)
            have HC5 := hide hC5
            obtain ⟨AP, cP, rfl, hPc, -, hPb⟩ := hO5.form
            obtain ⟨_, _, -, -, a2, -⟩ := hC5.cells
            clear C7 hO5 hC5 hM5 e1
            by_cases he7 : e7 = 0
            · subst he7
              have hPl : P.length ≤ 800 := HPl.out
              have CN := refNew_any AP P.length cP P w5 (by omega) hPb
              clear hPb
              go_wp2_with fail
              refine CN.mono ?_
              rintro e w6 ⟨g4, rfl, hD6, hE6⟩
              have hg34 : g3 ≠ g4 := by have := HC5.out.lt; have := hD6.le; omega
              have hg4 : w.heap.size ≤ g4 := by have := hD6.le; have := HE5.out.le; omega
              have HD6 := hide (hD6.low16 HE5.out.le)
              have HT6 := hide (HT5.out.ext hE6)
              have HI6 := hide (HI5.out.ext hE6)
              have HC6 := hide (HC5.out.ext hE6)
              have HE6 := hide (HE5.out.trans hE6)
              obtain ⟨K, hK⟩ : ∃ K, K = min size (N - T.length) := ⟨_, rfl⟩
              rw [← hK] at s2 s3
              obtain ⟨G, hG⟩ : ∃ G, G = textsR P K true (T.getLastD []) 0 := ⟨_, rfl⟩
              have HG := hide hG
              have HBad := hide (fun (e : Int) (h : G.2.2 = e) (he : e ≠ 0) => show res = ([], 0, e) by
                have h1 := part_no (P := P) (was := T.getLastD []) (k := K) (e := e) (by rw [← hG]; exact h) he
                have h2 := hq1.trans (s2 (by trivial) (by rw [h1]; exact he))
                rw [h1] at h2
                rw [HX.out, h2, if_pos he])
              have HLeft := hide (fun (c : List (List UInt8)) (q : Nat) (h : G = (c, q, 0)) (hq : q < P.length) => show res = ([], 0, 2) by
                have h1 := part_left (P := P) (was := T.getLastD []) (k := K) (by rw [← hG]; exact h) hq
                have h2 := hq1.trans (s2 (by trivial) (by rw [h1]; decide))
                rw [h1] at h2
                rw [HX.out, h2, if_pos (by decide)])
              have HGood := hide (fun (c : List (List UInt8)) (q : Nat) (h : G = (c, q, 0)) (hq : ¬ q < P.length) => show F.2.2 = (partsR b size (zs.drop (i + 1)) (N - T.length - K) (c.getLastD (T.getLastD [])) q1).2.2 ∧ ((partsR b size (zs.drop (i + 1)) (N - T.length - K) (c.getLastD (T.getLastD [])) q1).2.2 = 0 →
                  F = ((T ++ c) ++ (partsR b size (zs.drop (i + 1)) (N - T.length - K) (c.getLastD (T.getLastD [])) q1).1, (partsR b size (zs.drop (i + 1)) (N - T.length - K) (c.getLastD (T.getLastD [])) q1).2.1, 0)) by
                have h1 := part_yes (P := P) (was := T.getLastD []) (k := K) (by rw [← hG]; exact h) hq
                obtain ⟨t1, t2⟩ := s3 c (by trivial) h1
                refine ⟨hq1.trans t1, fun h3 => ?_⟩
                rw [hq2 (t1.trans h3), t2 h3]
                simp)
              have HK := hide hK
              clear CN hD6 hE6 s1 s2 s3 hq1 hq2 hG HX a2 hK HPl
              go_wp2_with fail
              go_loopw [15, 11] (fun x v wr2 => ∃ (k p2 : Nat) (U : List (List UInt8)), k ≤ K ∧ k = U.length ∧ x = .int .i64 (k : Int) ∧ ((T ++ U).getLastD []).length ≤ 25 ∧ OwnTx wr2 w.heap.size v (T ++ U) ∧ OwnI wr2 w.heap.size (.slice (some ⟨b1, o1, none⟩) M cz) (zs.map fun (z : Nat) => (z : Int)) ∧ RefC wr2 w.heap.size g4 P p2 0 ∧ RefC wr2 w.heap.size g3 b q1 0 ∧ Ext w wr2 ∧
                G.2.2 = (textsR P (K - k) (decide (k = 0)) ((T ++ U).getLastD []) p2).2.2 ∧ ((textsR P (K - k) (decide (k = 0)) ((T ++ U).getLastD []) p2).2.2 = 0 → G = (U ++ (textsR P (K - k) (decide (k = 0)) ((T ++ U).getLastD []) p2).1, (textsR P (K - k) (decide (k = 0)) ((T ++ U).getLastD []) p2).2.1, 0))) (fun x _ _ => size - (intOf x).toNat)
              case atStart => exact ⟨0, 0, [], by omega, rfl, rfl, by rw [List.append_nil]; exact hTw, by rw [List.append_nil]; exact HT6.out, HI6.out, HD6.out, HC6.out, HE6.out, by rw [List.append_nil, Nat.sub_zero, HG.out]; rfl, fun h => by rw [List.append_nil, Nat.sub_zero] at h ⊢; rw [List.nil_append, ← h, HG.out]; rfl⟩
              case round =>
                clear HT6 HI6 HC6 HD6 HE6 HT5 HI5 HC5 HE5 HT HO HE HCc
                obtain ⟨k, p2, U, hk, hkU, rfl, hw25, hT, hO, hD, hC, hE, hq3, hq4⟩ := hrel
                have hp2 := hD.bounds.1
                obtain ⟨cs1, hW1⟩ := hD.whole16
                have HNe := hide (row_notKind hO hW1 (by decide))
                have HW1 := hide hW1
                obtain ⟨At, ct, hvt, ht1, ht2, ht3⟩ := hT.form
                subst hvt
                have HO := hide hO
                have HC := hide hC
                have HD := hide hD
                have HE := hide hE
                have hkK := HK.out
                obtain ⟨tl, htl⟩ : ∃ tl, tl = (T ++ U).length := ⟨_, rfl⟩
                have htl2 : tl = T.length + k := by rw [htl, List.length_append, ← hkU]
                have HKU := hide hkU
                rw [← htl] at ht1 ht3 hT ⊢
                have HNt := hide (row_notKind hT HW1.out (by decide))
                have HT := hide hT
                have HTl := hide htl
                obtain ⟨ws, hws⟩ : ∃ x, x = (T ++ U).getLastD [] := ⟨_, rfl⟩
                rw [← hws] at hq3 hq4 hw25
                have HWs := hide hws
                have hN20 : N ≤ 1048576 := by omega
                by_cases hlt2 : k < K
                · have hkI : (k : Int) < (size : Int) := by omega
                  have htI : (tl : Int) < (N : Int) := by omega
                  obtain ⟨f, hf⟩ : ∃ f, K - k = f + 1 := ⟨K - k - 1, by omega⟩
                  rw [hf] at hq3 hq4
                  have HTe := hide ht3
                  clear hW1 hT hO hC hD hE ht3 htl hws hkK hkU
                  rcases Nat.eq_zero_or_pos tl with h0 | h0
                  · have hk0 : k = 0 := by omega
                    have hws0 : ws = [] := by rw [HWs.out, List.eq_nil_of_length_eq_zero (HTl.out.symm.trans h0)]; rfl
                    subst hws0
                    have hk0I : ¬ (0 : Int) < (k : Int) := by omega
                    have htl0I : ¬ (0 : Int) < (tl : Int) := by omega
                    have HK0 := hide hk0
                    have HT0 := hide h0
                    have HTl2 := hide htl2
                    clear htl2
                    have C9 := curText_any HD.out 25 (by omega)
                    obtain ⟨rs, q9, e9, htx⟩ : ∃ x y z', textR P p2 0 25 = (x, y, z') := ⟨_, _, _, rfl⟩
                    obtain ⟨o1', o2', o3'⟩ := one_cases (p := P) (was := []) (first := true) (q := p2) rfl htx
                    have HTok := hide (show e9 = 0 → (0 : Int) = 0 ∧ rs.length ≤ 25 from fun h => Num.text_ok (by rw [htx, h]))
                    rw [htx] at C9
                    dsimp only at C9
                    have H1 := hide o1'
                    have H2 := hide o2'
                    have H3 := hide o3'
                    have HQ3 := hide hq3
                    have HQ4 := hide hq4
                    have HF := hide hf
                    clear o1' o2' o3' hq3 hq4 hf htx hTw hw25 hk0 h0
                    go_wp2_with fail
                    refine C9.mono ?_
                    rintro e w9 ⟨rfl, hD9, hM9⟩
                    obtain ⟨_, _, -, -, a2, -⟩ := hD9.cells
                    have HE9 := hide (show Ext w w9 from Below.trans HE.out (hM9.below HE.out.le hg4 (fun k hk => by cases hk)))
                    have HT9 := hide (show OwnTx w9 w.heap.size _ _ from row_mod hM9 HT.out HNt.out)
                    have HO9 := hide (show OwnI w9 w.heap.size _ _ from row_mod hM9 HO.out HNe.out)
                    have HC9 := hide (HC.out.other16 HW1.out hg34 hM9)
                    have HD9 := hide hD9
                    clear C9 hD9 hM9
                    by_cases he9 : e9 = 0
                    · subst he9
                      have hrsl : (rs.length : Int) ≤ 8388608 := by have := (HTok.out rfl).2; omega
                      by_cases hrs : rs = []
                      · subst hrs
                        have HR := hide (show res = ([], 0, 2) by
                          have h1 := H2.out rfl (.inl rfl)
                          have h2 := (texts_step (k := f) h1).1 (by decide)
                          have h3 := HQ3.out
                          rw [decide_eq_true HK0.out, h2] at h3
                          exact HBad.out 2 h3 (by decide))
                        go_wp2
                        refine bodyPost_ret (results_tmp3 rfl _ _ _) rfl ?_
                        rw [HR.out]
                        exact ⟨none, 0, rfl, Nat.le_refl _, Nat.zero_le _, ⟨rfl, .inl rfl⟩, HE9.out⟩
                      · have hr25 : ¬ (25 : Int) < (rs.length : Int) := by have := (HTok.out rfl).2; omega
                        have HS25 := hide (show rs.length ≤ 25 from (HTok.out rfl).2)
                        have hone : oneR P (decide (k = 0)) [] p2 = (rs, q9, 0) := by
                          rw [decide_eq_true HK0.out]
                          refine H3.out rfl (fun hh => ?_)
                          rcases hh with hh | hh | hh | hh
                          · exact hrs hh
                          · have := (HTok.out rfl).2; rw [List.length_append, List.take_zero] at hh; simp at hh; omega
                          · obtain ⟨y, ys, rfl⟩ : ∃ y ys, rs = y :: ys := by cases rs with | nil => exact absurd rfl hrs | cons y ys => exact ⟨y, ys, rfl⟩
                            exact absurd hh (by simp [Op.bytesLess])
                          · exact absurd hh.1 (by decide)
                        obtain ⟨t1, t2⟩ := (texts_step (k := f) hone).2 rfl
                        have HN3 := hide (show G.2.2 = (textsR P f false rs q9).2.2 from HQ3.out.trans t1)
                        have HN4 := hide (show (textsR P f false rs q9).2.2 = 0 → G = ((U ++ [rs]) ++ (textsR P f false rs q9).1, (textsR P f false rs q9).2.1, 0) from fun h => by
                          rw [HQ4.out (t1.trans h), t2 h]
                          simp)
                        have hrE : rs.isEmpty = false := by simpa using hrs
                        clear t1 t2 hone H1 H2 H3 HTok
                        go_upto_region 37 with fail
                        go_wp2_with (at_builtin; refine wpList_appTx rfl (.tmp 152) (.tmp 154) rfl rfl (HT9.out.ext (extNew w9 _)) rfl (textsNew w9 [rs] _ _ (0, 0) rfl 1 rfl) (by have := HTl.out; have := HTl2.out; omega) (Nat.le_trans HE9.out.le (extNew w9 _).le) ?_; intro v10 w10 hT10 hG10 _; have HT10 := hide hT10; have HG10 := hide hG10; clear hT10 hG10)
                        have hX9 := extNew w9 (.cells #[.string ⟨rs.toArray⟩] 9)
                        have hTx9 := HT9.out.ext hX9
                        have hOx9 : OwnI _ w.heap.size _ _ := HO9.out.ext hX9
                        have hC10 := (HC9.out.ext hX9).grow16 hTx9 (by decide) (by decide) HG10.out
                        have hD10 := (HD9.out.ext hX9).grow16 hTx9 (by decide) (by decide) HG10.out
                        have hO10 : OwnI w10 w.heap.size _ _ := World.ownsRow.kept hOx9 HG10.out (ownsRow_apart hOx9 hTx9 (by decide))
                        have hE10 : Ext w w10 := Below.grown (HE9.out.trans hX9) HG10.out (HE9.out.trans hX9).le (fun k hk => (hTx9.lt k hk).1)
                        refine ⟨⟨k + 1, q9, U ++ [rs], by omega, by rw [List.length_append, List.length_singleton, ← HKU.out], by go_num, by rw [← List.append_assoc, last_app]; exact HS25.out, by rw [← List.append_assoc]; exact HT10.out, hO10, hD10, hC10, hE10, ?_, ?_⟩, by simp [intOf]; omega⟩
                        · rw [show K - (k + 1) = f by have := HF.out; omega, decide_eq_false (by omega), ← List.append_assoc, last_app]; exact HN3.out
                        · rw [show K - (k + 1) = f by have := HF.out; omega, decide_eq_false (by omega), ← List.append_assoc, last_app]; exact HN4.out
                    · have he' : (e9 != 0) = true := by simpa using he9
                      have HR := hide (show res = ([], 0, e9) by
                        have h1 := H1.out he9
                        have h2 := (texts_step (k := f) h1).1 he9
                        have h3 := HQ3.out
                        rw [decide_eq_true HK0.out, h2] at h3
                        exact HBad.out e9 h3 he9)
                      clear he9
                      go_wp2
                      go_quiet (fail)
                      go_wp2
                      refine bodyPost_ret (results_tmp3 rfl _ _ _) rfl ?_
                      rw [HR.out]
                      exact ⟨none, 0, rfl, Nat.le_refl _, Nat.zero_le _, ⟨rfl, .inl rfl⟩, HE9.out.drewN _⟩
                  · obtain ⟨t', rfl⟩ : ∃ t', tl = t' + 1 := ⟨tl - 1, by omega⟩
                    have HQ3 := hide hq3
                    have HQ4 := hide hq4
                    have HF := hide hf
                    have HTl2 := hide htl2
                    have htI0 : (0 : Int) < ((t' + 1 : Nat) : Int) := by omega
                    rcases HTe.out.2 with hx0 | ⟨bT, oT, rfl, hbT, hcT⟩
                    · omega
                    have c1 := hcT t' (by omega)
                    rw [show (T ++ U).getD t' [] = ws by rw [HWs.out, last_getD HTl.out.symm]] at c1
                    clear hq3 hq4 hf hTw htl2 hcT h0
                    by_cases hk0 : k = 0
                    · have hk0I : ¬ (0 : Int) < (k : Int) := by omega
                      have HK0 := hide hk0
                      have C9 := curText_any HD.out 25 (by omega)
                      obtain ⟨rs, q9, e9, htx⟩ : ∃ x y z', textR P p2 0 25 = (x, y, z') := ⟨_, _, _, rfl⟩
                      obtain ⟨o1', o2', o3'⟩ := one_cases (p := P) (was := ws) (first := true) (q := p2) rfl htx
                      have HTok := hide (show e9 = 0 → (0 : Int) = 0 ∧ rs.length ≤ 25 from fun h => Num.text_ok (by rw [htx, h]))
                      rw [htx] at C9
                      dsimp only at C9
                      have H1 := hide o1'
                      have H2 := hide o2'
                      have H3 := hide o3'
                      have HW25 := hide hw25
                      clear o1' o2' o3' htx hw25 hk0
                      go_wp2_with fail
                      refine C9.mono ?_
                      rintro e w9 ⟨rfl, hD9, hM9⟩
                      obtain ⟨_, _, -, -, a2, -⟩ := hD9.cells
                      have HE9 := hide (show Ext w w9 from Below.trans HE.out (hM9.below HE.out.le hg4 (fun k hk => by cases hk)))
                      have HT9 := hide (show OwnTx w9 w.heap.size _ _ from row_mod hM9 HT.out HNt.out)
                      have HO9 := hide (show OwnI w9 w.heap.size _ _ from row_mod hM9 HO.out HNe.out)
                      have HC9 := hide (HC.out.other16 HW1.out hg34 hM9)
                      have HD9 := hide hD9
                      clear C9 hD9 hM9 c1
                      by_cases he9 : e9 = 0
                      · subst he9
                        have hrsl : (rs.length : Int) ≤ 8388608 := by have := (HTok.out rfl).2; omega
                        have HRb := hide (fun (h : rs = [] ∨ 25 < (ws.take 0 ++ rs).length ∨ Op.bytesLess ws (ws.take 0 ++ rs) = false ∨ (true = false ∧ Dic.alike ws (ws.take 0 ++ rs) ≠ 0)) => show res = ([], 0, 2) by
                          have h1 := H2.out rfl h
                          have h2 := (texts_step (k := f) h1).1 (by decide)
                          have h3 := HQ3.out
                          rw [decide_eq_true HK0.out, h2] at h3
                          exact HBad.out 2 h3 (by decide))
                        by_cases hrs : rs = []
                        · have HR := hide (HRb.out (.inl hrs))
                          subst hrs
                          clear H1 H2 H3
                          go_wp2
                          refine bodyPost_ret (results_tmp3 rfl _ _ _) rfl ?_
                          rw [HR.out]
                          exact ⟨none, 0, rfl, Nat.le_refl _, Nat.zero_le _, ⟨rfl, .inl rfl⟩, HE9.out⟩
                        · have hr25 : ¬ (25 : Int) < (rs.length : Int) := by have := (HTok.out rfl).2; omega
                          have hle := le_less rs ws
                          cases hlt9 : Op.bytesLess ws rs with
                          | false =>
                            rw [hlt9] at hle
                            have HR := hide (HRb.out (.inr (.inr (.inl hlt9))))
                            have hle' : (Op.bytesLess rs ws || rs == ws) = true := hle
                            clear H1 H2 H3 hle hlt9
                            have hrE : rs.isEmpty = false := by simpa using hrs
                            go_wp2
                            refine bodyPost_ret (results_tmp3 rfl _ _ _) rfl ?_
                            rw [HR.out]
                            exact ⟨none, 0, rfl, Nat.le_refl _, Nat.zero_le _, ⟨rfl, .inl rfl⟩, HE9.out⟩
                          | true =>
                            rw [hlt9] at hle
                            have HS25 := hide (show rs.length ≤ 25 from (HTok.out rfl).2)
                            have hone : oneR P (decide (k = 0)) ws p2 = (rs, q9, 0) := by
                              rw [decide_eq_true HK0.out]
                              refine H3.out rfl (fun hh => ?_)
                              rcases hh with hh | hh | hh | hh
                              · exact hrs hh
                              · have := (HTok.out rfl).2; rw [List.take_zero, List.nil_append] at hh; omega
                              · rw [List.take_zero, List.nil_append, hlt9] at hh; exact absurd hh (by decide)
                              · exact absurd hh.1 (by decide)
                            clear hlt9
                            obtain ⟨t1, t2⟩ := (texts_step (k := f) hone).2 rfl
                            have HN3 := hide (show G.2.2 = (textsR P f false rs q9).2.2 from HQ3.out.trans t1)
                            have HN4 := hide (show (textsR P f false rs q9).2.2 = 0 → G = ((U ++ [rs]) ++ (textsR P f false rs q9).1, (textsR P f false rs q9).2.1, 0) from fun h => by
                              rw [HQ4.out (t1.trans h), t2 h]
                              simp)
                            have hle' : (Op.bytesLess rs ws || rs == ws) = false := hle
                            have hrE : rs.isEmpty = false := by simpa using hrs
                            clear t1 t2 hone hle H1 H2 H3 HTok HRb
                            go_upto_region 37 with fail
                            go_wp2_with (at_builtin; refine wpList_appTx rfl (.tmp 152) (.tmp 154) rfl rfl (HT9.out.ext (extNew w9 _)) rfl (textsNew w9 [rs] _ _ (0, 0) rfl 1 rfl) (by have := HTl.out; have := HTl2.out; omega) (Nat.le_trans HE9.out.le (extNew w9 _).le) ?_; intro v10 w10 hT10 hG10 _; have HT10 := hide hT10; have HG10 := hide hG10; clear hT10 hG10)
                            have hX9 := extNew w9 (.cells #[.string ⟨rs.toArray⟩] 9)
                            have hTx9 := HT9.out.ext hX9
                            have hOx9 : OwnI _ w.heap.size _ _ := HO9.out.ext hX9
                            have hC10 := (HC9.out.ext hX9).grow16 hTx9 (by decide) (by decide) HG10.out
                            have hD10 := (HD9.out.ext hX9).grow16 hTx9 (by decide) (by decide) HG10.out
                            have hO10 : OwnI w10 w.heap.size _ _ := World.ownsRow.kept hOx9 HG10.out (ownsRow_apart hOx9 hTx9 (by decide))
                            have hE10 : Ext w w10 := Below.grown (HE9.out.trans hX9) HG10.out (HE9.out.trans hX9).le (fun k hk => (hTx9.lt k hk).1)
                            refine ⟨⟨k + 1, q9, U ++ [rs], by omega, by rw [List.length_append, List.length_singleton, ← HKU.out], by go_num, by rw [← List.append_assoc, last_app]; exact HS25.out, by rw [← List.append_assoc]; exact HT10.out, hO10, hD10, hC10, hE10, ?_, ?_⟩, by simp [intOf]; omega⟩
                            · rw [show K - (k + 1) = f by have := HF.out; omega, decide_eq_false (by omega), ← List.append_assoc, last_app]; exact HN3.out
                            · rw [show K - (k + 1) = f by have := HF.out; omega, decide_eq_false (by omega), ← List.append_assoc, last_app]; exact HN4.out
                      · have he' : (e9 != 0) = true := by simpa using he9
                        have HR := hide (show res = ([], 0, e9) by
                          have h1 := H1.out he9
                          have h2 := (texts_step (k := f) h1).1 he9
                          have h3 := HQ3.out
                          rw [decide_eq_true HK0.out, h2] at h3
                          exact HBad.out e9 h3 he9)
                        clear he9
                        go_wp2
                        go_quiet (fail)
                        go_wp2
                        refine bodyPost_ret (results_tmp3 rfl _ _ _) rfl ?_
                        rw [HR.out]
                        exact ⟨none, 0, rfl, Nat.le_refl _, Nat.zero_le _, ⟨rfl, .inl rfl⟩, HE9.out.drewN _⟩
                    · have hk0I : (0 : Int) < (k : Int) := by omega
                      have HKp := hide hk0
                      have C8 := curInt_any HD.out (ws.length : Int) (by omega)
                      obtain ⟨m, q8, e8, hin⟩ : ∃ x y z', intR P p2 0 (ws.length : Int) = (x, y, z') := ⟨_, _, _, rfl⟩
                      obtain ⟨rs, q9, e9, htx⟩ : ∃ x y z', textR P q8 e8 25 = (x, y, z') := ⟨_, _, _, rfl⟩
                      obtain ⟨o1', o2', o3'⟩ := one_cases (p := P) (was := ws) (first := false) (q := p2) (by unfold sameR; rw [if_neg (by decide)]; exact hin) htx
                      have HTok := hide (show e9 = 0 → e8 = 0 ∧ rs.length ≤ 25 from fun h => Num.text_ok (by rw [htx, h]))
                      have HMle := hide (show e8 = 0 → m ≤ ws.length from fun h => by
                        have := (Num.intR_le P p2 0 (ws.length : Int) (by rw [hin]; exact h)).2.1
                        rw [hin] at this
                        dsimp only at this
                        omega)
                      rw [hin] at C8
                      dsimp only at C8
                      have HTx0 := hide htx
                      have H1 := hide o1'
                      have H2 := hide o2'
                      have H3 := hide o3'
                      have HW25 := hide hw25
                      have hwl : ws.length ≤ 1000000 := by omega
                      clear o1' o2' o3' htx hin hw25 hk0
                      go_wp2_with fail
                      refine C8.mono ?_
                      rintro e w8 ⟨rfl, hD8, hM8⟩
                      have HE8 := hide (show Ext w w8 from Below.trans HE.out (hM8.below HE.out.le hg4 (fun k hk => by cases hk)))
                      have HT8 := hide (show OwnTx w8 w.heap.size _ _ from row_mod hM8 HT.out HNt.out)
                      have HO8 := hide (show OwnI w8 w.heap.size _ _ from row_mod hM8 HO.out HNe.out)
                      have HC8 := hide (HC.out.other16 HW1.out hg34 hM8)
                      obtain ⟨cs8, hW8⟩ := hD8.whole16
                      have HW8 := hide hW8
                      have C9 := curText_any hD8 25 (by omega)
                      rw [HTx0.out] at C9
                      dsimp only at C9
                      clear C8 hD8 hM8 hW8 c1
                      go_wp2_with fail
                      refine C9.mono ?_
                      rintro e w9 ⟨rfl, hD9, hM9⟩
                      obtain ⟨_, _, -, -, a2, -⟩ := hD9.cells
                      have HE9 := hide (show Ext w w9 from Below.trans HE8.out (hM9.below HE8.out.le hg4 (fun k hk => by cases hk)))
                      have HT9 := hide (show OwnTx w9 w.heap.size _ _ from row_mod hM9 HT8.out HNt.out)
                      have HO9 := hide (show OwnI w9 w.heap.size _ _ from row_mod hM9 HO8.out HNe.out)
                      have HC9 := hide (HC8.out.other16 HW8.out hg34 hM9)
                      have HD9 := hide hD9
                      clear C9 hD9 hM9
                      by_cases he9 : e9 = 0
                      · subst he9
                        obtain ⟨he8, hrs25⟩ := HTok.out rfl
                        subst he8
                        have hmw : m ≤ ws.length := HMle.out rfl
                        have hmI : (m : Int) ≤ (ws.length : Int) := by omega
                        obtain ⟨S, hS⟩ : ∃ S, S = ws.take m ++ rs := ⟨_, rfl⟩
                        have hcat : ∀ W, (Op.stringOp .add ⟨(ws.take m).toArray⟩ ⟨rs.toArray⟩).run Tryz.prog W = .ok (.string ⟨S.toArray⟩) W := fun W => by
                          rw [hS]
                          exact run_string_add_lists W _ _ (by rw [List.length_take]; omega) (by omega)
                        have HS := hide hS
                        rw [← hS] at H2 H3
                        have HRb := hide (fun (h : rs = [] ∨ 25 < S.length ∨ Op.bytesLess ws S = false ∨ (True ∧ Dic.alike ws S ≠ m)) => show res = ([], 0, 2) by
                          have h1 := H2.out rfl h
                          have h2 := (texts_step (k := f) h1).1 (by decide)
                          have h3 := HQ3.out
                          rw [decide_eq_false HKp.out, h2] at h3
                          exact HBad.out 2 h3 (by decide))
                        have CA := hide (fun (W : World) => refAlike_any ws S W hwl)
                        clear hS hwl hrs25 hmw
                        by_cases hrs : rs = []
                        · have HR := hide (HRb.out (.inl hrs))
                          have hrE : rs.isEmpty = true := by rw [hrs]; rfl
                          clear H1 H2 H3 HTok HRb hrs
                          go_wp2_with fail
                          refine bodyPost_ret (results_tmp3 rfl _ _ _) rfl ?_
                          rw [HR.out]
                          exact ⟨none, 0, rfl, Nat.le_refl _, Nat.zero_le _, ⟨rfl, .inl rfl⟩, HE9.out⟩
                        · have hrE : rs.isEmpty = false := by simpa using hrs
                          by_cases hS25 : 25 < S.length
                          · have HR := hide (HRb.out (.inr (.inl hS25)))
                            have hS25I : (25 : Int) < (S.length : Int) := by omega
                            clear H1 H2 H3 HTok HRb hrs hS25
                            go_wp2_with fail
                            refine bodyPost_ret (results_tmp3 rfl _ _ _) rfl ?_
                            rw [HR.out]
                            exact ⟨none, 0, rfl, Nat.le_refl _, Nat.zero_le _, ⟨rfl, .inl rfl⟩, HE9.out⟩
                          · have hS25I : ¬ (25 : Int) < (S.length : Int) := by omega
                            have hle := le_less S ws
                            cases hlt9 : Op.bytesLess ws S with
                            | false =>
                              rw [hlt9] at hle
                              have HR := hide (HRb.out (.inr (.inr (.inl hlt9))))
                              have hle' : (Op.bytesLess S ws || S == ws) = true := hle
                              clear H1 H2 H3 hle hlt9 HTok HRb hrs hS25
                              go_wp2_with fail
                              refine bodyPost_ret (results_tmp3 rfl _ _ _) rfl ?_
                              rw [HR.out]
                              exact ⟨none, 0, rfl, Nat.le_refl _, Nat.zero_le _, ⟨rfl, .inl rfl⟩, HE9.out⟩
                            | true =>
                              rw [hlt9] at hle
                              have hle' : (Op.bytesLess S ws || S == ws) = false := hle
                              by_cases hal : Dic.alike ws S = m
                              · have HS25 := hide (show S.length ≤ 25 by omega)
                                have hone : oneR P (decide (k = 0)) ws p2 = (S, q9, 0) := by
                                  rw [decide_eq_false HKp.out]
                                  refine H3.out rfl (fun hh => ?_)
                                  rcases hh with hh | hh | hh | hh
                                  · exact hrs hh
                                  · exact hS25 hh
                                  · rw [hlt9] at hh; exact absurd hh (by decide)
                                  · exact hh.2 hal
                                obtain ⟨t1, t2⟩ := (texts_step (k := f) hone).2 rfl
                                have HN3 := hide (show G.2.2 = (textsR P f false S q9).2.2 from HQ3.out.trans t1)
                                have HN4 := hide (show (textsR P f false S q9).2.2 = 0 → G = ((U ++ [S]) ++ (textsR P f false S q9).1, (textsR P f false S q9).2.1, 0) from fun h => by
                                  rw [HQ4.out (t1.trans h), t2 h]
                                  simp)
                                have hCA := CA.out
                                rw [hal] at hCA
                                clear t1 t2 hone hle hlt9 H1 H2 H3 HTok HRb hrs hS25 CA hal
                                go_wp2_with fail
                                refine (hCA _).mono ?_
                                rintro e w11 ⟨rfl, hQ11⟩
                                have HX11 := hide hQ11.ext
                                clear hCA hQ11
                                go_upto_region 37 with fail
                                go_wp2_with (at_builtin; refine wpList_appTx rfl (.tmp 152) (.tmp 154) rfl rfl ((HT9.out.ext HX11.out).ext (extNew w11 _)) rfl (textsNew w11 [S] _ _ (0, 0) rfl 1 rfl) (by have := HTl.out; have := HTl2.out; omega) (Nat.le_trans (HE9.out.trans HX11.out).le (extNew w11 _).le) ?_; intro v10 w10 hT10 hG10 _; have HT10 := hide hT10; have HG10 := hide hG10; clear hT10 hG10)
                                have hX9 := HX11.out.trans (extNew w11 (.cells #[.string ⟨S.toArray⟩] 9))
                                have hTx9 := HT9.out.ext hX9
                                have hOx9 : OwnI _ w.heap.size _ _ := HO9.out.ext hX9
                                have hC10 := (HC9.out.ext hX9).grow16 hTx9 (by decide) (by decide) HG10.out
                                have hD10 := (HD9.out.ext hX9).grow16 hTx9 (by decide) (by decide) HG10.out
                                have hO10 : OwnI w10 w.heap.size _ _ := World.ownsRow.kept hOx9 HG10.out (ownsRow_apart hOx9 hTx9 (by decide))
                                have hE10 : Ext w w10 := Below.grown (HE9.out.trans hX9) HG10.out (HE9.out.trans hX9).le (fun k hk => (hTx9.lt k hk).1)
                                refine ⟨⟨k + 1, q9, U ++ [S], by omega, by rw [List.length_append, List.length_singleton, ← HKU.out], by go_num, by rw [← List.append_assoc, last_app]; exact HS25.out, by rw [← List.append_assoc]; exact HT10.out, hO10, hD10, hC10, hE10, ?_, ?_⟩, by simp [intOf]; omega⟩
                                · rw [show K - (k + 1) = f by have := HF.out; omega, decide_eq_false (by omega), ← List.append_assoc, last_app]; exact HN3.out
                                · rw [show K - (k + 1) = f by have := HF.out; omega, decide_eq_false (by omega), ← List.append_assoc, last_app]; exact HN4.out
                              · have HR := hide (HRb.out (.inr (.inr (.inr ⟨trivial, hal⟩))))
                                have halI : ((Dic.alike ws S : Int) != (m : Int)) = true := by simp; omega
                                have hCA := CA.out
                                generalize Dic.alike ws S = z at *
                                clear hle hlt9 H1 H2 H3 HTok HRb hrs hS25 CA hal
                                go_wp2_with fail
                                refine (hCA _).mono ?_
                                rintro e w11 ⟨rfl, hQ11⟩
                                have HX11 := hide hQ11.ext
                                clear hCA hQ11
                                go_wp2_with fail
                                refine bodyPost_ret (results_tmp3 rfl _ _ _) rfl ?_
                                rw [HR.out]
                                exact ⟨none, 0, rfl, Nat.le_refl _, Nat.zero_le _, ⟨rfl, .inl rfl⟩, HE9.out.trans HX11.out⟩
                      · have he' : (e9 != 0) = true := by simpa using he9
                        have HR := hide (show res = ([], 0, e9) by
                          have h1 := H1.out he9
                          have h2 := (texts_step (k := f) h1).1 he9
                          have h3 := HQ3.out
                          rw [decide_eq_false HKp.out, h2] at h3
                          exact HBad.out e9 h3 he9)
                        clear he9
                        go_wp2
                        go_quiet (fail)
                        go_wp2
                        refine bodyPost_ret (results_tmp3 rfl _ _ _) rfl ?_
                        rw [HR.out]
                        exact ⟨none, 0, rfl, Nat.le_refl _, Nat.zero_le _, ⟨rfl, .inl rfl⟩, HE9.out.drewN _⟩
                · obtain rfl : K = k := by omega
                  rw [Nat.sub_self, textsR] at hq3 hq4
                  have hGf := hq4 rfl
                  dsimp only at hGf
                  rw [List.append_nil] at hGf
                  have HTl2 := hide htl2
                  have HGf := hide hGf
                  by_cases hks : size ≤ N - T.length
                  · have hkI : ¬ (K : Int) < (size : Int) := by have := HK.out; omega
                    clear hW1 hT hO hC hD hE ht3 htl hws hkU hq3 hq4 hTw htl2 hGf hks hlt2
                    go_wp2_with fail
                    refine (curLeft_any HD.out).mono ?_
                    rintro e w9 ⟨rfl, hQ9⟩
                    have HQ9 := hide hQ9.ext
                    clear hQ9
                    by_cases hlf : p2 < P.length
                    · have hlfI : (0 : Int) < ((P.length - p2 : Nat) : Int) := by omega
                      have HR := hide (HLeft.out U p2 HGf.out hlf)
                      generalize P.length - p2 = lft at *
                      go_wp2
                      refine bodyPost_ret (results_tmp3 rfl _ _ _) rfl ?_
                      rw [HR.out]
                      exact ⟨none, 0, rfl, Nat.le_refl _, Nat.zero_le _, ⟨rfl, .inl rfl⟩, HE.out.trans HQ9.out⟩
                    · have hlfI : ¬ (0 : Int) < ((P.length - p2 : Nat) : Int) := by omega
                      obtain ⟨t1, t2⟩ := HGood.out U p2 HGf.out hlf
                      have HT1 := hide t1
                      have HT2 := hide t2
                      have HN9 := hide (show N - T.length - K = N - (T ++ U).length by have := HTl.out; have := HTl2.out; omega)
                      have HK9 := hide (show K ≤ size by have := HK.out; omega)
                      generalize P.length - p2 = lft at *
                      clear t1 t2
                      go_wp2
                      refine ⟨⟨i + 1, q1, T ++ U, by omega, by go_num, by have := HTl.out; have := HTl2.out; have := HK9.out; omega, by rw [← HWs.out]; exact hw25, HT.out.ext HQ9.out, HO.out.ext HQ9.out, HC.out.ext HQ9.out, HE.out.trans HQ9.out, ?_, ?_⟩, by simp [intOf]; omega⟩
                      · rw [← HN9.out, last_app]; exact HT1.out
                      · rw [← HN9.out, last_app]; exact HT2.out
                  · have hkI : (K : Int) < (size : Int) := by have := HK.out; omega
                    have htI : ¬ (tl : Int) < (N : Int) := by have := HK.out; omega
                    clear hW1 hT hO hC hD hE ht3 htl hws hkU hq3 hq4 hTw htl2 hGf hks hlt2
                    go_wp2_with fail
                    refine (curLeft_any HD.out).mono ?_
                    rintro e w9 ⟨rfl, hQ9⟩
                    have HQ9 := hide hQ9.ext
                    clear hQ9
                    by_cases hlf : p2 < P.length
                    · have hlfI : (0 : Int) < ((P.length - p2 : Nat) : Int) := by omega
                      have HR := hide (HLeft.out U p2 HGf.out hlf)
                      generalize P.length - p2 = lft at *
                      go_wp2
                      refine bodyPost_ret (results_tmp3 rfl _ _ _) rfl ?_
                      rw [HR.out]
                      exact ⟨none, 0, rfl, Nat.le_refl _, Nat.zero_le _, ⟨rfl, .inl rfl⟩, HE.out.trans HQ9.out⟩
                    · have hlfI : ¬ (0 : Int) < ((P.length - p2 : Nat) : Int) := by omega
                      obtain ⟨t1, t2⟩ := HGood.out U p2 HGf.out hlf
                      have HT1 := hide t1
                      have HT2 := hide t2
                      have HN9 := hide (show N - T.length - K = N - (T ++ U).length by have := HTl.out; have := HTl2.out; omega)
                      have HK9 := hide (show K ≤ size by have := HK.out; omega)
                      generalize P.length - p2 = lft at *
                      clear t1 t2
                      go_wp2
                      refine ⟨⟨i + 1, q1, T ++ U, by omega, by go_num, by have := HTl.out; have := HTl2.out; have := HK9.out; omega, by rw [← HWs.out]; exact hw25, HT.out.ext HQ9.out, HO.out.ext HQ9.out, HC.out.ext HQ9.out, HE.out.trans HQ9.out, ?_, ?_⟩, by simp [intOf]; omega⟩
                      · rw [← HN9.out, last_app]; exact HT1.out
                      · rw [← HN9.out, last_app]; exact HT2.out
            · have he' : (e7 != 0) = true := by simpa using he7
              have HR := hide (show res = ([], 0, e7) by
                have h := hq1.trans (s1 he7)
                rw [HX.out, h, if_pos he7])
              clear s1 s2 s3 hq1 hq2 he7 HX hPb
              go_wp2_with fail
              go_quiet (fail)
              go_wp2
              refine bodyPost_ret (results_tmp3 rfl _ _ _) rfl ?_
              rw [HR.out]
              exact ⟨none, 0, rfl, Nat.le_refl _, Nat.zero_le _, ⟨rfl, .inl rfl⟩, HE5.out.drewN _⟩
          · have hltI : ¬ (i : Int) < (M : Int) := by omega
            obtain rfl : M = i := by omega
            rw [List.drop_of_length_le (by omega), partsR] at hq2
            have hF := hq2 rfl
            dsimp only at hF
            rw [List.append_nil] at hF
            have HR := hide (show res = (T, p1, 0) by rw [HX.out, hF, if_neg (by simp)])
            obtain ⟨At, ct, hvt, ht1, ht2, ht3⟩ := hT.form
            subst hvt
            have HTx := hide ht3
            obtain ⟨_, _, -, a1, -, -⟩ := hC.cells
            clear hq1 hq2 hF HX hT hO hC hE hW0 ht3
            go_wp2
            go_quiet (fail)
            go_wp2
            refine bodyPost_ret (results_tmp3 rfl _ _ _) rfl ?_
            rw [HR.out]
            exact ⟨At, ct, rfl, ht1, ht2, HTx.out.later ((Ext.refl _).drewN _), HE.out.drewN _⟩
  · have he' : (er != 0) = true := by simpa using he
    have HR := hide (show res = ([], 0, er) by rw [HX.out, if_pos he])
    clear HX HLe HC2
    go_wp2_with fail
    go_quiet (fail)
    go_wp2
    refine bodyPost_ret (results_tmp3 rfl _ _ _) rfl ?_
    rw [HR.out]
    exact ⟨none, 0, rfl, Nat.le_refl _, Nat.zero_le _, ⟨rfl, .inl rfl⟩, HE2.out.drewN _⟩
theorem d16C_any (w : World) : D16C w := fun size A n c b W _ hs hs2 hnc hn hb => refRead16_any size A n c b W hs hs2 hnc hn hb
end Go.Proofs.YtcphapdjimeoaaaGreat

