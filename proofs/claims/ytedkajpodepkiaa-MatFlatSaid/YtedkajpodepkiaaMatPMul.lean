/- Contract of the program's product of matrices: rows are added, one by one. -/
import Derived.Test.YtedkajpodepkiaaMatPAdd
import Derived.Test.YtedkajpodepkiaaMatPBase
namespace Go.Proofs.Ytedkajpodepkiaa
open Go.RowKit

/-- What is reckoned so far: the rows above i, and j summands of row i. -/
def mulTo (n : Nat) (A B : Mat.M) (i j : Nat) : Mat.M := fun a b => if a < i then Mat.mm n A B a b else if a = i then Mat.sum j (fun t => Mat.fm (A a t) (B t b)) else 0
theorem mulTo_none (n : Nat) (A B : Mat.M) : mulTo n A B 0 0 = fun _ _ => 0 := by
  funext a b
  unfold mulTo
  rw [if_neg (by omega)]
  by_cases h : a = 0
  · rw [if_pos h]; rfl
  · rw [if_neg h]
theorem mulTo_step (n : Nat) (A B : Mat.M) (i j : Nat) : (fun a b => if a = i then mulTo n A B i j a b ^^^ Mat.fm (A i j) (B j b) else mulTo n A B i j a b) = mulTo n A B i (j + 1) := by
  funext a b
  unfold mulTo
  by_cases h : a = i
  · subst h
    rw [if_pos rfl, if_neg (by omega), if_pos rfl, if_neg (by omega), if_pos rfl]
    rfl
  · rw [if_neg h]
    by_cases h2 : a < i
    · rw [if_pos h2, if_pos h2]
    · rw [if_neg h2, if_neg h2, if_neg h, if_neg h]
theorem mulTo_row (n : Nat) (A B : Mat.M) (i : Nat) : mulTo n A B i n = mulTo n A B (i + 1) 0 := by
  funext a b
  unfold mulTo
  by_cases h2 : a < i
  · rw [if_pos h2, if_pos (by omega)]
  · rw [if_neg h2]
    by_cases h : a = i
    · rw [if_pos h, if_pos (by omega)]
      rfl
    · rw [if_neg h, if_neg (by omega)]
      by_cases h3 : a = i + 1
      · rw [if_pos h3]; rfl
      · rw [if_neg h3]

set_option maxHeartbeats 4000000 in
set_option maxRecDepth 100000 in
theorem matMul_any (a b : MV) (A1 A2 : Option Addr) (k1 k2 : Nat) (w : World) (hla : a.lies w A1 k1) (hlb : b.lies w A2 k2) :
    Calls Try.prog 27 #[a.arg A1 k1, b.arg A2 k2] w (MadeM w (a.mulE b).1 (a.mulE b).2) := by
  have M1 := fun W => matMay_any a A1 k1 W hla.2.1
  have M2 := fun W => matMay_any b A2 k2 W hlb.2.1
  have hE1 := extNew w (.cells #[.int .i64 a.r, .int .i64 a.c, .slice A1 a.l.length k1] 24)
  have hE2 := extNew (w.alloc (.cells #[.int .i64 a.r, .int .i64 a.c, .slice A1 a.l.length k1] 24)) (.cells #[.int .i64 b.r, .int .i64 b.c, .slice A2 b.l.length k2] 24)
  have hE3 := extNew ((w.alloc (.cells #[.int .i64 a.r, .int .i64 a.c, .slice A1 a.l.length k1] 24)).alloc (.cells #[.int .i64 b.r, .int .i64 b.c, .slice A2 b.l.length k2] 24)) (.cells #[.int .i64 0, .int .i64 0, .slice none 0 0] 24)
  have hWa := ((Whole.new w 24 #[.int .i64 a.r, .int .i64 a.c, .slice A1 a.l.length k1]).ext hE2).ext hE3
  have hWb := (Whole.new (w.alloc (.cells #[.int .i64 a.r, .int .i64 a.c, .slice A1 a.l.length k1] 24)) 24 #[.int .i64 b.r, .int .i64 b.c, .slice A2 b.l.length k2]).ext hE3
  have hWr := Whole.new ((w.alloc (.cells #[.int .i64 a.r, .int .i64 a.c, .slice A1 a.l.length k1] 24)).alloc (.cells #[.int .i64 b.r, .int .i64 b.c, .slice A2 b.l.length k2] 24)) 24 #[.int .i64 0, .int .i64 0, .slice none 0 0]
  have hE := (hE1.trans hE2).trans hE3
  rw [World.size_alloc] at hWb
  rw [World.size_alloc, World.size_alloc] at hWr
  clear hE1 hE2 hE3
  have HE := hide (show a.mulE b = if a.may = true ∧ b.may = true ∧ a.c = b.r then (a.mulR b, 0) else (MV.zero, 13) from rfl)
  unfold MV.arg at M1 M2 ⊢
  by_cases hok : a.may = true ∧ b.may = true ∧ a.c = b.r
  · have HN := hide (show a.mulE b = (a.mulR b, 0) by rw [HE.out, if_pos hok])
    obtain ⟨ha, hb, hcr⟩ := hok
    rw [ha] at M1
    rw [hb] at M2
    obtain ⟨q1, q2, q3, q4, q5⟩ := MV.may_iff.1 ha
    obtain ⟨p1, p2, p3, p4, p5⟩ := MV.may_iff.1 hb
    have HR := hide (show a.mulR b = ⟨a.r, b.c, cellsOf b.c.toNat (Mat.mm a.c.toNat a.at b.at) (a.r.toNat * b.c.toNat)⟩ from rfl)
    have HA := hide (show ∀ i j, a.at i j = a.l.getD (i * a.c.toNat + j) 0 from fun _ _ => rfl)
    have HB := hide (show ∀ i j, b.at i j = b.l.getD (i * b.c.toNat + j) 0 from fun _ _ => rfl)
    generalize a.at = fa at *
    generalize b.at = fb at *
    rw [HN.out, HR.out]
    clear HR ha hb HN HE
    obtain ⟨ar, ac, la⟩ := a
    obtain ⟨br, bc, lb⟩ := b
    dsimp only at *
    subst hcr
    obtain ⟨ar, rfl⟩ := Int.eq_ofNat_of_zero_le q1
    obtain ⟨ac, rfl⟩ := Int.eq_ofNat_of_zero_le q3
    obtain ⟨bc, rfl⟩ := Int.eq_ofNat_of_zero_le p3
    simp only [Int.toNat_natCast] at *
    have la5 : la.length = ar * ac := by omega
    have lb5 : lb.length = ac * bc := by omega
    have ha1 : ar ≤ 255 := by omega
    have ha2 : ac ≤ 255 := by omega
    have hb2 : bc ≤ 255 := by omega
    have HLa := hide la5
    have HLb := hide lb5
    have CB := fun W => blank_any ar bc ha1 (by omega) W
    have HBa := hide (show ∀ i, i < ar → ∀ W, Ext w W → Bytes W W.heap.size (cutAt A1 k1 (i * ac)) ac (rowB ac (fa i)) from fun i hi W hX => rowBytes (hX.bytes hla.1) la5 hla.2.2 hi HA.out)
    have HBb := hide (show ∀ i, i < ac → ∀ W, Ext w W → Bytes W W.heap.size (cutAt A2 k2 (i * bc)) bc (rowB bc (fb i)) from fun i hi W hX => rowBytes (hX.bytes hlb.1) lb5 hlb.2.2 hi HB.out)
    have HCa := hide (show ∀ i, i < ar → (i + 1) * ac ≤ k1 from fun i hi => by have : (i + 1) * ac ≤ ar * ac := Nat.mul_le_mul_right _ hi; have h3 : la.length ≤ k1 := hla.2.2; omega)
    have HCb := hide (show ∀ i, i < ac → (i + 1) * bc ≤ k2 from fun i hi => by have : (i + 1) * bc ≤ ac * bc := Nat.mul_le_mul_right _ hi; have h3 : lb.length ≤ k2 := hlb.2.2; omega)
    have hne : ((ac : Int) != (ac : Int)) = false := by simp
    clear q1 q2 q3 q4 q5 p1 p2 p3 p4 p5 la5 lb5 hla hlb HA HB
    go_enter Try.func27, Try.ntmps27
    go_wp2_with (refine wpList_load_row rfl 24 (.tmp 2) rfl _ rfl _ _ _ _ hWa Try.underlying24 rfl mat_info ?_)
    refine (M1 _).mono ?_
    rintro e w2 ⟨rfl, hF2⟩
    have hWb2 := hWb.ext hF2
    have hWa2 := hWa.ext hF2
    have hWr2 := hWr.ext hF2
    have b0 := hWb2.at 0 rfl
    have b1 := hWb2.at 1 rfl
    have b2 := hWb2.at 2 rfl
    go_wp2_with fail
    refine (M2 _).mono ?_
    rintro e w3 ⟨rfl, hF3⟩
    have hWb3 := hWb2.ext hF3
    have hWa3 := hWa2.ext hF3
    have hWr3 := hWr2.ext hF3
    have hE3 := (hE.trans hF2).trans hF3
    have d0 := hWa3.at 0 rfl
    have d1 := hWa3.at 1 rfl
    have e0 := hWb3.at 0 rfl
    have e1 := hWb3.at 1 rfl
    have hrl := hWr3.lt
    clear M1 M2 hF2 hF3 hWa2 hWb2 hWr2 hWa hWb hWr hE
    go_wp2_with fail
    refine (CB _).mono ?_
    rintro e w4 ⟨g, rfl, hg, hO, hE4⟩
    have hg2 := (hO.lt g rfl).2
    have hW2 := Whole.new w4 55 #[.int .i64 0, .int .i64 0, .slice none 0 0]
    have hE5 := extNew w4 (.cells #[.int .i64 0, .int .i64 0, .slice none 0 0] 55)
    unfold matV
    go_wp2_with (refine wpList_storeW rfl 55 (.tmp 6) (.tmp 31) rfl rfl rfl hW2 rfl work_info (mat_one rfl) ?_; intro w5 hW5 hG5 _; have c0' := (((hWa3.ext hE4).ext hE5).grown hG5 (by have := (hWa3.ext hE4).lt; omega)).at 0 rfl)
    have hO5 := (Mod.ofRow (ob := none) hG5).own (hO.ext hE5) (by simp [Value.ownBlock]; omega) (by simp [Classical.em])
    have hF5 : Ext w3 w5 := Below.grown (hE4.trans hE5) hG5 (hE4.trans hE5).le (fun k hk => by cases hk; exact hE4.le)
    rw [cells_zero bc, ← mulTo_none ac fa fb] at hO5
    have hM5 : OwnM w5 w3.heap.size g ar bc (ar * bc) _ := ⟨hO5, hg, by have := hW5.lt; omega, Nat.le_refl _⟩
    obtain ⟨gb, hgb⟩ : ∃ gb, gb = w4.heap.size := ⟨_, rfl⟩
    rw [← hgb] at hW5 ⊢
    have hb : w3.heap.size ≤ gb := by have := hE4.le; omega
    have hgg : g < gb := by omega
    clear hO hW2 hE5 hG5 hg2 hgb CB d0 d1 e0 e1 hE4 hO5 c0'
    go_loopw [34] (fun i wr => ∃ j : Nat, j ≤ ar ∧ i = .int .i64 (j : Int) ∧ OwnM wr w3.heap.size g ar bc (ar * bc) (mulTo ac fa fb j 0) ∧ Whole wr gb 55 #[.int .i64 ar, .int .i64 bc, .slice (some ⟨g, 0, none⟩) (ar * bc) (ar * bc)] ∧ Ext w3 wr) (fun i _ => ar - (intOf i).toNat)
    case atStart => exact ⟨0, by omega, rfl, hM5, hW5, hF5⟩
    case round =>
      obtain ⟨i, hi, rfl, hMi, hWm, hEr⟩ := hrel
      have hWa' := hWa3.ext hEr
      by_cases hlt : i < ar
      · have CRa := fun W => row_any' ar i ac k1 la.length A1 (by omega) (by omega) (HCa.out i hlt) W
        unfold matV at CRa
        go_wp2_with (refine wpList_load_row rfl 24 (.tmp 2) rfl _ rfl _ _ _ _ hWa' Try.underlying24 rfl mat_info ?_)
        refine (CRa _).mono ?_
        rintro e w6 ⟨rfl, hE6⟩
        have HRr := hide (HBa.out i hlt)
        generalize cutAt A1 k1 (i * ac) = Ra at *
        generalize k1 - i * ac = ka at *
        clear CRa
        go_wp2_with fail
        go_loopw [41] (fun x wq => ∃ j : Nat, j ≤ ac ∧ x = .int .i64 (j : Int) ∧ OwnM wq w3.heap.size g ar bc (ar * bc) (mulTo ac fa fb i j) ∧ Whole wq gb 55 #[.int .i64 ar, .int .i64 bc, .slice (some ⟨g, 0, none⟩) (ar * bc) (ar * bc)] ∧ Ext w3 wq) (fun x _ => ac - (intOf x).toNat)
        case atStart => exact ⟨0, by omega, rfl, hMi.ext hE6, hWm.ext hE6, hEr.trans hE6⟩
        case round =>
          obtain ⟨j, hj, rfl, hMj, hWm2, hE2⟩ := hrel
          by_cases hjt : j < ac
          · have hEw := hE3.trans hE2
            have hWb' := hWb3.ext hE2
            rcases (HRr.out wr hEw).2 with h0 | ⟨ga, oa, rfl, _, hca⟩
            · omega
            have r0 := hca j hjt
            rw [rowB_at _ hjt] at r0
            have CRb := fun W => row_any' ac j bc k2 lb.length A2 (by omega) (by omega) (HCb.out j hjt) W
            have CA := fun W hM hB => wadd_any (w := W) (base := w3.heap.size) (g := g) (r := ar) (c := bc) (k := ar * bc) (i := i) (x := (fa i j).toNat) (F := mulTo ac fa fb i j) (A := cutAt A2 k2 (j * bc)) (ks := k2 - j * bc) (f := fb j) ha1 (by omega) hlt (Mat.lt _) hM hB
            rw [show UInt8.ofNat (fa i j).toNat = fa i j from Mat.ext8 (by rw [UInt8.toNat_ofNat', Nat.mod_eq_of_lt (Mat.lt _)]), mulTo_step] at CA
            unfold ownV at CA
            unfold matV at CRb CA
            clear hca
            generalize fa i j = bt at *
            go_wp2_with fail

            refine wp_region_T (fun W => Ext wr W) 6 7 #[false, false, false, false, false, false, false] (by kernel_rfl) rfl rfl (Ext.refl wr).drew ?_
            intro hS0
            refine wpAnyT_take 0 (some 46) (.agg #[.int .i64 (ar : Int), .int .i64 (bc : Int), .slice (some ⟨g, 0, none⟩) (ar * bc) (ar * bc)]) #[true, false, false, false, false, false, false] rfl rfl rfl (by kernel_rfl) (fun _ _ _ h => h) hS0 (by rfl) (fun W hX => by have s0 := (hWm2.ext hX).at 0 (u := .int .i64 (ar : Int)) rfl; have s1 := (hWm2.ext hX).at 1 (u := .int .i64 (bc : Int)) rfl; have s2 := (hWm2.ext hX).at 2 (u := .slice (some ⟨g, 0, none⟩) (ar * bc) (ar * bc)) rfl; go_simp) ?_
            simp only [Act.put, List.setIfInBounds_toArray, List.set_cons_zero, List.set_cons_succ]
            refine wpAnyT_take 1 (some 47) (.int .i64 (i : Int)) #[true, true, false, false, false, false, false] rfl rfl rfl (by kernel_rfl) (fun _ _ _ h => h) hS0 (by rfl) (fun W hX => by go_simp) ?_
            simp only [Act.put, List.setIfInBounds_toArray, List.set_cons_zero, List.set_cons_succ]
            refine wpAnyT_take 2 (some 48) (.int .u8 (bt.toNat : Int)) #[true, true, true, false, false, false, false] rfl rfl rfl (by kernel_rfl) (fun _ _ _ h => h) hS0 (by rfl) (fun W hX => by go_simp) ?_
            simp only [Act.put, List.setIfInBounds_toArray, List.set_cons_zero, List.set_cons_succ]
            refine wpAnyT_take 3 (some 49) (.agg #[.int .i64 (ac : Int), .int .i64 (bc : Int), .slice A2 lb.length k2]) #[true, true, true, true, false, false, false] rfl rfl rfl (by kernel_rfl) (fun _ _ _ h => h) hS0 (by rfl) (fun W hX => by have s0 := (hWb'.ext hX).at 0 (u := .int .i64 (ac : Int)) rfl; have s1 := (hWb'.ext hX).at 1 (u := .int .i64 (bc : Int)) rfl; have s2 := (hWb'.ext hX).at 2 (u := .slice A2 lb.length k2) rfl; go_simp) ?_
            simp only [Act.put, List.setIfInBounds_toArray, List.set_cons_zero, List.set_cons_succ]
            refine wpAnyT_take 4 (some 50) (.int .i64 (j : Int)) #[true, true, true, true, true, false, false] rfl rfl rfl (by kernel_rfl) (fun _ _ _ h => h) hS0 (by rfl) (fun W hX => by go_simp) ?_
            simp only [Act.put, List.setIfInBounds_toArray, List.set_cons_zero, List.set_cons_succ]
            refine wpAnyT_only 5 #[true, true, true, true, true, true, false] (by kernel_rfl) rfl rfl (by rfl) (fun K0 hK0 => ?_)
            go_simp
            go_at_call 35
            refine (CRb _).mono ?_
            rintro e wc0 ⟨rfl, hC0⟩
            have hX0 := hS0.trans hC0
            refine hK0 _ _ (fun _ => hX0) ?_
            clear hK0 K0
            refine wpAnyT_only 6 #[true, true, true, true, true, true, true] (by kernel_rfl) rfl rfl (by rfl) (fun K1 hK1 => ?_)
            go_simp
            go_at_call 38
            refine (CA _ (hMj.ext hX0) (HBb.out j hjt _ (hEw.trans hX0))).mono ?_
            rintro e w8 ⟨rfl, hM8, hG8⟩
            refine hK1 _ _ (fun h => absurd h (by decide)) (wpAnyT_done (by kernel_rfl) ?_ _)
            clear hK1 K1
            have hE8 : Ext w3 w8 := Below.grown (hE2.trans hX0) hG8 (hE2.trans hX0).le (fun k hk => by cases hk; exact hg)
            have hWm8 := (hWm2.ext hX0).grown hG8 (by omega)
            go_wp2
            go_roundw
            case rel => exact ⟨j + 1, by omega, by go_num, hM8, hWm8, hE8⟩
            case measure => simp [intOf]; omega
          · obtain rfl : j = ac := by omega
            go_wp2
            go_roundw
            case rel => exact ⟨i + 1, by omega, by go_num, by rw [← mulTo_row]; exact hMj, hWm2, hE2⟩
            case measure => simp [intOf]; omega
      · obtain rfl : i = ar := by omega
        have hWrr := hWr3.ext hEr
        go_wp2_with (first
          | (refine wpList_load_row rfl 24 (.tmp 55) rfl _ rfl _ _ _ _ hWm Try.underlying24 rfl mat_info ?_)
          | (refine wpList_storeW rfl 24 (.tmp 4) (.tmp 56) rfl rfl rfl hWrr rfl mat_info (mat_one rfl) ?_; intro w6 hW6 hG6 _))
        refine bodyPost_ret (results_mat rfl _ rfl rfl hW6 rfl) rfl ?_
        have hne6 : (Value.slice (some ⟨g, 0, none⟩) (i * bc) (i * bc)).ownBlock ≠ some (w.heap.size + 1 + 1) := fun e => by
          have := (hMi.1.lt _ e).1
          omega
        have hO9 := (hMi.congr (G := Mat.mm ac fa fb) (fun a b ha _ => by unfold mulTo; rw [if_pos ha])).1
        exact ⟨_, rfl, ((Mod.ofRow (ob := none) hG6).own hO9 hne6 (by simp [Classical.em])).mono hE3.le, Below.grown (hE3.trans hEr) hG6 (hE3.trans hEr).le (fun k hk => by cases hk; omega)⟩
  · have HN := hide (show a.mulE b = (MV.zero, 13) by rw [HE.out, if_neg hok])
    by_cases ha : a.may = true
    · by_cases hb : b.may = true
      · have hne : (a.c != b.r) = true := by simpa using fun e => hok ⟨ha, hb, e⟩
        rw [ha] at M1
        rw [hb] at M2
        clear hok ha hb
        go_enter Try.func27, Try.ntmps27
        go_wp2_with (refine wpList_load_row rfl 24 (.tmp 2) rfl _ rfl _ _ _ _ hWa Try.underlying24 rfl mat_info ?_)
        refine (M1 _).mono ?_
        rintro e w2 ⟨rfl, hF2⟩
        have hWb2 := hWb.ext hF2
        have hWa2 := hWa.ext hF2
        have hWr2 := hWr.ext hF2
        have b0 := hWb2.at 0 rfl
        have b1 := hWb2.at 1 rfl
        have b2 := hWb2.at 2 rfl
        go_wp2_with fail
        refine (M2 _).mono ?_
        rintro e w3 ⟨rfl, hF3⟩
        have hWb3 := hWb2.ext hF3
        have hWa3 := hWa2.ext hF3
        have hWr3 := hWr2.ext hF3
        have a1 := hWa3.at 1 rfl
        have b0' := hWb3.at 0 rfl
        go_wp2_with (refine wpList_storeW rfl 24 (.tmp 4) (.tmp 25) rfl rfl rfl hWr3 rfl mat_info (mat_one rfl) ?_; intro w5 hW5 hG5 _)
        refine bodyPost_ret (results_mat rfl _ rfl rfl hW5 rfl) rfl ?_
        rw [HN.out]
        exact MadeM.zero 13 (Below.grown ((hE.trans hF2).trans hF3) hG5 ((hE.trans hF2).trans hF3).le (fun k hk => by cases hk; omega))
      · rw [Bool.not_eq_true] at hb
        rw [ha] at M1
        rw [hb] at M2
        clear hok ha hb
        go_enter Try.func27, Try.ntmps27
        go_wp2_with (refine wpList_load_row rfl 24 (.tmp 2) rfl _ rfl _ _ _ _ hWa Try.underlying24 rfl mat_info ?_)
        refine (M1 _).mono ?_
        rintro e w2 ⟨rfl, hF2⟩
        have hWb2 := hWb.ext hF2
        have hWr2 := hWr.ext hF2
        have b0 := hWb2.at 0 rfl
        have b1 := hWb2.at 1 rfl
        have b2 := hWb2.at 2 rfl
        go_wp2_with fail
        refine (M2 _).mono ?_
        rintro e w3 ⟨rfl, hF3⟩
        have hWr3 := hWr2.ext hF3
        go_wp2_with (refine wpList_storeW rfl 24 (.tmp 4) (.tmp 25) rfl rfl rfl hWr3 rfl mat_info (mat_one rfl) ?_; intro w5 hW5 hG5 _)
        refine bodyPost_ret (results_mat rfl _ rfl rfl hW5 rfl) rfl ?_
        rw [HN.out]
        exact MadeM.zero 13 (Below.grown ((hE.trans hF2).trans hF3) hG5 ((hE.trans hF2).trans hF3).le (fun k hk => by cases hk; omega))
    · rw [Bool.not_eq_true] at ha
      rw [ha] at M1
      clear hok ha
      go_enter Try.func27, Try.ntmps27
      go_wp2_with (refine wpList_load_row rfl 24 (.tmp 2) rfl _ rfl _ _ _ _ hWa Try.underlying24 rfl mat_info ?_)
      refine (M1 _).mono ?_
      rintro e w2 ⟨rfl, hF2⟩
      have hWr2 := hWr.ext hF2
      go_wp2_with (refine wpList_storeW rfl 24 (.tmp 4) (.tmp 25) rfl rfl rfl hWr2 rfl mat_info (mat_one rfl) ?_; intro w5 hW5 hG5 _)
      refine bodyPost_ret (results_mat rfl _ rfl rfl hW5 rfl) rfl ?_
      rw [HN.out]
      exact MadeM.zero 13 (Below.grown (hE.trans hF2) hG5 (hE.trans hF2).le (fun k hk => by cases hk; omega))
end Go.Proofs.Ytedkajpodepkiaa
