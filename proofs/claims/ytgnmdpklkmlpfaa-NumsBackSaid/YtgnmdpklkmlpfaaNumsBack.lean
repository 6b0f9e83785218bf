/- The law NumsBack. -/
import Derived.Test.YtgnmdpklkmlpfaaCurEnd
import Derived.Test.YtgnmdpklkmlpfaaCurRest
import Derived.Test.YtgnmdpklkmlpfaaConcat
import Derived.OpenShut
namespace Go.Proofs.Ytgnmdpklkmlpfaa
open Go.RowKit

/-- What the three parts are read as. -/
theorem back_num (x : Nat) (hx : x < 2 ^ 64) (post : List UInt8) : Num.numR (Num.enc x ++ post) 0 0 = (x, (Num.enc x).length, 0) := by
  have h := Num.scan_enc [] post x hx
  rw [List.nil_append, List.length_nil, Nat.zero_add] at h
  exact h
theorem back_text (pre s post : List UInt8) (hs : s.length ≤ 2000) :
    Num.textR (pre ++ (Num.enc s.length ++ s) ++ post) pre.length 0 2000 = (s, pre.length + (Num.enc s.length ++ s).length, 0) := by
  have h : Num.scan (pre ++ (Num.enc s.length ++ s) ++ post) pre.length = (s.length, pre.length + (Num.enc s.length).length, 0) := by
    have := Num.scan_enc pre (s ++ post) s.length (by omega)
    rw [← this]
    congr 1
    simp [List.append_assoc]
  have hN : Num.numR (pre ++ (Num.enc s.length ++ s) ++ post) pre.length 0 = (s.length, pre.length + (Num.enc s.length).length, 0) := h
  have hI : Num.intR (pre ++ (Num.enc s.length ++ s) ++ post) pre.length 0 2000 = (s.length, pre.length + (Num.enc s.length).length, 0) := by
    unfold Num.intR
    rw [hN, if_pos rfl, if_neg (by simp only; omega)]
  have hlen : (pre ++ (Num.enc s.length ++ s) ++ post).length = pre.length + (Num.enc s.length).length + s.length + post.length := by simp only [List.length_append]; omega
  have hdrop : (pre ++ (Num.enc s.length ++ s) ++ post).drop (pre.length + (Num.enc s.length).length) = s ++ post := by
    rw [show pre ++ (Num.enc s.length ++ s) ++ post = (pre ++ Num.enc s.length) ++ (s ++ post) by simp [List.append_assoc]]
    exact List.drop_left' (by simp)
  unfold Num.textR
  rw [hI, if_pos rfl, hlen, if_neg (by simp only; omega)]
  unfold Num.takeR
  rw [if_pos rfl, if_neg (by simp only; omega), hlen, if_neg (by simp only; omega)]
  simp only
  rw [hdrop, Int.toNat_natCast, List.take_left, List.length_append, Nat.add_assoc]
theorem back_fixed (pre : List UInt8) (y k : Nat) (h1 : 1 ≤ k) (h8 : k ≤ 8) (hy : y < 256 ^ k) : Num.fixedR (pre ++ Num.fix k y) pre.length 0 (k : Int) = (y, (pre ++ Num.fix k y).length, 0) := by
  have hl := Num.fix_len k y
  have hlen : (pre ++ Num.fix k y).length = pre.length + k := by rw [List.length_append, hl]
  have ht : Num.takeR (pre ++ Num.fix k y) pre.length 0 (k : Int) = (Num.fix k y, pre.length + k, 0) := by
    unfold Num.takeR
    rw [if_pos rfl, if_neg (by omega), hlen, if_neg (by omega), List.drop_left]
    rw [Int.toNat_natCast, List.take_of_length_le (by omega)]
  unfold Num.fixedR
  rw [if_pos rfl, if_neg (by omega), ht, Num.low_fix k y hy, hlen]

set_option maxHeartbeats 4000000 in
set_option maxRecDepth 100000 in
theorem numsBack_walk (x : Int) (s : ByteArray) (y n : Int) (w : World) (hx : (Lit.int .u64 x).wf = true) (hy : (Lit.int .u64 y).wf = true) (hn : (Lit.int .u8 n).wf = true) :
    Calls Try.prog 7 #[.int .u64 x, .string s, .int .u64 y, .int .u8 n] w fun e w' => e = .returned (.bool true) ∧ Below w.heap.size w w' := by
  have C0 := alive3_any w
  by_cases hbig : (2000 : Int) < (s.size : Int)
  · go_enter Try.func7, Try.ntmps7
    go_wp2_with fail
    refine C0.mono ?_
    rintro e w1 ⟨rfl, hE1⟩
    go_wp2
    go_ret
    exact ⟨rfl, hE1⟩
  · obtain ⟨x0, x1⟩ := bounds_u64 hx
    obtain ⟨y0, y1⟩ := bounds_u64 hy
    obtain ⟨n0, n1⟩ := bounds_u8 hn
    obtain ⟨x, rfl⟩ := Int.eq_ofNat_of_zero_le x0
    obtain ⟨y, rfl⟩ := Int.eq_ofNat_of_zero_le y0
    obtain ⟨n, rfl⟩ := Int.eq_ofNat_of_zero_le n0
    obtain ⟨k, hk⟩ : ∃ k, k = 1 + n % 8 := ⟨_, rfl⟩
    have ek : 1 + (n : Int) % 8 = (k : Int) := by omega
    have hk1 : 1 ≤ k := by omega
    have hk8 : k ≤ 8 := by omega
    clear hk
    have hx' : x < 18446744073709551616 := by omega
    have N1 := fun W => ownNum_any x W hx'
    have T1 := fun W => ownText_any s W (by omega)
    have F1 := fun W => ownFixed_any y (k : Int) W (by omega)
    clear hx hy hn x0 x1 y0 y1
    go_enter Try.func7, Try.ntmps7
    go_wp2_with fail
    refine C0.mono ?_
    rintro e w1 ⟨rfl, hE1⟩
    go_wp2_with fail
    refine (F1 _).mono ?_
    rintro e w2 ⟨v2, rfl, hO2, hE2⟩
    go_wp2_with fail
    refine (N1 _).mono ?_
    rintro e w3 ⟨v3, rfl, hO3, hE3⟩
    go_wp2_with fail
    refine (T1 _).mono ?_
    rintro e w4 ⟨v4, rfl, hO4, hE4⟩
    have lF : (Num.fixBytes y (k : Int)).length ≤ 8 := by
      unfold Num.fixBytes
      split
      · rw [Num.fix_len]; simp; omega
      · simp
    have lN := Num.enc_len x
    have lT := Num.enc_len s.size
    have lS : s.data.toList.length = s.size := by simp
    obtain ⟨A2, n2, c2, rfl, hn2, hm2, hb2⟩ := hO2.form'
    obtain ⟨A3, n3, c3, rfl, hn3, hm3, hb3⟩ := hO3.form'
    obtain ⟨A4, n4, c4, rfl, hn4, hm4, hb4⟩ := hO4.form'
    have hE5 := extNew w4 (.cells #[.slice A3 n3 c3, .slice A4 n4 c4, .slice A2 n2 c2] 24)
    have hp2 := hE5.bytes ((hE3.trans hE4).bytes hb2)
    have hp3 := hE5.bytes (hE4.bytes hb3)
    have hp4 := hE5.bytes hb4
    have hparts : Parts (w4.alloc (.cells #[.slice A3 n3 c3, .slice A4 n4 c4, .slice A2 n2 c2] 24)) (w4.alloc (.cells #[.slice A3 n3 c3, .slice A4 n4 c4, .slice A2 n2 c2] 24)).heap.size (some ⟨w4.heap.size, 0, none⟩) 3
        [Num.enc x, Num.enc s.size ++ s.data.toList, Num.fixBytes y (k : Int)] := by
      refine ⟨rfl, .inr ⟨w4.heap.size, 0, rfl, by simp, fun i hi => ?_⟩⟩
      have hcell := cellNew w4 #[.slice A3 n3 c3, .slice A4 n4 c4, .slice A2 n2 c2] 24 (0, 0)
      rcases (by omega : i = 0 ∨ i = 1 ∨ i = 2) with rfl | rfl | rfl
      · exact ⟨A3, n3, c3, hcell 0, Nat.le_trans hm3 (by unfold maxLen; omega), hp3⟩
      · exact ⟨A4, n4, c4, hcell 1, Nat.le_trans hm4 (by rw [List.length_append]; unfold maxLen; omega), hp4⟩
      · exact ⟨A2, n2, c2, hcell 2, Nat.le_trans hm2 (by unfold maxLen; omega), hp2⟩
    have CA := all_any (some ⟨w4.heap.size, 0, none⟩) 3 [Num.enc x, Num.enc s.size ++ s.data.toList, Num.fixBytes y (k : Int)] _ hparts (by simp) (by simp only [List.flatten_cons, List.flatten_nil, List.length_append, List.append_nil]; omega)
    rw [show [Num.enc x, Num.enc s.size ++ s.data.toList, Num.fixBytes y (k : Int)].flatten = Num.enc x ++ (Num.enc s.size ++ s.data.toList) ++ Num.fixBytes y (k : Int) by simp] at CA
    have hE15 := (((hE1.trans hE2).trans hE3).trans hE4).trans hE5
    have lAll : (Num.enc x ++ (Num.enc s.size ++ s.data.toList) ++ Num.fixBytes y (k : Int)).length ≤ 1000000 := by simp only [List.length_append]; omega
    have RN := back_num x hx' ((Num.enc s.size ++ s.data.toList) ++ Num.fixBytes y (k : Int))
    rw [← List.append_assoc] at RN
    have RT := back_text (Num.enc x) s.data.toList (Num.fixBytes y (k : Int)) (by omega)
    rw [lS, ← List.length_append] at RT
    have RF := back_fixed (Num.enc x ++ (Num.enc s.size ++ s.data.toList)) y k hk1 hk8
    have HB0 : y < 256 ^ k ∧ Num.fixErr y (k : Int) = 0 ∧ Num.fixBytes y (k : Int) = Num.fix k y ∨ Num.fixErr y (k : Int) = 13 ∧ Num.fixBytes y (k : Int) = [] := by
      unfold Num.fixErr Num.fixBytes
      by_cases h : y < 256 ^ k
      · exact .inl ⟨h, by rw [if_pos ⟨by omega, by omega, by simpa using h⟩], by rw [if_pos ⟨by omega, by omega, by simpa using h⟩]; simp⟩
      · exact .inr ⟨by rw [if_neg (fun h' => h (by simpa using h'.2.2))], by rw [if_neg (fun h' => h (by simpa using h'.2.2))]⟩
    clear hp2 hp3 hp4 hparts hb2 hb3 hb4 hO2 hO3 hO4 hE5 hE4 hE3 hE2 hE1 N1 T1 F1 C0 hm2 hm3 hm4 hn2 hn3 hn4
    have HE := hide hE15
    have HRF := hide RF
    have HH := hide HB0
    clear RF HB0 hE15
    go_wp2_with fail
    refine CA.mono ?_
    rintro e w6 ⟨v6, rfl, hO6, hE6⟩
    obtain ⟨A6, n6, c6, rfl, hn6, hm6, hb6⟩ := hO6.form'
    go_wp2_with fail
    refine (pcNew_any A6 n6 c6 _ w6 hn6 (by omega) hb6).mono ?_
    rintro e w7 ⟨g, r, rfl, hg, hP7, hE7⟩
    have hE17 := (HE.out.trans hE6).trans hE7
    have hgw : w.heap.size ≤ g := Nat.le_trans (HE.out.trans hE6).le hg
    go_wp2_with fail
    refine (pcNum_any hP7).mono ?_
    rintro e w8 ⟨rfl, hT8⟩
    rw [RN] at hT8 ⊢
    go_wp2_with fail
    refine (pcText_any hT8.1 2000 (by decide)).mono ?_
    rintro e w9 ⟨rfl, hT9⟩
    rw [RT] at hT9 ⊢
    dsimp only at hT8 hT9 ⊢
    have hT79 := hT8.then hT9
    have hend : ∀ b : List UInt8, Num.endR b b.length 0 = 0 := fun b => by unfold Num.endR; rw [if_neg (by omega)]
    have HEn := hide hend
    have HRT := hide RT
    have HRN := hide RN
    clear hend RT RN CA hO6 hb6 hP7 hT8 hT9 lAll hm6
    rcases HH.out with ⟨hlt, h0, hF⟩ | ⟨h13, hF⟩
    · rw [h0]
      rw [hF] at hT79
      have HRF' := hide (HRF.out hlt)
      clear HRF HH HRT HRN h0 hF hlt
      generalize Num.enc x ++ (Num.enc s.size ++ s.data.toList) = P at *
      go_wp2_with fail
      refine (pcFixed_any hT79.1 (k : Int)).mono ?_
      rintro e w10 ⟨rfl, hT10⟩
      rw [HRF'.out] at hT10 ⊢
      dsimp only at hT10 ⊢
      go_wp2_with fail
      refine (pcEnd_any hT10.1).mono ?_
      rintro e w11 ⟨rfl, hT11⟩
      rw [HEn.out]
      go_wp2
      go_ret
      exact ⟨rfl, Below.trans (B := w.heap.size) hE17 (((hT79.then hT10).then hT11).2.below hE17.le hgw (fun k hk => by cases hk))⟩
    · rw [h13]
      rw [hF, List.append_nil] at hT79
      clear HRF HH HRT HRN h13 hF
      generalize Num.enc x ++ (Num.enc s.size ++ s.data.toList) = P at *
      go_wp2_with fail
      refine (pcEnd_any hT79.1).mono ?_
      rintro e w11 ⟨rfl, hT11⟩
      rw [HEn.out]
      go_wp2
      go_ret
      exact ⟨rfl, Below.trans (B := w.heap.size) hE17 ((hT79.then hT11).2.below hE17.le hgw (fun k hk => by cases hk))⟩
end Go.Proofs.Ytgnmdpklkmlpfaa
