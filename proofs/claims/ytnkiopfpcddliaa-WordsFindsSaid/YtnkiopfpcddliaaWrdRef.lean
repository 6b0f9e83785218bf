/- The document's functions of chapter 15: Small, Words, One, Term. -/
import Derived.Test.YtnkiopfpcddliaaTxtVal
import Derived.Test.YtnkiopfpcddliaaWrdMath
import Derived.BigQuiet
import Derived.OwnWalk
namespace Go.Proofs.Ytnkiopfpcddliaa
open Go.RowKit Wrd

attribute [local go_sem ↓] run_txtAt run_txtLen run_txtCut
set_option maxHeartbeats 1000000 in
theorem refSmall_any (c : UInt8) (w : World) : Calls Try.prog 20 #[.int .u8 (c.toNat : Int)] w fun e w' => e = .returned (.int .u8 ((small c).toNat : Int)) ∧ w = w' := by
  have hc : c.toNat < 256 := c.toNat_lt
  have hs : small c = if (97 ≤ c.toNat ∧ c.toNat ≤ 122) ∨ (48 ≤ c.toNat ∧ c.toNat ≤ 57) then c else if 65 ≤ c.toNat ∧ c.toNat ≤ 90 then c + 32 else 0 := rfl
  have h32 : c.toNat ≤ 90 → (c + 32).toNat = c.toNat + 32 := fun h => by rw [UInt8.toNat_add]; show (c.toNat + 32) % 256 = _; omega
  by_cases a1 : 97 ≤ c.toNat ∧ c.toNat ≤ 122
  · rw [if_pos (.inl a1)] at hs
    rw [hs]
    obtain ⟨n, hn⟩ : ∃ n, n = c.toNat := ⟨_, rfl⟩
    rw [← hn] at a1 ⊢
    have b1 : (97 : Int) ≤ (n : Int) := by omega
    have b2 : (n : Int) ≤ (122 : Int) := by omega
    clear hn hs h32 hc a1
    go_enter Try.func20, Try.ntmps20
    go_wp2
    go_ret
    exact ⟨rfl, rfl⟩
  by_cases a2 : 48 ≤ c.toNat ∧ c.toNat ≤ 57
  · rw [if_pos (.inr a2)] at hs
    rw [hs]
    obtain ⟨n, hn⟩ : ∃ n, n = c.toNat := ⟨_, rfl⟩
    rw [← hn] at a2 ⊢
    have b1 : ¬ (97 : Int) ≤ (n : Int) := by omega
    have b2 : (48 : Int) ≤ (n : Int) := by omega
    have b3 : (n : Int) ≤ (57 : Int) := by omega
    clear hn hs h32 hc a2 a1
    go_enter Try.func20, Try.ntmps20
    go_wp2
    go_ret
    exact ⟨rfl, rfl⟩
  rw [if_neg (by omega)] at hs
  by_cases a3 : 65 ≤ c.toNat ∧ c.toNat ≤ 90
  · rw [if_pos a3] at hs
    rw [hs, h32 a3.2]
    obtain ⟨n, hn⟩ : ∃ n, n = c.toNat := ⟨_, rfl⟩
    rw [← hn] at a3 ⊢
    have b1 : ¬ (97 : Int) ≤ (n : Int) := by omega
    have b2 : (48 : Int) ≤ (n : Int) := by omega
    have b3 : ¬ (n : Int) ≤ (57 : Int) := by omega
    have b4 : (65 : Int) ≤ (n : Int) := by omega
    have b5 : (n : Int) ≤ (90 : Int) := by omega
    have hw : IntKind.u8.wrap ((n : Int) + 32) = ((n + 32 : Nat) : Int) := by rw [IntKind.wrap_u8]; omega
    clear hn hs h32 hc a3 a2 a1
    go_enter Try.func20, Try.ntmps20
    go_wp2
    go_ret
    exact ⟨rfl, rfl⟩
  rw [if_neg a3] at hs
  rw [hs]
  obtain ⟨n, hn⟩ : ∃ n, n = c.toNat := ⟨_, rfl⟩
  rw [← hn] at a1 a2 a3 hc ⊢
  clear hn hs h32
  rcases (by omega : n < 48 ∨ (57 < n ∧ n < 65) ∨ (90 < n ∧ n < 97) ∨ 122 < n) with h | h | h | h
  · have b1 : ¬ (97 : Int) ≤ (n : Int) := by omega
    have b2 : ¬ (48 : Int) ≤ (n : Int) := by omega
    have b4 : ¬ (65 : Int) ≤ (n : Int) := by omega
    clear h a1 a2 a3 hc
    go_enter Try.func20, Try.ntmps20
    go_wp2
    go_ret
    exact ⟨rfl, rfl⟩
  · have b1 : ¬ (97 : Int) ≤ (n : Int) := by omega
    have b2 : (48 : Int) ≤ (n : Int) := by omega
    have b3 : ¬ (n : Int) ≤ (57 : Int) := by omega
    have b4 : ¬ (65 : Int) ≤ (n : Int) := by omega
    clear h a1 a2 a3 hc
    go_enter Try.func20, Try.ntmps20
    go_wp2
    go_ret
    exact ⟨rfl, rfl⟩
  · have b1 : ¬ (97 : Int) ≤ (n : Int) := by omega
    have b2 : (48 : Int) ≤ (n : Int) := by omega
    have b3 : ¬ (n : Int) ≤ (57 : Int) := by omega
    have b4 : (65 : Int) ≤ (n : Int) := by omega
    have b5 : ¬ (n : Int) ≤ (90 : Int) := by omega
    clear h a1 a2 a3 hc
    go_enter Try.func20, Try.ntmps20
    go_wp2
    go_ret
    exact ⟨rfl, rfl⟩
  · have b1 : (97 : Int) ≤ (n : Int) := by omega
    have b1' : ¬ (n : Int) ≤ (122 : Int) := by omega
    have b2 : (48 : Int) ≤ (n : Int) := by omega
    have b3 : ¬ (n : Int) ≤ (57 : Int) := by omega
    have b4 : (65 : Int) ≤ (n : Int) := by omega
    have b5 : ¬ (n : Int) ≤ (90 : Int) := by omega
    clear h a1 a2 a3 hc
    go_enter Try.func20, Try.ntmps20
    go_wp2
    go_ret
    exact ⟨rfl, rfl⟩
theorem small_zero {c : UInt8} (h : isL c = false) : ((small c).toNat : Int) = 0 := by rw [isL_no.1 h]; rfl
theorem small_ne {c : UInt8} (h : isL c = true) : (small c).toNat ≠ 0 := fun e => isL_iff.1 h (UInt8.toNat_inj.1 (by simpa using e))

theorem Wrd.drop_at {l : List UInt8} {i : Nat} (h : i < l.length) : l.drop i = l.getD i 0 :: l.drop (i + 1) := by
  rw [List.drop_eq_getElem_cons h, List.getD_eq_getElem?_getD, List.getElem?_eq_getElem h]
  rfl
/-- Is there a letter ahead of the place? -/
def Wrd.prior (l : List UInt8) (i : Nat) : Bool := decide (0 < i) && isL (l.getD (i - 1) 0)
theorem Wrd.prior_next (l : List UInt8) (i : Nat) : prior l (i + 1) = isL (l.getD i 0) := by simp [prior]
theorem Wrd.words_at {l : List UInt8} {i : Nat} (h : i < l.length) : wordsF (prior l i) (l.drop i) = (if isL (l.getD i 0) = true ∧ prior l i = false then [wordR 24 (l.drop i)] else []) ++ wordsF (prior l (i + 1)) (l.drop (i + 1)) := by
  rw [prior_next]
  conv => lhs; rw [drop_at h, wordsF]
  rw [← drop_at h]
theorem Wrd.word_at {l : List UInt8} {k m : Nat} (h : k < l.length) : wordR (m + 1) (l.drop k) = if isL (l.getD k 0) = true then small (l.getD k 0) :: wordR m (l.drop (k + 1)) else [] := by rw [drop_at h, wordR]

set_option maxHeartbeats 1500000 in
set_option maxRecDepth 10000 in
theorem refWWords_any (l : List UInt8) (w : World) (hl : l.length ≤ 100000) : Calls Try.prog 13 #[.string ⟨l.toArray⟩] w (MadeTx w (wordsE l)) := by
  have H0 := hide (show wordsE l = [] ++ wordsF (prior l 0) (l.drop 0) from rfl)
  have HEnd := hide (show ∀ p, wordsF p (l.drop l.length) = [] from fun p => by rw [List.drop_length]; cases p <;> rfl)
  have HAt := hide (fun (i : Nat) (hi : i < l.length) => words_at hi)
  have HWd := hide (fun (k m : Nat) (hk : k < l.length) => word_at (m := m) hk)
  have HLen := hide (words_len l)
  have HW0 := hide (show ∀ m, wordR m (l.drop l.length) = [] from fun m => by rw [List.drop_length]; cases m <;> rfl)
  generalize wordsE l = res at *
  unfold MadeTx
  go_enter Try.func13, Try.ntmps13
  go_wp2
  go_loopw [4, 3] (fun x u wr => ∃ (i : Nat) (v : Value) (P : List (List UInt8)), i ≤ l.length ∧ x = .int .i64 (i : Int) ∧ v = u ∧ OwnTx wr w.heap.size v P ∧ P.length ≤ i ∧ res = P ++ wordsF (prior l i) (l.drop i) ∧ Ext w wr) (fun x _ _ => l.length - (intOf x).toNat)
  case atStart => exact ⟨0, _, [], by omega, rfl, rfl, OwnTx.nil _ _, by simp, H0.out, Ext.refl _⟩
  case round =>
    clear H0
    obtain ⟨i, v, P, hi, rfl, rfl, hO, hPl, hres, hE⟩ := hrel
    by_cases hlt : i < l.length
    · have hiI : (i : Int) < (l.length : Int) := by omega
      rw [HAt.out i hlt] at hres
      have HRes := hide hres
      have HA1 := hide (prior_next l i)
      have HO := hide hO
      have HE := hide hE
      have HPl := hide hPl
      clear hres hO hE hPl
      obtain ⟨c, hc0⟩ : ∃ c, c = l.getD i 0 := ⟨_, rfl⟩
      have hc : l[i]'hlt = c := by rw [hc0]; simp [List.getD_eq_getElem?_getD, hlt]
      have HWi := hide (show ∀ m, wordR (m + 1) (l.drop i) = if isL c = true then small c :: wordR m (l.drop (i + 1)) else [] from fun m => by rw [hc0]; exact HWd.out i m hlt)
      rw [← hc0] at HRes HA1
      have CS := fun W => refSmall_any c W
      clear hc0
      cases hL : isL c with
      | false =>
        have hz := small_zero hL
        have HRe2 := hide (show res = P ++ wordsF (prior l (i + 1)) (l.drop (i + 1)) by rw [HRes.out, if_neg (by rw [hL]; simp)]; rfl)
        generalize (small c).toNat = z at *
        clear hL
        go_wp2_with (refine (CS _).mono ?_; rintro e w' ⟨rfl, rfl⟩)
        go_roundw
        case rel => exact ⟨i + 1, v, P, by omega, by go_num, rfl, HO.out, by have := HPl.out; omega, HRe2.out, HE.out⟩
        case measure => simp [intOf]; omega
      | true =>
        have hz := small_ne hL
        have HL := hide hL
        cases hp : prior l i with
        | true =>
          have HRe2 := hide (show res = P ++ wordsF (prior l (i + 1)) (l.drop (i + 1)) by rw [HRes.out, if_neg (by rw [hp]; simp)]; rfl)
          obtain ⟨j, hj⟩ : ∃ j, i = j + 1 := ⟨i - 1, by
            rcases Nat.eq_zero_or_pos i with h | h
            · subst h; simp [prior] at hp
            · omega⟩
          have hp : isL (l.getD j 0) = true := by rw [hj, prior_next] at hp; exact hp
          have hjl : j < l.length := by omega
          obtain ⟨d, hd0⟩ : ∃ d, d = l.getD j 0 := ⟨_, rfl⟩
          have hd : l[j]'hjl = d := by rw [hd0]; simp [List.getD_eq_getElem?_getD, hjl]
          rw [← hd0] at hp
          have hy := small_ne hp
          have CD := fun W => refSmall_any d W
          have hj1 : (i : Int) - 1 = (j : Int) := by omega
          have hj0 : (0 : Int) < (i : Int) := by omega
          have hjI : (j : Int) < (l.length : Int) := by omega
          generalize (small c).toNat = z at *
          generalize (small d).toNat = y at *
          have hzb : ((z : Int) == 0) = false := by rw [beq_eq_false_iff_ne]; omega
          have hyb : ((y : Int) != 0) = true := by rw [bne_iff_ne]; omega
          clear hL hp hd0 hj
          go_wp2_with fail
          refine (CS _).mono ?_
          rintro e w' ⟨rfl, rfl⟩
          go_wp2_with fail
          refine (CD _).mono ?_
          rintro e w' ⟨rfl, rfl⟩
          go_wp2
          go_roundw
          case rel => exact ⟨i + 1, v, P, by omega, by go_num, rfl, HO.out, by have := HPl.out; omega, HRe2.out, HE.out⟩
          case measure => simp [intOf]; omega
        | false =>
          have HRe2 := hide (show res = P ++ ([wordR 24 (l.drop i)] ++ wordsF (prior l (i + 1)) (l.drop (i + 1))) by rw [HRes.out, if_pos ⟨hL, hp⟩])
          obtain ⟨word, hw0⟩ : ∃ x, x = wordR 24 (l.drop i) := ⟨_, rfl⟩
          have HQ0 := hide (show word = ([] : List UInt8) ++ wordR (24 - ([] : List UInt8).length) (l.drop i) from hw0)
          rw [← hw0] at HRe2
          clear hw0
          obtain ⟨wa, rfl⟩ : ∃ W, W = wr := ⟨_, rfl⟩
          generalize (small c).toNat = z at *
          have hzb : ((z : Int) == 0) = false := by rw [beq_eq_false_iff_ne]; omega
          rcases Nat.eq_zero_or_pos i with hi0 | hi0
          · have HI0 := hide hi0
            have hj0 : ¬ (0 : Int) < (i : Int) := by omega
            clear hL hp hi0 HRes HL HWi
            go_wp2_with fail
            refine (CS _).mono ?_
            rintro e w' ⟨rfl, rfl⟩
            go_wp2
            go_loopw [6, 5] (fun x u wr => ∃ (k : Nat) (q : Value) (Q : List UInt8), k ≤ l.length ∧ x = .int .i64 (k : Int) ∧ q = u ∧ OwnB wr wa.heap.size q Q ∧ Q.length ≤ 24 ∧ word = Q ++ wordR (24 - Q.length) (l.drop k) ∧ Ext wa wr) (fun x _ _ => l.length - (intOf x).toNat)
            case atStart => exact ⟨i, _, [], by omega, rfl, rfl, OwnB.nil _ _, by simp, HQ0.out, Ext.refl _⟩
            case round =>
              clear HQ0
              obtain ⟨k, q, Q, hk, rfl, rfl, hQ, hQl, hword, hEk⟩ := hrel
              obtain ⟨Aq, cq, rfl, hq1, hq2, hq3⟩ := hQ.form
              have HDone := hide (show Q = word → ∀ (v2 : Value) (w2 : World), OwnTx w2 w.heap.size v2 (P ++ [Q]) → Ext w w2 → ∃ (i' : Nat) (v' : Value) (P' : List (List UInt8)), i' ≤ l.length ∧ Value.int .i64 ((i : Int) + 1) = .int .i64 (i' : Int) ∧ v' = v2 ∧ OwnTx w2 w.heap.size v' P' ∧ P'.length ≤ i' ∧ res = P' ++ wordsF (prior l i') (l.drop i') ∧ Ext w w2 from fun h v2 w2 h1 h2 =>
                ⟨i + 1, v2, P ++ [Q], by omega, rfl, rfl, h1, by rw [List.length_append, List.length_singleton]; have := HPl.out; omega, by rw [HRe2.out, h, List.append_assoc], h2⟩)
              have hconv := fun (W : World) (hb : Ext wr W) => conv_bytes cq ((hb.bytes hq3)) (fun h => by subst h; rcases hq3.2 with h | ⟨_, _, h, _⟩; exact h; cases h)
              have HCv := hide (hconv wr (Ext.refl _))
              have HOx := hide (HO.out.ext hEk)
              have HEx := hide (HE.out.trans hEk)
              have HEk := hide hEk
              have hp1 : P.length ≤ 1000000 := by have := HPl.out; omega
              have HQ := hide hQ
              clear hq2 hq3 hQ hEk hconv
              by_cases hkl : k < l.length
              · have hkI : (k : Int) < (l.length : Int) := by omega
                obtain ⟨d, hd0⟩ : ∃ d, d = l.getD k 0 := ⟨_, rfl⟩
                have hd : l[k]'hkl = d := by rw [hd0]; simp [List.getD_eq_getElem?_getD, hkl]
                have HWk := hide (show ∀ m, wordR (m + 1) (l.drop k) = if isL d = true then small d :: wordR m (l.drop (k + 1)) else [] from fun m => by rw [hd0]; exact HWd.out k m hkl)
                have CD := fun W => refSmall_any d W
                clear hd0
                cases hLd : isL d with
                | false =>
                  have hy := small_zero hLd
                  have HW := hide (show Q = word by
                    rw [hword]
                    rcases Nat.eq_zero_or_pos (24 - Q.length) with h | h
                    · rw [h, wordR, List.append_nil]
                    · obtain ⟨m, hm⟩ : ∃ m, 24 - Q.length = m + 1 := ⟨24 - Q.length - 1, by omega⟩
                      rw [hm, HWk.out, if_neg (by rw [hLd]; simp), List.append_nil])
                  generalize (small d).toNat = y at *
                  have hyb : ((y : Int) != 0) = false := by rw [hy]; rfl
                  clear hLd hword
                  go_wp2_with fail
                  refine (CD _).mono ?_
                  rintro e w' ⟨rfl, rfl⟩
                  have hcv := HCv.out
                  go_wp2_with (at_builtin; refine wpList_litTx (v := v) rfl (.tmp 56) (.tmp 59) rfl HEx.out HOx.out rfl Q rfl hp1 ?_; intro v2 w2 hO2 hE2)
                  go_roundw
                  case rel => exact HDone.out HW.out v2 w2 hO2 hE2
                  case measure => simp [intOf]; omega
                | true =>
                  have hy := small_ne hLd
                  obtain ⟨y, hy0⟩ : ∃ y, y = (small d).toNat := ⟨_, rfl⟩
                  rw [← hy0] at CD hy
                  have hyb : ((y : Int) != 0) = true := by rw [bne_iff_ne]; omega
                  have HY := hide hy0
                  have HLd := hide hLd
                  clear hy0 hLd
                  by_cases hq24 : Q.length < 24
                  · have hqI : (Q.length : Int) < (24 : Int) := by omega
                    have HW := hide (show word = (Q ++ [small d]) ++ wordR (24 - (Q ++ [small d]).length) (l.drop (k + 1)) by
                      rw [hword, show 24 - Q.length = (24 - (Q ++ [small d]).length) + 1 by simp; omega, HWk.out, if_pos HLd.out, List.append_assoc]; rfl)
                    have hX := extNew wr (.cells #[.int .u8 (y : Int)] 5)
                    have HQX := hide (HQ.out.ext hX)
                    have HBX := hide (bytesNew wr [small d] #[.int .u8 (y : Int)] 5 (0, 0) (by rw [HY.out]; rfl) 1 rfl)
                    have HEX := hide (HEk.out.trans hX)
                    have hql : Q.length + 1 ≤ 140737488355328 := by omega
                    clear hword hX
                    go_wp2_with fail
                    refine (CD _).mono ?_
                    rintro e w' ⟨rfl, rfl⟩
                    go_wp2_with fail
                    refine (CD _).mono ?_
                    rintro e w' ⟨rfl, rfl⟩
                    go_wp2_with (at_builtin; refine wpList_app (l := Q) rfl (.tmp 49) (.tmp 54) rfl rfl HQX.out rfl HBX.out hql HEX.out.le ?_; intro v2 w2 hO2 hG2)
                    go_roundw
                    case rel => exact ⟨k + 1, v2, Q ++ [small d], by omega, by go_num, rfl, hO2, by simp; omega, HW.out, Below.grown HEX.out hG2 HEX.out.le (fun j hj => (HQX.out.lt j hj).1)⟩
                    case measure => simp [intOf]; omega
                  · have hqI : ¬ (Q.length : Int) < (24 : Int) := by omega
                    have HW := hide (show Q = word by rw [hword, show 24 - Q.length = 0 by omega, wordR, List.append_nil])
                    clear hword
                    go_wp2_with fail
                    refine (CD _).mono ?_
                    rintro e w' ⟨rfl, rfl⟩
                    have hcv := HCv.out
                    go_wp2_with (at_builtin; refine wpList_litTx (v := v) rfl (.tmp 56) (.tmp 59) rfl HEx.out HOx.out rfl Q rfl hp1 ?_; intro v2 w2 hO2 hE2)
                    go_roundw
                    case rel => exact HDone.out HW.out v2 w2 hO2 hE2
                    case measure => simp [intOf]; omega
              · obtain rfl : k = l.length := by omega
                rw [HW0.out, List.append_nil] at hword
                have HW := hide hword.symm
                have hcv := HCv.out
                clear hword
                go_wp2_with (at_builtin; refine wpList_litTx (v := v) rfl (.tmp 56) (.tmp 59) rfl HEx.out HOx.out rfl Q rfl hp1 ?_; intro v2 w2 hO2 hE2)
                go_roundw
                case rel => exact HDone.out HW.out v2 w2 hO2 hE2
                case measure => simp [intOf]; omega
          · obtain ⟨j, hj⟩ : ∃ j, i = j + 1 := ⟨i - 1, by omega⟩
            have hp : isL (l.getD j 0) = false := by rw [hj, prior_next] at hp; exact hp
            have hjl : j < l.length := by omega
            obtain ⟨d, hd0⟩ : ∃ d, d = l.getD j 0 := ⟨_, rfl⟩
            have hd : l[j]'hjl = d := by rw [hd0]; simp [List.getD_eq_getElem?_getD, hjl]
            rw [← hd0] at hp
            have hy := small_zero hp
            have CD := fun W => refSmall_any d W
            have hj1 : (i : Int) - 1 = (j : Int) := by omega
            have hj0 : (0 : Int) < (i : Int) := by omega
            have hjI : (j : Int) < (l.length : Int) := by omega
            generalize (small d).toNat = y at *
            have hyb : ((y : Int) != 0) = false := by rw [hy]; rfl
            clear hL hp hd0 hj HRes HL HWi
            go_wp2_with fail
            refine (CS _).mono ?_
            rintro e w' ⟨rfl, rfl⟩
            go_wp2_with fail
            refine (CD _).mono ?_
            rintro e w' ⟨rfl, rfl⟩
            go_wp2
            clear CD hy hyb hd hjI hj1
            go_loopw [6, 5] (fun x u wr => ∃ (k : Nat) (q : Value) (Q : List UInt8), k ≤ l.length ∧ x = .int .i64 (k : Int) ∧ q = u ∧ OwnB wr wa.heap.size q Q ∧ Q.length ≤ 24 ∧ word = Q ++ wordR (24 - Q.length) (l.drop k) ∧ Ext wa wr) (fun x _ _ => l.length - (intOf x).toNat)
            case atStart => exact ⟨i, _, [], by omega, rfl, rfl, OwnB.nil _ _, by simp, HQ0.out, Ext.refl _⟩
            case round =>
              clear HQ0
              obtain ⟨k, q, Q, hk, rfl, rfl, hQ, hQl, hword, hEk⟩ := hrel
              obtain ⟨Aq, cq, rfl, hq1, hq2, hq3⟩ := hQ.form
              have HDone := hide (show Q = word → ∀ (v2 : Value) (w2 : World), OwnTx w2 w.heap.size v2 (P ++ [Q]) → Ext w w2 → ∃ (i' : Nat) (v' : Value) (P' : List (List UInt8)), i' ≤ l.length ∧ Value.int .i64 ((i : Int) + 1) = .int .i64 (i' : Int) ∧ v' = v2 ∧ OwnTx w2 w.heap.size v' P' ∧ P'.length ≤ i' ∧ res = P' ++ wordsF (prior l i') (l.drop i') ∧ Ext w w2 from fun h v2 w2 h1 h2 =>
                ⟨i + 1, v2, P ++ [Q], by omega, rfl, rfl, h1, by rw [List.length_append, List.length_singleton]; have := HPl.out; omega, by rw [HRe2.out, h, List.append_assoc], h2⟩)
              have hconv := fun (W : World) (hb : Ext wr W) => conv_bytes cq ((hb.bytes hq3)) (fun h => by subst h; rcases hq3.2 with h | ⟨_, _, h, _⟩; exact h; cases h)
              have HCv := hide (hconv wr (Ext.refl _))
              have HOx := hide (HO.out.ext hEk)
              have HEx := hide (HE.out.trans hEk)
              have HEk := hide hEk
              have hp1 : P.length ≤ 1000000 := by have := HPl.out; omega
              have HQ := hide hQ
              clear hq2 hq3 hQ hEk hconv
              by_cases hkl : k < l.length
              · have hkI : (k : Int) < (l.length : Int) := by omega
                obtain ⟨d, hd0⟩ : ∃ d, d = l.getD k 0 := ⟨_, rfl⟩
                have hd : l[k]'hkl = d := by rw [hd0]; simp [List.getD_eq_getElem?_getD, hkl]
                have HWk := hide (show ∀ m, wordR (m + 1) (l.drop k) = if isL d = true then small d :: wordR m (l.drop (k + 1)) else [] from fun m => by rw [hd0]; exact HWd.out k m hkl)
                have CD := fun W => refSmall_any d W
                clear hd0
                cases hLd : isL d with
                | false =>
                  have hy := small_zero hLd
                  have HW := hide (show Q = word by
                    rw [hword]
                    rcases Nat.eq_zero_or_pos (24 - Q.length) with h | h
                    · rw [h, wordR, List.append_nil]
                    · obtain ⟨m, hm⟩ : ∃ m, 24 - Q.length = m + 1 := ⟨24 - Q.length - 1, by omega⟩
                      rw [hm, HWk.out, if_neg (by rw [hLd]; simp), List.append_nil])
                  generalize (small d).toNat = y at *
                  have hyb : ((y : Int) != 0) = false := by rw [hy]; rfl
                  clear hLd hword
                  go_wp2_with fail
                  refine (CD _).mono ?_
                  rintro e w' ⟨rfl, rfl⟩
                  have hcv := HCv.out
                  go_wp2_with (at_builtin; refine wpList_litTx (v := v) rfl (.tmp 56) (.tmp 59) rfl HEx.out HOx.out rfl Q rfl hp1 ?_; intro v2 w2 hO2 hE2)
                  go_roundw
                  case rel => exact HDone.out HW.out v2 w2 hO2 hE2
                  case measure => simp [intOf]; omega
                | true =>
                  have hy := small_ne hLd
                  obtain ⟨y, hy0⟩ : ∃ y, y = (small d).toNat := ⟨_, rfl⟩
                  rw [← hy0] at CD hy
                  have hyb : ((y : Int) != 0) = true := by rw [bne_iff_ne]; omega
                  have HY := hide hy0
                  have HLd := hide hLd
                  clear hy0 hLd
                  by_cases hq24 : Q.length < 24
                  · have hqI : (Q.length : Int) < (24 : Int) := by omega
                    have HW := hide (show word = (Q ++ [small d]) ++ wordR (24 - (Q ++ [small d]).length) (l.drop (k + 1)) by
                      rw [hword, show 24 - Q.length = (24 - (Q ++ [small d]).length) + 1 by simp; omega, HWk.out, if_pos HLd.out, List.append_assoc]; rfl)
                    have hX := extNew wr (.cells #[.int .u8 (y : Int)] 5)
                    have HQX := hide (HQ.out.ext hX)
                    have HBX := hide (bytesNew wr [small d] #[.int .u8 (y : Int)] 5 (0, 0) (by rw [HY.out]; rfl) 1 rfl)
                    have HEX := hide (HEk.out.trans hX)
                    have hql : Q.length + 1 ≤ 140737488355328 := by omega
                    clear hword hX
                    go_wp2_with fail
                    refine (CD _).mono ?_
                    rintro e w' ⟨rfl, rfl⟩
                    go_wp2_with fail
                    refine (CD _).mono ?_
                    rintro e w' ⟨rfl, rfl⟩
                    go_wp2_with (at_builtin; refine wpList_app (l := Q) rfl (.tmp 49) (.tmp 54) rfl rfl HQX.out rfl HBX.out hql HEX.out.le ?_; intro v2 w2 hO2 hG2)
                    go_roundw
                    case rel => exact ⟨k + 1, v2, Q ++ [small d], by omega, by go_num, rfl, hO2, by simp; omega, HW.out, Below.grown HEX.out hG2 HEX.out.le (fun j hj => (HQX.out.lt j hj).1)⟩
                    case measure => simp [intOf]; omega
                  · have hqI : ¬ (Q.length : Int) < (24 : Int) := by omega
                    have HW := hide (show Q = word by rw [hword, show 24 - Q.length = 0 by omega, wordR, List.append_nil])
                    clear hword
                    go_wp2_with fail
                    refine (CD _).mono ?_
                    rintro e w' ⟨rfl, rfl⟩
                    have hcv := HCv.out
                    go_wp2_with (at_builtin; refine wpList_litTx (v := v) rfl (.tmp 56) (.tmp 59) rfl HEx.out HOx.out rfl Q rfl hp1 ?_; intro v2 w2 hO2 hE2)
                    go_roundw
                    case rel => exact HDone.out HW.out v2 w2 hO2 hE2
                    case measure => simp [intOf]; omega
              · obtain rfl : k = l.length := by omega
                rw [HW0.out, List.append_nil] at hword
                have HW := hide hword.symm
                have hcv := HCv.out
                clear hword
                go_wp2_with (at_builtin; refine wpList_litTx (v := v) rfl (.tmp 56) (.tmp 59) rfl HEx.out HOx.out rfl Q rfl hp1 ?_; intro v2 w2 hO2 hE2)
                go_roundw
                case rel => exact HDone.out HW.out v2 w2 hO2 hE2
                case measure => simp [intOf]; omega
    · obtain rfl : i = l.length := by omega
      rw [HEnd.out, List.append_nil] at hres
      have HRes := hide hres
      have HO := hide hO
      have HE := hide hE
      clear hres hO hE
      go_wp2
      go_ret
      obtain ⟨A, c, rfl, h1, h2, h3⟩ := HO.out.form
      rw [HRes.out]
      exact ⟨A, c, rfl, h1, h2, h3, HE.out⟩
end Go.Proofs.Ytnkiopfpcddliaa
