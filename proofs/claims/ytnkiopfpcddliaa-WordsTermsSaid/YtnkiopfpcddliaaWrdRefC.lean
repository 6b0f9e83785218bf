/- The document's functions of chapter 15: Put, Terms. -/
import Derived.Test.YtnkiopfpcddliaaWrdRefB
namespace Go.Proofs.Ytnkiopfpcddliaa
open Go.RowKit Wrd

theorem Wrd.drop_tx {L : List (List UInt8)} {i : Nat} (h : i < L.length) : L.drop i = L.getD i [] :: L.drop (i + 1) := by
  rw [List.drop_eq_getElem_cons h, List.getD_eq_getElem?_getD, List.getElem?_eq_getElem h]
  rfl
theorem Wrd.take_tx {L : List (List UInt8)} {i : Nat} (h : i < L.length) : L.take (i + 1) = L.take i ++ [L.getD i []] := by
  rw [List.take_add_one, List.getD_eq_getElem?_getD, List.getElem?_eq_getElem h]
  rfl
theorem Wrd.put_on {L R : List (List UInt8)} {s : List UInt8} {i : Nat} (h : i < L.length) (hb : Op.bytesLess (L.getD i []) s = true) (hR : R = L.take i ++ putT (L.drop i) s) : R = L.take (i + 1) ++ putT (L.drop (i + 1)) s := by
  rw [hR, drop_tx h, putT, if_pos hb, take_tx h, List.append_assoc]
  rfl
theorem Wrd.put_same {L R : List (List UInt8)} {s : List UInt8} {i : Nat} (h : i < L.length) (hb : Op.bytesLess (L.getD i []) s = false) (he : L.getD i [] = s) (hR : R = L.take i ++ putT (L.drop i) s) : R = L := by
  rw [hR, drop_tx h, putT, if_neg (by rw [hb]; simp), if_pos he, ← drop_tx h, List.take_append_drop]
theorem Wrd.put_in {L R : List (List UInt8)} {s : List UInt8} {i : Nat} (h : i < L.length) (hb : Op.bytesLess (L.getD i []) s = false) (he : L.getD i [] ≠ s) (hR : R = L.take i ++ putT (L.drop i) s) : ([] ++ L.take i ++ [s]) ++ L.drop i = R := by
  rw [hR]
  conv => rhs; rw [drop_tx h, putT, if_neg (by rw [hb]; simp), if_neg he, ← drop_tx h]
  simp
theorem Wrd.put_end {L R : List (List UInt8)} {s : List UInt8} {n : Nat} (hn : L.length = n) (hR : R = L.take n ++ putT (L.drop n) s) : ([] ++ L.take n ++ [s]) ++ L.drop n = R := by
  subst hn
  rw [hR, List.drop_length]
  simp [putT]

attribute [local go_sem ↓] run_txtAt run_txtLen run_txtCut run_cutTx run_topTx
set_option maxHeartbeats 2000000 in
set_option maxRecDepth 10000 in
theorem refPut15_any (A : Option Addr) (n c : Nat) (L : List (List UInt8)) (s : List UInt8) (w : World) (h : TextsAt w w.heap.size A n L) (hc : n ≤ c) (hcm : c ≤ maxLen) (hn : n ≤ 100000) :
    Calls Try.prog 31 #[.slice A n c, .string ⟨s.toArray⟩] w (MadeTx w (putT L s)) := by
  have hl := h.1
  have HA := hide h
  have H0 := hide (show putT L s = L.take 0 ++ putT (L.drop 0) s from rfl)
  have HOn := hide (fun (i : Nat) (hi : i < n) => put_on (L := L) (R := putT L s) (s := s) (i := i) (by omega))
  have HSame := hide (fun (i : Nat) (hi : i < n) => put_same (L := L) (R := putT L s) (s := s) (i := i) (by omega))
  have HIn := hide (fun (i : Nat) (hi : i < n) => put_in (L := L) (R := putT L s) (s := s) (i := i) (by omega))
  have HEnd := hide (put_end (L := L) (R := putT L s) (s := s) hl)
  have HC := hide (And.intro hc hcm)
  have HTl := hide (show ∀ i, i ≤ n → (L.take i).length = i from fun i hi => by rw [List.length_take]; omega)
  generalize putT L s = res at *
  have HN := hide hl
  unfold MadeTx
  clear h hcm hl
  -- what is done behind the loop, at the place i
  go_enter Try.func31, Try.ntmps31
  go_wp2
  go_loopw [5] (fun x wr => ∃ i : Nat, i ≤ n ∧ x = .int .i64 (i : Int) ∧ res = L.take i ++ putT (L.drop i) s ∧ wr = w) (fun x _ => n - (intOf x).toNat)
  case atStart => exact ⟨0, by omega, rfl, H0.out, rfl⟩
  case round =>
    clear H0
    obtain ⟨i, hi, rfl, hres, rfl⟩ := hrel
    have HR := hide hres
    clear hres
    have hiI2 : (i : Int) ≤ (n : Int) := by omega
    have hicI : (i : Int) ≤ (c : Int) := by omega
    have HT1 := hide (HA.out.top hi)
    have HT2 := hide (HA.out.cut hi HC.out.1)
    have hl1 : ([] : List (List UInt8)).length + i ≤ 2000000 := by simp; omega
    have hl2 : ([] ++ L.take i : List (List UInt8)).length ≤ 1000000 := by rw [List.nil_append, HTl.out i hi]; omega
    have HL3 := hide (show ([] ++ L.take i ++ [s] : List (List UInt8)).length + (n - i) ≤ 2000000 by rw [List.nil_append, List.length_append, HTl.out i hi, List.length_singleton]; omega)
    by_cases hlt : i < n
    · have hiI : (i : Int) < (n : Int) := by omega
      have hd0 : decide ((i : Int) < (n : Int)) = true := decide_eq_true hiI
      rcases HA.out.2 with hn0 | ⟨b1, o1, rfl, _, hc1⟩
      · omega
      have e1 := hc1 i hlt
      have hltL : i < n := hlt
      have HOn2 := hide (fun hb => HOn.out i hlt hb HR.out)
      have HSame2 := hide (fun hb he => HSame.out i hlt hb he HR.out)
      have HIn2 := hide (fun hb he => HIn.out i hlt hb he HR.out)
      obtain ⟨y, hy⟩ : ∃ y, y = L.getD i [] := ⟨_, rfl⟩
      rw [← hy] at e1 HOn2 HSame2 HIn2
      clear hc1 hy
      cases hb : Op.bytesLess y s with
      | true =>
        have HRn := hide (HOn2.out hb)
        go_wp2
        go_roundw
        case rel => exact ⟨i + 1, by omega, by go_num, HRn.out, trivial⟩
        case measure => simp [intOf]; omega
      | false =>
        by_cases he : y = s
        · have heb : (y == s) = true := by simpa using he
          have HRn := hide (HSame2.out hb he)
          clear he
          go_wp2
          go_ret
          rw [HRn.out]
          exact ⟨some ⟨b1, o1, none⟩, c, by rw [HN.out]; rfl, by rw [HN.out]; exact HC.out.1, HC.out.2, by rw [HN.out]; exact HA.out, Ext.refl _⟩
        · have heb : (y == s) = false := by simpa using he
          have HRn := hide (HIn2.out hb he)
          clear he
          go_wp2_with (first
            | (at_builtin; refine wpList_appTx (L := []) rfl (.tmp 34) (.tmp 37) rfl rfl (OwnTx.nil wr wr.heap.size) rfl HT1.out hl1 (Nat.le_refl _) ?_; intro v1 w1 hO1 hG1 hN1; have HO1 := hide hO1; have HE1 := hide (show Ext wr w1 from Below.grown (Ext.refl _) hG1 (Nat.le_refl _) (fun k hk => by cases hk)); clear hO1 hG1 hN1)
            | (at_builtin; refine wpList_litTx (L := [] ++ L.take i) rfl (.tmp 39) (.tmp 41) rfl HE1.out HO1.out rfl s rfl hl2 ?_; intro v2 w2 hO2 hE2; have HO2 := hide hO2; have HE2 := hide hE2; have HB2 := hide (HT2.out.later hE2); clear hO2 hE2)
            | (at_builtin; refine wpList_appTx rfl (.tmp 43) (.tmp 46) rfl rfl HO2.out rfl HB2.out HL3.out HE2.out.le ?_; intro v3 w3 hO3 hG3 hN3))
          go_ret
          rw [HRn.out] at hO3
          obtain ⟨A3, c3, rfl, q1, q2, q3⟩ := hO3.form
          exact ⟨A3, c3, rfl, q1, q2, q3, Below.grown HE2.out hG3 HE2.out.le (fun k hk => (HO2.out.lt k hk).1)⟩
    · obtain rfl : n = i := by omega
      have hd0 : decide ((n : Int) < (n : Int)) = false := decide_eq_false (by omega)
      have HRn := hide (HEnd.out HR.out)
      rw [Nat.sub_self] at HT2 HL3
      go_wp2_with (first
        | (at_builtin; refine wpList_appTx (L := []) rfl (.tmp 34) (.tmp 37) rfl rfl (OwnTx.nil wr wr.heap.size) rfl HT1.out hl1 (Nat.le_refl _) ?_; intro v1 w1 hO1 hG1 hN1; have HO1 := hide hO1; have HE1 := hide (show Ext wr w1 from Below.grown (Ext.refl _) hG1 (Nat.le_refl _) (fun k hk => by cases hk)); clear hO1 hG1 hN1)
        | (at_builtin; refine wpList_litTx (L := [] ++ L.take n) rfl (.tmp 39) (.tmp 41) rfl HE1.out HO1.out rfl s rfl hl2 ?_; intro v2 w2 hO2 hE2; have HO2 := hide hO2; have HE2 := hide hE2; have HB2 := hide (HT2.out.later hE2); clear hO2 hE2)
        | (at_builtin; refine wpList_appTx rfl (.tmp 43) (.tmp 46) rfl rfl HO2.out rfl HB2.out HL3.out HE2.out.le ?_; intro v3 w3 hO3 hG3 hN3))
      go_ret
      rw [HRn.out] at hO3
      obtain ⟨A3, c3, rfl, q1, q2, q3⟩ := hO3.form
      exact ⟨A3, c3, rfl, q1, q2, q3, Below.grown HE2.out hG3 HE2.out.le (fun k hk => (HO2.out.lt k hk).1)⟩
end Go.Proofs.Ytnkiopfpcddliaa
