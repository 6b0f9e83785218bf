/- The document's Terms of chapter 15. -/
import Derived.Test.YtnkiopfpcddliaaWrdRefC
namespace Go.Proofs.Ytnkiopfpcddliaa
open Go.RowKit Wrd

theorem run_atAdd (W : World) (l : List UInt8) (hl : l.length ≤ 8388608) : (Op.stringOp .add ⟨#[64]⟩ ⟨l.toArray⟩).run Try.prog W = .ok (.string ⟨(64 :: l).toArray⟩) W := by
  have := run_string_add_lists (P := Try.prog) W [64] l (by simp) (by omega)
  exact this
theorem Wrd.puts_len : ∀ (l out : List (List UInt8)), (l.foldl putT out).length ≤ out.length + l.length
  | [], out => by simp
  | s :: l, out => by
    have h1 := puts_len l (putT out s)
    have h2 := putT_len s out
    rw [List.foldl_cons, List.length_cons]
    omega
theorem Wrd.puts_at {l out : List (List UInt8)} {i : Nat} (h : i < l.length) : (l.take (i + 1)).foldl putT out = putT ((l.take i).foldl putT out) (l.getD i []) := by
  rw [take_tx h, List.foldl_append]
  rfl
/-- A record as a value. -/
def recV (t lv : Int) (src text : List UInt8) : Value := .agg #[.int .u64 t, .int .u8 lv, .string ⟨src.toArray⟩, .string ⟨text.toArray⟩]

attribute [local go_sem ↓] run_txtAt run_txtLen run_txtCut
set_option maxHeartbeats 2000000 in
set_option maxRecDepth 10000 in
theorem refTerms15_any (t lv : Int) (src text : List UInt8) (w : World) (h1 : src.length ≤ 20000) (h2 : text.length ≤ 20000) :
    Calls Try.prog 19 #[recV t lv src text] w (MadeTx w (termsE text src)) := by
  unfold recV
  have hE1 := extNew w (.cells #[.int .u64 t, .int .u8 lv, .string ⟨src.toArray⟩, .string ⟨text.toArray⟩] 31)
  have hW1 := Whole.new w 31 #[.int .u64 t, .int .u8 lv, .string ⟨src.toArray⟩, .string ⟨text.toArray⟩]
  obtain ⟨w1, hw1⟩ : ∃ x, x = w.alloc (.cells #[.int .u64 t, .int .u8 lv, .string ⟨src.toArray⟩, .string ⟨text.toArray⟩] 31) := ⟨_, rfl⟩
  rw [← hw1] at hE1 hW1
  have C1 := refWWords_any text w1 (by omega)
  have C2 := hide (fun W => refWWords_any src W (by omega))
  have HEv := hide (show termsE text src = ((wordsE src).map fun w => 64 :: w).foldl putT ((wordsE text).foldl putT []) from rfl)
  have HL1 := hide (words_len text)
  have HL2 := hide (words_len src)
  have HEach := hide (fun z (hz : z ∈ wordsE src) => (words_each hz).1.2)
  generalize wordsE text = ws at *
  generalize wordsE src = vs at *
  generalize termsE text src = res at *
  have HT1 := hide (fun (i : Nat) (hi : i < ws.length) => puts_at (out := []) hi)
  have HW1 := hide hW1
  have HWd := hide hw1
  have HE1 := hide hE1
  have H2 := hide h2
  have H1 := hide h1
  rw [hw1] at C1
  unfold MadeTx at C1 C2 ⊢
  clear hE1 hW1 hw1
  go_enter Try.func19, Try.ntmps19
  go_wp2_with fail
  refine C1.mono ?_
  rintro e w2 ⟨A2, c2, rfl, p1, p2, p3, hE2⟩
  rw [← HWd.out] at hE2
  have hp1 : ws.length ≤ 20000 := by have := HL1.out; have := H2.out; omega
  have HP := hide p3
  have HE2 := hide hE2
  have HC := hide (And.intro p1 p2)
  have hWn : ws.length ≤ ws.length := Nat.le_refl _
  obtain ⟨n, hn⟩ : ∃ n, n = ws.length := ⟨_, rfl⟩
  rw [← hn] at HP hp1 ⊢
  have HN := hide hn
  clear C1 p1 p2 p3 hE2 hn hWn
  go_wp2
  go_loopw [5, 3] (fun x u wr => ∃ (i : Nat) (B : Option Addr) (d : Nat), i ≤ n ∧ x = .int .i64 (i : Int) ∧ u = .slice B ((ws.take i).foldl putT []).length d ∧ ((ws.take i).foldl putT []).length ≤ d ∧ d ≤ maxLen ∧ TextsAt wr wr.heap.size B ((ws.take i).foldl putT []).length ((ws.take i).foldl putT []) ∧ Ext w2 wr) (fun x _ _ => n - (intOf x).toNat)
  case atStart => exact ⟨0, none, 0, by omega, rfl, rfl, by simp, by unfold maxLen; omega, ⟨rfl, .inl rfl⟩, Ext.refl _⟩
  case round =>
    obtain ⟨i, B, d, hi, rfl, rfl, hd1, hd2, hI, hE⟩ := hrel
    by_cases hlt : i < n
    · have hiI : (i : Int) < (n : Int) := by omega
      rcases (HP.out.later hE).2 with hn0 | ⟨b1, o1, rfl, _, hc1⟩
      · omega
      have e1 := hc1 i hlt
      have HT := hide (HT1.out i (by rw [← HN.out]; exact hlt))
      have hPl := puts_len (ws.take i) []
      rw [List.length_take] at hPl
      obtain ⟨P, hP0⟩ : ∃ P, P = (ws.take i).foldl putT [] := ⟨_, rfl⟩
      rw [← hP0] at hd1 hI HT hPl ⊢
      obtain ⟨y, hy⟩ : ∃ y, y = ws.getD i [] := ⟨_, rfl⟩
      rw [← hy] at e1 HT
      have hPl2 : P.length ≤ 100000 := by simp at hPl; omega
      have CP := refPut15_any B P.length d P y wr hI hd1 hd2 hPl2
      unfold MadeTx at CP
      have HE := hide hE
      clear hy hP0 hI hd1 hPl hc1 hE
      go_wp2_with fail
      refine CP.mono ?_
      rintro e w5 ⟨B5, d5, rfl, q1, q2, q3, hE5⟩
      rw [← HT.out] at q1 q3 ⊢
      have HQ := hide (And.intro q1 (And.intro q2 (And.intro q3 (HE.out.trans hE5))))
      clear CP q1 q2 q3 hE5 e1
      generalize hR : (ws.take (i + 1)).foldl putT [] = R at *
      go_wp2
      go_roundw
      case rel => exact ⟨i + 1, B5, d5, by omega, by go_num, by rw [hR], by rw [hR]; exact HQ.out.1, HQ.out.2.1, by rw [hR]; exact HQ.out.2.2.1, HQ.out.2.2.2⟩
      case measure => simp [intOf]; omega
    · obtain rfl : n = i := by omega
      have hall : ws.take n = ws := List.take_of_length_le (by rw [HN.out]; exact Nat.le_refl _)
      rw [hall] at hd1 hI ⊢
      have hPl := puts_len ws []
      obtain ⟨P, hP0⟩ : ∃ P, P = ws.foldl putT [] := ⟨_, rfl⟩
      rw [← hP0] at hd1 hI hPl HEv ⊢
      have hPl2 : P.length ≤ 20000 := by rw [← HN.out] at hPl; simp at hPl; omega
      have f1 := ((HW1.out.ext HE2.out).ext hE).at 2 (u := .string ⟨src.toArray⟩) rfl
      have C3 := C2.out wr
      have HT2 := hide (fun (i : Nat) (hi : i < (vs.map fun w => 64 :: w).length) => puts_at (out := P) hi)
      have HI := hide hI
      have HE := hide (HE1.out.trans (HE2.out.trans hE))
      have HD := hide (And.intro hd1 hd2)
      clear hI hE hd1 hd2 hall hP0 hPl
      go_wp2_with fail
      refine C3.mono ?_
      rintro e w6 ⟨A6, c6, rfl, p1, p2, p3, hE6⟩
      have hm1 : vs.length ≤ 20000 := by have := HL2.out; have := H1.out; omega
      have HP6 := hide p3
      have HI6 := hide (HI.out.later hE6)
      have HE6 := hide (HE.out.trans hE6)
      obtain ⟨m, hm⟩ : ∃ m, m = vs.length := ⟨_, rfl⟩
      rw [← hm] at HP6 hm1 ⊢
      have HM := hide hm
      clear C3 p1 p2 p3 hE6 hm f1 HI HE
      go_wp2
      go_loopw [6, 3] (fun x u wr => ∃ (i : Nat) (B : Option Addr) (d : Nat), i ≤ m ∧ x = .int .i64 (i : Int) ∧ u = .slice B (((vs.map fun w => 64 :: w).take i).foldl putT P).length d ∧ (((vs.map fun w => 64 :: w).take i).foldl putT P).length ≤ d ∧ d ≤ maxLen ∧ TextsAt wr wr.heap.size B (((vs.map fun w => 64 :: w).take i).foldl putT P).length (((vs.map fun w => 64 :: w).take i).foldl putT P) ∧ Ext w6 wr) (fun x _ _ => m - (intOf x).toNat)
      case atStart => exact ⟨0, B, d, by omega, rfl, rfl, HD.out.1, HD.out.2, HI6.out, Ext.refl _⟩
      case round =>
        clear HD HI6
        obtain ⟨i, B, d, hi, rfl, rfl, hd1, hd2, hI, hE⟩ := hrel
        by_cases hlt : i < m
        · have hiI : (i : Int) < (m : Int) := by omega
          rcases (HP6.out.later hE).2 with hn0 | ⟨b1, o1, rfl, _, hc1⟩
          · omega
          have e1 := hc1 i hlt
          have hltv : i < vs.length := by rw [← HM.out]; exact hlt
          have HT := hide (HT2.out i (by rw [List.length_map]; exact hltv))
          have hg : (vs.map fun w => 64 :: w).getD i [] = 64 :: vs.getD i [] := by simp [List.getD_eq_getElem?_getD, hltv]
          rw [hg] at HT
          have hPl := puts_len ((vs.map fun w => 64 :: w).take i) P
          rw [List.length_take] at hPl
          obtain ⟨R, hR0⟩ : ∃ R, R = ((vs.map fun w => 64 :: w).take i).foldl putT P := ⟨_, rfl⟩
          rw [← hR0] at hd1 hI HT hPl ⊢
          have hy24 := HEach.out (vs.getD i []) (mem_at hltv)
          obtain ⟨y, hy⟩ : ∃ y, y = vs.getD i [] := ⟨_, rfl⟩
          rw [← hy] at e1 HT hy24
          have hadd := fun W => run_atAdd W y (by omega)
          have hPl2 : R.length ≤ 100000 := by omega
          have CP := refPut15_any B R.length d R (64 :: y) wr hI hd1 hd2 hPl2
          unfold MadeTx at CP
          have HE := hide hE
          clear hy hR0 hI hd1 hPl hc1 hE hg hltv hy24
          go_wp2_with fail
          refine CP.mono ?_
          rintro e w7 ⟨B7, d7, rfl, q1, q2, q3, hE7⟩
          rw [← HT.out] at q1 q3 ⊢
          have HQ := hide (And.intro q1 (And.intro q2 (And.intro q3 (HE.out.trans hE7))))
          clear CP q1 q2 q3 hE7 e1 hadd
          generalize hR : (((vs.map fun w => 64 :: w).take (i + 1)).foldl putT P) = R7 at *
          go_wp2
          go_roundw
          case rel => exact ⟨i + 1, B7, d7, by omega, by go_num, by rw [hR], by rw [hR]; exact HQ.out.1, HQ.out.2.1, by rw [hR]; exact HQ.out.2.2.1, HQ.out.2.2.2⟩
          case measure => simp [intOf]; omega
        · obtain rfl : m = i := by omega
          have hall : (vs.map fun w => 64 :: w).take m = vs.map fun w => 64 :: w := List.take_of_length_le (by rw [List.length_map, HM.out]; exact Nat.le_refl _)
          rw [hall, ← HEv.out] at hd1 hI ⊢
          have HI := hide hI
          have HE := hide (HE6.out.trans hE)
          have HD := hide (And.intro hd1 hd2)
          clear hI hE hd1 hd2 hall
          go_wp2
          go_ret
          exact ⟨B, d, rfl, HD.out.1, HD.out.2, HI.out, HE.out⟩
end Go.Proofs.Ytnkiopfpcddliaa
