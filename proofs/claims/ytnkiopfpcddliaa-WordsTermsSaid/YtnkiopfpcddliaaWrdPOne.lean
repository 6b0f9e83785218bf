/- The program's functions of chapter 15: One, Term; the library's TrimPrefix at "@". -/
import Derived.Test.YtnkiopfpcddliaaWrdPText
namespace Go.Proofs.Ytnkiopfpcddliaa
open Go.RowKit Wrd

attribute [local go_sem ↓] run_txtAt run_txtLen run_txtCut run_txtTop
set_option maxHeartbeats 1000000 in
set_option maxRecDepth 10000 in
theorem pOne_any (l : List UInt8) (w : World) (hl : l.length ≤ maxLen) : Calls Try.prog 14 #[.string ⟨l.toArray⟩] w (OneTo w l) := by
  unfold OneTo
  have HN := hide (one_is l)
  have CL := fun W => letters_any l W hl
  have hle := letN_le l
  unfold maxLen at hl
  by_cases h1 : l.length = 0
  · have h1I : ((l.length : Int) == 0) = true := by rw [h1]; rfl
    rw [HN.out, if_pos (.inl h1)]
    clear HN h1 CL hl hle
    go_enter Try.func14, Try.ntmps14
    go_wp2
    go_ret2
    exact ⟨rfl, Ext.refl _⟩
  have h1I : ((l.length : Int) == 0) = false := by rw [beq_eq_false_iff_ne]; omega
  by_cases h2 : 24 < l.length
  · have h2I : (24 : Int) < (l.length : Int) := by omega
    rw [HN.out, if_pos (.inr (.inl h2))]
    clear HN h1 h2 CL hl hle
    go_enter Try.func14, Try.ntmps14
    go_wp2
    go_ret2
    exact ⟨rfl, Ext.refl _⟩
  have h2I : ¬ (24 : Int) < (l.length : Int) := by omega
  have CS := fun W => allSmall_any l W (by omega)
  by_cases h3 : letN l < l.length
  · have h3I : (letN l : Int) < (l.length : Int) := by omega
    rw [HN.out, if_pos (.inr (.inr h3))]
    clear HN h1 h2 hl hle CS
    generalize letN l = n at *
    go_enter Try.func14, Try.ntmps14
    go_wp2_with fail
    refine (CL _).mono ?_
    rintro e w2 ⟨rfl, hE2⟩
    go_wp2
    go_ret2
    exact ⟨rfl, hE2⟩
  · have h3I : ¬ (letN l : Int) < (l.length : Int) := by omega
    rw [HN.out, if_neg (by omega)]
    clear HN h1 h2 hl hle h3
    generalize letN l = n at *
    generalize l.map small = m at *
    go_enter Try.func14, Try.ntmps14
    go_wp2_with fail
    refine (CL _).mono ?_
    rintro e w2 ⟨rfl, hE2⟩
    have HE2 := hide hE2
    clear hE2
    go_wp2_with fail
    refine (CS _).mono ?_
    rintro e w3 ⟨rfl, hE3⟩
    have HE3 := hide (HE2.out.trans hE3)
    clear hE3
    go_wp2
    go_ret2
    exact ⟨rfl, HE3.out⟩

set_option maxHeartbeats 1000000 in
set_option maxRecDepth 10000 in
theorem hasAt_any (l : List UInt8) (w : World) (hl : l.length ≤ maxLen) : Calls Try.prog 37 #[.string ⟨l.toArray⟩, .string ⟨#[64]⟩] w fun e w' => e = .returned (.bool (decide (l.head? = some 64))) ∧ Ext w w' := by
  unfold maxLen at hl
  cases l with
  | nil =>
    go_enter Try.func37, Try.ntmps37
    go_wp2
    go_ret
    exact ⟨rfl, Ext.refl _⟩
  | cons a t =>
    have hr : decide ((a :: t).head? = some 64) = ([a] == [64]) := by
      by_cases h : a = 64
      · subst h; rfl
      · rw [decide_eq_false (by simpa using h)]
        symm
        rw [beq_eq_false_iff_ne]
        simpa using h
    obtain ⟨s, hs⟩ : ∃ s, s = a :: t := ⟨_, rfl⟩
    have hp : (1 : Int) ≤ (s.length : Int) := by rw [hs, List.length_cons]; omega
    have hpN : 1 ≤ s.length := by omega
    have htk : s.take 1 = [a] := by rw [hs]; rfl
    rw [hr, ← hs]
    clear hr hl hs
    generalize hq : ([a] == [(64 : UInt8)]) = q at *
    go_enter Try.func37, Try.ntmps37
    go_wp2
    go_ret
    exact ⟨rfl, Ext.refl _⟩

set_option maxHeartbeats 1000000 in
set_option maxRecDepth 10000 in
theorem trimAt_any (l : List UInt8) (w : World) (hl : l.length ≤ maxLen) : Calls Try.prog 26 #[.string ⟨l.toArray⟩, .string ⟨#[64]⟩] w fun e w' => e = .returned (.string ⟨(bareE l).toArray⟩) ∧ Ext w w' := by
  have CH := fun W => hasAt_any l W hl
  have C1 : ∀ W, Calls Try.prog 33 #[.string ⟨l.toArray⟩, .string ⟨#[64]⟩] W fun e w' => e = .returned (.string ⟨(bareE l).toArray⟩) ∧ Ext W w' := by
    intro W
    unfold maxLen at hl
    cases hq : decide (l.head? = some 64) with
    | true =>
      rw [hq] at CH
      have hq := of_decide_eq_true hq
      have hb : bareE l = l.tail := by unfold bareE; rw [if_pos hq]
      have hp : 1 ≤ l.length := by
        cases l with
        | nil => simp at hq
        | cons a t => simp
      have hpI : (1 : Int) ≤ (l.length : Int) := by omega
      rw [hb]
      clear hq hb hl
      go_enter Try.func33, Try.ntmps33
      go_wp2_with fail
      refine (CH _).mono ?_
      rintro e w2 ⟨rfl, hE2⟩
      go_wp2
      go_ret
      exact ⟨rfl, hE2⟩
    | false =>
      rw [hq] at CH
      have hb : bareE l = l := by unfold bareE; rw [if_neg (of_decide_eq_false hq)]
      rw [hb]
      clear hq hb hl
      go_enter Try.func33, Try.ntmps33
      go_wp2_with fail
      refine (CH _).mono ?_
      rintro e w2 ⟨rfl, hE2⟩
      go_wp2
      go_ret
      exact ⟨rfl, hE2⟩
  clear CH
  generalize bareE l = b at *
  go_enter Try.func26, Try.ntmps26
  go_wp2_with fail
  refine (C1 _).mono ?_
  rintro e w2 ⟨rfl, hE2⟩
  go_wp2
  go_ret
  exact ⟨rfl, hE2⟩

set_option maxHeartbeats 1000000 in
set_option maxRecDepth 10000 in
theorem pTerm_any (l : List UInt8) (w : World) (hl : l.length ≤ maxLen) : Calls Try.prog 16 #[.string ⟨l.toArray⟩] w fun e w' => e = .returned (.bool (termE l)) ∧ Ext w w' := by
  have hbl : (bareE l).length ≤ maxLen := by
    unfold bareE
    split
    · rw [List.length_tail]; omega
    · exact hl
  have CT := fun W => trimAt_any l W hl
  have CO := fun W => pOne_any (bareE l) W hbl
  unfold OneTo at CO
  have HT := hide (show termE l = ((oneE (bareE l)).2 && decide ((oneE (bareE l)).1 = bareE l)) from rfl)
  rw [HT.out]
  generalize bareE l = b at *
  generalize oneE b = r at *
  clear HT hbl hl
  obtain ⟨r1, r2⟩ := r
  simp only at CO ⊢
  cases r2 with
  | false =>
    go_enter Try.func16, Try.ntmps16
    go_wp2_with fail
    refine (CT _).mono ?_
    rintro e w1 ⟨rfl, hE1⟩
    have HE1 := hide hE1
    clear hE1
    go_wp2_with fail
    refine (CO _).mono ?_
    rintro e w2 ⟨rfl, hE2⟩
    have HE2 := hide (HE1.out.trans hE2)
    clear hE2
    go_wp2
    go_ret
    exact ⟨rfl, HE2.out⟩
  | true =>
    have hbq : (r1 == b) = decide (r1 = b) := by
      by_cases h : r1 = b
      · rw [decide_eq_true h, h, beq_self_eq_true]
      · rw [decide_eq_false h, beq_eq_false_iff_ne]; exact h
    rw [Bool.true_and, ← hbq]
    generalize hres : (r1 == b) = res at *
    clear hbq
    go_enter Try.func16, Try.ntmps16
    go_wp2_with fail
    refine (CT _).mono ?_
    rintro e w1 ⟨rfl, hE1⟩
    have HE1 := hide hE1
    clear hE1
    go_wp2_with fail
    refine (CO _).mono ?_
    rintro e w2 ⟨rfl, hE2⟩
    have HE2 := hide (HE1.out.trans hE2)
    clear hE2
    go_wp2
    go_ret
    exact ⟨rfl, HE2.out⟩
end Go.Proofs.Ytnkiopfpcddliaa
