/- The program's each: the words of a text handed to whoever asks. -/
import Derived.Test.YtnkiopfpcddliaaWrdPText
import Derived.Test.YtnkiopfpcddliaaMod
namespace Go.Proofs.Ytnkiopfpcddliaa
open Go.RowKit Wrd

/-- A function that is called as a value. -/
def EnteredF (K : Nat) : Prop := ∀ (args : Array Value) (W : World), (callFunc K args).run Try.prog W = .ok (.enter K args) W
theorem enteredF_of {K : Nat} {fn : Func} {c : Code} (hf : Try.prog.funcs[K]? = some fn) (hname : (fn.name == "runtime.NumGoroutine") = false) (hb : fn.body = some c) : EnteredF K := by
  intro args W
  have h1 : fn.name ≠ "runtime.NumGoroutine" := by simpa using hname
  simp [callFunc, hf, h1, hb]
def txtSize : Value → Nat
  | .string b => b.size
  | _ => 0

theorem txt_left (s : List UInt8) (k : Nat) : (ByteArray.mk s.toArray).extract k s.length = ⟨(s.drop k).toArray⟩ := by
  apply ByteArray.ext
  rw [ByteArray.data_extract]
  show s.toArray.extract k s.length = (s.drop k).toArray
  rw [List.extract_toArray, List.extract_eq_take_drop, List.take_of_length_le (by simp)]

attribute [local go_sem ↓] run_txtAt run_txtLen run_txtCut run_txtTop
set_option maxHeartbeats 2000000 in
set_option maxRecDepth 10000 in
theorem each_any {K : Nat} (hK : EnteredF K) {cap : Value} {St : List (List UInt8) → World → Prop} (most : Nat) (hC : ∀ pre x W, St pre W → pre.length ≤ most → x.length ≤ 24 → Calls Try.prog K #[.string ⟨x.toArray⟩, cap] W fun e W' => (∃ v, e = .returned v) ∧ St (pre ++ [x]) W')
    (hE : ∀ pre W W', St pre W → Ext W W' → St pre W') (l : List UInt8) (pre0 : List (List UInt8)) (w : World) (hl : l.length ≤ 100000) (hm : pre0.length + l.length ≤ most) (h0 : St pre0 w) :
    Calls Try.prog 22 #[.string ⟨l.toArray⟩, .func (.func K) #[] #[cap]] w fun e w' => (∃ v, e = .returned v) ∧ St (pre0 ++ wordsE l) w' := by
  have hEn := fun args W => hK args W
  have HC := hide hC
  have HE := hide hE
  have HRes := hide (show pre0 ++ wordsE l = pre0 ++ wordsE l from rfl)
  have HLen := hide (show pre0.length + (wordsE l).length ≤ most by have := words_len l; omega)
  have HLn := hide (show (pre0 ++ wordsE l).length ≤ most by rw [List.length_append]; exact HLen.out)
  have HNil := hide (show wordsE [] = [] from rfl)
  have HStep := hide words_row
  have HLl := hide hl
  have H0 := hide h0
  generalize hres : pre0 ++ wordsE l = res at *
  clear hC hE hm h0 HLen
  go_enter Try.func22, Try.ntmps22
  go_wp2
  go_loopw [0] (fun x wr => ∃ (s : List UInt8) (pre : List (List UInt8)), s.length ≤ l.length ∧ x = .string ⟨s.toArray⟩ ∧ res = pre ++ wordsE s ∧ St pre wr) (fun x _ => txtSize x)
  case atStart => exact ⟨l, pre0, Nat.le_refl _, rfl, hres.symm, H0.out⟩
  case round =>
    clear H0 HRes hres
    obtain ⟨s, pre, hs, rfl, hrs, hSt⟩ := hrel
    have HSt := hide hSt
    have hs1 : s.length ≤ 100000 := by have := HLl.out; omega
    clear hSt
    by_cases hp : 0 < s.length
    · have hpI : (0 : Int) < (s.length : Int) := by omega
      have CL := fun W => letters_any s W (by unfold maxLen; omega)
      rw [HStep.out s hp] at hrs
      have hnl := letN_le s
      have HRs := hide hrs
      obtain ⟨n, hn⟩ : ∃ n, n = letN s := ⟨_, rfl⟩
      rw [← hn] at CL HRs hnl
      have HDrop := hide (show ∀ k, 0 < k → k ≤ s.length → (s.drop k).length ≤ l.length ∧ txtSize (.string ⟨(s.drop k).toArray⟩) < txtSize (.string ⟨s.toArray⟩) from fun k h0 h1 => ⟨by rw [List.length_drop]; omega, by
        show (ByteArray.mk _).size < (ByteArray.mk _).size
        rw [txt_size, txt_size, List.length_drop]
        omega⟩)
      clear hrs hn hs
      by_cases hn0 : 0 < n
      · have hn0I : (0 : Int) < (n : Int) := by omega
        have HPl := hide (show pre.length ≤ most by
          have := HLn.out
          rw [HRs.out, List.length_append] at this
          omega)
        by_cases h24 : 24 < n
        · have h24I : (24 : Int) < (n : Int) := by omega
          have hms : (24 : Int) ≤ (s.length : Int) := by omega
          have CA := fun W => allSmall_any (s.take 24) W (by rw [List.length_take]; omega)
          have HMin := hide (show min n 24 = 24 by omega)
          have HMl := hide (show ((s.take 24).map small).length ≤ 24 by rw [List.length_map, List.length_take]; omega)
          clear h24 hn0
          go_wp2_with fail
          refine (CL _).mono ?_
          rintro e w2 ⟨rfl, hE2⟩
          have HS2 := hide (HE.out _ _ _ HSt.out hE2)
          clear hE2
          go_wp2_with fail
          refine (CA _).mono ?_
          rintro e w3 ⟨rfl, hE3⟩
          have CH := HC.out _ ((s.take 24).map small) _ (HE.out _ _ _ HS2.out hE3) HPl.out HMl.out
          generalize hz : (s.take 24).map small = z at *
          have HZ := hide hz
          clear hE3 hz
          go_wp2_with fail
          refine CH.mono ?_
          rintro e w4 ⟨⟨v4, rfl⟩, hS4⟩
          have HS4 := hide hS4
          clear hS4 CH
          by_cases hb : n < s.length
          · have hbI : ¬ (s.length : Int) < (n : Int) + 1 := by omega
            have hb2 : (n : Int) + 1 ≤ (s.length : Int) := by omega
            have HD := hide (HDrop.out (n + 1) (by omega) (by omega))
            have HR3 := hide (show res = (pre ++ [z]) ++ wordsE (s.drop (n + 1)) by rw [HRs.out, if_pos (by omega), HMin.out, HZ.out, List.append_assoc, show min (n + 1) s.length = n + 1 by omega])
            clear hb HRs hnl HDrop
            go_wp2
            go_roundw
            case rel => exact ⟨s.drop (n + 1), (pre ++ [z]), HD.out.1, by first | rfl | exact congrArg Value.string (txt_left _ _) | rw [List.drop_length], HR3.out, HS4.out⟩
            case measure => have hm := HD.out.2; first | exact hm | (rw [← txt_left] at hm; exact hm) | (rw [List.drop_length] at hm; exact hm) | (rw [List.drop_one] at hm; exact hm)
          · have hbI : (s.length : Int) < (n : Int) + 1 := by omega
            have hnI : (n : Int) ≤ 100000 := by omega
            have HD := hide (HDrop.out (s.length) (by omega) (by omega))
            have HR3 := hide (show res = (pre ++ [z]) ++ wordsE (s.drop (s.length)) by rw [HRs.out, if_pos (by omega), HMin.out, HZ.out, List.append_assoc, show min (n + 1) s.length = s.length by omega])
            clear hb HRs hnl HDrop
            go_wp2
            go_roundw
            case rel => exact ⟨s.drop (s.length), (pre ++ [z]), HD.out.1, by first | rfl | exact congrArg Value.string (txt_left _ _) | rw [List.drop_length], HR3.out, HS4.out⟩
            case measure => have hm := HD.out.2; first | exact hm | (rw [← txt_left] at hm; exact hm) | (rw [List.drop_length] at hm; exact hm) | (rw [List.drop_one] at hm; exact hm)
        · have h24I : ¬ (24 : Int) < (n : Int) := by omega
          have hms : (n : Int) ≤ (s.length : Int) := by omega
          have CA := fun W => allSmall_any (s.take n) W (by rw [List.length_take]; omega)
          have HMin := hide (show min n 24 = n by omega)
          have HMl := hide (show ((s.take n).map small).length ≤ 24 by rw [List.length_map, List.length_take]; omega)
          clear h24 hn0
          go_wp2_with fail
          refine (CL _).mono ?_
          rintro e w2 ⟨rfl, hE2⟩
          have HS2 := hide (HE.out _ _ _ HSt.out hE2)
          clear hE2
          go_wp2_with fail
          refine (CA _).mono ?_
          rintro e w3 ⟨rfl, hE3⟩
          have CH := HC.out _ ((s.take n).map small) _ (HE.out _ _ _ HS2.out hE3) HPl.out HMl.out
          generalize hz : (s.take n).map small = z at *
          have HZ := hide hz
          clear hE3 hz
          go_wp2_with fail
          refine CH.mono ?_
          rintro e w4 ⟨⟨v4, rfl⟩, hS4⟩
          have HS4 := hide hS4
          clear hS4 CH
          by_cases hb : n < s.length
          · have hbI : ¬ (s.length : Int) < (n : Int) + 1 := by omega
            have hb2 : (n : Int) + 1 ≤ (s.length : Int) := by omega
            have HD := hide (HDrop.out (n + 1) (by omega) (by omega))
            have HR3 := hide (show res = (pre ++ [z]) ++ wordsE (s.drop (n + 1)) by rw [HRs.out, if_pos (by omega), HMin.out, HZ.out, List.append_assoc, show min (n + 1) s.length = n + 1 by omega])
            clear hb HRs hnl HDrop
            go_wp2
            go_roundw
            case rel => exact ⟨s.drop (n + 1), (pre ++ [z]), HD.out.1, by first | rfl | exact congrArg Value.string (txt_left _ _) | rw [List.drop_length], HR3.out, HS4.out⟩
            case measure => have hm := HD.out.2; first | exact hm | (rw [← txt_left] at hm; exact hm) | (rw [List.drop_length] at hm; exact hm) | (rw [List.drop_one] at hm; exact hm)
          · have hbI : (s.length : Int) < (n : Int) + 1 := by omega
            have hnI : (n : Int) ≤ 100000 := by omega
            have HD := hide (HDrop.out (s.length) (by omega) (by omega))
            have HR3 := hide (show res = (pre ++ [z]) ++ wordsE (s.drop (s.length)) by rw [HRs.out, if_pos (by omega), HMin.out, HZ.out, List.append_assoc, show min (n + 1) s.length = s.length by omega])
            clear hb HRs hnl HDrop
            go_wp2
            go_roundw
            case rel => exact ⟨s.drop (s.length), (pre ++ [z]), HD.out.1, by first | rfl | exact congrArg Value.string (txt_left _ _) | rw [List.drop_length], HR3.out, HS4.out⟩
            case measure => have hm := HD.out.2; first | exact hm | (rw [← txt_left] at hm; exact hm) | (rw [List.drop_length] at hm; exact hm) | (rw [List.drop_one] at hm; exact hm)
      · have hn0I : ¬ (0 : Int) < (n : Int) := by omega
        clear hn0I
        obtain rfl : n = 0 := by omega
        clear hn0
        go_wp2_with fail
        refine (CL _).mono ?_
        rintro e w2 ⟨rfl, hE2⟩
        have HS2 := hide (HE.out _ _ _ HSt.out hE2)
        clear hE2
        have hb1 : (1 : Int) ≤ (s.length : Int) := by omega
        have HD := hide (HDrop.out 1 (by omega) (by omega))
        have HR3 := hide (show res = pre ++ wordsE (s.drop 1) by rw [HRs.out, if_neg (by omega), List.nil_append, show min (0 + 1) s.length = 1 by omega])
        clear HRs hnl HDrop
        go_wp2
        go_roundw
        case rel => exact ⟨s.drop 1, pre, HD.out.1, by first | rfl | exact congrArg Value.string (txt_left _ _) | rw [List.drop_one], HR3.out, HS2.out⟩
        case measure => have hm := HD.out.2; first | exact hm | (rw [← txt_left] at hm; exact hm) | (rw [List.drop_length] at hm; exact hm) | (rw [List.drop_one] at hm; exact hm)
    · have hs0 : s = [] := List.eq_nil_of_length_eq_zero (by omega)
      subst hs0
      rw [HNil.out, List.append_nil] at hrs
      subst hrs
      clear hp
      go_wp2
      go_end0
      exact ⟨⟨_, rfl⟩, HSt.out⟩
end Go.Proofs.Ytnkiopfpcddliaa
