/- What the laws of chapter 15 ask of the program; the example; WordsFinds, WordsOne, WordsTerms. -/
import Derived.Test.YtnkiopfpcddliaaWrdRefD
namespace Go.Proofs.Ytnkiopfpcddliaa
open Go.RowKit Wrd

/-- From world w on, the program's functions tell what the document's tell. -/
def WWordsC (w : World) : Prop := ∀ (l : List UInt8) (W : World), Ext w W → l.length ≤ 2001 → Calls Try.prog 12 #[.string ⟨l.toArray⟩] W (MadeTx W (wordsE l))
def WOneC (w : World) : Prop := ∀ (l : List UInt8) (W : World), Ext w W → l.length ≤ maxLen → Calls Try.prog 14 #[.string ⟨l.toArray⟩] W (OneTo W l)
def WTermC (w : World) : Prop := ∀ (l : List UInt8) (W : World), Ext w W → l.length ≤ maxLen → Calls Try.prog 16 #[.string ⟨l.toArray⟩] W fun e w' => e = .returned (.bool (termE l)) ∧ Ext W w'
def WTermsC (w : World) : Prop := ∀ (t lv : Int) (src text : List UInt8) (W : World), Ext w W → src.length ≤ 1000 → text.length ≤ 1000 → Calls Try.prog 18 #[recV t lv src text] W (MadeTx W (termsE text src))

set_option maxHeartbeats 2000000 in
set_option maxRecDepth 10000 in
theorem alive15_any {w W : World} (hB : WWordsC w) (hE : Ext w W) : Calls Try.prog 10 #[] W fun e W' => e = .returned (.bool true) ∧ Ext W W' := by
  have C := hB [71, 69, 84, 32, 47, 97, 45, 98, 32, 72, 84, 84, 80, 32, 50, 48, 48] W hE (by decide)
  rw [example15] at C
  unfold MadeTx at C
  go_enter Try.func10, Try.ntmps10
  go_wp2_with fail
  refine C.mono ?_
  rintro e w5 ⟨A5, c5, rfl, _, _, h5, hE5⟩
  have hE6 := extNew w5 (.cells #[.string ⟨#[103, 101, 116]⟩, .string ⟨#[97]⟩, .string ⟨#[98]⟩, .string ⟨#[104, 116, 116, 112]⟩, .string ⟨#[50, 48, 48]⟩] 9)
  have CS := refSame15_any A5 (some ⟨w5.heap.size, 0, none⟩) c5 5 [[103, 101, 116], [97], [98], [104, 116, 116, 112], [50, 48, 48]] [[103, 101, 116], [97], [98], [104, 116, 116, 112], [50, 48, 48]] _ (h5.later hE6)
    (textsNew w5 _ #[.string ⟨#[103, 101, 116]⟩, .string ⟨#[97]⟩, .string ⟨#[98]⟩, .string ⟨#[104, 116, 116, 112]⟩, .string ⟨#[50, 48, 48]⟩] 9 (0, 0) rfl 5 rfl) (by simp)
  rw [decide_eq_true rfl] at CS
  have hF6 := hide (hE5.trans hE6)
  clear C h5 hE5 hE6
  go_wp2_with fail
  refine CS.mono ?_
  rintro e w7 ⟨rfl, hE7⟩
  go_wp2
  go_ret
  exact ⟨rfl, hF6.out.trans hE7⟩

attribute [local go_sem ↓] run_txtAt run_txtLen run_txtCut
set_option maxHeartbeats 1000000 in
set_option maxRecDepth 10000 in
theorem wordsFinds_walk0 (l : List UInt8) (w : World) (hB : WWordsC w) : Calls Try.prog 3 #[.string ⟨l.toArray⟩] w fun e w' => e = .returned (.bool true) ∧ Ext w w' := by
  have C0 := alive15_any hB (Ext.refl w)
  by_cases hbig : 2000 < l.length
  · have hbI : (2000 : Int) < (l.length : Int) := by omega
    clear hB
    go_enter Try.func3, Try.ntmps3
    go_wp2_with fail
    refine C0.mono ?_
    rintro e w1 ⟨rfl, hE1⟩
    go_wp2
    go_ret
    exact ⟨rfl, hE1⟩
  have hbI : ¬ (2000 : Int) < (l.length : Int) := by omega
  have C1 := hide (fun W hE => hB l W hE (by omega))
  have C2 := hide (fun W => refWWords_any l W (by omega))
  have HLen := hide (words_len l)
  unfold MadeTx at C1 C2
  generalize wordsE l = res at *
  clear hB
  go_enter Try.func3, Try.ntmps3
  go_wp2_with fail
  refine C0.mono ?_
  rintro e w1 ⟨rfl, hE1⟩
  have CC := C1.out w1 hE1
  have HE1 := hide hE1
  clear C0 hE1
  go_wp2_with fail
  refine CC.mono ?_
  rintro e w2 ⟨A2, c2, rfl, _, _, h2, hE2⟩
  have CD := C2.out w2
  have HE2 := hide (HE1.out.trans hE2)
  have H2 := hide h2
  clear CC h2 hE2
  go_wp2_with fail
  refine CD.mono ?_
  rintro e w3 ⟨A3, c3, rfl, _, _, h3, hE3⟩
  have CS := refSame15_any A2 A3 c2 c3 res res w3 (H2.out.later hE3) h3 (by have := HLen.out; omega)
  rw [decide_eq_true rfl] at CS
  have HE3 := hide (HE2.out.trans hE3)
  clear CD h3 hE3
  go_wp2_with fail
  refine CS.mono ?_
  rintro e w4 ⟨rfl, hE4⟩
  have HE4 := hide (HE3.out.trans hE4)
  clear CS hE4
  go_wp2
  go_ret
  exact ⟨rfl, HE4.out⟩

set_option maxHeartbeats 1000000 in
set_option maxRecDepth 10000 in
theorem wordsOne_walk0 (l : List UInt8) (w : World) (hB : WWordsC w) (hO : WOneC w) (hT : WTermC w) (hl : l.length ≤ maxLen) : Calls Try.prog 4 #[.string ⟨l.toArray⟩] w fun e w' => e = .returned (.bool true) ∧ Ext w w' := by
  have C0 := alive15_any hB (Ext.refl w)
  have C1 := hide (fun W hE => hO l W hE hl)
  have C2 := hide (fun W => refOne_any l W hl)
  have C3 := hide (fun W hE => hT l W hE hl)
  have C4 := hide (fun W => refTerm_any l W hl)
  unfold OneTo at C1 C2
  generalize oneE l = r at *
  generalize termE l = tb at *
  obtain ⟨r1, r2⟩ := r
  simp only at C1 C2
  clear hB hO hT hl
  go_enter Try.func4, Try.ntmps4
  go_wp2_with fail
  refine C0.mono ?_
  rintro e w1 ⟨rfl, hE1⟩
  have CC := C1.out w1 hE1
  have HE1 := hide hE1
  clear C0 hE1
  go_wp2_with fail
  refine CC.mono ?_
  rintro e w2 ⟨rfl, hE2⟩
  have HE2 := hide (HE1.out.trans hE2)
  have CD := C2.out w2
  clear CC hE2
  go_wp2_with fail
  refine CD.mono ?_
  rintro e w3 ⟨rfl, hE3⟩
  have HE3 := hide (HE2.out.trans hE3)
  have CE := C3.out w3 HE3.out
  clear CD hE3
  go_wp2_with fail
  refine CE.mono ?_
  rintro e w4 ⟨rfl, hE4⟩
  have HE4 := hide (HE3.out.trans hE4)
  have CF := C4.out w4
  clear CE hE4
  go_wp2_with fail
  refine CF.mono ?_
  rintro e w5 ⟨rfl, hE5⟩
  have HE5 := hide (HE4.out.trans hE5)
  clear CF hE5
  go_wp2
  go_ret
  exact ⟨by simp, HE5.out⟩
end Go.Proofs.Ytnkiopfpcddliaa
