/- The program's Terms: the words of two texts, put into a set, its keys sorted. -/
import Derived.Test.YtnkiopfpcddliaaWrdPEach
import Derived.Test.YtnkiopfpcddliaaWrdPSet
import Derived.Test.YtnkiopfpcddliaaWrdPKeys
import Derived.Test.YtnkiopfpcddliaaWrdRefD
namespace Go.Proofs.Ytnkiopfpcddliaa
open Go.RowKit Wrd

/-- The variable in block b holds a set of these texts, which is the call's own; all that was there at w is as it was. -/
def HeldM (w W : World) (b : Nat) (L : List (List UInt8)) : Prop := ∃ m, Whole W b 48 #[.map (some m)] ∧ MapS W m L ∧ w.heap.size ≤ b ∧ w.heap.size ≤ m ∧ m ≠ b ∧ Ext w W
theorem HeldM.ext {w W W' : World} {b : Nat} {L : List (List UInt8)} (h : HeldM w W b L) (hE : Ext W W') : HeldM w W' b L := by
  obtain ⟨m, h1, h2, h3, h4, h5, h6⟩ := h
  exact ⟨m, h1.ext hE, h2.ext hE, h3, h4, h5, h6.trans hE⟩
theorem entered_terms1 : EnteredF 27 := enteredF_of Try.func27 (by kernel_rfl) rfl
theorem entered_terms2 : EnteredF 28 := enteredF_of Try.func28 (by kernel_rfl) rfl
theorem HeldM.put {w W W' : World} {b m : Nat} {L : List (List UInt8)} (h1 : Whole W b 48 #[.map (some m)]) (h3 : w.heap.size ≤ b) (h4 : w.heap.size ≤ m) (h5 : m ≠ b) (h6 : Ext w W) (hM : MapS W' m L) (hG : W.grownBy W' (some m)) : HeldM w W' b L :=
  ⟨m, h1.ownGrown hG (by simpa using h5), hM, h3, h4, h5, Below.grown h6 hG h6.le (fun k hk => by cases hk; exact h4)⟩

set_option maxHeartbeats 2000000 in
set_option maxRecDepth 10000 in
theorem terms2_any {w W : World} {b : Nat} {L : List (List UInt8)} (x : List UInt8) (h : HeldM w W b L) (hL : L.length ≤ 1000000) (hx : x.length ≤ 24) :
    Calls Try.prog 28 #[.string ⟨x.toArray⟩, .pointer (some ⟨b, 0, none⟩)] W fun e W' => (∃ v, e = .returned v) ∧ HeldM w W' b (L ++ [x]) := by
  obtain ⟨m, h1, h2, h3, h4, h5, h6⟩ := h
  have s0 := h1.at 0 (u := .map (some m)) rfl
  have H1 := hide h1
  have H2 := hide h2
  have H3 := hide h3
  have H4 := hide h4
  have H5 := hide h5
  have H6 := hide h6
  have HL := hide hL
  have HX := hide (show x.length ≤ 1000 by omega)
  clear h1 h2 h3 h4 h5 h6 hL hx
  go_enter Try.func28, Try.ntmps28
  go_wp2_with (at_mapUpdate; refine wpList_putS rfl (.tmp 3) (.tmp 4) (.tmp 5) rfl rfl H2.out HL.out HX.out rfl rfl ?_; intro w2 hM hG; have HM := hide hM; have HG := hide hG; clear hM hG)
  go_end0
  exact ⟨⟨_, rfl⟩, HeldM.put H1.out H3.out H4.out H5.out H6.out HM.out HG.out⟩

set_option maxHeartbeats 2000000 in
set_option maxRecDepth 10000 in
theorem terms1_any {w W : World} {b : Nat} {L : List (List UInt8)} (x : List UInt8) (h : HeldM w W b L) (hL : L.length ≤ 1000000) (hx : x.length ≤ 24) :
    Calls Try.prog 27 #[.string ⟨x.toArray⟩, .pointer (some ⟨b, 0, none⟩)] W fun e W' => (∃ v, e = .returned v) ∧ HeldM w W' b (L ++ [64 :: x]) := by
  obtain ⟨m, h1, h2, h3, h4, h5, h6⟩ := h
  have s0 := h1.at 0 (u := .map (some m)) rfl
  have hadd := fun W => run_atAdd W x (by omega)
  have H1 := hide h1
  have H2 := hide h2
  have H3 := hide h3
  have H4 := hide h4
  have H5 := hide h5
  have H6 := hide h6
  have HL := hide hL
  have HX := hide (show (64 :: x).length ≤ 1000 by rw [List.length_cons]; omega)
  clear h1 h2 h3 h4 h5 h6 hL hx
  go_enter Try.func27, Try.ntmps27
  go_wp2_with (at_mapUpdate; refine wpList_putS (k := 64 :: x) rfl (.tmp 3) (.tmp 5) (.tmp 6) rfl rfl H2.out HL.out HX.out rfl rfl ?_; intro w2 hM hG; have HM := hide hM; have HG := hide hG; clear hM hG)
  go_end0
  exact ⟨⟨_, rfl⟩, HeldM.put H1.out H3.out H4.out H5.out H6.out HM.out HG.out⟩

/-- The set's keys, sorted: the list with just its texts. -/
theorem MapS.sorted {w : World} {m : Nat} {L T : List (List UInt8)} {D : DataW Unit} (h1 : w.ownsMap Try.prog 9 unitElem m L.length D) (h2 : ∀ x : List UInt8, Maps.has D (.string x) = decide (x ∈ L)) (hT : Rising T) (hm : ∀ x, x ∈ T ↔ x ∈ L) {ss : List (List UInt8)} (hp : ss.Perm (strKeys D)) :
    ss.mergeSort (fun x y => decide (x ≤ y)) = T := by
  obtain ⟨es, hD, hko⟩ := h1.keysOf
  obtain ⟨es', hD', hpw⟩ := h1.tidy str_law
  subst hD
  injection hD' with hD'
  subst hD'
  have hk : ∀ p ∈ es, ∃ x, p.1 = .string x := fun p hp' => by
    obtain ⟨v, hv⟩ := hko p hp'
    obtain ⟨x, _, hx, _⟩ := Maps.keyOf_str Try.underlying9 hv
    exact ⟨x, hx⟩
  have hT2 := perm_strKeys hpw hk hT.nodup (fun x => by rw [h2 x, decide_eq_true_iff]; exact hm x)
  have hp2 := hp.trans hT2.symm
  exact sort_is (hp2.nodup_iff.2 hT.nodup) hT (fun x => hp2.mem_iff)

set_option maxHeartbeats 2000000 in
set_option maxRecDepth 10000 in
theorem pTerms_any (t lv : Int) (src text : List UInt8) (w : World) (hs : src.length ≤ 1000) (ht : text.length ≤ 1000) : Calls Try.prog 18 #[recV t lv src text] w (MadeTx w (termsE text src)) := by
  obtain ⟨w1, hw1⟩ : ∃ w1, w1 = w.alloc (.cells #[.int .u64 t, .int .u8 lv, .string ⟨src.toArray⟩, .string ⟨text.toArray⟩] 31) := ⟨_, rfl⟩
  have hE1 : Ext w w1 := by rw [hw1]; exact extNew w _
  have hW1 : Whole w1 w.heap.size 31 #[.int .u64 t, .int .u8 lv, .string ⟨src.toArray⟩, .string ⟨text.toArray⟩] := by rw [hw1]; exact Whole.new w _ _
  obtain ⟨b, hb⟩ : ∃ b, b = w.heap.size + 1 + 1 := ⟨_, rfl⟩
  have hls := words_len src
  have hlt := words_len text
  have C1 : ∀ W, HeldM w1 W b [] → Calls Try.prog 22 #[.string ⟨src.toArray⟩, .func (.func 27) #[] #[.pointer (some ⟨b, 0, none⟩)]] W fun e w' => (∃ v, e = .returned v) ∧ HeldM w1 w' b ((wordsE src).map fun x => 64 :: x) := fun W h => by
    have := each_any entered_terms1 (St := fun L W => HeldM w1 W b (L.map fun x => 64 :: x)) 1000 (fun pre x W hS hp hx => by
      have h := terms1_any x hS (by rw [List.length_map]; omega) hx
      rw [List.map_append]
      exact h) (fun _ _ _ h hE => h.ext hE) src [] W (by omega) (by simpa using hs) h
    simpa using this
  have C2 : ∀ W, HeldM w1 W b ((wordsE src).map fun x => 64 :: x) → Calls Try.prog 22 #[.string ⟨text.toArray⟩, .func (.func 28) #[] #[.pointer (some ⟨b, 0, none⟩)]] W fun e w' => (∃ v, e = .returned v) ∧ HeldM w1 w' b (((wordsE src).map fun x => 64 :: x) ++ wordsE text) := fun W h => by
    have := each_any entered_terms2 (St := fun L W => HeldM w1 W b (((wordsE src).map fun x => 64 :: x) ++ L)) 1000 (fun pre x W hS hp hx => by
      have h := terms2_any x hS (by rw [List.length_append, List.length_map]; omega) hx
      rw [← List.append_assoc]
      exact h) (fun _ _ _ h hE => h.ext hE) text [] W (by omega) (by simpa using ht) (by simpa using h)
    simpa using this
  have hT := terms_rising text src
  have hm : ∀ x, x ∈ termsE text src ↔ x ∈ ((wordsE src).map fun x => 64 :: x) ++ wordsE text := fun x => by
    rw [mem_terms, List.mem_append, List.mem_map]
    constructor
    · rintro (h | ⟨w, h1, rfl⟩)
      · exact .inr h
      · exact .inl ⟨w, h1, rfl⟩
    · rintro (⟨w, h1, rfl⟩ | h)
      · exact .inr ⟨w, h1, rfl⟩
      · exact .inl h
  have hLl : (((wordsE src).map fun x => 64 :: x) ++ wordsE text).length ≤ 2000 := by rw [List.length_append, List.length_map]; omega
  have hsz : w1.heap.size = w.heap.size + 1 := by rw [hw1]; simp
  have H0 : HeldM w1 (((w.alloc (.cells #[.int .u64 t, .int .u8 lv, .string ⟨src.toArray⟩, .string ⟨text.toArray⟩] 31)).alloc (.map #[] 0)).alloc (.cells #[.map (some (w.heap.size + 1))] 48)) b [] := by
    rw [← hw1]
    refine ⟨w.heap.size + 1, ?_, ?_, by omega, by omega, by omega, (extNew w1 _).trans (extNew _ _)⟩
    · have := Whole.new (w1.alloc (.map #[] 0)) 48 #[.map (some (w.heap.size + 1))]
      rw [hb]
      rw [World.size_alloc, hsz] at this
      exact this
    · rw [← hsz]
      exact (MapS.made w1).ext (extNew _ _)
  generalize termsE text src = T at *
  generalize hL1 : (wordsE src).map (fun x => 64 :: x) = L1 at *
  generalize wordsE text = L2 at *
  have H0' := hide H0
  have C1' := hide C1
  have C2' := hide C2
  clear H0 C1 C2
  unfold MadeTx recV
  clear hls hlt hs ht
  have HT := hide hT
  have HM := hide hm
  have HLl := hide hLl
  have HE1 := hide hE1
  have HW1 := hide hW1
  have HB := hide hb
  clear hT hm hLl hE1 hW1
  clear hw1 hb hsz
  go_enter Try.func18, Try.ntmps18
  have hmm := @run_makeMap Try.prog
  go_wp2_with fail
  rw [← HB.out]
  refine (C1'.out _ H0'.out).mono ?_
  rintro e w2 ⟨⟨v2, rfl⟩, hH2⟩
  have H2 := hide hH2
  have c3 : w2.cell? ⟨w.heap.size, 3, none⟩ = some (.string ⟨text.toArray⟩) := by
    obtain ⟨_, _, _, _, _, _, hE2⟩ := hH2
    exact (HW1.out.ext hE2).at 3 (u := .string ⟨text.toArray⟩) rfl
  clear hH2 H0' C1'
  go_wp2_with fail
  refine (C2'.out _ H2.out).mono ?_
  rintro e w3 ⟨⟨v3, rfl⟩, m, h1, ⟨D, h2, h2'⟩, h3, h4, h5, h6⟩
  have s0 := h1.at 0 (u := .map (some m)) rfl
  have hsl := h2.size_le
  have CK := callsIn_wide.1 (mapsKeys_any (some m) w3)
  have CS := callsIn_wide.1 (sortedKeys_any m (L1 ++ L2).length D unitElem w3 h2 (by have := HLl.out; unfold maxLen; omega) (by have := HLl.out; omega))
  have HSo := hide (fun ss => MapS.sorted h2 h2' HT.out HM.out (ss := ss))
  have HE3 := hide (HE1.out.trans h6)
  clear h1 h2 h2' h3 h4 h5 h6 hsl c3 C2'
  go_wp2_with fail
  refine CK.mono ?_
  rintro e w4 ⟨rfl, rfl⟩
  clear CK
  go_wp2_with fail
  refine CS.mono ?_
  rintro e w5 ⟨v, ss, rfl, hP, hR, hN, hB⟩
  have hTs := HSo.out ss hP
  have hl : ss.length = T.length := by rw [← hTs, List.length_mergeSort]
  rw [hTs, hl] at hR
  obtain ⟨A, c, rfl, q1, q2, q3⟩ := OwnTx.form (L := T) hR
  have H3 := hide q3
  have HE5 := hide ((HE3.out.trans (extNew w3 _)).trans hB)
  clear hTs hl hR hN hB hP q3 CS
  go_wp2
  go_ret
  exact ⟨A, c, rfl, q1, q2, H3.out, HE5.out⟩
end Go.Proofs.Ytnkiopfpcddliaa
