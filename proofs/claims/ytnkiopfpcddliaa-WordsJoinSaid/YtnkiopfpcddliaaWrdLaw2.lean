/- WordsTerms. -/
import Derived.Test.YtnkiopfpcddliaaWrdLaw
import Derived.Test.YtnkiopfpcddliaaRegTail
namespace Go.Proofs.Ytnkiopfpcddliaa
open Go.RowKit Wrd

theorem exec_loadR {a : Act} {oi : Oper} {W : World} (ty : TypeId) (x : Operand) (ho : oi.op = .load ty x) (b : Nat) (hx : a.eval x = .pointer (some ⟨b, 0, none⟩)) (cs : List Value) {t : TypeId} (hw : Whole W b t cs.toArray) {d : TypeDesc}
    (hu : Try.prog.underlying ty = some d) (hd : d.isRow = true) (hi : (Try.prog.info? ty).map (·.size) = some cs.length) : (execOp a.eval oi).run Try.prog W = .ok (.value (.agg cs.toArray)) W := by
  have hc : W.rangeAt b 0 cs := fun j v hv => by
    rw [Nat.zero_add]
    exact hw.at j (by simpa using hv)
  unfold execOp
  simp only [ho, hx, Instr.loadAt, Instr.sureAddr, Sem.run_bind, Sem.run_pure, Result.andThen_ok, run_loadVar_mid W b 0 ty cs d hc hu hd hi]
theorem rec_size : (Try.prog.info? 31).map (·.size) = some 4 := by kernel_rfl
theorem Wrd.terms_len (text src : List UInt8) : (termsE text src).length ≤ text.length + src.length := by
  have h1 := puts_len ((wordsE src).map fun w => 64 :: w) ((wordsE text).foldl putT [])
  have h2 := puts_len (wordsE text) []
  have h3 := words_len text
  have h4 := words_len src
  rw [List.length_map] at h1
  unfold termsE
  simp only [List.length_nil] at h2
  omega

attribute [local go_sem ↓] run_txtAt run_txtLen run_txtCut
set_option maxHeartbeats 1000000 in
set_option maxRecDepth 10000 in
theorem wordsTerms_walk0 (t lv : Int) (src text : List UInt8) (w : World) (hB : WWordsC w) (hT : WTermsC w) : Calls Try.prog 5 #[recV t lv src text] w fun e w' => e = .returned (.bool true) ∧ Ext w w' := by
  have hE0 := extNew w (.cells #[.int .u64 t, .int .u8 lv, .string ⟨src.toArray⟩, .string ⟨text.toArray⟩] 31)
  have hW0 := Whole.new w 31 #[.int .u64 t, .int .u8 lv, .string ⟨src.toArray⟩, .string ⟨text.toArray⟩]
  obtain ⟨w0, hw0⟩ : ∃ x, x = w.alloc (.cells #[.int .u64 t, .int .u8 lv, .string ⟨src.toArray⟩, .string ⟨text.toArray⟩] 31) := ⟨_, rfl⟩
  rw [← hw0] at hE0 hW0
  have C0 := alive15_any hB hE0
  have HW0 := hide hW0
  have HE0 := hide hE0
  have HWd := hide hw0
  have C1 := hide (fun (hs : src.length ≤ 1000) (ht : text.length ≤ 1000) W hE => hT t lv src text W hE hs ht)
  have C2 := hide (fun (hs : src.length ≤ 1000) (ht : text.length ≤ 1000) W => refTerms15_any t lv src text W (by omega) (by omega))
  have HLen := hide (terms_len text src)
  rw [hw0] at C0
  obtain ⟨g, hg⟩ : ∃ g, g = w.heap.size := ⟨_, rfl⟩
  unfold MadeTx at C1 C2
  unfold recV at C1 C2 ⊢
  generalize termsE text src = res at *
  clear hB hT hE0 hW0 hw0
  go_enter Try.func5, Try.ntmps5
  go_wp2_with fail
  rw [← HWd.out] at C0 ⊢
  refine C0.mono ?_
  rintro e w1 ⟨rfl, hE1⟩
  have hW1 := HW0.out.ext hE1
  rw [← hg] at hW1 ⊢
  have HE1 := hide (HE0.out.trans hE1)
  clear C0 hE1 hg
  by_cases ht : 1000 < text.length
  · have htI : (1000 : Int) < (text.length : Int) := by omega
    have hd0 : decide ((1000 : Int) < (text.length : Int)) = true := decide_eq_true htI
    have s0 := hW1.at 3 (u := .string ⟨text.toArray⟩) rfl
    have s1 := hW1.at 2 (u := .string ⟨src.toArray⟩) rfl
    go_wp2_with fail
    go_quiet (fail)
    go_wp2
    go_ret
    exact ⟨rfl, HE1.out.drewN _⟩
  have htI : ¬ (1000 : Int) < (text.length : Int) := by omega
  by_cases hs : 1000 < src.length
  · have hsI : (1000 : Int) < (src.length : Int) := by omega
    have hd0 : decide ((1000 : Int) < (text.length : Int)) = false := decide_eq_false htI
    have hd1 : decide ((1000 : Int) < (src.length : Int)) = true := decide_eq_true hsI
    have s0 := hW1.at 3 (u := .string ⟨text.toArray⟩) rfl
    have s1 := hW1.at 2 (u := .string ⟨src.toArray⟩) rfl
    go_wp2_with fail
    go_quiet (fail)
    go_wp2
    go_ret
    exact ⟨rfl, HE1.out.drewN _⟩
  have hsI : ¬ (1000 : Int) < (src.length : Int) := by omega
  have C1 := hide (fun W (hE : Ext w1 W) => C1.out (by omega) (by omega) W (HE1.out.trans hE))
  have C2 := hide (fun W => C2.out (by omega) (by omega) W)
  go_wp2_with fail
  refine wp_region_T (fun W => Ext w1 W) 17 18 #[false, false, false, false, false, false, false, false, false, false, false, false, false, false, false, false, false, false] (by kernel_rfl) rfl rfl (Ext.refl w1).drew ?_
  intro hS0
  refine wpAnyT_take 0 (some 5) (.pointer (some ⟨g, 3, none⟩)) #[true, false, false, false, false, false, false, false, false, false, false, false, false, false, false, false, false, false] rfl rfl rfl (by kernel_rfl) (fun _ _ _ h => h) hS0 (by rfl) (fun W hX => by have s0 := (hW1.ext hX).at 3 (u := .string ⟨text.toArray⟩) rfl; have s1 := (hW1.ext hX).at 2 (u := .string ⟨src.toArray⟩) rfl; go_simp) ?_
  simp only [Act.put, List.setIfInBounds_toArray, List.set_cons_zero, List.set_cons_succ]
  refine wpAnyT_take 1 (some 6) (.string ⟨text.toArray⟩) #[true, true, false, false, false, false, false, false, false, false, false, false, false, false, false, false, false, false] rfl rfl rfl (by kernel_rfl) (fun _ _ _ h => h) hS0 (by rfl) (fun W hX => by have s0 := (hW1.ext hX).at 3 (u := .string ⟨text.toArray⟩) rfl; have s1 := (hW1.ext hX).at 2 (u := .string ⟨src.toArray⟩) rfl; go_simp) ?_
  simp only [Act.put, List.setIfInBounds_toArray, List.set_cons_zero, List.set_cons_succ]
  refine wpAnyT_take 2 (some 7) (.int .i64 (text.length : Int)) #[true, true, true, false, false, false, false, false, false, false, false, false, false, false, false, false, false, false] rfl rfl rfl (by kernel_rfl) (fun _ _ _ h => h) hS0 (by rfl) (fun W hX => by have s0 := (hW1.ext hX).at 3 (u := .string ⟨text.toArray⟩) rfl; have s1 := (hW1.ext hX).at 2 (u := .string ⟨src.toArray⟩) rfl; go_simp) ?_
  simp only [Act.put, List.setIfInBounds_toArray, List.set_cons_zero, List.set_cons_succ]
  refine wpAnyT_take 3 (some 8) (.bool false) #[true, true, true, true, false, false, false, false, false, false, false, false, false, false, false, false, false, false] rfl rfl rfl (by kernel_rfl) (fun _ _ _ h => h) hS0 (by rfl) (fun W hX => by have s0 := (hW1.ext hX).at 3 (u := .string ⟨text.toArray⟩) rfl; have s1 := (hW1.ext hX).at 2 (u := .string ⟨src.toArray⟩) rfl; go_simp) ?_
  simp only [Act.put, List.setIfInBounds_toArray, List.set_cons_zero, List.set_cons_succ]
  refine wpAnyT_take 4 (some 9) (.bool false) #[true, true, true, true, true, false, false, false, false, false, false, false, false, false, false, false, false, false] rfl rfl rfl (by kernel_rfl) (fun _ _ _ h => h) hS0 (by rfl) (fun W hX => by have s0 := (hW1.ext hX).at 3 (u := .string ⟨text.toArray⟩) rfl; have s1 := (hW1.ext hX).at 2 (u := .string ⟨src.toArray⟩) rfl; go_simp) ?_
  simp only [Act.put, List.setIfInBounds_toArray, List.set_cons_zero, List.set_cons_succ]
  refine wpAnyT_take 5 (some 10) (.pointer (some ⟨g, 2, none⟩)) #[true, true, true, true, true, true, false, false, false, false, false, false, false, false, false, false, false, false] rfl rfl rfl (by kernel_rfl) (fun _ _ _ h => h) hS0 (by rfl) (fun W hX => by have s0 := (hW1.ext hX).at 3 (u := .string ⟨text.toArray⟩) rfl; have s1 := (hW1.ext hX).at 2 (u := .string ⟨src.toArray⟩) rfl; go_simp) ?_
  simp only [Act.put, List.setIfInBounds_toArray, List.set_cons_zero, List.set_cons_succ]
  refine wpAnyT_take 6 (some 11) (.string ⟨src.toArray⟩) #[true, true, true, true, true, true, true, false, false, false, false, false, false, false, false, false, false, false] rfl rfl rfl (by kernel_rfl) (fun _ _ _ h => h) hS0 (by rfl) (fun W hX => by have s0 := (hW1.ext hX).at 3 (u := .string ⟨text.toArray⟩) rfl; have s1 := (hW1.ext hX).at 2 (u := .string ⟨src.toArray⟩) rfl; go_simp) ?_
  simp only [Act.put, List.setIfInBounds_toArray, List.set_cons_zero, List.set_cons_succ]
  refine wpAnyT_take 7 (some 12) (.int .i64 (src.length : Int)) #[true, true, true, true, true, true, true, true, false, false, false, false, false, false, false, false, false, false] rfl rfl rfl (by kernel_rfl) (fun _ _ _ h => h) hS0 (by rfl) (fun W hX => by have s0 := (hW1.ext hX).at 3 (u := .string ⟨text.toArray⟩) rfl; have s1 := (hW1.ext hX).at 2 (u := .string ⟨src.toArray⟩) rfl; go_simp) ?_
  simp only [Act.put, List.setIfInBounds_toArray, List.set_cons_zero, List.set_cons_succ]
  refine wpAnyT_take 8 (some 13) (.bool false) #[true, true, true, true, true, true, true, true, true, false, false, false, false, false, false, false, false, false] rfl rfl rfl (by kernel_rfl) (fun _ _ _ h => h) hS0 (by rfl) (fun W hX => by have s0 := (hW1.ext hX).at 3 (u := .string ⟨text.toArray⟩) rfl; have s1 := (hW1.ext hX).at 2 (u := .string ⟨src.toArray⟩) rfl; go_simp) ?_
  simp only [Act.put, List.setIfInBounds_toArray, List.set_cons_zero, List.set_cons_succ]
  refine wpAnyT_take 9 (some 14) (.bool false) #[true, true, true, true, true, true, true, true, true, true, false, false, false, false, false, false, false, false] rfl rfl rfl (by kernel_rfl) (fun _ _ _ h => h) hS0 (by rfl) (fun W hX => by have s0 := (hW1.ext hX).at 3 (u := .string ⟨text.toArray⟩) rfl; have s1 := (hW1.ext hX).at 2 (u := .string ⟨src.toArray⟩) rfl; go_simp) ?_
  simp only [Act.put, List.setIfInBounds_toArray, List.set_cons_zero, List.set_cons_succ]
  refine wpAnyT_take 10 (some 15) (.bool false) #[true, true, true, true, true, true, true, true, true, true, true, false, false, false, false, false, false, false] rfl rfl rfl (by kernel_rfl) (fun _ _ _ h => h) hS0 (by rfl) (fun W hX => by have s0 := (hW1.ext hX).at 3 (u := .string ⟨text.toArray⟩) rfl; have s1 := (hW1.ext hX).at 2 (u := .string ⟨src.toArray⟩) rfl; go_simp) ?_
  simp only [Act.put, List.setIfInBounds_toArray, List.set_cons_zero, List.set_cons_succ]
  refine wpAnyT_take 11 (some 16) (.agg #[.int .u64 t, .int .u8 lv, .string ⟨src.toArray⟩, .string ⟨text.toArray⟩]) #[true, true, true, true, true, true, true, true, true, true, true, true, false, false, false, false, false, false] rfl rfl rfl (by kernel_rfl) (fun _ _ _ h => h) hS0 (by rfl) (fun W hX => by exact exec_loadR 31 (.tmp 1) rfl g rfl [.int .u64 t, .int .u8 lv, .string ⟨src.toArray⟩, .string ⟨text.toArray⟩] (hW1.ext hX) Try.underlying31 rfl rec_size) ?_
  simp only [Act.put, List.setIfInBounds_toArray, List.set_cons_zero, List.set_cons_succ]
  refine wpAnyT_take 13 (some 18) (.agg #[.int .u64 t, .int .u8 lv, .string ⟨src.toArray⟩, .string ⟨text.toArray⟩]) #[true, true, true, true, true, true, true, true, true, true, true, true, false, true, false, false, false, false] rfl rfl rfl (by kernel_rfl) (fun _ _ _ h => h) hS0 (by rfl) (fun W hX => by exact exec_loadR 31 (.tmp 1) rfl g rfl [.int .u64 t, .int .u8 lv, .string ⟨src.toArray⟩, .string ⟨text.toArray⟩] (hW1.ext hX) Try.underlying31 rfl rec_size) ?_
  simp only [Act.put, List.setIfInBounds_toArray, List.set_cons_zero, List.set_cons_succ]
  refine wpAnyT_only 12 #[true, true, true, true, true, true, true, true, true, true, true, true, true, true, false, false, false, false] (by kernel_rfl) rfl rfl (by rfl) (fun K0 hK0 => ?_)
  go_simp
  go_at_call 18
  refine (C1.out _ hS0).mono ?_
  rintro e w2 ⟨A2, c2, rfl, _, _, h2, hE2⟩
  have hS2 := hS0.trans hE2
  refine hK0 _ _ (fun _ => hS2) ?_
  clear hK0 K0
  refine wpAnyT_only 14 #[true, true, true, true, true, true, true, true, true, true, true, true, true, true, true, false, false, false] (by kernel_rfl) rfl rfl (by rfl) (fun K1 hK1 => ?_)
  go_simp
  go_at_call 19
  refine (C2.out _).mono ?_
  rintro e w3 ⟨A3, c3, rfl, _, _, h3, hE3⟩
  have hS3 := hS2.trans hE3
  have CS := refSame15_any A2 A3 c2 c3 res res w3 (h2.later hE3) h3 (by have := HLen.out; omega)
  rw [decide_eq_true rfl] at CS
  refine hK1 _ _ (fun _ => hS3) ?_
  clear hK1 K1
  refine wpAnyT_only 15 #[true, true, true, true, true, true, true, true, true, true, true, true, true, true, true, true, false, false] (by kernel_rfl) rfl rfl (by rfl) (fun K2 hK2 => ?_)
  go_simp
  go_at_call 11
  refine CS.mono ?_
  rintro e w4 ⟨rfl, hE4⟩
  have hS4 := hS3.trans hE4
  refine hK2 _ _ (fun _ => hS4) ?_
  clear hK2 K2
  refine wpAnyT_only 16 #[true, true, true, true, true, true, true, true, true, true, true, true, true, true, true, true, true, false] (by kernel_rfl) rfl rfl (by rfl) (fun K3 hK3 => ?_)
  go_simp
  refine hK3 _ _ (fun _ => hS4) ?_
  clear hK3 K3
  refine wpAnyT_only 17 #[true, true, true, true, true, true, true, true, true, true, true, true, true, true, true, true, true, true] (by kernel_rfl) rfl rfl (by rfl) (fun K4 hK4 => ?_)
  go_simp
  refine hK4 _ _ (fun h => absurd h (by decide)) (wpAnyT_done (by kernel_rfl) ?_ _)
  clear hK4 K4
  go_wp2
  go_ret
  exact ⟨rfl, HE1.out.trans hS4⟩
end Go.Proofs.Ytnkiopfpcddliaa
