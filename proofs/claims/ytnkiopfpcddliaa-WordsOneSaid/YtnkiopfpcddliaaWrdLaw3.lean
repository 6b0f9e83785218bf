/- WordsEach, WordsJoin. -/
import Derived.Test.YtnkiopfpcddliaaWrdLaw
namespace Go.Proofs.Ytnkiopfpcddliaa
open Go.RowKit Wrd

attribute [local go_sem ↓] run_txtAt run_txtLen run_txtCut
theorem run_atAddT (W : World) (l : List UInt8) (hl : l.length ≤ 8388608) : (Op.stringOp .add ⟨#[64]⟩ ⟨l.toArray⟩).run Try.prog W = .ok (.string ⟨(64 :: l).toArray⟩) W :=
  run_string_add_lists (P := Try.prog) W [64] l (by simp) (by omega)
set_option maxHeartbeats 1000000 in
set_option maxRecDepth 10000 in
theorem wordsEach_walk0 (l : List UInt8) (wh : Int) (w : World) (hB : WWordsC w) (hO : WOneC w) (hT : WTermC w) (hw0 : 0 ≤ wh) (hw1 : wh ≤ 65535) : Calls Try.prog 6 #[.string ⟨l.toArray⟩, .int .u16 wh] w fun e w' => e = .returned (.bool true) ∧ Ext w w' := by
  have C0 := alive15_any hB (Ext.refl w)
  by_cases hbig : 2000 < l.length
  · have hbI : (2000 : Int) < (l.length : Int) := by omega
    clear hB hO hT
    go_enter Try.func6, Try.ntmps6
    go_wp2_with fail
    refine C0.mono ?_
    rintro e w1 ⟨rfl, hE1⟩
    go_wp2
    go_ret
    exact ⟨rfl, hE1⟩
  have hbI : ¬ (2000 : Int) < (l.length : Int) := by omega
  have C1 := hide (fun W hE => hB l W hE (by omega))
  have HEach := hide (fun z (hz : z ∈ wordsE l) => words_each hz)
  have HB := hide hB
  have HO := hide hO
  have HT := hide hT
  unfold MadeTx at C1
  generalize wordsE l = ws at *
  obtain ⟨k, rfl⟩ : ∃ k : Nat, wh = (k : Int) := ⟨wh.toNat, by omega⟩
  clear hB hO hT
  go_enter Try.func6, Try.ntmps6
  go_wp2_with fail
  refine C0.mono ?_
  rintro e w1 ⟨rfl, hE1⟩
  have CC := C1.out w1 hE1
  have HE1 := hide hE1
  clear C0 hE1
  go_wp2_with fail
  refine CC.mono ?_
  rintro e w2 ⟨A2, c2, rfl, p1, p2, h2, hE2⟩
  have HE2 := hide (HE1.out.trans hE2)
  obtain ⟨n, hn⟩ : ∃ n, n = ws.length := ⟨_, rfl⟩
  have h22 := h2.2
  rw [← hn] at h22 p1 ⊢
  clear CC hE2 h2
  rcases Nat.eq_zero_or_pos n with h0 | h0
  · have hz : ((n : Int) == 0) = true := by simp [h0]
    clear h22 h0 p1
    go_wp2
    go_ret
    exact ⟨rfl, HE2.out⟩
  have hz : ((n : Int) == 0) = false := by rw [beq_eq_false_iff_ne]; omega
  have hnI : ¬ (n : Int) = 0 := by omega
  obtain ⟨i, hi⟩ : ∃ i, i = k % n := ⟨_, rfl⟩
  have hin : i < n := by rw [hi]; exact Nat.mod_lt _ h0
  have hinI : (i : Int) < (n : Int) := by omega
  have hik : i ≤ k := by rw [hi]; exact Nat.mod_le _ _
  have hq1 : (k : Int) % (n : Int) = (i : Int) := by rw [hi]; push_cast; rfl
  have hq2 : (k : Int).tmod (n : Int) = (i : Int) := by rw [Int.tmod_eq_emod_of_nonneg (by omega)]; exact hq1
  have hwk : IntKind.i64.wrap (k : Int) = (k : Int) := by rw [IntKind.wrap_i64]; omega
  have hwi : IntKind.i64.wrap (i : Int) = (i : Int) := by rw [IntKind.wrap_i64]; omega
  rcases h22 with hn0 | ⟨b1, o1, rfl, _, hc1⟩
  · omega
  have e1 := hc1 i hin
  have hword := HEach.out (ws.getD i []) (mem_at (by omega))
  obtain ⟨x, hx⟩ : ∃ x, x = ws.getD i [] := ⟨_, rfl⟩
  rw [← hx] at e1 hword
  have hx24 := hword.1.2
  have hxl : x.length ≤ maxLen := by unfold maxLen; omega
  have hx2 : (64 :: x).length ≤ maxLen := by unfold maxLen; simp; omega
  have D1 := HO.out x w2 HE2.out hxl
  unfold OneTo at D1
  rw [hword.one] at D1
  have D2 := hide (fun W (hE : Ext w W) => HB.out x W hE (by omega))
  rw [hword.words] at D2
  unfold MadeTx at D2
  have D3 := hide (fun W (hE : Ext w W) => HT.out x W hE hxl)
  rw [hword.term] at D3
  have D4 := hide (fun W (hE : Ext w W) => HT.out (64 :: x) W hE hx2)
  rw [hword.termAt] at D4
  have hadd := fun W => run_atAddT W x (by omega)
  have hbe : (x == x) = true := by simp
  clear hc1 hx hword hi hn hx2 hxl
  simp only at D1
  go_wp2_with fail
  refine D1.mono ?_
  rintro e w3 ⟨rfl, hE3⟩
  have HE3 := hide (HE2.out.trans hE3)
  have D2' := D2.out w3 HE3.out
  clear D1 hE3 e1
  go_wp2_with fail
  refine D2'.mono ?_
  rintro e w4 ⟨A4, c4, rfl, _, _, h4, hE4⟩
  have hX := extNew w4 (.cells #[.string ⟨x.toArray⟩] 9)
  have CS := refSame15_any A4 (some ⟨w4.heap.size, 0, none⟩) c4 1 [x] [x] _ (h4.later hX) (textsNew w4 [x] #[.string ⟨x.toArray⟩] 9 (0, 0) rfl 1 rfl) (by simp)
  rw [decide_eq_true rfl] at CS
  have HE4 := hide ((HE3.out.trans hE4).trans hX)
  clear D2' hE4 h4 hX
  go_wp2_with fail
  refine CS.mono ?_
  rintro e w5 ⟨rfl, hE5⟩
  have HE5 := hide (HE4.out.trans hE5)
  have D3' := D3.out w5 HE5.out
  clear CS hE5
  go_wp2_with fail
  refine D3'.mono ?_
  rintro e w6 ⟨rfl, hE6⟩
  have HE6 := hide (HE5.out.trans hE6)
  have D4' := D4.out w6 HE6.out
  clear D3' hE6
  go_wp2_with fail
  refine D4'.mono ?_
  rintro e w7 ⟨rfl, hE7⟩
  have HE7 := hide (HE6.out.trans hE7)
  clear D4' hE7
  go_wp2
  go_ret
  exact ⟨rfl, HE7.out⟩

set_option maxHeartbeats 1000000 in
set_option maxRecDepth 10000 in
theorem wordsJoin_walk0 (a : List UInt8) (c : UInt8) (b : List UInt8) (w : World) (hB : WWordsC w) : Calls Try.prog 8 #[.string ⟨a.toArray⟩, .int .u8 (c.toNat : Int), .string ⟨b.toArray⟩] w fun e w' => e = .returned (.bool true) ∧ Ext w w' := by
  have C0 := alive15_any hB (Ext.refl w)
  by_cases ha : 1000 < a.length
  · have haI : (1000 : Int) < (a.length : Int) := by omega
    clear hB
    go_enter Try.func8, Try.ntmps8
    go_wp2_with fail
    refine C0.mono ?_
    rintro e w1 ⟨rfl, hE1⟩
    go_wp2
    go_ret
    exact ⟨rfl, hE1⟩
  have haI : ¬ (1000 : Int) < (a.length : Int) := by omega
  by_cases hb : 1000 < b.length
  · have hbI : (1000 : Int) < (b.length : Int) := by omega
    clear hB
    go_enter Try.func8, Try.ntmps8
    go_wp2_with fail
    refine C0.mono ?_
    rintro e w1 ⟨rfl, hE1⟩
    go_wp2
    go_ret
    exact ⟨rfl, hE1⟩
  have hbI : ¬ (1000 : Int) < (b.length : Int) := by omega
  have CS := fun W => refSmall_any c W
  cases hL : isL c with
  | true =>
    have hz := small_ne hL
    generalize (small c).toNat = z at *
    have hzb : ((z : Int) != 0) = true := by rw [bne_iff_ne]; omega
    clear hB hL
    go_enter Try.func8, Try.ntmps8
    go_wp2_with fail
    refine C0.mono ?_
    rintro e w1 ⟨rfl, hE1⟩
    go_wp2_with fail
    refine (CS _).mono ?_
    rintro e w2 ⟨rfl, rfl⟩
    go_wp2
    go_ret
    exact ⟨rfl, hE1⟩
  | false =>
    have hz := small_zero hL
    generalize (small c).toNat = z at *
    have hzb : ((z : Int) != 0) = false := by rw [hz]; rfl
    obtain ⟨s1, hs1⟩ : ∃ s, s = a ++ [c] := ⟨_, rfl⟩
    obtain ⟨s2, hs2⟩ : ∃ s, s = s1 ++ b := ⟨_, rfl⟩
    have hl1 : s1.length = a.length + 1 := by rw [hs1]; simp
    have hl2 : s2.length = a.length + 1 + b.length := by rw [hs2, List.length_append, hl1]
    have hadd1 : ∀ W, (Op.stringOp .add ⟨a.toArray⟩ ⟨[c].toArray⟩).run Try.prog W = .ok (.string ⟨s1.toArray⟩) W := fun W => by rw [hs1]; exact run_string_add_lists W a [c] (by omega) (by simp)
    have hadd2 : ∀ W, (Op.stringOp .add ⟨s1.toArray⟩ ⟨b.toArray⟩).run Try.prog W = .ok (.string ⟨s2.toArray⟩) W := fun W => by rw [hs2]; exact run_string_add_lists W s1 b (by omega) (by omega)
    have HJ := hide (show wordsE s2 = wordsE a ++ wordsE b by rw [hs2, hs1, List.append_assoc]; exact words_join hL a b)
    have C1 := hide (fun W hE => hB a W hE (by omega))
    have C2 := hide (fun W hE => hB b W hE (by omega))
    have C3 := hide (fun W hE => hB s2 W hE (by omega))
    rw [HJ.out] at C3
    have HL1 := hide (words_len a)
    have HL2 := hide (words_len b)
    unfold MadeTx at C1 C2 C3
    generalize wordsE a = x1 at *
    generalize wordsE b = x2 at *
    clear hB hL hs1 hs2 hl1 hl2
    go_enter Try.func8, Try.ntmps8
    go_wp2_with fail
    refine C0.mono ?_
    rintro e w1 ⟨rfl, hE1⟩
    have HE1 := hide hE1
    have D1 := C1.out w1 hE1
    clear hE1 C0
    go_wp2_with fail
    refine (CS _).mono ?_
    rintro e w1' ⟨rfl, rfl⟩
    go_wp2_with fail
    refine D1.mono ?_
    rintro e w2 ⟨A2, c2, rfl, _, _, h2, hE2⟩
    have HE2 := hide (HE1.out.trans hE2)
    have D2 := C2.out w2 HE2.out
    have H2 := hide h2
    clear D1 hE2 h2
    go_wp2_with fail
    refine D2.mono ?_
    rintro e w3 ⟨A3, c3, rfl, _, _, h3, hE3⟩
    have HE3 := hide (HE2.out.trans hE3)
    have H2 := hide (H2.out.later hE3)
    have H3 := hide h3
    have hl1 : ([] : List (List UInt8)).length + x1.length ≤ 2000000 := by have := HL1.out; simp; omega
    have hl2 : ([] ++ x1 : List (List UInt8)).length + x2.length ≤ 2000000 := by have := HL1.out; have := HL2.out; simp; omega
    clear D2 hE3 h3
    go_wp2_with (first
      | (at_builtin; refine wpList_appTx (L := []) rfl (.tmp 29) (.tmp 30) rfl rfl (OwnTx.nil w3 w3.heap.size) rfl H2.out hl1 (Nat.le_refl _) ?_; intro v4 w4 hO4 hG4 hN4; have HO4 := hide hO4; have HE4 := hide (show Ext w3 w4 from Below.grown (Ext.refl _) hG4 (Nat.le_refl _) (fun k hk => by cases hk)); have HX4 := hide (H3.out.later HE4.out); clear hO4 hG4 hN4)
      | (at_builtin; refine wpList_appTx (L := [] ++ x1) rfl (.tmp 31) (.tmp 32) rfl rfl HO4.out rfl HX4.out hl2 HE4.out.le ?_; intro v5 w5 hO5 hG5 hN5; obtain ⟨A5, c5, rfl, -, -, q5⟩ := hO5.form; have HE5 := hide (HE3.out.trans (Below.grown HE4.out hG5 HE4.out.le (fun k hk => (HO4.out.lt k hk).1))); have HX5 := hide q5; have hcv := conv_bytes 1 (bytesNew w5 [c] #[.int .u8 (c.toNat : Int)] 5 (0, 0) rfl 1 rfl) (fun h => by cases h); clear hO5 hG5 hN5 q5))
    have hX := extNew w5 (.cells #[.int .u8 (c.toNat : Int)] 5)
    have D3 := C3.out _ (HE5.out.trans hX)
    have HE6 := hide (HE5.out.trans hX)
    have HX6 := hide (HX5.out.later hX)
    rw [List.nil_append] at HX6
    obtain ⟨x3, hx3⟩ : ∃ x, x = x1 ++ x2 := ⟨_, rfl⟩
    rw [← hx3] at D3 HX6
    rw [show x1.length + x2.length = x3.length by rw [hx3, List.length_append]]
    have hx3l : x3.length ≤ 140737488355328 := by rw [hx3, List.length_append]; have := HL1.out; have := HL2.out; omega
    clear hX hx3
    go_wp2_with fail
    refine D3.mono ?_
    rintro e w7 ⟨A7, c7, rfl, _, _, h7, hE7⟩
    have CE := refSame15_any A7 A5 c7 c5 x3 x3 w7 h7 (HX6.out.later hE7) hx3l
    rw [decide_eq_true rfl] at CE
    have HE7 := hide (HE6.out.trans hE7)
    clear D3 h7 hE7
    go_wp2_with fail
    refine CE.mono ?_
    rintro e w8 ⟨rfl, hE8⟩
    have HE8 := hide (HE7.out.trans hE8)
    clear CE hE8
    go_wp2
    go_ret
    exact ⟨rfl, HE8.out⟩
end Go.Proofs.Ytnkiopfpcddliaa
