/- LzBack and LzMay, under what the program tells. -/
import Derived.Test.YtklofjgfecpkiaaLzLaw
import Derived.Test.YtklofjgfecpkiaaRegTail
namespace Go.Proofs.Ytklofjgfecpkiaa
open Go.RowKit Lz

set_option maxHeartbeats 2000000 in
set_option maxRecDepth 100000 in
theorem lzBack_walk0 (m : Nat) (A : Option Addr) (n c : Nat) (b : List UInt8) (w : World) (hF : FindC w) (hP : PlayC w) (hm : m ≤ 65535) (hn : n ≤ c) (hc : c ≤ maxLen) (h : Bytes w w.heap.size A n b) :
    Calls Try.prog 4 #[.slice A n c, .int .u16 (m : Int)] w fun e w' => e = .returned (.bool true) ∧ Ext w w' := by
  have C0 := alive10_any hF (Ext.refl w)
  by_cases hbig : 3000 < n
  · have hbI : (3000 : Int) < (n : Int) := by omega
    go_enter Try.func4, Try.ntmps4
    go_wp2_with fail
    refine C0.mono ?_
    rintro e w1 ⟨rfl, hE1⟩
    go_wp2
    go_ret
    exact ⟨rfl, hE1⟩
  have hbI : ¬ (3000 : Int) < (n : Int) := by omega
  have hl := h.1
  subst hl
  have hlen := toks_len b 0
  have hok := toks_ok b 0
  have HPB := hide (play_found b)
  have H := hide h
  have HF := hide hF
  have HP := hide hP
  clear h hF hP
  go_enter Try.func4, Try.ntmps4
  go_wp2_with fail
  refine C0.mono ?_
  rintro e w1 ⟨rfl, hE1⟩
  have C1 := HF.out b A b.length c w1 hE1 hn hc (by omega) (hE1.bytes H.out)
  unfold MadeTk at C1
  clear C0
  have HPL := hide (show playE (toks b 0) (b.length : Int) = (b, 0) by rw [HPB.out _ (by omega), if_pos (by omega)])
  generalize toks b 0 = L at *
  go_wp2_with fail
  refine C1.mono ?_
  rintro e w2 ⟨v2, rfl, hO2, hE2⟩
  have hF2 := hE1.trans hE2
  obtain ⟨A2, c2, rfl, h2c, h2m, h2⟩ := hO2.at hok
  have C2 := HP.out L (b.length : Int) A2 L.length c2 w2 hF2 h2c h2m (by omega) h2 (by omega) (by omega)
  unfold PlayTo at C2
  rw [HPL.out] at C2
  have H2 := hide h2
  have hLb : (L.length : Int) ≤ (b.length : Int) := by omega
  clear C1 hO2 h2 hok
  go_wp2_with fail
  refine C2.mono ?_
  rintro e w3 ⟨v3, rfl, hO3, hE3⟩
  have hF3 := hF2.trans hE3
  obtain ⟨A3, c3, rfl, _, _, h3⟩ := hO3.form
  dsimp only at h3 ⊢
  have CS := same_any A3 A b.length b.length c3 c b b w3 h3 (hF3.bytes H.out)
  rw [sameB_true rfl] at CS
  clear C2 hO3 h3
  go_wp2_with fail
  refine CS.mono ?_
  rintro e w4 ⟨rfl, hE4⟩
  have hF4 := hF3.trans hE4
  have C4 := HP.out L (m : Int) A2 L.length c2 w4 hF4 h2c h2m (by omega) (H2.out.later (hE3.trans hE4)) (by omega) (by omega)
  unfold PlayTo at C4
  rw [HPB.out _ (by omega)] at C4
  clear CS
  by_cases hmb : (b.length : Int) ≤ (m : Int)
  · rw [if_pos hmb] at C4
    have hmb' : ¬ (m : Int) < (b.length : Int) := by omega
    go_wp2_with fail
    refine C4.mono ?_
    rintro e w5 ⟨v5, rfl, hO5, hE5⟩
    have hF5 := hF4.trans hE5
    obtain ⟨A5, c5, rfl, _, _, h5⟩ := hO5.form
    dsimp only at h5 ⊢
    have CS := same_any A5 A b.length b.length c5 c b b w5 h5 (hF5.bytes H.out)
    rw [sameB_true rfl] at CS
    clear C4 hO5 h5
    go_wp2_with fail
    refine CS.mono ?_
    rintro e w6 ⟨rfl, hE6⟩
    go_wp2
    go_ret
    exact ⟨rfl, hF5.trans hE6⟩
  · rw [if_neg hmb] at C4
    have hmb' : (m : Int) < (b.length : Int) := by omega
    go_wp2_with fail
    refine C4.mono ?_
    rintro e w5 ⟨v5, rfl, hO5, hE5⟩
    obtain ⟨A5, c5, rfl, _, _, h5⟩ := hO5.form
    have hnl : ([] : List UInt8).length = 0 := rfl
    dsimp only at h5 ⊢
    rw [hnl]
    clear C4 hO5 h5 hnl
    go_wp2
    go_ret
    exact ⟨rfl, hF4.trans hE5⟩

set_option maxHeartbeats 2000000 in
set_option maxRecDepth 100000 in
theorem lzMay_walk0 (t : TokV) (A : Option Addr) (n c : Nat) (b : List UInt8) (w : World) (hF : FindC w) (hM : TMayC w) (ht : t.ok) (hn : n ≤ c) (hc : c ≤ maxLen) (h : Bytes w w.heap.size A n b) :
    Calls Try.prog 6 #[tokV t, .slice A n c] w fun e w' => e = .returned (.bool true) ∧ Ext w w' := by
  have hE1 := extNew w (.cells #[.int .u8 (t.lit.toNat : Int), .int .i64 t.len, .int .i64 t.dist] 36)
  have hW1 := Whole.new w 36 #[.int .u8 (t.lit.toNat : Int), .int .i64 t.len, .int .i64 t.dist]
  have C0 := alive10_any hF hE1
  have CM := fun (W : World) (hE : Ext w W) => hM t W hE ht
  have CR := fun (W : World) => refTMay_any t W
  have hok := toks_ok b 0
  have hmay := toks_may b 0
  have hlen := toks_len b 0
  have hl := h.1
  have H := hide h
  have HF := hide hF
  unfold tokV at CM CR ⊢
  clear h hF hM ht
  generalize may t = mt at *
  generalize t.lit.toNat = y at *
  generalize t.len = tn at *
  generalize t.dist = td at *
  go_enter Try.func6, Try.ntmps6
  go_wp2_with fail
  refine C0.mono ?_
  rintro e w2 ⟨rfl, hE2⟩
  have hF2 := hE1.trans hE2
  have hW2 := hW1.ext hE2
  clear C0 hE1 hW1
  have CM2 := fun (W : World) (hX : Ext w2 W) => CM W (hF2.trans hX)
  clear CM
  go_wp2_with fail
  refine wp_region_T (fun W => Ext w2 W) 4 5 #[false, false, false, false, false] (by kernel_rfl) rfl rfl (Ext.refl w2).drew ?_
  intro hS0
  refine wpAnyT_take 0 (some 9) (.agg #[.int .u8 (y : Int), .int .i64 tn, .int .i64 td]) #[true, false, false, false, false] rfl rfl rfl (by kernel_rfl) (fun _ _ _ h => h) hS0 (by rfl) (fun W hX => by have s0 := (hW2.ext hX).at 0 (u := .int .u8 (y : Int)) rfl; have s1 := (hW2.ext hX).at 1 (u := .int .i64 tn) rfl; have s2 := (hW2.ext hX).at 2 (u := .int .i64 td) rfl; go_simp) ?_
  simp only [Act.put, List.setIfInBounds_toArray, List.set_cons_zero, List.set_cons_succ]
  refine wpAnyT_take 2 (some 11) (.agg #[.int .u8 (y : Int), .int .i64 tn, .int .i64 td]) #[true, false, true, false, false] rfl rfl rfl (by kernel_rfl) (fun _ _ _ h => h) hS0 (by rfl) (fun W hX => by have s0 := (hW2.ext hX).at 0 (u := .int .u8 (y : Int)) rfl; have s1 := (hW2.ext hX).at 1 (u := .int .i64 tn) rfl; have s2 := (hW2.ext hX).at 2 (u := .int .i64 td) rfl; go_simp) ?_
  simp only [Act.put, List.setIfInBounds_toArray, List.set_cons_zero, List.set_cons_succ]
  refine wpAnyT_only 1 #[true, true, true, false, false] (by kernel_rfl) rfl rfl (by rfl) (fun K0 hK0 => ?_)
  go_simp
  go_at_call 16
  refine (CM2 _ hS0).mono ?_
  rintro e wc0 ⟨rfl, hC0⟩
  have hX0 := hS0.trans hC0
  refine hK0 _ _ (fun _ => hX0) ?_
  clear hK0 K0
  refine wpAnyT_only 3 #[true, true, true, true, false] (by kernel_rfl) rfl rfl (by rfl) (fun K1 hK1 => ?_)
  go_simp
  go_at_call 17
  refine (CR _).mono ?_
  rintro e wc1 ⟨rfl, hC1⟩
  have hX1 := hX0.trans hC1
  refine hK1 _ _ (fun _ => hX1) ?_
  clear hK1 K1
  refine wpAnyT_only 4 #[true, true, true, true, true] (by kernel_rfl) rfl rfl (by rfl) (fun K2 hK2 => ?_)
  go_simp
  refine hK2 _ _ (fun h => absurd h (by decide)) (wpAnyT_done (by kernel_rfl) ?_ _)
  clear hK2 K2
  have hF3 := hF2.trans hX1
  clear CM2 CR hC0 hX0 hC1 hS0 hW2 hX1
  by_cases hbig : 3000 < n
  · have hbI : (3000 : Int) < (n : Int) := by omega
    go_wp2
    go_ret
    exact ⟨rfl, hF3⟩
  have hbI : ¬ (3000 : Int) < (n : Int) := by omega
  have C1 := HF.out b A n c wc1 hF3 hn hc (by omega) (hF3.bytes H.out)
  unfold MadeTk at C1
  generalize toks b 0 = L at *
  go_wp2_with fail
  refine C1.mono ?_
  rintro e w4 ⟨v4, rfl, hO4, hE4⟩
  have hF4 := hF3.trans hE4
  obtain ⟨A4, c4, rfl, h4c, h4m, h4⟩ := hO4.at hok
  have H4 := hide h4
  have HMay := hide (show ∀ i, i < L.length → may (L.getD i default) = true from fun i hi => hmay _ (by
    rw [List.getD_eq_getElem?_getD, List.getElem?_eq_getElem hi]
    exact List.getElem_mem hi))
  have hLn : L.length ≤ 3000 := by omega
  clear C1 hO4 h4 hok hmay hE4 hE2 hF2 hF3
  go_wp2_with fail
  go_loopw [6] (fun x wr => ∃ i : Nat, i ≤ L.length ∧ x = .int .i64 (i : Int) ∧ Ext w4 wr) (fun x _ => L.length - (intOf x).toNat)
  case atStart => exact ⟨0, by omega, rfl, Ext.refl _⟩
  case round =>
    obtain ⟨i, hi, rfl, hE⟩ := hrel
    by_cases hlt : i < L.length
    · have hiI : (i : Int) < (L.length : Int) := by omega
      rcases (H4.out.later hE).2 with h0 | ⟨b1, o1, rfl, _, hc1⟩
      · omega
      obtain ⟨c0, c1', c2'⟩ := (hc1 i hlt).1.cells
      have CT := refTMay_any (L.getD i default) wr
      rw [HMay.out i hlt] at CT
      unfold tokV at CT
      clear hc1
      generalize (L.getD i default).lit.toNat = z at *
      generalize (L.getD i default).len = zn at *
      generalize (L.getD i default).dist = zd at *
      go_wp2_with fail
      refine CT.mono ?_
      rintro e w5 ⟨rfl, hE5⟩
      clear CT
      go_wp2
      go_roundw
      case rel => exact ⟨i + 1, by omega, by go_num, hE.trans hE5⟩
      case measure => simp [intOf]; omega
    · obtain rfl : L.length = i := by omega
      go_wp2
      go_ret
      exact ⟨rfl, hF4.trans hE⟩
end Go.Proofs.Ytklofjgfecpkiaa
