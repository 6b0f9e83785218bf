/- The program's lz.longest: the token of the bytes from a place on, along the trail. -/
import Derived.Test.YtklofjgfecpkiaaLzPLong
import Derived.Test.YtklofjgfecpkiaaLzPMath
import Derived.Test.YtklofjgfecpkiaaLzRefPlay
namespace Go.Proofs.Ytklofjgfecpkiaa
open Go.RowKit Lz

/-- A token's cells. -/
def tokA (t : TokV) : Array Value := #[.int .u8 (t.lit.toNat : Int), .int .i64 t.len, .int .i64 t.dist]
theorem tok_size : (Try.prog.info? 36).map (·.size) = some 3 := by kernel_rfl
theorem tokA_one (t : TokV) : (tokA t).all (·.oneCell') = true := by simp [tokA, Value.oneCell']
/-- The trail, as it lies in block g. -/
def TrailAt (w : World) (g : Nat) (b : List UInt8) : Prop := ∀ p, p < b.length → w.cell? ⟨g, p, none⟩ = some (.int .u16 (backAt b p : Int))
theorem TrailAt.ext {w W : World} {g : Nat} {b : List UInt8} (h : TrailAt w g b) (hE : Ext w W) (hg : g < w.heap.size) : TrailAt W g b := fun p hp => by rw [hE.cell hg]; exact h p hp

theorem Lz.longer_call {w : World} {A : Option Addr} {n c : Nat} {b : List UInt8} (h : Bytes w w.heap.size A n b) (hn : n ≤ 100000) (hnc : n ≤ c) {p2 q d k : Nat} (hp : q - d = p2) (hd : d ≤ q) (hk : k < min 257 (n - q)) (W : World) (hE : Ext w W) :
    Calls Try.prog 23 #[.slice A n c, .int .i64 (p2 : Int), .int .i64 (q : Int), .int .i64 (k : Int)] W fun e w' => e = .returned (.bool (decide (k < run b q d))) ∧ Ext W w' := by
  have hl := h.1
  subst hl
  subst hp
  rw [← longer_iff hd hk]
  exact lzLonger_any A _ c b (q - d) q k W hn hnc (by omega) (by omega) (hE.bytes h)
theorem Lz.same_call {w : World} {A : Option Addr} {n c : Nat} {b : List UInt8} (h : Bytes w w.heap.size A n b) (hn : n ≤ 100000) {p2 q d k most : Nat} (hp : q - d = p2) (hd : d ≤ q) (hq : q < n) (hm : most = min 257 (n - q)) (hk : k < run b q d) (W : World) (hE : Ext w W) :
    Calls Try.prog 24 #[.slice A n c, .int .i64 (p2 : Int), .int .i64 (q : Int), .int .i64 ((k : Int) + 1), .int .i64 (most : Int)] W fun e w' => e = .returned (.int .i64 (run b q d : Int)) ∧ Ext W w' := by
  have hl := h.1
  subst hl
  subst hp
  have hr := run_most (b := b) d hq
  have e : runF b q (q - (q - d)) (most - (k + 1)) (k + 1) = run b q d := by
    rw [show q - (q - d) = d by omega, run_cut hm _ _ (by omega), run_from (by omega) fun j hj => run_same (by omega)]
  have C := lzSame_any A _ c b (q - d) q (k + 1) most W hn (by omega) (by omega) (by omega) (hE.bytes h)
  rw [e] at C
  exact C

set_option maxHeartbeats 4000000 in
set_option maxRecDepth 100000 in
theorem lzLongest_any (A : Option Addr) (n c : Nat) (b : List UInt8) (g c2 q : Nat) (w : World) (hn : n ≤ 100000) (hnc : n ≤ c) (hq : q < n) (h : Bytes w w.heap.size A n b) (hg : g < w.heap.size) (hT : TrailAt w g b) :
    Calls Try.prog 20 #[.slice A n c, .slice (some ⟨g, 0, none⟩) n c2, .int .i64 (q : Int)] w fun e w' => e = .returned (tokV (tokAt b q)) ∧ Ext w w' := by
  have hl := h.1
  subst hl
  have HT := hide (fun W (hE : Ext w W) => hT.ext hE hg)
  obtain ⟨most, hmost⟩ : ∃ m, m = min 257 (b.length - q) := ⟨_, rfl⟩
  have HMost := hide hmost
  have hMI : (if (b.length : Int) - (q : Int) < 257 then (b.length : Int) - (q : Int) else 257) = (most : Int) := by split <;> omega
  rcases h.2 with h0 | ⟨b1, o1, rfl, hb1, hc⟩
  · omega
  have hcq := (((extNew w (.cells #[.int .u8 0, .int .i64 0, .int .i64 0] 36)).bytes h).2).resolve_left (by omega)
  have HB := hide h
  have hqI : (q : Int) < (b.length : Int) := by omega
  have hc0 := hc q hq
  have hc1 : (w.alloc (.cells #[.int .u8 0, .int .i64 0, .int .i64 0] 36)).cell? ⟨b1, o1 + q, none⟩ = some (.int .u8 ((b.getD q 0).toNat : Int)) := by
    rw [(extNew w _).cell hb1]; exact hc0
  obtain ⟨yq, hyq⟩ : ∃ y, y = (b.getD q 0).toNat := ⟨_, rfl⟩
  have hcy : yq < 256 := by rw [hyq]; exact UInt8.toNat_lt _
  rw [← hyq] at hc1
  have HTok := hide (show tokA (tokR b q (best b q 0)) = #[.int .u8 (yq : Int), .int .i64 0, .int .i64 0] by rw [hyq]; rfl)
  have hR1 := (Whole.new w 36 #[.int .u8 0, .int .i64 0, .int .i64 0]).alloc (.cells #[.int .u8 (yq : Int), .int .i64 0, .int .i64 0] 36)
  have hT1 := Whole.new (w.alloc (.cells #[.int .u8 0, .int .i64 0, .int .i64 0] 36)) 36 #[.int .u8 (yq : Int), .int .i64 0, .int .i64 0]
  rw [show (w.alloc (.cells #[.int .u8 0, .int .i64 0, .int .i64 0] 36)).heap.size = w.heap.size + 1 by simp] at hT1
  have hE1 := (extNew w (.cells #[.int .u8 0, .int .i64 0, .int .i64 0] 36)).trans (extNew _ (.cells #[.int .u8 (yq : Int), .int .i64 0, .int .i64 0] 36))
  have HR1 := hide hR1
  have HT1 := hide hT1
  have HE1 := hide hE1
  clear hR1 hT1 hE1 hcq hc0 hc h hT hyq hmost
  go_enter Try.func20, Try.ntmps20
  go_wp2_with (refine wpList_min rfl (.const (.int .i64 257)) (.tmp 14) rfl rfl rfl hMI ?_)
  go_loopw [9, 10] (fun x y wr => ∃ m : Nat, m ≤ min 4095 q ∧ x = .int .i64 (longV (best b q m) : Int) ∧ y = .int .i64 ((q - m : Nat) : Int) ∧ three b (q - m) = three b q ∧ Whole wr w.heap.size 36 #[.int .u8 0, .int .i64 0, .int .i64 0] ∧ Whole wr (w.heap.size + 1) 36 (tokA (tokR b q (best b q m))) ∧ Ext w wr) (fun _ y _ => (intOf y).toNat)
  case atStart => exact ⟨0, by omega, rfl, by rw [Nat.sub_zero], by rw [Nat.sub_zero], HR1.out, by rw [HTok.out]; exact HT1.out, HE1.out⟩
  case round =>
    clear HR1 HT1 HE1 HTok hc1 hcy
    obtain ⟨m, hm, rfl, rfl, h3, hR, hT, hE⟩ := hrel
    have hbk := HT.out wr hE (q - m) (by omega)
    have hbl := back_le b (q - m)
    have hpn : q - m < b.length := by omega
    have hlg := (long_ge (best b q m)).1
    have HEz := hide (end_zero h3 hm)
    have HEm := hide (end_most hq hm)
    have HEf := hide (end_far h3 hm)
    have HLess := hide (next_less h3 (by omega))
    have HMore := hide (show 0 < backAt b (q - m) → longV (best b q m) < run b q (m + backAt b (q - m)) → longV (best b q (m + backAt b (q - m))) = run b q (m + backAt b (q - m)) ∧ tokR b q (best b q (m + backAt b (q - m))) = ⟨0, (run b q (m + backAt b (q - m)) : Int), ((m + backAt b (q - m) : Nat) : Int)⟩ from fun h1 h2 => by
      have hl2 := (long_ge (best b q m)).1
      rw [next_more h3 (by omega) h1 h2]
      unfold longV tokR
      rw [if_pos (by dsimp only; omega), if_pos (by dsimp only; omega)]
      exact ⟨rfl, rfl⟩)
    have HThree := hide (next_three h3)
    have HPos := hide (show 0 < backAt b (q - m) → backAt b (q - m) ≤ q - m from fun h => (back_pos h).2.2.1)
    rw [← HMost.out] at HEm
    obtain ⟨p, hp⟩ : ∃ p, p = q - m := ⟨_, rfl⟩
    have HP := hide hp
    rw [← hp] at hbk hbl HEz HEf HLess HMore HThree HPos hpn ⊢
    generalize backAt b p = gk at *
    generalize longV (best b q m) = lg at *
    generalize tokR b q (best b q m) = t at *
    obtain ⟨tl, tn, td⟩ := t
    have c0 := hT.at 0 rfl
    have c1 := hT.at 1 rfl
    have c2 := hT.at 2 rfl
    change wr.cell? ⟨w.heap.size + 1, 0, none⟩ = some (.int .u8 (tl.toNat : Int)) at c0
    change wr.cell? ⟨w.heap.size + 1, 1, none⟩ = some (.int .i64 tn) at c1
    change wr.cell? ⟨w.heap.size + 1, 2, none⟩ = some (.int .i64 td) at c2
    have hone := tokA_one ⟨tl, tn, td⟩
    unfold tokA at hone
    dsimp only at hone
    have HWT := hide hT
    clear hp hT h3
    by_cases h0 : gk = 0
    · have hEnd := hide (HEz.out h0)
      subst h0
      change wr.cell? ⟨g, p, none⟩ = some (.int .u16 0) at hbk
      clear HEz HEm HEf HLess HMore HThree HPos HWT HP hbl
      go_wp2_with (refine wpList_storeW rfl 36 (.tmp 6) (.tmp 60) rfl rfl rfl hR rfl tok_size hone ?_; intro w5 hW5 hG5 _)
      refine bodyPost_ret (results_cell_row rfl _ _ _ _ _ _ _ rfl hW5 Try.underlying36 rfl tok_size) rfl ?_
      exact ⟨by rw [← hEnd.out]; rfl, Below.grown hE hG5 hE.le (fun k hk => by cases hk; omega)⟩
    · have hg0 : 0 < gk := by omega
      have hgI : (0 : Int) < (gk : Int) := by omega
      by_cases hlm : lg < most
      · have hlmI : (lg : Int) < (most : Int) := by omega
        have hgp := HPos.out hg0
        obtain ⟨p2, hp2⟩ : ∃ p2, p2 = p - gk := ⟨_, rfl⟩
        have hp2I : (p : Int) - (gk : Int) = (p2 : Int) := by omega
        obtain ⟨d, hd⟩ : ∃ d, d = m + gk := ⟨_, rfl⟩
        have hpm := HP.out
        have hdI : (q : Int) - (p2 : Int) = (d : Int) := by omega
        have hq2 : q - d = p2 := by omega
        have hdq : d ≤ q := by omega
        have hdm : m < d := by omega
        have hp2p : p2 < p := by omega
        have CL := hide (fun W hE => longer_call (c := c) HB.out hn hnc (k := lg) hq2 hdq (by rw [← HMost.out]; exact hlm) W hE)
        have CS := hide (fun W hE hk => same_call (c := c) (k := lg) HB.out hn hq2 hdq hq HMost.out hk W hE)
        rw [← hd] at HEf HLess HMore HThree
        rw [hq2] at HThree
        have HEf2 := hide (HEf.out hg0)
        have HLess2 := hide (HLess.out hg0)
        have HMore2 := hide (HMore.out hg0)
        have HThree2 := hide (HThree.out hg0)
        have HD := hide hq2
        have HMon := hide (show run b q d ≤ 257 from run_le)
        generalize run b q d = rn at *
        clear HEz HEm HEf HLess HMore HThree HPos hd hp2 hpm hq2 HP
        by_cases hfar : 4095 < d
        · have hfarI : (4095 : Int) < (d : Int) := by omega
          have hEnd := hide (HEf2.out hfar)
          clear HEf2 HLess2 HMore2 HThree2 CL CS HWT HD
          go_wp2_with (refine wpList_storeW rfl 36 (.tmp 6) (.tmp 60) rfl rfl rfl hR rfl tok_size hone ?_; intro w5 hW5 hG5 _)
          refine bodyPost_ret (results_cell_row rfl _ _ _ _ _ _ _ rfl hW5 Try.underlying36 rfl tok_size) rfl ?_
          exact ⟨by rw [← hEnd.out]; rfl, Below.grown hE hG5 hE.le (fun k hk => by cases hk; omega)⟩
        · have hfarI : ¬ (4095 : Int) < (d : Int) := by omega
          clear HEf2
          go_wp2_with fail
          refine (CL.out _ hE).mono ?_
          rintro e w2 ⟨rfl, hE2⟩
          have hF2 := hE.trans hE2
          have hR2 := hR.ext hE2
          have hT2 := HWT.out.ext hE2
          clear HWT hR hE hE2 c0 c1 c2 hbk CL
          by_cases hlr : lg < rn
          · obtain ⟨hm1, hm2⟩ := HMore2.out hlr
            have HM1 := hide hm1
            have HM2 := hide hm2
            have C2 := hide (CS.out w2 hF2 hlr)
            have hlrd : decide (lg < rn) = true := decide_eq_true hlr
            rw [hlrd]
            clear HMore2 HLess2 hm1 hm2 CS hlrd
            have hone3 : (#[Value.int .u8 0, .int .i64 (rn : Int), .int .i64 (d : Int)] : Array Value).all (·.oneCell') = true := by simp [Value.oneCell']
            go_wp2_with fail
            refine C2.out.mono ?_
            rintro e w3 ⟨rfl, hE3⟩
            have hF3 := hF2.trans hE3
            have hR3 := hR2.ext hE3
            have hT3 := hT2.ext hE3
            clear C2 hE3 hF2 hR2 hT2 w2
            go_wp2_with (refine wpList_storeW rfl 36 (.tmp 8) (.tmp 59) rfl rfl rfl hT3 rfl tok_size hone3 ?_; intro w5 hW5 hG5 _)
            have hF5 : Ext w w5 := Below.grown hF3 hG5 hF3.le (fun k hk => by cases hk; omega)
            have hR5 := hR3.grown hG5 (by omega)
            clear hG5 hF3 hR3 hT3
            simp only [Act.put]
            go_roundw
            case rel => exact ⟨d, by omega, by rw [HM1.out], by rw [HD.out], by rw [HD.out]; exact HThree2.out, hR5, by rw [HM2.out]; exact hW5, hF5⟩
            case measure => simp [intOf]; omega
          · obtain ⟨hm1, hm2⟩ := HLess2.out (by omega)
            have HM1 := hide hm1
            have HM2 := hide hm2
            have hlrd : decide (lg < rn) = false := decide_eq_false hlr
            rw [hlrd]
            clear HMore2 HLess2 hm1 hm2 CS hlrd
            go_wp2_with fail
            go_roundw
            case rel => exact ⟨d, by omega, by rw [HM1.out], by rw [HD.out], by rw [HD.out]; exact HThree2.out, hR2, by rw [HM2.out]; exact hT2, hF2⟩
            case measure => simp [intOf]; omega
      · have hlmI : ¬ (lg : Int) < (most : Int) := by omega
        have hEnd := hide (HEm.out (by omega))
        clear HEz HEm HEf HLess HMore HThree HPos HWT HP hbl
        go_wp2_with (refine wpList_storeW rfl 36 (.tmp 6) (.tmp 60) rfl rfl rfl hR rfl tok_size hone ?_; intro w5 hW5 hG5 _)
        refine bodyPost_ret (results_cell_row rfl _ _ _ _ _ _ _ rfl hW5 Try.underlying36 rfl tok_size) rfl ?_
        exact ⟨by rw [← hEnd.out]; rfl, Below.grown hE hG5 hE.le (fun k hk => by cases hk; omega)⟩
end Go.Proofs.Ytklofjgfecpkiaa
