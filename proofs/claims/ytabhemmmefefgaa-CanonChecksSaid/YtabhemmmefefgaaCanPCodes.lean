/- Contract of the program's Codes. -/
import Derived.Test.YtabhemmmefefgaaCanPCount
namespace Go.Proofs.Ytabhemmmefefgaa
open Go.RowKit Len Can

theorem wpList_makeH {ops : Array Oper} {rest : List Oper} {o : Oper} {a : Act} {Q : Exit → Act → World → Prop} {w : World} (hgd : o.guard = none) (x y : Operand) (ho : o.op = .makeSlice 27 x y) {n : Nat} (hx : a.eval x = .int .i64 (n : Int)) (hy : a.eval y = .int .i64 (n : Int)) (hn : n ≤ 1000)
    (h : ∀ w', OwnH w' w.heap.size (.slice (some ⟨w.heap.size, 0, none⟩) n n) (List.replicate n 0) → Ext w w' → wpList Try.prog ops Q rest (a.put o.dst (.slice (some ⟨w.heap.size, 0, none⟩) n n)) w') : wpList Try.prog ops Q (o :: rest) a w := by
  obtain ⟨i, hi, hz, hsz, hby⟩ := info_parts h16_info
  refine wpList_make_full w hgd x y 27 ho w.heap.size 30 i _ 1 Try.underlying27 hi hz hsz .i64 .i64 _ _ n hx hy rfl rfl (by rw [hby]; omega) (by unfold maxLen; omega) (Nat.le_refl _) ?_
  intro w' h1 h2
  refine h w' ?_ (Below.grown (Ext.refl w) h2 (Nat.le_refl _) fun k hk => by cases hk)
  unfold OwnH
  have e : (madeCells (Value.int .u16 0).cells (n * 1)).toList = (List.replicate n (0 : Nat)).map h16V := by
    have : madeCells (Value.int .u16 0).cells n = ((List.replicate n (0 : Nat)).map h16V).toArray := by
      apply Array.ext
      · simp [size_madeCells]
      · intro i h1 h2
        simp [madeCells, Value.cells, h16V, Nat.mod_one]
    rw [Nat.mul_one, this]
  rw [e] at h1
  simpa using h1
/-- The words that come next, of each length, ahead of symbol s. -/
def Can.nextF (l : List UInt8) (s k : Nat) : Nat := if k = 0 then 0 else fst l k + cnt l s k
theorem Can.next_none (l : List UInt8) : h16A (fst l) = h16A (nextF l 0) := rfl
theorem Can.next_pass (l : List UInt8) {s : Nat} (h : lenAt l s = 0) : h16A (nextF l s) = h16A (nextF l (s + 1)) := by
  congr 1
  funext k
  unfold nextF
  by_cases h0 : k = 0
  · rw [if_pos h0, if_pos h0]
  · rw [if_neg h0, if_neg h0, cnt_succ, if_neg (by omega), Nat.add_zero]
theorem Can.next_step (l : List UInt8) {s : Nat} (hs : s < l.length) (h : lenAt l s ≠ 0) : nextF l s (lenAt l s) = word l s ∧ (h16A (nextF l s)).setIfInBounds (lenAt l s) (.int .u16 ((word l s + 1 : Nat) : Int)) = h16A (nextF l (s + 1)) := by
  have e : nextF l s (lenAt l s) = word l s := by
    unfold nextF
    rw [if_neg h, word_fst l hs h]
  refine ⟨e, h16A_set _ _ _ _ fun j _ => ?_⟩
  by_cases hj : j = lenAt l s
  · rw [if_pos hj, ← e, hj]
    unfold nextF
    rw [if_neg h, if_neg h, cnt_succ, if_pos rfl]
    omega
  · rw [if_neg hj]
    unfold nextF
    by_cases h0 : j = 0
    · rw [if_pos h0, if_pos h0]
    · rw [if_neg h0, if_neg h0, cnt_succ, if_neg (fun e => hj e.symm), Nat.add_zero]

set_option maxHeartbeats 2000000 in
set_option maxRecDepth 100000 in
theorem codes_any (A : Option Addr) (n c : Nat) (l : List UInt8) (w : World) (h : Bytes w w.heap.size A n l) : Calls Try.prog 13 #[.slice A n c] w (TellsH w (codesE l)) := by
  have C := countOut_any A n c l w h
  unfold Counted at C
  have hl := h.1
  subst hl
  have HZ := hide cntV_zero
  have hsz := cntV_size (outF l)
  have hone := cntV_one (outF l)
  have hinf : (Try.prog.info? 58).map (·.size) = some (cntV (outF l)).size := by rw [hsz]; exact cnt_info
  have hss : (cntV (outF l)).size = (cntV fun _ => 0).size := by rw [hsz, cntV_size]
  rw [HZ.out] at hss
  cases hr : right l with
  | false =>
    have HN := hide (show codesE l = ([], 7) by unfold codesE; rw [hr]; rfl)
    rw [check_wrong hr] at C
    clear hr h
    generalize cntV (outF l) = V at *
    go_enter Try.func13, Try.ntmps13
    go_wp2_with fail
    refine C.mono ?_
    rintro e w2 ⟨rfl, hE⟩
    have hM := Whole.new w2 58 (cntV fun _ => 0)
    have hE2 := hE.alloc (.cells (cntV fun _ => 0) 58)
    rw [HZ.out] at hM hE2
    go_wp2_with (refine wpList_storeW rfl 58 (.tmp 4) (.tmp 13) rfl rfl rfl hM hss hinf hone ?_; intro w5 hW5 hG5 _)
    go_ret2
    rw [HN.out]
    exact ⟨_, rfl, OwnH.nil _ _, Below.grown hE2 hG5 hE2.le (fun k hk => by cases hk; exact hE.le)⟩
  | true =>
    have HN := hide (show codesE l = (codesL l, 0) by unfold codesE; rw [hr]; rfl)
    rw [check_right hr] at C
    obtain ⟨h300, h15, _⟩ := right_facts hr
    have HF := fun W => cFirsts_any l hr W
    have HO : outF l = cnt l l.length := by unfold outF; rw [hr]; rfl
    rw [← HO] at HF
    have HLt := hide (show ∀ s, s < l.length → word l s < 32768 from fun s hs => word_lt hr hs)
    have H15 := hide h15
    have HNone := hide (codesTo_none l)
    have HAll := hide (codesTo_all l)
    have HLen := hide (codesTo_len l)
    have HSet := hide (codesTo_set l)
    have HPass := hide (show ∀ s, lenAt l s = 0 → codesTo l s = codesTo l (s + 1) from fun s hs => codesTo_pass l hs)
    have HNx0 := hide (next_none l)
    have HNxP := hide (show ∀ s, lenAt l s = 0 → h16A (nextF l s) = h16A (nextF l (s + 1)) from fun s hs => next_pass l hs)
    have HNxS := hide (show ∀ s, s < l.length → lenAt l s ≠ 0 → nextF l s (lenAt l s) = word l s ∧ (h16A (nextF l s)).setIfInBounds (lenAt l s) (.int .u16 ((word l s + 1 : Nat) : Int)) = h16A (nextF l (s + 1)) from fun s hs h => next_step l hs h)
    have HSzA := hide (show ∀ f, (h16A f).size = 16 from h16A_size)
    have HAtA := hide (show ∀ f k, k < 16 → (h16A f)[k]? = some (.int .u16 ((f k : Nat) : Int)) from fun f k h => h16A_at f h)
    have honeF := h16A_one (fst l)
    have hinfF : (Try.prog.info? 63).map (·.size) = some (h16A (fst l)).size := by rw [h16A_size]; exact f16_info
    have hssF : (h16A (fst l)).size = (#[.int .u16 0, .int .u16 0, .int .u16 0, .int .u16 0, .int .u16 0, .int .u16 0, .int .u16 0, .int .u16 0, .int .u16 0, .int .u16 0, .int .u16 0, .int .u16 0, .int .u16 0, .int .u16 0, .int .u16 0, .int .u16 0] : Array Value).size := by rw [h16A_size]; rfl
    have hl300 : l.length ≤ 1000 := by omega
    clear hr h15 HO hsz
    generalize cntV (outF l) = V at *
    obtain ⟨F, hFe⟩ : ∃ F, F = h16A (fst l) := ⟨_, rfl⟩
    rw [← hFe] at HF hinfF hssF honeF
    have HFe := hide hFe
    clear hFe
    go_enter Try.func13, Try.ntmps13
    go_wp2_with fail
    refine C.mono ?_
    rintro e w2 ⟨rfl, hE⟩
    have hM := Whole.new w2 58 (cntV fun _ => 0)
    have hE2 := hE.alloc (.cells (cntV fun _ => 0) 58)
    rw [HZ.out] at hM hE2
    have hle := hE.le
    clear C hE
    go_wp2_with (first
      | (refine wpList_storeW rfl 58 (.tmp 4) (.tmp 13) rfl rfl rfl hM hss hinf hone ?_; intro w5 hW5 hG5 hS5; clear hS5)
      | (refine wpList_load_row rfl 58 (.tmp 4) rfl _ rfl _ _ _ _ hW5 Try.underlying58 rfl hinf ?_))
    have hF5 : Ext w w5 := Below.grown hE2 hG5 hE2.le (fun k hk => by cases hk; exact hle)
    clear hE2 hG5 hM
    refine (HF _).mono ?_
    rintro e w6 ⟨rfl, hE6⟩
    have hF6 := hF5.trans hE6
    have hM6 := Whole.new w6 63 #[.int .u16 0, .int .u16 0, .int .u16 0, .int .u16 0, .int .u16 0, .int .u16 0, .int .u16 0, .int .u16 0, .int .u16 0, .int .u16 0, .int .u16 0, .int .u16 0, .int .u16 0, .int .u16 0, .int .u16 0, .int .u16 0]
    have hF7 := hF6.alloc (.cells #[.int .u16 0, .int .u16 0, .int .u16 0, .int .u16 0, .int .u16 0, .int .u16 0, .int .u16 0, .int .u16 0, .int .u16 0, .int .u16 0, .int .u16 0, .int .u16 0, .int .u16 0, .int .u16 0, .int .u16 0, .int .u16 0] 63)
    have hle6 := hF6.le
    clear hF5 hE6 hF6 HF
    obtain ⟨g6, hg6⟩ : ∃ g, g = w6.heap.size := ⟨_, rfl⟩
    rw [← hg6] at hM6 hle6
    have Hg6 := hide hg6
    clear hg6
    go_wp2_with (first
      | (refine wpList_storeW rfl 63 (.tmp 6) (.tmp 19) rfl (by rw [Hg6.out]; rfl) rfl hM6 hssF hinfF honeF ?_; intro w7 hW7 hG7 hS7; clear hS7)
      | (refine wpList_makeH (n := l.length) rfl (.tmp 21) (.tmp 21) rfl rfl rfl hl300 ?_; intro w8 hO8 hE8))
    have hF7' : Ext w w7 := Below.grown hF7 hG7 hF7.le (fun k hk => by cases hk; exact hle6)
    have hF8 := hF7'.trans hE8
    clear hF7'
    have hW8 := hW7.ext hE8
    have hlt7 := hW7.lt
    have hle7 : w.heap.size ≤ w7.heap.size := by omega
    rw [HFe.out, HNx0.out] at hW8
    rw [← HNone.out] at hO8
    rw [← Hg6.out]
    generalize w7.heap.size = g7 at *
    have hg67 : g6 ≠ g7 := by omega
    clear hE8 hW7 hG7 hF7 hM6 hssF hinfF honeF hss hinf hone hW5 Hg6 HFe
    go_loopw [25] (fun x wr => ∃ s : Nat, s ≤ l.length ∧ x = .int .i64 (s : Int) ∧ Whole wr g6 63 (h16A (nextF l s)) ∧ OwnH wr w.heap.size (.slice (some ⟨g7, 0, none⟩) l.length l.length) (codesTo l s) ∧ Ext w wr) (fun x _ => l.length - (intOf x).toNat)
    case atStart => exact ⟨0, by omega, rfl, hW8, hO8.mono hle7, hF8⟩
    case round =>
      clear hW8 hO8 hF8
      obtain ⟨s, hs, rfl, hW, hO, hE⟩ := hrel
      by_cases hlt : s < l.length
      · rcases (hE.bytes h).2 with h0 | ⟨b, o, rfl, hB, hc⟩
        · omega
        have hk := hc s hlt
        have hy15 := H15.out s hlt
        have hP := HPass.out s
        have hNP := HNxP.out s
        have hNS := HNxS.out s hlt
        have hx := HLt.out s hlt
        obtain ⟨y, hy⟩ : ∃ y, y = lenAt l s := ⟨_, rfl⟩
        have hk2 : wr.cell? ⟨b, o + s, none⟩ = some (.int .u8 (y : Int)) := by rw [hy]; exact hk
        rw [← hy] at hP hNP hNS hy15
        have hil : (s : Int) < (l.length : Int) := by omega
        clear hc hy hk
        by_cases y0 : y = 0
        · have HP := hide (hP y0)
          have HNP := hide (hNP y0)
          clear hP hNP hNS
          subst y0
          go_wp2
          go_roundw
          case rel => exact ⟨s + 1, by omega, by go_num, by rw [← HNP.out]; exact hW, by rw [← HP.out]; exact hO, hE⟩
          case measure => simp [intOf]; omega
        · obtain ⟨hn1, hn2⟩ := hNS y0
          have hSt := HSet.out s
          have hcx := hW.at y (HAtA.out _ y (by omega))
          rw [hn1] at hcx
          have hO' := hO
          have hlenO := HLen.out s
          rw [← hlenO] at hO'
          obtain ⟨k1, k2⟩ := hO'.cell (i := s) (by rw [hlenO]; exact hlt)
          have hO2 := hO'.set s (word l s)
          rw [hSt, hlenO] at hO2
          have hW2 := hW.far (b := g7) hg67 s (.int .u16 ((word l s : Nat) : Int))
          have hcx2 := hW2.at y (HAtA.out _ y (by omega))
          rw [hn1] at hcx2
          have hsz := HSzA.out (nextF l s)
          have hsy : y < (h16A (nextF l s)).size := by rw [hsz]; omega
          have HSy := hide hsy
          have HN2 := hide hn2
          have HO2 := hide hO2
          have hb1 : (Try.prog.info? 30).map (·.size) = some 1 := by kernel_rfl
          have hE2 := hE.setCell (g := g7) (i := s) hle7 (.int .u16 ((word l s : Nat) : Int))
          have hgl : g7 < wr.heap.size := (hO.lt g7 rfl).2
          have hy0 : (0 : Int) < (y : Int) := by omega
          clear hP hNP hNS hn1 hn2 hSt hO' hlenO hO2 hsz hsy hO
          generalize word l s = x at *
          generalize (codesTo l s).getD s 0 = x0 at *
          obtain ⟨V1, hV1⟩ : ∃ V1, V1 = h16A (nextF l s) := ⟨_, rfl⟩
          rw [← hV1] at hW hW2 HSy HN2
          clear hV1
          obtain ⟨V2, hV2⟩ : ∃ V2, V2 = h16A (nextF l (s + 1)) := ⟨_, rfl⟩
          rw [← hV2] at HN2
          have HV2 := hide hV2
          clear hV2
          go_wp2_with (refine wpList_storeC rfl 30 (.tmp 42) (.tmp 41) rfl _ rfl rfl hW2 HSy.out hb1 rfl rfl HN2.out ?_; intro w9 hW9 hG9)
          go_roundw
          case rel =>
            have hO9 := World.ownsRow.kept HO2.out hG9 (by simp [Value.ownBlock]; omega)
            exact ⟨s + 1, by omega, by go_num, by rw [← HV2.out]; exact hW9, hO9, Below.grown hE2 hG9 hE2.le (fun k hk => by cases hk; exact hle6)⟩
          case measure => simp [intOf]; omega
      · obtain rfl : l.length = s := by omega
        rw [HAll.out] at hO
        have HO := hide hO
        clear hO
        go_wp2
        go_ret2
        rw [HN.out]
        exact ⟨_, rfl, HO.out, hE⟩
theorem codesC_any (w : World) : CodesC w := fun l A n c W _ _ _ hb => codes_any A n c l W hb
end Go.Proofs.Ytabhemmmefefgaa
