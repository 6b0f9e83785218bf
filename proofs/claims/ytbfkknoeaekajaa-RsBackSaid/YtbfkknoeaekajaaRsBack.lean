/- The law RsBack. -/
import Derived.Test.YtbfkknoeaekajaaRsLaw
import Derived.Test.YtbfkknoeaekajaaRsOwnZ
namespace Go.Proofs.Ytbfkknoeaekajaa
open Go.RowKit

theorem OwnZ.formG {w : World} {base : Nat} {Ls : List Nat} {v : Value} {ls : List (List UInt8)} (h : OwnZ w base Ls v ls) {n : Nat} (hn : ls.length = n) (hl : 0 < n) : ∃ g cap, v = .slice (some ⟨g, 0, none⟩) n cap ∧ n ≤ cap ∧ cap ≤ maxLen := by
  subst hn
  obtain ⟨R, h1, _⟩ := h.own
  rcases h1.2 with ⟨_, h0⟩ | ⟨g, cap, _, rfl, hb, _, hn, hm, _⟩
  · omega
  · exact ⟨g, cap, rfl, hn, hm⟩
theorem OwnT.formG {w : World} {base : Nat} {v : Value} {L : List Bool} (h : OwnT w base v L) {n : Nat} (hn : L.length = n) (hl : 0 < n) : ∃ g cap, v = .slice (some ⟨g, 0, none⟩) n cap ∧ n ≤ cap := by
  subst hn
  rcases h.2 with ⟨_, h0⟩ | ⟨g, cap, _, rfl, hb, _, hn, hm, _⟩
  · omega
  · exact ⟨g, cap, rfl, hn⟩
theorem OwnT.cellT {w : World} {base g n c i : Nat} {L : List Bool} (h : OwnT w base (.slice (some ⟨g, 0, none⟩) n c) L) (hn : L.length = n) (hi : i < n) : w.cell? ⟨g, i, none⟩ = some (.bool (L.getD i false)) ∧ w.frozen? ⟨g, i, none⟩ = false := by
  subst hn
  refine ⟨?_, World.ownsRow.frozenAt h i⟩
  rw [World.ownsRow.cellAt h i (by omega)]
  simp [hi, List.getD_eq_getElem?_getD]
theorem OwnZ.cellZ {w : World} {base g n c i : Nat} {Ls : List Nat} {ls : List (List UInt8)} (h : OwnZ w base Ls (.slice (some ⟨g, 0, none⟩) n c) ls) (hn : ls.length = n) (hi : i < n) : ∃ x, w.cell? ⟨g, i, none⟩ = some x ∧ w.frozen? ⟨g, i, none⟩ = false := by
  subst hn
  obtain ⟨R, h1, _⟩ := h.own
  refine ⟨R i, ?_, World.ownsRow.frozenAt h1 i⟩
  rw [World.ownsRow.cellAt h1 i (by omega)]
  simp [hi]
theorem OwnZ.rowsAt {w : World} {base n c : Nat} {A : Option Addr} {Ls : List Nat} {ls : List (List UInt8)} (h : OwnZ w base Ls (.slice A n c) ls) : RowsAt w w.heap.size A ls.length ls := by
  obtain ⟨A', c', e, _, _, hR⟩ := h.toP.form
  simp only [Value.slice.injEq] at e
  obtain ⟨rfl, _, _⟩ := e
  exact hR
theorem OwnT.boolsAt {w : World} {base n c : Nat} {A : Option Addr} {L : List Bool} (h : OwnT w base (.slice A n c) L) : BoolsAt w w.heap.size A L.length L := by
  obtain ⟨A', c', e, _, hR⟩ := h.form
  simp only [Value.slice.injEq] at e
  obtain ⟨rfl, _, _⟩ := e
  exact hR

set_option maxHeartbeats 4000000 in
set_option maxRecDepth 100000 in
theorem rsBack_walk0 (m : Int) (A1 A2 A3 : Option Addr) (c1 c2 c3 : Nat) (data : List (List UInt8)) (sp byl : List UInt8) (w : World) (hM : MendC w) (hP : ParityC w) (hR : RightC w) (hm0 : 0 ≤ m) (hm1 : m ≤ 255)
    (h1 : RowsAt w w.heap.size A1 data.length data) (hc1 : data.length ≤ c1) (h2 : Bytes w w.heap.size A2 sp.length sp) (h3 : Bytes w w.heap.size A3 byl.length byl) (hc3 : byl.length ≤ c3) (hm3 : c3 ≤ maxLen) :
    Calls Try.prog 5 #[.int .u8 m, .slice A1 data.length c1, .slice A2 sp.length c2, .slice A3 byl.length c3] w fun e w' => e = .returned (.bool true) ∧ Below w.heap.size w w' := by
  have G1 := fun W hE => great6_any A1 c1 data W (h1.ext hE)
  obtain ⟨m, rfl⟩ := Int.eq_ofNat_of_zero_le hm0
  obtain ⟨p, hp⟩ : ∃ p : Nat, p = m % 9 := ⟨_, rfl⟩
  have hp9 : p ≤ 8 := by omega
  have ep : (m : Int) % 9 = (p : Int) := by omega
  have EP := hide ep
  clear hp ep
  go_enter Try.func5, Try.ntmps5
  go_wp2_with fail
  refine (alive6_any hM (Ext.refl w)).mono ?_
  rintro e w1 ⟨rfl, hE1⟩
  go_wp2_with fail
  refine (G1 _ hE1).mono ?_
  rintro e w2 ⟨b, rfl, hb, hE2⟩
  have hE12 := hE1.trans hE2
  rw [EP.out]
  clear EP
  cases b with
  | true =>
    go_wp2
    go_ret
    exact ⟨rfl, hE12⟩
  | false =>
    obtain ⟨f1, f2⟩ := hb rfl
    have HF2 := hide f2
    clear hb f2 G1
    by_cases hl1 : (data.length : Int) < 1
    · go_wp2
      go_ret
      exact ⟨rfl, hE12⟩
    by_cases hl12 : (12 : Int) < (data.length : Int)
    · go_wp2
      go_ret
      exact ⟨rfl, hE12⟩
    have L1 := fun W h => refAlike_any A1 c1 data W h (by omega)
    by_cases hal : alike data
    · simp only [decide_eq_true hal] at L1
      go_wp2_with fail
      refine (L1 _ (h1.ext hE12)).mono ?_
      rintro e w3 ⟨rfl, hE3⟩
      have hE13 := hE12.trans hE3
      clear L1
      by_cases hs30 : (30 : Int) < (sp.length : Int)
      · go_wp2
        go_ret
        exact ⟨rfl, hE13⟩
      by_cases hb40 : (40 : Int) < (byl.length : Int)
      · go_wp2
        go_ret
        exact ⟨rfl, hE13⟩
      have hdk : 1 ≤ data.length := by omega
      have hdk12 : data.length ≤ 12 := by omega
      have C1 := hP p A1 c1 data w3 hE13 (h1.ext hE13) hc1 (by omega) (fun i hi => by have := HF2.out i hi; omega)
      have HAL := hide hal
      obtain ⟨X, hX⟩ : ∃ X, X = codeL data.length (data.length + p) data := ⟨_, rfl⟩
      have hXl : X.length = data.length + p := by rw [hX, codeL_len]
      have HXd := hide (show ∀ i, i < data.length → X.getD i [] = data.getD i [] from fun i hi => by rw [hX]; exact codeL_data rfl HAL.out hi (by omega))
      have HX40 := hide (show ∀ i, i < data.length + p → (X.getD i []).length ≤ 40 from fun i hi => by rw [hX, codeL_at hi, rowB_len]; exact HF2.out 0 (by omega))
      rw [code_parity hdk (by omega) rfl hal, ← hX] at C1
      have HX := hide hX
      clear hX hal hl1 hl12 HF2
      obtain ⟨Y, hY⟩ : ∃ Y, Y = X.drop data.length := ⟨_, rfl⟩
      rw [← hY] at C1
      have hYl : Y.length = p := by rw [hY, List.length_drop]; omega
      have HY := hide (show ∀ i, i < p → X.getD (data.length + i) [] = Y.getD i [] from fun i _ => by rw [hY]; simp [List.getD_eq_getElem?_getD])
      clear hY
      have HXL := hide hXl
      have HYL := hide hYl
      have hne : ((Y.length : Int) != (p : Int)) = false := by rw [hYl]; simp
      clear hXl hYl
      go_wp2_with fail
      refine C1.mono ?_
      rintro e w4 ⟨v, rfl, hO4, hE4⟩
      obtain ⟨AY, cY, rfl, hcY, _, hRY⟩ := hO4.form
      have hE04 := hE13.trans hE4
      have hD4 := h1.ext hE04
      clear C1 hO4 hP hE4 hE13 hE3 hE12 hE2 hE1
      go_wp2_with fail
      go_loopw [12, 13, 14, 15] (fun a b c d wr => ∃ (j : Nat) (Ls : List Nat), j ≤ data.length + p ∧ d = .int .i64 (j : Int) ∧ (∀ k ∈ Ls, k < wr.heap.size) ∧ (∀ k ∈ Ls, w4.heap.size ≤ k) ∧ OwnZ wr w4.heap.size Ls a (X.take j) ∧ OwnZ wr w4.heap.size Ls b (X.take j) ∧ OwnT wr w4.heap.size c (List.replicate j true) ∧ (∀ k, c.ownBlock = some k → k ∈ Ls) ∧ Apart a b ∧ Apart a c ∧ Apart b c ∧ Ext w4 wr) (fun _ _ _ d _ => data.length + p - (intOf d).toNat)
      case atStart => exact ⟨0, [], by omega, rfl, fun _ h => (by cases h), fun _ h => (by cases h), OwnZ.nil _ _ _, OwnZ.nil _ _ _, OwnT.nil _ _, fun k hk => (by cases hk), apart_nil _, apart_nil _, apart_nil _, Ext.refl _⟩
      case round =>
        obtain ⟨j, Ls, hj, rfl, hLt, hLb, hZa, hZb, hT, hTb, hab, hac, hbc, hE⟩ := hrel
        by_cases hlt : j < data.length + p
        · have hj0 : (0 : Int) ≤ (j : Int) := by omega
          have hTk := hide (show X.take (j + 1) = X.take j ++ [X.getD j []] by rw [List.take_add_one]; congr 1; simp [List.getD_eq_getElem?_getD, List.getElem?_eq_getElem (show j < X.length by rw [HXL.out]; exact hlt)])
          have hx40 := HX40.out j hlt
          have hl1 : (X.take j).length ≤ 1000 := by rw [List.length_take]; omega
          have hlT : (List.replicate j true).length ≤ 1000 := by rw [List.length_replicate]; omega
          have hOb := OwnB.empty wr (Nat.le_refl wr.heap.size)
          have hsb : wr.heap.size ≤ (wr.alloc (.cells #[] 5)).heap.size := by rw [World.size_alloc]; omega
          have hl0 : ([] : List UInt8).length + (X.getD j []).length ≤ 140737488355328 := by rw [List.length_nil]; omega
          by_cases hjd : j < data.length
          · rcases (hD4.ext hE).2 with h0 | ⟨gd, od, rfl, hgd, hcd⟩
            · omega
            obtain ⟨x, kx, Ax, kkx, rfl, _, _, hBx0⟩ := hcd j hjd
            have kx' := ((extNew wr (.cells #[] 5)).cell (i := od + j) hgd).trans kx
            have hBx := (extNew wr (.cells #[] 5)).bytes hBx0
            have hj1 : (j : Int) < (data.length : Int) := by omega
            rw [← HXd.out j hjd] at kx' hBx
            clear hcd kx hBx0
            generalize X.getD j [] = xj at *
            go_wp2_with (first
              | (at_builtin; refine wpList_app rfl (.tmp 81) (.tmp 85) rfl rfl hOb rfl hBx hl0 hsb ?_; intro v1 w1 hO1 hG1; have hE1 : Ext wr w1 := Below.grown (extNew wr _) hG1 (by rw [World.size_alloc]; omega) (fun k hk => (hOb.lt k hk).1); rw [List.nil_append] at hO1; obtain ⟨Ab, cb, rfl, _, _, _⟩ := hO1.form; have hF1 := hE.trans hE1; have hr1 := hO1.row; have hc1' := Clr.new (NewX.own hO1) hLt; have hA1 := (hZa.ext hE1); have hB1 := (hZb.ext hE1); have hT1 := (hT.ext hE1); have hs1 := hF1.le; have hEa := extNew w1 (.cells #[.slice Ab xj.length cb] 35))
              | (at_builtin; refine wpList_appZ rfl (.tmp 96) (.tmp 98) rfl rfl hA1 hr1 hc1' rfl hl1 hs1 ?_; intro v2 w2 hA2 hG2 hN2; have hk2 : (w1.alloc (.cells #[.slice Ab xj.length cb] 35)).heap.size ≤ w1.heap.size + 1 := (by rw [World.size_alloc]; exact Nat.le_refl _); have ho2 : ∀ k, u12.ownBlock = some k → k ∈ (w1.heap.size + 1) :: Ls := fun k hk => List.mem_cons_of_mem _ (hZa.blk k hk); have hB2 := ((hB1.ext hEa).more hk2).kept hG2 ho2 hab.symm.row; have hT2 := (hT1.ext hEa).kept hG2 hac.symm.row; have hr2 := (hr1.ext hEa).grownZ (hc1'.more (hr1.ext hEa) hk2) hG2 ho2; have hc2' := hc1'.more (hr1.ext hEa) hk2; have hF2 : Ext w4 w2 := Below.grown (hF1.trans hEa) hG2 (hF1.trans hEa).le (fun k hk => (hZa.lt k hk).1); have hs2 := hF2.le; have hEb := extNew w2 (.cells #[.slice Ab xj.length cb] 35))
              | (at_builtin; refine wpList_appZ rfl (.tmp 100) (.tmp 102) rfl rfl hB2 hr2 hc2' rfl hl1 hs2 ?_; intro v3 w3 hB3 hG3 hN3; have hF3 : Ext w4 w3 := Below.grown (hF2.trans hEb) hG3 (hF2.trans hEb).le (fun k hk => (hZb.lt k hk).1); have hs3 := hF3.le; have hEc := extNew w3 (.cells #[.bool true] 4); have hk3 : (w2.alloc (.cells #[.slice Ab xj.length cb] 35)).heap.size ≤ w2.heap.size + 1 := (by rw [World.size_alloc]; exact Nat.le_refl _); have ho3 : ∀ k, u13.ownBlock = some k → k ∈ (w2.heap.size + 1) :: (w1.heap.size + 1) :: Ls := fun k hk => List.mem_cons_of_mem _ (List.mem_cons_of_mem _ (hZb.blk k hk)); have hab2 := hab.next hN2 (fun k hk => Nat.lt_succ_of_lt (hB1.lt k hk).2); have hac2 := hac.next hN2 (fun k hk => Nat.lt_succ_of_lt (hT1.lt k hk).2); have hA3 := ((hA2.ext hEb).more hk3).kept hG3 ho3 hab2.row; have hT3 := (hT2.ext hEb).kept hG3 hbc.symm.row; have hT3e := hT3.ext hEc)
              | (at_builtin; refine wpList_appT rfl (.tmp 104) (.tmp 105) rfl rfl true hT3e rfl hlT hs3 ?_; intro v4 w5 hT5 hG5 hN5))
            have hbc3 := hbc.next hN3 (fun k hk => Nat.lt_succ_of_lt (hT2.lt k hk).2)
            have hk5 : (w3.alloc (.cells #[.bool true] 4)).heap.size ≤ w3.heap.size + 1 := by rw [World.size_alloc]; exact Nat.le_refl _
            have ho5 : ∀ k, u14.ownBlock = some k → k ∈ (w3.heap.size + 1) :: (w2.heap.size + 1) :: (w1.heap.size + 1) :: Ls := fun k hk => List.mem_cons_of_mem _ (List.mem_cons_of_mem _ (List.mem_cons_of_mem _ (hTb k hk)))
            have hA5 := (((hA3.ext hEc).more hk5).kept hG5 ho5 hac2.row).trim
            have hB5 := (((hB3.ext hEc).more hk5).kept hG5 ho5 hbc3.row).trim
            have hF5 : Ext w4 w5 := Below.grown (hF3.trans hEc) hG5 (hF3.trans hEc).le (fun k hk => (hT.lt k hk).1)
            have hab3 := (hab2.symm.next hN3 (fun k hk => Nat.lt_succ_of_lt (hA2.lt k hk).2)).symm
            have hac3 := (hac2.symm.next hN5 (fun k hk => Nat.lt_succ_of_lt (hA3.lt k hk).2)).symm
            have hbc5 := (hbc3.symm.next hN5 (fun k hk => Nat.lt_succ_of_lt (hB3.lt k hk).2)).symm
            have hLb5 : ∀ k ∈ (w3.heap.size + 1) :: (w2.heap.size + 1) :: (w1.heap.size + 1) :: Ls, w4.heap.size ≤ k := fun k hk => by
              rcases List.mem_cons.1 hk with h | hk
              · omega
              rcases List.mem_cons.1 hk with h | hk
              · omega
              rcases List.mem_cons.1 hk with h | hk
              · omega
              exact hLb k hk
            have hTb5 : ∀ k, v4.ownBlock = some k → k ∈ ((w3.heap.size + 1) :: (w2.heap.size + 1) :: (w1.heap.size + 1) :: Ls).filter fun k => decide (k < w5.heap.size) := fun k hk => by
              rw [List.mem_filter]
              refine ⟨?_, by simpa using (hT5.lt k hk).2⟩
              rcases hN5 with h | h
              · exact ho5 k (h.symm.trans hk)
              · rw [hk] at h
                injection h with h
                rw [h]
                exact List.mem_cons_self
            rw [← hTk.out] at hA5 hB5
            rw [← List.replicate_succ'] at hT5
            go_roundw
            case rel => exact ⟨j + 1, _, by omega, by go_num, fun k hk => by simpa using (List.mem_filter.1 hk).2, fun k hk => hLb5 k (List.mem_filter.1 hk).1, hA5, hB5, hT5, hTb5, hab3, hac3, hbc5, hF5⟩
            case measure => simp [intOf]; omega
          · skip
            have hYj := HY.out (j - data.length) (by omega)
            rw [show data.length + (j - data.length) = j by omega] at hYj
            rcases (hRY.ext hE).2 with h0 | ⟨gd, od, rfl, hgd, hcd⟩
            · have := HYL.out; omega
            obtain ⟨x, kx, Ax, kkx, rfl, _, _, hBx0⟩ := hcd (j - data.length) (by have := HYL.out; omega)
            have kx' := ((extNew wr (.cells #[] 5)).cell (i := od + (j - data.length)) hgd).trans kx
            have hBx := (extNew wr (.cells #[] 5)).bytes hBx0
            have hj1 : ¬ (j : Int) < (data.length : Int) := by omega
            have hj2 : (0 : Int) ≤ (j : Int) - (data.length : Int) := by omega
            have hj3 : (j : Int) - (data.length : Int) < (Y.length : Int) := by have := HYL.out; omega
            have hj4 : ((j : Int) - (data.length : Int)).toNat = j - data.length := by omega
            rw [← hYj] at kx' hBx
            clear hcd kx hBx0 hYj
            generalize X.getD j [] = xj at *
            go_wp2_with (first
              | (at_builtin; refine wpList_app rfl (.tmp 87) (.tmp 94) rfl rfl hOb rfl hBx hl0 hsb ?_; intro v1 w1 hO1 hG1; have hE1 : Ext wr w1 := Below.grown (extNew wr _) hG1 (by rw [World.size_alloc]; omega) (fun k hk => (hOb.lt k hk).1); rw [List.nil_append] at hO1; obtain ⟨Ab, cb, rfl, _, _, _⟩ := hO1.form; have hF1 := hE.trans hE1; have hr1 := hO1.row; have hc1' := Clr.new (NewX.own hO1) hLt; have hA1 := (hZa.ext hE1); have hB1 := (hZb.ext hE1); have hT1 := (hT.ext hE1); have hs1 := hF1.le; have hEa := extNew w1 (.cells #[.slice Ab xj.length cb] 35))
              | (at_builtin; refine wpList_appZ rfl (.tmp 96) (.tmp 98) rfl rfl hA1 hr1 hc1' rfl hl1 hs1 ?_; intro v2 w2 hA2 hG2 hN2; have hk2 : (w1.alloc (.cells #[.slice Ab xj.length cb] 35)).heap.size ≤ w1.heap.size + 1 := (by rw [World.size_alloc]; exact Nat.le_refl _); have ho2 : ∀ k, u12.ownBlock = some k → k ∈ (w1.heap.size + 1) :: Ls := fun k hk => List.mem_cons_of_mem _ (hZa.blk k hk); have hB2 := ((hB1.ext hEa).more hk2).kept hG2 ho2 hab.symm.row; have hT2 := (hT1.ext hEa).kept hG2 hac.symm.row; have hr2 := (hr1.ext hEa).grownZ (hc1'.more (hr1.ext hEa) hk2) hG2 ho2; have hc2' := hc1'.more (hr1.ext hEa) hk2; have hF2 : Ext w4 w2 := Below.grown (hF1.trans hEa) hG2 (hF1.trans hEa).le (fun k hk => (hZa.lt k hk).1); have hs2 := hF2.le; have hEb := extNew w2 (.cells #[.slice Ab xj.length cb] 35))
              | (at_builtin; refine wpList_appZ rfl (.tmp 100) (.tmp 102) rfl rfl hB2 hr2 hc2' rfl hl1 hs2 ?_; intro v3 w3 hB3 hG3 hN3; have hF3 : Ext w4 w3 := Below.grown (hF2.trans hEb) hG3 (hF2.trans hEb).le (fun k hk => (hZb.lt k hk).1); have hs3 := hF3.le; have hEc := extNew w3 (.cells #[.bool true] 4); have hk3 : (w2.alloc (.cells #[.slice Ab xj.length cb] 35)).heap.size ≤ w2.heap.size + 1 := (by rw [World.size_alloc]; exact Nat.le_refl _); have ho3 : ∀ k, u13.ownBlock = some k → k ∈ (w2.heap.size + 1) :: (w1.heap.size + 1) :: Ls := fun k hk => List.mem_cons_of_mem _ (List.mem_cons_of_mem _ (hZb.blk k hk)); have hab2 := hab.next hN2 (fun k hk => Nat.lt_succ_of_lt (hB1.lt k hk).2); have hac2 := hac.next hN2 (fun k hk => Nat.lt_succ_of_lt (hT1.lt k hk).2); have hA3 := ((hA2.ext hEb).more hk3).kept hG3 ho3 hab2.row; have hT3 := (hT2.ext hEb).kept hG3 hbc.symm.row; have hT3e := hT3.ext hEc)
              | (at_builtin; refine wpList_appT rfl (.tmp 104) (.tmp 105) rfl rfl true hT3e rfl hlT hs3 ?_; intro v4 w5 hT5 hG5 hN5))
            have hbc3 := hbc.next hN3 (fun k hk => Nat.lt_succ_of_lt (hT2.lt k hk).2)
            have hk5 : (w3.alloc (.cells #[.bool true] 4)).heap.size ≤ w3.heap.size + 1 := by rw [World.size_alloc]; exact Nat.le_refl _
            have ho5 : ∀ k, u14.ownBlock = some k → k ∈ (w3.heap.size + 1) :: (w2.heap.size + 1) :: (w1.heap.size + 1) :: Ls := fun k hk => List.mem_cons_of_mem _ (List.mem_cons_of_mem _ (List.mem_cons_of_mem _ (hTb k hk)))
            have hA5 := (((hA3.ext hEc).more hk5).kept hG5 ho5 hac2.row).trim
            have hB5 := (((hB3.ext hEc).more hk5).kept hG5 ho5 hbc3.row).trim
            have hF5 : Ext w4 w5 := Below.grown (hF3.trans hEc) hG5 (hF3.trans hEc).le (fun k hk => (hT.lt k hk).1)
            have hab3 := (hab2.symm.next hN3 (fun k hk => Nat.lt_succ_of_lt (hA2.lt k hk).2)).symm
            have hac3 := (hac2.symm.next hN5 (fun k hk => Nat.lt_succ_of_lt (hA3.lt k hk).2)).symm
            have hbc5 := (hbc3.symm.next hN5 (fun k hk => Nat.lt_succ_of_lt (hB3.lt k hk).2)).symm
            have hLb5 : ∀ k ∈ (w3.heap.size + 1) :: (w2.heap.size + 1) :: (w1.heap.size + 1) :: Ls, w4.heap.size ≤ k := fun k hk => by
              rcases List.mem_cons.1 hk with h | hk
              · omega
              rcases List.mem_cons.1 hk with h | hk
              · omega
              rcases List.mem_cons.1 hk with h | hk
              · omega
              exact hLb k hk
            have hTb5 : ∀ k, v4.ownBlock = some k → k ∈ ((w3.heap.size + 1) :: (w2.heap.size + 1) :: (w1.heap.size + 1) :: Ls).filter fun k => decide (k < w5.heap.size) := fun k hk => by
              rw [List.mem_filter]
              refine ⟨?_, by simpa using (hT5.lt k hk).2⟩
              rcases hN5 with h | h
              · exact ho5 k (h.symm.trans hk)
              · rw [hk] at h
                injection h with h
                rw [h]
                exact List.mem_cons_self
            rw [← hTk.out] at hA5 hB5
            rw [← List.replicate_succ'] at hT5
            go_roundw
            case rel => exact ⟨j + 1, _, by omega, by go_num, fun k hk => by simpa using (List.mem_filter.1 hk).2, fun k hk => hLb5 k (List.mem_filter.1 hk).1, hA5, hB5, hT5, hTb5, hab3, hac3, hbc5, hF5⟩
            case measure => simp [intOf]; omega
        · obtain ⟨t, ht⟩ : ∃ t, t = data.length + p := ⟨_, rfl⟩
          have hjt : j = t := by omega
          subst hjt
          have hXt : X.length = j := by rw [HXL.out, ht]
          rw [List.take_of_length_le (by omega)] at hZa hZb
          have ht0 : 0 < j := by omega
          have ht20 : j ≤ 20 := by omega
          have hS0 := Spoil.start X
          rw [hXt] at hS0
          obtain ⟨ga, ca, rfl, hca, hma⟩ := hZa.formG hXt ht0
          obtain ⟨gb, cb, rfl, hcb, hmb⟩ := hZb.formG hXt ht0
          obtain ⟨gt, ct, rfl, hct⟩ := hT.formG List.length_replicate ht0
          have ea : gb ∈ Ls := hZb.blk gb rfl
          have et : gt ∈ Ls := hTb gt rfl
          have hab' : ga ≠ gb := fun e => hab ga rfl (by rw [e]; rfl)
          have hat' : ga ≠ gt := fun e => hac ga rfl (by rw [e]; rfl)
          have hbt' : gb ≠ gt := fun e => hbc gb rfl (by rw [e]; rfl)
          have hN0 : ∀ i, i < j → (X.getD i []).length ≤ 40 := fun i hi => HX40.out i (by omega)
          have hle4 := hE04.le
          have HRb := hide (show RowOf w w.heap.size (.slice A3 byl.length c3) byl from ⟨A3, c3, rfl, hc3, hm3, h3⟩)
          have hClb : Clr Ls (.slice A3 byl.length c3) := Clr.old HRb.out (fun k hk => by have := hLb k hk; omega)
          have HJ := hide ht
          have HXt := hide hXt
          have hltI : ¬ ((j : Int) < (data.length : Int) + (p : Int)) := by omega
          obtain ⟨w5, rfl⟩ : ∃ W, W = wr := ⟨_, rfl⟩
          clear hLt hTb hab hac hbc hlt hj h3 hD4 hRY ht hXt HY HXd
          go_wp2_with fail
          clear hltI
          go_loopw [17, 18] (fun a b wr => ∃ (i c : Nat) (N : List (List UInt8)) (G : List Bool), i ≤ sp.length ∧ b = .int .i64 (i : Int) ∧ a = .int .i64 (c : Int) ∧ c ≤ p ∧ Spoil X N G c ∧ (∀ i, i < j → (N.getD i []).length ≤ 40) ∧ OwnZ wr w4.heap.size Ls (.slice (some ⟨ga, 0, none⟩) j ca) X ∧ OwnZ wr w4.heap.size Ls (.slice (some ⟨gb, 0, none⟩) j cb) N ∧ OwnT wr w4.heap.size (.slice (some ⟨gt, 0, none⟩) j ct) G ∧ Ext w4 wr) (fun _ b _ => sp.length - (intOf b).toNat)
          case atStart => exact ⟨0, 0, X, _, by omega, rfl, rfl, by omega, hS0, hN0, hZa, hZb, hT, hE⟩
          case round =>
            obtain ⟨i, c, N, G, hi, rfl, rfl, hcp, hS, hN, hZa, hZb, hT, hE⟩ := hrel
            have hNl : N.length = j := by rw [hS.len]; exact HXt.out
            have hGl : G.length = j := by rw [hS.glen]; exact HXt.out
            by_cases hgo : i < sp.length ∧ c < p
            · obtain ⟨hi1, hc1'⟩ := hgo
              have hEw := hE04.trans hE
              rcases h2.2 with h0 | ⟨bs, os, rfl, hbs, hcs⟩
              · omega
              have ks := (hEw.cell (i := os + i) hbs).trans (hcs i hi1)
              have hyl := UInt8.toNat_lt (sp.getD i 0)
              clear hcs
              generalize sp.getD i 0 = y at *
              have e2 : ((y.toNat : Int).tmod (j : Int)) = ((y.toNat % j : Nat) : Int) := by simp [Int.tmod_eq_emod_of_nonneg]
              have hnz : ((j : Int) == 0) = false := by simp; omega
              have hatj : y.toNat % j < j := Nat.mod_lt _ ht0
              generalize y.toNat % j = at_ at *
              obtain ⟨hcT, hfT⟩ := hT.cellT hGl hatj
              have hi1I : (i : Int) < (sp.length : Int) := by omega
              have hcpI : (c : Int) < (p : Int) := by omega
              have hajI : (at_ : Int) < (j : Int) := by omega
              obtain ⟨bv, hbv⟩ : ∃ b, b = G.getD at_ false := ⟨_, rfl⟩
              rw [← hbv] at hcT
              have HNl := hide hNl
              have HGl := hide hGl
              cases bv
              · clear hbv hNl hGl
                go_wp2_with fail
                go_roundw
                case rel => exact ⟨i + 1, c, N, G, by omega, by go_num, rfl, hcp, hS, hN, hZa, hZb, hT, hE⟩
                case measure => simp [intOf]; omega
              · have hS2 := hS.step (a := at_) (by rw [HXt.out]; exact hatj) hbv.symm byl
                have hN2 : ∀ i, i < j → ((N.set at_ byl).getD i []).length ≤ 40 := fun q hq => by
                  by_cases e : at_ = q
                  · rw [e, List.getD_eq_getElem?_getD, List.getElem?_set_self (by omega)]
                    simp
                    omega
                  · rw [List.getD_eq_getElem?_getD, List.getElem?_set_ne e, ← List.getD_eq_getElem?_getD]
                    exact hN q hq
                have hG1 := grown_setCell wr gt at_ (.bool false)
                have hT1 := hT.set (j := at_) false
                have hob1 : ∀ k, some gt = some k → k ∈ Ls := fun k hk => by cases hk; exact et
                have hZa1 := hZa.kept hG1 hob1 (.inr (by simp [Value.ownBlock]; exact hat'))
                have hZb1 := hZb.kept hG1 hob1 (.inr (by simp [Value.ownBlock]; exact hbt'))
                have hE1 : Ext w4 (wr.setCell ⟨gt, at_, none⟩ (.bool false)) := hE.setCell (by have := hLb gt et; omega) _
                obtain ⟨x1, hcN, hfN⟩ := hZb1.cellZ hNl hatj
                have hrb : RowOf (wr.setCell ⟨gt, at_, none⟩ (.bool false)) (wr.setCell ⟨gt, at_, none⟩ (.bool false)).heap.size (.slice A3 byl.length c3) byl := (HRb.out.ext (hE04.trans hE1))
                have hZb2 := hZb1.set (j := at_) (by omega) hrb hClb
                have hG2 := grown_setCell (wr.setCell ⟨gt, at_, none⟩ (.bool false)) gb at_ (.slice A3 byl.length c3)
                have hob2 : ∀ k, some gb = some k → k ∈ Ls := fun k hk => by cases hk; exact ea
                have hZa2 := hZa1.kept hG2 hob2 (.inr (by simp [Value.ownBlock]; exact hab'))
                have hT2 := hT1.kept hG2 (.inr (by simp [Value.ownBlock]; exact fun e => hbt' e.symm))
                have hE2 := hE1.setCell (g := gb) (i := at_) (by have := hLb gb ea; omega) (.slice A3 byl.length c3)
                clear hbv hNl hGl
                go_wp2_with fail
                go_roundw
                case rel => exact ⟨i + 1, c + 1, _, _, by omega, by go_num, by go_num, by omega, hS2, hN2, hZa2, hZb2, hT2, hE2⟩
                case measure => simp [intOf]; omega
            · have hstop : (i : Int) < (sp.length : Int) → ¬ ((c : Int) < (p : Int)) := fun h1 h2 => hgo ⟨by omega, by omega⟩
              have hjdp := HJ.out
              have hXe := HX.out
              have hSm := hS
              rw [hXe] at hSm
              have hmend := hSm.mend hdk (by omega) rfl HAL.out hcp
              rw [← hXe] at hmend
              have CM := fun W (hEW : Ext wr W) => hM (data.length : Int) (p : Int) (some ⟨gb, 0, none⟩) (some ⟨gt, 0, none⟩) cb ct N G W ((hE04.trans hE).trans hEW) (by omega) (by omega) (hZb.rowsAt.ext hEW) (hT.boolsAt.ext hEW) (by omega) (by omega) (by omega) (by omega) (fun q hq => by have := hN q (by omega); omega)
              rw [hmend, hNl, hGl] at CM
              have hrt : rightR (data.length : Int) (p : Int) X = true := by rw [hXe]; exact code_right hdk (by omega) rfl HAL.out
              have CR := fun W (hEW : Ext wr W) => hR (data.length : Int) (p : Int) (some ⟨ga, 0, none⟩) ca X W ((hE04.trans hE).trans hEW) (by omega) (by omega) (hZa.rowsAt.ext hEW) (by rw [HXt.out]; exact hca) (by rw [HXt.out]; omega) (fun q hq => by have := HX40.out q (by have := HXt.out; omega); omega)
              rw [hrt, HXt.out] at CR
              have SA := fun (A : Option Addr) (ca' : Nat) W (hEW : Ext wr W) h => show Calls Try.prog 20 #[.slice A X.length ca', .slice (some ⟨ga, 0, none⟩) X.length ca] W fun e w' => e = .returned (.bool true) ∧ Ext W w' by
                have := refSameP_any A (some ⟨ga, 0, none⟩) ca' ca X X W h (hZa.rowsAt.ext hEW) (by rw [HXt.out]; omega)
                rwa [decide_eq_true (rfl : X = X)] at this
              rw [HXt.out] at SA
              have hEw := hE04.trans hE
              clear hmend hSm hjdp hXe hrt hM hR hgo hS hN hNl hGl hZa hZb hT h1 h2 HJ
              by_cases hi1 : (i : Int) < (sp.length : Int)
              · have hcp2 := hstop hi1
                go_wp2_with fail
                refine (CM _ (Ext.refl wr)).mono ?_
                rintro e w6 ⟨v6, rfl, hO6, hE6⟩
                obtain ⟨A6, c6, rfl, _, _, hR6⟩ := hO6.form
                rw [HXt.out] at hR6 ⊢
                go_wp2_with fail
                refine (SA A6 c6 _ hE6 hR6).mono ?_
                rintro e w7 ⟨rfl, hE7⟩
                go_wp2_with fail
                refine (CR _ (hE6.trans hE7)).mono ?_
                rintro e w8 ⟨rfl, hE8⟩
                go_wp2
                go_ret
                exact ⟨rfl, ((hEw.trans hE6).trans hE7).trans hE8⟩
              · skip
                go_wp2_with fail
                refine (CM _ (Ext.refl wr)).mono ?_
                rintro e w6 ⟨v6, rfl, hO6, hE6⟩
                obtain ⟨A6, c6, rfl, _, _, hR6⟩ := hO6.form
                rw [HXt.out] at hR6 ⊢
                go_wp2_with fail
                refine (SA A6 c6 _ hE6 hR6).mono ?_
                rintro e w7 ⟨rfl, hE7⟩
                go_wp2_with fail
                refine (CR _ (hE6.trans hE7)).mono ?_
                rintro e w8 ⟨rfl, hE8⟩
                go_wp2
                go_ret
                exact ⟨rfl, ((hEw.trans hE6).trans hE7).trans hE8⟩
    · simp only [decide_eq_false hal] at L1
      go_wp2_with fail
      refine (L1 _ (h1.ext hE12)).mono ?_
      rintro e w3 ⟨rfl, hE3⟩
      go_wp2
      go_ret
      exact ⟨rfl, hE12.trans hE3⟩
end Go.Proofs.Ytbfkknoeaekajaa
