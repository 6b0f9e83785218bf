/- The document's Pick. The document's Stack. Rows picked of the identity with Cauchy's matrix below it: what the law MatCauchy's calls tell. The document's product of a matrix and parts. The document's Parity. The document's Right. -/
import Derived.Test.YtkfipfhmbhmamaaDoorB02
import Derived.Test.YtkfipfhmbhmamaaDoorB03
import Derived.Test.YtkfipfhmbhmamaaDoorB04
import Derived.Test.YtkfipfhmbhmamaaDoorB05
namespace Go.Proofs.YtkfipfhmbhmamaaDoor
open Go.RowKit

theorem wp_storeC {o : Oper} {a : Act} {w : World} {Q : Exit → Act → World → Prop} {K : Act → World → Prop} (ty : TypeId) (x y : Operand) (ho : o.op = .store ty x y)
    {g i : Nat} {t : TypeId} {cs : Array Value} (cs' : Array Value) {u : Value} (hx : a.eval x = .pointer (some ⟨g, i, none⟩)) (hy : a.eval y = u) (hw : Whole w g t cs) (hi : i < cs.size)
    (hs : (Tryd.prog.info? ty).map (·.size) = some 1) (h1 : u.oneCell' = true) (hcells : u.cells = #[u]) (hcs : cs.setIfInBounds i u = cs')
    (h : ∀ w', Whole w' g t cs' → w.grownBy w' (some g) → K (a.put o.dst undef) w') : o.wp Tryd.prog a w K Q := by
  subst hcs
  have hst := run_storeCells_at Tryd.prog g i t [u] 0 cs w hw (by simp; omega) (fun x hx => by simp at hx; subst hx; exact h1)
  unfold Oper.wp execOp
  cases hq : Tryd.prog.info? ty with
  | none => simp [hq] at hs
  | some d =>
    have hs' : d.size = 1 := by simpa [hq] using hs
    have hr : (storeVar ty ⟨g, i, none⟩ u).run Tryd.prog w = .ok () (w.setRow g (cs.toList.take (i + 0) ++ [u] ++ cs.toList.drop (i + 0 + [u].length)).toArray) := by
      simp only [storeVar, sizeOf, typeInfo, hcells]
      simpa [hq, hs'] using hst
    simp only [ho, hx, hy, Instr.storeAt, Instr.sureAddr, Sem.run_bind, Sem.run_pure, Result.andThen_ok, hr]
    refine h _ ?_ ⟨rfl, rfl, rfl, by simp, fun k _ hk => setRow_other w g k _ (fun e => hk (by simp [e]))⟩
    have e : (cs.toList.take (i + 0) ++ [u] ++ cs.toList.drop (i + 0 + [u].length)).toArray = cs.setIfInBounds i u := by
      apply Array.ext'
      rw [Array.toList_setIfInBounds, List.set_eq_take_append_cons_drop, if_pos (by simpa using hi)]
      simp
    rw [e]
    exact setRow_heap w g cs _ _ _ hw
/-- May these rows be picked? -/
def MV.picks (m : MV) (L : List Int) : Prop := m.may = true ∧ L.length ≤ 255 ∧ ∀ i, i < L.length → 0 ≤ L.getD i 0 ∧ L.getD i 0 < m.r
def MV.pickF (m : MV) (L : List Int) : Mat.M := fun i j => m.at (L.getD i 0).toNat j
def MV.pickR (m : MV) (L : List Int) : MV := ⟨L.length, m.c, cellsOf m.c.toNat (m.pickF L) (L.length * m.c.toNat)⟩
noncomputable instance (m : MV) (L : List Int) : Decidable (m.picks L) := Classical.propDecidable _
noncomputable def MV.pickE (m : MV) (L : List Int) : MV × Int := if m.picks L then (m.pickR L, 0) else (MV.zero, 13)

set_option maxHeartbeats 4000000 in
set_option maxRecDepth 100000 in
theorem refPick_any (m : MV) (L : List Int) (A1 A2 : Option Addr) (k1 k2 : Nat) (w : World) (h1 : Bytes w w.heap.size A1 m.l.length m.l) (h2 : IntsAt w w.heap.size A2 L.length L) (hl1 : m.l.length ≤ maxLen) (hl2 : L.length ≤ 140737488355328) :
    Calls Tryd.prog 58 #[.agg #[.int .i64 m.r, .int .i64 m.c, .slice A1 m.l.length k1], .slice A2 L.length k2] w (MadeM w (m.pickE L).1 (m.pickE L).2) := by
  have M1 := fun W => refMay_any m A1 m.l.length k1 W rfl hl1
  have hE1 := extNew w (.cells #[.int .i64 m.r, .int .i64 m.c, .slice A1 m.l.length k1] 76)
  have hE2 := extNew (w.alloc (.cells #[.int .i64 m.r, .int .i64 m.c, .slice A1 m.l.length k1] 76)) (.cells #[.int .i64 0, .int .i64 0, .slice none 0 0] 76)
  have hWa := (Whole.new w 76 #[.int .i64 m.r, .int .i64 m.c, .slice A1 m.l.length k1]).ext hE2
  have hWr := Whole.new (w.alloc (.cells #[.int .i64 m.r, .int .i64 m.c, .slice A1 m.l.length k1] 76)) 76 #[.int .i64 0, .int .i64 0, .slice none 0 0]
  have hE := hE1.trans hE2
  rw [World.size_alloc] at hWr
  clear hE1 hE2
  have HP := hide (show m.pickE L = if m.picks L then (m.pickR L, 0) else (MV.zero, 13) from rfl)
  by_cases ha : m.may = true
  · rw [ha] at M1
    by_cases hn : (255 : Int) < (L.length : Int)
    · have HN := hide (show m.pickE L = (MV.zero, 13) by rw [HP.out, if_neg]; rintro ⟨_, h, _⟩; omega)
      clear ha
      go_enter Tryd.func58, Tryd.ntmps58
      go_wp2_with fail
      refine (M1 _).mono ?_
      rintro e w2 ⟨rfl, hF2⟩
      have hWr2 := hWr.ext hF2
      go_wp2_with (refine wpList_storeW rfl 76 (.tmp 4) (.tmp 17) rfl rfl rfl hWr2 rfl mat_info (mat_one rfl) ?_; intro w5 hW5 hG5 _)
      refine bodyPost_ret (results_mat rfl _ rfl rfl hW5 rfl) rfl ?_
      rw [HN.out]
      exact MadeM.zero 13 (Below.grown (hE.trans hF2) hG5 (hE.trans hF2).le (fun k hk => by cases hk; omega))
    · obtain ⟨q1, q2, q3, q4, q5⟩ := MV.may_iff.1 ha
      have HR := hide (show m.pickR L = ⟨L.length, m.c, cellsOf m.c.toNat (m.pickF L) (L.length * m.c.toNat)⟩ from rfl)
      have HF := hide (show ∀ i j, m.pickF L i j = m.l.getD ((L.getD i 0).toNat * m.c.toNat + j) 0 from fun _ _ => rfl)
      have HK := hide (show (∀ i, i < L.length → 0 ≤ L.getD i 0 ∧ L.getD i 0 < m.r) → m.pickE L = (m.pickR L, 0) from fun h => by rw [HP.out, if_pos]; exact ⟨ha, by omega, h⟩)
      have HX := hide (show (∃ i, i < L.length ∧ ¬ (0 ≤ L.getD i 0 ∧ L.getD i 0 < m.r)) → m.pickE L = (MV.zero, 13) from fun ⟨i, hi, hx⟩ => by rw [HP.out, if_neg]; rintro ⟨_, _, h⟩; exact hx (h i hi))
      clear HP ha
      generalize m.pickE L = res at *
      generalize m.pickR L = pr at *
      generalize m.pickF L = pf at *
      obtain ⟨mr, mc, ml⟩ := m
      dsimp only at *
      obtain ⟨mr, rfl⟩ := Int.eq_ofNat_of_zero_le q1
      obtain ⟨mc, rfl⟩ := Int.eq_ofNat_of_zero_le q3
      simp only [Int.toNat_natCast] at *
      have ml5 : ml.length = mr * mc := by omega
      have hmr : mr ≤ 255 := by omega
      have hmc : mc ≤ 255 := by omega
      have hln : L.length ≤ 255 := by omega
      have hlm : L.length * mc ≤ 255 * 255 := Nat.mul_le_mul hln hmc
      have hmm : mr * mc ≤ 255 * 255 := Nat.mul_le_mul hmr hmc
      have HM := hide ml5
      clear q1 q2 q3 q4 q5 ml5 hl1 hl2
      go_enter Tryd.func58, Tryd.ntmps58
      go_wp2_with fail
      refine (M1 _).mono ?_
      rintro e w3 ⟨rfl, hF3⟩
      have hWa3 := hWa.ext hF3
      have hWr3 := hWr.ext hF3
      have hE3 := hE.trans hF3
      have d1 := hWa3.at 1 rfl
      have hrl := hWr3.lt
      have hN := extNew w3 (.cells #[.int .i64 L.length, .int .i64 mc, .slice none 0 0] 76)
      have hWx := Whole.new w3 76 #[.int .i64 L.length, .int .i64 mc, .slice none 0 0]
      clear M1 hF3 hWa hWr hE
      obtain ⟨gx, hgx⟩ : ∃ gx, gx = w3.heap.size := ⟨_, rfl⟩
      go_wp2_with fail
      rw [← hgx] at hWx ⊢
      have hg1 : w3.heap.size ≤ gx := by omega
      have HG := hide hgx
      clear hgx
      go_loopw [7] (fun i wr => ∃ j : Nat, j ≤ L.length ∧ i = .int .i64 (j : Int) ∧ (∀ k, k < j → 0 ≤ L.getD k 0 ∧ L.getD k 0 < (mr : Int)) ∧ Made wr (gx + 1) gx L.length mc (cellsOf mc pf (j * mc)) ∧ Ext w3 wr) (fun i _ => L.length - (intOf i).toNat)
      case atStart => exact ⟨0, by omega, rfl, fun k hk => by omega, ⟨_, hWx, by rw [Nat.zero_mul]; exact OwnB.nil _ _⟩, hN⟩
      case round =>
        obtain ⟨i, hi, rfl, hall, hMd, hEr⟩ := hrel
        have d0' := (hWa3.ext hEr).at 0 rfl
        by_cases hlt : i < L.length
        · have hEw := hE3.trans hEr
          rcases h2.2 with h0 | ⟨g2, o2, rfl, hg2, hc2⟩
          · omega
          have r0 := (hEw.cell (i := o2 + i) hg2).trans (hc2 i hlt)
          have i0 : (0 : Int) ≤ (i : Int) := by omega
          have i1 : (i : Int) < (L.length : Int) := by omega
          have HL := hide hall
          have HC2 := hide hc2
          clear hc2 hall h2
          obtain ⟨R, hR⟩ : ∃ R, R = L.getD i 0 := ⟨_, rfl⟩
          rw [← hR] at r0
          have HRR := hide hR
          clear hR
          by_cases hbad : R < 0 ∨ (mr : Int) ≤ R
          · have HN := hide (HX.out ⟨i, hlt, by rw [← HRR.out]; omega⟩)
            have hWrr := hWr3.ext hEr
            rcases hbad with hb | hb
            · go_wp2
              go_quiet (fail)
              have hEq : Ext wr (wr.drewN nq) := (Ext.refl wr).drewN nq
              have hWq := hWrr.ext hEq
              generalize wr.drewN nq = wq at hEq hWq ⊢
              go_wp2_with (refine wpList_storeW rfl 76 (.tmp 4) (.tmp 43) rfl rfl rfl hWq rfl mat_info (mat_one rfl) ?_; intro w5 hW5 hG5 _)
              refine bodyPost_ret (results_mat rfl _ rfl rfl hW5 rfl) rfl ?_
              rw [HN.out]
              exact MadeM.zero 13 (Below.grown (hEw.trans hEq) hG5 (hEw.trans hEq).le (fun k hk => by cases hk; omega))
            · have hb2 : ¬ (R < 0) := by omega
              go_wp2
              go_quiet (fail)
              have hEq : Ext wr (wr.drewN nq) := (Ext.refl wr).drewN nq
              have hWq := hWrr.ext hEq
              generalize wr.drewN nq = wq at hEq hWq ⊢
              go_wp2_with (refine wpList_storeW rfl 76 (.tmp 4) (.tmp 43) rfl rfl rfl hWq rfl mat_info (mat_one rfl) ?_; intro w5 hW5 hG5 _)
              refine bodyPost_ret (results_mat rfl _ rfl rfl hW5 rfl) rfl ?_
              rw [HN.out]
              exact MadeM.zero 13 (Below.grown (hEw.trans hEq) hG5 (hEw.trans hEq).le (fun k hk => by cases hk; omega))
          · have hb1 : ¬ (R < 0) := by omega
            have hb2 : ¬ ((mr : Int) ≤ R) := by omega
            obtain ⟨R, rfl⟩ := Int.eq_ofNat_of_zero_le (show 0 ≤ R by omega)
            have hRm : R < mr := by omega
            go_wp2
            go_quiet (fail)
            have hEq : Ext wr (wr.drewN nq) := (Ext.refl wr).drewN nq
            have hE3q := hEr.trans hEq
            have hMq := hMd.ext hEq
            have hEwq := hEw.trans hEq
            have r1 := (hEq.cell (i := o2 + i) (Nat.lt_of_lt_of_le hg2 hEw.le)).trans r0
            clear r0 hMd d0' hbad
            generalize wr.drewN nq = wq at hEq hE3q hMq hEwq r1 ⊢
            go_wp2_with fail
            generalize Value.bool (decide ((R : Int) < 0) || decide (mr ≤ R)) = z2
            generalize Value.bool (decide (mr ≤ R)) = z1
            go_loopw [8] (fun x wm => ∃ j : Nat, j ≤ mc ∧ x = .int .i64 (j : Int) ∧ Made wm (gx + 1) gx L.length mc (cellsOf mc pf (i * mc + j)) ∧ Ext w3 wm) (fun x _ => mc - (intOf x).toNat)
            case atStart => exact ⟨0, by omega, rfl, by rw [Nat.add_zero]; exact hMq, hE3q⟩
            case round =>
              obtain ⟨j, hj, rfl, hMm, hEm⟩ := hrel
              have f1 := (hWa3.ext hEm).at 1 rfl
              have f2 := (hWa3.ext hEm).at 2 rfl
              by_cases hjt : j < mc
              · obtain ⟨v, hWv, hO⟩ := hMm
                have hEwm := hE3.trans hEm
                have hRj : R * mc + j < mr * mc := by
                  have : (R + 1) * mc ≤ mr * mc := Nat.mul_le_mul_right _ hRm
                  rw [Nat.add_mul, Nat.one_mul] at this
                  omega
                rcases h1.2 with h0 | ⟨g1, o1, rfl, hg1', hc1⟩
                · have := HM.out; omega
                have m1 := (hEwm.cell (i := o1 + (R * mc + j)) hg1').trans (hc1 (R * mc + j) (by have := HM.out; omega))
                have hpf : ml.getD (R * mc + j) 0 = pf i j := by rw [HF.out, ← HRR.out, Int.toNat_natCast]
                rw [hpf] at m1
                have hS := cellsOf_succ mc pf (i * mc + j)
                have hdiv : (i * mc + j) / mc = i := by
                  rw [Nat.mul_comm, Nat.mul_add_div (by omega), Nat.div_eq_of_lt hjt, Nat.add_zero]
                have hmod : (i * mc + j) % mc = j := by
                  rw [Nat.mul_comm, Nat.mul_add_mod, Nat.mod_eq_of_lt hjt]
                rw [hdiv, hmod] at hS
                have HS := hide hS
                have hib : i * mc + j < L.length * mc := by
                  have : (i + 1) * mc ≤ L.length * mc := Nat.mul_le_mul_right _ hlt
                  rw [Nat.add_mul, Nat.one_mul] at this
                  omega
                have hlen := cellsOf_len mc pf (i * mc + j)
                have hfit : (cellsOf mc pf (i * mc + j)).length + 1 ≤ 140737488355328 := by omega
                have hP1 : R * mc ≤ 65025 := by omega
                have hb1' : (R : Int) * (mc : Int) = ((R * mc : Nat) : Int) := (Int.natCast_mul R mc).symm
                have hm1 : IntKind.i64.wrap ((R : Int) * (mc : Int)) = ((R * mc : Nat) : Int) := by rw [hb1', IntKind.wrap_i64]; omega
                have hla : (ml.length : Int) = ((mr * mc : Nat) : Int) := by rw [HM.out]
                have r2 := (hEwm.cell (i := o2 + i) hg2).trans (HC2.out i hlt)
                rw [← HRR.out] at r2
                generalize R * mc = P at *
                have g1a : ((P : Int) + (j : Int)) < (ml.length : Int) := by omega
                have g1b : (0 : Int) ≤ ((P : Int) + (j : Int)) := by omega
                have hjc : j < 256 := by omega
                have hm2 : IntKind.i64.wrap ((P : Int) + (j : Int)) = (P : Int) + (j : Int) := by rw [IntKind.wrap_i64]; omega
                generalize pf i j = bt at *
                have hbt := bt.toNat_lt
                have hlt2 := hWv.lt
                have hE4 := (extNew wr (.cells #[.int .u8 (bt.toNat : Int)] 5))
                have hE4d := hE4.drew
                have hb8 := (Ext.refl (wr.alloc (.cells #[.int .u8 (bt.toNat : Int)] 5))).drew.bytes (bytesNew wr [bt] #[.int .u8 (bt.toNat : Int)] 5 (0, 0) rfl 1 rfl)
                have hO1 := hO.ext hE4d
                have hW4 := hWv.ext hE4d
                have hB1 : gx + 1 ≤ (wr.alloc (.cells #[.int .u8 (bt.toNat : Int)] 5)).drew.heap.size := by
                  have := hE4d.le
                  omega
                obtain ⟨A3, n3, c3, rfl, _, _, _⟩ := hO.form'
                have c2 := hWv.at 2 rfl
                have t1 := (hE4d.cell (i := o2 + i) (Nat.lt_of_lt_of_le hg2 hEwm.le)).trans r2
                have t2 := (hE4d.cell (i := o1 + (P + j)) (Nat.lt_of_lt_of_le hg1' hEwm.le)).trans m1
                have t3 := ((hWa3.ext hEm).ext hE4d).at 1 rfl
                have t4 := ((hWa3.ext hEm).ext hE4d).at 2 rfl
                have t5 := hW4.at 2 rfl
                clear hS hdiv hmod hlen hb1' hla h1 hpf hc1 hMq
                go_wp2
                refine wp_region_T (fun W => W.cell? ⟨gx, 2, none⟩ = some (.slice A3 n3 c3) ∧ W.cell? ⟨w.heap.size, 2, none⟩ = some (.slice (some ⟨g1, o1, none⟩) ml.length k1) ∧ W.cell? ⟨g2, o2 + i, none⟩ = some (.int .i64 (R : Int)) ∧ W.cell? ⟨w.heap.size, 1, none⟩ = some (.int .i64 (mc : Int)) ∧ W.cell? ⟨g1, o1 + (P + j), none⟩ = some (.int .u8 (bt.toNat : Int))) 16 19 #[false, false, false, false, false, false, false, false, false, false, false, false, false, false, false, false, false, false, false] (by kernel_rfl) rfl rfl ⟨c2, f2, r2, f1, m1⟩ ?_
                intro hS0
                refine wpAnyT_take 0 (some 50) (.pointer (some ⟨gx, 2, none⟩)) #[true, false, false, false, false, false, false, false, false, false, false, false, false, false, false, false, false, false, false] rfl rfl rfl (by kernel_rfl) (fun _ _ _ h => h) hS0 (by rfl) (fun W ⟨s0, s1, s2, s3, s4⟩ => by go_simp) ?_
                simp only [Act.put, List.setIfInBounds_toArray, List.set_cons_zero, List.set_cons_succ]
                refine wpAnyT_take 1 (some 51) (.slice A3 n3 c3) #[true, true, false, false, false, false, false, false, false, false, false, false, false, false, false, false, false, false, false] rfl rfl rfl (by kernel_rfl) (fun _ _ _ h => h) hS0 (by rfl) (fun W ⟨s0, s1, s2, s3, s4⟩ => by go_simp) ?_
                simp only [Act.put, List.setIfInBounds_toArray, List.set_cons_zero, List.set_cons_succ]
                refine wpAnyT_take 2 (some 52) (.pointer (some ⟨w.heap.size, 2, none⟩)) #[true, true, true, false, false, false, false, false, false, false, false, false, false, false, false, false, false, false, false] rfl rfl rfl (by kernel_rfl) (fun _ _ _ h => h) hS0 (by rfl) (fun W ⟨s0, s1, s2, s3, s4⟩ => by go_simp) ?_
                simp only [Act.put, List.setIfInBounds_toArray, List.set_cons_zero, List.set_cons_succ]
                refine wpAnyT_take 3 (some 53) (.slice (some ⟨g1, o1, none⟩) ml.length k1) #[true, true, true, true, false, false, false, false, false, false, false, false, false, false, false, false, false, false, false] rfl rfl rfl (by kernel_rfl) (fun _ _ _ h => h) hS0 (by rfl) (fun W ⟨s0, s1, s2, s3, s4⟩ => by go_simp) ?_
                simp only [Act.put, List.setIfInBounds_toArray, List.set_cons_zero, List.set_cons_succ]
                refine wpAnyT_take 4 (some 54) (.slice (some ⟨g2, o2, none⟩) L.length k2) #[true, true, true, true, true, false, false, false, false, false, false, false, false, false, false, false, false, false, false] rfl rfl rfl (by kernel_rfl) (fun _ _ _ h => h) hS0 (by rfl) (fun W ⟨s0, s1, s2, s3, s4⟩ => by go_simp) ?_
                simp only [Act.put, List.setIfInBounds_toArray, List.set_cons_zero, List.set_cons_succ]
                refine wpAnyT_take 5 (some 55) (.int .i64 (i : Int)) #[true, true, true, true, true, true, false, false, false, false, false, false, false, false, false, false, false, false, false] rfl rfl rfl (by kernel_rfl) (fun _ _ _ h => h) hS0 (by rfl) (fun W ⟨s0, s1, s2, s3, s4⟩ => by go_simp) ?_
                simp only [Act.put, List.setIfInBounds_toArray, List.set_cons_zero, List.set_cons_succ]
                refine wpAnyT_take 6 (some 56) (.pointer (some ⟨g2, o2 + i, none⟩)) #[true, true, true, true, true, true, true, false, false, false, false, false, false, false, false, false, false, false, false] rfl rfl rfl (by kernel_rfl) (fun _ _ _ h => h) hS0 (by rfl) (fun W ⟨s0, s1, s2, s3, s4⟩ => by go_simp) ?_
                simp only [Act.put, List.setIfInBounds_toArray, List.set_cons_zero, List.set_cons_succ]
                refine wpAnyT_take 7 (some 57) (.int .i64 (R : Int)) #[true, true, true, true, true, true, true, true, false, false, false, false, false, false, false, false, false, false, false] rfl rfl rfl (by kernel_rfl) (fun _ _ _ h => h) hS0 (by rfl) (fun W ⟨s0, s1, s2, s3, s4⟩ => by go_simp) ?_
                simp only [Act.put, List.setIfInBounds_toArray, List.set_cons_zero, List.set_cons_succ]
                refine wpAnyT_take 8 (some 58) (.pointer (some ⟨w.heap.size, 1, none⟩)) #[true, true, true, true, true, true, true, true, true, false, false, false, false, false, false, false, false, false, false] rfl rfl rfl (by kernel_rfl) (fun _ _ _ h => h) hS0 (by rfl) (fun W ⟨s0, s1, s2, s3, s4⟩ => by go_simp) ?_
                simp only [Act.put, List.setIfInBounds_toArray, List.set_cons_zero, List.set_cons_succ]
                refine wpAnyT_take 9 (some 59) (.int .i64 (mc : Int)) #[true, true, true, true, true, true, true, true, true, true, false, false, false, false, false, false, false, false, false] rfl rfl rfl (by kernel_rfl) (fun _ _ _ h => h) hS0 (by rfl) (fun W ⟨s0, s1, s2, s3, s4⟩ => by go_simp) ?_
                simp only [Act.put, List.setIfInBounds_toArray, List.set_cons_zero, List.set_cons_succ]
                refine wpAnyT_take 10 (some 60) (.int .i64 (P : Int)) #[true, true, true, true, true, true, true, true, true, true, true, false, false, false, false, false, false, false, false] rfl rfl rfl (by kernel_rfl) (fun _ _ _ h => h) hS0 (by rfl) (fun W ⟨s0, s1, s2, s3, s4⟩ => by go_simp) ?_
                simp only [Act.put, List.setIfInBounds_toArray, List.set_cons_zero, List.set_cons_succ]
                refine wpAnyT_take 11 (some 61) (.int .i64 (j : Int)) #[true, true, true, true, true, true, true, true, true, true, true, true, false, false, false, false, false, false, false] rfl rfl rfl (by kernel_rfl) (fun _ _ _ h => h) hS0 (by rfl) (fun W ⟨s0, s1, s2, s3, s4⟩ => by go_simp) ?_
                simp only [Act.put, List.setIfInBounds_toArray, List.set_cons_zero, List.set_cons_succ]
                refine wpAnyT_take 12 (some 62) (.int .i64 ((P : Int) + (j : Int))) #[true, true, true, true, true, true, true, true, true, true, true, true, true, false, false, false, false, false, false] rfl rfl rfl (by kernel_rfl) (fun _ _ _ h => h) hS0 (by rfl) (fun W ⟨s0, s1, s2, s3, s4⟩ => by go_simp) ?_
                simp only [Act.put, List.setIfInBounds_toArray, List.set_cons_zero, List.set_cons_succ]
                refine wpAnyT_take 13 (some 63) (.pointer (some ⟨g1, o1 + (P + j), none⟩)) #[true, true, true, true, true, true, true, true, true, true, true, true, true, true, false, false, false, false, false] rfl rfl rfl (by kernel_rfl) (fun _ _ _ h => h) hS0 (by rfl) (fun W ⟨s0, s1, s2, s3, s4⟩ => by go_simp) ?_
                simp only [Act.put, List.setIfInBounds_toArray, List.set_cons_zero, List.set_cons_succ]
                refine wpAnyT_take 14 (some 64) (.int .u8 (bt.toNat : Int)) #[true, true, true, true, true, true, true, true, true, true, true, true, true, true, true, false, false, false, false] rfl rfl rfl (by kernel_rfl) (fun _ _ _ h => h) hS0 (by rfl) (fun W ⟨s0, s1, s2, s3, s4⟩ => by go_simp) ?_
                simp only [Act.put, List.setIfInBounds_toArray, List.set_cons_zero, List.set_cons_succ]
                refine wpAnyT_only 15 #[true, true, true, true, true, true, true, true, true, true, true, true, true, true, true, true, false, false, false] (by kernel_rfl) rfl rfl (by rfl) (fun K hK => ?_)
                go_simp
                refine hK _ _ (fun _ => ⟨t5, t4, t1, t3, t2⟩) ?_
                clear hK K
                refine wpAnyT_only 16 #[true, true, true, true, true, true, true, true, true, true, true, true, true, true, true, true, true, false, false] (by kernel_rfl) rfl rfl (by rfl) (fun K hK => ?_)
                refine wp_appAt (.tmp 51) (.tmp 65) rfl rfl hO1 rfl hb8 hfit hB1 ?_
                intro v4 w4 hO4 hG4 _
                have hne4 : (Value.slice A3 n3 c3).ownBlock ≠ some gx := fun e => by
                  have := (hO1.lt _ e).1
                  omega
                have hW5 := hW4.ownGrown hG4 hne4
                have o1' := hO4.one
                have o2' := hO4.cells1
                refine hK _ _ (fun h => absurd h (by decide)) ?_
                clear hK K
                refine wpAnyT_only 17 #[true, true, true, true, true, true, true, true, true, true, true, true, true, true, true, true, true, true, false] (by kernel_rfl) rfl rfl (by rfl) (fun K hK => ?_)
                go_simp
                refine hK _ _ (fun h => absurd h (by decide)) ?_
                clear hK K
                refine wpAnyT_only 18 #[true, true, true, true, true, true, true, true, true, true, true, true, true, true, true, true, true, true, true] (by kernel_rfl) rfl rfl (by rfl) (fun K hK => ?_)
                refine wp_storeC 27 (.tmp 67) (.tmp 66) rfl #[.int .i64 L.length, .int .i64 mc, v4] rfl rfl hW5 (by simp) (by kernel_rfl) o1' o2' rfl ?_
                intro w5 hW6 hG5
                refine hK _ _ (fun h => absurd h (by decide)) ?_
                clear hK K
                refine wpAnyT_done (by kernel_rfl) ?_ _
                go_wp2
                go_roundw
                case rel =>
                  have hne5 : v4.ownBlock ≠ some gx := fun e => by
                    have := (hO4.lt _ e).1
                    omega
                  have hE6 := hEm.trans hE4d
                  have hF4 : Ext w3 w4 := Below.grown hE6 hG4 hE6.le (fun k hk => by have := (hO1.lt k hk).1; omega)
                  have hF5 : Ext w3 w5 := Below.grown hF4 hG5 hF4.le (fun k hk => by cases hk; omega)
                  exact ⟨j + 1, by omega, by go_num, ⟨v4, hW6, by rw [← Nat.add_assoc, HS.out]; exact (Mod.ofRow (ob := none) hG5).own hO4 hne5 (by simp [Classical.em])⟩, hF5⟩
                case measure => simp [intOf]; omega
              · obtain rfl : j = mc := by omega
                go_wp2
                go_roundw
                case rel => exact ⟨i + 1, by omega, by go_num, fun k hk => by
                    rcases Nat.lt_succ_iff_lt_or_eq.1 hk with h | rfl
                    · exact HL.out k h
                    · rw [← HRR.out]; omega, by rw [Nat.add_mul, Nat.one_mul]; exact hMm, hEm⟩
                case measure => simp [intOf]; omega
        · obtain rfl : i = L.length := by omega
          obtain ⟨v, hWv, hO⟩ := hMd
          have hWrr := hWr3.ext hEr
          have o1 := hO.one
          go_wp2_with (first
            | (refine wpList_load_row rfl 76 (.tmp 6) rfl _ rfl _ _ _ _ hWv Tryd.underlying76 rfl mat_info ?_)
            | (refine wpList_storeW rfl 76 (.tmp 4) (.tmp 68) rfl rfl rfl hWrr rfl mat_info (mat_one o1) ?_; intro w5 hW5 hG5 _))
          refine bodyPost_ret (results_mat rfl _ rfl rfl hW5 rfl) rfl ?_
          have hne5 : v.ownBlock ≠ some (w.heap.size + 1) := fun e => by
            have := (hO.lt _ e).1
            omega
          rw [HK.out hall, HR.out]
          exact ⟨v, rfl, ((Mod.ofRow (ob := none) hG5).own hO hne5 (by simp [Classical.em])).mono (by omega), Below.grown (hE3.trans hEr) hG5 (hE3.trans hEr).le (fun k hk => by cases hk; omega)⟩
  · have HN := hide (show m.pickE L = (MV.zero, 13) by rw [HP.out, if_neg]; rintro ⟨h, _⟩; exact ha h)
    rw [Bool.not_eq_true] at ha
    rw [ha] at M1
    clear ha
    go_enter Tryd.func58, Tryd.ntmps58
    go_wp2_with fail
    refine (M1 _).mono ?_
    rintro e w2 ⟨rfl, hF2⟩
    have hWr2 := hWr.ext hF2
    go_wp2_with (refine wpList_storeW rfl 76 (.tmp 4) (.tmp 17) rfl rfl rfl hWr2 rfl mat_info (mat_one rfl) ?_; intro w5 hW5 hG5 _)
    refine bodyPost_ret (results_mat rfl _ rfl rfl hW5 rfl) rfl ?_
    rw [HN.out]
    exact MadeM.zero 13 (Below.grown (hE.trans hF2) hG5 (hE.trans hF2).le (fun k hk => by cases hk; omega))
end Go.Proofs.YtkfipfhmbhmamaaDoor

namespace Go.Proofs.YtkfipfhmbhmamaaDoor
open Go.RowKit

/-- A matrix that came in in a slice: itself, block and capacity of its cells. -/
structure MIn where
  m : MV
  A : Option Addr
  k : Nat
instance : Inhabited MIn := ⟨⟨default, none, 0⟩⟩
def MIn.at (x : MIn) (w : World) (b o : Nat) : Prop :=
  w.cell? ⟨b, o, none⟩ = some (.int .i64 x.m.r) ∧ w.cell? ⟨b, o + 1, none⟩ = some (.int .i64 x.m.c) ∧ w.cell? ⟨b, o + 2, none⟩ = some (.slice x.A x.m.l.length x.k)
def MatsAt (w : World) (B : Nat) (A : Option Addr) (n : Nat) (L : List MIn) : Prop :=
  L.length = n ∧ (n = 0 ∨ ∃ b off, A = some ⟨b, off, none⟩ ∧ b < B ∧ ∀ i, i < n → (L.getD i default).at w b (off + i * 3) ∧ Bytes w B (L.getD i default).A (L.getD i default).m.l.length (L.getD i default).m.l ∧ (L.getD i default).m.l.length ≤ maxLen ∧ (L.getD i default).m.l.length ≤ (L.getD i default).k)
theorem MIn.at.ext {x : MIn} {w w' : World} {b o : Nat} (h : x.at w b o) (hE : Ext w w') (hb : b < w.heap.size) : x.at w' b o :=
  ⟨(hE.cell (i := o) hb).trans h.1, (hE.cell (i := o + 1) hb).trans h.2.1, (hE.cell (i := o + 2) hb).trans h.2.2⟩
/-- The rest of a stack of c columns, behind r rows that read l. -/
def stackGo (c r : Int) (l : List UInt8) : List MV → MV × Int
  | [] => (⟨r, c, l⟩, 0)
  | m :: ms => if m.may = true ∧ m.c = c ∧ r + m.r ≤ 255 then stackGo c (r + m.r) (l ++ m.l) ms else (MV.zero, 13)
def stackE : List MV → MV × Int
  | [] => (MV.zero, 0)
  | m :: ms => stackGo m.c 0 [] (m :: ms)
theorem drop_mats {L : List MIn} {i : Nat} (hi : i < L.length) : (L.map MIn.m).drop i = (L.getD i default).m :: (L.map MIn.m).drop (i + 1) := by
  rw [List.drop_eq_getElem_cons (by simpa using hi)]
  simp [List.getD_eq_getElem?_getD, List.getElem?_eq_getElem hi]
theorem stackGo_at {L : List MIn} {i : Nat} (hi : i < L.length) (c r : Int) (l : List UInt8) :
    stackGo c r l ((L.map MIn.m).drop i) = if (L.getD i default).m.may = true ∧ (L.getD i default).m.c = c ∧ r + (L.getD i default).m.r ≤ 255 then stackGo c (r + (L.getD i default).m.r) (l ++ (L.getD i default).m.l) ((L.map MIn.m).drop (i + 1)) else (MV.zero, 13) := by
  rw [drop_mats hi]
  rfl
theorem stackGo_end {L : List MIn} (c r : Int) (l : List UInt8) : stackGo c r l ((L.map MIn.m).drop L.length) = (⟨r, c, l⟩, 0) := by
  rw [List.drop_of_length_le (by simp)]
  rfl

set_option maxHeartbeats 4000000 in
set_option maxRecDepth 100000 in
theorem refStack_any (L : List MIn) (A : Option Addr) (k : Nat) (w : World) (h : MatsAt w w.heap.size A L.length L) (hl : L.length ≤ 140737488355328) :
    Calls Tryd.prog 57 #[.slice A L.length k] w (MadeM w (stackE (L.map MIn.m)).1 (stackE (L.map MIn.m)).2) := by
  have hE := extNew w (.cells #[.int .i64 0, .int .i64 0, .slice none 0 0] 76)
  have hWr := Whole.new w 76 #[.int .i64 0, .int .i64 0, .slice none 0 0]
  by_cases h0 : L.length = 0
  · have hL : L = [] := List.eq_nil_of_length_eq_zero h0
    subst hL
    clear h
    have HR := hide (show stackE (([] : List MIn).map MIn.m) = (MV.zero, 0) from rfl)
    rw [HR.out]
    clear HR
    go_enter Tryd.func57, Tryd.ntmps57
    go_wp2_with (refine wpList_storeW rfl 76 (.tmp 2) (.tmp 9) rfl rfl rfl hWr rfl mat_info (mat_one rfl) ?_; intro w5 hW5 hG5 _)
    refine bodyPost_ret (results_mat rfl _ rfl rfl hW5 rfl) rfl ?_
    exact MadeM.zero 0 (Below.grown hE hG5 hE.le (fun k hk => by cases hk; omega))
  · rcases h.2 with h1 | ⟨gl, ol, rfl, hgl, hcs⟩
    · exact absurd h1 h0
    have hpos : (0 : Int) < (L.length : Int) := by omega
    have hne0 : ((L.length : Int) == 0) = false := by rw [beq_eq_false_iff_ne]; omega
    have HQ : stackE (L.map MIn.m) = stackGo (L.getD 0 default).m.c 0 [] ((L.map MIn.m).drop 0) := by
      rw [drop_mats (by omega : 0 < L.length)]
      have hd := drop_mats (by omega : 0 < L.length)
      rw [List.drop_zero] at hd
      rw [hd]
      rfl
    have c1 := (hcs 0 (by omega)).1.2.1
    rw [Nat.zero_mul, Nat.add_zero] at c1
    have r1 := (hE.cell (i := ol + 1) hgl).trans c1
    generalize (L.getD 0 default).m.c = C at *
    rw [HQ]
    clear HQ c1 h
    generalize hres : stackGo C 0 [] ((L.map MIn.m).drop 0) = res
    have HR := hide hres
    have HC := hide hcs
    clear hres hcs
    have hWx := Whole.new (w.alloc (.cells #[.int .i64 0, .int .i64 0, .slice none 0 0] 76)) 76 #[.int .i64 0, .int .i64 0, .slice none 0 0]
    have hN := extNew (w.alloc (.cells #[.int .i64 0, .int .i64 0, .slice none 0 0] 76)) (.cells #[.int .i64 0, .int .i64 0, .slice none 0 0] 76)
    have hWrN := hWr.ext hN
    have hEN := hE.trans hN
    rw [World.size_alloc] at hWx
    go_enter Tryd.func57, Tryd.ntmps57
    go_wp2_with (refine wpList_storeW rfl 76 (.tmp 4) (.tmp 14) rfl rfl rfl hWx rfl mat_info (mat_one rfl) ?_; intro w5 hW5 hG5 _)
    have hF : Ext w w5 := Below.grown hEN hG5 hEN.le (fun k hk => by cases hk; omega)
    have hWr5 := hWrN.ownGrown hG5 (by simp)
    obtain ⟨gx, hgx⟩ : ∃ gx, gx = w.heap.size + 1 := ⟨_, rfl⟩
    rw [← hgx] at hW5 ⊢
    have hg1 : w.heap.size < gx := by omega
    clear hWx hN hWrN hEN hE hWr hG5 r1 hgx
    go_wp2_with fail
    go_loopw [5] (fun i wr => ∃ (j : Nat) (R : Int) (l : List UInt8), j ≤ L.length ∧ i = .int .i64 (j : Int) ∧ 0 ≤ R ∧ R ≤ 255 ∧ (l.length : Int) ≤ 255 * R ∧ stackGo C R l ((L.map MIn.m).drop j) = res ∧ Made wr (gx + 1) gx R C l ∧ Whole wr w.heap.size 76 #[.int .i64 0, .int .i64 0, .slice none 0 0] ∧ Ext w wr) (fun i _ => L.length - (intOf i).toNat)
    case atStart => exact ⟨0, 0, [], by omega, rfl, by omega, by omega, by simp, HR.out, ⟨_, hW5, OwnB.nil _ _⟩, hWr5, hF⟩
    case round =>
      obtain ⟨i, R, l, hi, rfl, hR0, hR1, hlR, hgo, ⟨v, hWv, hO⟩, hWrr, hEr⟩ := hrel
      by_cases hlt : i < L.length
      · obtain ⟨hat, hBx, hlx, hlk⟩ := HC.out i hlt
        clear hlk
        rw [stackGo_at hlt] at hgo
        have hat' := hat.ext hEr hgl
        have hBx' := hEr.bytes hBx
        have i0 : (0 : Int) ≤ (i : Int) := by omega
        have i1 : (i : Int) < (L.length : Int) := by omega
        have hglr : gl < wr.heap.size := Nat.lt_of_lt_of_le hgl hEr.le
        generalize L.getD i default = x at *
        obtain ⟨⟨mr, mc, ml⟩, Ax, kx⟩ := x
        dsimp only at *
        obtain ⟨a0, a1, a2⟩ := hat'
        dsimp only at a0 a1 a2
        obtain ⟨A3, n3, c3, rfl, _, _, _⟩ := hO.form'
        have b0 := hWv.at 0 rfl
        have b1 := hWv.at 1 rfl
        have b2 := hWv.at 2 rfl
        have hltx := hWv.lt
        have C0 := fun W => refMay_any ⟨mr, mc, ml⟩ Ax ml.length kx W rfl hlx
        dsimp only at C0
        have hS : ∀ W, Ext wr W → W.cell? ⟨gl, ol + i * 3, none⟩ = some (.int .i64 mr) ∧ W.cell? ⟨gl, ol + i * 3 + 1, none⟩ = some (.int .i64 mc) ∧ W.cell? ⟨gl, ol + i * 3 + 2, none⟩ = some (.slice Ax ml.length kx) ∧ W.cell? ⟨gx, 0, none⟩ = some (.int .i64 R) ∧ W.cell? ⟨gx, 1, none⟩ = some (.int .i64 C) ∧ Ext wr W := fun W hX =>
          ⟨(hX.cell (i := ol + i * 3) hglr).trans a0, (hX.cell (i := ol + i * 3 + 1) hglr).trans a1, (hX.cell (i := ol + i * 3 + 2) hglr).trans a2, (hX.cell (i := 0) hltx).trans b0, (hX.cell (i := 1) hltx).trans b1, hX⟩
        have hK := Ext.refl wr
        have hK' := hK.drew
        have hT : ∀ W, (W.cell? ⟨gl, ol + i * 3, none⟩ = some (.int .i64 mr) ∧ W.cell? ⟨gl, ol + i * 3 + 1, none⟩ = some (.int .i64 mc) ∧ W.cell? ⟨gl, ol + i * 3 + 2, none⟩ = some (.slice Ax ml.length kx) ∧ W.cell? ⟨gx, 0, none⟩ = some (.int .i64 R) ∧ W.cell? ⟨gx, 1, none⟩ = some (.int .i64 C) ∧ Ext wr W) → Ext wr W := fun W hX => hX.2.2.2.2.2
        have HQ := hide hgo
        have HAT := hide hat
        have HBX := hide hBx
        clear hgo hat hBx
        by_cases hmay : MV.may ⟨mr, mc, ml⟩ = true
        · rw [hmay] at C0
          obtain ⟨q1, q2, q3, q4, q5⟩ := MV.may_iff.1 hmay
          dsimp only at q1 q2 q3 q4 q5
          have hsum : IntKind.i64.wrap (R + mr) = R + mr := by rw [IntKind.wrap_i64]; omega
          have HM := hide hmay
          have HQ5 := hide q5
          clear hmay q5
          by_cases hcc : mc = C
          · by_cases hsm : 255 < R + mr
            · have HN := hide (show (MV.zero, (13 : Int)) = res by rw [← HQ.out, if_neg]; rintro ⟨_, _, h⟩; omega)
              have hcc' : (mc != C) = false := by simpa using hcc
              clear hcc
              go_wp2_with fail
              refine wp_region_T (fun W => W.cell? ⟨gl, ol + i * 3, none⟩ = some (.int .i64 mr) ∧ W.cell? ⟨gl, ol + i * 3 + 1, none⟩ = some (.int .i64 mc) ∧ W.cell? ⟨gl, ol + i * 3 + 2, none⟩ = some (.slice Ax ml.length kx) ∧ W.cell? ⟨gx, 0, none⟩ = some (.int .i64 R) ∧ W.cell? ⟨gx, 1, none⟩ = some (.int .i64 C) ∧ Ext wr W) 26 27 #[false, false, false, false, false, false, false, false, false, false, false, false, false, false, false, false, false, false, false, false, false, false, false, false, false, false, false] (by kernel_rfl) rfl rfl (hS _ hK') ?_
              intro hS0
              refine wpAnyT_take 0 (some 21) (.slice (some ⟨gl, ol, none⟩) L.length k) #[true, false, false, false, false, false, false, false, false, false, false, false, false, false, false, false, false, false, false, false, false, false, false, false, false, false, false] rfl rfl rfl (by kernel_rfl) (fun _ _ _ h => h) hS0 (by rfl) (fun W ⟨s0, s1, s2, s3, s4, _⟩ => by go_simp) ?_
              simp only [Act.put, List.setIfInBounds_toArray, List.set_cons_zero, List.set_cons_succ]
              refine wpAnyT_take 1 (some 22) (.int .i64 (i : Int)) #[true, true, false, false, false, false, false, false, false, false, false, false, false, false, false, false, false, false, false, false, false, false, false, false, false, false, false] rfl rfl rfl (by kernel_rfl) (fun _ _ _ h => h) hS0 (by rfl) (fun W ⟨s0, s1, s2, s3, s4, _⟩ => by go_simp) ?_
              simp only [Act.put, List.setIfInBounds_toArray, List.set_cons_zero, List.set_cons_succ]
              refine wpAnyT_take 2 (some 23) (.pointer (some ⟨gl, ol + i * 3, none⟩)) #[true, true, true, false, false, false, false, false, false, false, false, false, false, false, false, false, false, false, false, false, false, false, false, false, false, false, false] rfl rfl rfl (by kernel_rfl) (fun _ _ _ h => h) hS0 (by rfl) (fun W ⟨s0, s1, s2, s3, s4, _⟩ => by go_simp) ?_
              simp only [Act.put, List.setIfInBounds_toArray, List.set_cons_zero, List.set_cons_succ]
              refine wpAnyT_take 3 (some 24) (.agg #[.int .i64 mr, .int .i64 mc, .slice Ax ml.length kx]) #[true, true, true, true, false, false, false, false, false, false, false, false, false, false, false, false, false, false, false, false, false, false, false, false, false, false, false] rfl rfl rfl (by kernel_rfl) (fun _ _ _ h => h) hS0 (by rfl) (fun W ⟨s0, s1, s2, s3, s4, _⟩ => by go_simp) ?_
              simp only [Act.put, List.setIfInBounds_toArray, List.set_cons_zero, List.set_cons_succ]
              refine wpAnyT_only 4 #[true, true, true, true, true, false, false, false, false, false, false, false, false, false, false, false, false, false, false, false, false, false, false, false, false, false, false] (by kernel_rfl) rfl rfl (by rfl) (fun K2 hK2 => ?_)
              go_simp
              go_at_call 75
              refine (C0 _).mono ?_
              rintro e w2 ⟨rfl, hE2⟩
              have hX := hK'.trans hE2
              have hS2 := hS w2 hX
              refine hK2 _ _ (fun _ => hS2) ?_
              clear hK2 K2
              refine wpAnyT_take 5 (some 26) (.bool false) #[true, true, true, true, true, true, false, false, false, false, false, false, false, false, false, false, false, false, false, false, false, false, false, false, false, false, false] rfl rfl rfl (by kernel_rfl) (fun _ _ _ h => h) hS2 (by rfl) (fun W ⟨s0, s1, s2, s3, s4, _⟩ => by go_simp) ?_
              simp only [Act.put, List.setIfInBounds_toArray, List.set_cons_zero, List.set_cons_succ]
              refine wpAnyT_take 6 (some 27) (.bool false) #[true, true, true, true, true, true, true, false, false, false, false, false, false, false, false, false, false, false, false, false, false, false, false, false, false, false, false] rfl rfl rfl (by kernel_rfl) (fun _ _ _ h => h) hS2 (by rfl) (fun W ⟨s0, s1, s2, s3, s4, _⟩ => by go_simp) ?_
              simp only [Act.put, List.setIfInBounds_toArray, List.set_cons_zero, List.set_cons_succ]
              refine wpAnyT_take 7 (some 28) (.slice (some ⟨gl, ol, none⟩) L.length k) #[true, true, true, true, true, true, true, true, false, false, false, false, false, false, false, false, false, false, false, false, false, false, false, false, false, false, false] rfl rfl rfl (by kernel_rfl) (fun _ _ _ h => h) hS2 (by rfl) (fun W ⟨s0, s1, s2, s3, s4, _⟩ => by go_simp) ?_
              simp only [Act.put, List.setIfInBounds_toArray, List.set_cons_zero, List.set_cons_succ]
              refine wpAnyT_take 8 (some 29) (.int .i64 (i : Int)) #[true, true, true, true, true, true, true, true, true, false, false, false, false, false, false, false, false, false, false, false, false, false, false, false, false, false, false] rfl rfl rfl (by kernel_rfl) (fun _ _ _ h => h) hS2 (by rfl) (fun W ⟨s0, s1, s2, s3, s4, _⟩ => by go_simp) ?_
              simp only [Act.put, List.setIfInBounds_toArray, List.set_cons_zero, List.set_cons_succ]
              refine wpAnyT_take 9 (some 30) (.pointer (some ⟨gl, ol + i * 3, none⟩)) #[true, true, true, true, true, true, true, true, true, true, false, false, false, false, false, false, false, false, false, false, false, false, false, false, false, false, false] rfl rfl rfl (by kernel_rfl) (fun _ _ _ h => h) hS2 (by rfl) (fun W ⟨s0, s1, s2, s3, s4, _⟩ => by go_simp) ?_
              simp only [Act.put, List.setIfInBounds_toArray, List.set_cons_zero, List.set_cons_succ]
              refine wpAnyT_take 10 (some 31) (.pointer (some ⟨gl, ol + i * 3 + 1, none⟩)) #[true, true, true, true, true, true, true, true, true, true, true, false, false, false, false, false, false, false, false, false, false, false, false, false, false, false, false] rfl rfl rfl (by kernel_rfl) (fun _ _ _ h => h) hS2 (by rfl) (fun W ⟨s0, s1, s2, s3, s4, _⟩ => by go_simp) ?_
              simp only [Act.put, List.setIfInBounds_toArray, List.set_cons_zero, List.set_cons_succ]
              refine wpAnyT_take 11 (some 32) (.int .i64 mc) #[true, true, true, true, true, true, true, true, true, true, true, true, false, false, false, false, false, false, false, false, false, false, false, false, false, false, false] rfl rfl rfl (by kernel_rfl) (fun _ _ _ h => h) hS2 (by rfl) (fun W ⟨s0, s1, s2, s3, s4, _⟩ => by go_simp) ?_
              simp only [Act.put, List.setIfInBounds_toArray, List.set_cons_zero, List.set_cons_succ]
              refine wpAnyT_take 12 (some 33) (.pointer (some ⟨gx, 1, none⟩)) #[true, true, true, true, true, true, true, true, true, true, true, true, true, false, false, false, false, false, false, false, false, false, false, false, false, false, false] rfl rfl rfl (by kernel_rfl) (fun _ _ _ h => h) hS2 (by rfl) (fun W ⟨s0, s1, s2, s3, s4, _⟩ => by go_simp) ?_
              simp only [Act.put, List.setIfInBounds_toArray, List.set_cons_zero, List.set_cons_succ]
              refine wpAnyT_take 13 (some 34) (.int .i64 C) #[true, true, true, true, true, true, true, true, true, true, true, true, true, true, false, false, false, false, false, false, false, false, false, false, false, false, false] rfl rfl rfl (by kernel_rfl) (fun _ _ _ h => h) hS2 (by rfl) (fun W ⟨s0, s1, s2, s3, s4, _⟩ => by go_simp) ?_
              simp only [Act.put, List.setIfInBounds_toArray, List.set_cons_zero, List.set_cons_succ]
              refine wpAnyT_take 14 (some 35) (.bool false) #[true, true, true, true, true, true, true, true, true, true, true, true, true, true, true, false, false, false, false, false, false, false, false, false, false, false, false] rfl rfl rfl (by kernel_rfl) (fun _ _ _ h => h) hS2 (by rfl) (fun W ⟨s0, s1, s2, s3, s4, _⟩ => by go_simp) ?_
              simp only [Act.put, List.setIfInBounds_toArray, List.set_cons_zero, List.set_cons_succ]
              refine wpAnyT_take 15 (some 36) (.bool false) #[true, true, true, true, true, true, true, true, true, true, true, true, true, true, true, true, false, false, false, false, false, false, false, false, false, false, false] rfl rfl rfl (by kernel_rfl) (fun _ _ _ h => h) hS2 (by rfl) (fun W ⟨s0, s1, s2, s3, s4, _⟩ => by go_simp) ?_
              simp only [Act.put, List.setIfInBounds_toArray, List.set_cons_zero, List.set_cons_succ]
              refine wpAnyT_take 16 (some 37) (.bool false) #[true, true, true, true, true, true, true, true, true, true, true, true, true, true, true, true, true, false, false, false, false, false, false, false, false, false, false] rfl rfl rfl (by kernel_rfl) (fun _ _ _ h => h) hS2 (by rfl) (fun W ⟨s0, s1, s2, s3, s4, _⟩ => by go_simp) ?_
              simp only [Act.put, List.setIfInBounds_toArray, List.set_cons_zero, List.set_cons_succ]
              refine wpAnyT_take 17 (some 38) (.pointer (some ⟨gx, 0, none⟩)) #[true, true, true, true, true, true, true, true, true, true, true, true, true, true, true, true, true, true, false, false, false, false, false, false, false, false, false] rfl rfl rfl (by kernel_rfl) (fun _ _ _ h => h) hS2 (by rfl) (fun W ⟨s0, s1, s2, s3, s4, _⟩ => by go_simp) ?_
              simp only [Act.put, List.setIfInBounds_toArray, List.set_cons_zero, List.set_cons_succ]
              refine wpAnyT_take 18 (some 39) (.int .i64 R) #[true, true, true, true, true, true, true, true, true, true, true, true, true, true, true, true, true, true, true, false, false, false, false, false, false, false, false] rfl rfl rfl (by kernel_rfl) (fun _ _ _ h => h) hS2 (by rfl) (fun W ⟨s0, s1, s2, s3, s4, _⟩ => by go_simp) ?_
              simp only [Act.put, List.setIfInBounds_toArray, List.set_cons_zero, List.set_cons_succ]
              refine wpAnyT_take 19 (some 40) (.slice (some ⟨gl, ol, none⟩) L.length k) #[true, true, true, true, true, true, true, true, true, true, true, true, true, true, true, true, true, true, true, true, false, false, false, false, false, false, false] rfl rfl rfl (by kernel_rfl) (fun _ _ _ h => h) hS2 (by rfl) (fun W ⟨s0, s1, s2, s3, s4, _⟩ => by go_simp) ?_
              simp only [Act.put, List.setIfInBounds_toArray, List.set_cons_zero, List.set_cons_succ]
              refine wpAnyT_take 20 (some 41) (.int .i64 (i : Int)) #[true, true, true, true, true, true, true, true, true, true, true, true, true, true, true, true, true, true, true, true, true, false, false, false, false, false, false] rfl rfl rfl (by kernel_rfl) (fun _ _ _ h => h) hS2 (by rfl) (fun W ⟨s0, s1, s2, s3, s4, _⟩ => by go_simp) ?_
              simp only [Act.put, List.setIfInBounds_toArray, List.set_cons_zero, List.set_cons_succ]
              refine wpAnyT_take 21 (some 42) (.pointer (some ⟨gl, ol + i * 3, none⟩)) #[true, true, true, true, true, true, true, true, true, true, true, true, true, true, true, true, true, true, true, true, true, true, false, false, false, false, false] rfl rfl rfl (by kernel_rfl) (fun _ _ _ h => h) hS2 (by rfl) (fun W ⟨s0, s1, s2, s3, s4, _⟩ => by go_simp) ?_
              simp only [Act.put, List.setIfInBounds_toArray, List.set_cons_zero, List.set_cons_succ]
              refine wpAnyT_take 22 (some 43) (.pointer (some ⟨gl, ol + i * 3, none⟩)) #[true, true, true, true, true, true, true, true, true, true, true, true, true, true, true, true, true, true, true, true, true, true, true, false, false, false, false] rfl rfl rfl (by kernel_rfl) (fun _ _ _ h => h) hS2 (by rfl) (fun W ⟨s0, s1, s2, s3, s4, _⟩ => by go_simp) ?_
              simp only [Act.put, List.setIfInBounds_toArray, List.set_cons_zero, List.set_cons_succ]
              refine wpAnyT_take 23 (some 44) (.int .i64 mr) #[true, true, true, true, true, true, true, true, true, true, true, true, true, true, true, true, true, true, true, true, true, true, true, true, false, false, false] rfl rfl rfl (by kernel_rfl) (fun _ _ _ h => h) hS2 (by rfl) (fun W ⟨s0, s1, s2, s3, s4, _⟩ => by go_simp) ?_
              simp only [Act.put, List.setIfInBounds_toArray, List.set_cons_zero, List.set_cons_succ]
              refine wpAnyT_take 24 (some 45) (.int .i64 (R + mr)) #[true, true, true, true, true, true, true, true, true, true, true, true, true, true, true, true, true, true, true, true, true, true, true, true, true, false, false] rfl rfl rfl (by kernel_rfl) (fun _ _ _ h => h) hS2 (by rfl) (fun W ⟨s0, s1, s2, s3, s4, _⟩ => by go_simp) ?_
              simp only [Act.put, List.setIfInBounds_toArray, List.set_cons_zero, List.set_cons_succ]
              refine wpAnyT_take 25 (some 46) (.bool true) #[true, true, true, true, true, true, true, true, true, true, true, true, true, true, true, true, true, true, true, true, true, true, true, true, true, true, false] rfl rfl rfl (by kernel_rfl) (fun _ _ _ h => h) hS2 (by rfl) (fun W ⟨s0, s1, s2, s3, s4, _⟩ => by go_simp) ?_
              simp only [Act.put, List.setIfInBounds_toArray, List.set_cons_zero, List.set_cons_succ]
              refine wpAnyT_only 26 #[true, true, true, true, true, true, true, true, true, true, true, true, true, true, true, true, true, true, true, true, true, true, true, true, true, true, true] (by kernel_rfl) rfl rfl (by rfl) (fun K2 hK2 => ?_)
              go_simp
              refine hK2 _ _ (fun h => absurd h (by decide)) ?_
              clear hK2 K2
              refine wpAnyT_done (by kernel_rfl) ?_ _
              have hWz := hWrr.ext hX
              go_wp2_with (refine wpList_storeW rfl 76 (.tmp 2) (.tmp 48) rfl rfl rfl hWz rfl mat_info (mat_one rfl) ?_; intro w5 hW5 hG5 _)
              refine bodyPost_ret (results_mat rfl _ rfl rfl hW5 rfl) rfl ?_
              rw [← HN.out]
              exact MadeM.zero 13 (Below.grown (hEr.trans hX) hG5 (hEr.trans hX).le (fun k hk => by cases hk; omega))
            · have HY := hide (show stackGo C (R + mr) (l ++ ml) ((L.map MIn.m).drop (i + 1)) = res by rw [← HQ.out, if_pos]; exact ⟨HM.out, hcc, by omega⟩)
              have hcc' : (mc != C) = false := by simpa using hcc
              clear hcc
              go_wp2_with fail
              refine wp_region_T (fun W => W.cell? ⟨gl, ol + i * 3, none⟩ = some (.int .i64 mr) ∧ W.cell? ⟨gl, ol + i * 3 + 1, none⟩ = some (.int .i64 mc) ∧ W.cell? ⟨gl, ol + i * 3 + 2, none⟩ = some (.slice Ax ml.length kx) ∧ W.cell? ⟨gx, 0, none⟩ = some (.int .i64 R) ∧ W.cell? ⟨gx, 1, none⟩ = some (.int .i64 C) ∧ Ext wr W) 26 27 #[false, false, false, false, false, false, false, false, false, false, false, false, false, false, false, false, false, false, false, false, false, false, false, false, false, false, false] (by kernel_rfl) rfl rfl (hS _ hK') ?_
              intro hS0
              refine wpAnyT_take 0 (some 21) (.slice (some ⟨gl, ol, none⟩) L.length k) #[true, false, false, false, false, false, false, false, false, false, false, false, false, false, false, false, false, false, false, false, false, false, false, false, false, false, false] rfl rfl rfl (by kernel_rfl) (fun _ _ _ h => h) hS0 (by rfl) (fun W ⟨s0, s1, s2, s3, s4, _⟩ => by go_simp) ?_
              simp only [Act.put, List.setIfInBounds_toArray, List.set_cons_zero, List.set_cons_succ]
              refine wpAnyT_take 1 (some 22) (.int .i64 (i : Int)) #[true, true, false, false, false, false, false, false, false, false, false, false, false, false, false, false, false, false, false, false, false, false, false, false, false, false, false] rfl rfl rfl (by kernel_rfl) (fun _ _ _ h => h) hS0 (by rfl) (fun W ⟨s0, s1, s2, s3, s4, _⟩ => by go_simp) ?_
              simp only [Act.put, List.setIfInBounds_toArray, List.set_cons_zero, List.set_cons_succ]
              refine wpAnyT_take 2 (some 23) (.pointer (some ⟨gl, ol + i * 3, none⟩)) #[true, true, true, false, false, false, false, false, false, false, false, false, false, false, false, false, false, false, false, false, false, false, false, false, false, false, false] rfl rfl rfl (by kernel_rfl) (fun _ _ _ h => h) hS0 (by rfl) (fun W ⟨s0, s1, s2, s3, s4, _⟩ => by go_simp) ?_
              simp only [Act.put, List.setIfInBounds_toArray, List.set_cons_zero, List.set_cons_succ]
              refine wpAnyT_take 3 (some 24) (.agg #[.int .i64 mr, .int .i64 mc, .slice Ax ml.length kx]) #[true, true, true, true, false, false, false, false, false, false, false, false, false, false, false, false, false, false, false, false, false, false, false, false, false, false, false] rfl rfl rfl (by kernel_rfl) (fun _ _ _ h => h) hS0 (by rfl) (fun W ⟨s0, s1, s2, s3, s4, _⟩ => by go_simp) ?_
              simp only [Act.put, List.setIfInBounds_toArray, List.set_cons_zero, List.set_cons_succ]
              refine wpAnyT_only 4 #[true, true, true, true, true, false, false, false, false, false, false, false, false, false, false, false, false, false, false, false, false, false, false, false, false, false, false] (by kernel_rfl) rfl rfl (by rfl) (fun K2 hK2 => ?_)
              go_simp
              go_at_call 75
              refine (C0 _).mono ?_
              rintro e w2 ⟨rfl, hE2⟩
              have hX := hK'.trans hE2
              have hS2 := hS w2 hX
              refine hK2 _ _ (fun _ => hS2) ?_
              clear hK2 K2
              refine wpAnyT_take 5 (some 26) (.bool false) #[true, true, true, true, true, true, false, false, false, false, false, false, false, false, false, false, false, false, false, false, false, false, false, false, false, false, false] rfl rfl rfl (by kernel_rfl) (fun _ _ _ h => h) hS2 (by rfl) (fun W ⟨s0, s1, s2, s3, s4, _⟩ => by go_simp) ?_
              simp only [Act.put, List.setIfInBounds_toArray, List.set_cons_zero, List.set_cons_succ]
              refine wpAnyT_take 6 (some 27) (.bool false) #[true, true, true, true, true, true, true, false, false, false, false, false, false, false, false, false, false, false, false, false, false, false, false, false, false, false, false] rfl rfl rfl (by kernel_rfl) (fun _ _ _ h => h) hS2 (by rfl) (fun W ⟨s0, s1, s2, s3, s4, _⟩ => by go_simp) ?_
              simp only [Act.put, List.setIfInBounds_toArray, List.set_cons_zero, List.set_cons_succ]
              refine wpAnyT_take 7 (some 28) (.slice (some ⟨gl, ol, none⟩) L.length k) #[true, true, true, true, true, true, true, true, false, false, false, false, false, false, false, false, false, false, false, false, false, false, false, false, false, false, false] rfl rfl rfl (by kernel_rfl) (fun _ _ _ h => h) hS2 (by rfl) (fun W ⟨s0, s1, s2, s3, s4, _⟩ => by go_simp) ?_
              simp only [Act.put, List.setIfInBounds_toArray, List.set_cons_zero, List.set_cons_succ]
              refine wpAnyT_take 8 (some 29) (.int .i64 (i : Int)) #[true, true, true, true, true, true, true, true, true, false, false, false, false, false, false, false, false, false, false, false, false, false, false, false, false, false, false] rfl rfl rfl (by kernel_rfl) (fun _ _ _ h => h) hS2 (by rfl) (fun W ⟨s0, s1, s2, s3, s4, _⟩ => by go_simp) ?_
              simp only [Act.put, List.setIfInBounds_toArray, List.set_cons_zero, List.set_cons_succ]
              refine wpAnyT_take 9 (some 30) (.pointer (some ⟨gl, ol + i * 3, none⟩)) #[true, true, true, true, true, true, true, true, true, true, false, false, false, false, false, false, false, false, false, false, false, false, false, false, false, false, false] rfl rfl rfl (by kernel_rfl) (fun _ _ _ h => h) hS2 (by rfl) (fun W ⟨s0, s1, s2, s3, s4, _⟩ => by go_simp) ?_
              simp only [Act.put, List.setIfInBounds_toArray, List.set_cons_zero, List.set_cons_succ]
              refine wpAnyT_take 10 (some 31) (.pointer (some ⟨gl, ol + i * 3 + 1, none⟩)) #[true, true, true, true, true, true, true, true, true, true, true, false, false, false, false, false, false, false, false, false, false, false, false, false, false, false, false] rfl rfl rfl (by kernel_rfl) (fun _ _ _ h => h) hS2 (by rfl) (fun W ⟨s0, s1, s2, s3, s4, _⟩ => by go_simp) ?_
              simp only [Act.put, List.setIfInBounds_toArray, List.set_cons_zero, List.set_cons_succ]
              refine wpAnyT_take 11 (some 32) (.int .i64 mc) #[true, true, true, true, true, true, true, true, true, true, true, true, false, false, false, false, false, false, false, false, false, false, false, false, false, false, false] rfl rfl rfl (by kernel_rfl) (fun _ _ _ h => h) hS2 (by rfl) (fun W ⟨s0, s1, s2, s3, s4, _⟩ => by go_simp) ?_
              simp only [Act.put, List.setIfInBounds_toArray, List.set_cons_zero, List.set_cons_succ]
              refine wpAnyT_take 12 (some 33) (.pointer (some ⟨gx, 1, none⟩)) #[true, true, true, true, true, true, true, true, true, true, true, true, true, false, false, false, false, false, false, false, false, false, false, false, false, false, false] rfl rfl rfl (by kernel_rfl) (fun _ _ _ h => h) hS2 (by rfl) (fun W ⟨s0, s1, s2, s3, s4, _⟩ => by go_simp) ?_
              simp only [Act.put, List.setIfInBounds_toArray, List.set_cons_zero, List.set_cons_succ]
              refine wpAnyT_take 13 (some 34) (.int .i64 C) #[true, true, true, true, true, true, true, true, true, true, true, true, true, true, false, false, false, false, false, false, false, false, false, false, false, false, false] rfl rfl rfl (by kernel_rfl) (fun _ _ _ h => h) hS2 (by rfl) (fun W ⟨s0, s1, s2, s3, s4, _⟩ => by go_simp) ?_
              simp only [Act.put, List.setIfInBounds_toArray, List.set_cons_zero, List.set_cons_succ]
              refine wpAnyT_take 14 (some 35) (.bool false) #[true, true, true, true, true, true, true, true, true, true, true, true, true, true, true, false, false, false, false, false, false, false, false, false, false, false, false] rfl rfl rfl (by kernel_rfl) (fun _ _ _ h => h) hS2 (by rfl) (fun W ⟨s0, s1, s2, s3, s4, _⟩ => by go_simp) ?_
              simp only [Act.put, List.setIfInBounds_toArray, List.set_cons_zero, List.set_cons_succ]
              refine wpAnyT_take 15 (some 36) (.bool false) #[true, true, true, true, true, true, true, true, true, true, true, true, true, true, true, true, false, false, false, false, false, false, false, false, false, false, false] rfl rfl rfl (by kernel_rfl) (fun _ _ _ h => h) hS2 (by rfl) (fun W ⟨s0, s1, s2, s3, s4, _⟩ => by go_simp) ?_
              simp only [Act.put, List.setIfInBounds_toArray, List.set_cons_zero, List.set_cons_succ]
              refine wpAnyT_take 16 (some 37) (.bool false) #[true, true, true, true, true, true, true, true, true, true, true, true, true, true, true, true, true, false, false, false, false, false, false, false, false, false, false] rfl rfl rfl (by kernel_rfl) (fun _ _ _ h => h) hS2 (by rfl) (fun W ⟨s0, s1, s2, s3, s4, _⟩ => by go_simp) ?_
              simp only [Act.put, List.setIfInBounds_toArray, List.set_cons_zero, List.set_cons_succ]
              refine wpAnyT_take 17 (some 38) (.pointer (some ⟨gx, 0, none⟩)) #[true, true, true, true, true, true, true, true, true, true, true, true, true, true, true, true, true, true, false, false, false, false, false, false, false, false, false] rfl rfl rfl (by kernel_rfl) (fun _ _ _ h => h) hS2 (by rfl) (fun W ⟨s0, s1, s2, s3, s4, _⟩ => by go_simp) ?_
              simp only [Act.put, List.setIfInBounds_toArray, List.set_cons_zero, List.set_cons_succ]
              refine wpAnyT_take 18 (some 39) (.int .i64 R) #[true, true, true, true, true, true, true, true, true, true, true, true, true, true, true, true, true, true, true, false, false, false, false, false, false, false, false] rfl rfl rfl (by kernel_rfl) (fun _ _ _ h => h) hS2 (by rfl) (fun W ⟨s0, s1, s2, s3, s4, _⟩ => by go_simp) ?_
              simp only [Act.put, List.setIfInBounds_toArray, List.set_cons_zero, List.set_cons_succ]
              refine wpAnyT_take 19 (some 40) (.slice (some ⟨gl, ol, none⟩) L.length k) #[true, true, true, true, true, true, true, true, true, true, true, true, true, true, true, true, true, true, true, true, false, false, false, false, false, false, false] rfl rfl rfl (by kernel_rfl) (fun _ _ _ h => h) hS2 (by rfl) (fun W ⟨s0, s1, s2, s3, s4, _⟩ => by go_simp) ?_
              simp only [Act.put, List.setIfInBounds_toArray, List.set_cons_zero, List.set_cons_succ]
              refine wpAnyT_take 20 (some 41) (.int .i64 (i : Int)) #[true, true, true, true, true, true, true, true, true, true, true, true, true, true, true, true, true, true, true, true, true, false, false, false, false, false, false] rfl rfl rfl (by kernel_rfl) (fun _ _ _ h => h) hS2 (by rfl) (fun W ⟨s0, s1, s2, s3, s4, _⟩ => by go_simp) ?_
              simp only [Act.put, List.setIfInBounds_toArray, List.set_cons_zero, List.set_cons_succ]
              refine wpAnyT_take 21 (some 42) (.pointer (some ⟨gl, ol + i * 3, none⟩)) #[true, true, true, true, true, true, true, true, true, true, true, true, true, true, true, true, true, true, true, true, true, true, false, false, false, false, false] rfl rfl rfl (by kernel_rfl) (fun _ _ _ h => h) hS2 (by rfl) (fun W ⟨s0, s1, s2, s3, s4, _⟩ => by go_simp) ?_
              simp only [Act.put, List.setIfInBounds_toArray, List.set_cons_zero, List.set_cons_succ]
              refine wpAnyT_take 22 (some 43) (.pointer (some ⟨gl, ol + i * 3, none⟩)) #[true, true, true, true, true, true, true, true, true, true, true, true, true, true, true, true, true, true, true, true, true, true, true, false, false, false, false] rfl rfl rfl (by kernel_rfl) (fun _ _ _ h => h) hS2 (by rfl) (fun W ⟨s0, s1, s2, s3, s4, _⟩ => by go_simp) ?_
              simp only [Act.put, List.setIfInBounds_toArray, List.set_cons_zero, List.set_cons_succ]
              refine wpAnyT_take 23 (some 44) (.int .i64 mr) #[true, true, true, true, true, true, true, true, true, true, true, true, true, true, true, true, true, true, true, true, true, true, true, true, false, false, false] rfl rfl rfl (by kernel_rfl) (fun _ _ _ h => h) hS2 (by rfl) (fun W ⟨s0, s1, s2, s3, s4, _⟩ => by go_simp) ?_
              simp only [Act.put, List.setIfInBounds_toArray, List.set_cons_zero, List.set_cons_succ]
              refine wpAnyT_take 24 (some 45) (.int .i64 (R + mr)) #[true, true, true, true, true, true, true, true, true, true, true, true, true, true, true, true, true, true, true, true, true, true, true, true, true, false, false] rfl rfl rfl (by kernel_rfl) (fun _ _ _ h => h) hS2 (by rfl) (fun W ⟨s0, s1, s2, s3, s4, _⟩ => by go_simp) ?_
              simp only [Act.put, List.setIfInBounds_toArray, List.set_cons_zero, List.set_cons_succ]
              refine wpAnyT_take 25 (some 46) (.bool false) #[true, true, true, true, true, true, true, true, true, true, true, true, true, true, true, true, true, true, true, true, true, true, true, true, true, true, false] rfl rfl rfl (by kernel_rfl) (fun _ _ _ h => h) hS2 (by rfl) (fun W ⟨s0, s1, s2, s3, s4, _⟩ => by go_simp) ?_
              simp only [Act.put, List.setIfInBounds_toArray, List.set_cons_zero, List.set_cons_succ]
              refine wpAnyT_only 26 #[true, true, true, true, true, true, true, true, true, true, true, true, true, true, true, true, true, true, true, true, true, true, true, true, true, true, true] (by kernel_rfl) rfl rfl (by rfl) (fun K2 hK2 => ?_)
              go_simp
              refine hK2 _ _ (fun h => absurd h (by decide)) ?_
              clear hK2 K2
              refine wpAnyT_done (by kernel_rfl) ?_ _
              have hp1 : mr * mc ≤ mr * 255 := Int.mul_le_mul_of_nonneg_left q4 q1
              have hml : (ml.length : Int) ≤ 255 * mr := by have := HQ5.out; omega
              have hfit : l.length + ml.length ≤ 140737488355328 := by omega
              have HML := hide hml
              have HSM := hide (show R + mr ≤ 255 by omega)
              have hEd := hX.drew
              have hWd := hWv.ext hEd
              have hOd := hO.ext hEd
              have hWrd := hWrr.ext hEd
              have hEwd := hEr.trans hEd
              have hne1 : (Value.slice A3 n3 c3).ownBlock ≠ some gx := fun e => by
                have := (hO.lt _ e).1
                omega
              obtain ⟨s0, s1, s2, s3, s4, _⟩ := hS2
              clear hS hT hK hK' hE2 hX C0 hp1 hml b0 b1 b2 a0 a1 a2 hWv hO hWrr hsm
              go_wp2_with fail
              refine wp_region_T (fun W => W.cell? ⟨gx, 0, none⟩ = some (.int .i64 R) ∧ W.cell? ⟨gl, ol + i * 3, none⟩ = some (.int .i64 mr)) 9 10 #[false, false, false, false, false, false, false, false, false, false] (by kernel_rfl) rfl rfl ⟨s3, s0⟩ ?_
              intro hS0
              refine wpAnyT_take 0 (some 49) (.pointer (some ⟨gx, 0, none⟩)) #[true, false, false, false, false, false, false, false, false, false] rfl rfl rfl (by kernel_rfl) (fun _ _ _ h => h) hS0 (by rfl) (fun W ⟨x0, x1⟩ => by go_simp) ?_
              simp only [Act.put, List.setIfInBounds_toArray, List.set_cons_zero, List.set_cons_succ]
              refine wpAnyT_take 1 (some 50) (.int .i64 R) #[true, true, false, false, false, false, false, false, false, false] rfl rfl rfl (by kernel_rfl) (fun _ _ _ h => h) hS0 (by rfl) (fun W ⟨x0, x1⟩ => by go_simp) ?_
              simp only [Act.put, List.setIfInBounds_toArray, List.set_cons_zero, List.set_cons_succ]
              refine wpAnyT_take 2 (some 51) (.slice (some ⟨gl, ol, none⟩) L.length k) #[true, true, true, false, false, false, false, false, false, false] rfl rfl rfl (by kernel_rfl) (fun _ _ _ h => h) hS0 (by rfl) (fun W ⟨x0, x1⟩ => by go_simp) ?_
              simp only [Act.put, List.setIfInBounds_toArray, List.set_cons_zero, List.set_cons_succ]
              refine wpAnyT_take 3 (some 52) (.int .i64 (i : Int)) #[true, true, true, true, false, false, false, false, false, false] rfl rfl rfl (by kernel_rfl) (fun _ _ _ h => h) hS0 (by rfl) (fun W ⟨x0, x1⟩ => by go_simp) ?_
              simp only [Act.put, List.setIfInBounds_toArray, List.set_cons_zero, List.set_cons_succ]
              refine wpAnyT_take 4 (some 53) (.pointer (some ⟨gl, ol + i * 3, none⟩)) #[true, true, true, true, true, false, false, false, false, false] rfl rfl rfl (by kernel_rfl) (fun _ _ _ h => h) hS0 (by rfl) (fun W ⟨x0, x1⟩ => by go_simp) ?_
              simp only [Act.put, List.setIfInBounds_toArray, List.set_cons_zero, List.set_cons_succ]
              refine wpAnyT_take 5 (some 54) (.pointer (some ⟨gl, ol + i * 3, none⟩)) #[true, true, true, true, true, true, false, false, false, false] rfl rfl rfl (by kernel_rfl) (fun _ _ _ h => h) hS0 (by rfl) (fun W ⟨x0, x1⟩ => by go_simp) ?_
              simp only [Act.put, List.setIfInBounds_toArray, List.set_cons_zero, List.set_cons_succ]
              refine wpAnyT_take 6 (some 55) (.int .i64 mr) #[true, true, true, true, true, true, true, false, false, false] rfl rfl rfl (by kernel_rfl) (fun _ _ _ h => h) hS0 (by rfl) (fun W ⟨x0, x1⟩ => by go_simp) ?_
              simp only [Act.put, List.setIfInBounds_toArray, List.set_cons_zero, List.set_cons_succ]
              refine wpAnyT_take 7 (some 56) (.int .i64 (R + mr)) #[true, true, true, true, true, true, true, true, false, false] rfl rfl rfl (by kernel_rfl) (fun _ _ _ h => h) hS0 (by rfl) (fun W ⟨x0, x1⟩ => by go_simp) ?_
              simp only [Act.put, List.setIfInBounds_toArray, List.set_cons_zero, List.set_cons_succ]
              refine wpAnyT_only 8 #[true, true, true, true, true, true, true, true, true, false] (by kernel_rfl) rfl rfl (by rfl) (fun K hK => ?_)
              go_simp
              refine hK _ _ (fun _ => ⟨s3, s0⟩) ?_
              clear hK K
              refine wpAnyT_only 9 #[true, true, true, true, true, true, true, true, true, true] (by kernel_rfl) rfl rfl (by rfl) (fun K hK => ?_)
              refine wp_storeC 3 (.tmp 57) (.tmp 56) rfl #[.int .i64 (R + mr), .int .i64 C, .slice A3 n3 c3] rfl rfl hWd (by simp) (by kernel_rfl) rfl rfl rfl ?_
              intro w5 hW5 hG5
              refine hK _ _ (fun h => absurd h (by decide)) ?_
              clear hK K
              refine wpAnyT_done (by kernel_rfl) ?_ _
              clear hWd
              have hO5 := (Mod.ofRow (ob := none) hG5).own hOd hne1 (by simp [Classical.em])
              have hWr5' := hWrd.ownGrown hG5 (by simp; omega)
              have hE5 : Ext w w5 := Below.grown hEwd hG5 hEwd.le (fun k hk => by cases hk; omega)
              have t0 := HAT.out.ext hE5 hgl
              obtain ⟨_, _, t2⟩ := t0
              dsimp only at t2
              have t3 := hW5.at 2 rfl
              have hE6 := hE5.drew
              have hO6 := hO5.ext (Ext.refl w5).drew
              have hW6 := hW5.ext (Ext.refl w5).drew
              have hWr6 := hWr5'.ext (Ext.refl w5).drew
              have hB6 := hE6.bytes HBX.out
              have hB7 : gx + 1 ≤ w5.drew.heap.size := hW6.lt
              go_wp2_with fail
              refine wp_region_T (fun W => W.cell? ⟨gx, 2, none⟩ = some (.slice A3 n3 c3) ∧ W.cell? ⟨gl, ol + i * 3 + 2, none⟩ = some (.slice Ax ml.length kx)) 7 10 #[false, false, false, false, false, false, false, false, false, false] (by kernel_rfl) rfl rfl ⟨t3, t2⟩ ?_
              intro hS0
              refine wpAnyT_take 0 (some 58) (.pointer (some ⟨gx, 2, none⟩)) #[true, false, false, false, false, false, false, false, false, false] rfl rfl rfl (by kernel_rfl) (fun _ _ _ h => h) hS0 (by rfl) (fun W ⟨x0, x1⟩ => by go_simp) ?_
              simp only [Act.put, List.setIfInBounds_toArray, List.set_cons_zero, List.set_cons_succ]
              refine wpAnyT_take 1 (some 59) (.slice A3 n3 c3) #[true, true, false, false, false, false, false, false, false, false] rfl rfl rfl (by kernel_rfl) (fun _ _ _ h => h) hS0 (by rfl) (fun W ⟨x0, x1⟩ => by go_simp) ?_
              simp only [Act.put, List.setIfInBounds_toArray, List.set_cons_zero, List.set_cons_succ]
              refine wpAnyT_take 2 (some 60) (.slice (some ⟨gl, ol, none⟩) L.length k) #[true, true, true, false, false, false, false, false, false, false] rfl rfl rfl (by kernel_rfl) (fun _ _ _ h => h) hS0 (by rfl) (fun W ⟨x0, x1⟩ => by go_simp) ?_
              simp only [Act.put, List.setIfInBounds_toArray, List.set_cons_zero, List.set_cons_succ]
              refine wpAnyT_take 3 (some 61) (.int .i64 (i : Int)) #[true, true, true, true, false, false, false, false, false, false] rfl rfl rfl (by kernel_rfl) (fun _ _ _ h => h) hS0 (by rfl) (fun W ⟨x0, x1⟩ => by go_simp) ?_
              simp only [Act.put, List.setIfInBounds_toArray, List.set_cons_zero, List.set_cons_succ]
              refine wpAnyT_take 4 (some 62) (.pointer (some ⟨gl, ol + i * 3, none⟩)) #[true, true, true, true, true, false, false, false, false, false] rfl rfl rfl (by kernel_rfl) (fun _ _ _ h => h) hS0 (by rfl) (fun W ⟨x0, x1⟩ => by go_simp) ?_
              simp only [Act.put, List.setIfInBounds_toArray, List.set_cons_zero, List.set_cons_succ]
              refine wpAnyT_take 5 (some 63) (.pointer (some ⟨gl, ol + i * 3 + 2, none⟩)) #[true, true, true, true, true, true, false, false, false, false] rfl rfl rfl (by kernel_rfl) (fun _ _ _ h => h) hS0 (by rfl) (fun W ⟨x0, x1⟩ => by go_simp) ?_
              simp only [Act.put, List.setIfInBounds_toArray, List.set_cons_zero, List.set_cons_succ]
              refine wpAnyT_take 6 (some 64) (.slice Ax ml.length kx) #[true, true, true, true, true, true, true, false, false, false] rfl rfl rfl (by kernel_rfl) (fun _ _ _ h => h) hS0 (by rfl) (fun W ⟨x0, x1⟩ => by go_simp) ?_
              simp only [Act.put, List.setIfInBounds_toArray, List.set_cons_zero, List.set_cons_succ]
              refine wpAnyT_only 7 #[true, true, true, true, true, true, true, true, false, false] (by kernel_rfl) rfl rfl (by rfl) (fun K hK => ?_)
              refine wp_appAt (.tmp 59) (.tmp 64) rfl rfl hO6 rfl hB6 hfit hB7 ?_
              intro v7 w7 hO7 hG7 _
              have hW7 := hW6.ownGrown hG7 hne1
              have o1 := hO7.one
              have o2 := hO7.cells1
              refine hK _ _ (fun h => absurd h (by decide)) ?_
              clear hK K
              refine wpAnyT_only 8 #[true, true, true, true, true, true, true, true, true, false] (by kernel_rfl) rfl rfl (by rfl) (fun K hK => ?_)
              go_simp
              refine hK _ _ (fun h => absurd h (by decide)) ?_
              clear hK K
              refine wpAnyT_only 9 #[true, true, true, true, true, true, true, true, true, true] (by kernel_rfl) rfl rfl (by rfl) (fun K hK => ?_)
              refine wp_storeC 27 (.tmp 66) (.tmp 65) rfl #[.int .i64 (R + mr), .int .i64 C, v7] rfl rfl hW7 (by simp) (by kernel_rfl) o1 o2 rfl ?_
              intro w8 hW8 hG8
              refine hK _ _ (fun h => absurd h (by decide)) ?_
              clear hK K
              refine wpAnyT_done (by kernel_rfl) ?_ _
              go_wp2
              go_roundw
              case rel =>
                have hne8 : v7.ownBlock ≠ some gx := fun e => by
                  have := (hO7.lt _ e).1
                  omega
                have hne9 : v7.ownBlock ≠ some w.heap.size := fun e => by
                  have := (hO7.lt _ e).1
                  omega
                have hne10 : (Value.slice A3 n3 c3).ownBlock ≠ some w.heap.size := fun e => by
                  have := (hO6.lt _ e).1
                  omega
                have hF7 : Ext w w7 := Below.grown hE6 hG7 hE6.le (fun k hk => by have := (hO6.lt k hk).1; omega)
                have hF8 : Ext w w8 := Below.grown hF7 hG8 hF7.le (fun k hk => by cases hk; omega)
                have hWr8 := (hWr6.ownGrown hG7 hne10).ownGrown hG8 (by simp; omega)
                exact ⟨i + 1, R + mr, l ++ ml, by omega, by go_num, by omega, HSM.out, by rw [List.length_append]; have := HML.out; omega, HY.out, ⟨v7, hW8, (Mod.ofRow (ob := none) hG8).own hO7 hne8 (by simp [Classical.em])⟩, hWr8, hF8⟩
              case measure => simp [intOf]; omega
          · have HN := hide (show (MV.zero, (13 : Int)) = res by rw [← HQ.out, if_neg]; rintro ⟨_, h, _⟩; exact hcc h)
            have hcc' : (mc != C) = true := by simpa using hcc
            clear hcc
            go_wp2_with fail
            refine wp_region_T (fun W => W.cell? ⟨gl, ol + i * 3, none⟩ = some (.int .i64 mr) ∧ W.cell? ⟨gl, ol + i * 3 + 1, none⟩ = some (.int .i64 mc) ∧ W.cell? ⟨gl, ol + i * 3 + 2, none⟩ = some (.slice Ax ml.length kx) ∧ W.cell? ⟨gx, 0, none⟩ = some (.int .i64 R) ∧ W.cell? ⟨gx, 1, none⟩ = some (.int .i64 C) ∧ Ext wr W) 26 27 #[false, false, false, false, false, false, false, false, false, false, false, false, false, false, false, false, false, false, false, false, false, false, false, false, false, false, false] (by kernel_rfl) rfl rfl (hS _ hK') ?_
            intro hS0
            refine wpAnyT_take 0 (some 21) (.slice (some ⟨gl, ol, none⟩) L.length k) #[true, false, false, false, false, false, false, false, false, false, false, false, false, false, false, false, false, false, false, false, false, false, false, false, false, false, false] rfl rfl rfl (by kernel_rfl) (fun _ _ _ h => h) hS0 (by rfl) (fun W ⟨s0, s1, s2, s3, s4, _⟩ => by go_simp) ?_
            simp only [Act.put, List.setIfInBounds_toArray, List.set_cons_zero, List.set_cons_succ]
            refine wpAnyT_take 1 (some 22) (.int .i64 (i : Int)) #[true, true, false, false, false, false, false, false, false, false, false, false, false, false, false, false, false, false, false, false, false, false, false, false, false, false, false] rfl rfl rfl (by kernel_rfl) (fun _ _ _ h => h) hS0 (by rfl) (fun W ⟨s0, s1, s2, s3, s4, _⟩ => by go_simp) ?_
            simp only [Act.put, List.setIfInBounds_toArray, List.set_cons_zero, List.set_cons_succ]
            refine wpAnyT_take 2 (some 23) (.pointer (some ⟨gl, ol + i * 3, none⟩)) #[true, true, true, false, false, false, false, false, false, false, false, false, false, false, false, false, false, false, false, false, false, false, false, false, false, false, false] rfl rfl rfl (by kernel_rfl) (fun _ _ _ h => h) hS0 (by rfl) (fun W ⟨s0, s1, s2, s3, s4, _⟩ => by go_simp) ?_
            simp only [Act.put, List.setIfInBounds_toArray, List.set_cons_zero, List.set_cons_succ]
            refine wpAnyT_take 3 (some 24) (.agg #[.int .i64 mr, .int .i64 mc, .slice Ax ml.length kx]) #[true, true, true, true, false, false, false, false, false, false, false, false, false, false, false, false, false, false, false, false, false, false, false, false, false, false, false] rfl rfl rfl (by kernel_rfl) (fun _ _ _ h => h) hS0 (by rfl) (fun W ⟨s0, s1, s2, s3, s4, _⟩ => by go_simp) ?_
            simp only [Act.put, List.setIfInBounds_toArray, List.set_cons_zero, List.set_cons_succ]
            refine wpAnyT_only 4 #[true, true, true, true, true, false, false, false, false, false, false, false, false, false, false, false, false, false, false, false, false, false, false, false, false, false, false] (by kernel_rfl) rfl rfl (by rfl) (fun K2 hK2 => ?_)
            go_simp
            go_at_call 75
            refine (C0 _).mono ?_
            rintro e w2 ⟨rfl, hE2⟩
            have hX := hK'.trans hE2
            have hS2 := hS w2 hX
            refine hK2 _ _ (fun _ => hS2) ?_
            clear hK2 K2
            refine wpAnyT_take 5 (some 26) (.bool false) #[true, true, true, true, true, true, false, false, false, false, false, false, false, false, false, false, false, false, false, false, false, false, false, false, false, false, false] rfl rfl rfl (by kernel_rfl) (fun _ _ _ h => h) hS2 (by rfl) (fun W ⟨s0, s1, s2, s3, s4, _⟩ => by go_simp) ?_
            simp only [Act.put, List.setIfInBounds_toArray, List.set_cons_zero, List.set_cons_succ]
            refine wpAnyT_take 6 (some 27) (.bool false) #[true, true, true, true, true, true, true, false, false, false, false, false, false, false, false, false, false, false, false, false, false, false, false, false, false, false, false] rfl rfl rfl (by kernel_rfl) (fun _ _ _ h => h) hS2 (by rfl) (fun W ⟨s0, s1, s2, s3, s4, _⟩ => by go_simp) ?_
            simp only [Act.put, List.setIfInBounds_toArray, List.set_cons_zero, List.set_cons_succ]
            refine wpAnyT_take 7 (some 28) (.slice (some ⟨gl, ol, none⟩) L.length k) #[true, true, true, true, true, true, true, true, false, false, false, false, false, false, false, false, false, false, false, false, false, false, false, false, false, false, false] rfl rfl rfl (by kernel_rfl) (fun _ _ _ h => h) hS2 (by rfl) (fun W ⟨s0, s1, s2, s3, s4, _⟩ => by go_simp) ?_
            simp only [Act.put, List.setIfInBounds_toArray, List.set_cons_zero, List.set_cons_succ]
            refine wpAnyT_take 8 (some 29) (.int .i64 (i : Int)) #[true, true, true, true, true, true, true, true, true, false, false, false, false, false, false, false, false, false, false, false, false, false, false, false, false, false, false] rfl rfl rfl (by kernel_rfl) (fun _ _ _ h => h) hS2 (by rfl) (fun W ⟨s0, s1, s2, s3, s4, _⟩ => by go_simp) ?_
            simp only [Act.put, List.setIfInBounds_toArray, List.set_cons_zero, List.set_cons_succ]
            refine wpAnyT_take 9 (some 30) (.pointer (some ⟨gl, ol + i * 3, none⟩)) #[true, true, true, true, true, true, true, true, true, true, false, false, false, false, false, false, false, false, false, false, false, false, false, false, false, false, false] rfl rfl rfl (by kernel_rfl) (fun _ _ _ h => h) hS2 (by rfl) (fun W ⟨s0, s1, s2, s3, s4, _⟩ => by go_simp) ?_
            simp only [Act.put, List.setIfInBounds_toArray, List.set_cons_zero, List.set_cons_succ]
            refine wpAnyT_take 10 (some 31) (.pointer (some ⟨gl, ol + i * 3 + 1, none⟩)) #[true, true, true, true, true, true, true, true, true, true, true, false, false, false, false, false, false, false, false, false, false, false, false, false, false, false, false] rfl rfl rfl (by kernel_rfl) (fun _ _ _ h => h) hS2 (by rfl) (fun W ⟨s0, s1, s2, s3, s4, _⟩ => by go_simp) ?_
            simp only [Act.put, List.setIfInBounds_toArray, List.set_cons_zero, List.set_cons_succ]
            refine wpAnyT_take 11 (some 32) (.int .i64 mc) #[true, true, true, true, true, true, true, true, true, true, true, true, false, false, false, false, false, false, false, false, false, false, false, false, false, false, false] rfl rfl rfl (by kernel_rfl) (fun _ _ _ h => h) hS2 (by rfl) (fun W ⟨s0, s1, s2, s3, s4, _⟩ => by go_simp) ?_
            simp only [Act.put, List.setIfInBounds_toArray, List.set_cons_zero, List.set_cons_succ]
            refine wpAnyT_take 12 (some 33) (.pointer (some ⟨gx, 1, none⟩)) #[true, true, true, true, true, true, true, true, true, true, true, true, true, false, false, false, false, false, false, false, false, false, false, false, false, false, false] rfl rfl rfl (by kernel_rfl) (fun _ _ _ h => h) hS2 (by rfl) (fun W ⟨s0, s1, s2, s3, s4, _⟩ => by go_simp) ?_
            simp only [Act.put, List.setIfInBounds_toArray, List.set_cons_zero, List.set_cons_succ]
            refine wpAnyT_take 13 (some 34) (.int .i64 C) #[true, true, true, true, true, true, true, true, true, true, true, true, true, true, false, false, false, false, false, false, false, false, false, false, false, false, false] rfl rfl rfl (by kernel_rfl) (fun _ _ _ h => h) hS2 (by rfl) (fun W ⟨s0, s1, s2, s3, s4, _⟩ => by go_simp) ?_
            simp only [Act.put, List.setIfInBounds_toArray, List.set_cons_zero, List.set_cons_succ]
            refine wpAnyT_take 14 (some 35) (.bool true) #[true, true, true, true, true, true, true, true, true, true, true, true, true, true, true, false, false, false, false, false, false, false, false, false, false, false, false] rfl rfl rfl (by kernel_rfl) (fun _ _ _ h => h) hS2 (by rfl) (fun W ⟨s0, s1, s2, s3, s4, _⟩ => by go_simp) ?_
            simp only [Act.put, List.setIfInBounds_toArray, List.set_cons_zero, List.set_cons_succ]
            refine wpAnyT_take 15 (some 36) (.bool true) #[true, true, true, true, true, true, true, true, true, true, true, true, true, true, true, true, false, false, false, false, false, false, false, false, false, false, false] rfl rfl rfl (by kernel_rfl) (fun _ _ _ h => h) hS2 (by rfl) (fun W ⟨s0, s1, s2, s3, s4, _⟩ => by go_simp) ?_
            simp only [Act.put, List.setIfInBounds_toArray, List.set_cons_zero, List.set_cons_succ]
            refine wpAnyT_take 16 (some 37) (.bool true) #[true, true, true, true, true, true, true, true, true, true, true, true, true, true, true, true, true, false, false, false, false, false, false, false, false, false, false] rfl rfl rfl (by kernel_rfl) (fun _ _ _ h => h) hS2 (by rfl) (fun W ⟨s0, s1, s2, s3, s4, _⟩ => by go_simp) ?_
            simp only [Act.put, List.setIfInBounds_toArray, List.set_cons_zero, List.set_cons_succ]
            refine wpAnyT_skip 17 (some 38) #[true, true, true, true, true, true, true, true, true, true, true, true, true, true, true, true, true, true, false, false, false, false, false, false, false, false, false] rfl rfl rfl (by kernel_rfl) (fun _ _ _ h => h) hS2 (by rfl) ?_
            simp only [Act.put, List.setIfInBounds_toArray, List.set_cons_zero, List.set_cons_succ]
            refine wpAnyT_skip 18 (some 39) #[true, true, true, true, true, true, true, true, true, true, true, true, true, true, true, true, true, true, true, false, false, false, false, false, false, false, false] rfl rfl rfl (by kernel_rfl) (fun _ _ _ h => h) hS2 (by rfl) ?_
            simp only [Act.put, List.setIfInBounds_toArray, List.set_cons_zero, List.set_cons_succ]
            refine wpAnyT_skip 19 (some 40) #[true, true, true, true, true, true, true, true, true, true, true, true, true, true, true, true, true, true, true, true, false, false, false, false, false, false, false] rfl rfl rfl (by kernel_rfl) (fun _ _ _ h => h) hS2 (by rfl) ?_
            simp only [Act.put, List.setIfInBounds_toArray, List.set_cons_zero, List.set_cons_succ]
            refine wpAnyT_skip 20 (some 41) #[true, true, true, true, true, true, true, true, true, true, true, true, true, true, true, true, true, true, true, true, true, false, false, false, false, false, false] rfl rfl rfl (by kernel_rfl) (fun _ _ _ h => h) hS2 (by rfl) ?_
            simp only [Act.put, List.setIfInBounds_toArray, List.set_cons_zero, List.set_cons_succ]
            refine wpAnyT_skip 21 (some 42) #[true, true, true, true, true, true, true, true, true, true, true, true, true, true, true, true, true, true, true, true, true, true, false, false, false, false, false] rfl rfl rfl (by kernel_rfl) (fun _ _ _ h => h) hS2 (by rfl) ?_
            simp only [Act.put, List.setIfInBounds_toArray, List.set_cons_zero, List.set_cons_succ]
            refine wpAnyT_skip 22 (some 43) #[true, true, true, true, true, true, true, true, true, true, true, true, true, true, true, true, true, true, true, true, true, true, true, false, false, false, false] rfl rfl rfl (by kernel_rfl) (fun _ _ _ h => h) hS2 (by rfl) ?_
            simp only [Act.put, List.setIfInBounds_toArray, List.set_cons_zero, List.set_cons_succ]
            refine wpAnyT_skip 23 (some 44) #[true, true, true, true, true, true, true, true, true, true, true, true, true, true, true, true, true, true, true, true, true, true, true, true, false, false, false] rfl rfl rfl (by kernel_rfl) (fun _ _ _ h => h) hS2 (by rfl) ?_
            simp only [Act.put, List.setIfInBounds_toArray, List.set_cons_zero, List.set_cons_succ]
            refine wpAnyT_skip 24 (some 45) #[true, true, true, true, true, true, true, true, true, true, true, true, true, true, true, true, true, true, true, true, true, true, true, true, true, false, false] rfl rfl rfl (by kernel_rfl) (fun _ _ _ h => h) hS2 (by rfl) ?_
            simp only [Act.put, List.setIfInBounds_toArray, List.set_cons_zero, List.set_cons_succ]
            refine wpAnyT_skip 25 (some 46) #[true, true, true, true, true, true, true, true, true, true, true, true, true, true, true, true, true, true, true, true, true, true, true, true, true, true, false] rfl rfl rfl (by kernel_rfl) (fun _ _ _ h => h) hS2 (by rfl) ?_
            simp only [Act.put, List.setIfInBounds_toArray, List.set_cons_zero, List.set_cons_succ]
            refine wpAnyT_only 26 #[true, true, true, true, true, true, true, true, true, true, true, true, true, true, true, true, true, true, true, true, true, true, true, true, true, true, true] (by kernel_rfl) rfl rfl (by rfl) (fun K2 hK2 => ?_)
            go_simp
            refine hK2 _ _ (fun h => absurd h (by decide)) ?_
            clear hK2 K2
            refine wpAnyT_done (by kernel_rfl) ?_ _
            have hWz := hWrr.ext hX
            go_wp2_with (refine wpList_storeW rfl 76 (.tmp 2) (.tmp 48) rfl rfl rfl hWz rfl mat_info (mat_one rfl) ?_; intro w5 hW5 hG5 _)
            refine bodyPost_ret (results_mat rfl _ rfl rfl hW5 rfl) rfl ?_
            rw [← HN.out]
            exact MadeM.zero 13 (Below.grown (hEr.trans hX) hG5 (hEr.trans hX).le (fun k hk => by cases hk; omega))
        · have HN := hide (show (MV.zero, (13 : Int)) = res by rw [← HQ.out, if_neg]; rintro ⟨h, _⟩; exact hmay h)
          rw [Bool.not_eq_true] at hmay
          rw [hmay] at C0
          clear hmay
          go_wp2_with fail
          refine wp_region_T (fun W => W.cell? ⟨gl, ol + i * 3, none⟩ = some (.int .i64 mr) ∧ W.cell? ⟨gl, ol + i * 3 + 1, none⟩ = some (.int .i64 mc) ∧ W.cell? ⟨gl, ol + i * 3 + 2, none⟩ = some (.slice Ax ml.length kx) ∧ W.cell? ⟨gx, 0, none⟩ = some (.int .i64 R) ∧ W.cell? ⟨gx, 1, none⟩ = some (.int .i64 C) ∧ Ext wr W) 26 27 #[false, false, false, false, false, false, false, false, false, false, false, false, false, false, false, false, false, false, false, false, false, false, false, false, false, false, false] (by kernel_rfl) rfl rfl (hS _ hK') ?_
          intro hS0
          refine wpAnyT_take 0 (some 21) (.slice (some ⟨gl, ol, none⟩) L.length k) #[true, false, false, false, false, false, false, false, false, false, false, false, false, false, false, false, false, false, false, false, false, false, false, false, false, false, false] rfl rfl rfl (by kernel_rfl) (fun _ _ _ h => h) hS0 (by rfl) (fun W ⟨s0, s1, s2, s3, s4, _⟩ => by go_simp) ?_
          simp only [Act.put, List.setIfInBounds_toArray, List.set_cons_zero, List.set_cons_succ]
          refine wpAnyT_take 1 (some 22) (.int .i64 (i : Int)) #[true, true, false, false, false, false, false, false, false, false, false, false, false, false, false, false, false, false, false, false, false, false, false, false, false, false, false] rfl rfl rfl (by kernel_rfl) (fun _ _ _ h => h) hS0 (by rfl) (fun W ⟨s0, s1, s2, s3, s4, _⟩ => by go_simp) ?_
          simp only [Act.put, List.setIfInBounds_toArray, List.set_cons_zero, List.set_cons_succ]
          refine wpAnyT_take 2 (some 23) (.pointer (some ⟨gl, ol + i * 3, none⟩)) #[true, true, true, false, false, false, false, false, false, false, false, false, false, false, false, false, false, false, false, false, false, false, false, false, false, false, false] rfl rfl rfl (by kernel_rfl) (fun _ _ _ h => h) hS0 (by rfl) (fun W ⟨s0, s1, s2, s3, s4, _⟩ => by go_simp) ?_
          simp only [Act.put, List.setIfInBounds_toArray, List.set_cons_zero, List.set_cons_succ]
          refine wpAnyT_take 3 (some 24) (.agg #[.int .i64 mr, .int .i64 mc, .slice Ax ml.length kx]) #[true, true, true, true, false, false, false, false, false, false, false, false, false, false, false, false, false, false, false, false, false, false, false, false, false, false, false] rfl rfl rfl (by kernel_rfl) (fun _ _ _ h => h) hS0 (by rfl) (fun W ⟨s0, s1, s2, s3, s4, _⟩ => by go_simp) ?_
          simp only [Act.put, List.setIfInBounds_toArray, List.set_cons_zero, List.set_cons_succ]
          refine wpAnyT_only 4 #[true, true, true, true, true, false, false, false, false, false, false, false, false, false, false, false, false, false, false, false, false, false, false, false, false, false, false] (by kernel_rfl) rfl rfl (by rfl) (fun K2 hK2 => ?_)
          go_simp
          go_at_call 75
          refine (C0 _).mono ?_
          rintro e w2 ⟨rfl, hE2⟩
          have hX := hK'.trans hE2
          have hS2 := hS w2 hX
          refine hK2 _ _ (fun _ => hS2) ?_
          clear hK2 K2
          refine wpAnyT_take 5 (some 26) (.bool true) #[true, true, true, true, true, true, false, false, false, false, false, false, false, false, false, false, false, false, false, false, false, false, false, false, false, false, false] rfl rfl rfl (by kernel_rfl) (fun _ _ _ h => h) hS2 (by rfl) (fun W ⟨s0, s1, s2, s3, s4, _⟩ => by go_simp) ?_
          simp only [Act.put, List.setIfInBounds_toArray, List.set_cons_zero, List.set_cons_succ]
          refine wpAnyT_take 6 (some 27) (.bool true) #[true, true, true, true, true, true, true, false, false, false, false, false, false, false, false, false, false, false, false, false, false, false, false, false, false, false, false] rfl rfl rfl (by kernel_rfl) (fun _ _ _ h => h) hS2 (by rfl) (fun W ⟨s0, s1, s2, s3, s4, _⟩ => by go_simp) ?_
          simp only [Act.put, List.setIfInBounds_toArray, List.set_cons_zero, List.set_cons_succ]
          refine wpAnyT_skip 7 (some 28) #[true, true, true, true, true, true, true, true, false, false, false, false, false, false, false, false, false, false, false, false, false, false, false, false, false, false, false] rfl rfl rfl (by kernel_rfl) (fun _ _ _ h => h) hS2 (by rfl) ?_
          simp only [Act.put, List.setIfInBounds_toArray, List.set_cons_zero, List.set_cons_succ]
          refine wpAnyT_skip 8 (some 29) #[true, true, true, true, true, true, true, true, true, false, false, false, false, false, false, false, false, false, false, false, false, false, false, false, false, false, false] rfl rfl rfl (by kernel_rfl) (fun _ _ _ h => h) hS2 (by rfl) ?_
          simp only [Act.put, List.setIfInBounds_toArray, List.set_cons_zero, List.set_cons_succ]
          refine wpAnyT_skip 9 (some 30) #[true, true, true, true, true, true, true, true, true, true, false, false, false, false, false, false, false, false, false, false, false, false, false, false, false, false, false] rfl rfl rfl (by kernel_rfl) (fun _ _ _ h => h) hS2 (by rfl) ?_
          simp only [Act.put, List.setIfInBounds_toArray, List.set_cons_zero, List.set_cons_succ]
          refine wpAnyT_skip 10 (some 31) #[true, true, true, true, true, true, true, true, true, true, true, false, false, false, false, false, false, false, false, false, false, false, false, false, false, false, false] rfl rfl rfl (by kernel_rfl) (fun _ _ _ h => h) hS2 (by rfl) ?_
          simp only [Act.put, List.setIfInBounds_toArray, List.set_cons_zero, List.set_cons_succ]
          refine wpAnyT_skip 11 (some 32) #[true, true, true, true, true, true, true, true, true, true, true, true, false, false, false, false, false, false, false, false, false, false, false, false, false, false, false] rfl rfl rfl (by kernel_rfl) (fun _ _ _ h => h) hS2 (by rfl) ?_
          simp only [Act.put, List.setIfInBounds_toArray, List.set_cons_zero, List.set_cons_succ]
          refine wpAnyT_skip 12 (some 33) #[true, true, true, true, true, true, true, true, true, true, true, true, true, false, false, false, false, false, false, false, false, false, false, false, false, false, false] rfl rfl rfl (by kernel_rfl) (fun _ _ _ h => h) hS2 (by rfl) ?_
          simp only [Act.put, List.setIfInBounds_toArray, List.set_cons_zero, List.set_cons_succ]
          refine wpAnyT_skip 13 (some 34) #[true, true, true, true, true, true, true, true, true, true, true, true, true, true, false, false, false, false, false, false, false, false, false, false, false, false, false] rfl rfl rfl (by kernel_rfl) (fun _ _ _ h => h) hS2 (by rfl) ?_
          simp only [Act.put, List.setIfInBounds_toArray, List.set_cons_zero, List.set_cons_succ]
          refine wpAnyT_skip 14 (some 35) #[true, true, true, true, true, true, true, true, true, true, true, true, true, true, true, false, false, false, false, false, false, false, false, false, false, false, false] rfl rfl rfl (by kernel_rfl) (fun _ _ _ h => h) hS2 (by rfl) ?_
          simp only [Act.put, List.setIfInBounds_toArray, List.set_cons_zero, List.set_cons_succ]
          refine wpAnyT_take 15 (some 36) (.bool true) #[true, true, true, true, true, true, true, true, true, true, true, true, true, true, true, true, false, false, false, false, false, false, false, false, false, false, false] rfl rfl rfl (by kernel_rfl) (fun _ _ _ h => h) hS2 (by rfl) (fun W ⟨s0, s1, s2, s3, s4, _⟩ => by go_simp) ?_
          simp only [Act.put, List.setIfInBounds_toArray, List.set_cons_zero, List.set_cons_succ]
          refine wpAnyT_take 16 (some 37) (.bool true) #[true, true, true, true, true, true, true, true, true, true, true, true, true, true, true, true, true, false, false, false, false, false, false, false, false, false, false] rfl rfl rfl (by kernel_rfl) (fun _ _ _ h => h) hS2 (by rfl) (fun W ⟨s0, s1, s2, s3, s4, _⟩ => by go_simp) ?_
          simp only [Act.put, List.setIfInBounds_toArray, List.set_cons_zero, List.set_cons_succ]
          refine wpAnyT_skip 17 (some 38) #[true, true, true, true, true, true, true, true, true, true, true, true, true, true, true, true, true, true, false, false, false, false, false, false, false, false, false] rfl rfl rfl (by kernel_rfl) (fun _ _ _ h => h) hS2 (by rfl) ?_
          simp only [Act.put, List.setIfInBounds_toArray, List.set_cons_zero, List.set_cons_succ]
          refine wpAnyT_skip 18 (some 39) #[true, true, true, true, true, true, true, true, true, true, true, true, true, true, true, true, true, true, true, false, false, false, false, false, false, false, false] rfl rfl rfl (by kernel_rfl) (fun _ _ _ h => h) hS2 (by rfl) ?_
          simp only [Act.put, List.setIfInBounds_toArray, List.set_cons_zero, List.set_cons_succ]
          refine wpAnyT_skip 19 (some 40) #[true, true, true, true, true, true, true, true, true, true, true, true, true, true, true, true, true, true, true, true, false, false, false, false, false, false, false] rfl rfl rfl (by kernel_rfl) (fun _ _ _ h => h) hS2 (by rfl) ?_
          simp only [Act.put, List.setIfInBounds_toArray, List.set_cons_zero, List.set_cons_succ]
          refine wpAnyT_skip 20 (some 41) #[true, true, true, true, true, true, true, true, true, true, true, true, true, true, true, true, true, true, true, true, true, false, false, false, false, false, false] rfl rfl rfl (by kernel_rfl) (fun _ _ _ h => h) hS2 (by rfl) ?_
          simp only [Act.put, List.setIfInBounds_toArray, List.set_cons_zero, List.set_cons_succ]
          refine wpAnyT_skip 21 (some 42) #[true, true, true, true, true, true, true, true, true, true, true, true, true, true, true, true, true, true, true, true, true, true, false, false, false, false, false] rfl rfl rfl (by kernel_rfl) (fun _ _ _ h => h) hS2 (by rfl) ?_
          simp only [Act.put, List.setIfInBounds_toArray, List.set_cons_zero, List.set_cons_succ]
          refine wpAnyT_skip 22 (some 43) #[true, true, true, true, true, true, true, true, true, true, true, true, true, true, true, true, true, true, true, true, true, true, true, false, false, false, false] rfl rfl rfl (by kernel_rfl) (fun _ _ _ h => h) hS2 (by rfl) ?_
          simp only [Act.put, List.setIfInBounds_toArray, List.set_cons_zero, List.set_cons_succ]
          refine wpAnyT_skip 23 (some 44) #[true, true, true, true, true, true, true, true, true, true, true, true, true, true, true, true, true, true, true, true, true, true, true, true, false, false, false] rfl rfl rfl (by kernel_rfl) (fun _ _ _ h => h) hS2 (by rfl) ?_
          simp only [Act.put, List.setIfInBounds_toArray, List.set_cons_zero, List.set_cons_succ]
          refine wpAnyT_skip 24 (some 45) #[true, true, true, true, true, true, true, true, true, true, true, true, true, true, true, true, true, true, true, true, true, true, true, true, true, false, false] rfl rfl rfl (by kernel_rfl) (fun _ _ _ h => h) hS2 (by rfl) ?_
          simp only [Act.put, List.setIfInBounds_toArray, List.set_cons_zero, List.set_cons_succ]
          refine wpAnyT_skip 25 (some 46) #[true, true, true, true, true, true, true, true, true, true, true, true, true, true, true, true, true, true, true, true, true, true, true, true, true, true, false] rfl rfl rfl (by kernel_rfl) (fun _ _ _ h => h) hS2 (by rfl) ?_
          simp only [Act.put, List.setIfInBounds_toArray, List.set_cons_zero, List.set_cons_succ]
          refine wpAnyT_only 26 #[true, true, true, true, true, true, true, true, true, true, true, true, true, true, true, true, true, true, true, true, true, true, true, true, true, true, true] (by kernel_rfl) rfl rfl (by rfl) (fun K2 hK2 => ?_)
          go_simp
          refine hK2 _ _ (fun h => absurd h (by decide)) ?_
          clear hK2 K2
          refine wpAnyT_done (by kernel_rfl) ?_ _
          have hWz := hWrr.ext hX
          go_wp2_with (refine wpList_storeW rfl 76 (.tmp 2) (.tmp 48) rfl rfl rfl hWz rfl mat_info (mat_one rfl) ?_; intro w5 hW5 hG5 _)
          refine bodyPost_ret (results_mat rfl _ rfl rfl hW5 rfl) rfl ?_
          rw [← HN.out]
          exact MadeM.zero 13 (Below.grown (hEr.trans hX) hG5 (hEr.trans hX).le (fun k hk => by cases hk; omega))
      · obtain rfl : i = L.length := by omega
        rw [stackGo_end] at hgo
        have o1 := hO.one
        subst hgo
        go_wp2_with (first
          | (refine wpList_load_row rfl 76 (.tmp 4) rfl _ rfl _ _ _ _ hWv Tryd.underlying76 rfl mat_info ?_)
          | (refine wpList_storeW rfl 76 (.tmp 2) (.tmp 67) rfl rfl rfl hWrr rfl mat_info (mat_one o1) ?_; intro w5 hW5 hG5 _))
        refine bodyPost_ret (results_mat rfl _ rfl rfl hW5 rfl) rfl ?_
        have hne5 : v.ownBlock ≠ some w.heap.size := fun e => by
          have := (hO.lt _ e).1
          omega
        exact ⟨v, rfl, ((Mod.ofRow (ob := none) hG5).own hO hne5 (by simp [Classical.em])).mono (by omega), Below.grown hEr hG5 hEr.le (fun k hk => by cases hk; omega)⟩
end Go.Proofs.YtkfipfhmbhmamaaDoor

namespace Go.Proofs.YtkfipfhmbhmamaaDoor
open Go.RowKit

theorem inv_congr {n : Nat} {A B X : Mat.M} (h : ∀ i j, i < n → j < n → B i j = A i j) (hA : Mat.Inv n A X) : Mat.Inv n B X :=
  ⟨fun i j hi hj => by rw [← hA.1 i j hi hj]; exact Mat.mm_congr (fun k hk => h i k hi hk) (fun _ _ => rfl), fun i j hi hj => by rw [← hA.2 i j hi hj]; exact Mat.mm_congr (fun _ _ => rfl) (fun k hk => h k j hk hj)⟩
theorem at_get {r c : Nat} {l : List UInt8} (i j : Nat) : (⟨r, c, l⟩ : MV).at i j = l.getD (i * c + j) 0 := by
  unfold MV.at
  simp
theorem rect_may {r c : Nat} (f : Mat.M) (hr : r ≤ 255) (hc : c ≤ 255) : (⟨r, c, cellsOf c f (r * c)⟩ : MV).may = true :=
  MV.may_iff.2 ⟨by simp, by simp; omega, by simp, by simp; omega, by simp [cellsOf_len]⟩
theorem getD_l (a b : List UInt8) {i : Nat} (h : i < a.length) : (a ++ b).getD i 0 = a.getD i 0 := by simp [List.getD_eq_getElem?_getD, List.getElem?_append_left h]
theorem getD_r (a b : List UInt8) {i : Nat} (h : a.length ≤ i) : (a ++ b).getD i 0 = b.getD (i - a.length) 0 := by simp [List.getD_eq_getElem?_getD, List.getElem?_append_right h]
theorem map_toNat_nodup : ∀ l : List Int, (∀ x ∈ l, 0 ≤ x) → l.Nodup → (l.map Int.toNat).Nodup
  | [], _, _ => by simp
  | a :: l, h, hn => by
    rw [List.nodup_cons] at hn
    rw [List.map_cons, List.nodup_cons]
    refine ⟨fun hm => ?_, map_toNat_nodup l (fun p hp => h p (List.mem_cons_of_mem _ hp)) hn.2⟩
    obtain ⟨b, hb, e⟩ := List.mem_map.1 hm
    have h1 := h b (List.mem_cons_of_mem _ hb)
    have h2 := h a List.mem_cons_self
    obtain rfl : b = a := by omega
    exact hn.1 hb
/-- The stack's cells. -/
theorem stack_at {n p i j : Nat} (hi : i < n + p) (hj : j < n) : (⟨(n + p : Nat), n, cellsOf n Mat.one (n * n) ++ cellsOf n (cauchyF n) (p * n)⟩ : MV).at i j = Mat.rowM n i j := by
  rw [at_get]
  have hl := cellsOf_len n Mat.one (n * n)
  by_cases hin : i < n
  · have hlt : i * n + j < n * n := by
      have : (i + 1) * n ≤ n * n := Nat.mul_le_mul_right _ hin
      rw [Nat.add_mul, Nat.one_mul] at this
      omega
    have e := at_cells (r := n) (c := n) (f := Mat.one) hin hj
    rw [at_get] at e
    rw [getD_l _ _ (by omega), e, Mat.rowM, if_pos hin]
  · obtain ⟨q, rfl⟩ : ∃ q, i = n + q := ⟨i - n, by omega⟩
    have e := at_cells (r := p) (c := n) (f := cauchyF n) (i := q) (by omega) hj
    rw [at_get] at e
    have hidx : (n + q) * n + j - n * n = q * n + j := by rw [Nat.add_mul]; omega
    have hge : n * n ≤ (n + q) * n + j := by rw [Nat.add_mul]; omega
    rw [getD_r _ _ (by omega), hl, hidx, e, Mat.rowM, if_neg hin]
    rfl
theorem cauchy_calls {n p : Nat} (hnp : n + p ≤ 255) {L : List Int} (hl : L.length = n) (hd : L.Nodup) (hL : ∀ x ∈ L, 0 ≤ x ∧ x < ((n + p : Nat) : Int)) :
    ∃ I C S T, identityE n = (I, 0) ∧ cauchyE n p = (C, 0) ∧ stackE [I, C] = (S, 0) ∧ S.pickE L = (T, 0) ∧ T.invE.2 = 0 ∧ I.l.length ≤ maxLen ∧ C.l.length ≤ maxLen ∧ S.l.length ≤ maxLen ∧ T.l.length ≤ maxLen := by
  have hI := square_may (n := n) Mat.one (by omega)
  have hC := rect_may (r := p) (c := n) (cauchyF n) (by omega) (by omega)
  have hS : (⟨(n + p : Nat), n, cellsOf n Mat.one (n * n) ++ cellsOf n (cauchyF n) (p * n)⟩ : MV).may = true :=
    MV.may_iff.2 ⟨by simp; omega, by simp; omega, by simp, by simp; omega, by simp [cellsOf_len, Int.add_mul]⟩
  have hT := rect_may (r := n) (c := n) ((⟨(n + p : Nat), n, cellsOf n Mat.one (n * n) ++ cellsOf n (cauchyF n) (p * n)⟩ : MV).pickF L) (by omega) (by omega)
  refine ⟨_, ⟨p, n, cellsOf n (cauchyF n) (p * n)⟩, ⟨(n + p : Nat), n, cellsOf n Mat.one (n * n) ++ cellsOf n (cauchyF n) (p * n)⟩, _, identity_nat (by omega), ?_, ?_, ?_, ?_, MV.may_len hI, MV.may_len hC, MV.may_len hS, MV.may_len hT⟩
  · unfold cauchyE
    rw [if_pos ⟨by omega, by omega, by omega⟩]
    simp
  · have e1 : stackE [⟨n, n, cellsOf n Mat.one (n * n)⟩, ⟨p, n, cellsOf n (cauchyF n) (p * n)⟩] = stackGo n 0 [] [⟨n, n, cellsOf n Mat.one (n * n)⟩, ⟨p, n, cellsOf n (cauchyF n) (p * n)⟩] := rfl
    rw [e1, stackGo, if_pos ⟨hI, rfl, by simp; omega⟩, stackGo, if_pos ⟨hC, rfl, by simp; omega⟩, stackGo]
    simp
  · unfold MV.pickE
    rw [if_pos ⟨hS, by omega, fun i hi => hL _ (by rw [List.getD_eq_getElem?_getD, List.getElem?_eq_getElem hi]; exact List.getElem_mem hi)⟩]
    unfold MV.pickR
    rw [hl]
    simp
  · obtain ⟨X, hX⟩ := Mat.picked n (by omega) (L.map Int.toNat) (by simpa using hl) (map_toNat_nodup L (fun x hx => (hL x hx).1) hd) (fun q hq => by
      obtain ⟨x, hx, rfl⟩ := List.mem_map.1 hq
      have := hL x hx
      omega)
    have hT' : Mat.Inv n (⟨n, n, cellsOf n ((⟨(n + p : Nat), n, cellsOf n Mat.one (n * n) ++ cellsOf n (cauchyF n) (p * n)⟩ : MV).pickF L) (n * n)⟩ : MV).at X := by
      refine inv_congr (fun i j hi hj => ?_) hX
      rw [at_cells hi hj]
      have hm : L.getD i 0 ∈ L := by rw [List.getD_eq_getElem?_getD, List.getElem?_eq_getElem (by omega)]; exact List.getElem_mem _
      have hb := hL _ hm
      have e : (L.map Int.toNat).getD i 0 = (L.getD i 0).toNat := by simp [List.getD_eq_getElem?_getD, List.getElem?_eq_getElem (show i < L.length by omega)]
      rw [e]
      exact stack_at (by omega) hj
    rw [MV.invE_of hT rfl (X := X) (by simpa using hT')]
end Go.Proofs.YtkfipfhmbhmamaaDoor

namespace Go.Proofs.YtkfipfhmbhmamaaDoor
open Go.RowKit

/-- One place of one sum. -/
def cellL (c : Nat) (f : Mat.M) (ls : List (List UInt8)) (i n : Nat) : UInt8 := Mat.sum c fun j => Mat.fm (f i j) ((ls.getD j []).getD n 0)
def timesL (r c : Nat) (f : Mat.M) (ls : List (List UInt8)) : List (List UInt8) := (List.range r).map fun i => rowB (ls.getD 0 []).length (cellL c f ls i)
theorem timesL_succ (r c : Nat) (f : Mat.M) (ls : List (List UInt8)) : timesL (r + 1) c f ls = timesL r c f ls ++ [rowB (ls.getD 0 []).length (cellL c f ls r)] := by simp [timesL, List.range_succ]
theorem timesL_len (r c : Nat) (f : Mat.M) (ls : List (List UInt8)) : (timesL r c f ls).length = r := by simp [timesL]
/-- Behind a call that makes rows, in new memory. -/
def MadeN (w : World) (ls : List (List UInt8)) (e : Ending) (w' : World) : Prop := ∃ v, e = .returned v ∧ OwnN w' w.heap.size v ls ∧ Ext w w'
/-- Behind a call that makes rows. -/
def MadeP (w : World) (ls : List (List UInt8)) (e : Ending) (w' : World) : Prop := ∃ v, e = .returned v ∧ OwnP w' w.heap.size v ls ∧ Ext w w'

set_option maxHeartbeats 4000000 in
set_option maxRecDepth 100000 in
theorem refTimes_any (m : MV) (A1 A2 : Option Addr) (k1 k2 : Nat) (ls : List (List UInt8)) (w : World) (hm : m.may = true) (h1 : Bytes w w.heap.size A1 m.l.length m.l) (h2 : RowsAt w w.heap.size A2 ls.length ls)
    (hc : m.c.toNat ≤ ls.length) (h0 : 0 < ls.length) (hal : alike ls) (hl0 : (ls.getD 0 []).length ≤ 1000000) :
    Calls Tryd.prog 49 #[.agg #[.int .i64 m.r, .int .i64 m.c, .slice A1 m.l.length k1], .slice A2 ls.length k2] w (MadeN w (timesL m.r.toNat m.c.toNat m.at ls)) := by
  obtain ⟨q1, q2, q3, q4, q5⟩ := MV.may_iff.1 hm
  have HA := hide (show ∀ i j, m.at i j = m.l.getD (i * m.c.toNat + j) 0 from fun _ _ => rfl)
  have hE := extNew w (.cells #[.int .i64 m.r, .int .i64 m.c, .slice A1 m.l.length k1] 76)
  have hWm := Whole.new w 76 #[.int .i64 m.r, .int .i64 m.c, .slice A1 m.l.length k1]
  generalize m.at = f at *
  obtain ⟨r, c, l⟩ := m
  dsimp only at *
  obtain ⟨r, rfl⟩ := Int.eq_ofNat_of_zero_le q1
  obtain ⟨c, rfl⟩ := Int.eq_ofNat_of_zero_le q3
  simp only [Int.toNat_natCast] at *
  have l5 : l.length = r * c := by omega
  have hr255 : r ≤ 255 := by omega
  have hc255 : c ≤ 255 := by omega
  have HL := hide l5
  have HAL := hide hal
  clear q1 q2 q3 q4 q5 l5 hm hal
  obtain ⟨N, hN⟩ : ∃ N, N = (ls.getD 0 []).length := ⟨_, rfl⟩
  rw [← hN] at hl0
  have HN := hide hN
  clear hN
  go_enter Tryd.func49, Tryd.ntmps49
  go_wp2_with fail
  go_loopw [5, 6] (fun v i wr => ∃ j : Nat, j ≤ r ∧ i = .int .i64 (j : Int) ∧ OwnN wr (w.heap.size + 1) v (timesL j c f ls) ∧ Ext (w.alloc (.cells #[.int .i64 r, .int .i64 c, .slice A1 l.length k1] 76)) wr) (fun _ i _ => r - (intOf i).toNat)
  case atStart => exact ⟨0, by omega, rfl, OwnN.nil _ _, Ext.refl _⟩
  case round =>
    obtain ⟨i, hi, rfl, hO, hEr⟩ := hrel
    have d0 := (hWm.ext hEr).at 0 rfl
    by_cases hlt : i < r
    · obtain ⟨wa, rfl⟩ : ∃ W, W = wr := ⟨_, rfl⟩
      go_wp2_with fail
      go_loopw [7, 8] (fun v n wr => ∃ j : Nat, j ≤ N ∧ n = .int .i64 (j : Int) ∧ OwnB wr wa.heap.size v (rowB j (cellL c f ls i)) ∧ Ext wa wr) (fun _ n _ => N - (intOf n).toNat)
      case atStart => exact ⟨0, by omega, rfl, OwnB.nil _ _, Ext.refl _⟩
      case round =>
        obtain ⟨n, hn, rfl, hOs, hEs⟩ := hrel
        rcases (h2.ext ((hE.trans hEr).trans hEs)).2 with h00 | ⟨b, o, rfl, hB, hcell⟩
        · omega
        obtain ⟨x0, c0, Ax0, kx0, hx0, _, _, _⟩ := hcell 0 h0
        rw [Nat.add_zero] at c0
        subst hx0
        rw [← HN.out] at c0
        have hls0 : (0 : Int) < (ls.length : Int) := by omega
        have HCL := hide hcell
        clear hcell
        by_cases hnt : n < N
        · obtain ⟨wb, rfl⟩ : ∃ W, W = wr := ⟨_, rfl⟩
          have hnt' : (n : Int) < (N : Int) := by omega
          go_wp2_with fail
          go_loopw [9, 10] (fun x j wq => ∃ q : Nat, q ≤ c ∧ j = .int .i64 (q : Int) ∧ x = .int .u8 ((cellL q f ls i n).toNat : Int) ∧ Ext wb wq) (fun _ j _ => c - (intOf j).toNat)
          case atStart => exact ⟨0, by omega, rfl, rfl, Ext.refl _⟩
          case round =>
            obtain ⟨q, hq, rfl, rfl, hEq⟩ := hrel
            have hWq := hWm.ext ((hEr.trans hEs).trans hEq)
            have d1 := hWq.at 1 rfl
            have d2 := hWq.at 2 rfl
            by_cases hqt : q < c
            · obtain ⟨x, kx, Ax, kkx, hx, _, _, hx4⟩ := HCL.out q (by omega)
              subst hx
              have kx' := (hEq.cell (i := o + q) hB).trans kx
              have hlen : (ls.getD q []).length = N := by rw [HAL.out q (by omega), ← HN.out]
              rw [hlen] at kx'
              rcases hx4.2 with h00 | ⟨bx, ox, rfl, hBx, hcx⟩
              · omega
              have kn := (hEq.cell (i := ox + n) hBx).trans (hcx n (by omega))
              have hia : i * c + q < r * c := by
                have : (i + 1) * c ≤ r * c := Nat.mul_le_mul_right _ hlt
                rw [Nat.add_mul, Nat.one_mul] at this
                omega
              have hrc : r * c ≤ 65025 := Nat.mul_le_mul hr255 hc255
              have hEall := (hE.trans hEr).trans (hEs.trans hEq)
              obtain ⟨_, h1'⟩ := hEall.bytes h1
              rcases h1' with h00 | ⟨g1, o1, hA1, _, hc1⟩
              · have := HL.out; omega
              subst hA1
              have m1 := hc1 (i * c + q) (by have := HL.out; omega)
              rw [← HA.out] at m1
              have C := fun m => refMul_any (f i q).toNat ((ls.getD q []).getD n 0).toNat (wr.drewN m) (Mat.lt _) (Mat.lt _)
              have HS := hide (show cellL (q + 1) f ls i n = cellL q f ls i n ^^^ Mat.fm (f i q) ((ls.getD q []).getD n 0) from rfl)
              have hxor := u8_xor_byte8 (cellL q f ls i n) (Mat.fm (f i q) ((ls.getD q []).getD n 0))
              rw [Mat.fm_toNat] at hxor
              have hP1 : i * c ≤ 65025 := by omega
              have hm1 : IntKind.i64.wrap ((i : Int) * (c : Int)) = ((i * c : Nat) : Int) := by rw [(Int.natCast_mul i c).symm, IntKind.wrap_i64]; omega
              have hla : (l.length : Int) = ((r * c : Nat) : Int) := by rw [HL.out]
              generalize i * c = P at *
              have g1a : ((P : Int) + (q : Int)) < (l.length : Int) := by omega
              have g1b : (0 : Int) ≤ ((P : Int) + (q : Int)) := by omega
              have hq0 : (0 : Int) ≤ (q : Int) := by omega
              have hql : (q : Int) < (ls.length : Int) := by omega
              have hn0 : (0 : Int) ≤ (n : Int) := by omega
              clear hla hc1 hcx hia hrc hlen hx4 kx c0 h1 h2 hO hOs
              generalize Gf.mul (f i q).toNat ((ls.getD q []).getD n 0).toNat = y at *
              generalize cellL q f ls i n = S at *
              generalize (ls.getD q []).getD n 0 = xb at *
              generalize f i q = xa at *
              generalize Mat.fm xa xb = z at *
              generalize S ^^^ z = T at *
              go_wp2_with fail
              go_quiet (first | (go_at_call 69; exact Calls.quiet_of ((C _).mono fun _ _ ⟨he, hw⟩ => ⟨he, 0, hw.symm⟩)))
              go_wp2
              go_roundw
              case rel => exact ⟨q + 1, by omega, by go_num, by rw [HS.out], hEq.drewN _⟩
              case measure => simp [intOf]; omega
            · obtain rfl : c = q := by omega
              have HB := hide (rowB_succ n (cellL c f ls i))
              have hfit : (rowB n (cellL c f ls i)).length + 1 ≤ 140737488355328 := by rw [rowB_len]; omega
              obtain ⟨bt, hbt⟩ : ∃ bt, bt = cellL c f ls i n := ⟨_, rfl⟩
              rw [← hbt] at HB ⊢
              have hb1 := bytesNew wr [bt] #[.int .u8 (bt.toNat : Int)] 5 (0, 0) rfl 1 rfl
              have hE4 := extNew wr (.cells #[.int .u8 (bt.toNat : Int)] 5)
              have hO1 := (hOs.ext hEq).ext hE4
              have hB1 : wa.heap.size ≤ (wr.alloc (.cells #[.int .u8 (bt.toNat : Int)] 5)).heap.size := ((hEs.trans hEq).trans hE4).le
              clear hbt h1 h2 hO
              go_wp2_with (at_builtin; refine wpList_appAt rfl (.tmp 51) (.tmp 53) rfl rfl hO1 rfl hb1 hfit hB1 ?_; intro v4 w4 hO4 hG4 hN4)
              go_roundw
              case rel => exact ⟨n + 1, by omega, by go_num, by rw [HB.out]; exact hO4, Below.grown ((hEs.trans hEq).trans hE4) hG4 ((hEs.trans hEq).trans hE4).le (fun k hk => (hO1.lt k hk).1)⟩
              case measure => simp [intOf]; omega
        · obtain rfl : N = n := by omega
          have hnt' : ¬ ((N : Int) < (N : Int)) := by omega
          obtain ⟨A7, k7, hv7, hk7, hm7, hB7⟩ := hOs.form
          rw [rowB_len] at hv7 hk7
          subst hv7
          have hrow := hOs.row
          have hOe := hO.ext hEs
          have hcl : Clear u5 (.slice A7 N k7) := Clear.own hOs (fun k hk => (hO.lt k hk).2)
          have hnw : NewX (w.heap.size + 1) (.slice A7 N k7) := (NewX.own hOs).mono (by have := hEr.le; rwa [World.size_alloc] at this)
          have hbase : w.heap.size + 1 ≤ wr.heap.size := by
            have := (hEr.trans hEs).le
            simpa using this
          have hln : (timesL i c f ls).length ≤ 1000 := by rw [timesL_len]; omega
          have hE4 := extNew wr (.cells #[.slice A7 N k7] 27)
          clear h1 h2
          go_wp2_with (at_builtin; refine wpList_appN rfl (.tmp 55) (.tmp 57) rfl rfl hOe hrow hcl hnw rfl hln hbase ?_; intro v4 w4 hO4 hG4)
          go_roundw
          case rel => exact ⟨i + 1, by omega, by go_num, by rw [timesL_succ, ← HN.out]; exact hO4, Below.grown ((hEr.trans hEs).trans hE4) hG4 ((hEr.trans hEs).trans hE4).le (fun k hk => by have := (hO.lt k hk).1; simpa using this)⟩
          case measure => simp [intOf]; omega
    · obtain rfl : r = i := by omega
      clear h1 h2
      go_wp2_with fail
      go_ret
      exact ⟨_, rfl, hO.mono (by omega), hE.trans hEr⟩
end Go.Proofs.YtkfipfhmbhmamaaDoor

namespace Go.Proofs.YtkfipfhmbhmamaaDoor
open Go.RowKit

theorem timesL_congr {r c : Nat} {f g : Mat.M} (ls : List (List UInt8)) (h : ∀ i j, i < r → j < c → f i j = g i j) : timesL r c f ls = timesL r c g ls := by
  refine List.map_congr_left fun i hi => rowB_congr fun n _ => Mat.sum_congr fun j hj => ?_
  rw [h i j (List.mem_range.1 hi) hj]
/-- Behind a call that makes rows and tells an error. -/
def MadePE (w : World) (ls : List (List UInt8)) (err : Int) (e : Ending) (w' : World) : Prop := ∃ v, e = .returned (.tuple #[v, .int .i64 err]) ∧ OwnP w' w.heap.size v ls ∧ Ext w w'
/-- The same, the rows in new memory. -/
def MadeNE (w : World) (ls : List (List UInt8)) (err : Int) (e : Ending) (w' : World) : Prop := ∃ v, e = .returned (.tuple #[v, .int .i64 err]) ∧ OwnN w' w.heap.size v ls ∧ Ext w w'
def parityE (m : Int) (data : List (List UInt8)) : List (List UInt8) × Int := if mayK data.length m = true ∧ alike data then (timesL m.toNat data.length (cauchyF data.length) data, 0) else ([], 13)
theorem mayK_iff {k m : Int} : mayK k m = true ↔ 1 ≤ k ∧ 0 ≤ m ∧ k ≤ 255 ∧ m ≤ 255 - k := by simp [mayK]
theorem cauchyE_of {k m : Nat} (h : k + m ≤ 255) : cauchyE k m = (⟨m, k, cellsOf k (cauchyF k) (m * k)⟩, 0) := by
  unfold cauchyE
  rw [if_pos ⟨by omega, by omega, by omega⟩]
  simp

set_option maxHeartbeats 4000000 in
set_option maxRecDepth 100000 in
theorem refParityN_any (m : Int) (A : Option Addr) (k : Nat) (data : List (List UInt8)) (w : World) (h : RowsAt w w.heap.size A data.length data) (hl : data.length ≤ 1000000) (h0 : (data.getD 0 []).length ≤ 1000000) :
    Calls Tryd.prog 29 #[.int .i64 m, .slice A data.length k] w (MadeNE w (parityE m data).1 (parityE m data).2) := by
  have M1 := fun W => refMayK_any (data.length : Int) m W (by omega)
  have L1 := fun W h => refAlike6_any A k data W h hl
  have HP := hide (show parityE m data = if mayK data.length m = true ∧ alike data then (timesL m.toNat data.length (cauchyF data.length) data, 0) else ([], 13) from rfl)
  by_cases hm : mayK data.length m = true
  · rw [hm] at M1
    by_cases ha : alike data
    · have HR := hide (show parityE m data = (timesL m.toNat data.length (cauchyF data.length) data, 0) by rw [HP.out, if_pos ⟨hm, ha⟩])
      obtain ⟨q1, q2, q3, q4⟩ := mayK_iff.1 hm
      obtain ⟨m, rfl⟩ := Int.eq_ofNat_of_zero_le q2
      have C1 := fun W => refCauchy_E (data.length : Int) (m : Int) W
      rw [cauchyE_of (show data.length + m ≤ 255 by omega)] at C1
      have hX := rect_may (r := m) (c := data.length) (cauchyF data.length) (by omega) (by omega)
      have hT := timesL_congr (r := m) (c := data.length) (f := (⟨m, data.length, cellsOf data.length (cauchyF data.length) (m * data.length)⟩ : MV).at) (g := cauchyF data.length) data (fun i j hi hj => at_cells hi hj)
      have T1 := fun A' k' W hb hr => refTimes_any ⟨m, data.length, cellsOf data.length (cauchyF data.length) (m * data.length)⟩ A' A k' k data W hX hb hr (by simp) (by omega) ha h0
      simp only [Int.toNat_natCast] at T1 HR
      rw [hT] at T1
      simp only [decide_eq_true ha] at L1
      generalize timesL m data.length (cauchyF data.length) data = res at *
      generalize cellsOf data.length (cauchyF data.length) (m * data.length) = cl at *
      clear HP hm ha hX hT q1 q2 q3 q4
      go_enter Tryd.func29, Tryd.ntmps29
      go_wp2_with fail
      refine (M1 _).mono ?_
      rintro e w1 ⟨rfl, rfl⟩
      go_wp2_with fail
      refine (L1 _ h).mono ?_
      rintro e w2 ⟨rfl, hE2⟩
      go_wp2_with fail
      refine (C1 _).mono ?_
      rintro e w3 ⟨v, rfl, hO3, hE3⟩
      obtain ⟨A3, n3, c3, rfl, _, _, hB3⟩ := hO3.form'
      have hn3 := hB3.1
      subst hn3
      have hA3 := Whole.new w3 76 #[.int .i64 0, .int .i64 0, .slice none 0 0]
      have k3 := hE2.trans hE3
      dsimp only [matV]
      clear M1 L1 C1 hO3
      go_wp2_with (first
        | (refine wpList_storeW rfl 76 (.tmp 6) (.tmp 23) rfl rfl rfl hA3 rfl mat_info (mat_one rfl) ?_; intro w4 hW4 hG4 hS4; have hE4 : Ext w3 w4 := Below.grown (extNew w3 (.cells #[.int .i64 0, .int .i64 0, .slice none 0 0] 76)) hG4 (extNew w3 (.cells #[.int .i64 0, .int .i64 0, .slice none 0 0] 76)).le (fun k hk => (by cases hk; exact Nat.le_refl _)); clear hS4)
        | (refine wpList_load_row rfl 76 (.tmp 6) rfl _ rfl _ _ _ _ hW4 Tryd.underlying76 rfl mat_info ?_))
      refine (T1 A3 c3 w4 (hE4.bytes hB3) (h.ext (k3.trans hE4))).mono ?_
      rintro e w5 ⟨v5, rfl, hO5, hE5⟩
      go_wp2
      go_ret2
      rw [HR.out]
      exact ⟨_, rfl, hO5.mono (k3.trans hE4).le, (k3.trans hE4).trans hE5⟩
    · have HR := hide (show parityE m data = ([], 13) by rw [HP.out, if_neg]; rintro ⟨_, h⟩; exact ha h)
      simp only [decide_eq_false ha] at L1
      clear HP hm ha
      go_enter Tryd.func29, Tryd.ntmps29
      go_wp2_with fail
      refine (M1 _).mono ?_
      rintro e w1 ⟨rfl, rfl⟩
      go_wp2_with fail
      refine (L1 _ h).mono ?_
      rintro e w2 ⟨rfl, hE2⟩
      go_wp2
      go_ret2
      rw [HR.out]
      exact ⟨_, rfl, OwnN.nil _ _, hE2⟩
  · have HR := hide (show parityE m data = ([], 13) by rw [HP.out, if_neg]; rintro ⟨h, _⟩; exact hm h)
    rw [Bool.not_eq_true] at hm
    rw [hm] at M1
    clear HP hm
    go_enter Tryd.func29, Tryd.ntmps29
    go_wp2_with fail
    refine (M1 _).mono ?_
    rintro e w1 ⟨rfl, rfl⟩
    go_wp2
    go_ret2
    rw [HR.out]
    exact ⟨_, rfl, OwnN.nil _ _, Ext.refl _⟩
theorem refParity_any (m : Int) (A : Option Addr) (k : Nat) (data : List (List UInt8)) (w : World) (h : RowsAt w w.heap.size A data.length data) (hl : data.length ≤ 1000000) (h0 : (data.getD 0 []).length ≤ 1000000) :
    Calls Tryd.prog 29 #[.int .i64 m, .slice A data.length k] w (MadePE w (parityE m data).1 (parityE m data).2) :=
  (refParityN_any m A k data w h hl h0).mono fun _ _ ⟨v, he, hO, hE⟩ => ⟨v, he, hO.toP, hE⟩
end Go.Proofs.YtkfipfhmbhmamaaDoor

namespace Go.Proofs.YtkfipfhmbhmamaaDoor
open Go.RowKit

theorem RowsAt.head {w : World} {B n k c : Nat} {A : Option Addr} {ls : List (List UInt8)} (h : RowsAt w B A n ls) (hk : k ≤ n) : RowsAt w B (cutAt A c 0) k (ls.take k) := by
  refine ⟨by rw [List.length_take, h.1]; omega, ?_⟩
  rcases h.2 with h0 | ⟨b, off, rfl, hb, hc⟩
  · exact .inl (by omega)
  · refine .inr ⟨b, off, by simp [cutAt, Addr.add], hb, fun i hi => ?_⟩
    have e : (ls.take k).getD i [] = ls.getD i [] := by simp [List.getD_eq_getElem?_getD, hi]
    rw [e]
    exact hc i (by omega)
theorem RowsAt.tail {w : World} {B n k c : Nat} {A : Option Addr} {ls : List (List UInt8)} (h : RowsAt w B A n ls) (hk : k ≤ n) (hn : n ≤ c) : RowsAt w B (cutAt A c k) (n - k) (ls.drop k) := by
  refine ⟨by rw [List.length_drop, h.1], ?_⟩
  by_cases hkn : k = n
  · exact .inl (by omega)
  rcases h.2 with h0 | ⟨b, off, rfl, hb, hc⟩
  · exact .inl (by omega)
  · refine .inr ⟨b, off + k, by simp [cutAt, show ¬ c = k by omega, Addr.add], hb, fun i hi => ?_⟩
    have e : (ls.drop k).getD i [] = ls.getD (k + i) [] := by simp [List.getD_eq_getElem?_getD]
    rw [e, Nat.add_assoc]
    exact hc (k + i) (by omega)
theorem run_cutRs (W : World) (a : Option Addr) (n c : Nat) (k : IntKind) (l : Int) (h0 : 0 ≤ l) (h1 : l ≤ n) :
    (Instr.slice 55 (.slice a n c) (some (.int k l)) none none).run Tryd.prog W = .ok (.slice (cutAt a c l.toNat) (n - l.toNat) (c - l.toNat)) W := by
  rw [run_slice_l (P := Tryd.prog) (w := W) 55 a n c (by kernel_rfl) k l h0 h1]
  have hs : (sizeOf (Tryd.prog.elem 55)).run Tryd.prog W = .ok 1 W := by kernel_rfl
  rw [hs]
  simp [Result.andThen, sliced, cutAt]
theorem run_headRs (W : World) (a : Option Addr) (n c : Nat) (k : IntKind) (h : Int) (h0 : 0 ≤ h) (h1 : h ≤ c) :
    (Instr.slice 55 (.slice a n c) none (some (.int k h)) none).run Tryd.prog W = .ok (.slice (cutAt a c 0) h.toNat c) W := by
  rw [run_slice_h (P := Tryd.prog) (w := W) 55 a n c (by kernel_rfl) k h h0 h1]
  have hs : (sizeOf (Tryd.prog.elem 55)).run Tryd.prog W = .ok 1 W := by kernel_rfl
  rw [hs]
  simp [Result.andThen, sliced, cutAt]
def rightR (k m : Int) (parts : List (List UInt8)) : Bool := decide (mayK k m = true ∧ (parts.length : Int) = k + m ∧ alike parts ∧ (parityE m (parts.take k.toNat)).1 = parts.drop k.toNat)

attribute [local go_sem ↓] run_cutRs run_headRs
end Go.Proofs.YtkfipfhmbhmamaaDoor

