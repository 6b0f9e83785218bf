/- The document's Pick. -/
import Derived.Test.YtbfkknoeaekajaaMatDef
import Derived.Test.YtbfkknoeaekajaaRegTail
namespace Go.Proofs.Ytbfkknoeaekajaa
open Go.RowKit

/-- A slice of numbers that came in. -/
def IntsAt (w : World) (B : Nat) (A : Option Addr) (n : Nat) (L : List Int) : Prop :=
  L.length = n ∧ (n = 0 ∨ ∃ b off, A = some ⟨b, off, none⟩ ∧ b < B ∧ ∀ i, i < n → w.cell? ⟨b, off + i, none⟩ = some (.int .i64 (L.getD i 0)))
theorem IntsAt.below {w w' : World} {B C : Nat} {A : Option Addr} {n : Nat} {L : List Int} (h : IntsAt w B A n L) (hb : Below C w w') (hC : B ≤ C) : IntsAt w' B A n L := by
  refine ⟨h.1, ?_⟩
  rcases h.2 with h0 | ⟨b, off, hA, hB, hc⟩
  · exact .inl h0
  · exact .inr ⟨b, off, hA, hB, fun i hi => by rw [hb.cell (p := ⟨b, off + i, none⟩) (Nat.lt_of_lt_of_le hB hC)]; exact hc i hi⟩
theorem wp_storeC {o : Oper} {a : Act} {w : World} {Q : Exit → Act → World → Prop} {K : Act → World → Prop} (ty : TypeId) (x y : Operand) (ho : o.op = .store ty x y)
    {g i : Nat} {t : TypeId} {cs : Array Value} (cs' : Array Value) {u : Value} (hx : a.eval x = .pointer (some ⟨g, i, none⟩)) (hy : a.eval y = u) (hw : Whole w g t cs) (hi : i < cs.size)
    (hs : (Try.prog.info? ty).map (·.size) = some 1) (h1 : u.oneCell' = true) (hcells : u.cells = #[u]) (hcs : cs.setIfInBounds i u = cs')
    (h : ∀ w', Whole w' g t cs' → w.grownBy w' (some g) → K (a.put o.dst undef) w') : o.wp Try.prog a w K Q := by
  subst hcs
  have hst := run_storeCells_at Try.prog g i t [u] 0 cs w hw (by simp; omega) (fun x hx => by simp at hx; subst hx; exact h1)
  unfold Oper.wp execOp
  cases hq : Try.prog.info? ty with
  | none => simp [hq] at hs
  | some d =>
    have hs' : d.size = 1 := by simpa [hq] using hs
    have hr : (storeVar ty ⟨g, i, none⟩ u).run Try.prog w = .ok () (w.setRow g (cs.toList.take (i + 0) ++ [u] ++ cs.toList.drop (i + 0 + [u].length)).toArray) := by
      simp only [storeVar, sizeOf, typeInfo, hcells]
      simpa [hq, hs'] using hst
    simp only [ho, hx, hy, Instr.storeAt, Instr.sureAddr, Sem.run_bind, Sem.run_pure, Result.andThen_ok, hr]
    refine h _ ?_ ⟨rfl, rfl, rfl, by simp, fun k _ hk => setRow_other w g k _ (fun e => hk (by simp [e]))⟩
    have e : (cs.toList.take (i + 0) ++ [u] ++ cs.toList.drop (i + 0 + [u].length)).toArray = cs.setIfInBounds i u := by
      apply Array.ext'
      rw [Array.toList_setIfInBounds, List.set_eq_take_append_cons_drop, if_pos (by simpa using hi)]
      simp
    rw [e]
    exact setRow_heap w g cs _ _ _ hw
/-- May these rows be picked? -/
def MV.picks (m : MV) (L : List Int) : Prop := m.may = true ∧ L.length ≤ 255 ∧ ∀ i, i < L.length → 0 ≤ L.getD i 0 ∧ L.getD i 0 < m.r
def MV.pickF (m : MV) (L : List Int) : Mat.M := fun i j => m.at (L.getD i 0).toNat j
def MV.pickR (m : MV) (L : List Int) : MV := ⟨L.length, m.c, cellsOf m.c.toNat (m.pickF L) (L.length * m.c.toNat)⟩
noncomputable instance (m : MV) (L : List Int) : Decidable (m.picks L) := Classical.propDecidable _
noncomputable def MV.pickE (m : MV) (L : List Int) : MV × Int := if m.picks L then (m.pickR L, 0) else (MV.zero, 13)

set_option maxHeartbeats 4000000 in
set_option maxRecDepth 100000 in
theorem refPick_any (m : MV) (L : List Int) (A1 A2 : Option Addr) (k1 k2 : Nat) (w : World) (h1 : Bytes w w.heap.size A1 m.l.length m.l) (h2 : IntsAt w w.heap.size A2 L.length L) (hl1 : m.l.length ≤ maxLen) (hl2 : L.length ≤ 140737488355328) :
    Calls Try.prog 39 #[.agg #[.int .i64 m.r, .int .i64 m.c, .slice A1 m.l.length k1], .slice A2 L.length k2] w (MadeM w (m.pickE L).1 (m.pickE L).2) := by
  have M1 := fun W => refMay_any m A1 m.l.length k1 W rfl hl1
  have hE1 := extNew w (.cells #[.int .i64 m.r, .int .i64 m.c, .slice A1 m.l.length k1] 42)
  have hE2 := extNew (w.alloc (.cells #[.int .i64 m.r, .int .i64 m.c, .slice A1 m.l.length k1] 42)) (.cells #[.int .i64 0, .int .i64 0, .slice none 0 0] 42)
  have hWa := (Whole.new w 42 #[.int .i64 m.r, .int .i64 m.c, .slice A1 m.l.length k1]).ext hE2
  have hWr := Whole.new (w.alloc (.cells #[.int .i64 m.r, .int .i64 m.c, .slice A1 m.l.length k1] 42)) 42 #[.int .i64 0, .int .i64 0, .slice none 0 0]
  have hE := hE1.trans hE2
  rw [World.size_alloc] at hWr
  clear hE1 hE2
  have HP := hide (show m.pickE L = if m.picks L then (m.pickR L, 0) else (MV.zero, 13) from rfl)
  by_cases ha : m.may = true
  · rw [ha] at M1
    by_cases hn : (255 : Int) < (L.length : Int)
    · have HN := hide (show m.pickE L = (MV.zero, 13) by rw [HP.out, if_neg]; rintro ⟨_, h, _⟩; omega)
      clear ha
      go_enter Try.func39, Try.ntmps39
      go_wp2_with fail
      refine (M1 _).mono ?_
      rintro e w2 ⟨rfl, hF2⟩
      have hWr2 := hWr.ext hF2
      go_wp2_with (refine wpList_storeW rfl 42 (.tmp 4) (.tmp 17) rfl rfl rfl hWr2 rfl mat_info (mat_one rfl) ?_; intro w5 hW5 hG5 _)
      refine bodyPost_ret (results_mat rfl _ rfl rfl hW5 rfl) rfl ?_
      rw [HN.out]
      exact MadeM.zero 13 (Below.grown (hE.trans hF2) hG5 (hE.trans hF2).le (fun k hk => by cases hk; omega))
    · obtain ⟨q1, q2, q3, q4, q5⟩ := MV.may_iff.1 ha
      have HR := hide (show m.pickR L = ⟨L.length, m.c, cellsOf m.c.toNat (m.pickF L) (L.length * m.c.toNat)⟩ from rfl)
      have HF := hide (show ∀ i j, m.pickF L i j = m.l.getD ((L.getD i 0).toNat * m.c.toNat + j) 0 from fun _ _ => rfl)
      have HK := hide (show (∀ i, i < L.length → 0 ≤ L.getD i 0 ∧ L.getD i 0 < m.r) → m.pickE L = (m.pickR L, 0) from fun h => by rw [HP.out, if_pos]; exact ⟨ha, by omega, h⟩)
      have HX := hide (show (∃ i, i < L.length ∧ ¬ (0 ≤ L.getD i 0 ∧ L.getD i 0 < m.r)) → m.pickE L = (MV.zero, 13) from fun ⟨i, hi, hx⟩ => by rw [HP.out, if_neg]; rintro ⟨_, _, h⟩; exact hx (h i hi))
      clear HP ha
      generalize m.pickE L = res at *
      generalize m.pickR L = pr at *
      generalize m.pickF L = pf at *
      obtain ⟨mr, mc, ml⟩ := m
      dsimp only at *
      obtain ⟨mr, rfl⟩ := Int.eq_ofNat_of_zero_le q1
      obtain ⟨mc, rfl⟩ := Int.eq_ofNat_of_zero_le q3
      simp only [Int.toNat_natCast] at *
      have ml5 : ml.length = mr * mc := by omega
      have hmr : mr ≤ 255 := by omega
      have hmc : mc ≤ 255 := by omega
      have hln : L.length ≤ 255 := by omega
      have hlm : L.length * mc ≤ 255 * 255 := Nat.mul_le_mul hln hmc
      have hmm : mr * mc ≤ 255 * 255 := Nat.mul_le_mul hmr hmc
      have HM := hide ml5
      clear q1 q2 q3 q4 q5 ml5 hl1 hl2
      go_enter Try.func39, Try.ntmps39
      go_wp2_with fail
      refine (M1 _).mono ?_
      rintro e w3 ⟨rfl, hF3⟩
      have hWa3 := hWa.ext hF3
      have hWr3 := hWr.ext hF3
      have hE3 := hE.trans hF3
      have d1 := hWa3.at 1 rfl
      have hrl := hWr3.lt
      have hN := extNew w3 (.cells #[.int .i64 L.length, .int .i64 mc, .slice none 0 0] 42)
      have hWx := Whole.new w3 42 #[.int .i64 L.length, .int .i64 mc, .slice none 0 0]
      clear M1 hF3 hWa hWr hE
      obtain ⟨gx, hgx⟩ : ∃ gx, gx = w3.heap.size := ⟨_, rfl⟩
      go_wp2_with fail
      rw [← hgx] at hWx ⊢
      have hg1 : w3.heap.size ≤ gx := by omega
      have HG := hide hgx
      clear hgx
      go_loopw [7] (fun i wr => ∃ j : Nat, j ≤ L.length ∧ i = .int .i64 (j : Int) ∧ (∀ k, k < j → 0 ≤ L.getD k 0 ∧ L.getD k 0 < (mr : Int)) ∧ Made wr (gx + 1) gx L.length mc (cellsOf mc pf (j * mc)) ∧ Ext w3 wr) (fun i _ => L.length - (intOf i).toNat)
      case atStart => exact ⟨0, by omega, rfl, fun k hk => by omega, ⟨_, hWx, by rw [Nat.zero_mul]; exact OwnB.nil _ _⟩, hN⟩
      case round =>
        obtain ⟨i, hi, rfl, hall, hMd, hEr⟩ := hrel
        have d0' := (hWa3.ext hEr).at 0 rfl
        by_cases hlt : i < L.length
        · have hEw := hE3.trans hEr
          rcases h2.2 with h0 | ⟨g2, o2, rfl, hg2, hc2⟩
          · omega
          have r0 := (hEw.cell (i := o2 + i) hg2).trans (hc2 i hlt)
          have i0 : (0 : Int) ≤ (i : Int) := by omega
          have i1 : (i : Int) < (L.length : Int) := by omega
          have HL := hide hall
          have HC2 := hide hc2
          clear hc2 hall h2
          obtain ⟨R, hR⟩ : ∃ R, R = L.getD i 0 := ⟨_, rfl⟩
          rw [← hR] at r0
          have HRR := hide hR
          clear hR
          by_cases hbad : R < 0 ∨ (mr : Int) ≤ R
          · have HN := hide (HX.out ⟨i, hlt, by rw [← HRR.out]; omega⟩)
            have hWrr := hWr3.ext hEr
            rcases hbad with hb | hb
            · go_wp2
              go_quiet (fail)
              have hEq : Ext wr (wr.drewN nq) := (Ext.refl wr).drewN nq
              have hWq := hWrr.ext hEq
              generalize wr.drewN nq = wq at hEq hWq ⊢
              go_wp2_with (refine wpList_storeW rfl 42 (.tmp 4) (.tmp 43) rfl rfl rfl hWq rfl mat_info (mat_one rfl) ?_; intro w5 hW5 hG5 _)
              refine bodyPost_ret (results_mat rfl _ rfl rfl hW5 rfl) rfl ?_
              rw [HN.out]
              exact MadeM.zero 13 (Below.grown (hEw.trans hEq) hG5 (hEw.trans hEq).le (fun k hk => by cases hk; omega))
            · have hb2 : ¬ (R < 0) := by omega
              go_wp2
              go_quiet (fail)
              have hEq : Ext wr (wr.drewN nq) := (Ext.refl wr).drewN nq
              have hWq := hWrr.ext hEq
              generalize wr.drewN nq = wq at hEq hWq ⊢
              go_wp2_with (refine wpList_storeW rfl 42 (.tmp 4) (.tmp 43) rfl rfl rfl hWq rfl mat_info (mat_one rfl) ?_; intro w5 hW5 hG5 _)
              refine bodyPost_ret (results_mat rfl _ rfl rfl hW5 rfl) rfl ?_
              rw [HN.out]
              exact MadeM.zero 13 (Below.grown (hEw.trans hEq) hG5 (hEw.trans hEq).le (fun k hk => by cases hk; omega))
          · have hb1 : ¬ (R < 0) := by omega
            have hb2 : ¬ ((mr : Int) ≤ R) := by omega
            obtain ⟨R, rfl⟩ := Int.eq_ofNat_of_zero_le (show 0 ≤ R by omega)
            have hRm : R < mr := by omega
            go_wp2
            go_quiet (fail)
            have hEq : Ext wr (wr.drewN nq) := (Ext.refl wr).drewN nq
            have hE3q := hEr.trans hEq
            have hMq := hMd.ext hEq
            have hEwq := hEw.trans hEq
            have r1 := (hEq.cell (i := o2 + i) (Nat.lt_of_lt_of_le hg2 hEw.le)).trans r0
            clear r0 hMd d0' hbad
            generalize wr.drewN nq = wq at hEq hE3q hMq hEwq r1 ⊢
            go_wp2_with fail
            generalize Value.bool (decide ((R : Int) < 0) || decide (mr ≤ R)) = z2
            generalize Value.bool (decide (mr ≤ R)) = z1
            go_loopw [8] (fun x wm => ∃ j : Nat, j ≤ mc ∧ x = .int .i64 (j : Int) ∧ Made wm (gx + 1) gx L.length mc (cellsOf mc pf (i * mc + j)) ∧ Ext w3 wm) (fun x _ => mc - (intOf x).toNat)
            case atStart => exact ⟨0, by omega, rfl, by rw [Nat.add_zero]; exact hMq, hE3q⟩
            case round =>
              obtain ⟨j, hj, rfl, hMm, hEm⟩ := hrel
              have f1 := (hWa3.ext hEm).at 1 rfl
              have f2 := (hWa3.ext hEm).at 2 rfl
              by_cases hjt : j < mc
              · obtain ⟨v, hWv, hO⟩ := hMm
                have hEwm := hE3.trans hEm
                have hRj : R * mc + j < mr * mc := by
                  have : (R + 1) * mc ≤ mr * mc := Nat.mul_le_mul_right _ hRm
                  rw [Nat.add_mul, Nat.one_mul] at this
                  omega
                rcases h1.2 with h0 | ⟨g1, o1, rfl, hg1', hc1⟩
                · have := HM.out; omega
                have m1 := (hEwm.cell (i := o1 + (R * mc + j)) hg1').trans (hc1 (R * mc + j) (by have := HM.out; omega))
                have hpf : ml.getD (R * mc + j) 0 = pf i j := by rw [HF.out, ← HRR.out, Int.toNat_natCast]
                rw [hpf] at m1
                have hS := cellsOf_succ mc pf (i * mc + j)
                have hdiv : (i * mc + j) / mc = i := by
                  rw [Nat.mul_comm, Nat.mul_add_div (by omega), Nat.div_eq_of_lt hjt, Nat.add_zero]
                have hmod : (i * mc + j) % mc = j := by
                  rw [Nat.mul_comm, Nat.mul_add_mod, Nat.mod_eq_of_lt hjt]
                rw [hdiv, hmod] at hS
                have HS := hide hS
                have hib : i * mc + j < L.length * mc := by
                  have : (i + 1) * mc ≤ L.length * mc := Nat.mul_le_mul_right _ hlt
                  rw [Nat.add_mul, Nat.one_mul] at this
                  omega
                have hlen := cellsOf_len mc pf (i * mc + j)
                have hfit : (cellsOf mc pf (i * mc + j)).length + 1 ≤ 140737488355328 := by omega
                have hP1 : R * mc ≤ 65025 := by omega
                have hb1' : (R : Int) * (mc : Int) = ((R * mc : Nat) : Int) := (Int.natCast_mul R mc).symm
                have hm1 : IntKind.i64.wrap ((R : Int) * (mc : Int)) = ((R * mc : Nat) : Int) := by rw [hb1', IntKind.wrap_i64]; omega
                have hla : (ml.length : Int) = ((mr * mc : Nat) : Int) := by rw [HM.out]
                have r2 := (hEwm.cell (i := o2 + i) hg2).trans (HC2.out i hlt)
                rw [← HRR.out] at r2
                generalize R * mc = P at *
                have g1a : ((P : Int) + (j : Int)) < (ml.length : Int) := by omega
                have g1b : (0 : Int) ≤ ((P : Int) + (j : Int)) := by omega
                have hjc : j < 256 := by omega
                have hm2 : IntKind.i64.wrap ((P : Int) + (j : Int)) = (P : Int) + (j : Int) := by rw [IntKind.wrap_i64]; omega
                generalize pf i j = bt at *
                have hbt := bt.toNat_lt
                have hlt2 := hWv.lt
                have hE4 := (extNew wr (.cells #[.int .u8 (bt.toNat : Int)] 5))
                have hE4d := hE4.drew
                have hb8 := (Ext.refl (wr.alloc (.cells #[.int .u8 (bt.toNat : Int)] 5))).drew.bytes (bytesNew wr [bt] #[.int .u8 (bt.toNat : Int)] 5 (0, 0) rfl 1 rfl)
                have hO1 := hO.ext hE4d
                have hW4 := hWv.ext hE4d
                have hB1 : gx + 1 ≤ (wr.alloc (.cells #[.int .u8 (bt.toNat : Int)] 5)).drew.heap.size := by
                  have := hE4d.le
                  omega
                obtain ⟨A3, n3, c3, rfl, _, _, _⟩ := hO.form'
                have c2 := hWv.at 2 rfl
                have t1 := (hE4d.cell (i := o2 + i) (Nat.lt_of_lt_of_le hg2 hEwm.le)).trans r2
                have t2 := (hE4d.cell (i := o1 + (P + j)) (Nat.lt_of_lt_of_le hg1' hEwm.le)).trans m1
                have t3 := ((hWa3.ext hEm).ext hE4d).at 1 rfl
                have t4 := ((hWa3.ext hEm).ext hE4d).at 2 rfl
                have t5 := hW4.at 2 rfl
                clear hS hdiv hmod hlen hb1' hla h1 hpf hc1 hMq
                go_wp2
                refine wp_region_T (fun W => W.cell? ⟨gx, 2, none⟩ = some (.slice A3 n3 c3) ∧ W.cell? ⟨w.heap.size, 2, none⟩ = some (.slice (some ⟨g1, o1, none⟩) ml.length k1) ∧ W.cell? ⟨g2, o2 + i, none⟩ = some (.int .i64 (R : Int)) ∧ W.cell? ⟨w.heap.size, 1, none⟩ = some (.int .i64 (mc : Int)) ∧ W.cell? ⟨g1, o1 + (P + j), none⟩ = some (.int .u8 (bt.toNat : Int))) 16 19 #[false, false, false, false, false, false, false, false, false, false, false, false, false, false, false, false, false, false, false] (by kernel_rfl) rfl rfl ⟨c2, f2, r2, f1, m1⟩ ?_
                intro hS0
                refine wpAnyT_take 0 (some 50) (.pointer (some ⟨gx, 2, none⟩)) #[true, false, false, false, false, false, false, false, false, false, false, false, false, false, false, false, false, false, false] rfl rfl rfl (by kernel_rfl) (fun _ _ _ h => h) hS0 (by rfl) (fun W ⟨s0, s1, s2, s3, s4⟩ => by go_simp) ?_
                simp only [Act.put, List.setIfInBounds_toArray, List.set_cons_zero, List.set_cons_succ]
                refine wpAnyT_take 1 (some 51) (.slice A3 n3 c3) #[true, true, false, false, false, false, false, false, false, false, false, false, false, false, false, false, false, false, false] rfl rfl rfl (by kernel_rfl) (fun _ _ _ h => h) hS0 (by rfl) (fun W ⟨s0, s1, s2, s3, s4⟩ => by go_simp) ?_
                simp only [Act.put, List.setIfInBounds_toArray, List.set_cons_zero, List.set_cons_succ]
                refine wpAnyT_take 2 (some 52) (.pointer (some ⟨w.heap.size, 2, none⟩)) #[true, true, true, false, false, false, false, false, false, false, false, false, false, false, false, false, false, false, false] rfl rfl rfl (by kernel_rfl) (fun _ _ _ h => h) hS0 (by rfl) (fun W ⟨s0, s1, s2, s3, s4⟩ => by go_simp) ?_
                simp only [Act.put, List.setIfInBounds_toArray, List.set_cons_zero, List.set_cons_succ]
                refine wpAnyT_take 3 (some 53) (.slice (some ⟨g1, o1, none⟩) ml.length k1) #[true, true, true, true, false, false, false, false, false, false, false, false, false, false, false, false, false, false, false] rfl rfl rfl (by kernel_rfl) (fun _ _ _ h => h) hS0 (by rfl) (fun W ⟨s0, s1, s2, s3, s4⟩ => by go_simp) ?_
                simp only [Act.put, List.setIfInBounds_toArray, List.set_cons_zero, List.set_cons_succ]
                refine wpAnyT_take 4 (some 54) (.slice (some ⟨g2, o2, none⟩) L.length k2) #[true, true, true, true, true, false, false, false, false, false, false, false, false, false, false, false, false, false, false] rfl rfl rfl (by kernel_rfl) (fun _ _ _ h => h) hS0 (by rfl) (fun W ⟨s0, s1, s2, s3, s4⟩ => by go_simp) ?_
                simp only [Act.put, List.setIfInBounds_toArray, List.set_cons_zero, List.set_cons_succ]
                refine wpAnyT_take 5 (some 55) (.int .i64 (i : Int)) #[true, true, true, true, true, true, false, false, false, false, false, false, false, false, false, false, false, false, false] rfl rfl rfl (by kernel_rfl) (fun _ _ _ h => h) hS0 (by rfl) (fun W ⟨s0, s1, s2, s3, s4⟩ => by go_simp) ?_
                simp only [Act.put, List.setIfInBounds_toArray, List.set_cons_zero, List.set_cons_succ]
                refine wpAnyT_take 6 (some 56) (.pointer (some ⟨g2, o2 + i, none⟩)) #[true, true, true, true, true, true, true, false, false, false, false, false, false, false, false, false, false, false, false] rfl rfl rfl (by kernel_rfl) (fun _ _ _ h => h) hS0 (by rfl) (fun W ⟨s0, s1, s2, s3, s4⟩ => by go_simp) ?_
                simp only [Act.put, List.setIfInBounds_toArray, List.set_cons_zero, List.set_cons_succ]
                refine wpAnyT_take 7 (some 57) (.int .i64 (R : Int)) #[true, true, true, true, true, true, true, true, false, false, false, false, false, false, false, false, false, false, false] rfl rfl rfl (by kernel_rfl) (fun _ _ _ h => h) hS0 (by rfl) (fun W ⟨s0, s1, s2, s3, s4⟩ => by go_simp) ?_
                simp only [Act.put, List.setIfInBounds_toArray, List.set_cons_zero, List.set_cons_succ]
                refine wpAnyT_take 8 (some 58) (.pointer (some ⟨w.heap.size, 1, none⟩)) #[true, true, true, true, true, true, true, true, true, false, false, false, false, false, false, false, false, false, false] rfl rfl rfl (by kernel_rfl) (fun _ _ _ h => h) hS0 (by rfl) (fun W ⟨s0, s1, s2, s3, s4⟩ => by go_simp) ?_
                simp only [Act.put, List.setIfInBounds_toArray, List.set_cons_zero, List.set_cons_succ]
                refine wpAnyT_take 9 (some 59) (.int .i64 (mc : Int)) #[true, true, true, true, true, true, true, true, true, true, false, false, false, false, false, false, false, false, false] rfl rfl rfl (by kernel_rfl) (fun _ _ _ h => h) hS0 (by rfl) (fun W ⟨s0, s1, s2, s3, s4⟩ => by go_simp) ?_
                simp only [Act.put, List.setIfInBounds_toArray, List.set_cons_zero, List.set_cons_succ]
                refine wpAnyT_take 10 (some 60) (.int .i64 (P : Int)) #[true, true, true, true, true, true, true, true, true, true, true, false, false, false, false, false, false, false, false] rfl rfl rfl (by kernel_rfl) (fun _ _ _ h => h) hS0 (by rfl) (fun W ⟨s0, s1, s2, s3, s4⟩ => by go_simp) ?_
                simp only [Act.put, List.setIfInBounds_toArray, List.set_cons_zero, List.set_cons_succ]
                refine wpAnyT_take 11 (some 61) (.int .i64 (j : Int)) #[true, true, true, true, true, true, true, true, true, true, true, true, false, false, false, false, false, false, false] rfl rfl rfl (by kernel_rfl) (fun _ _ _ h => h) hS0 (by rfl) (fun W ⟨s0, s1, s2, s3, s4⟩ => by go_simp) ?_
                simp only [Act.put, List.setIfInBounds_toArray, List.set_cons_zero, List.set_cons_succ]
                refine wpAnyT_take 12 (some 62) (.int .i64 ((P : Int) + (j : Int))) #[true, true, true, true, true, true, true, true, true, true, true, true, true, false, false, false, false, false, false] rfl rfl rfl (by kernel_rfl) (fun _ _ _ h => h) hS0 (by rfl) (fun W ⟨s0, s1, s2, s3, s4⟩ => by go_simp) ?_
                simp only [Act.put, List.setIfInBounds_toArray, List.set_cons_zero, List.set_cons_succ]
                refine wpAnyT_take 13 (some 63) (.pointer (some ⟨g1, o1 + (P + j), none⟩)) #[true, true, true, true, true, true, true, true, true, true, true, true, true, true, false, false, false, false, false] rfl rfl rfl (by kernel_rfl) (fun _ _ _ h => h) hS0 (by rfl) (fun W ⟨s0, s1, s2, s3, s4⟩ => by go_simp) ?_
                simp only [Act.put, List.setIfInBounds_toArray, List.set_cons_zero, List.set_cons_succ]
                refine wpAnyT_take 14 (some 64) (.int .u8 (bt.toNat : Int)) #[true, true, true, true, true, true, true, true, true, true, true, true, true, true, true, false, false, false, false] rfl rfl rfl (by kernel_rfl) (fun _ _ _ h => h) hS0 (by rfl) (fun W ⟨s0, s1, s2, s3, s4⟩ => by go_simp) ?_
                simp only [Act.put, List.setIfInBounds_toArray, List.set_cons_zero, List.set_cons_succ]
                refine wpAnyT_only 15 #[true, true, true, true, true, true, true, true, true, true, true, true, true, true, true, true, false, false, false] (by kernel_rfl) rfl rfl (by rfl) (fun K hK => ?_)
                go_simp
                refine hK _ _ (fun _ => ⟨t5, t4, t1, t3, t2⟩) ?_
                clear hK K
                refine wpAnyT_only 16 #[true, true, true, true, true, true, true, true, true, true, true, true, true, true, true, true, true, false, false] (by kernel_rfl) rfl rfl (by rfl) (fun K hK => ?_)
                refine wp_appAt (.tmp 51) (.tmp 65) rfl rfl hO1 rfl hb8 hfit hB1 ?_
                intro v4 w4 hO4 hG4 _
                have hne4 : (Value.slice A3 n3 c3).ownBlock ≠ some gx := fun e => by
                  have := (hO1.lt _ e).1
                  omega
                have hW5 := hW4.ownGrown hG4 hne4
                have o1' := hO4.one
                have o2' := hO4.cells1
                refine hK _ _ (fun h => absurd h (by decide)) ?_
                clear hK K
                refine wpAnyT_only 17 #[true, true, true, true, true, true, true, true, true, true, true, true, true, true, true, true, true, true, false] (by kernel_rfl) rfl rfl (by rfl) (fun K hK => ?_)
                go_simp
                refine hK _ _ (fun h => absurd h (by decide)) ?_
                clear hK K
                refine wpAnyT_only 18 #[true, true, true, true, true, true, true, true, true, true, true, true, true, true, true, true, true, true, true] (by kernel_rfl) rfl rfl (by rfl) (fun K hK => ?_)
                refine wp_storeC 35 (.tmp 67) (.tmp 66) rfl #[.int .i64 L.length, .int .i64 mc, v4] rfl rfl hW5 (by simp) (by kernel_rfl) o1' o2' rfl ?_
                intro w5 hW6 hG5
                refine hK _ _ (fun h => absurd h (by decide)) ?_
                clear hK K
                refine wpAnyT_done (by kernel_rfl) ?_ _
                go_wp2
                go_roundw
                case rel =>
                  have hne5 : v4.ownBlock ≠ some gx := fun e => by
                    have := (hO4.lt _ e).1
                    omega
                  have hE6 := hEm.trans hE4d
                  have hF4 : Ext w3 w4 := Below.grown hE6 hG4 hE6.le (fun k hk => by have := (hO1.lt k hk).1; omega)
                  have hF5 : Ext w3 w5 := Below.grown hF4 hG5 hF4.le (fun k hk => by cases hk; omega)
                  exact ⟨j + 1, by omega, by go_num, ⟨v4, hW6, by rw [← Nat.add_assoc, HS.out]; exact (Mod.ofRow (ob := none) hG5).own hO4 hne5 (by simp [Classical.em])⟩, hF5⟩
                case measure => simp [intOf]; omega
              · obtain rfl : j = mc := by omega
                go_wp2
                go_roundw
                case rel => exact ⟨i + 1, by omega, by go_num, fun k hk => by
                    rcases Nat.lt_succ_iff_lt_or_eq.1 hk with h | rfl
                    · exact HL.out k h
                    · rw [← HRR.out]; omega, by rw [Nat.add_mul, Nat.one_mul]; exact hMm, hEm⟩
                case measure => simp [intOf]; omega
        · obtain rfl : i = L.length := by omega
          obtain ⟨v, hWv, hO⟩ := hMd
          have hWrr := hWr3.ext hEr
          have o1 := hO.one
          go_wp2_with (first
            | (refine wpList_load_row rfl 42 (.tmp 6) rfl _ rfl _ _ _ _ hWv Try.underlying42 rfl mat_info ?_)
            | (refine wpList_storeW rfl 42 (.tmp 4) (.tmp 68) rfl rfl rfl hWrr rfl mat_info (mat_one o1) ?_; intro w5 hW5 hG5 _))
          refine bodyPost_ret (results_mat rfl _ rfl rfl hW5 rfl) rfl ?_
          have hne5 : v.ownBlock ≠ some (w.heap.size + 1) := fun e => by
            have := (hO.lt _ e).1
            omega
          rw [HK.out hall, HR.out]
          exact ⟨v, rfl, ((Mod.ofRow (ob := none) hG5).own hO hne5 (by simp [Classical.em])).mono (by omega), Below.grown (hE3.trans hEr) hG5 (hE3.trans hEr).le (fun k hk => by cases hk; omega)⟩
  · have HN := hide (show m.pickE L = (MV.zero, 13) by rw [HP.out, if_neg]; rintro ⟨h, _⟩; exact ha h)
    rw [Bool.not_eq_true] at ha
    rw [ha] at M1
    clear ha
    go_enter Try.func39, Try.ntmps39
    go_wp2_with fail
    refine (M1 _).mono ?_
    rintro e w2 ⟨rfl, hF2⟩
    have hWr2 := hWr.ext hF2
    go_wp2_with (refine wpList_storeW rfl 42 (.tmp 4) (.tmp 17) rfl rfl rfl hWr2 rfl mat_info (mat_one rfl) ?_; intro w5 hW5 hG5 _)
    refine bodyPost_ret (results_mat rfl _ rfl rfl hW5 rfl) rfl ?_
    rw [HN.out]
    exact MadeM.zero 13 (Below.grown (hE.trans hF2) hG5 (hE.trans hF2).le (fun k hk => by cases hk; omega))
end Go.Proofs.Ytbfkknoeaekajaa
