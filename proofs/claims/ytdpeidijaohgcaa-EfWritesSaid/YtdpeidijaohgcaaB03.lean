/- The program's partsOf. Contracts of the document's numbers: Num, Fixed, Zig, Zag, scan. Contracts of the document's numbers: Fixed, scan, Text. The document's example; a new reader. Contracts of the document's writer: Put, Unary. The contract of the document's Put. The contract of the document's Bytes. A writer of the program and one of the document, side by side. The document's Write of chapter 13. The bits of a row as the program writes them. Are two rows of bytes the same? Bytes as strings. The contract of the document's Same, of bytes as strings. What the laws of chapter 13 ask of the program; the example; EfWrites, EfShort, EfNone. Slices of slices of bytes. The contracts of the library's slices.Concat at bytes (with its Grow of nothing), and of the program's All. The contract of the document's Text; append of a string's bytes. Contracts of the program's numbers: Zig, Zag, Num, Text. The program's Write of chapter 13. -/
import Derived.Test.YtdpeidijaohgcaaB01
import Derived.Test.YtdpeidijaohgcaaB02
import Derived.Lib.AppendStr
import Derived.Deep.RegionLaw
import Derived.Lib.SliceRun
namespace Go.Proofs.Ytdpeidijaohgcaa
open Go.RowKit Num Ef

theorem wpOper_putC {op : Oper} {a : Act} {w : World} {K : Act → World → Prop} {Q : Exit → Act → World → Prop} (ty : TypeId) (x y : Operand) (ho : op.op = .store ty x y)
    {g i : Nat} {t : TypeId} {cs : Array Value} (cs' : Array Value) {u : Value} (hx : a.eval x = .pointer (some ⟨g, i, none⟩)) (hy : a.eval y = u) (hw : Whole w g t cs) (hi : i < cs.size)
    (hs : (Try.prog.info? ty).map (·.size) = some 1) (h1 : u.oneCell' = true) (hcells : u.cells = #[u]) (hcs : cs.setIfInBounds i u = cs')
    (h : ∀ w', Whole w' g t cs' → w.grownBy w' (some g) → K (a.put op.dst undef) w') : Oper.wp Try.prog op a w K Q := by
  subst hcs
  have hf := hw.frozen i
  have hc : w.cell? ⟨g, i, none⟩ = some (cs[i]) := hw.at i (Array.getElem?_eq_getElem hi)
  unfold Oper.wp execOp
  cases hq : Try.prog.info? ty with
  | none => simp [hq] at hs
  | some d =>
    have hs' : d.size = 1 := by simpa [hq] using hs
    have ht : w.there g i 1 := fun j hj => by
      obtain rfl : j = 0 := by omega
      exact ⟨by rw [Nat.add_zero, hc]; rfl, by rw [Nat.add_zero]; exact hf⟩
    have hr : (storeVar ty ⟨g, i, none⟩ u).run Try.prog w = .ok () (w.setCells g i [u]) := by
      have := run_storeCells_cells (P := Try.prog) g i [u] 0 w (fun j hj => by simpa using (ht j (by simpa using hj)).1) (fun j hj => by simpa using (ht j (by simpa using hj)).2) (fun v hv => by simp at hv; subst hv; exact h1)
      simp only [storeVar, sizeOf, typeInfo, hcells]
      simpa [hq, hs'] using this
    simp only [ho, hx, hy, Instr.storeAt, Instr.sureAddr, Sem.run_bind, Sem.run_pure, Result.andThen_ok, hr]
    exact h _ (hw.set i u) (grown_setCell w g i u)
theorem parts_info : (Try.prog.info? 51).map (·.size) = some 3 := by kernel_rfl
theorem parts_one (k : Int) (A1 : Option Addr) (n1 c1 : Nat) (A2 : Option Addr) (n2 c2 : Nat) : (#[.int .i64 k, .slice A1 n1 c1, .slice A2 n2 c2] : Array Value).all (·.oneCell') = true := by
  simp
  exact ⟨rfl, rfl, rfl⟩
/-- What partsOf tells. -/
def PartsTo (w : World) (k : Nat) (ids : List Int) (e : Ending) (w' : World) : Prop :=
  ∃ A1 c1 A2 c2, e = .returned (partsV k A1 ids.length c1 A2 ids.length c2) ∧ PartsV w' w'.heap.size k A1 ids.length A2 ids.length ids ∧ Ext w w'
theorem Ef.cut_bits (y k : Nat) (hk : k ≤ 14) (hy : y ≤ 1000000) : IntKind.i64.wrap (2 ^ k) = ((2 ^ k : Nat) : Int) ∧ IntKind.i64.wrap (((2 ^ k : Nat) : Int) - 1) = ((2 ^ k : Nat) : Int) - 1 ∧ 1 ≤ 2 ^ k ∧ 2 ^ k ≤ 16384 ∧ bits .and .i64 (y : Int) (((2 ^ k : Nat) : Int) - 1) = ((y % 2 ^ k : Nat) : Int) ∧ (y : Int) / 2 ^ k = ((y / 2 ^ k : Nat) : Int) ∧ y / 2 ^ k ≤ 1000000 := by
  have hpw : (2 : Nat) ^ k ≤ 2 ^ 14 := Nat.pow_le_pow_right (by omega) hk
  have h1 : 1 ≤ 2 ^ k := Nat.pow_pos (by omega)
  have e : (((2 ^ k : Nat) : Int) - 1) = ((2 ^ k - 1 : Nat) : Int) := by omega
  refine ⟨by rw [IntWalk.i64_left]; exact wrap64_pow (by omega), by rw [IntKind.wrap_i64]; omega, h1, by omega, ?_, ?_, Nat.le_trans (Nat.div_le_self _ _) hy⟩
  · have h2 : y < 4611686018427387904 := by omega
    have h3 : 2 ^ k - 1 < 4611686018427387904 := by omega
    rw [e, i64_and_nat y (2 ^ k - 1) h2 h3, Nat.and_two_pow_sub_one_eq_mod]
  · simp only [Int.natCast_ediv, Int.natCast_pow]; rfl

set_option maxHeartbeats 2000000 in
set_option maxRecDepth 10000 in
theorem efParts_any (A : Option Addr) (c : Nat) (ids : List Int) (bd : Nat) (w0 : World) (h : IntsAt w0 w0.heap.size A ids.length ids) (hb : bd ≤ 20000) (hn : ids.length ≤ 20000) (hr : row (bd : Int) ids = true) :
    Calls Try.prog 25 #[.int .i64 (bd : Int), .slice A ids.length c] w0 (PartsTo w0 (widE (bd : Int) ids.length) ids) := by
  have CL := fun W => efLow_any bd ids.length W hb hn
  have hk14 := widE_le (bound := (bd : Int)) (n := ids.length) (by omega)
  have HRow := hide (fun (i : Nat) (hi : i < ids.length) => row_at hr hi)
  have HA := hide h
  clear hr h
  generalize widE (bd : Int) ids.length = k at *
  obtain ⟨n, hnn⟩ : ∃ n, n = ids.length := ⟨_, rfl⟩
  rw [← hnn] at CL HRow HA hn ⊢
  have HNn := hide hnn
  clear hnn
  have hE1 := hide (extNew w0 (.cells #[.int .i64 0, .slice none 0 0, .slice none 0 0] 51))
  have hR1 := hide (Whole.new w0 51 #[.int .i64 0, .slice none 0 0, .slice none 0 0])
  go_enter Try.func25, Try.ntmps25
  go_wp2_with fail
  refine (CL _).mono ?_
  rintro e w2 ⟨rfl, hQ2⟩
  have hE2 := hE1.out.trans hQ2.ext
  have hR2 := hR1.out.ext hQ2.ext
  have hRlt := hR2.lt
  clear CL hQ2 hE1 hR1
  obtain ⟨g, hg⟩ : ∃ g, g = w2.heap.size := ⟨_, rfl⟩
  obtain ⟨R, hRR⟩ : ∃ R, R = w0.heap.size := ⟨_, rfl⟩
  have hE4 := hE2.trans (extNew w2 (.cells #[.int .i64 0, .slice none 0 0, .slice none 0 0] 51))
  have hW4 := Whole.new w2 51 #[.int .i64 0, .slice none 0 0, .slice none 0 0]
  have hR4 := hR2.ext (extNew w2 (.cells #[.int .i64 0, .slice none 0 0, .slice none 0 0] 51))
  have HG := hide hg
  have HRR := hide hRR
  rw [← hg] at hW4 hRlt
  rw [← hRR] at hR4 hRlt
  have hRw : w0.heap.size ≤ R := by omega
  have hgw : w0.heap.size ≤ g := by omega
  clear hR2 hE2 hg hRR
  go_wp2_with (refine wpList_storeW rfl 51 (.tmp 5) (.tmp 12) rfl (by rw [HG.out]; rfl) rfl hW4 rfl parts_info (parts_one ..) ?_; intro w5 hW5 hG5 hS5; clear hS5)
  rw [← HG.out, ← HRR.out]
  have hR5 := hR4.grown hG5 (by omega)
  have hE5 : Ext w0 w5 := Below.grown hE4 hG5 hE4.le (fun k hk => by cases hk; omega)
  clear hW4 hG5 hR4 hE4
  go_loopw [15] (fun x wr => ∃ i A1 c1 A2 c2 L H, i ≤ n ∧ x = .int .i64 ((i : Nat) : Int) ∧ Whole wr g 51 #[.int .i64 (k : Int), .slice A1 L.length c1, .slice A2 H.length c2] ∧ TwoI wr (g + 1) (.slice A1 L.length c1) (.slice A2 H.length c2) L H ∧ Parts k (ids.take i) L H ∧ L.length = i ∧ Whole wr R 51 #[.int .i64 0, .slice none 0 0, .slice none 0 0] ∧ Ext w0 wr) (fun x _ => n - (intOf x).toNat)
  case atStart => exact ⟨0, none, 0, none, 0, [], [], by omega, rfl, hW5, TwoI.nil _ _, by rw [List.take_zero]; exact Parts.nil hk14 _, rfl, hR5, hE5⟩
  case round =>
    clear hW5 hR5 hE5
    obtain ⟨i, A1, c1, A2, c2, L, H, hi, rfl, hW, hT, hP, hL, hR, hE⟩ := hrel
    have HP := hide hP
    have HLen := hide (show L.length ≤ 20000 ∧ H.length ≤ 20000 by
      have h1 := hP.2.1
      rw [List.length_take] at h1
      omega)
    have HL := hide hL
    clear hP hL
    by_cases hlt : i < n
    · have hiI : (i : Int) < (n : Int) := by omega
      rcases (HA.out.later hE).2 with hn0 | ⟨b1, o1, rfl, _, hc1⟩
      · omega
      have e1 := hc1 i hlt
      obtain ⟨hy0, hyb, -⟩ := HRow.out i hlt
      obtain ⟨y, hy⟩ := Int.eq_ofNat_of_zero_le hy0
      rw [hy] at e1 hyb
      have HY := hide hy
      have hym : y ≤ 1000000 := by omega
      obtain ⟨hpw, hpm, hp1, hp2, hand, hshr, hhm⟩ := cut_bits y k hk14 hym
      have HX := hide (Nat.mod_lt y (show 0 < 2 ^ k by omega))
      have HI := hide (part_is y k)
      have HM := hide hhm
      clear hc1 hy0 hy hhm
      obtain ⟨p, hp⟩ : ∃ p, p = 2 ^ k := ⟨_, rfl⟩
      obtain ⟨x, hx⟩ : ∃ x, x = y % 2 ^ k := ⟨_, rfl⟩
      obtain ⟨h, hh⟩ : ∃ h, h = y / 2 ^ k := ⟨_, rfl⟩
      rw [← hx] at HX HI hand
      rw [← hh] at HI HM hshr
      rw [← hp] at hpw hpm hp1 hp2 hand
      clear hp hx hh hyb
      go_wp2_with fail
      refine wp_region_T (fun W => Whole W g 51 #[.int .i64 (k : Int), .slice A1 L.length c1, .slice A2 H.length c2]) 9 12 #[false, false, false, false, false, false, false, false, false, false, false, false] (by kernel_rfl) rfl rfl hW ?_
      intro hS0
      refine wpAnyT_take 0 (some 19) (.pointer (some ⟨g, 1, none⟩)) #[true, false, false, false, false, false, false, false, false, false, false, false] rfl rfl rfl (by kernel_rfl) (fun _ _ _ h => h) hS0 (by rfl) (fun W hX => by have s0 := hX.at 0 (u := .int .i64 (k : Int)) rfl; have s1 := hX.at 1 (u := .slice A1 L.length c1) rfl; have s2 := hX.at 2 (u := .slice A2 H.length c2) rfl; go_simp) ?_
      simp only [Act.put, List.setIfInBounds_toArray, List.set_cons_zero, List.set_cons_succ]
      refine wpAnyT_take 1 (some 20) (.slice A1 L.length c1) #[true, true, false, false, false, false, false, false, false, false, false, false] rfl rfl rfl (by kernel_rfl) (fun _ _ _ h => h) hS0 (by rfl) (fun W hX => by have s0 := hX.at 0 (u := .int .i64 (k : Int)) rfl; have s1 := hX.at 1 (u := .slice A1 L.length c1) rfl; have s2 := hX.at 2 (u := .slice A2 H.length c2) rfl; go_simp) ?_
      simp only [Act.put, List.setIfInBounds_toArray, List.set_cons_zero, List.set_cons_succ]
      refine wpAnyT_take 2 (some 21) (.int .i64 (y : Int)) #[true, true, true, false, false, false, false, false, false, false, false, false] rfl rfl rfl (by kernel_rfl) (fun _ _ _ h => h) hS0 (by rfl) (fun W hX => by have s0 := hX.at 0 (u := .int .i64 (k : Int)) rfl; have s1 := hX.at 1 (u := .slice A1 L.length c1) rfl; have s2 := hX.at 2 (u := .slice A2 H.length c2) rfl; go_simp) ?_
      simp only [Act.put, List.setIfInBounds_toArray, List.set_cons_zero, List.set_cons_succ]
      refine wpAnyT_take 3 (some 22) (.pointer (some ⟨g, 0, none⟩)) #[true, true, true, true, false, false, false, false, false, false, false, false] rfl rfl rfl (by kernel_rfl) (fun _ _ _ h => h) hS0 (by rfl) (fun W hX => by have s0 := hX.at 0 (u := .int .i64 (k : Int)) rfl; have s1 := hX.at 1 (u := .slice A1 L.length c1) rfl; have s2 := hX.at 2 (u := .slice A2 H.length c2) rfl; go_simp) ?_
      simp only [Act.put, List.setIfInBounds_toArray, List.set_cons_zero, List.set_cons_succ]
      refine wpAnyT_take 4 (some 23) (.int .i64 (k : Int)) #[true, true, true, true, true, false, false, false, false, false, false, false] rfl rfl rfl (by kernel_rfl) (fun _ _ _ h => h) hS0 (by rfl) (fun W hX => by have s0 := hX.at 0 (u := .int .i64 (k : Int)) rfl; have s1 := hX.at 1 (u := .slice A1 L.length c1) rfl; have s2 := hX.at 2 (u := .slice A2 H.length c2) rfl; go_simp) ?_
      simp only [Act.put, List.setIfInBounds_toArray, List.set_cons_zero, List.set_cons_succ]
      refine wpAnyT_take 5 (some 24) (.int .i64 (p : Int)) #[true, true, true, true, true, true, false, false, false, false, false, false] rfl rfl rfl (by kernel_rfl) (fun _ _ _ h => h) hS0 (by rfl) (fun W hX => by have s0 := hX.at 0 (u := .int .i64 (k : Int)) rfl; have s1 := hX.at 1 (u := .slice A1 L.length c1) rfl; have s2 := hX.at 2 (u := .slice A2 H.length c2) rfl; go_simp) ?_
      simp only [Act.put, List.setIfInBounds_toArray, List.set_cons_zero, List.set_cons_succ]
      refine wpAnyT_take 6 (some 25) (.int .i64 ((p : Int) - 1)) #[true, true, true, true, true, true, true, false, false, false, false, false] rfl rfl rfl (by kernel_rfl) (fun _ _ _ h => h) hS0 (by rfl) (fun W hX => by have s0 := hX.at 0 (u := .int .i64 (k : Int)) rfl; have s1 := hX.at 1 (u := .slice A1 L.length c1) rfl; have s2 := hX.at 2 (u := .slice A2 H.length c2) rfl; go_simp) ?_
      simp only [Act.put, List.setIfInBounds_toArray, List.set_cons_zero, List.set_cons_succ]
      refine wpAnyT_take 7 (some 26) (.int .i64 (x : Int)) #[true, true, true, true, true, true, true, true, false, false, false, false] rfl rfl rfl (by kernel_rfl) (fun _ _ _ h => h) hS0 (by rfl) (fun W hX => by have s0 := hX.at 0 (u := .int .i64 (k : Int)) rfl; have s1 := hX.at 1 (u := .slice A1 L.length c1) rfl; have s2 := hX.at 2 (u := .slice A2 H.length c2) rfl; go_simp) ?_
      simp only [Act.put, List.setIfInBounds_toArray, List.set_cons_zero, List.set_cons_succ]
      have hT0 := hT.ext (Ext.refl wr).drew
      have hR0 := hR.ext (Ext.refl wr).drew
      have hE0 := hE.trans (Ext.refl wr).drew
      generalize World.drew wr = wd at *
      refine wpAnyT_only 8 #[true, true, true, true, true, true, true, true, true, false, false, false] (by kernel_rfl) rfl rfl (by rfl) (fun K0 hK0 => ?_)
      go_simp
      have hEb := extNew wd (.cells #[.int .i64 (x : Int)] 3)
      have hcb := (Whole.new wd 3 #[.int .i64 (x : Int)]).at 0 (u := .int .i64 (x : Int)) rfl
      have hSb := hS0.ext hEb
      have hTb := hT0.ext hEb
      have hRb := hR0.ext hEb
      have hE1 := hE0.trans hEb
      generalize wd.alloc (.cells #[.int .i64 (x : Int)] 3) = wb at *
      generalize wd.heap.size = gb at *
      refine hK0 _ _ (fun _ => hSb) ?_
      clear hK0 K0
      refine wpAnyT_only 9 #[true, true, true, true, true, true, true, true, true, true, false, false] (by kernel_rfl) rfl rfl (by rfl) (fun K1 hK1 => ?_)
      refine wpOper_appI (.tmp 20) (.tmp 27) rfl rfl hTb.one rfl hcb (by have := HLen.out; omega) (by have := hSb.lt; omega) ?_
      intro vn wa hO hG hN
      obtain ⟨L2, hn⟩ : ∃ Z, Z = L ++ [(x : Int)] := ⟨_, rfl⟩
      rw [← hn] at hO
      have HN5 := hide hn
      clear hn
      have hWa := hSb.ownGrown hG (hTb.ne1 (by omega))
      have hTa := hTb.grow hO hG hN
      have hRa := hRb.ownGrown hG (fun e => by have := hTb.one.lt R e; omega)
      have hEa : Ext w0 wa := Below.grown hE1 hG hE1.le (fun k hk => by have := hTb.one.lt k hk; omega)
      obtain ⟨A3, c3, hvn, hcn, -⟩ := hO.form
      subst hvn
      clear hO hG hN hTb hSb hRb hE1 hEb hcb hT0 hR0 hE0
      refine hK1 _ _ (fun h => absurd h (by decide)) ?_
      clear hK1 K1
      simp only [Act.put, List.setIfInBounds_toArray]
      refine wpAnyT_only 10 #[true, true, true, true, true, true, true, true, true, true, true, false] (by kernel_rfl) rfl rfl (by rfl) (fun K2 hK2 => ?_)
      go_simp
      refine hK2 _ _ (fun h => absurd h (by decide)) ?_
      clear hK2 K2
      refine wpAnyT_only 11 #[true, true, true, true, true, true, true, true, true, true, true, true] (by kernel_rfl) rfl rfl (by rfl) (fun K3 hK3 => ?_)
      refine wpOper_putC 22 (.tmp 29) (.tmp 28) rfl #[.int .i64 (k : Int), .slice A3 L2.length c3, .slice A2 H.length c2] rfl rfl hWa (by simp) (by kernel_rfl) rfl rfl rfl ?_
      intro w6 hWs hGs
      have hTs := hTa.below hGs (by omega)
      have hRs := hRa.grown hGs (by omega)
      have hEs : Ext w0 w6 := Below.grown hEa hGs hEa.le (fun k hk => by cases hk; omega)
      refine hK3 _ _ (fun h => absurd h (by decide)) (wpAnyT_done (by kernel_rfl) ?_ _)
      clear hK3 K3 hWa hTa hRa hEa hGs hW hT hR hE hS0 hcn
      simp only [Act.put]
      have hW := hWs
      have hT := hTs
      have hR := hRs
      have hE := hEs
      clear hWs hTs hRs hEs
      go_wp2_with fail
      refine wp_region_T (fun W => Whole W g 51 #[.int .i64 (k : Int), .slice A3 L2.length c3, .slice A2 H.length c2]) 7 10 #[false, false, false, false, false, false, false, false, false, false] (by kernel_rfl) rfl rfl hW ?_
      intro hS0
      refine wpAnyT_take 0 (some 30) (.pointer (some ⟨g, 2, none⟩)) #[true, false, false, false, false, false, false, false, false, false] rfl rfl rfl (by kernel_rfl) (fun _ _ _ h => h) hS0 (by rfl) (fun W hX => by have s0 := hX.at 0 (u := .int .i64 (k : Int)) rfl; have s1 := hX.at 1 (u := .slice A3 L2.length c3) rfl; have s2 := hX.at 2 (u := .slice A2 H.length c2) rfl; go_simp) ?_
      simp only [Act.put, List.setIfInBounds_toArray, List.set_cons_zero, List.set_cons_succ]
      refine wpAnyT_take 1 (some 31) (.slice A2 H.length c2) #[true, true, false, false, false, false, false, false, false, false] rfl rfl rfl (by kernel_rfl) (fun _ _ _ h => h) hS0 (by rfl) (fun W hX => by have s0 := hX.at 0 (u := .int .i64 (k : Int)) rfl; have s1 := hX.at 1 (u := .slice A3 L2.length c3) rfl; have s2 := hX.at 2 (u := .slice A2 H.length c2) rfl; go_simp) ?_
      simp only [Act.put, List.setIfInBounds_toArray, List.set_cons_zero, List.set_cons_succ]
      refine wpAnyT_take 2 (some 32) (.int .i64 (y : Int)) #[true, true, true, false, false, false, false, false, false, false] rfl rfl rfl (by kernel_rfl) (fun _ _ _ h => h) hS0 (by rfl) (fun W hX => by have s0 := hX.at 0 (u := .int .i64 (k : Int)) rfl; have s1 := hX.at 1 (u := .slice A3 L2.length c3) rfl; have s2 := hX.at 2 (u := .slice A2 H.length c2) rfl; go_simp) ?_
      simp only [Act.put, List.setIfInBounds_toArray, List.set_cons_zero, List.set_cons_succ]
      refine wpAnyT_take 3 (some 33) (.pointer (some ⟨g, 0, none⟩)) #[true, true, true, true, false, false, false, false, false, false] rfl rfl rfl (by kernel_rfl) (fun _ _ _ h => h) hS0 (by rfl) (fun W hX => by have s0 := hX.at 0 (u := .int .i64 (k : Int)) rfl; have s1 := hX.at 1 (u := .slice A3 L2.length c3) rfl; have s2 := hX.at 2 (u := .slice A2 H.length c2) rfl; go_simp) ?_
      simp only [Act.put, List.setIfInBounds_toArray, List.set_cons_zero, List.set_cons_succ]
      refine wpAnyT_take 4 (some 34) (.int .i64 (k : Int)) #[true, true, true, true, true, false, false, false, false, false] rfl rfl rfl (by kernel_rfl) (fun _ _ _ h => h) hS0 (by rfl) (fun W hX => by have s0 := hX.at 0 (u := .int .i64 (k : Int)) rfl; have s1 := hX.at 1 (u := .slice A3 L2.length c3) rfl; have s2 := hX.at 2 (u := .slice A2 H.length c2) rfl; go_simp) ?_
      simp only [Act.put, List.setIfInBounds_toArray, List.set_cons_zero, List.set_cons_succ]
      refine wpAnyT_take 5 (some 35) (.int .i64 (h : Int)) #[true, true, true, true, true, true, false, false, false, false] rfl rfl rfl (by kernel_rfl) (fun _ _ _ h => h) hS0 (by rfl) (fun W hX => by have s0 := hX.at 0 (u := .int .i64 (k : Int)) rfl; have s1 := hX.at 1 (u := .slice A3 L2.length c3) rfl; have s2 := hX.at 2 (u := .slice A2 H.length c2) rfl; go_simp) ?_
      simp only [Act.put, List.setIfInBounds_toArray, List.set_cons_zero, List.set_cons_succ]
      have hT0 := hT.ext (Ext.refl w6).drew
      have hR0 := hR.ext (Ext.refl w6).drew
      have hE0 := hE.trans (Ext.refl w6).drew
      generalize World.drew w6 = wd at *
      refine wpAnyT_only 6 #[true, true, true, true, true, true, true, false, false, false] (by kernel_rfl) rfl rfl (by rfl) (fun K0 hK0 => ?_)
      go_simp
      have hEb := extNew wd (.cells #[.int .i64 (h : Int)] 3)
      have hcb := (Whole.new wd 3 #[.int .i64 (h : Int)]).at 0 (u := .int .i64 (h : Int)) rfl
      have hSb := hS0.ext hEb
      have hTb := hT0.ext hEb
      have hRb := hR0.ext hEb
      have hE1 := hE0.trans hEb
      generalize wd.alloc (.cells #[.int .i64 (h : Int)] 3) = wb at *
      generalize wd.heap.size = gb at *
      refine hK0 _ _ (fun _ => hSb) ?_
      clear hK0 K0
      refine wpAnyT_only 7 #[true, true, true, true, true, true, true, true, false, false] (by kernel_rfl) rfl rfl (by rfl) (fun K1 hK1 => ?_)
      refine wpOper_appI (.tmp 31) (.tmp 36) rfl rfl hTb.two rfl hcb (by have := HLen.out; omega) (by have := hSb.lt; omega) ?_
      intro vn wa hO hG hN
      obtain ⟨H2, hn⟩ : ∃ Z, Z = H ++ [(h : Int)] := ⟨_, rfl⟩
      rw [← hn] at hO
      have HN6 := hide hn
      clear hn
      have hWa := hSb.ownGrown hG (hTb.ne2 (by omega))
      have hTa := (hTb.flip.grow hO hG hN).flip
      have hRa := hRb.ownGrown hG (fun e => by have := hTb.two.lt R e; omega)
      have hEa : Ext w0 wa := Below.grown hE1 hG hE1.le (fun k hk => by have := hTb.two.lt k hk; omega)
      obtain ⟨A4, c4, hvn, hcn, -⟩ := hO.form
      subst hvn
      clear hO hG hN hTb hSb hRb hE1 hEb hcb hT0 hR0 hE0
      refine hK1 _ _ (fun h => absurd h (by decide)) ?_
      clear hK1 K1
      simp only [Act.put, List.setIfInBounds_toArray]
      refine wpAnyT_only 8 #[true, true, true, true, true, true, true, true, true, false] (by kernel_rfl) rfl rfl (by rfl) (fun K2 hK2 => ?_)
      go_simp
      refine hK2 _ _ (fun h => absurd h (by decide)) ?_
      clear hK2 K2
      refine wpAnyT_only 9 #[true, true, true, true, true, true, true, true, true, true] (by kernel_rfl) rfl rfl (by rfl) (fun K3 hK3 => ?_)
      refine wpOper_putC 22 (.tmp 38) (.tmp 37) rfl #[.int .i64 (k : Int), .slice A3 L2.length c3, .slice A4 H2.length c4] rfl rfl hWa (by simp) (by kernel_rfl) rfl rfl rfl ?_
      intro w7 hWs hGs
      have hTs := hTa.below hGs (by omega)
      have hRs := hRa.grown hGs (by omega)
      have hEs : Ext w0 w7 := Below.grown hEa hGs hEa.le (fun k hk => by cases hk; omega)
      refine hK3 _ _ (fun h => absurd h (by decide)) (wpAnyT_done (by kernel_rfl) ?_ _)
      clear hK3 K3 hWa hTa hRa hEa hGs hW hT hR hE hS0 hcn
      simp only [Act.put]
      have hW := hWs
      have hT := hTs
      have hR := hRs
      have hE := hEs
      clear hWs hTs hRs hEs
      have HParts := hide (show Parts k (ids.take (i + 1)) L2 H2 by
        have h1 := HP.out.more (h := h) (x := x) (by rw [HL.out, List.length_take]; have := HNn.out; omega) HX.out HM.out
        rw [HN5.out, HN6.out]
        have e : ids.take i ++ [((h * 2 ^ k + x : Nat) : Int)] = ids.take (i + 1) := by
          rw [List.take_add_one, HI.out, ← HY.out, List.getD_eq_getElem?_getD, List.getElem?_eq_getElem (by have := HNn.out; omega)]
          rfl
        rw [← e]
        exact h1)
      have HLen2 := hide (show L2.length = i + 1 by rw [HN5.out, List.length_append, HL.out]; rfl)
      clear HN5 HN6 hand hshr hpw hpm hp1 hp2 hym
      go_wp2
      go_roundw
      case rel => exact ⟨i + 1, A3, c3, A4, c4, L2, H2, by omega, by go_num, hW, hT, HParts.out, HLen2.out, hR, hE⟩
      case measure => simp [intOf]; omega
    · obtain rfl : n = i := by omega
      have HL2 := hide (show L.length = n ∧ H.length = n by
        have h1 := HP.out.2.1
        rw [List.length_take] at h1
        have := HNn.out
        exact ⟨HL.out, by omega⟩)
      have HPa := hide (show Parts k ids L H by
        have := HP.out
        rwa [List.take_of_length_le (by rw [HNn.out]; exact Nat.le_refl _)] at this)
      have HT := hide hT
      clear hT HP HL
      go_wp2_with (first | (refine wpList_load_row rfl 51 (.tmp 5) rfl _ rfl _ _ _ _ hW Try.underlying51 rfl parts_info ?_) | (refine wpList_storeW rfl 51 (.tmp 4) (.tmp 40) rfl rfl rfl hR rfl parts_info (parts_one ..) ?_; intro w9 hW9 hG9 hS9; clear hS9))
      simp only [Act.put, List.setIfInBounds_toArray, List.set_cons_zero, List.set_cons_succ]
      refine bodyPost_ret (results_cell_row rfl _ _ _ _ _ _ _ rfl hW9 Try.underlying51 rfl parts_info) rfl ?_
      have hT9 := HT.out.below hG9 (by omega)
      have h1 := hT9.one.at
      have h2 := hT9.two.at
      rw [HL2.out.1] at h1
      rw [HL2.out.2] at h2
      refine ⟨A1, c1, A2, c2, ?_, ⟨⟨L, H, ?_, ?_, HPa.out⟩⟩, Below.grown hE hG9 hE.le (fun k hk => by cases hk; omega)⟩
      · rw [← HNn.out, HL2.out.1, HL2.out.2]; rfl
      · rw [← HNn.out]; exact h1
      · rw [← HNn.out]; exact h2
end Go.Proofs.Ytdpeidijaohgcaa

namespace Go.Proofs.Ytdpeidijaohgcaa
open Go.RowKit

/-- A byte that a number becomes. -/
theorem byte_of {z : Int} {y : Nat} (h : z = (y : Int)) (hy : y < 256) : z = ((UInt8.ofNat y).toNat : Int) := by rw [h, Num.ofNat_low y hy]

set_option maxHeartbeats 1000000 in
set_option maxRecDepth 100000 in
theorem refNum_any (x : Nat) (w : World) (hx : x < 18446744073709551616) : Calls Try.prog 27 #[.int .u64 x] w (MadeB w (Num.enc x)) := by
  go_enter Try.func27, Try.ntmps27
  go_wp2
  go_loopw [0, 3] (fun y v wr => ∃ (k z : Nat) (pre : List UInt8), y = .int .u64 (z : Int) ∧ z < 18446744073709551616 ∧ z < 128 ^ (10 - k) ∧ k ≤ 9 ∧ pre.length = k ∧ pre ++ Num.encF (10 - k) z = Num.enc x ∧ OwnB wr w.heap.size v pre ∧ Ext w wr) (fun y _ _ => (intOf y).toNat)
  case atStart => exact ⟨0, x, [], rfl, hx, Nat.lt_of_lt_of_le hx (by decide), by omega, rfl, rfl, OwnB.nil _ _, Ext.refl _⟩
  case round =>
    obtain ⟨k, z, pre, rfl, hz, hzk, hk, hlen, henc, hO, hE⟩ := hrel
    obtain ⟨f, hf⟩ : ∃ f, 10 - k = f + 1 := ⟨9 - k, by omega⟩
    rw [hf] at henc hzk
    have hfit : pre.length + 1 ≤ 140737488355328 := by omega
    by_cases hs : z < 128
    · rw [Num.encF_small hs] at henc
      have HE := hide henc
      have hbyte : ((z : Int) % 256) = ((UInt8.ofNat z).toNat : Int) := byte_of (by omega) (by omega)
      obtain ⟨bt, rfl⟩ : ∃ bt : UInt8, z = bt.toNat := ⟨UInt8.ofNat z, by rw [Num.ofNat_low z (by omega)]⟩
      rw [UInt8.ofNat_toNat] at HE
      have hb1 := bytesNew wr [bt] #[.int .u8 (bt.toNat : Int)] 5 (0, 0) rfl 1 rfl
      have hO1 := hO.ext (extNew wr (.cells #[.int .u8 (bt.toNat : Int)] 5))
      have hE1 := hE.trans (extNew wr (.cells #[.int .u8 (bt.toNat : Int)] 5))
      have hB1 := hE1.le
      clear henc hlen hbyte hf
      go_wp2_with (at_builtin; refine wpList_appAt rfl (.tmp 15) (.tmp 18) rfl rfl hO1 rfl hb1 hfit hB1 ?_; intro v2 w2 hO2 hG2 hN2)
      go_ret
      exact ⟨v2, rfl, by rw [← HE.out]; exact hO2, hO1.below hE1 hG2 hB1⟩
    · rw [Num.encF_big hs] at henc
      have HE := hide henc
      have hk9 : k ≤ 8 := by
        rcases Nat.lt_or_ge k 9 with h | h
        · omega
        · obtain rfl : k = 9 := by omega
          obtain rfl : f = 0 := by omega
          simp at hzk
          omega
      have HF := hide (show 10 - (k + 1) = f by omega)
      have HZ := hide (show z / 128 < 128 ^ f by rw [Nat.pow_succ] at hzk; exact Nat.div_lt_of_lt_mul (by rw [Nat.mul_comm]; exact hzk))
      obtain ⟨bt, hbt⟩ : ∃ bt : UInt8, bt = UInt8.ofNat (128 + z % 128) := ⟨_, rfl⟩
      have hbn : bt.toNat = 128 + z % 128 := by rw [hbt]; exact Num.ofNat_low _ (by omega)
      rw [← hbt] at HE
      have hbyte : (128 + (z : Int) % 128) = (bt.toNat : Int) := by omega
      have hbl := bt.toNat_lt
      have hb1 := bytesNew wr [bt] #[.int .u8 (bt.toNat : Int)] 5 (0, 0) rfl 1 rfl
      have hO1 := hO.ext (extNew wr (.cells #[.int .u8 (bt.toNat : Int)] 5))
      have hE1 := hE.trans (extNew wr (.cells #[.int .u8 (bt.toNat : Int)] 5))
      have hB1 := hE1.le
      have HLen := hide hlen
      clear henc hlen hf hbt hbn hzk
      go_wp2_with (at_builtin; refine wpList_appAt rfl (.tmp 6) (.tmp 11) rfl rfl hO1 rfl hb1 hfit hB1 ?_; intro v2 w2 hO2 hG2 hN2)
      go_roundw
      case rel =>
        refine ⟨k + 1, z / 128, pre ++ [bt], ?_, by omega, by rw [HF.out]; exact HZ.out, by omega, by simp [HLen.out], by rw [HF.out, List.append_assoc]; exact HE.out, hO2, hO1.below hE1 hG2 hB1⟩
        rw [show ((z : Int) / 128) = ((z / 128 : Nat) : Int) by omega]
      case measure => simp [intOf]; omega

theorem ret_u64 {a b : Int} (h : a = b) : Ending.returned (.int .u64 a) = .returned (.int .u64 b) := by rw [h]
end Go.Proofs.Ytdpeidijaohgcaa

namespace Go.Proofs.Ytdpeidijaohgcaa
open Go.RowKit

namespace Num
def fixErr (x : Nat) (n : Int) : Int := if 1 ≤ n ∧ n ≤ 8 ∧ x < 256 ^ n.toNat then 0 else 13
def fixBytes (x : Nat) (n : Int) : List UInt8 := if 1 ≤ n ∧ n ≤ 8 ∧ x < 256 ^ n.toNat then fix n.toNat x else []
end Num
theorem ret_verr' {v : Value} {a b : Int} (h : a = b) : Ending.returned (.tuple #[v, .int .i64 a]) = .returned (.tuple #[v, .int .i64 b]) := by rw [h]
/-- Behind a call that makes bytes and tells an error. -/
def MadeE (w : World) (l : List UInt8) (err : Int) (e : Ending) (w' : World) : Prop := ∃ v, e = .returned (.tuple #[v, .int .i64 err]) ∧ OwnB w' w.heap.size v l ∧ Ext w w'

end Go.Proofs.Ytdpeidijaohgcaa

namespace Go.Proofs.Ytdpeidijaohgcaa
open Go.RowKit

theorem newReader_any (A : Option Addr) (n c : Nat) (l : List UInt8) (w : World) (hc : n ≤ c) (hn : n ≤ 1000000) (hb : Bytes w w.heap.size A n l) :
    Calls Try.prog 59 #[.slice A n c] w fun e w' => ∃ g, e = .returned (.pointer (some ⟨g, 0, none⟩)) ∧ Rdr w' w.heap.size g l 0 ∧ Ext w w' := by
  have hll := hb.1
  subst hll
  go_enter Try.func59, Try.ntmps59
  go_wp2_with (go_at_call 64; refine (rowOf_any A _ c l _ hc (by omega) hb).mono ?_; rintro e w2 ⟨A2, c2, rfl, hb2, hE2⟩)
  go_ret
  refine ⟨w2.heap.size, rfl, ⟨A2, c2, ?_, hb2.below (belowNew w2 _) (Nat.le_refl _), by omega, by omega, hE2.le⟩, hE2.alloc _⟩
  rw [← show (8 : Int) * (l.length : Int) = ((8 * l.length : Nat) : Int) by omega]
  exact Whole.new w2 _ _

/-- A new writer. -/
theorem Wrt.new (w : World) : Wrt (w.alloc (.cells #[.slice none 0 0, .int .i64 0] 75)) w.heap.size w.heap.size none [] :=
  ⟨.slice none 0 0, [], ⟨Whole.new w _ _, OwnB.nil _ _, by simp [Value.ownBlock], Nat.le_refl _⟩, Bit.Packs.nil, rfl⟩

theorem Bit.packs_alive : Bit.Packs [164] [true, false, true, false, false, true] := by
  refine ⟨by decide, fun i hi => ?_⟩
  simp only [List.length_singleton] at hi
  rcases (by omega : i = 0 ∨ i = 1 ∨ i = 2 ∨ i = 3 ∨ i = 4 ∨ i = 5 ∨ i = 6 ∨ i = 7) with rfl | rfl | rfl | rfl | rfl | rfl | rfl | rfl <;> decide

end Go.Proofs.Ytdpeidijaohgcaa

namespace Go.Proofs.Ytdpeidijaohgcaa
open Go.RowKit

def bit8 (b : Bool) : UInt8 := if b then 1 else 0
theorem bit8_int (b : Bool) : ((bit8 b).toNat : Int) = (b.toNat : Int) := by cases b <;> rfl
/-- Block g is the document's writer with these bytes; ob: the block that they lie in. -/
def RefW (w : World) (base g : Nat) (ob : Option Nat) (L : List UInt8) : Prop := ∃ v, Whole w g 57 #[v] ∧ OwnB w base v L ∧ v.ownBlock ≠ some g ∧ base ≤ g ∧ v.ownBlock = ob
def RefPuts (w : World) (base g : Nat) (ob : Option Nat) (L : List UInt8) (err : Int) (e : Ending) (w' : World) : Prop :=
  e = .returned (.int .i64 err) ∧ ∃ ob', RefW w' base g ob' L ∧ NewOb w ob ob' ∧ Mod w w' g ob
section
variable {w w' : World} {base g : Nat} {ob : Option Nat} {L : List UInt8}
theorem RefW.lt (h : RefW w base g ob L) : g < w.heap.size := by obtain ⟨v, h, _⟩ := h; exact h.lt
theorem RefW.le (h : RefW w base g ob L) : base ≤ g := by obtain ⟨v, _, _, _, h, _⟩ := h; exact h
theorem RefW.ne (h : RefW w base g ob L) : ob ≠ some g := by obtain ⟨v, _, _, h, _, rfl⟩ := h; exact h
theorem RefW.own (h : RefW w base g ob L) : ∀ k, ob = some k → base ≤ k ∧ k < w.heap.size := by obtain ⟨v, _, h, _, _, rfl⟩ := h; exact h.lt
theorem RefW.ext (h : RefW w base g ob L) (hE : Ext w w') : RefW w' base g ob L := by
  obtain ⟨v, hW, hO, r⟩ := h
  exact ⟨v, hW.ext hE, hO.ext hE, r⟩
theorem RefW.kept {g' : Nat} {ob' : Option Nat} (h : RefW w base g ob L) (hM : Mod w w' g' ob') (h1 : g ≠ g') (h2 : ob' ≠ some g) (h3 : ob ≠ some g') (h4 : ob = none ∨ ob ≠ ob') : RefW w' base g ob L := by
  obtain ⟨v, hW, hO, hne, hb, rfl⟩ := h
  exact ⟨v, hM.whole hW h1 h2, hM.own hO h3 h4, hne, hb, rfl⟩
end
/-- Behind 'w.Bits = append(w.Bits, x)', x laid in a block of its own first. -/
theorem RefW.put {w w1 w2 w3 : World} {base g : Nat} {v v2 : Value} {L : List UInt8} {x : UInt8} (hW : Whole w g 57 #[v]) (hne : v.ownBlock ≠ some g) (hb : base ≤ g) (hE : Ext w w1)
    (hO2 : OwnB w2 base v2 (L ++ [x])) (hG : w1.grownBy w2 v.ownBlock) (hN : NewOb w1 v.ownBlock v2.ownBlock) (hW3 : Whole w3 g 57 #[v2]) (hG3 : w2.grownBy w3 (some g)) :
    ∃ ob', RefW w3 base g ob' (L ++ [x]) ∧ NewOb w v.ownBlock ob' ∧ Mod w w3 g v.ownBlock := by
  have hne2 : v2.ownBlock ≠ some g := hN.ne (Nat.lt_of_lt_of_le hW.lt hE.le) hne
  refine ⟨v2.ownBlock, ⟨v2, hW3, (Mod.ofRow (ob := none) hG3).own hO2 hne2 (by cases v2.ownBlock <;> simp), hne2, hb, rfl⟩, (NewOb.same w _).trans hE.le hN, ?_⟩
  exact ((Mod.ofExt hE).trans (Mod.ofOwn hG) (.inl rfl)).trans (Mod.ofRow (ob := v.ownBlock) hG3) (.inl rfl)

set_option maxHeartbeats 1000000 in
theorem refUnary_any {w : World} {base g : Nat} {ob : Option Nat} {L : List UInt8} (h : RefW w base g ob L) (n : Int) (hL : L.length ≤ 900000000) :
    Calls Try.prog 30 #[.pointer (some ⟨g, 0, none⟩), .int .i64 n] w (RefPuts w base g ob (L ++ (Bit.unaryBits n).map bit8) (Bit.unaryErr n)) := by
  by_cases hbad : Bit.runs n = false
  · have HE := hide (Bit.unary_bad hbad)
    have HF := hide h
    by_cases h0 : n < 0
    · go_enter Try.func30, Try.ntmps30
      go_wp2
      go_ret
      exact ⟨ret_i64 HE.out.1.symm, ob, by rw [HE.out.2, List.map_nil, List.append_nil]; exact HF.out, .inl rfl, Mod.refl _ _ _⟩
    · have h1 : 100000 < n := by
        have := of_decide_eq_false hbad
        omega
      go_enter Try.func30, Try.ntmps30
      go_wp2
      go_ret
      exact ⟨ret_i64 HE.out.1.symm, ob, by rw [HE.out.2, List.map_nil, List.append_nil]; exact HF.out, .inl rfl, Mod.refl _ _ _⟩
  · have hgood : Bit.runs n = true := by simpa using hbad
    have HE := hide (Bit.unary_good hgood)
    obtain ⟨h0, h1⟩ := of_decide_eq_true hgood
    obtain ⟨k, rfl⟩ := Int.eq_ofNat_of_zero_le h0
    have hk : k ≤ 100000 := by omega
    clear hbad hgood
    go_enter Try.func30, Try.ntmps30
    go_wp2
    go_loopw [5] (fun i wr => ∃ (j : Nat) (ob1 : Option Nat), j ≤ k ∧ i = .int .i64 (j : Int) ∧ RefW wr base g ob1 (L ++ List.replicate j 0) ∧ NewOb w ob ob1 ∧ Mod w wr g ob) (fun i _ => k - (intOf i).toNat)
    case atStart => exact ⟨0, ob, by omega, rfl, by simpa using h, .inl rfl, Mod.refl _ _ _⟩
    case round =>
      obtain ⟨j, ob1, hj, rfl, ⟨v, hW, hO, hne, hb, rfl⟩, hN, hM⟩ := hrel
      have hlen : (L ++ List.replicate j (0 : UInt8)).length = L.length + j := by simp
      have hfit : (L ++ List.replicate j (0 : UInt8)).length + 1 ≤ 140737488355328 := by omega
      have HK := hide h1
      clear hlen
      have d0 : wr.cell? ⟨g, 0, none⟩ = some v := hW.at 0 rfl
      have hO1 := hO.ext (extNew wr (.cells #[.int .u8 0] 5))
      have hO1' := hO.ext (extNew wr (.cells #[.int .u8 1] 5))
      have hb1 := bytesNew wr [0] #[.int .u8 0] 5 (0, 0) rfl 1 rfl
      have hb1' := bytesNew wr [1] #[.int .u8 1] 5 (0, 0) rfl 1 rfl
      have hB1 : base ≤ (wr.alloc (.cells #[.int .u8 0] 5)).heap.size := by have := hW.lt; simp; omega
      have hB1' : base ≤ (wr.alloc (.cells #[.int .u8 1] 5)).heap.size := by have := hW.lt; simp; omega
      have hi : (Try.prog.info? 24).map (·.size) = some 1 := by kernel_rfl
      by_cases hlt : j < k
      · go_wp2_with (first
          | (at_builtin; refine wpList_appAt rfl (.tmp 21) (.tmp 22) rfl rfl hO1 rfl hb1 hfit hB1 ?_; intro v2 w2 hO2 hG2 hN2; have hW2 := (hW.ext (extNew wr (.cells #[.int .u8 0] 5))).ownGrown hG2 hne; obtain ⟨A2, n2, c2, hv2, _, _, _⟩ := hO2.form'; subst hv2)
          | (refine wpList_storeC rfl 24 (.tmp 25) (.tmp 23) rfl #[.slice A2 n2 c2] rfl rfl hW2 (by simp) hi rfl rfl rfl ?_; intro w3 hW3 hG3))
        go_roundw
        case rel =>
          obtain ⟨ob2, hR2, hN3, hM3⟩ := RefW.put hW hne hb (extNew wr (.cells #[.int .u8 0] 5)) hO2 hG2 hN2 hW3 hG3
          refine ⟨j + 1, ob2, by omega, by go_num, ?_, hN.trans hM.size hN3, hM.trans hM3 hN⟩
          rw [List.append_assoc, show List.replicate j (0 : UInt8) ++ [0] = List.replicate (j + 1) 0 from List.replicate_succ'.symm] at hR2
          exact hR2
        case measure => simp [intOf]; omega
      · obtain rfl : j = k := by omega
        go_wp2_with (first
          | (at_builtin; refine wpList_appAt rfl (.tmp 30) (.tmp 31) rfl rfl hO1' rfl hb1' hfit hB1' ?_; intro v2 w2 hO2 hG2 hN2; have hW2 := (hW.ext (extNew wr (.cells #[.int .u8 1] 5))).ownGrown hG2 hne; obtain ⟨A2, n2, c2, hv2, _, _, _⟩ := hO2.form'; subst hv2)
          | (refine wpList_storeC rfl 24 (.tmp 34) (.tmp 32) rfl #[.slice A2 n2 c2] rfl rfl hW2 (by simp) hi rfl rfl rfl ?_; intro w3 hW3 hG3))
        go_ret
        obtain ⟨ob2, hR2, hN3, hM3⟩ := RefW.put hW hne hb (extNew wr (.cells #[.int .u8 1] 5)) hO2 hG2 hN2 hW3 hG3
        refine ⟨ret_i64 HE.out.1.symm, ob2, ?_, hN.trans hM.size hN3, hM.trans hM3 hN⟩
        rw [List.append_assoc] at hR2
        rw [HE.out.2]
        simpa [Bit.unBits, bit8] using hR2
end Go.Proofs.Ytdpeidijaohgcaa

namespace Go.Proofs.Ytdpeidijaohgcaa
open Go.RowKit

def Bit.lows (x k : Nat) : List UInt8 := (List.range k).map fun i => bit8 (x.testBit i)
theorem Bit.lows_len (x k : Nat) : (Bit.lows x k).length = k := by simp [Bit.lows]
theorem Bit.lows_succ (x k : Nat) : Bit.lows x (k + 1) = Bit.lows x k ++ [bit8 (x.testBit k)] := by simp [Bit.lows, List.range_succ]
theorem Bit.lows_get (x k i : Nat) (h : i < k) : (Bit.lows x k).getD i 0 = bit8 (x.testBit i) := by simp [Bit.lows, List.getD_eq_getElem?_getD, h]
theorem Bit.num_take (x n j : Nat) (hj : j < n) : ((Bit.num x n).take (n - (j + 1))).map bit8 ++ [bit8 (x.testBit j)] = ((Bit.num x n).take (n - j)).map bit8 := by
  have hl : n - (j + 1) < (Bit.num x n).length := by rw [Bit.num_length]; omega
  have hg : (Bit.num x n)[n - (j + 1)] = x.testBit j := by
    have h1 := Bit.num_getD x n (n - (j + 1)) (by omega)
    rw [List.getD_eq_getElem?_getD, List.getElem?_eq_getElem hl, show n - 1 - (n - (j + 1)) = j by omega] at h1
    exact h1
  rw [show n - j = n - (j + 1) + 1 by omega, List.take_succ_eq_append_getElem hl, List.map_append, hg]
  rfl
theorem Bit.bit_int (y : Nat) (b : Bool) (h : b.toNat = y % 2) : (y : Int) % 2 = ((bit8 b).toNat : Int) := by rw [bit8_int]; omega

set_option maxHeartbeats 2000000 in
theorem refPut_any {w : World} {base g : Nat} {ob : Option Nat} {L : List UInt8} (h : RefW w base g ob L) (x : Nat) (n : Int) (hx64 : x ≤ 18446744073709551615) (hL : L.length ≤ 900000000) :
    Calls Try.prog 29 #[.pointer (some ⟨g, 0, none⟩), .int .u64 x, .int .i64 n] w (RefPuts w base g ob (L ++ (Bit.putBits x n).map bit8) (Bit.putErr x n)) := by
  by_cases hr : 0 ≤ n ∧ n ≤ 64
  · obtain ⟨h0, h1⟩ := hr
    obtain ⟨k, rfl⟩ := Int.eq_ofNat_of_zero_le h0
    have hk : k ≤ 64 := by omega
    have HF := hide h
    go_enter Try.func29, Try.ntmps29
    go_wp2
    go_loopw [1, 7, 8] (fun y v i wr => ∃ j : Nat, j ≤ k ∧ i = .int .i64 (j : Int) ∧ y = .int .u64 ((x / 2 ^ j : Nat) : Int) ∧ OwnB wr w.heap.size v (Bit.lows x j) ∧ Ext w wr) (fun _ _ i _ => k - (intOf i).toNat)
    case atStart => exact ⟨0, by omega, rfl, by simp, OwnB.nil _ _, Ext.refl _⟩
    case round =>
      obtain ⟨j, hj, rfl, rfl, hO, hE⟩ := hrel
      by_cases hlt : j < k
      · have hbit := Bit.bit_int (x / 2 ^ j) (x.testBit j) (Bit.testBit_toNat x j)
        have hdiv := hide (show ((x / 2 ^ j : Nat) : Int) / 2 = ((x / 2 ^ (j + 1) : Nat) : Int) by rw [Nat.pow_succ, ← Nat.div_div_eq_div_mul]; omega)
        have hy : x / 2 ^ j ≤ 18446744073709551615 := Nat.le_trans (Nat.div_le_self _ _) hx64
        have HL := hide (Bit.lows_succ x j)
        have hlen := Bit.lows_len x j
        have hfit : (Bit.lows x j).length + 1 ≤ 140737488355328 := by omega
        generalize Bit.lows x j = Lo at *
        generalize x / 2 ^ j = y at *
        generalize bit8 (x.testBit j) = bt at *
        have hbt := bt.toNat_lt
        have hb1 := bytesNew wr [bt] #[.int .u8 (bt.toNat : Int)] 5 (0, 0) rfl 1 rfl
        have hO1 := hO.ext (extNew wr (.cells #[.int .u8 (bt.toNat : Int)] 5))
        have hE1 := hE.trans (extNew wr (.cells #[.int .u8 (bt.toNat : Int)] 5))
        have hB1 := hE1.le
        clear hlen
        go_wp2_with (at_builtin; refine wpList_appAt rfl (.tmp 21) (.tmp 25) rfl rfl hO1 rfl hb1 hfit hB1 ?_; intro v2 w2 hO2 hG2 hN2)
        go_roundw
        case rel =>
          refine ⟨j + 1, by omega, by go_num, by rw [← hdiv.out], by rw [HL.out]; exact hO2, hO1.below hE1 hG2 hB1⟩
        case measure => simp [intOf]; omega
      · obtain rfl : j = k := by omega
        by_cases hz : x / 2 ^ j = 0
        · have hxl : x < 2 ^ j := by
            rcases Nat.div_eq_zero_iff.1 hz with h | h
            · exact absurd h (Nat.ne_of_gt (Nat.two_pow_pos j))
            · exact h
          have HP := hide (Bit.put_good (x := x) (n := (j : Int)) (decide_eq_true ⟨by omega, by omega, by simpa using hxl⟩))
          have hz' : (((x / 2 ^ j : Nat) : Int) != 0) = false := by rw [hz]; rfl
          have HO := hide hO
          clear hz hxl
          generalize x / 2 ^ j = y at *
          generalize hwz : wr = wz at *
          clear hwz
          go_wp2
          have hR := HF.out.ext hE
          go_loopw [9] (fun i ww => ∃ (m : Nat) (ob1 : Option Nat), m ≤ j ∧ i = .int .i64 ((m : Int) - 1) ∧ RefW ww base g ob1 (L ++ ((Bit.num x j).take (j - m)).map bit8) ∧ NewOb wz ob ob1 ∧ Mod wz ww g ob) (fun i _ => ((intOf i) + 1).toNat)
          case atStart => exact ⟨j, ob, by omega, rfl, by simpa using hR, .inl rfl, Mod.refl _ _ _⟩
          case round =>
            obtain ⟨m, ob1, hm, rfl, ⟨v, hW, hOw, hne, hb, rfl⟩, hN, hM⟩ := hrel
            rcases m with _ | m
            · have hneg : ¬ (0 ≤ ((0 : Nat) : Int) - 1) := by omega
              go_wp2
              go_ret
              refine ⟨ret_i64 HP.out.1.symm, v.ownBlock, ?_, (NewOb.same w ob).trans hE.le hN, (Mod.ofExt hE).trans hM (.inl rfl)⟩
              rw [HP.out.2, Int.toNat_natCast]
              rw [Nat.sub_zero, List.take_of_length_le (by rw [Bit.num_length]; exact Nat.le_refl _)] at *
              exact ⟨v, hW, hOw, hne, hb, rfl⟩
            · rw [show (((m + 1 : Nat) : Int) - 1) = (m : Int) by omega]
              have hO1 := HO.out
              have hgl := HF.out.lt
              have hob := HF.out.own
              obtain ⟨gl, cl, hu, hbl, hcl⟩ := hO1.formG (by rw [Bit.lows_len]; omega)
              rw [Bit.lows_len] at hu
              subst hu
              have hOl := hM.own hO1 (by simp [Value.ownBlock]; omega) (.inr (fun e => by have := (hob gl e.symm).2; omega))
              have hcell := (hOl.cell (i := m) (by rw [Bit.lows_len]; omega)).1
              rw [Bit.lows_get x j m (by omega)] at hcell
              have HT := hide (Bit.num_take x j m (by omega))
              have hlen : (L ++ List.map bit8 (List.take (j - (m + 1)) (Bit.num x j))).length ≤ 900000064 := by
                rw [List.length_append, List.length_map, List.length_take]; omega
              have hfit : (L ++ List.map bit8 (List.take (j - (m + 1)) (Bit.num x j))).length + 1 ≤ 140737488355328 := by omega
              generalize bit8 (x.testBit m) = bt at *
              generalize hLL : L ++ List.map bit8 (List.take (j - (m + 1)) (Bit.num x j)) = LL at *
              have HLL := hide hLL
              have hbt := bt.toNat_lt
              have d0 : wr.cell? ⟨g, 0, none⟩ = some v := hW.at 0 rfl
              have hEa := extNew wr (.cells #[.int .u8 (bt.toNat : Int)] 5)
              have d0' : (wr.alloc (.cells #[.int .u8 (bt.toNat : Int)] 5)).cell? ⟨g, 0, none⟩ = some v := (hW.ext hEa).at 0 rfl
              have hb1 := (Ext.refl (wr.alloc (.cells #[.int .u8 (bt.toNat : Int)] 5))).drew.bytes (bytesNew wr [bt] #[.int .u8 (bt.toNat : Int)] 5 (0, 0) rfl 1 rfl)
              have hEw : Ext wr (wr.alloc (.cells #[.int .u8 (bt.toNat : Int)] 5)).drew := hEa.drew
              have hOx := hOw.ext hEw
              have hB1 : base ≤ (wr.alloc (.cells #[.int .u8 (bt.toNat : Int)] 5)).drew.heap.size := Nat.le_trans (Nat.le_trans hb (Nat.le_of_lt hW.lt)) hEw.le
              have hi : (Try.prog.info? 24).map (·.size) = some 1 := by kernel_rfl
              have hmj : (m : Int) < (j : Int) := by omega
              clear hLL hlen hO1 hO hOl hob
              go_wp2
              go_region_law (refine step_appAt rfl (.tmp 41) (.tmp 46) rfl rfl hOx rfl hb1 hfit hB1 ?_; intro v2 w2 hO2 hG2' hN2'; have hG2 : (wr.alloc (.cells #[.int .u8 (bt.toNat : Int)] 5)).drew.grownBy w2 v.ownBlock := hG2'; have hN2 : NewOb (wr.alloc (.cells #[.int .u8 (bt.toNat : Int)] 5)).drew v.ownBlock v2.ownBlock := hN2'; clear hG2' hN2'; have hW2 := (hW.ext hEw).ownGrown hG2 hne; obtain ⟨A2, n2, c2, hv2, _, _, _⟩ := hO2.form'; subst hv2; have e0 := hW2.at 0 rfl; have f2 := hW2.frozen 0)
              all_goals (
                have hG3 := grown_setCell w2 g 0 (.slice A2 n2 c2)
                have hW3 : Whole (w2.setCell ⟨g, 0, none⟩ (.slice A2 n2 c2)) g 57 #[.slice A2 n2 c2] := hW2.set 0 _
                obtain ⟨ob2, hR2, hN3, hM3⟩ := RefW.put hW hne hb hEw hO2 hG2 hN2 hW3 hG3
                rw [← HLL.out, List.append_assoc, HT.out] at hR2
                have HR := hide (show RefW (w2.setCell ⟨g, 0, none⟩ (.slice A2 n2 c2)) base g ob2 (L ++ ((Bit.num x j).take (j - m)).map bit8) ∧ NewOb wz ob ob2 ∧ Mod wz (w2.setCell ⟨g, 0, none⟩ (.slice A2 n2 c2)) g ob from ⟨hR2, hN.trans hM.size hN3, hM.trans hM3 hN⟩)
                clear hR2 hN3 hM3 hW3 hG3
                go_wp2
                go_roundw
                case rel => exact ⟨m, ob2, by omega, rfl, HR.out⟩
                case measure => simp [intOf])
        · have hxl : ¬ x < 2 ^ j := fun h => hz (Nat.div_eq_of_lt h)
          have HP := hide (Bit.put_bad (x := x) (n := (j : Int)) (decide_eq_false (fun h => hxl (by simpa using h.2.2))))
          have hz' : (((x / 2 ^ j : Nat) : Int) != 0) = true := by simpa using fun h => hz (by exact_mod_cast h)
          clear hz hxl
          generalize x / 2 ^ j = y at *
          go_wp2
          go_ret
          exact ⟨ret_i64 HP.out.1.symm, ob, by rw [HP.out.2, List.map_nil, List.append_nil]; exact HF.out.ext hE, .inl rfl, Mod.ofExt hE⟩
  · have HP := hide (Bit.put_bad (x := x) (n := n) (decide_eq_false (fun h => hr ⟨h.1, h.2.1⟩)))
    have HF := hide h
    by_cases h0 : n < 0
    · clear hr
      go_enter Try.func29, Try.ntmps29
      go_wp2
      go_ret
      exact ⟨ret_i64 HP.out.1.symm, ob, by rw [HP.out.2, List.map_nil, List.append_nil]; exact HF.out, .inl rfl, Mod.refl _ _ _⟩
    · have h1 : 64 < n := by omega
      clear hr
      go_enter Try.func29, Try.ntmps29
      go_wp2
      go_ret
      exact ⟨ret_i64 HP.out.1.symm, ob, by rw [HP.out.2, List.map_nil, List.append_nil]; exact HF.out, .inl rfl, Mod.refl _ _ _⟩
end Go.Proofs.Ytdpeidijaohgcaa

namespace Go.Proofs.Ytdpeidijaohgcaa
open Go.RowKit

theorem Bit.val_bit (f : Nat → Bool) : ∀ n j, j < n → (Bit.val f n).testBit (n - 1 - j) = f j
  | n + 1, j, h => by
    rw [Bit.val]
    have hb : (2 * Bit.val f n + (f n).toNat) / 2 = Bit.val f n := by cases f n <;> simp <;> omega
    rcases Nat.lt_or_ge j n with hj | hj
    · rw [show n + 1 - 1 - j = (n - 1 - j) + 1 by omega, Nat.testBit_succ, hb]
      exact Bit.val_bit f n j hj
    · obtain rfl : j = n := by omega
      rw [show j + 1 - 1 - j = 0 by omega, Nat.testBit_zero]
      cases f j <;> simp
/-- The first m bytes of these bits. -/
def Bit.Front (l : List UInt8) (B : List Bool) (m : Nat) : Prop := l.length = m ∧ ∀ t, t < 8 * m → Bit.at_ l t = B.getD t false
theorem Bit.Front.next {l : List UInt8} {B : List Bool} {m : Nat} (h : Bit.Front l B m) : Bit.Front (l ++ [UInt8.ofNat (Bit.val (fun t => B.getD (8 * m + t) false) 8)]) B (m + 1) := by
  obtain ⟨hl, hb⟩ := h
  refine ⟨by simp [hl], fun t ht => ?_⟩
  have hv := Bit.val_lt (fun t => B.getD (8 * m + t) false) 8
  have h2 := Bit.val_bit (fun t => B.getD (8 * m + t) false) 8 (t % 8) (by omega)
  generalize Bit.val (fun t => B.getD (8 * m + t) false) 8 = X at *
  unfold Bit.at_
  rcases Nat.lt_or_ge t (8 * m) with h8 | h8
  · have h1 := hb t h8
    unfold Bit.at_ at h1
    rw [← h1]
    simp only [List.getD_eq_getElem?_getD]
    rw [List.getElem?_append_left (by omega)]
  · have h1 : t / 8 = m := by omega
    simp only [List.getD_eq_getElem?_getD]
    rw [h1, List.getElem?_append_right (by omega), hl, Nat.sub_self]
    simp only [List.getElem?_cons_zero, Option.getD_some]
    rw [UInt8.toNat_ofNat', Nat.mod_eq_of_lt hv]
    rw [show (8 : Nat) - 1 - t % 8 = 7 - t % 8 by omega] at h2
    rw [h2, show 8 * m + t % 8 = t by omega, List.getD_eq_getElem?_getD]
theorem Bit.Front.packs {l : List UInt8} {B : List Bool} {m : Nat} (h : Bit.Front l B m) (hm : m = (B.length + 7) / 8) : Bit.Packs l B := ⟨h.1.trans hm, fun i hi => h.2 i (by rw [← h.1]; exact hi)⟩

set_option maxHeartbeats 2000000 in
theorem refBytes_any {w : World} {base g : Nat} {ob : Option Nat} {B : List Bool} (h : RefW w base g ob (B.map bit8)) (hB : B.length ≤ 900000000) :
    Calls Try.prog 31 #[.pointer (some ⟨g, 0, none⟩)] w fun e w' => ∃ l, Bit.Packs l B ∧ MadeB w l e w' := by
  obtain ⟨v, hW, hO, hne, hb, rfl⟩ := h
  obtain ⟨A, c, rfl, hc, _, hbb⟩ := hO.form
  have hLn := hide (show (B.map bit8).length = B.length by simp)
  rw [hLn.out] at hW hbb hc
  have HW := hide hW
  have HBB := hide hbb
  clear hbb hO hne
  go_enter Try.func31, Try.ntmps31
  go_wp2
  go_loopw [3, 4, 5, 6] (fun o i _ _ wr => ∃ (m : Nat) (l : List UInt8), m ≤ (B.length + 7) / 8 ∧ i = .int .i64 ((8 * m : Nat) : Int) ∧ OwnB wr w.heap.size o l ∧ Bit.Front l B m ∧ Ext w wr) (fun _ i _ _ _ => B.length + 8 - (intOf i).toNat)
  case atStart => exact ⟨0, [], by omega, rfl, OwnB.nil _ _, ⟨rfl, fun t ht => by omega⟩, Ext.refl _⟩
  case round =>
    obtain ⟨m, l, hm, rfl, hOl, hF, hE⟩ := hrel
    have d0 : wr.cell? ⟨g, 0, none⟩ = some (.slice A B.length c) := (HW.out.ext hE).at 0 rfl
    have HF := hide hF
    by_cases hlt : 8 * m < B.length
    · have HC := hide ((hE.bytes HBB.out).2)
      go_wp2
      go_loop [5, 6] (fun x k => ∃ d : Nat, d ≤ 8 ∧ x = .int .i64 (Bit.val (fun t => B.getD (8 * m + t) false) d : Nat) ∧ k = .int .i64 ((8 * m + d : Nat) : Int)) (fun _ k => 8 * m + 8 - (intOf k).toNat)
      case atStart => exact ⟨0, by omega, rfl, by simp⟩
      case round =>
        obtain ⟨d, hd, rfl, rfl⟩ := hrel
        by_cases hd8 : d < 8
        · have hv := Bit.val_lt (fun t => B.getD (8 * m + t) false) d
          have hv8 : Bit.val (fun t => B.getD (8 * m + t) false) d < 256 := Nat.lt_of_lt_of_le hv (show 2 ^ d ≤ 2 ^ 8 from Nat.pow_le_pow_right (by omega) (by omega))
          have HV := hide (show Bit.val (fun t => B.getD (8 * m + t) false) (d + 1) = 2 * Bit.val (fun t => B.getD (8 * m + t) false) d + (B.getD (8 * m + d) false).toNat from rfl)
          clear hv
          generalize Bit.val (fun t => B.getD (8 * m + t) false) d = X at *
          by_cases hk : 8 * m + d < B.length
          · have hcell := HC.out
            rcases hcell with h0 | ⟨b, off, rfl, hbl, hcell⟩
            · omega
            have hc1 := hcell (8 * m + d) hk
            have hget : (B.map bit8).getD (8 * m + d) 0 = bit8 (B.getD (8 * m + d) false) := by simp [List.getD_eq_getElem?_getD, hk]
            rw [hget, bit8_int] at hc1
            clear hcell hget
            generalize B.getD (8 * m + d) false = bt at *
            have hbt : bt.toNat ≤ 1 := by cases bt <;> simp
            go_wp2
            go_round
            case rel => exact ⟨d + 1, by omega, by rw [HV.out]; go_num, by go_num⟩
            case measure => simp [intOf]; omega
          · have hfar := Bit.getD_far B (8 * m + d) (by omega)
            rw [hfar] at HV
            go_wp2
            go_round
            case rel => exact ⟨d + 1, by omega, by rw [HV.out]; simp, by go_num⟩
            case measure => simp [intOf]; omega
        · obtain rfl : d = 8 := by omega
          have HN := hide (HF.out.next)
          have hv := Bit.val_lt (fun t => B.getD (8 * m + t) false) 8
          generalize Bit.val (fun t => B.getD (8 * m + t) false) 8 = X at *
          obtain ⟨bt, rfl⟩ : ∃ bt : UInt8, X = bt.toNat := ⟨UInt8.ofNat X, by rw [UInt8.toNat_ofNat']; omega⟩
          rw [UInt8.ofNat_toNat] at HN
          have hbt := bt.toNat_lt
          have hl := HF.out.1
          have hfit : l.length + 1 ≤ 140737488355328 := by omega
          have hb1 := bytesNew wr [bt] #[.int .u8 (bt.toNat : Int)] 5 (0, 0) rfl 1 rfl
          have hO1 := hOl.ext (extNew wr (.cells #[.int .u8 (bt.toNat : Int)] 5))
          have hE1 := hE.trans (extNew wr (.cells #[.int .u8 (bt.toNat : Int)] 5))
          have hB1 := hE1.le
          clear hl hF
          go_wp2_with (at_builtin; refine wpList_appAt rfl (.tmp 42) (.tmp 45) rfl rfl hO1 rfl hb1 hfit hB1 ?_; intro v2 w2 hO2 hG2 hN2)
          go_roundw
          case rel => exact ⟨m + 1, _, by omega, by go_num, hO2, HN.out, hO1.below hE1 hG2 hB1⟩
          case measure => simp [intOf]; omega
    · have hP := hide (HF.out.packs (by omega))
      go_wp2
      go_ret
      exact ⟨l, hP.out, _, rfl, hOl, hE⟩
end Go.Proofs.Ytdpeidijaohgcaa

namespace Go.Proofs.Ytdpeidijaohgcaa
open Go.RowKit

theorem RefW.new (w : World) : RefW (w.alloc (.cells #[.slice none 0 0] 57)) w.heap.size w.heap.size none [] :=
  ⟨.slice none 0 0, Whole.new w _ _, OwnB.nil _ _, by simp [Value.ownBlock], Nat.le_refl _, rfl⟩

/-- A writer of the program and one of the document: neither lies in the other. -/
def Both (w : World) (base g1 g2 : Nat) (ob1 ob2 : Option Nat) (B : List Bool) (R : List UInt8) : Prop :=
  Wrt w base g1 ob1 B ∧ RefW w base g2 ob2 R ∧ g1 ≠ g2 ∧ ob1 ≠ some g2 ∧ ob2 ≠ some g1 ∧ (ob1 = none ∨ ob1 ≠ ob2)
theorem NewOb.apart {w : World} {ob ob' o2 : Option Nat} (h : NewOb w ob ob') (h2 : ∀ k, o2 = some k → k < w.heap.size) (hn : ob = none ∨ ob ≠ o2) : ob' = none ∨ ob' ≠ o2 := by
  rcases h with rfl | ⟨n, rfl, hn'⟩
  · exact hn
  · right
    intro e
    have := h2 n e.symm
    omega
theorem ob_symm {a b : Option Nat} (h : a = none ∨ a ≠ b) : b = none ∨ b ≠ a := by
  rcases h with rfl | h
  · cases b <;> simp
  · exact .inr (fun e => h e.symm)
theorem Both.first {w w' : World} {base g1 g2 : Nat} {ob1 ob2 : Option Nat} {B B' : List Bool} {R : List UInt8} {err : Int} {e : Ending} (h : Both w base g1 g2 ob1 ob2 B R) (hp : Puts w base g1 ob1 B' err e w') :
    e = .returned (.int .i64 err) ∧ ∃ ob1', Both w' base g1 g2 ob1' ob2 B' R ∧ Below base w w' := by
  obtain ⟨hW, hR, hg, h12, h21, hob⟩ := h
  obtain ⟨he, ob1', hW', hN, hM⟩ := hp
  refine ⟨he, ob1', ⟨hW', hR.kept hM (Ne.symm hg) h12 h21 (ob_symm hob), hg, hN.ne hR.lt h12, h21, hN.apart (fun k hk => (hR.own k hk).2) hob⟩, hM.below hW.bound hW.le (fun k hk => (hW.ob k hk).1)⟩
theorem Both.second {w w' : World} {base g1 g2 : Nat} {ob1 ob2 : Option Nat} {B : List Bool} {R R' : List UInt8} {err : Int} {e : Ending} (h : Both w base g1 g2 ob1 ob2 B R) (hp : RefPuts w base g2 ob2 R' err e w') :
    e = .returned (.int .i64 err) ∧ ∃ ob2', Both w' base g1 g2 ob1 ob2' B R' ∧ Below base w w' := by
  obtain ⟨hW, hR, hg, h12, h21, hob⟩ := h
  obtain ⟨he, ob2', hR', hN, hM⟩ := hp
  refine ⟨he, ob2', ⟨hW.kept hM hg h21 h12 hob, hR', hg, h12, hN.ne hW.lt h21, ob_symm (hN.apart (fun k hk => (hW.ob k hk).2) (ob_symm hob))⟩, hM.below hW.bound hR.le (fun k hk => (hR.own k hk).1)⟩
theorem Both.start (w1 : World) {b : Nat} (hb : b ≤ w1.heap.size) :
    Both ((w1.alloc (.cells #[.slice none 0 0, .int .i64 0] 75)).alloc (.cells #[.slice none 0 0] 57)) b w1.heap.size (w1.heap.size + 1) none none [] [] := by
  have hz1 : (w1.alloc (.cells #[.slice none 0 0, .int .i64 0] 75)).heap.size = w1.heap.size + 1 := by simp
  have h1 := (Wrt.new w1).ext (extNew _ (.cells #[.slice none 0 0] 57))
  have h2 := RefW.new (w1.alloc (.cells #[.slice none 0 0, .int .i64 0] 75))
  rw [hz1] at h2
  obtain ⟨v1, l1, ⟨a1, a2, a3, a4⟩, a5, a6⟩ := h1
  obtain ⟨v2, b1, b2, b3, b4, b5⟩ := h2
  exact ⟨⟨v1, l1, ⟨a1, a2.mono hb, a3, hb⟩, a5, a6⟩, ⟨v2, b1, b2.mono (Nat.le_succ_of_le hb), b3, Nat.le_succ_of_le hb, b5⟩, by omega, by simp, by simp, .inl rfl⟩
theorem below_drewN {B : Nat} {a b : World} (h : Below B a b) (n : Nat) : Below B a (b.drewN n) := ⟨h.os, h.tape, h.output, h.size, h.block⟩
theorem map_app (B C : List Bool) : B.map bit8 ++ C.map bit8 = (B ++ C).map bit8 := by rw [List.map_append]

theorem RefW.cellLen {w : World} {base g : Nat} {ob : Option Nat} {B : List Bool} (h : RefW w base g ob (B.map bit8)) : ∃ A c, w.cell? ⟨g, 0, none⟩ = some (.slice A B.length c) := by
  obtain ⟨v, hW, hO, _⟩ := h
  obtain ⟨A, c, rfl, _⟩ := hO.form
  refine ⟨A, c, ?_⟩
  have := hW.at 0 rfl
  rwa [show (B.map bit8).length = B.length by simp] at this
theorem Both.drew {w : World} {base g1 g2 : Nat} {ob1 ob2 : Option Nat} {B : List Bool} {R : List UInt8} (h : Both w base g1 g2 ob1 ob2 B R) : Both w.drew base g1 g2 ob1 ob2 B R := h
theorem Both.drewN {w : World} {base g1 g2 : Nat} {ob1 ob2 : Option Nat} {B : List Bool} {R : List UInt8} (h : Both w base g1 g2 ob1 ob2 B R) (m : Nat) : Both (w.drewN m) base g1 g2 ob1 ob2 B R := h
end Go.Proofs.Ytdpeidijaohgcaa

namespace Go.Proofs.Ytdpeidijaohgcaa
open Go.RowKit Num Ef

theorem Ef.put_num {x k : Nat} (hk : k ≤ 64) (h : x < 2 ^ k) : Bit.putBits x (k : Int) = Bit.num x k := by
  have : Bit.fits x (k : Int) = true := decide_eq_true ⟨by omega, by omega, by rw [Int.toNat_natCast]; exact h⟩
  unfold Bit.putBits
  rw [if_pos this, Int.toNat_natCast]
theorem Ef.un_num {k : Nat} (hk : k ≤ 100000) : Bit.unaryBits (k : Int) = Bit.unBits k := by
  have : Bit.runs (k : Int) = true := decide_eq_true ⟨by omega, by omega⟩
  unfold Bit.unaryBits
  rw [if_pos this, Int.toNat_natCast]
theorem Ef.lowTo_succ (w : Nat) (ids : List Int) (k : Nat) : lowTo w ids (k + 1) = lowTo w ids k ++ Bit.num ((ids.getD k 0).toNat % 2 ^ w) w := flat_succ _ _
theorem Ef.highTo_succ (w : Nat) (ids : List Int) (k : Nat) : highTo w ids (k + 1) = highTo w ids k ++ Bit.unBits (hi w ids k - was w ids k) := flat_succ _ _
theorem Ef.was_succ (w : Nat) (ids : List Int) (k : Nat) : was w ids (k + 1) = (ids.getD k 0).toNat / 2 ^ w := by
  unfold was hi
  rw [if_neg (by omega), Nat.add_sub_cancel]

set_option maxHeartbeats 2000000 in
set_option maxRecDepth 100000 in
theorem refWrite13_any (A : Option Addr) (n c : Nat) (ids : List Int) (bound : Int) (w : World) (h : IntsAt w w.heap.size A n ids) (hn : n ≤ 100000) :
    Calls Try.prog 11 #[.int .i64 bound, .slice A n c] w (MadeE w (writeE bound ids).1 (writeE bound ids).2) := by
  have CM := refMay13_any A n c ids bound w h (by omega)
  have hl := h.1
  subst hl
  by_cases h0 : bound < 0
  · have HN := hide (show writeE bound ids = ([], 13) by unfold writeE; rw [if_neg (by omega)])
    have hd : decide (bound < 0) = true := decide_eq_true h0
    rw [HN.out]
    clear CM HN h
    go_enter Try.func11, Try.ntmps11
    go_wp2
    go_ret2
    exact ⟨_, rfl, OwnB.nil _ _, Ext.refl _⟩
  by_cases h1 : 20000 < bound
  · have HN := hide (show writeE bound ids = ([], 13) by unfold writeE; rw [if_neg (by omega)])
    rw [HN.out]
    clear CM HN h
    go_enter Try.func11, Try.ntmps11
    go_wp2
    go_ret2
    exact ⟨_, rfl, OwnB.nil _ _, Ext.refl _⟩
  cases hr : row bound ids with
  | false =>
    have HN := hide (show writeE bound ids = ([], 13) by unfold writeE; rw [hr, if_neg (by simp)])
    rw [HN.out]
    rw [hr] at CM
    clear HN h hr
    go_enter Try.func11, Try.ntmps11
    go_wp2_with fail
    refine CM.mono ?_
    rintro e w1 ⟨rfl, hE1⟩
    go_wp2
    go_ret2
    exact ⟨_, rfl, OwnB.nil _ _, hE1⟩
  | true =>
    have HN := hide (show writeE bound ids = (rowB bound ids, 0) by unfold writeE; rw [if_pos ⟨⟨by omega, by omega⟩, hr⟩])
    have HR := hide hr
    rw [HN.out]
    rw [hr] at CM
    have HA := hide h
    clear HN h hr
    by_cases hz : ids.length = 0
    · have HB := hide (show rowB bound ids = Num.enc 0 by unfold rowB; rw [if_pos hz, List.append_nil, hz])
      rw [HB.out]
      rw [hz] at CM ⊢
      clear HB HA HR hz
      go_enter Try.func11, Try.ntmps11
      go_wp2_with fail
      refine CM.mono ?_
      rintro e w1 ⟨rfl, hE1⟩
      have C2 := refNum_any 0 w1 (by omega)
      clear CM
      go_wp2_with fail
      refine C2.mono ?_
      rintro e w2 ⟨v2, rfl, hV2, hE2⟩
      clear C2
      go_wp2
      go_ret2
      exact ⟨_, rfl, hV2.mono hE1.le, hE1.trans hE2⟩
    · have hzb : ((ids.length : Int) == 0) = false := by rw [beq_eq_false_iff_ne]; omega
      obtain ⟨bd, rfl⟩ := Int.eq_ofNat_of_zero_le (show 0 ≤ bound by omega)
      obtain ⟨q, hq⟩ : ∃ q, q = bd / ids.length := ⟨_, rfl⟩
      have hqI : (bd : Int).tdiv (ids.length : Int) = (q : Int) := by rw [hq, Int.tdiv_eq_ediv_of_nonneg (by omega)]; rfl
      have hq2 : q ≤ 20000 := by rw [hq]; exact Nat.le_trans (Nat.div_le_self _ _) (by omega)
      have hwd : wid q = widE (bd : Int) ids.length := by unfold widE; rw [hq, Int.toNat_natCast]
      have HB := hide (show rowB (bd : Int) ids = Num.enc ids.length ++ Bit.pack (bitsE (wid q) ids) by unfold rowB; rw [if_neg hz, hwd])
      have hw14 : wid q ≤ 14 := by rw [hwd]; exact widE_le (by omega)
      rw [HB.out]
      clear HB hwd
      have HQ := hide hq
      clear hq
      generalize hnn : ids.length = n at *
      have HL := hide hnn
      clear hnn
      go_enter Try.func11, Try.ntmps11
      go_wp2_with fail
      refine CM.mono ?_
      rintro e w1 ⟨rfl, hE1⟩
      have C2 := refNum_any n w1 (by omega)
      clear CM
      go_wp2_with fail
      refine C2.mono ?_
      rintro e w2 ⟨v2, rfl, hV2, hE2⟩
      have hle1 := hE1.le
      have hV2 := hV2.mono hle1
      have hE2 := hE1.trans hE2
      clear C2 hE1 hle1
      have C3 := refWidth_any q w2 hq2
      go_wp2_with fail
      refine C3.mono ?_
      rintro e w3 ⟨⟨p, hp, rfl⟩, rfl⟩
      have hp1 : 0 < p := by rw [hp]; exact Nat.pow_pos (by omega)
      have HP := hide hp
      clear C3 hp
      generalize wid q = k at *
      go_wp2_with fail
      have hEw := extNew w3 (.cells #[.slice none 0 0] 57)
      have hR0 := RefW.new w3
      have hV3 := hV2.ext hEw
      have hE3 := hE2.trans hEw
      obtain ⟨g, hg⟩ : ∃ g, g = w3.heap.size := ⟨_, rfl⟩
      have hgl : w.heap.size ≤ g := hg ▸ hE2.le
      have hV2g : ∀ x, v2.ownBlock = some x → x < g := fun x hx => hg ▸ (hV2.lt x hx).2
      rw [← hg] at hR0 ⊢
      generalize w3.alloc (.cells #[.slice none 0 0] 57) = wa at *
      have HAll := hide (show ∀ W, Mod wa W g none → OwnB W w.heap.size v2 (Num.enc n) ∧ Ext w W ∧ IntsAt W w.heap.size A n ids from fun W hM => by
        have hE : Ext w W := Below.trans hE3 (hM.below (B := w.heap.size) hE3.le hgl (fun k hk => by cases hk))
        refine ⟨hM.own hV3 (fun e => by have := hV2g g e; omega) ?_, hE, HA.out.below hE (Nat.le_refl _)⟩
        cases hv : v2.ownBlock with
        | none => exact .inl rfl
        | some x => exact .inr (by simp))
      have HRow := hide (show ∀ i, i < n → ∃ y : Nat, ids.getD i 0 = (y : Int) ∧ y < bd ∧ was k ids i ≤ y / p ∧ hi k ids i = y / p from fun i hi => by
        have h1 := row_at HR.out (i := i) (by rw [HL.out]; exact hi)
        refine ⟨(ids.getD i 0).toNat, by omega, by omega, ?_, ?_⟩
        · have h2 := was_le (w := k) HR.out (i := i) (by rw [HL.out]; exact hi)
          unfold Ef.hi at h2
          rw [HP.out]
          exact h2
        · unfold Ef.hi
          rw [HP.out])
      have hlow : ∀ i, i ≤ n → (lowTo k ids i).length ≤ 1400000 := fun i hi => by
        rw [lowTo_len]
        exact Nat.le_trans (Nat.mul_le_mul (show i ≤ 100000 by omega) hw14) (by omega)
      have HLow := hide hlow
      have HHigh := hide (show ∀ i, i ≤ n → (highTo k ids i).length = i + was k ids i from fun i hi => highTo_len HR.out i (by rw [HL.out]; exact hi))
      clear hEw hV2 hV3 hE2 hE3 hg hV2g hlow hqI hzb
      go_loopw [10] (fun x wr => ∃ (i : Nat) (ob : Option Nat), i ≤ n ∧ x = .int .i64 (i : Int) ∧ RefW wr g g ob ((lowTo k ids i).map bit8) ∧ NewOb wa none ob ∧ Mod wa wr g none) (fun x _ => n - (intOf x).toNat)
      case atStart => exact ⟨0, none, by omega, rfl, by simpa [lowTo] using hR0, .inl rfl, Mod.refl _ _ _⟩
      case round =>
        clear hR0
        obtain ⟨i, ob, hi, rfl, hR, hN, hM⟩ := hrel
        by_cases hlt : i < n
        · have hiI : (i : Int) < (n : Int) := by omega
          obtain ⟨_, hEw, hA⟩ := HAll.out wr hM
          rcases hA.2 with h9 | ⟨b1, o1, rfl, _, hc1⟩
          · omega
          have e1 := hc1 i hlt
          obtain ⟨y, hy, hyb, _, _⟩ := HRow.out i hlt
          rw [hy] at e1
          obtain ⟨m, hm⟩ : ∃ m, m = y % p := ⟨_, rfl⟩
          have hmI : (y : Int).tmod (p : Int) = (m : Int) := by rw [hm, Int.tmod_eq_emod_of_nonneg (by omega)]; rfl
          have hm2 : m ≤ y := by rw [hm]; exact Nat.mod_le _ _
          have hmk : m < 2 ^ k := by rw [hm, ← HP.out]; exact Nat.mod_lt _ hp1
          have C4 := refPut_any hR m (k : Int) (by omega) (by rw [List.length_map]; have := HLow.out i hi; omega)
          rw [Ef.put_num (by omega) hmk, ← List.map_append, show lowTo k ids i ++ Bit.num m k = lowTo k ids (i + 1) by rw [lowTo_succ, hy, Int.toNat_natCast, hm, HP.out]] at C4
          generalize Bit.putErr m (k : Int) = E2 at C4
          have HN := hide hN
          have HM := hide hM
          clear hA hc1 hy hm hmk hR hN hM hEw
          go_wp2_with fail
          refine C4.mono ?_
          rintro e wc ⟨rfl, obc, hRc, hNc, hMc⟩
          clear C4
          go_wp2
          go_roundw
          case rel => exact ⟨i + 1, obc, by omega, by go_num, hRc, HN.out.trans HM.out.size hNc, HM.out.trans hMc HN.out⟩
          case measure => simp [intOf]; omega
        · obtain rfl : n = i := by omega
          have HRn := hide hR
          have HNn := hide hN
          have HMn := hide hM
          clear hR hN hM
          go_wp2
          go_loopw [11, 12] (fun x y wr => ∃ (i : Nat) (ob : Option Nat), i ≤ n ∧ x = .int .i64 (was k ids i : Int) ∧ y = .int .i64 (i : Int) ∧ RefW wr g g ob ((lowTo k ids n ++ highTo k ids i).map bit8) ∧ NewOb wa none ob ∧ Mod wa wr g none) (fun _ y _ => n - (intOf y).toNat)
          case atStart => exact ⟨0, ob, by omega, rfl, rfl, by simpa [highTo] using HRn.out, HNn.out, HMn.out⟩
          case round =>
            clear HRn HNn HMn
            obtain ⟨i, ob, hi, rfl, rfl, hR, hN, hM⟩ := hrel
            have hlen : ((lowTo k ids n ++ highTo k ids i).map bit8).length ≤ 1600000 := by
              rw [List.length_map, List.length_append, HHigh.out i hi]
              have := HLow.out n (Nat.le_refl _)
              have h3 : was k ids i ≤ 20000 := by
                rcases Nat.eq_zero_or_pos i with e | e
                · subst e; simp [was]
                · obtain ⟨y, _, h4, _, h5⟩ := HRow.out (i - 1) (by omega)
                  unfold was
                  rw [if_neg (by omega), h5]
                  exact Nat.le_trans (Nat.div_le_self _ _) (by omega)
              omega
            by_cases hlt : i < n
            · have hiI : (i : Int) < (n : Int) := by omega
              obtain ⟨_, hEw, hA⟩ := HAll.out wr hM
              rcases hA.2 with h9 | ⟨b1, o1, rfl, _, hc1⟩
              · omega
              have e1 := hc1 i hlt
              obtain ⟨y, hy, hyb, hwz, hhz⟩ := HRow.out i hlt
              rw [hy] at e1
              obtain ⟨z, hz2⟩ : ∃ z, z = y / p := ⟨_, rfl⟩
              have hzI : (y : Int).tdiv (p : Int) = (z : Int) := by rw [hz2, Int.tdiv_eq_ediv_of_nonneg (by omega)]; rfl
              have hzy : z ≤ y := by rw [hz2]; exact Nat.div_le_self _ _
              rw [← hz2] at hwz hhz
              have HS := hide (highTo_succ k ids i)
              have HWs := hide (show was k ids (i + 1) = z by rw [was_succ, ← hhz]; rfl)
              obtain ⟨a, ha⟩ : ∃ a, a = was k ids i := ⟨_, rfl⟩
              rw [← ha] at hwz HS ⊢
              rw [hhz] at HS
              have hdI : (z : Int) - (a : Int) = ((z - a : Nat) : Int) := by omega
              have C4 := refUnary_any hR ((z - a : Nat) : Int) (by omega)
              rw [Ef.un_num (by omega), ← List.map_append, List.append_assoc, ← HS.out] at C4
              generalize Bit.unaryErr ((z - a : Nat) : Int) = E2 at C4
              have hd2 : z - a ≤ z := by omega
              generalize z - a = d at *
              have HN := hide hN
              have HM := hide hM
              have HCell := hide (show ∀ W, Mod wa W g none → W.cell? ⟨b1, o1 + i, none⟩ = some (.int .i64 (y : Int)) from fun W hW => by
                rcases (HAll.out W hW).2.2.2 with h9 | ⟨b', o', e', _, hc'⟩
                · omega
                · simp only [Option.some.injEq, Addr.mk.injEq, and_true] at e'
                  obtain ⟨rfl, rfl⟩ := e'
                  rw [← hy]
                  exact hc' i hlt)
              clear hA hc1 hy hz2 hR hN hM hEw hhz ha hlen HS
              go_wp2_with fail
              refine C4.mono ?_
              rintro e wc ⟨rfl, obc, hRc, hNc, hMc⟩
              have f1 := HCell.out wc (HM.out.trans hMc HN.out)
              clear C4 e1
              go_wp2
              go_roundw
              case rel => exact ⟨i + 1, obc, by omega, by rw [HWs.out], by go_num, hRc, HN.out.trans HM.out.size hNc, HM.out.trans hMc HN.out⟩
              case measure => simp [intOf]; omega
            · obtain rfl : n = i := by omega
              obtain ⟨hV, hE, _⟩ := HAll.out wr hM
              have hBE : lowTo k ids n ++ highTo k ids n = bitsE k ids := by unfold bitsE; rw [HL.out]
              rw [hBE] at hR hlen
              have C5 := refBytes_any hR (by rw [List.length_map] at hlen; omega)
              have HV := hide hV
              have HE := hide hE
              have hgr := hR.lt
              clear hR hN hM hV hE hBE
              go_wp2_with fail
              refine C5.mono ?_
              rintro e wb ⟨l, hPk, vb, rfl, hOb, hEb⟩
              have hl5 : l.length ≤ 1000000 := by
                have := hPk.1
                rw [List.length_map] at hlen
                omega
              obtain rfl := hPk.is
              obtain ⟨Ab, cb, rfl, _, _, hbb⟩ := hOb.form
              have hV5 := HV.out.ext hEb
              have hE5 := HE.out.trans hEb
              have hel := enc_len n
              have hbase := hE5.le
              clear C5 hPk hOb
              go_wp2_with (at_builtin; refine wpList_app rfl (.tmp 78) (.tmp 79) rfl rfl hV5 rfl hbb (by omega) hbase ?_; intro v6 w6 hO6 hG6; have hE6 := hV5.below hE5 hG6 hbase)
              go_ret2
              exact ⟨_, rfl, hO6, hE6⟩
end Go.Proofs.Ytdpeidijaohgcaa

namespace Go.Proofs.Ytdpeidijaohgcaa
open Go.RowKit Num Ef

/-- What the parts of a row are. -/
theorem Ef.parts_are {k : Nat} {ids L H : List Int} {bound : Int} (hP : Ef.Parts k ids L H) (hr : row bound ids = true) (hb : bound ≤ 20000) {i : Nat} (hi' : i < ids.length) :
    ∃ h x : Nat, H.getD i 0 = (h : Int) ∧ L.getD i 0 = (x : Int) ∧ x < 2 ^ k ∧ (ids.getD i 0).toNat % 2 ^ k = x ∧ hi k ids i = h ∧ was k ids i ≤ h ∧ h ≤ 20000 ∧ (ids.getD i 0).toNat / 2 ^ k = h := by
  obtain ⟨h, x, e1, e2, hx, _, e3⟩ := hP.2.2.2 i hi'
  have hw := was_le (w := k) hr hi'
  have hlt := (row_at hr hi').2.1
  have e4 : (ids.getD i 0).toNat = h * 2 ^ k + x := by rw [e3]; exact Int.toNat_natCast _
  have d1 : (h * 2 ^ k + x) / 2 ^ k = h := by rw [Nat.mul_comm, Nat.mul_add_div (Nat.pow_pos (by omega)), Nat.div_eq_of_lt hx, Nat.add_zero]
  have d2 : (h * 2 ^ k + x) % 2 ^ k = x := by rw [Nat.mul_comm, Nat.mul_add_mod, Nat.mod_eq_of_lt hx]
  have e5 : hi k ids i = h := by unfold hi; rw [e4, d1]
  rw [e5] at hw
  have hle : h ≤ h * 2 ^ k := Nat.le_mul_of_pos_right _ (Nat.pow_pos (by omega))
  exact ⟨h, x, e1, e2, hx, by rw [e4, d2], e5, hw, by omega, by rw [e4, d1]⟩
theorem Ef.was_le_20000 {k : Nat} {ids : List Int} {bound : Int} (hr : row bound ids = true) (hb : bound ≤ 20000) {i : Nat} (hi' : i ≤ ids.length) : was k ids i ≤ 20000 := by
  unfold was hi
  split
  · omega
  · have := (row_at hr (i := i - 1) (by omega)).2.1
    exact Nat.le_trans (Nat.div_le_self _ _) (by omega)

set_option maxHeartbeats 2000000 in
set_option maxRecDepth 10000 in
theorem efBytes_any {k : Nat} {A1 : Option Addr} {c1 : Nat} {A2 : Option Addr} {c2 : Nat} {ids : List Int} {bound : Int} (w : World) (h : PartsV w w.heap.size k A1 ids.length A2 ids.length ids) (hn : ids.length ≤ 20000) (hr : row bound ids = true) (hb : bound ≤ 20000) :
    Calls Try.prog 26 #[partsV k A1 ids.length c1 A2 ids.length c2] w (MadeB w (Bit.pack (bitsE k ids))) := by
  obtain ⟨L, H, h1, h2, hP⟩ := h.ex
  have hk14 := hP.1
  have HAt := hide (fun (i : Nat) (hi' : i < ids.length) => parts_are hP hr hb hi')
  have HWas := hide (fun (i : Nat) (hi' : i ≤ ids.length) => was_le_20000 (k := k) hr hb hi')
  have HLow := hide (show ∀ i, i ≤ ids.length → (lowTo k ids i).length ≤ 300000 from fun i hi' => by
    rw [lowTo_len]
    exact Nat.le_trans (Nat.mul_le_mul (show i ≤ 20000 by omega) hk14) (by omega))
  have HHigh := hide (show ∀ i, i ≤ ids.length → (highTo k ids i).length ≤ 40000 from fun i hi' => by
    rw [highTo_len hr i hi']
    have := HWas.out i hi'
    omega)
  have HB := hide (show lowTo k ids ids.length ++ highTo k ids ids.length = bitsE k ids from rfl)
  have H1 := hide h1
  have H2 := hide h2
  unfold partsV
  generalize bitsE k ids = BE at *
  generalize ids.length = n at *
  clear h h1 h2 hP hr hb
  obtain ⟨gb, hgb⟩ : ∃ g, g = w.heap.size := ⟨_, rfl⟩
  have hWb := Whole.new w 51 #[.int .i64 (k : Int), .slice A1 n c1, .slice A2 n c2]
  have hEb := extNew w (.cells #[.int .i64 (k : Int), .slice A1 n c1, .slice A2 n c2] 51)
  obtain ⟨w1, hw1⟩ : ∃ W, W = w.alloc (.cells #[.int .i64 (k : Int), .slice A1 n c1, .slice A2 n c2] 51) := ⟨_, rfl⟩
  obtain ⟨g, hg⟩ : ∃ g, g = w1.heap.size := ⟨_, rfl⟩
  have hWr := Wrt.new w1
  have hE2 := extNew w1 (.cells #[.slice none 0 0, .int .i64 0] 75)
  obtain ⟨w2, hw2⟩ : ∃ W, W = w1.alloc (.cells #[.slice none 0 0, .int .i64 0] 75) := ⟨_, rfl⟩
  rw [← hw1] at hWb hEb
  rw [← hw2] at hE2 hWr
  rw [← hgb] at hWb
  have hgl := hWb.lt
  have hW2 := hWb.ext hE2
  have hE := hEb.trans hE2
  rw [← hg] at hWr hgl
  have hs2 := hE2.le
  rw [← hg] at hs2
  have p1 := hW2.at 1 (u := .slice A1 n c1) rfl
  have HE := hide hE
  have HW := hide hW2
  have HWr := hide hWr
  have HG1 := hide hgb
  have hgw : w.heap.size < g := by omega
  have HW1 := hide hw1
  have HW2 := hide hw2
  have HG := hide hg
  clear hEb hE2 hWb hE hW2 hWr hgb hw1 hw2 hg
  go_enter Try.func26, Try.ntmps26
  go_wp2_with fail
  rw [← HW1.out, ← HW2.out, ← HG1.out, show gb + 1 = g by rw [HG.out, HW1.out, HG1.out]; simp]
  have HExt := hide (show ∀ W, Below g w2 W → Ext w W from fun W hB => Below.trans HE.out (Below.mono hB (Nat.le_of_lt hgw)))
  clear HW1 HW2 HG p1
  go_loopw [12] (fun x wr => ∃ (i : Nat) (ob : Option Nat), i ≤ n ∧ x = .int .i64 (i : Int) ∧ Wrt wr g g ob (lowTo k ids i) ∧ Below g w2 wr) (fun x _ => n - (intOf x).toNat)
  case atStart => exact ⟨0, none, by omega, rfl, HWr.out, Below.refl _ _⟩
  case round =>
    clear HWr
    obtain ⟨i, ob, hi, rfl, hR, hM⟩ := hrel
    have hWw := HW.out.below hM hgl
    by_cases hlt : i < n
    · have hiI : (i : Int) < (n : Int) := by omega
      rcases (H1.out.later (HExt.out wr hM)).2 with h9 | ⟨b1, o1, rfl, _, hc1⟩
      · omega
      have e1 := hc1 i hlt
      obtain ⟨h, x, _, hx, hxk, hmod, -⟩ := HAt.out i hlt
      rw [hx] at e1
      have p0 := hWw.at 0 (u := .int .i64 (k : Int)) rfl
      have C4 := put_any hR x (k : Int) (by have := HLow.out i hi; omega)
      have hx14 : x < 16384 := Nat.lt_of_lt_of_le hxk (Nat.le_trans (Nat.pow_le_pow_right (by omega) hk14) (by decide))
      rw [Ef.put_num (by omega) hxk, show lowTo k ids i ++ Bit.num x k = lowTo k ids (i + 1) by rw [lowTo_succ, hmod]] at C4
      have hxu : IntKind.u64.wrap (x : Int) = (x : Int) := by rw [IntKind.wrap_u64]; omega
      generalize Bit.putErr x (k : Int) = E2 at C4
      have HR := hide hR
      have HM := hide hM
      clear hc1 hx hxk hmod hR hM hWw
      go_wp2_with fail
      refine C4.mono ?_
      rintro e wc ⟨rfl, obc, hRc, -, hMc⟩
      have hBc : Below g w2 wc := Below.trans HM.out (hMc.below (B := g) (Nat.le_of_lt HR.out.lt) (Nat.le_refl _) (fun k hk => (HR.out.ob k hk).1))
      clear C4 p0 e1
      go_wp2
      go_roundw
      case rel => exact ⟨i + 1, obc, by omega, by go_num, hRc, hBc⟩
      case measure => simp [intOf]; omega
    · obtain rfl : n = i := by omega
      have p2 := hWw.at 2 (u := .slice A2 n c2) rfl
      have HRn := hide hR
      have HMn := hide hM
      clear hR hM hWw
      go_wp2
      go_loopw [6, 25] (fun x y wr => ∃ (i : Nat) (ob : Option Nat), i ≤ n ∧ x = .int .i64 (was k ids i : Int) ∧ y = .int .i64 (i : Int) ∧ Wrt wr g g ob (lowTo k ids n ++ highTo k ids i) ∧ Below g w2 wr) (fun _ y _ => n - (intOf y).toNat)
      case atStart => exact ⟨0, ob, by omega, rfl, rfl, by simpa [highTo] using HRn.out, HMn.out⟩
      case round =>
        clear HRn HMn p2
        obtain ⟨i, ob, hi, rfl, rfl, hR, hM⟩ := hrel
        by_cases hlt : i < n
        · have hiI : (i : Int) < (n : Int) := by omega
          rcases (H2.out.later (HExt.out _ hM)).2 with h9 | ⟨b1, o1, rfl, _, hc1⟩
          · omega
          have e1 := hc1 i hlt
          obtain ⟨h, x, hh, _, _, _, hhi, hwas, hh2, hdiv⟩ := HAt.out i hlt
          rw [hh] at e1
          have HS := hide (highTo_succ k ids i)
          have HWs := hide (show was k ids (i + 1) = h by rw [was_succ, hdiv])
          rw [hhi] at HS
          obtain ⟨a, ha⟩ : ∃ a, a = was k ids i := ⟨_, rfl⟩
          rw [← ha] at hwas HS ⊢
          have hdI : (h : Int) - (a : Int) = ((h - a : Nat) : Int) := by omega
          have C4 := unary_any hR ((h - a : Nat) : Int) (by rw [List.length_append]; have := HLow.out n (Nat.le_refl _); have := HHigh.out i hi; omega)
          rw [Ef.un_num (by omega), List.append_assoc, ← HS.out] at C4
          generalize Bit.unaryErr ((h - a : Nat) : Int) = E2 at C4
          have hd2 : h - a ≤ h := by omega
          generalize h - a = d at *
          have HR := hide hR
          have HM := hide hM
          have HCell := hide (show ∀ W, Below g w2 W → W.cell? ⟨b1, o1 + i, none⟩ = some (.int .i64 (h : Int)) from fun W hW => by
            rcases (H2.out.later (HExt.out W hW)).2 with h9 | ⟨b', o', e', _, hc'⟩
            · omega
            · simp only [Option.some.injEq, Addr.mk.injEq, and_true] at e'
              obtain ⟨rfl, rfl⟩ := e'
              rw [← hh]
              exact hc' i hlt)
          clear hc1 hh hhi ha hdiv hR hM HS
          go_wp2_with fail
          refine C4.mono ?_
          rintro e wc ⟨rfl, obc, hRc, -, hMc⟩
          have hBc : Below g w2 wc := Below.trans HM.out (hMc.below (B := g) (Nat.le_of_lt HR.out.lt) (Nat.le_refl _) (fun k hk => (HR.out.ob k hk).1))
          have f1 := HCell.out wc hBc
          clear C4 e1
          go_wp2
          go_roundw
          case rel => exact ⟨i + 1, obc, by omega, by rw [HWs.out], by go_num, hRc, hBc⟩
          case measure => simp [intOf]; omega
        · obtain rfl : n = i := by omega
          rw [HB.out] at hR
          have C5 := wbytes_any hR (by rw [← HB.out, List.length_append]; have := HLow.out n (Nat.le_refl _); have := HHigh.out n (Nat.le_refl _); omega)
          have HEr := hide (HExt.out _ hM)
          clear hR hM
          go_wp2_with fail
          refine C5.mono ?_
          rintro e wb ⟨l, hPk, vb, rfl, hOb, hEb⟩
          have HPk := hide hPk
          have HOb := hide hOb
          have HEb := hide hEb
          clear C5 hPk hOb hEb
          go_wp2
          go_ret
          exact ⟨vb, rfl, by rw [← HPk.out.is]; exact HOb.out.mono HEr.out.le, HEr.out.trans HEb.out⟩
end Go.Proofs.Ytdpeidijaohgcaa

namespace Go.Proofs.Ytdpeidijaohgcaa
open Go.RowKit

def sameB (a b : List UInt8) : Bool := decide (a = b)
theorem sameB_true {a b : List UInt8} (h : a = b) : sameB a b = true := decide_eq_true h
theorem sameB_false {a b : List UInt8} (h : a ≠ b) : sameB a b = false := decide_eq_false h
end Go.Proofs.Ytdpeidijaohgcaa

namespace Go.Proofs.Ytdpeidijaohgcaa
open Go.RowKit

theorem conv_bytes {w : World} {B : Nat} {A : Option Addr} {n : Nat} {l : List UInt8} (c : Nat) (h : Bytes w B A n l) (hA : A = none → n = 0) :
    (convert 24 9 (.slice A n c)).run Try.prog w = .ok (.string ⟨l.toArray⟩) w := by
  obtain ⟨hl, hb⟩ := h
  rcases A with _ | ad
  · obtain rfl := hA rfl
    obtain rfl := List.eq_nil_of_length_eq_zero hl
    exact run_convert_bytes_nil w 24 5 Try.underlying24 Try.underlying5 0 c 9 Try.underlying9
  · subst hl
    refine run_convert_bytes_back w 24 9 5 ad c l Try.underlying24 Try.underlying5 Try.underlying9 fun j hj => ?_
    rcases hb with h0 | ⟨b, off, hA, _, hc⟩
    · omega
    · obtain rfl : ad = ⟨b, off, none⟩ := by injection hA
      have hadd : (⟨b, off, none⟩ : Addr).add j = ⟨b, off + j, none⟩ := by unfold Addr.add; split <;> simp_all
      rw [hadd, hc j hj, List.getD_eq_getElem?_getD, List.getElem?_eq_getElem hj]
      rfl

theorem same_beq (a b : List UInt8) : sameB a b = (a == b) := by
  by_cases h : a = b
  · rw [sameB_true h]; simp [h]
  · rw [sameB_false h]; simp [h]
end Go.Proofs.Ytdpeidijaohgcaa

namespace Go.Proofs.Ytdpeidijaohgcaa
open Go.RowKit

set_option maxHeartbeats 1000000 in
theorem same_any (A1 A2 : Option Addr) (n m c d : Nat) (a b : List UInt8) (w : World) (ha : Bytes w w.heap.size A1 n a) (hb : Bytes w w.heap.size A2 m b) :
    Calls Try.prog 12 #[.slice A1 n c, .slice A2 m d] w fun e w' => e = .returned (.bool (sameB a b)) ∧ Ext w w' := by
  have h1 := conv_bytes c ha (fun h => by subst h; rcases ha.2 with h | ⟨_, _, h, _⟩; exact h; cases h)
  have h2 := conv_bytes d hb (fun h => by subst h; rcases hb.2 with h | ⟨_, _, h, _⟩; exact h; cases h)
  clear ha hb
  go_enter Try.func12, Try.ntmps12
  go_wp2
  go_ret
  exact ⟨ret_bool (same_beq a b).symm, Ext.refl _⟩
end Go.Proofs.Ytdpeidijaohgcaa

namespace Go.Proofs.Ytdpeidijaohgcaa
open Go.RowKit Num Ef

/-- A number of 64 bits. -/
def IsI64 (x : Int) : Prop := -9223372036854775808 ≤ x ∧ x ≤ 9223372036854775807
/-- Block g is a list of these numbers. -/
abbrev LstP := World → Nat → List Int → Prop
def LstKeep (LP : LstP) : Prop := ∀ {W W' : World} {g : Nat} {ids : List Int}, LP W g ids → Ext W W' → LP W' g ids
/-- What Read tells. -/
def RdTo (LP : LstP) (W : World) (r : List Int × Nat × Int) (e : Ending) (w' : World) : Prop :=
  Ext W w' ∧ (r.2.2 = 0 → ∃ g, e = .returned (.tuple #[.pointer (some ⟨g, 0, none⟩), .int .i64 (r.2.1 : Int), .int .i64 0]) ∧ LP w' g r.1) ∧ (r.2.2 ≠ 0 → e = .returned (.tuple #[.pointer none, .int .i64 0, .int .i64 r.2.2]))
/-- What All tells. -/
def AllTo (W : World) (ids : List Int) (e : Ending) (w' : World) : Prop :=
  ∃ A c, e = .returned (.slice A ids.length c) ∧ ids.length ≤ c ∧ c ≤ maxLen ∧ IntsAt w' w'.heap.size A ids.length ids ∧ Ext W w'
/-- What At tells. -/
def Ef.atE (ids : List Int) (i : Int) : Int := if 0 ≤ i ∧ i < (ids.length : Int) then ids.getD i.toNat 0 else 0
def AtTo (W : World) (ids : List Int) (i : Int) (e : Ending) (w' : World) : Prop := e = .returned (.tuple #[.int .i64 (atE ids i), .bool (decide (0 ≤ i ∧ i < (ids.length : Int)))]) ∧ Ext W w'
def NextTo (W : World) (ids : List Int) (x : Int) (e : Ending) (w' : World) : Prop := e = .returned (.tuple #[.int .i64 (nextE ids x).1, .int .i64 (nextE ids x).2.1, .bool (nextE ids x).2.2]) ∧ Ext W w'
/-- From world w on, the program's functions tell what the document's tell. -/
def EfWriteC (w : World) : Prop := ∀ (bound : Int) (ids : List Int) (A : Option Addr) (n c : Nat) (W : World), Ext w W → IsI64 bound → n ≤ c → c ≤ maxLen → n ≤ 20000 → IntsAt W W.heap.size A n ids → Calls Try.prog 10 #[.int .i64 bound, .slice A n c] W (MadeE W (writeE bound ids).1 (writeE bound ids).2)
def EfReadC (LP : LstP) (w : World) : Prop := ∀ (bound : Int) (b : List UInt8) (A : Option Addr) (c : Nat) (W : World), Ext w W → IsI64 bound → b.length ≤ c → c ≤ maxLen → b.length ≤ 10000 → Bytes W W.heap.size A b.length b → Calls Try.prog 13 #[.int .i64 bound, .slice A b.length c] W (RdTo LP W (readE bound b))
def EfLenC (LP : LstP) (w : World) : Prop := ∀ (ids : List Int) (g : Nat) (W : World), Ext w W → LP W g ids → Calls Try.prog 17 #[.pointer (some ⟨g, 0, none⟩)] W fun e w' => e = .returned (.int .i64 (ids.length : Int)) ∧ Ext W w'
def EfAtC (LP : LstP) (w : World) : Prop := ∀ (ids : List Int) (i : Int) (g : Nat) (W : World), Ext w W → IsI64 i → LP W g ids → Calls Try.prog 18 #[.pointer (some ⟨g, 0, none⟩), .int .i64 i] W (AtTo W ids i)
def EfNextC (LP : LstP) (w : World) : Prop := ∀ (ids : List Int) (x : Int) (g : Nat) (W : World), Ext w W → IsI64 x → LP W g ids → Calls Try.prog 19 #[.pointer (some ⟨g, 0, none⟩), .int .i64 x] W (NextTo W ids x)
def EfAllC (LP : LstP) (w : World) : Prop := ∀ (ids : List Int) (g : Nat) (W : World), Ext w W → LP W g ids → Calls Try.prog 15 #[.pointer (some ⟨g, 0, none⟩)] W (AllTo W ids)
/-- Of a nil list. -/
def EfNilC (w : World) : Prop := ∀ (i x : Int) (W : World), Ext w W → IsI64 i → IsI64 x →
  (Calls Try.prog 17 #[.pointer none] W fun e w' => e = .returned (.int .i64 0) ∧ Ext W w') ∧
  (Calls Try.prog 18 #[.pointer none, .int .i64 i] W fun e w' => e = .returned (.tuple #[.int .i64 0, .bool false]) ∧ Ext W w') ∧
  (Calls Try.prog 19 #[.pointer none, .int .i64 x] W fun e w' => e = .returned (.tuple #[.int .i64 0, .int .i64 0, .bool false]) ∧ Ext W w') ∧
  (Calls Try.prog 15 #[.pointer none] W fun e w' => ∃ A c, e = .returned (.slice A 0 c) ∧ Ext W w')

theorem Ef.example : writeE 8 [2, 3, 5, 7] = ([4, 0x76, 0xA0], 0) := by decide +kernel

set_option maxHeartbeats 2000000 in
set_option maxRecDepth 100000 in
theorem alive13_any {w W : World} (hB : EfWriteC w) (hE : Ext w W) : Calls Try.prog 9 #[] W fun e W' => e = .returned (.bool true) ∧ Ext W W' := by
  have hE1 := extNew W (.cells #[.int .i64 2, .int .i64 3, .int .i64 5, .int .i64 7] 3)
  have hL1 := intsNew W [2, 3, 5, 7] #[.int .i64 2, .int .i64 3, .int .i64 5, .int .i64 7] 3 (0, 0) rfl 4 rfl
  have C := hB 8 [2, 3, 5, 7] _ 4 4 _ (hE.trans hE1) (by unfold IsI64; omega) (Nat.le_refl _) (by unfold maxLen; omega) (by omega) hL1
  rw [Ef.example] at C
  unfold MadeE at C
  dsimp only at C
  clear hL1 hB
  go_enter Try.func9, Try.ntmps9
  go_wp2_with fail
  refine C.mono ?_
  rintro e w2 ⟨v2, rfl, hO2, hE2⟩
  have hE3 := extNew w2 (.cells #[.int .u8 4, .int .u8 118, .int .u8 160] 5)
  obtain ⟨A2, c2, rfl, _, _, h2⟩ := hO2.form
  have CS := same_any _ _ _ _ c2 3 _ _ _ (hE3.bytes h2) (bytesNew w2 [4, 0x76, 0xA0] #[.int .u8 4, .int .u8 118, .int .u8 160] 5 (0, 0) rfl 3 rfl)
  rw [sameB_true rfl] at CS
  have hF := (hE1.trans hE2).trans hE3
  clear C hO2 h2
  go_wp2_with fail
  refine CS.mono ?_
  rintro e w5 ⟨rfl, hE5⟩
  go_wp2
  go_ret
  exact ⟨rfl, hF.trans hE5⟩

set_option maxHeartbeats 2000000 in
set_option maxRecDepth 100000 in
theorem efWrites_walk0 (bound : Int) (A : Option Addr) (n c : Nat) (ids : List Int) (w : World) (hB : EfWriteC w) (hbd : IsI64 bound) (hn : n ≤ c) (hc : c ≤ maxLen) (h : IntsAt w w.heap.size A n ids) :
    Calls Try.prog 3 #[.int .i64 bound, .slice A n c] w fun e w' => e = .returned (.bool true) ∧ Ext w w' := by
  have C0 := alive13_any hB (Ext.refl w)
  by_cases hbig : 600 < n
  · have hbI : (600 : Int) < (n : Int) := by omega
    go_enter Try.func3, Try.ntmps3
    go_wp2_with fail
    refine C0.mono ?_
    rintro e w1 ⟨rfl, hE1⟩
    go_wp2
    go_ret
    exact ⟨rfl, hE1⟩
  have hbI : ¬ (600 : Int) < (n : Int) := by omega
  have H := hide h
  have HB := hide hB
  clear h hB
  go_enter Try.func3, Try.ntmps3
  go_wp2_with fail
  refine C0.mono ?_
  rintro e w1 ⟨rfl, hE1⟩
  have C1 := HB.out bound ids A n c w1 hE1 hbd hn hc (by omega) (H.out.later hE1)
  clear C0
  go_wp2_with fail
  refine C1.mono ?_
  rintro e w2 ⟨v2, rfl, hO2, hE2⟩
  have hF2 := hE1.trans hE2
  have C2 := refWrite13_any A n c ids bound w2 (H.out.later hF2) (by omega)
  clear C1
  generalize writeE bound ids = res at *
  go_wp2_with fail
  refine C2.mono ?_
  rintro e w3 ⟨v3, rfl, hO3, hE3⟩
  have hF3 := hF2.trans hE3
  obtain ⟨A4, c4, rfl, _, _, h4⟩ := (hO2.ext hE3).form
  obtain ⟨A5, c5, rfl, _, _, h5⟩ := hO3.form
  have CS := same_any _ _ _ _ c4 c5 _ _ _ h4 h5
  rw [sameB_true rfl] at CS
  have heb : (res.2 == res.2) = true := by simp
  clear C2 hO2 hO3 h4 h5
  generalize res.2 = er at *
  generalize res.1.length = k2 at *
  go_wp2_with fail
  refine CS.mono ?_
  rintro e w4 ⟨rfl, hE4⟩
  go_wp2
  go_ret
  exact ⟨rfl, hF3.trans hE4⟩

set_option maxHeartbeats 2000000 in
set_option maxRecDepth 100000 in
theorem efShort_walk0 (bound : Int) (A : Option Addr) (n c : Nat) (ids : List Int) (w : World) (hB : EfWriteC w) (hbd : IsI64 bound) (hn : n ≤ c) (hc : c ≤ maxLen) (h : IntsAt w w.heap.size A n ids) :
    Calls Try.prog 8 #[.int .i64 bound, .slice A n c] w fun e w' => e = .returned (.bool true) ∧ Ext w w' := by
  have C0 := alive13_any hB (Ext.refl w)
  by_cases hbig : 600 < n
  · have hbI : (600 : Int) < (n : Int) := by omega
    go_enter Try.func8, Try.ntmps8
    go_wp2_with fail
    refine C0.mono ?_
    rintro e w1 ⟨rfl, hE1⟩
    go_wp2
    go_ret
    exact ⟨rfl, hE1⟩
  have hbI : ¬ (600 : Int) < (n : Int) := by omega
  by_cases hz : n = 0
  · have hzI : (n : Int) = 0 := by omega
    subst hz
    go_enter Try.func8, Try.ntmps8
    go_wp2_with fail
    refine C0.mono ?_
    rintro e w1 ⟨rfl, hE1⟩
    go_wp2
    go_ret
    exact ⟨rfl, hE1⟩
  have hzb : ((n : Int) == 0) = false := by rw [beq_eq_false_iff_ne]; omega
  have HL := hide h.1
  have H := hide h
  have HB := hide hB
  clear h hB
  by_cases he : (writeE bound ids).2 = 0
  · have hsh := short he (by rw [HL.out]; omega) (by rw [HL.out]; omega)
    rw [HL.out] at hsh
    have HOk : 0 ≤ bound ∧ bound ≤ 20000 := by
      unfold writeE at he
      split at he
      · rename_i h9; exact h9.1
      · simp at he
    obtain ⟨bd, rfl⟩ := Int.eq_ofNat_of_zero_le HOk.1
    obtain ⟨q, hq⟩ : ∃ q, q = bd / n := ⟨_, rfl⟩
    have hqI : (bd : Int).tdiv (n : Int) = (q : Int) := by rw [hq, Int.tdiv_eq_ediv_of_nonneg (by omega)]; rfl
    have hq2 : q ≤ 20000 := by rw [hq]; exact Nat.le_trans (Nat.div_le_self _ _) (by omega)
    have hwd : widE (bd : Int) n = wid q := by unfold widE; rw [hq, Int.toNat_natCast]
    rw [hwd] at hsh
    have HSh := hide hsh
    have HE := hide he
    have HQ := hide hq
    have hlen : (writeE (bd : Int) ids).1.length ≤ 10000 := by
      have : wid q ≤ 14 := by rw [← hwd]; exact widE_le (by omega)
      have h9 : n * (wid q + 3) ≤ 600 * 17 := Nat.mul_le_mul (by omega) (by omega)
      omega
    clear hsh hwd hq he HOk
    go_enter Try.func8, Try.ntmps8
    go_wp2_with fail
    refine C0.mono ?_
    rintro e w1 ⟨rfl, hE1⟩
    have C1 := HB.out (bd : Int) ids A n c w1 hE1 hbd hn hc (by omega) (H.out.later hE1)
    rw [HE.out] at C1
    clear C0
    go_wp2_with fail
    refine C1.mono ?_
    rintro e w2 ⟨v2, rfl, hO2, hE2⟩
    have hF2 := hE1.trans hE2
    obtain ⟨A4, c4, rfl, _, _, _⟩ := hO2.form
    clear C1 hO2 hE1 hE2
    generalize (writeE (bd : Int) ids).1.length = k at *
    go_wp2
    go_loopw [7, 8] (fun x y wr => ∃ j r : Nat, x = .int .i64 (j : Int) ∧ y = .int .i64 (r : Int) ∧ r = q / 2 ^ j ∧ (j = 0 ∨ 1 ≤ r) ∧ j ≤ 20 ∧ wr = w2) (fun x _ _ => 20 - (intOf x).toNat)
    case atStart => exact ⟨0, q, rfl, rfl, by simp, .inl rfl, by omega, rfl⟩
    case round =>
      obtain ⟨j, r, rfl, rfl, hr, hj, hj2, rfl⟩ := hrel
      have hrq : r ≤ q := by rw [hr]; exact Nat.div_le_self _ _
      have hrn : r / 2 = q / 2 ^ (j + 1) := by rw [hr, Nat.div_div_eq_div_mul, Nat.pow_succ]
      have hj15 : 1 < r → j < 15 := fun h1 => by
        refine Decidable.byContradiction fun h => ?_
        have h3 : 2 ^ 15 ≤ 2 ^ j := Nat.pow_le_pow_right (by omega) (by omega)
        have h4 : r = 0 := by rw [hr]; exact Nat.div_eq_of_lt (by omega)
        omega
      have HR := hide hr
      have HRn := hide hrn
      clear hr hrn
      by_cases hlt : 1 < r
      · have hI : (1 : Int) < (r : Int) := by omega
        have hd2 : (r : Int).tdiv 2 = ((r / 2 : Nat) : Int) := by rw [Int.tdiv_eq_ediv_of_nonneg (by omega)]; rfl
        have hj14 := hj15 hlt
        have h2 : r / 2 ≤ r := Nat.div_le_self _ _
        have h1 : 1 ≤ r / 2 := by omega
        clear hj15
        generalize r / 2 = s at *
        go_wp2
        go_roundw
        case rel => exact ⟨j + 1, s, by go_num, by go_num, HRn.out, .inr h1, by omega, trivial⟩
        case measure => simp [intOf]; omega
      · have hI : ¬ (1 : Int) < (r : Int) := by omega
        have hw : wid q = j := wid_is (by
          rcases hj with h | h
          · exact .inl h
          · refine .inr ?_
            have := HR.out
            rw [this] at h
            exact (Nat.div_pos_iff.1 h).2) (by
          have h3 : r < 2 := by omega
          rw [HR.out] at h3
          have := (Nat.div_lt_iff_lt_mul (Nat.pow_pos (by omega))).1 h3
          rw [Nat.pow_succ]
          omega)
        have hfin := HSh.out
        rw [hw] at hfin
        have hj14 : j ≤ 20 := hj2
        obtain ⟨m, hm⟩ : ∃ m, m = n * (j + 3) := ⟨_, rfl⟩
        have hmI : (n : Int) * ((j : Int) + 3) = (m : Int) := by rw [hm]; push_cast; rfl
        have hm2 : m ≤ 600 * 23 := by rw [hm]; exact Nat.mul_le_mul (by omega) (by omega)
        rw [← hm] at hfin
        have hfI : 8 * (k : Int) ≤ (m : Int) + 31 := by omega
        clear hj15 hw hm HR HRn
        go_wp2
        go_ret
        exact ⟨rfl, hF2⟩
  · have HE := hide he
    have heb : ((writeE bound ids).2 != 0) = true := by simpa using he
    clear he
    go_enter Try.func8, Try.ntmps8
    go_wp2_with fail
    refine C0.mono ?_
    rintro e w1 ⟨rfl, hE1⟩
    have C1 := HB.out bound ids A n c w1 hE1 hbd hn hc (by omega) (H.out.later hE1)
    clear C0
    generalize writeE bound ids = res at *
    go_wp2_with fail
    refine C1.mono ?_
    rintro e w2 ⟨v2, rfl, hO2, hE2⟩
    have hF2 := hE1.trans hE2
    clear C1 hO2
    generalize res.2 = er at *
    go_wp2
    go_ret
    exact ⟨rfl, hF2⟩

set_option maxHeartbeats 2000000 in
set_option maxRecDepth 100000 in
theorem efNone_walk0 (i x : Int) (w : World) (hB : EfWriteC w) (hN : EfNilC w) (hi : IsI64 i) (hx : IsI64 x) :
    Calls Try.prog 7 #[.int .i64 i, .int .i64 x] w fun e w' => e = .returned (.bool true) ∧ Ext w w' := by
  have C0 := alive13_any hB (Ext.refl w)
  have HN := hide (hN i x)
  clear hN hB
  go_enter Try.func7, Try.ntmps7
  go_wp2_with fail
  refine C0.mono ?_
  rintro e w1 ⟨rfl, hE1⟩
  have C1 := (HN.out w1 hE1 hi hx).2.1
  clear C0
  go_wp2_with fail
  refine C1.mono ?_
  rintro e w2 ⟨rfl, hE2⟩
  have hF2 := hE1.trans hE2
  have C2 := (HN.out w2 hF2 hi hx).2.2.1
  clear C1 hE1 hE2
  go_wp2_with fail
  refine C2.mono ?_
  rintro e w3 ⟨rfl, hE3⟩
  have hF3 := hF2.trans hE3
  have C3 := (HN.out w3 hF3 hi hx).1
  clear C2 hF2 hE3
  go_wp2_with fail
  refine C3.mono ?_
  rintro e w4 ⟨rfl, hE4⟩
  have hF4 := hF3.trans hE4
  have C4 := (HN.out w4 hF4 hi hx).2.2.2
  clear C3 hF3 hE4
  go_wp2_with fail
  refine C4.mono ?_
  rintro e w5 ⟨A5, c5, rfl, hE5⟩
  go_wp2
  go_ret
  exact ⟨rfl, hF4.trans hE5⟩
end Go.Proofs.Ytdpeidijaohgcaa

namespace Go.Proofs.Ytdpeidijaohgcaa
open Go.RowKit

/-- A slice of slices that reads as these rows of bytes. -/
def Parts (w : World) (B : Nat) (A : Option Addr) (n : Nat) (ls : List (List UInt8)) : Prop :=
  ls.length = n ∧ (n = 0 ∨ ∃ b off, A = some ⟨b, off, none⟩ ∧ b < B ∧ ∀ i, i < n → ∃ A' n' c', w.cell? ⟨b, off + i, none⟩ = some (.slice A' n' c') ∧ n' ≤ maxLen ∧ Bytes w B A' n' (ls.getD i []))

end Go.Proofs.Ytdpeidijaohgcaa

namespace Go.Proofs.Ytdpeidijaohgcaa
open Go.RowKit

theorem wpList_zerosAt {o : Oper} {a : Act} {Q : Exit → Act → World → Prop} {w : World} {base : Nat} {v : Value} {l : List UInt8} {ops : Array Oper} {rest : List Oper} (hgd : o.guard = none) (s x : Operand) (ho : o.op = .call { callee := .builtin .append, args := #[s, x], argTypes := #[24, 3] }) (hs : a.eval s = v) (hown : OwnB w base v l)
    (n : Nat) (hx : a.eval x = .int .i64 n) (hlen : l.length + n ≤ 140737488355328) (hbase : base ≤ w.heap.size)
    (h : ∀ v' w', OwnB w' base v' (l ++ List.replicate n 0) → w.grownBy w' v.ownBlock → NewOb w v.ownBlock v'.ownBlock → wpList Try.prog ops Q rest (a.put o.dst v') w') : wpList Try.prog ops Q (o :: rest) a w :=
  wpList_plain hgd fun _ hK => wp_zerosAt s x ho hs hown n hx hlen hbase fun v' w' h2 h3 h4 => hK _ _ (h v' w' h2 h3 h4)
theorem OwnB.cut0 {w : World} {base g n c : Nat} {l : List UInt8} (h : OwnB w base (.slice (some ⟨g, 0, none⟩) n c) l) : OwnB w base (.slice (some ⟨g, 0, none⟩) 0 c) [] := by
  refine ⟨rfl, ?_⟩
  rcases h.2 with ⟨h0, _⟩ | ⟨x, cap, cur, hv, hb, hx, hn, hm, hs, _⟩
  · cases h0
  · simp only [Value.slice.injEq, Option.some.injEq, Addr.mk.injEq, and_true] at hv
    obtain ⟨rfl, _, rfl⟩ := hv
    exact .inr ⟨g, c, cur, rfl, hb, hx, by simp, hm, hs, by simp⟩

set_option maxHeartbeats 1000000 in
set_option maxRecDepth 100000 in
theorem growNil_any (n : Nat) (w : World) (hn : n ≤ 1000000000) : Calls Try.prog 53 #[.slice none 0 0, .int .i64 (n : Int)] w (MadeB w []) := by
  have hnil := OwnB.nil w w.heap.size
  have hfit : ([] : List UInt8).length + n ≤ 140737488355328 := by simp; omega
  by_cases h0 : n = 0
  · subst h0
    go_enter Try.func53, Try.ntmps53
    go_wp2
    go_ret
    exact ⟨_, rfl, hnil, Ext.refl _⟩
  · have h1 : (0 : Int) < (n : Int) := by omega
    have h2 : ¬ ((n : Int) < 0) := by omega
    clear h0
    go_enter Try.func53, Try.ntmps53
    go_wp2_with (at_builtin; refine wpList_zerosAt rfl (.tmp 20) (.tmp 21) rfl rfl hnil n rfl hfit (Nat.le_refl _) ?_; intro v2 w2 hO2 hG2 hN2; rw [List.nil_append] at hO2; obtain ⟨g, c, hv2, hg, hc⟩ := hO2.formG (by simp; omega); rw [List.length_replicate] at hv2 hc; subst hv2; have i1 : (0 : Int) ≤ (c : Int) := by omega)
    go_ret
    exact ⟨_, rfl, hO2.cut0, (Ext.refl w).grown' hG2⟩

theorem flat_take (ls : List (List UInt8)) (i : Nat) (h : i < ls.length) : (ls.take (i + 1)).flatten = (ls.take i).flatten ++ ls.getD i [] := by
  rw [List.take_succ_eq_append_getElem h, List.flatten_append, List.getD_eq_getElem?_getD, List.getElem?_eq_getElem h]
  simp
theorem flat_take_le (ls : List (List UInt8)) (i : Nat) : (ls.take i).flatten.length ≤ ls.flatten.length := by
  conv => rhs; rw [← List.take_append_drop i ls, List.flatten_append, List.length_append]
  omega

set_option maxHeartbeats 2000000 in
set_option maxRecDepth 100000 in
theorem concat_any (A : Option Addr) (c : Nat) (ls : List (List UInt8)) (w : World) (hb : Parts w w.heap.size A ls.length ls) (hm : ls.length ≤ 1000000000) (htot : ls.flatten.length ≤ 1000000000) :
    Calls Try.prog 41 #[.slice A ls.length c] w (MadeB w ls.flatten) := by
  obtain ⟨_, hb⟩ := hb
  rcases hb with h0 | ⟨blk, off, rfl, hB, hcs⟩
  · obtain rfl := List.eq_nil_of_length_eq_zero h0
    have C := growNil_any 0 w (by omega)
    go_enter Try.func41, Try.ntmps41
    go_wp2
    go_loop [3, 11] (fun s i => s = .int .i64 0 ∧ i = .int .i64 0) (fun _ _ => 0)
    case atStart => exact ⟨rfl, rfl⟩
    case round =>
      obtain ⟨rfl, rfl⟩ := hrel
      go_wp2_with fail
      refine C.mono ?_
      rintro e w2 ⟨v2, rfl, hO2, hE2⟩
      go_wp2
      go_loopw [6, 27] (fun v i wr => i = .int .i64 0 ∧ OwnB wr w.heap.size v [] ∧ Ext w wr) (fun _ _ _ => 0)
      case atStart => exact ⟨rfl, hO2, hE2⟩
      case round =>
        obtain ⟨rfl, hO3, hE3⟩ := hrel
        go_wp2
        go_ret
        exact ⟨_, rfl, hO3, hE3⟩
  · obtain ⟨T, hT⟩ : ∃ T, T = ls.flatten.length := ⟨_, rfl⟩
    have CG := fun W => growNil_any T W (by omega)
    have HC := hide hcs
    have HT := hide htot
    have HTe := hide hT
    clear hT htot
    clear hcs
    go_enter Try.func41, Try.ntmps41
    go_wp2
    go_loop [3, 11] (fun s i => ∃ j : Nat, j ≤ ls.length ∧ i = .int .i64 (j : Int) ∧ s = .int .i64 (((ls.take j).flatten.length : Nat) : Int)) (fun _ i => ls.length - (intOf i).toNat)
    case atStart => exact ⟨0, by omega, rfl, by simp⟩
    case round =>
      obtain ⟨j, hj, rfl, rfl⟩ := hrel
      by_cases hlt : j < ls.length
      · obtain ⟨A', n', c', hc1, _, hb1⟩ := HC.out j hlt
        have hf := flat_take ls j hlt
        have hle := flat_take_le ls (j + 1)
        have hn' := hb1.1
        rw [hf, List.length_append, hn'] at hle
        have ht := HT.out
        have HF := hide hf
        obtain ⟨s, hs⟩ : ∃ s, s = (ls.take j).flatten.length := ⟨_, rfl⟩
        rw [← hs] at hle ⊢
        have hw : IntKind.i64.wrap ((s : Int) + (n' : Int)) = ((s + n' : Nat) : Int) := by rw [IntKind.wrap_i64]; omega
        have hpos : ¬ (((s + n' : Nat) : Int) < 0) := by omega
        have HS := hide hs
        have HN := hide hn'
        clear hf hb1 hs hn' ht
        go_wp2
        go_round
        case rel => exact ⟨j + 1, by omega, by go_num, by rw [HF.out, List.length_append, HN.out, ← HS.out]; go_num⟩
        case measure => simp [intOf]; omega
      · obtain rfl : j = ls.length := by omega
        rw [List.take_length, ← HTe.out]
        go_wp2_with fail
        refine (CG _).mono ?_
        rintro e w2 ⟨v2, rfl, hO2, hE2⟩
        go_wp2
        go_loopw [6, 27] (fun v i wr => ∃ j : Nat, j ≤ ls.length ∧ i = .int .i64 (j : Int) ∧ OwnB wr w.heap.size v (ls.take j).flatten ∧ Ext w wr) (fun _ i _ => ls.length - (intOf i).toNat)
        case atStart => exact ⟨0, by omega, rfl, by simpa using hO2, hE2⟩
        case round =>
          obtain ⟨j, hj, rfl, hO3, hE3⟩ := hrel
          by_cases hlt : j < ls.length
          · obtain ⟨A', n', c', hc1, _, hb1⟩ := HC.out j hlt
            have hc2 := (hE3.cell (i := off + j) hB).trans hc1
            have hb2 := hE3.bytes hb1
            have hf := flat_take ls j hlt
            have hle := flat_take_le ls (j + 1)
            rw [hf, List.length_append, hb1.1] at hle
            have HF := hide hf
            have hfit : (ls.take j).flatten.length + n' ≤ 140737488355328 := by have := HT.out; omega
            have hB3 := hE3.le
            clear hf hb1 hle hc1
            go_wp2_with (at_builtin; refine wpList_appAt rfl (.tmp 31) (.tmp 32) rfl rfl hO3 rfl hb2 hfit hB3 ?_; intro v4 w4 hO4 hG4 _)
            go_roundw
            case rel => exact ⟨j + 1, by omega, by go_num, by rw [HF.out]; exact hO4, hO3.below hE3 hG4 hB3⟩
            case measure => simp [intOf]; omega
          · obtain rfl : j = ls.length := by omega
            rw [List.take_length] at hO3
            go_wp2
            go_ret
            exact ⟨_, rfl, hO3, hE3⟩

theorem all_any (A : Option Addr) (c : Nat) (ls : List (List UInt8)) (w : World) (hb : Parts w w.heap.size A ls.length ls) (hm : ls.length ≤ 1000000000) (htot : ls.flatten.length ≤ 1000000000) :
    Calls Try.prog 23 #[.slice A ls.length c] w (MadeB w ls.flatten) := by
  have C := concat_any A c ls w hb hm htot
  clear hb
  go_enter Try.func23, Try.ntmps23
  go_wp2_with fail
  refine C.mono ?_
  rintro e w2 ⟨v2, rfl, hO2, hE2⟩
  go_wp2
  go_ret
  exact ⟨_, rfl, hO2, hE2⟩
end Go.Proofs.Ytdpeidijaohgcaa

namespace Go.Proofs.Ytdpeidijaohgcaa
open Go.RowKit

theorem strCells_bytes (s : ByteArray) : Lib.strCells s = s.data.toList.map byteV := rfl
/-- append of a string's bytes to bytes of the call's own. -/
theorem wpList_appS {ops : Array Oper} {rest : List Oper} {o : Oper} {a : Act} {Q : Exit → Act → World → Prop} {w : World} (hgd : o.guard = none) (s x : Operand) (ho : o.op = .call { callee := .builtin .append, args := #[s, x], argTypes := #[24, 9] })
    {base : Nat} {v : Value} {l : List UInt8} (hs : a.eval s = v) (hown : OwnB w base v l) {b : ByteArray} (hx : a.eval x = .string b) (hlen : l.length + b.size ≤ 140737488355328) (hbase : base ≤ w.heap.size)
    (h : ∀ v' w', OwnB w' base v' (l ++ b.data.toList) → w.grownBy w' v.ownBlock → wpList Try.prog ops Q rest (a.put o.dst v') w') : wpList Try.prog ops Q (o :: rest) a w := by
  obtain ⟨i, hi, hz, hsz, hby⟩ := info_parts byte_info
  refine Lib.wpList_append_own_string _ hgd s x 24 9 ho base 5 i Try.underlying24 Try.underlying9 hi hz hsz hby v l.length (l.map byteV) hs hown b hx (by unfold maxLen; omega) (by omega) hbase ?_
  intro v' w' h2 h3 _
  refine h v' w' ?_ h3
  unfold OwnB
  rw [List.length_append, List.map_append]
  exact h2

end Go.Proofs.Ytdpeidijaohgcaa

namespace Go.Proofs.Ytdpeidijaohgcaa
open Go.RowKit

theorem Num.ones_xor (s : Nat) (h : s < 2 ^ 64) : (18446744073709551615 : Nat) ^^^ s = 18446744073709551615 - s := by
  have h1 := congrArg BitVec.toNat (BitVec.allOnes_xor (x := BitVec.ofNat 64 s))
  rw [BitVec.toNat_xor, BitVec.toNat_not, BitVec.toNat_ofNat, BitVec.toNat_allOnes, Nat.mod_eq_of_lt h] at h1
  exact h1
theorem Num.zig_bits (d : Nat) (h : d < 18446744073709551616) : bits .xor .u64 (IntKind.u64.wrap ((d : Int) * 2)) (IntKind.u64.wrap (-((d : Int) / 9223372036854775808))) = ((Num.zig d : Nat) : Int) := by
  unfold Num.zig
  by_cases hd : 2 ^ 63 ≤ d
  · have e1 : IntKind.u64.wrap ((d : Int) * 2) = ((2 * d - 18446744073709551616 : Nat) : Int) := by rw [IntKind.wrap_u64]; omega
    have e2 : IntKind.u64.wrap (-((d : Int) / 9223372036854775808)) = ((18446744073709551615 : Nat) : Int) := by rw [IntKind.wrap_u64]; omega
    rw [if_pos hd, e1, e2, u64_xor_nat _ _ (by omega) (by decide), Nat.xor_comm, Num.ones_xor _ (by omega)]
    omega
  · have e1 : IntKind.u64.wrap ((d : Int) * 2) = ((2 * d : Nat) : Int) := by rw [IntKind.wrap_u64]; omega
    have e2 : IntKind.u64.wrap (-((d : Int) / 9223372036854775808)) = ((0 : Nat) : Int) := by rw [IntKind.wrap_u64]; omega
    rw [if_neg hd, e1, e2, u64_xor_nat _ _ (by omega) (by decide), Nat.xor_zero]
theorem Num.and1 (z : Nat) (h : z < 18446744073709551616) : bits .and .u64 (z : Int) 1 = ((z % 2 : Nat) : Int) := by
  rw [show (1 : Int) = ((1 : Nat) : Int) from rfl, u64_and_nat z 1 h (by omega), show 1 = 2 ^ 1 - 1 from rfl, Nat.and_two_pow_sub_one_eq_mod]
theorem Num.zag_bits (z : Nat) (h : z < 18446744073709551616) : bits .xor .u64 ((z : Int) / 2) (IntKind.u64.wrap (-(bits .and .u64 (z : Int) 1))) = ((Num.zag z : Nat) : Int) := by
  rw [Num.and1 z h]
  unfold Num.zag
  have e1 : (z : Int) / 2 = ((z / 2 : Nat) : Int) := by omega
  by_cases hd : z % 2 = 1
  · have e2 : IntKind.u64.wrap (-((z % 2 : Nat) : Int)) = ((18446744073709551615 : Nat) : Int) := by rw [IntKind.wrap_u64]; omega
    rw [if_pos hd, e1, e2, u64_xor_nat _ _ (by omega) (by decide), Nat.xor_comm, Num.ones_xor _ (by omega)]
  · have e2 : IntKind.u64.wrap (-((z % 2 : Nat) : Int)) = ((0 : Nat) : Int) := by rw [IntKind.wrap_u64]; omega
    rw [if_neg hd, e1, e2, u64_xor_nat _ _ (by omega) (by decide), Nat.xor_zero]

/-- A byte with 128 more. -/
theorem Num.or128 (z : Nat) : bits .or .u8 ((z : Int) % 256) 128 = ((128 + z % 128 : Nat) : Int) := by
  have e : (z : Int) % 256 = ((z % 256 : Nat) : Int) := by omega
  rw [e, show (128 : Int) = ((128 : Nat) : Int) from rfl, u8_or_nat _ _ (Nat.mod_lt _ (by decide)) (by decide)]
  have H : ∀ y, y < 256 → y ||| 128 = 128 + y % 128 := by decide +kernel
  rw [H _ (Nat.mod_lt z (by decide)), show z % 256 % 128 = z % 128 by omega]

set_option maxHeartbeats 1000000 in
set_option maxRecDepth 100000 in
theorem ownNum_any (x : Nat) (w : World) (hx : x < 18446744073709551616) : Calls Try.prog 24 #[.int .u64 x] w (MadeB w (Num.enc x)) := by
  go_enter Try.func24, Try.ntmps24
  go_wp2
  go_loopw [0, 3] (fun y v wr => ∃ (k z : Nat) (pre : List UInt8), y = .int .u64 (z : Int) ∧ z < 18446744073709551616 ∧ z < 128 ^ (10 - k) ∧ k ≤ 9 ∧ pre.length = k ∧ pre ++ Num.encF (10 - k) z = Num.enc x ∧ OwnB wr w.heap.size v pre ∧ Ext w wr) (fun y _ _ => (intOf y).toNat)
  case atStart => exact ⟨0, x, [], rfl, hx, Nat.lt_of_lt_of_le hx (by decide), by omega, rfl, rfl, OwnB.nil _ _, Ext.refl _⟩
  case round =>
    obtain ⟨k, z, pre, rfl, hz, hzk, hk, hlen, henc, hO, hE⟩ := hrel
    obtain ⟨f, hf⟩ : ∃ f, 10 - k = f + 1 := ⟨9 - k, by omega⟩
    rw [hf] at henc hzk
    have hfit : pre.length + 1 ≤ 140737488355328 := by omega
    by_cases hs : z < 128
    · rw [Num.encF_small hs] at henc
      have HE := hide henc
      obtain ⟨bt, rfl⟩ : ∃ bt : UInt8, z = bt.toNat := ⟨UInt8.ofNat z, by rw [Num.ofNat_low z (by omega)]⟩
      rw [UInt8.ofNat_toNat] at HE
      have hs' : ¬ (128 ≤ (bt.toNat : Int)) := by omega
      have hb1 := bytesNew wr [bt] #[.int .u8 (bt.toNat : Int)] 5 (0, 0) rfl 1 rfl
      have hO1 := hO.ext (extNew wr (.cells #[.int .u8 (bt.toNat : Int)] 5))
      have hE1 := hE.trans (extNew wr (.cells #[.int .u8 (bt.toNat : Int)] 5))
      have hB1 := hE1.le
      clear henc hlen hf
      go_wp2_with (at_builtin; refine wpList_appAt rfl (.tmp 14) (.tmp 17) rfl rfl hO1 rfl hb1 hfit hB1 ?_; intro v2 w2 hO2 hG2 hN2)
      go_ret
      exact ⟨v2, rfl, by rw [← HE.out]; exact hO2, hO1.below hE1 hG2 hB1⟩
    · rw [Num.encF_big hs] at henc
      have HE := hide henc
      have hk9 : k ≤ 8 := by
        rcases Nat.lt_or_ge k 9 with h | h
        · omega
        · obtain rfl : k = 9 := by omega
          obtain rfl : f = 0 := by omega
          simp at hzk
          omega
      have HF := hide (show 10 - (k + 1) = f by omega)
      have HZ := hide (show z / 128 < 128 ^ f by rw [Nat.pow_succ] at hzk; exact Nat.div_lt_of_lt_mul (by rw [Nat.mul_comm]; exact hzk))
      obtain ⟨bt, hbt⟩ : ∃ bt : UInt8, bt = UInt8.ofNat (128 + z % 128) := ⟨_, rfl⟩
      have hbn : bt.toNat = 128 + z % 128 := by rw [hbt]; exact Num.ofNat_low _ (by omega)
      rw [← hbt] at HE
      have hor := Num.or128 z
      rw [← hbn] at hor
      have hs' : 128 ≤ (z : Int) := by omega
      have hb1 := bytesNew wr [bt] #[.int .u8 (bt.toNat : Int)] 5 (0, 0) rfl 1 rfl
      have hO1 := hO.ext (extNew wr (.cells #[.int .u8 (bt.toNat : Int)] 5))
      have hE1 := hE.trans (extNew wr (.cells #[.int .u8 (bt.toNat : Int)] 5))
      have hB1 := hE1.le
      have HLen := hide hlen
      clear henc hlen hf hbt hbn hzk
      go_wp2_with (at_builtin; refine wpList_appAt rfl (.tmp 8) (.tmp 12) rfl rfl hO1 rfl hb1 hfit hB1 ?_; intro v2 w2 hO2 hG2 hN2)
      go_roundw
      case rel =>
        refine ⟨k + 1, z / 128, pre ++ [bt], ?_, by omega, by rw [HF.out]; exact HZ.out, by omega, by simp [HLen.out], by rw [HF.out, List.append_assoc]; exact HE.out, hO2, hO1.below hE1 hG2 hB1⟩
        rw [show ((z : Int) / 128) = ((z / 128 : Nat) : Int) by omega]
      case measure => simp [intOf]; omega

end Go.Proofs.Ytdpeidijaohgcaa

namespace Go.Proofs.Ytdpeidijaohgcaa
open Go.RowKit Num Ef

/-- Two rows of bytes that lie side by side in a new block. -/
theorem parts_two (w : World) {n1 n2 c1 c2 : Nat} {A1 A2 : Option Addr} {l1 l2 : List UInt8} (t : TypeId) (m1 : n1 ≤ maxLen) (m2 : n2 ≤ maxLen) (b1 : Bytes w w.heap.size A1 n1 l1) (b2 : Bytes w w.heap.size A2 n2 l2) :
    _root_.Go.Proofs.Ytdpeidijaohgcaa.Parts (w.alloc (.cells #[.slice A1 n1 c1, .slice A2 n2 c2] t)) (w.alloc (.cells #[.slice A1 n1 c1, .slice A2 n2 c2] t)).heap.size (some ⟨w.heap.size, 0, none⟩) 2 [l1, l2] := by
  have hE := extNew w (.cells #[.slice A1 n1 c1, .slice A2 n2 c2] t)
  have hW := Whole.new w t #[.slice A1 n1 c1, .slice A2 n2 c2]
  refine ⟨rfl, .inr ⟨w.heap.size, 0, rfl, by simp, fun i hi => ?_⟩⟩
  rcases (by omega : i = 0 ∨ i = 1) with rfl | rfl
  · exact ⟨A1, n1, c1, hW.at 0 rfl, m1, hE.bytes b1⟩
  · exact ⟨A2, n2, c2, hW.at 1 rfl, m2, hE.bytes b2⟩

theorem Ef.bitsE_len {k : Nat} {ids : List Int} {bound : Int} (hk : k ≤ 14) (hn : ids.length ≤ 20000) (hr : row bound ids = true) (hb : bound ≤ 20000) : (Bit.pack (bitsE k ids)).length ≤ 100000 := by
  have h1 : (lowTo k ids ids.length).length ≤ 280000 := by
    rw [lowTo_len]
    exact Nat.le_trans (Nat.mul_le_mul hn hk) (by omega)
  have h2 := highTo_len (w := k) hr ids.length (Nat.le_refl _)
  have h3 := was_le_20000 (k := k) hr hb (Nat.le_refl ids.length)
  have h4 := Bit.pack_len (bitsE k ids)
  unfold bitsE at h4 ⊢
  rw [List.length_append] at h4
  omega

set_option maxHeartbeats 2000000 in
set_option maxRecDepth 10000 in
theorem efWriteC_any (w : World) : EfWriteC w := by
  intro bound ids A n c w1 _ h64 hnc hcm hn h
  have hl := h.1
  subst hl
  have CM := fun W => efMay_any bound W
  by_cases hbd : 0 ≤ bound ∧ bound ≤ 20000
  case neg =>
    have HN := hide (show writeE bound ids = ([], 13) by unfold writeE; rw [if_neg (fun h => hbd h.1)])
    rw [decide_eq_false hbd] at CM
    rw [HN.out]
    clear h hbd h64 HN
    go_enter Try.func10, Try.ntmps10
    go_wp2_with fail
    refine (CM _).mono ?_
    rintro e w2 ⟨rfl, rfl⟩
    clear CM
    go_wp2
    go_ret2
    exact ⟨_, rfl, OwnB.nil _ _, Ext.refl _⟩
  rw [decide_eq_true hbd] at CM
  have CR := efIsRow_any A ids.length c ids bound w1 h (by omega)
  cases hr : row bound ids with
  | false =>
    have HN := hide (show writeE bound ids = ([], 13) by unfold writeE; rw [hr, if_neg (by simp)])
    rw [HN.out]
    rw [hr] at CR
    clear h hbd h64 HN hr
    go_enter Try.func10, Try.ntmps10
    go_wp2_with fail
    refine (CM _).mono ?_
    rintro e w2 ⟨rfl, rfl⟩
    clear CM
    go_wp2_with fail
    refine CR.mono ?_
    rintro e w2 ⟨rfl, rfl⟩
    clear CR
    go_wp2
    go_ret2
    exact ⟨_, rfl, OwnB.nil _ _, Ext.refl _⟩
  | true =>
    have HN := hide (show writeE bound ids = (rowB bound ids, 0) by unfold writeE; rw [if_pos ⟨hbd, hr⟩])
    rw [HN.out]
    rw [hr] at CR
    have HR := hide hr
    have HBd := hide hbd
    have HA := hide h
    obtain ⟨bd, rfl⟩ := Int.eq_ofNat_of_zero_le hbd.1
    have hb2 : bd ≤ 20000 := by have := hbd.2; omega
    have hk14 := widE_le (bound := (bd : Int)) (n := ids.length) (by omega)
    have HRow := hide (show rowB (bd : Int) ids = [Num.enc ids.length, Bit.pack (bitsE (widE (bd : Int) ids.length) ids)].flatten by
      unfold rowB
      by_cases hz : ids.length = 0
      · rw [if_pos hz]
        have : ids = [] := List.length_eq_zero_iff.1 hz
        subst this
        have h0 : Bit.pack [] = [] := List.length_eq_zero_iff.1 (by rw [Bit.pack_len]; rfl)
        simp [bitsE, lowTo, highTo, h0]
      · rw [if_neg hz]; simp)
    have HLen := hide (bitsE_len (k := widE (bd : Int) ids.length) hk14 hn hr (by omega))
    have hew := enc_len ids.length
    have C1 := ownNum_any ids.length w1 (by omega)
    have C2 := fun W (hE : Ext w1 W) => efParts_any A c ids bd W (HA.out.later hE) hb2 hn HR.out
    have hwl : IntKind.u64.wrap (ids.length : Int) = (ids.length : Int) := by rw [IntKind.wrap_u64]; omega
    rw [HRow.out]
    clear hbd h HN h64 HRow hr
    generalize widE (bd : Int) ids.length = k at *
    generalize hnn : ids.length = n at *
    have HNn := hide hnn
    clear hnn
    go_enter Try.func10, Try.ntmps10
    go_wp2_with fail
    refine (CM _).mono ?_
    rintro e w2 ⟨rfl, rfl⟩
    clear CM
    go_wp2_with fail
    refine CR.mono ?_
    rintro e w2 ⟨rfl, rfl⟩
    clear CR
    go_wp2_with fail
    refine C1.mono ?_
    rintro e w3 ⟨v3, rfl, hV3, hE3⟩
    clear C1
    go_wp2_with fail
    refine (C2 _ hE3).mono ?_
    rintro e w4 ⟨B1, d1, B2, d2, rfl, hPV, hE4⟩
    rw [HNn.out] at hPV ⊢
    have C3 := efBytes_any (c1 := d1) (c2 := d2) w4 (ids := ids) (k := k) (A1 := B1) (A2 := B2) (by rw [HNn.out]; exact hPV) (by rw [HNn.out]; exact hn) HR.out (by omega)
    rw [HNn.out] at C3
    have hV4 := hV3.ext hE4
    have hF4 := hE3.trans hE4
    clear C2 hPV hV3 hE3 hE4
    go_wp2_with fail
    refine C3.mono ?_
    rintro e w5 ⟨v5, rfl, hV5, hE5⟩
    obtain ⟨A3, c3, rfl, -, hm3, hb3⟩ := (hV4.ext hE5).form
    obtain ⟨A5, c5, rfl, -, hm5, hb5⟩ := hV5.form
    have hP6 := parts_two w5 (c1 := c3) (c2 := c5) 24 (by unfold maxLen; omega) (by unfold maxLen; have := HLen.out; omega) hb3 hb5
    have hE6 := extNew w5 (.cells #[.slice A3 (enc n).length c3, .slice A5 (Bit.pack (bitsE k ids)).length c5] 24)
    have C6 := all_any _ 2 [enc n, Bit.pack (bitsE k ids)] _ hP6 (by simp) (by simp; have := HLen.out; omega)
    have hF6 := hide ((hF4.trans hE5).trans hE6)
    generalize (Bit.pack (bitsE k ids)) = PK at *
    clear C3 hb3 hb5 hV4 hV5 hF4 hE5 hE6 hP6
    go_wp2_with fail
    refine C6.mono ?_
    rintro e w7 ⟨v7, rfl, hV7, hE7⟩
    clear C6
    go_wp2
    go_ret2
    exact ⟨_, rfl, hV7.mono hF6.out.le, hF6.out.trans hE7⟩
end Go.Proofs.Ytdpeidijaohgcaa

