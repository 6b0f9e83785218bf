/- The law MatInverts; the document's Inverse by its contract (not yet proved of the document's code). -/
import Derived.Test.YtedkajpodepkiaaMatTurns
import Derived.Test.YtedkajpodepkiaaMatInvR
import Derived.Test.YtedkajpodepkiaaMatMakes
namespace Go.Proofs.Ytedkajpodepkiaa
open Go.RowKit

theorem MV.invE_both {m : MV} (h : m.invE.2 = 0) : m.mulE m.invE.1 = ((identityE m.r).1, 0) ∧ m.invE.1.mulE m = ((identityE m.r).1, 0) ∧ m.invE.1.l.length ≤ maxLen := by
  obtain ⟨n, X, hn, a1, a2, a3, hX, a4⟩ := MV.invE_ok h
  have hx := square_may X hn
  rw [a4, a1, identity_nat hn]
  refine ⟨?_, ?_, MV.may_len hx⟩
  · unfold MV.mulE
    rw [if_pos ⟨a3, hx, a2⟩]
    simp only [MV.mulR, a1, a2, Int.toNat_natCast]
    rw [square_congr (n := n) fun i j hi hj => (Mat.mm_congr (fun k hk => rfl) (fun k hk => at_cells (f := X) hk hj)).trans (hX.1 i j hi hj)]
  · unfold MV.mulE
    rw [if_pos ⟨hx, a3, a1.symm⟩]
    simp only [MV.mulR, a2, Int.toNat_natCast]
    rw [square_congr (n := n) fun i j hi hj => (Mat.mm_congr (fun k hk => at_cells (f := X) hi hk) (fun k hk => rfl)).trans (hX.2 i j hi hj)]
theorem MV.invE_err (m : MV) : m.invE.2 = 0 ∨ m.invE.2 = 13 ∨ m.invE.2 = 14 := by
  unfold MV.invE
  by_cases hc : m.may = true ∧ m.r = m.c
  · rw [if_pos hc]
    by_cases he : ∃ X, Mat.Inv m.r.toNat m.at X
    · rw [dif_pos he]; exact .inl rfl
    · rw [dif_neg he]; exact .inr (.inr rfl)
  · rw [if_neg hc]; exact .inr (.inl rfl)

set_option maxHeartbeats 4000000 in
set_option maxRecDepth 100000 in
theorem matInverts_walk0 (a : MV) (A1 : Option Addr) (k1 : Nat) (w : World) (hC : CauchyC w) (hM : MatMulC w) (hI : InverseC w) (hD : IdentityC w) (hR : RefInverseC) (ha : a.lies w A1 k1) :
    Calls Try.prog 9 #[a.arg A1 k1] w fun e w' => e = .returned (.bool true) ∧ Below w.heap.size w w' := by
  have G1 := fun W h => great_any a A1 k1 W h
  have I1 := fun W hE h => hI a A1 k1 W hE h
  have I2 := fun W h => hR a A1 k1 W h
  have I3 := fun W hE => hD a.r W hE
  have HT := hide (fun h => @MV.invE_both a h)
  have hee := MV.invE_err a
  have Q1 := fun W A k hE h1 h2 => hM a a.invE.1 A1 A k1 k W hE h1 h2
  have Q2 := fun W A k hE h1 h2 => hM a.invE.1 a A A1 k k1 W hE h1 h2
  generalize (a.may && decide (400 < a.l.length)) = ga at *
  generalize (identityE a.r).1 = id at *
  generalize (identityE a.r).2 = ed at *
  generalize a.invE.1 = x at *
  generalize a.invE.2 = ea at *
  have hae : a.arg A1 k1 = .agg #[.int .i64 a.r, .int .i64 a.c, .slice A1 a.l.length k1] := rfl
  rw [hae] at G1 I1 I2 Q1 Q2 ⊢
  clear hae hM hI hD hR
  have hE := (extNew w (.cells #[.int .i64 a.r, .int .i64 a.c, .slice A1 a.l.length k1] 24))
  have hWa := (Whole.new w 24 #[.int .i64 a.r, .int .i64 a.c, .slice A1 a.l.length k1])
  go_enter Try.func9, Try.ntmps9
  go_wp2_with fail
  refine (alive5_any hC hE).mono ?_
  rintro e w1 ⟨rfl, hE1⟩
  have k1' := hE.trans hE1
  have hWa1 := hWa.ext hE1
  go_wp2_with (refine wpList_load_row rfl 24 (.tmp 1) rfl _ rfl _ _ _ _ hWa1 Try.underlying24 rfl mat_info ?_)
  refine (G1 w1 (ha.ext k1')).mono ?_
  rintro e w2 ⟨rfl, hE2⟩
  have k2' := k1'.trans hE2
  have hWa2 := hWa1.ext hE2
  cases ga
  case true =>
    go_wp2
    go_ret
    exact ⟨rfl, k2'⟩
  go_wp2_with (refine wpList_load_row rfl 24 (.tmp 1) rfl _ rfl _ _ _ _ hWa2 Try.underlying24 rfl mat_info ?_)
  refine (I1 w2 k2' (ha.ext k2')).mono ?_
  rintro e w4 ⟨v, rfl, hO, hE4⟩
  obtain ⟨A, n, c, rfl, hcc1, _, hB⟩ := hO.form'
  have hA := Whole.new w4 24 #[.int .i64 0, .int .i64 0, .slice none 0 0]
  have k4' := k2'.trans hE4
  have hWa4 := hWa2.ext hE4
  dsimp only [matV]
  go_wp2_with (first
    | (refine wpList_storeW rfl 24 (.tmp 3) (.tmp 20) rfl rfl rfl hA rfl mat_info (mat_one rfl) ?_; intro w5 hW5 hG5 _; have hE5 := Ext.put hG5; have hWa5 := hWa4.ext hE5; have k5' := k4'.trans hE5)
    | (refine wpList_load_row rfl 24 (.tmp 1) rfl _ rfl _ _ _ _ hWa5 Try.underlying24 rfl mat_info ?_))
  refine (I2 w5 (ha.ext k5')).mono ?_
  rintro e w6 ⟨v, rfl, hO2, hE6⟩
  obtain ⟨A', n', c', rfl, _, _, hB'⟩ := hO2.form'
  have hA6 := Whole.new w6 24 #[.int .i64 0, .int .i64 0, .slice none 0 0]
  have hW6 := hW5.ext hE6
  have hWa6 := hWa5.ext hE6
  have k6' := k5'.trans hE6
  have hB6 := (hE5.trans hE6).bytes hB
  dsimp only [matV]
  clear hWa hWa1 hWa2 hWa4 hWa5 hA hO hG5 G1 I1 I2
  go_wp2_with (refine wpList_storeW rfl 24 (.tmp 5) (.tmp 25) rfl rfl rfl hA6 rfl mat_info (mat_one rfl) ?_; intro w7 hW7 hG7 _; have hE7 := Ext.put hG7; have hWa7 := hWa6.ext hE7; have hW67 := hW6.ext hE7; have f0 := hW67.at 0 rfl; have f1 := hW67.at 1 rfl; have f2 := hW67.at 2 rfl; have g0 := hW7.at 0 rfl; have g1 := hW7.at 1 rfl; have g2 := hW7.at 2 rfl)
  have k7' := k6'.trans hE7
  have C := refSame_any x.r x.c x.r x.c A A' n n' c c' x.l x.l w7 (hE7.bytes hB6) (hE7.bytes hB')
  simp only [and_self, decide_true] at C
  refine C.mono ?_
  rintro e w8 ⟨rfl, hE8⟩
  have k8' := k7'.trans hE8
  have hW68 := hW67.ext hE8
  have hWa8 := hWa7.ext hE8
  have hB8 := (hE7.trans hE8).bytes hB6
  have r0 := hWa8.at 0 rfl
  clear C f0 f1 f2 g0 g1 g2 hW7 hW67 hW6 hA6 hO2 hG7 hB hB' hB6
  rcases hee with rfl | rfl | rfl
  case inr.inl =>
    go_wp2
    go_ret
    exact ⟨rfl, k8'⟩
  case inr.inr =>
    go_wp2
    go_ret
    exact ⟨rfl, k8'⟩
  obtain ⟨t1, t2, t3⟩ := HT.out rfl
  have hn := hB8.1
  subst hn
  go_wp2_with fail
  refine (I3 w8 k8').mono ?_
  rintro e w9 ⟨v, rfl, hO9, hE9⟩
  obtain ⟨A9, n9, c9, rfl, _, _, hB9⟩ := hO9.form'
  have hA9 := Whole.new w9 24 #[.int .i64 0, .int .i64 0, .slice none 0 0]
  have k9' := k8'.trans hE9
  have hW69 := hW68.ext hE9
  have hWa9 := hWa8.ext hE9
  dsimp only [matV]
  clear r0
  go_wp2_with (first
    | (refine wpList_storeW rfl 24 (.tmp 7) (.tmp 48) rfl rfl rfl hA9 rfl mat_info (mat_one rfl) ?_; intro w10 hW10 hG10 _; have hE10 := Ext.put hG10; have hWa10 := hWa9.ext hE10; have hW610 := hW69.ext hE10; have k10' := k9'.trans hE10)
    | (refine wpList_load_row rfl 24 (.tmp 1) rfl _ rfl _ _ _ _ hWa10 Try.underlying24 rfl mat_info ?_)
    | (refine wpList_load_row rfl 24 (.tmp 3) rfl _ rfl _ _ _ _ hW610 Try.underlying24 rfl mat_info ?_))
  have hB10 := (hE9.trans hE10).bytes hB8
  have D1 := Q1 w10 A c k10' (ha.ext k10') ⟨hB10, t3, hcc1⟩
  rw [t1] at D1
  refine D1.mono ?_
  rintro e w11 ⟨v, rfl, hO11, hE11⟩
  obtain ⟨A11, n11, c11, rfl, _, _, hB11⟩ := hO11.form'
  have hA11 := Whole.new w11 24 #[.int .i64 0, .int .i64 0, .slice none 0 0]
  have k11' := k10'.trans hE11
  have hW611 := hW610.ext hE11
  have hWa11 := hWa10.ext hE11
  have hW711 := hW10.ext hE11
  dsimp only [matV]
  clear D1 hWa10 hW610 hWa9 hW69
  go_wp2_with (first
    | (refine wpList_storeW rfl 24 (.tmp 9) (.tmp 54) rfl rfl rfl hA11 rfl mat_info (mat_one rfl) ?_; intro w12 hW12 hG12 _; have hE12 := Ext.put hG12; have hWa12 := hWa11.ext hE12; have hW612 := hW611.ext hE12; have k12' := k11'.trans hE12)
    | (refine wpList_load_row rfl 24 (.tmp 3) rfl _ rfl _ _ _ _ hW612 Try.underlying24 rfl mat_info ?_)
    | (refine wpList_load_row rfl 24 (.tmp 1) rfl _ rfl _ _ _ _ hWa12 Try.underlying24 rfl mat_info ?_))
  have hB12 := (hE11.trans hE12).bytes hB10
  have D2 := Q2 w12 A c k12' ⟨hB12, t3, hcc1⟩ (ha.ext k12')
  rw [t2] at D2
  refine D2.mono ?_
  rintro e w13 ⟨v, rfl, hO13, hE13⟩
  obtain ⟨A13, n13, c13, rfl, _, _, hB13⟩ := hO13.form'
  have hA13 := Whole.new w13 24 #[.int .i64 0, .int .i64 0, .slice none 0 0]
  have k13' := k12'.trans hE13
  have hW713 := (hW711.ext hE12).ext hE13
  have hW913 := hW12.ext hE13
  dsimp only [matV]
  clear D2 hWa12 hW612 hWa11 hW611 hW711
  go_wp2_with (first
    | (refine wpList_storeW rfl 24 (.tmp 11) (.tmp 60) rfl rfl rfl hA13 rfl mat_info (mat_one rfl) ?_; intro w14 hW14 hG14 _; have hE14 := Ext.put hG14; have hW714 := hW713.ext hE14; have hW914 := hW913.ext hE14; have k14' := k13'.trans hE14)
    | (refine wpList_load_row rfl 24 (.tmp 9) rfl _ rfl _ _ _ _ hW914 Try.underlying24 rfl mat_info ?_)
    | (refine wpList_load_row rfl 24 (.tmp 7) rfl _ rfl _ _ _ _ hW714 Try.underlying24 rfl mat_info ?_))
  have hX9 := ((((hE10.trans hE11).trans hE12).trans hE13).trans hE14).bytes hB9
  have S1 := refSame_any id.r id.c id.r id.c A11 A9 n11 n9 c11 c9 id.l id.l w14 (((hE12.trans hE13).trans hE14).bytes hB11) hX9
  simp only [and_self, decide_true] at S1
  refine S1.mono ?_
  rintro e w15 ⟨rfl, hE15⟩
  have hW715 := hW714.ext hE15
  have hW1115 := hW14.ext hE15
  have f0 := hW715.at 0 rfl
  have f1 := hW715.at 1 rfl
  have f2 := hW715.at 2 rfl
  have g0 := hW1115.at 0 rfl
  have g1 := hW1115.at 1 rfl
  have g2 := hW1115.at 2 rfl
  clear S1 hW714 hW914 hW713 hW913
  go_wp2_with fail
  refine (refSame_any id.r id.c id.r id.c A13 A9 n13 n9 c13 c9 id.l id.l w15 ((hE14.trans hE15).bytes hB13) (hE15.bytes hX9)).mono ?_
  rintro e w16 ⟨rfl, hE16⟩
  go_wp2
  go_ret
  exact ⟨ret_bool (by simp), (k14'.trans hE15).trans hE16⟩
end Go.Proofs.Ytedkajpodepkiaa
