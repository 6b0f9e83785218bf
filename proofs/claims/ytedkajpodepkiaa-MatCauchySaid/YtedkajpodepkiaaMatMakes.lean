/- The law MatMakes. -/
import Derived.Test.YtedkajpodepkiaaMatMuls
import Derived.Test.YtedkajpodepkiaaMatIdE
namespace Go.Proofs.Ytedkajpodepkiaa
open Go.RowKit

/-- From world w on, the program's Identity tells what the document's tells. -/
def IdentityC (w : World) : Prop := ∀ (n : Int) (W : World), Ext w W → Calls Try.prog 17 #[.int .i64 n] W (MadeM W (identityE n).1 (identityE n).2)
set_option maxHeartbeats 4000000 in
set_option maxRecDepth 100000 in
theorem matMakes_walk0 (n k m : Int) (w : World) (hC : CauchyC w) (hI : IdentityC w) :
    Calls Try.prog 4 #[.int .i64 n, .int .i64 k, .int .i64 m] w fun e w' => e = .returned (.bool true) ∧ Below w.heap.size w w' := by
  have P := fun W hE => hI n W hE
  have R := fun W => refIdentity_E n W
  have P2 := fun W hE => hC k m W hE
  have R2 := fun W => refCauchy_E k m W
  generalize (identityE n).1 = x at *
  generalize (identityE n).2 = er at *
  generalize (cauchyE k m).1 = y at *
  generalize (cauchyE k m).2 = es at *
  go_enter Try.func4, Try.ntmps4
  go_wp2_with fail
  refine (alive5_any hC (Ext.refl w)).mono ?_
  rintro e w1 ⟨rfl, hE1⟩
  go_wp2_with fail
  refine (P w1 hE1).mono ?_
  rintro e w2 ⟨v, rfl, hO, hE2⟩
  obtain ⟨A, l1, c, rfl, _, _, hB⟩ := hO.form'
  have hA := Whole.new w2 24 #[.int .i64 0, .int .i64 0, .slice none 0 0]
  have k2' := hE1.trans hE2
  dsimp only [matV]
  go_wp2_with (refine wpList_storeW rfl 24 (.tmp 7) (.tmp 20) rfl rfl rfl hA rfl mat_info (mat_one rfl) ?_; intro w3 hW3 hG3 _; have hE3 := Ext.put hG3)
  refine (R w3).mono ?_
  rintro e w4 ⟨v, rfl, hO2, hE4⟩
  obtain ⟨A', l2, c', rfl, _, _, hB'⟩ := hO2.form'
  have hA4 := Whole.new w4 24 #[.int .i64 0, .int .i64 0, .slice none 0 0]
  have hW4 := hW3.ext hE4
  dsimp only [matV]
  go_wp2_with (refine wpList_storeW rfl 24 (.tmp 9) (.tmp 25) rfl rfl rfl hA4 rfl mat_info (mat_one rfl) ?_; intro w5 hW5 hG5 _; have hE5 := Ext.put hG5; have hW45 := hW4.ext hE5; have f0 := hW45.at 0 rfl; have f1 := hW45.at 1 rfl; have f2 := hW45.at 2 rfl; have g0 := hW5.at 0 rfl; have g1 := hW5.at 1 rfl; have g2 := hW5.at 2 rfl)
  have C := refSame_any x.r x.c x.r x.c A A' l1 l2 c c' x.l x.l w5 (((hE3.trans hE4).trans hE5).bytes hB) (hE5.bytes hB')
  simp only [and_self, decide_true] at C
  refine C.mono ?_
  rintro e w6 ⟨rfl, hE6⟩
  have k6 := (((k2'.trans hE3).trans hE4).trans hE5).trans hE6
  clear hB hB' hO hO2 hA hA4 hW3 hW4 hW5 hW45 C f0 f1 f2 g0 g1 g2 hE1 hE2 hE3 hE4 hE5 hE6 k2' hG3 hG5 P R hI
  have hmul : 0 < k → 0 < m → k ≤ 255 → m ≤ 255 → IntKind.i64.wrap (k * m) = k * m := by
    intro h1 h2 h3 h4
    have p1 : k * m ≤ 255 * 255 := Int.mul_le_mul h3 h4 (by omega) (by decide)
    have p2 : 0 ≤ k * m := Int.mul_nonneg (by omega) (by omega)
    rw [IntKind.wrap_i64]
    omega
  go_wp2_with fail
  · go_ret
    exact ⟨rfl, k6⟩
  all_goals refine (P2 w6 k6).mono ?_
  all_goals rintro e w7 ⟨v, rfl, hO, hE7⟩
  all_goals obtain ⟨A3, l3, c3, rfl, _, _, hB⟩ := hO.form'
  all_goals have hA := Whole.new w7 24 #[.int .i64 0, .int .i64 0, .slice none 0 0]
  all_goals have k7 := k6.trans hE7
  all_goals dsimp only [matV]
  all_goals go_wp2_with (refine wpList_storeW rfl 24 (.tmp 11) (.tmp 66) rfl rfl rfl hA rfl mat_info (mat_one rfl) ?_; intro w8 hW8 hG8 _; have hE8 := Ext.put hG8)
  all_goals refine (R2 w8).mono ?_
  all_goals rintro e w9 ⟨v, rfl, hO2, hE9⟩
  all_goals obtain ⟨A4, l4, c4, rfl, _, _, hB'⟩ := hO2.form'
  all_goals have hA9 := Whole.new w9 24 #[.int .i64 0, .int .i64 0, .slice none 0 0]
  all_goals have hW9 := hW8.ext hE9
  all_goals dsimp only [matV]
  all_goals go_wp2_with (refine wpList_storeW rfl 24 (.tmp 13) (.tmp 72) rfl rfl rfl hA9 rfl mat_info (mat_one rfl) ?_; intro w10 hW10 hG10 _; have hE10 := Ext.put hG10; have hW910 := hW9.ext hE10; have f0 := hW910.at 0 rfl; have f1 := hW910.at 1 rfl; have f2 := hW910.at 2 rfl; have g0 := hW10.at 0 rfl; have g1 := hW10.at 1 rfl; have g2 := hW10.at 2 rfl)
  all_goals refine (refSame_any y.r y.c y.r y.c A3 A4 l3 l4 c3 c4 y.l y.l w10 (((hE8.trans hE9).trans hE10).bytes hB) (hE10.bytes hB')).mono ?_
  all_goals rintro e w11 ⟨rfl, hE11⟩
  all_goals go_wp2
  all_goals go_ret
  all_goals exact ⟨ret_bool (by simp), (((k7.trans hE8).trans hE9).trans hE10).trans hE11⟩
end Go.Proofs.Ytedkajpodepkiaa
