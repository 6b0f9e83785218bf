/- The law MatPicks. -/
import Derived.Test.YtedkajpodepkiaaMatMuls
namespace Go.Proofs.Ytedkajpodepkiaa
open Go.RowKit

theorem IntsAt.ext {w w' : World} {A : Option Addr} {n : Nat} {L : List Int} (h : IntsAt w w.heap.size A n L) (hE : Ext w w') : IntsAt w' w'.heap.size A n L := by
  obtain ⟨h1, h2⟩ := h.below hE (Nat.le_refl _)
  exact ⟨h1, h2.imp_right fun ⟨b, off, e, hb, hc⟩ => ⟨b, off, e, Nat.lt_of_lt_of_le hb hE.le, hc⟩⟩
/-- From world w on, the program's Pick tells what the document's tells. -/
def PickC (w : World) : Prop := ∀ (m : MV) (L : List Int) (A1 A2 : Option Addr) (k1 k2 : Nat) (W : World), Ext w W → m.lies W A1 k1 → IntsAt W W.heap.size A2 L.length L → L.length ≤ 140737488355328 → L.length ≤ k2 → Calls Try.prog 25 #[m.arg A1 k1, .slice A2 L.length k2] W (MadeM W (m.pickE L).1 (m.pickE L).2)

set_option maxHeartbeats 4000000 in
set_option maxRecDepth 100000 in
theorem matPicks_walk0 (a : MV) (L : List Int) (A1 A2 : Option Addr) (k1 k2 : Nat) (w : World) (hC : CauchyC w) (hM : PickC w) (ha : a.lies w A1 k1) (hb : IntsAt w w.heap.size A2 L.length L) (hl2 : L.length ≤ k2) :
    Calls Try.prog 6 #[a.arg A1 k1, .slice A2 L.length k2] w fun e w' => e = .returned (.bool true) ∧ Below w.heap.size w w' := by
  have G1 := fun W h => great_any a A1 k1 W h
  have P := fun W hE h1 h2 hl => hM a L A1 A2 k1 k2 W hE h1 h2 hl hl2
  have R := fun (W : World) (h1 : a.lies W A1 k1) h2 hl => refPick_any a L A1 A2 k1 k2 W h1.1 h2 h1.2.1 hl
  generalize (a.may && decide (400 < a.l.length)) = ga at *
  generalize (a.pickE L).1 = m at *
  generalize (a.pickE L).2 = er at *
  unfold MV.arg at *
  have hE := (extNew w (.cells #[.int .i64 a.r, .int .i64 a.c, .slice A1 a.l.length k1] 24))
  have hWa := Whole.new w 24 #[.int .i64 a.r, .int .i64 a.c, .slice A1 a.l.length k1]
  go_enter Try.func6, Try.ntmps6
  go_wp2_with fail
  refine (alive5_any hC hE).mono ?_
  rintro e w1 ⟨rfl, hE1⟩
  have k1' := hE.trans hE1
  have hWa1 := hWa.ext hE1
  go_wp2_with (refine wpList_load_row rfl 24 (.tmp 2) rfl _ rfl _ _ _ _ hWa1 Try.underlying24 rfl mat_info ?_)
  refine (G1 w1 (ha.ext k1')).mono ?_
  rintro e w2 ⟨rfl, hE2⟩
  have k2' := k1'.trans hE2
  have hWa2 := hWa1.ext hE2
  cases ga
  case true =>
    go_wp2
    go_ret
    exact ⟨rfl, k2'⟩
  by_cases hg : (300 : Int) < (L.length : Int)
  · go_wp2
    go_ret
    exact ⟨rfl, k2'⟩
  go_wp2_with (refine wpList_load_row rfl 24 (.tmp 2) rfl _ rfl _ _ _ _ hWa2 Try.underlying24 rfl mat_info ?_)
  refine (P w2 k2' (ha.ext k2') (hb.ext k2') (by omega)).mono ?_
  rintro e w4 ⟨v, rfl, hO, hE4⟩
  obtain ⟨A, n, c, rfl, _, _, hB⟩ := hO.form'
  have hA := Whole.new w4 24 #[.int .i64 0, .int .i64 0, .slice none 0 0]
  have k4' := k2'.trans hE4
  have hWa4 := hWa2.ext hE4
  dsimp only [matV]
  go_wp2_with (first
    | (refine wpList_storeW rfl 24 (.tmp 5) (.tmp 22) rfl rfl rfl hA rfl mat_info (mat_one rfl) ?_; intro w5 hW5 hG5 _; have hE5 := Ext.put hG5; have hWa5 := hWa4.ext hE5; have k5' := k4'.trans hE5)
    | (refine wpList_load_row rfl 24 (.tmp 2) rfl _ rfl _ _ _ _ hWa5 Try.underlying24 rfl mat_info ?_))
  refine (R w5 (ha.ext k5') (hb.ext k5') (by omega)).mono ?_
  rintro e w6 ⟨v, rfl, hO2, hE6⟩
  obtain ⟨A', n', c', rfl, _, _, hB'⟩ := hO2.form'
  have hA6 := Whole.new w6 24 #[.int .i64 0, .int .i64 0, .slice none 0 0]
  have hW6 := hW5.ext hE6
  have k6' := k5'.trans hE6
  dsimp only [matV]
  go_wp2_with (refine wpList_storeW rfl 24 (.tmp 7) (.tmp 28) rfl rfl rfl hA6 rfl mat_info (mat_one rfl) ?_; intro w7 hW7 hG7 _; have hE7 := Ext.put hG7; have hW67 := hW6.ext hE7; have f0 := hW67.at 0 rfl; have f1 := hW67.at 1 rfl; have f2 := hW67.at 2 rfl; have g0 := hW7.at 0 rfl; have g1 := hW7.at 1 rfl; have g2 := hW7.at 2 rfl)
  refine (refSame_any m.r m.c m.r m.c A A' n n' c c' m.l m.l w7 (((hE5.trans hE6).trans hE7).bytes hB) (hE7.bytes hB')).mono ?_
  rintro e w8 ⟨rfl, hE8⟩
  go_wp2
  go_ret
  exact ⟨ret_bool (by simp), (k6'.trans hE7).trans hE8⟩
end Go.Proofs.Ytedkajpodepkiaa
