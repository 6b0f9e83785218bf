/- The law MatMuls. -/
import Derived.Test.YtedkajpodepkiaaMatLaw
namespace Go.Proofs.Ytedkajpodepkiaa
open Go.RowKit

/-- A made matrix, put into a block of its own. -/
theorem Ext.put {w2 w5 : World} (hG : (w2.alloc (.cells #[.int .i64 0, .int .i64 0, .slice none 0 0] 24)).grownBy w5 (some w2.heap.size)) : Ext w2 w5 :=
  Below.grown (extNew w2 (.cells #[.int .i64 0, .int .i64 0, .slice none 0 0] 24)) hG (extNew w2 (.cells #[.int .i64 0, .int .i64 0, .slice none 0 0] 24)).le (fun k hk => by cases hk; exact Nat.le_refl _)

set_option maxHeartbeats 4000000 in
set_option maxRecDepth 100000 in
theorem matMuls_walk0 (a b : MV) (A1 A2 : Option Addr) (k1 k2 : Nat) (w : World) (hC : CauchyC w) (hM : MatMulC w) (ha : a.lies w A1 k1) (hb : b.lies w A2 k2) :
    Calls Try.prog 7 #[a.arg A1 k1, b.arg A2 k2] w fun e w' => e = .returned (.bool true) ∧ Below w.heap.size w w' := by
  have G1 := fun W h => great_any a A1 k1 W h
  have G2 := fun W h => great_any b A2 k2 W h
  have P := fun W hE h1 h2 => hM a b A1 A2 k1 k2 W hE h1 h2
  have R := fun W h1 h2 => refMul_E a b A1 A2 k1 k2 W h1 h2
  generalize (a.may && decide (400 < a.l.length)) = ga at *
  generalize (b.may && decide (400 < b.l.length)) = gb at *
  generalize (a.mulE b).1 = m at *
  generalize (a.mulE b).2 = er at *
  unfold MV.arg at *
  have hE0 := (extNew w (.cells #[.int .i64 a.r, .int .i64 a.c, .slice A1 a.l.length k1] 24))
  have hE1 := (extNew (w.alloc (.cells #[.int .i64 a.r, .int .i64 a.c, .slice A1 a.l.length k1] 24)) (.cells #[.int .i64 b.r, .int .i64 b.c, .slice A2 b.l.length k2] 24))
  have hWa := (Whole.new w 24 #[.int .i64 a.r, .int .i64 a.c, .slice A1 a.l.length k1]).ext hE1
  have hWb := Whole.new (w.alloc (.cells #[.int .i64 a.r, .int .i64 a.c, .slice A1 a.l.length k1] 24)) 24 #[.int .i64 b.r, .int .i64 b.c, .slice A2 b.l.length k2]
  have hE := hE0.trans hE1
  rw [World.size_alloc] at hWb
  clear hE0 hE1
  go_enter Try.func7, Try.ntmps7
  go_wp2_with fail
  refine (alive5_any hC hE).mono ?_
  rintro e w1 ⟨rfl, hE1⟩
  have k1' := hE.trans hE1
  have hWa1 := hWa.ext hE1
  have hWb1 := hWb.ext hE1
  go_wp2_with (refine wpList_load_row rfl 24 (.tmp 2) rfl _ rfl _ _ _ _ hWa1 Try.underlying24 rfl mat_info ?_)
  refine (G1 w1 (ha.ext k1')).mono ?_
  rintro e w2 ⟨rfl, hE2⟩
  have k2' := k1'.trans hE2
  have hWb2 := hWb1.ext hE2
  have hWa2 := hWa1.ext hE2
  cases ga
  case true =>
    go_wp2
    go_ret
    exact ⟨rfl, k2'⟩
  have d0 := hWb2.at 0 rfl
  have d1 := hWb2.at 1 rfl
  have d2 := hWb2.at 2 rfl
  go_wp2_with fail
  refine (G2 w2 (hb.ext k2')).mono ?_
  rintro e w3 ⟨rfl, hE3⟩
  have k3' := k2'.trans hE3
  have hWb3 := hWb2.ext hE3
  have hWa3 := hWa2.ext hE3
  cases gb
  case true =>
    go_wp2
    go_ret
    exact ⟨rfl, k3'⟩
  go_wp2_with (first
    | (refine wpList_load_row rfl 24 (.tmp 2) rfl _ rfl _ _ _ _ hWa3 Try.underlying24 rfl mat_info ?_)
    | (refine wpList_load_row rfl 24 (.tmp 3) rfl _ rfl _ _ _ _ hWb3 Try.underlying24 rfl mat_info ?_))
  refine (P w3 k3' (ha.ext k3') (hb.ext k3')).mono ?_
  rintro e w4 ⟨v, rfl, hO, hE4⟩
  obtain ⟨A, n, c, rfl, _, _, hB⟩ := hO.form'
  have hA := Whole.new w4 24 #[.int .i64 0, .int .i64 0, .slice none 0 0]
  have k4' := k3'.trans hE4
  have hWb4 := hWb3.ext hE4
  have hWa4 := hWa3.ext hE4
  dsimp only [matV]
  go_wp2_with (first
    | (refine wpList_storeW rfl 24 (.tmp 5) (.tmp 21) rfl rfl rfl hA rfl mat_info (mat_one rfl) ?_; intro w5 hW5 hG5 _; have hE5 := Ext.put hG5; have hWa5 := hWa4.ext hE5; have hWb5 := hWb4.ext hE5; have k5' := k4'.trans hE5)
    | (refine wpList_load_row rfl 24 (.tmp 2) rfl _ rfl _ _ _ _ hWa5 Try.underlying24 rfl mat_info ?_)
    | (refine wpList_load_row rfl 24 (.tmp 3) rfl _ rfl _ _ _ _ hWb5 Try.underlying24 rfl mat_info ?_))
  refine (R w5 (ha.ext k5') (hb.ext k5')).mono ?_
  rintro e w6 ⟨v, rfl, hO2, hE6⟩
  obtain ⟨A', n', c', rfl, _, _, hB'⟩ := hO2.form'
  have hA6 := Whole.new w6 24 #[.int .i64 0, .int .i64 0, .slice none 0 0]
  have hW6 := hW5.ext hE6
  have k6' := k5'.trans hE6
  dsimp only [matV]
  go_wp2_with (first
    | (refine wpList_storeW rfl 24 (.tmp 7) (.tmp 27) rfl rfl rfl hA6 rfl mat_info (mat_one rfl) ?_; intro w7 hW7 hG7 _; have hE7 := Ext.put hG7; have hW67 := hW6.ext hE7; have f0 := hW67.at 0 rfl; have f1 := hW67.at 1 rfl; have f2 := hW67.at 2 rfl; have g0 := hW7.at 0 rfl; have g1 := hW7.at 1 rfl; have g2 := hW7.at 2 rfl))
  refine (refSame_any m.r m.c m.r m.c A A' n n' c c' m.l m.l w7 (((hE5.trans hE6).trans hE7).bytes hB) (hE7.bytes hB')).mono ?_
  rintro e w8 ⟨rfl, hE8⟩
  go_wp2
  go_ret
  exact ⟨ret_bool (by simp), (k6'.trans hE7).trans hE8⟩
end Go.Proofs.Ytedkajpodepkiaa
