/- Default of chapter 19: the program's and the document's. -/
import Derived.Test.YtlhncfjeleibmaaOptGrow
namespace Go.Proofs.Ytlhncfjeleibmaa
open Go.RowKit Opt

namespace Opt
def d1 : OptV := ⟨1024, false, 0, 0, 0, 0⟩
def d2 : OptV := ⟨1024, false, 16, 0, 0, 0⟩
def d3 : OptV := ⟨1024, false, 16, 4, 2, 64⟩
def dAt (v : Int) : OptV := if v = 1 then d1 else if v = 2 then d2 else d3
/-- What Default tells. -/
def dflt (v : Int) : OptV × Int := if 1 ≤ v ∧ v ≤ 3 then (dAt v, 0) else (⟨0, false, 0, 0, 0, 0⟩, 4)
theorem grow_1 : grow 1 d1 = (d2, 0) := by
  rw [grow_eq, if_pos (by decide +kernel), if_pos rfl]
  rfl
theorem grow_2 : grow 2 d2 = (d3, 0) := by
  rw [grow_eq, if_pos (by decide +kernel), if_neg (by decide), if_pos rfl]
  rfl
end Opt
def dC (a : Int) : Array Value := optC (dAt a).block (dAt a).plain (dAt a).bucket (dAt a).data (dAt a).parity (dAt a).chunk

set_option maxHeartbeats 4000000 in
set_option maxRecDepth 100000 in
theorem refDef_any (v : Int) (w : World) : Calls Try.prog 14 #[.int .i64 v] w (GrowTo w (dflt v)) := by
  unfold GrowTo
  have hE1 := extNew w (.cells #[.int .i64 0, .bool false, .int .i64 0, .int .i64 0, .int .i64 0, .int .i64 0] 23)
  have hP1 := Whole.new w 23 #[.int .i64 0, .bool false, .int .i64 0, .int .i64 0, .int .i64 0, .int .i64 0]
  by_cases h1 : v = 1
  · subst h1
    go_enter Try.func14, Try.ntmps14
    go_wp2_with (refine wpList_storeW rfl 23 (.tmp 2) (.tmp 6) rfl rfl rfl hP1 rfl opt_info (opt_one ..) ?_; intro w5 hW5 hG5 _)
    refine bodyPost_ret (results_row2 rfl _ rfl rfl (run_loadVar_row _ _ _ _ _ _ _ hW5 Try.underlying23 rfl opt_info)) rfl ?_
    exact ⟨rfl, Below.grown hE1 hG5 hE1.le (fun k hk => by cases hk; omega)⟩
  by_cases h2 : v = 2
  · subst h2
    clear h1
    go_enter Try.func14, Try.ntmps14
    go_wp2_with (refine wpList_storeW rfl 23 (.tmp 2) (.tmp 9) rfl rfl rfl hP1 rfl opt_info (opt_one ..) ?_; intro w5 hW5 hG5 _)
    refine bodyPost_ret (results_row2 rfl _ rfl rfl (run_loadVar_row _ _ _ _ _ _ _ hW5 Try.underlying23 rfl opt_info)) rfl ?_
    exact ⟨rfl, Below.grown hE1 hG5 hE1.le (fun k hk => by cases hk; omega)⟩
  by_cases h3 : v = 3
  · subst h3
    clear h1 h2
    go_enter Try.func14, Try.ntmps14
    go_wp2_with (refine wpList_storeW rfl 23 (.tmp 2) (.tmp 12) rfl rfl rfl hP1 rfl opt_info (opt_one ..) ?_; intro w5 hW5 hG5 _)
    refine bodyPost_ret (results_row2 rfl _ rfl rfl (run_loadVar_row _ _ _ _ _ _ _ hW5 Try.underlying23 rfl opt_info)) rfl ?_
    exact ⟨rfl, Below.grown hE1 hG5 hE1.le (fun k hk => by cases hk; omega)⟩
  have HN := hide (show dflt v = (⟨0, false, 0, 0, 0, 0⟩, 4) from if_neg (by omega))
  generalize dflt v = res at *
  have b1 : (v == 1) = false := by rw [beq_eq_false_iff_ne]; exact h1
  have b2 : (v == 2) = false := by rw [beq_eq_false_iff_ne]; exact h2
  have b3 : (v == 3) = false := by rw [beq_eq_false_iff_ne]; exact h3
  go_enter Try.func14, Try.ntmps14
  go_wp2_with (refine wpList_storeW rfl 23 (.tmp 2) (.tmp 13) rfl rfl rfl hP1 rfl opt_info (opt_one ..) ?_; intro w5 hW5 hG5 _)
  refine bodyPost_ret (results_row2 rfl _ rfl rfl (run_loadVar_row _ _ _ _ _ _ _ hW5 Try.underlying23 rfl opt_info)) rfl ?_
  rw [HN.out]
  exact ⟨rfl, Below.grown hE1 hG5 hE1.le (fun k hk => by cases hk; omega)⟩

set_option maxHeartbeats 4000000 in
set_option maxRecDepth 100000 in
theorem pDef_any (v : Int) (w : World) : Calls Try.prog 13 #[.int .i64 v] w (GrowTo w (dflt v)) := by
  unfold GrowTo
  have hE1 := extNew w (.cells #[.int .i64 0, .bool false, .int .i64 0, .int .i64 0, .int .i64 0, .int .i64 0] 23)
  have hP1 := Whole.new w 23 #[.int .i64 0, .bool false, .int .i64 0, .int .i64 0, .int .i64 0, .int .i64 0]
  have FT := fun W => pThere_any v W
  by_cases hv : 1 ≤ v ∧ v ≤ 3
  · have HN := hide (show dflt v = (dAt v, 0) from if_pos hv)
    generalize dflt v = res at *
    rw [decide_eq_true hv] at FT
    have G1 := fun W => pGrow_any 1 d1 (by decide) W
    have G2 := fun W => pGrow_any 2 d2 (by decide) W
    rw [grow_1] at G1
    rw [grow_2] at G2
    unfold GrowTo at G1 G2
    unfold d1 d2 optV optC at G1
    unfold d2 d3 optV optC at G2
    dsimp only at G1 G2
    obtain ⟨hv1, hv3⟩ := hv
    go_enter Try.func13, Try.ntmps13
    go_wp2_with fail
    refine (FT _).mono ?_
    rintro e w2 ⟨rfl, hE2⟩
    have hP2 := hP1.ext hE2
    have hE := hE1.trans hE2
    have hg2 := hP2.lt
    have hP3 := hP2.alloc (.cells #[.int .i64 0, .bool false, .int .i64 0, .int .i64 0, .int .i64 0, .int .i64 0] 23)
    have hQ3 := Whole.new w2 23 #[.int .i64 0, .bool false, .int .i64 0, .int .i64 0, .int .i64 0, .int .i64 0]
    have hE3 := hE.alloc (.cells #[.int .i64 0, .bool false, .int .i64 0, .int .i64 0, .int .i64 0, .int .i64 0] 23)
    clear FT hE1 hP1 hE2
    go_wp2_with (refine wpList_storeW rfl 23 (.tmp 4) (.tmp 11) rfl rfl rfl hQ3 rfl opt_info (opt_one ..) ?_; intro w4 hQ4 hG4 _)
    have hP4 := hP3.grown hG4 (by omega)
    have hE4 : Ext w w4 := Below.grown hE3 hG4 hE3.le (fun k hk => by cases hk; omega)
    clear hP2 hE hP3 hQ3 hE3 hG4
    go_wp2
    go_loopw [6, 5] (fun x y wr => ∃ a : Int, 1 ≤ a ∧ a ≤ v ∧ x = .int .i64 a ∧ y = .int .i64 0 ∧ Whole wr w.heap.size 23 #[.int .i64 0, .bool false, .int .i64 0, .int .i64 0, .int .i64 0, .int .i64 0] ∧ Whole wr w2.heap.size 23 (dC a) ∧ Ext w wr) (fun x _ _ => (v - intOf x).toNat)
    case atStart => exact ⟨1, by omega, hv1, rfl, rfl, hP4, hQ4, hE4⟩
    case round =>
      clear hP4 hQ4 hE4
      obtain ⟨a, ha1, hav, rfl, rfl, hP, hQ, hE⟩ := hrel
      by_cases hlt : a < v
      · rcases (show a = 1 ∨ a = 2 by omega) with rfl | rfl
        · have hQa : Whole wr w2.heap.size 23 #[.int .i64 1024, .bool false, .int .i64 0, .int .i64 0, .int .i64 0, .int .i64 0] := hQ
          clear hQ
          go_wp2_with (refine wpList_load_row rfl 23 (.tmp 4) rfl _ rfl _ _ _ _ hQa Try.underlying23 rfl opt_info ?_)
          refine (G1 _).mono ?_
          rintro e w6 ⟨rfl, hE6⟩
          have hQ6 := hQa.ext hE6
          have hP6 := hP.ext hE6
          have hF6 := hE.trans hE6
          clear G1 G2 hQa hP hE hE6
          go_wp2_with (refine wpList_storeW rfl 23 (.tmp 4) (.tmp 25) rfl rfl rfl hQ6 rfl opt_info (opt_one ..) ?_; intro w7 hQ7 hG7 _)
          go_roundw
          case rel => exact ⟨2, by omega, by omega, by go_num, rfl, hP6.grown hG7 (by omega), hQ7, Below.grown hF6 hG7 hF6.le (fun k hk => by cases hk; omega)⟩
          case measure => simp [intOf]; omega
        · have hQa : Whole wr w2.heap.size 23 #[.int .i64 1024, .bool false, .int .i64 16, .int .i64 0, .int .i64 0, .int .i64 0] := hQ
          clear hQ
          go_wp2_with (refine wpList_load_row rfl 23 (.tmp 4) rfl _ rfl _ _ _ _ hQa Try.underlying23 rfl opt_info ?_)
          refine (G2 _).mono ?_
          rintro e w6 ⟨rfl, hE6⟩
          have hQ6 := hQa.ext hE6
          have hP6 := hP.ext hE6
          have hF6 := hE.trans hE6
          clear G1 G2 hQa hP hE hE6
          go_wp2_with (refine wpList_storeW rfl 23 (.tmp 4) (.tmp 25) rfl rfl rfl hQ6 rfl opt_info (opt_one ..) ?_; intro w7 hQ7 hG7 _)
          go_roundw
          case rel => exact ⟨3, by omega, by omega, by go_num, rfl, hP6.grown hG7 (by omega), hQ7, Below.grown hF6 hG7 hF6.le (fun k hk => by cases hk; omega)⟩
          case measure => simp [intOf]; omega
      · obtain rfl : a = v := by omega
        unfold dC optC at hQ
        generalize dAt a = dv at *
        obtain ⟨b, p, k, d, y, c⟩ := dv
        dsimp only at *
        clear G1 G2
        go_wp2_with (first
          | (refine wpList_load_row rfl 23 (.tmp 4) rfl _ rfl _ _ _ _ hQ Try.underlying23 rfl opt_info ?_)
          | (refine wpList_storeW rfl 23 (.tmp 2) (.tmp 27) rfl rfl rfl hP rfl opt_info (opt_one ..) ?_; intro w5 hW5 hG5 _))
        refine bodyPost_ret (results_row2 rfl _ rfl rfl (run_loadVar_row _ _ _ _ _ _ _ hW5 Try.underlying23 rfl opt_info)) rfl ?_
        rw [HN.out]
        exact ⟨rfl, Below.grown hE hG5 hE.le (fun k hk => by cases hk; omega)⟩
  · have HN := hide (show dflt v = (⟨0, false, 0, 0, 0, 0⟩, 4) from if_neg hv)
    generalize dflt v = res at *
    rw [decide_eq_false hv] at FT
    clear hv
    go_enter Try.func13, Try.ntmps13
    go_wp2_with fail
    refine (FT _).mono ?_
    rintro e w2 ⟨rfl, hE2⟩
    have hP2 := hP1.ext hE2
    have hE := hE1.trans hE2
    clear FT hE1 hP1 hE2
    go_wp2_with (refine wpList_storeW rfl 23 (.tmp 2) (.tmp 10) rfl rfl rfl hP2 rfl opt_info (opt_one ..) ?_; intro w5 hW5 hG5 _)
    refine bodyPost_ret (results_row2 rfl _ rfl rfl (run_loadVar_row _ _ _ _ _ _ _ hW5 Try.underlying23 rfl opt_info)) rfl ?_
    rw [HN.out]
    exact ⟨rfl, Below.grown hE hG5 hE.le (fun k hk => by cases hk; omega)⟩
end Go.Proofs.Ytlhncfjeleibmaa
