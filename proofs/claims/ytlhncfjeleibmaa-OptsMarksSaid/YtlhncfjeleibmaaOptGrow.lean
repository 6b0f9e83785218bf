/- Grow of chapter 19: the program's and the document's. -/
import Derived.Test.YtlhncfjeleibmaaOptPMay3
import Derived.Test.YtlhncfjeleibmaaOptRef
namespace Go.Proofs.Ytlhncfjeleibmaa
open Go.RowKit Opt

namespace Opt
/-- What Grow tells. -/
def grow (v : Int) (o : OptV) : OptV × Int :=
  if chkO v o = 0 then
    if v = 1 then (⟨o.block, o.plain, 16, o.data, o.parity, o.chunk⟩, 0)
    else if v = 2 then (⟨o.block, o.plain, o.bucket, 4, 2, 64⟩, 0)
    else (⟨0, false, 0, 0, 0, 0⟩, 4)
  else (⟨0, false, 0, 0, 0, 0⟩, chkO v o)
theorem grow_eq (v : Int) (o : OptV) : grow v o = if chkO v o = 0 then
    if v = 1 then (⟨o.block, o.plain, 16, o.data, o.parity, o.chunk⟩, 0)
    else if v = 2 then (⟨o.block, o.plain, o.bucket, 4, 2, 64⟩, 0)
    else (⟨0, false, 0, 0, 0, 0⟩, 4)
  else (⟨0, false, 0, 0, 0, 0⟩, chkO v o) := rfl
end Opt
/-- What Grow and Default tell: options, an error. -/
def GrowTo (w : World) (r : OptV × Int) (e : Ending) (w' : World) : Prop := e = .returned (.tuple #[optV r.1, .int .i64 r.2]) ∧ Ext w w'

theorem chk_v {v b k d y c : Int} (h : chk v b k d y c = 0) : 1 ≤ v ∧ v ≤ 3 := by
  refine Classical.byContradiction fun hn => ?_
  rw [chk_4 hn] at h
  exact absurd h (by decide)
set_option maxHeartbeats 4000000 in
set_option maxRecDepth 100000 in
theorem pGrow_any (v : Int) (o : OptV) (hy : o.parity ≤ 9223372036854775807) (w : World) : Calls Try.prog 11 #[.int .i64 v, optV o] w (GrowTo w (grow v o)) := by
  have HG := hide (grow_eq v o)
  generalize grow v o = res at *
  obtain ⟨b, p, k, d, y, c⟩ := o
  unfold chkO at HG
  unfold GrowTo
  unfold optV optC
  dsimp only at *
  have FC := fun W => pCheck_any v b p k d y c hy W
  unfold optC at FC
  clear hy
  have hE1 := (extNew w (.cells #[.int .i64 b, .bool p, .int .i64 k, .int .i64 d, .int .i64 y, .int .i64 c] 23)).alloc (.cells #[.int .i64 0, .bool false, .int .i64 0, .int .i64 0, .int .i64 0, .int .i64 0] 23)
  have hW1 := (Whole.new w 23 #[.int .i64 b, .bool p, .int .i64 k, .int .i64 d, .int .i64 y, .int .i64 c]).alloc (.cells #[.int .i64 0, .bool false, .int .i64 0, .int .i64 0, .int .i64 0, .int .i64 0] 23)
  have hP1 := Whole.new (w.alloc (.cells #[.int .i64 b, .bool p, .int .i64 k, .int .i64 d, .int .i64 y, .int .i64 c] 23)) 23 #[.int .i64 0, .bool false, .int .i64 0, .int .i64 0, .int .i64 0, .int .i64 0]
  rw [World.size_alloc] at hP1
  have hlt : w.heap.size < w.heap.size + 1 := by omega
  by_cases g : chk v b k d y c = 0
  · have gv := chk_v g
    rw [g] at FC
    rcases (show v = 1 ∨ v = 2 ∨ v = 3 by omega) with rfl | rfl | rfl
    · have HN := hide (show res = (⟨b, p, 16, d, y, c⟩, 0) from HG.out.trans (by rw [if_pos g, if_pos rfl]))
      clear HG g gv
      go_enter Try.func11, Try.ntmps11
      go_wp2_with (refine wpList_load_row rfl 23 (.tmp 3) rfl _ rfl _ _ _ _ hW1 Try.underlying23 rfl opt_info ?_)
      refine (FC _).mono ?_
      rintro e w2 ⟨rfl, hE2⟩
      have hP2 := hP1.ext hE2
      have hW2 := hW1.ext hE2
      have hE := hE1.trans hE2
      clear FC hE1 hW1 hP1 hE2
      have c2 := hW2.at 2 (u := .int .i64 k) rfl
      have z2 := hW2.frozen 2
      have hW3 : Whole (w2.setCell ⟨w.heap.size, 2, none⟩ (.int .i64 16)) w.heap.size 23 #[.int .i64 b, .bool p, .int .i64 16, .int .i64 d, .int .i64 y, .int .i64 c] := (hW2.set 2 (.int .i64 16))
      have hP3 := (hP2.far (b := w.heap.size) (by omega) 2 (.int .i64 16))
      have hE3 := (hE.setCell (i := 2) (Nat.le_refl _) (.int .i64 16))
      go_wp2_with (first | (refine wpList_load_row rfl 23 (.tmp 3) rfl _ rfl _ _ _ _ hW3 Try.underlying23 rfl opt_info ?_) | (refine wpList_storeW rfl 23 (.tmp 4) (.tmp 24) rfl rfl rfl hP3 rfl opt_info (opt_one ..) ?_; intro w5 hW5 hG5 _))
      clear hE
      have hE := hE3
      refine bodyPost_ret (results_row2 rfl _ rfl rfl (run_loadVar_row _ _ _ _ _ _ _ hW5 Try.underlying23 rfl opt_info)) rfl ?_
      rw [HN.out]
      exact ⟨rfl, Below.grown hE hG5 hE.le (fun k hk => by cases hk; omega)⟩
    · have HN := hide (show res = (⟨b, p, k, 4, 2, 64⟩, 0) from HG.out.trans (by rw [if_pos g, if_neg (by decide), if_pos rfl]))
      clear HG g gv
      go_enter Try.func11, Try.ntmps11
      go_wp2_with (refine wpList_load_row rfl 23 (.tmp 3) rfl _ rfl _ _ _ _ hW1 Try.underlying23 rfl opt_info ?_)
      refine (FC _).mono ?_
      rintro e w2 ⟨rfl, hE2⟩
      have hP2 := hP1.ext hE2
      have hW2 := hW1.ext hE2
      have hE := hE1.trans hE2
      clear FC hE1 hW1 hP1 hE2
      have c3 := hW2.at 3 (u := .int .i64 d) rfl
      have z3 := hW2.frozen 3
      have c4 := hW2.at 4 (u := .int .i64 y) rfl
      have z4 := hW2.frozen 4
      have c5 := hW2.at 5 (u := .int .i64 c) rfl
      have z5 := hW2.frozen 5
      have hW3 : Whole (((w2.setCell ⟨w.heap.size, 3, none⟩ (.int .i64 4)).setCell ⟨w.heap.size, 4, none⟩ (.int .i64 2)).setCell ⟨w.heap.size, 5, none⟩ (.int .i64 64)) w.heap.size 23 #[.int .i64 b, .bool p, .int .i64 k, .int .i64 4, .int .i64 2, .int .i64 64] := (((hW2.set 3 (.int .i64 4)).set 4 (.int .i64 2)).set 5 (.int .i64 64))
      have hP3 := (((hP2.far (b := w.heap.size) (by omega) 3 (.int .i64 4)).far (b := w.heap.size) (by omega) 4 (.int .i64 2)).far (b := w.heap.size) (by omega) 5 (.int .i64 64))
      have hE3 := (((hE.setCell (i := 3) (Nat.le_refl _) (.int .i64 4)).setCell (i := 4) (Nat.le_refl _) (.int .i64 2)).setCell (i := 5) (Nat.le_refl _) (.int .i64 64))
      go_wp2_with (first | (refine wpList_load_row rfl 23 (.tmp 3) rfl _ rfl _ _ _ _ hW3 Try.underlying23 rfl opt_info ?_) | (refine wpList_storeW rfl 23 (.tmp 4) (.tmp 24) rfl rfl rfl hP3 rfl opt_info (opt_one ..) ?_; intro w5 hW5 hG5 _))
      clear hE
      have hE := hE3
      refine bodyPost_ret (results_row2 rfl _ rfl rfl (run_loadVar_row _ _ _ _ _ _ _ hW5 Try.underlying23 rfl opt_info)) rfl ?_
      rw [HN.out]
      exact ⟨rfl, Below.grown hE hG5 hE.le (fun k hk => by cases hk; omega)⟩
    · have HN := hide (show res = (⟨0, false, 0, 0, 0, 0⟩, 4) from HG.out.trans (by rw [if_pos g, if_neg (by decide), if_neg (by decide)]))
      clear HG g gv
      go_enter Try.func11, Try.ntmps11
      go_wp2_with (refine wpList_load_row rfl 23 (.tmp 3) rfl _ rfl _ _ _ _ hW1 Try.underlying23 rfl opt_info ?_)
      refine (FC _).mono ?_
      rintro e w2 ⟨rfl, hE2⟩
      have hP2 := hP1.ext hE2
      have hW2 := hW1.ext hE2
      have hE := hE1.trans hE2
      clear FC hE1 hW1 hP1 hE2
      go_wp2_with (refine wpList_storeW rfl 23 (.tmp 4) (.tmp 15) rfl rfl rfl hP2 rfl opt_info (opt_one ..) ?_; intro w5 hW5 hG5 _)
      refine bodyPost_ret (results_row2 rfl _ rfl rfl (run_loadVar_row _ _ _ _ _ _ _ hW5 Try.underlying23 rfl opt_info)) rfl ?_
      rw [HN.out]
      exact ⟨rfl, Below.grown hE hG5 hE.le (fun k hk => by cases hk; omega)⟩
  · have HN := hide (show res = (⟨0, false, 0, 0, 0, 0⟩, chk v b k d y c) from HG.out.trans (by rw [if_neg g]))
    have gb : (chk v b k d y c == 0) = false := by rw [beq_eq_false_iff_ne]; exact g
    clear HG g
    generalize chk v b k d y c = er at *
    go_enter Try.func11, Try.ntmps11
    go_wp2_with (refine wpList_load_row rfl 23 (.tmp 3) rfl _ rfl _ _ _ _ hW1 Try.underlying23 rfl opt_info ?_)
    refine (FC _).mono ?_
    rintro e w2 ⟨rfl, hE2⟩
    have hP2 := hP1.ext hE2
    have hW2 := hW1.ext hE2
    have hE := hE1.trans hE2
    clear FC hE1 hW1 hP1 hE2
    go_wp2_with (refine wpList_storeW rfl 23 (.tmp 4) (.tmp 12) rfl rfl rfl hP2 rfl opt_info (opt_one ..) ?_; intro w5 hW5 hG5 _)
    refine bodyPost_ret (results_row2 rfl _ rfl rfl (run_loadVar_row _ _ _ _ _ _ _ hW5 Try.underlying23 rfl opt_info)) rfl ?_
    rw [HN.out]
    exact ⟨rfl, Below.grown hE hG5 hE.le (fun k hk => by cases hk; omega)⟩
set_option maxHeartbeats 4000000 in
set_option maxRecDepth 100000 in
theorem refGrow_any (v : Int) (o : OptV) (w : World) : Calls Try.prog 12 #[.int .i64 v, optV o] w (GrowTo w (grow v o)) := by
  have HG := hide (grow_eq v o)
  generalize grow v o = res at *
  obtain ⟨b, p, k, d, y, c⟩ := o
  unfold chkO at HG
  unfold GrowTo
  unfold optV optC
  dsimp only at *
  have FC := fun W => refCheck_any v b p k d y c W
  unfold optC at FC
  have hE1 := (extNew w (.cells #[.int .i64 b, .bool p, .int .i64 k, .int .i64 d, .int .i64 y, .int .i64 c] 23)).alloc (.cells #[.int .i64 0, .bool false, .int .i64 0, .int .i64 0, .int .i64 0, .int .i64 0] 23)
  have hW1 := (Whole.new w 23 #[.int .i64 b, .bool p, .int .i64 k, .int .i64 d, .int .i64 y, .int .i64 c]).alloc (.cells #[.int .i64 0, .bool false, .int .i64 0, .int .i64 0, .int .i64 0, .int .i64 0] 23)
  have hP1 := Whole.new (w.alloc (.cells #[.int .i64 b, .bool p, .int .i64 k, .int .i64 d, .int .i64 y, .int .i64 c] 23)) 23 #[.int .i64 0, .bool false, .int .i64 0, .int .i64 0, .int .i64 0, .int .i64 0]
  rw [World.size_alloc] at hP1
  have hlt : w.heap.size < w.heap.size + 1 := by omega
  by_cases g : chk v b k d y c = 0
  · have gv := chk_v g
    rw [g] at FC
    rcases (show v = 1 ∨ v = 2 ∨ v = 3 by omega) with rfl | rfl | rfl
    · have HN := hide (show res = (⟨b, p, 16, d, y, c⟩, 0) from HG.out.trans (by rw [if_pos g, if_pos rfl]))
      clear HG g gv
      go_enter Try.func12, Try.ntmps12
      go_wp2_with (refine wpList_load_row rfl 23 (.tmp 3) rfl _ rfl _ _ _ _ hW1 Try.underlying23 rfl opt_info ?_)
      refine (FC _).mono ?_
      rintro e w2 ⟨rfl, hE2⟩
      have hP2 := hP1.ext hE2
      have hW2 := hW1.ext hE2
      have hE := hE1.trans hE2
      clear FC hE1 hW1 hP1 hE2
      have c2 := hW2.at 2 (u := .int .i64 k) rfl
      have z2 := hW2.frozen 2
      have hW3 : Whole (w2.setCell ⟨w.heap.size, 2, none⟩ (.int .i64 16)) w.heap.size 23 #[.int .i64 b, .bool p, .int .i64 16, .int .i64 d, .int .i64 y, .int .i64 c] := (hW2.set 2 (.int .i64 16))
      have hP3 := (hP2.far (b := w.heap.size) (by omega) 2 (.int .i64 16))
      have hE3 := (hE.setCell (i := 2) (Nat.le_refl _) (.int .i64 16))
      go_wp2_with (first | (refine wpList_load_row rfl 23 (.tmp 3) rfl _ rfl _ _ _ _ hW3 Try.underlying23 rfl opt_info ?_) | (refine wpList_storeW rfl 23 (.tmp 4) (.tmp 23) rfl rfl rfl hP3 rfl opt_info (opt_one ..) ?_; intro w5 hW5 hG5 _))
      clear hE
      have hE := hE3
      refine bodyPost_ret (results_row2 rfl _ rfl rfl (run_loadVar_row _ _ _ _ _ _ _ hW5 Try.underlying23 rfl opt_info)) rfl ?_
      rw [HN.out]
      exact ⟨rfl, Below.grown hE hG5 hE.le (fun k hk => by cases hk; omega)⟩
    · have HN := hide (show res = (⟨b, p, k, 4, 2, 64⟩, 0) from HG.out.trans (by rw [if_pos g, if_neg (by decide), if_pos rfl]))
      clear HG g gv
      go_enter Try.func12, Try.ntmps12
      go_wp2_with (refine wpList_load_row rfl 23 (.tmp 3) rfl _ rfl _ _ _ _ hW1 Try.underlying23 rfl opt_info ?_)
      refine (FC _).mono ?_
      rintro e w2 ⟨rfl, hE2⟩
      have hP2 := hP1.ext hE2
      have hW2 := hW1.ext hE2
      have hE := hE1.trans hE2
      clear FC hE1 hW1 hP1 hE2
      have c3 := hW2.at 3 (u := .int .i64 d) rfl
      have z3 := hW2.frozen 3
      have c4 := hW2.at 4 (u := .int .i64 y) rfl
      have z4 := hW2.frozen 4
      have c5 := hW2.at 5 (u := .int .i64 c) rfl
      have z5 := hW2.frozen 5
      have hW3 : Whole (((w2.setCell ⟨w.heap.size, 3, none⟩ (.int .i64 4)).setCell ⟨w.heap.size, 4, none⟩ (.int .i64 2)).setCell ⟨w.heap.size, 5, none⟩ (.int .i64 64)) w.heap.size 23 #[.int .i64 b, .bool p, .int .i64 k, .int .i64 4, .int .i64 2, .int .i64 64] := (((hW2.set 3 (.int .i64 4)).set 4 (.int .i64 2)).set 5 (.int .i64 64))
      have hP3 := (((hP2.far (b := w.heap.size) (by omega) 3 (.int .i64 4)).far (b := w.heap.size) (by omega) 4 (.int .i64 2)).far (b := w.heap.size) (by omega) 5 (.int .i64 64))
      have hE3 := (((hE.setCell (i := 3) (Nat.le_refl _) (.int .i64 4)).setCell (i := 4) (Nat.le_refl _) (.int .i64 2)).setCell (i := 5) (Nat.le_refl _) (.int .i64 64))
      go_wp2_with (first | (refine wpList_load_row rfl 23 (.tmp 3) rfl _ rfl _ _ _ _ hW3 Try.underlying23 rfl opt_info ?_) | (refine wpList_storeW rfl 23 (.tmp 4) (.tmp 23) rfl rfl rfl hP3 rfl opt_info (opt_one ..) ?_; intro w5 hW5 hG5 _))
      clear hE
      have hE := hE3
      refine bodyPost_ret (results_row2 rfl _ rfl rfl (run_loadVar_row _ _ _ _ _ _ _ hW5 Try.underlying23 rfl opt_info)) rfl ?_
      rw [HN.out]
      exact ⟨rfl, Below.grown hE hG5 hE.le (fun k hk => by cases hk; omega)⟩
    · have HN := hide (show res = (⟨0, false, 0, 0, 0, 0⟩, 4) from HG.out.trans (by rw [if_pos g, if_neg (by decide), if_neg (by decide)]))
      clear HG g gv
      go_enter Try.func12, Try.ntmps12
      go_wp2_with (refine wpList_load_row rfl 23 (.tmp 3) rfl _ rfl _ _ _ _ hW1 Try.underlying23 rfl opt_info ?_)
      refine (FC _).mono ?_
      rintro e w2 ⟨rfl, hE2⟩
      have hP2 := hP1.ext hE2
      have hW2 := hW1.ext hE2
      have hE := hE1.trans hE2
      clear FC hE1 hW1 hP1 hE2
      go_wp2_with (refine wpList_storeW rfl 23 (.tmp 4) (.tmp 16) rfl rfl rfl hP2 rfl opt_info (opt_one ..) ?_; intro w5 hW5 hG5 _)
      refine bodyPost_ret (results_row2 rfl _ rfl rfl (run_loadVar_row _ _ _ _ _ _ _ hW5 Try.underlying23 rfl opt_info)) rfl ?_
      rw [HN.out]
      exact ⟨rfl, Below.grown hE hG5 hE.le (fun k hk => by cases hk; omega)⟩
  · have HN := hide (show res = (⟨0, false, 0, 0, 0, 0⟩, chk v b k d y c) from HG.out.trans (by rw [if_neg g]))
    have gb : (chk v b k d y c == 0) = false := by rw [beq_eq_false_iff_ne]; exact g
    clear HG g
    generalize chk v b k d y c = er at *
    go_enter Try.func12, Try.ntmps12
    go_wp2_with (refine wpList_load_row rfl 23 (.tmp 3) rfl _ rfl _ _ _ _ hW1 Try.underlying23 rfl opt_info ?_)
    refine (FC _).mono ?_
    rintro e w2 ⟨rfl, hE2⟩
    have hP2 := hP1.ext hE2
    have hW2 := hW1.ext hE2
    have hE := hE1.trans hE2
    clear FC hE1 hW1 hP1 hE2
    go_wp2_with (refine wpList_storeW rfl 23 (.tmp 4) (.tmp 12) rfl rfl rfl hP2 rfl opt_info (opt_one ..) ?_; intro w5 hW5 hG5 _)
    refine bodyPost_ret (results_row2 rfl _ rfl rfl (run_loadVar_row _ _ _ _ _ _ _ hW5 Try.underlying23 rfl opt_info)) rfl ?_
    rw [HN.out]
    exact ⟨rfl, Below.grown hE hG5 hE.le (fun k hk => by cases hk; omega)⟩
end Go.Proofs.Ytlhncfjeleibmaa
