/- Laws of chapter 19: the example; OptsGrows, OptsDefault, OptsOne. -/
import Derived.Test.YtlhncfjeleibmaaOptDef
import Derived.Test.YtlhncfjeleibmaaHeadB
import Derived.BigQuiet
namespace Go.Proofs.Ytlhncfjeleibmaa
open Go.RowKit Opt

namespace Opt
theorem grow_64 : grow 1 ⟨64, false, 0, 0, 0, 0⟩ = (⟨64, false, 16, 0, 0, 0⟩, 0) := by
  rw [grow_eq, if_pos (by decide +kernel), if_pos rfl]
theorem chk_may {v b k d y c : Int} (h : chk v b k d y c = 0) : 1 ≤ v ∧ v ≤ 3 ∧ MayE v b k d y c := by
  have hv := chk_v h
  refine ⟨hv.1, hv.2, Classical.byContradiction fun hn => ?_⟩
  rw [chk_9 hv.1 hv.2 hn] at h
  exact absurd h (by decide)
theorem grow_next {v : Int} {o : OptV} (h : (grow v o).2 = 0) : 1 ≤ v ∧ v ≤ 2 ∧ chkO (v + 1) (grow v o).1 = 0 ∧ (grow v o).1.parity ≤ 255 := by
  rw [grow_eq] at h ⊢
  by_cases hc : chkO v o = 0
  · rw [if_pos hc] at h ⊢
    have hm := chk_may hc
    by_cases h1 : v = 1
    · subst h1
      rw [if_pos rfl]
      refine ⟨by omega, by omega, ?_, ?_⟩
      · refine chk_0 (by omega) (by omega) ?_
        have := hm.2.2
        unfold MayE at this ⊢
        dsimp only
        omega
      · have := hm.2.2
        unfold MayE at this
        dsimp only
        omega
    · rw [if_neg h1] at h ⊢
      by_cases h2 : v = 2
      · subst h2
        rw [if_pos rfl]
        refine ⟨by omega, by omega, ?_, by dsimp only; omega⟩
        refine chk_0 (by omega) (by omega) ?_
        have := hm.2.2
        unfold MayE at this ⊢
        dsimp only
        omega
      · rw [if_neg h2] at h
        exact absurd h (by decide)
  · rw [if_neg hc] at h
    exact absurd h hc
theorem dflt_may {v : Int} (h : (dflt v).2 = 0) : chkO v (dflt v).1 = 0 ∧ (dflt v).1.parity ≤ 255 := by
  by_cases hv : 1 ≤ v ∧ v ≤ 3
  · rcases (show v = 1 ∨ v = 2 ∨ v = 3 by omega) with rfl | rfl | rfl
    · exact ⟨by decide +kernel, by decide +kernel⟩
    · exact ⟨by decide +kernel, by decide +kernel⟩
    · exact ⟨by decide +kernel, by decide +kernel⟩
  · unfold dflt at h
    rw [if_neg hv] at h
    exact absurd h (by decide)
theorem chk_one {v u b k d y c : Int} (h : chk v b k d y c = 0) (h' : chk u b k d y c = 0) : v = u := by
  have h1 := (chk_may h).2.2
  have h2 := (chk_may h').2.2
  unfold MayE at h1 h2
  omega
end Opt

set_option maxHeartbeats 2000000 in
set_option maxRecDepth 100000 in
theorem alive19_any (W : World) : Calls Try.prog 8 #[] W fun e W' => e = .returned (.bool true) ∧ Ext W W' := by
  have C := pGrow_any 1 ⟨64, false, 0, 0, 0, 0⟩ (by decide) W
  rw [grow_64] at C
  unfold GrowTo optV optC at C
  dsimp only at C
  go_enter Try.func8, Try.ntmps8
  go_wp2_with fail
  refine C.mono ?_
  rintro e w2 ⟨rfl, hE2⟩
  go_wp2
  go_ret
  exact ⟨rfl, hE2.alloc _⟩

set_option maxHeartbeats 2000000 in
set_option maxRecDepth 100000 in
theorem optsOne_walk (v u : Int) (o : OptV) (w : World) (_ : (Lit.int .i64 v).wf = true) (_ : (Lit.int .i64 u).wf = true) (ho : o.ok) : Calls Try.prog 6 #[.int .i64 v, .int .i64 u, optV o] w fun e w' => e = .returned (.bool true) ∧ Ext w w' := by
  have hy := ho.2.2.2.1.2
  obtain ⟨b, p, k, d, y, c⟩ := o
  unfold optV
  dsimp only at *
  have C1 := fun W => pCheck_any v b p k d y c hy W
  have C2 := fun W => pCheck_any u b p k d y c hy W
  have H1 := hide (fun (h : chk v b k d y c = 0) (h' : chk u b k d y c = 0) => chk_one h h')
  generalize chk v b k d y c = e1 at *
  generalize chk u b k d y c = e2 at *
  unfold optC at *
  have hE1 := extNew w (.cells #[.int .i64 b, .bool p, .int .i64 k, .int .i64 d, .int .i64 y, .int .i64 c] 23)
  have hW1 := Whole.new w 23 #[.int .i64 b, .bool p, .int .i64 k, .int .i64 d, .int .i64 y, .int .i64 c]
  have C0 := fun W => alive19_any W
  clear ho hy
  go_enter Try.func6, Try.ntmps6
  go_wp2_with fail
  refine (C0 _).mono ?_
  rintro e w2 ⟨rfl, hE2⟩
  have hW2 := hW1.ext hE2
  have hF2 := hE1.trans hE2
  have c0 := hW2.at 0 (u := .int .i64 b) rfl
  have c1 := hW2.at 1 (u := .bool p) rfl
  have c2 := hW2.at 2 (u := .int .i64 k) rfl
  have c3 := hW2.at 3 (u := .int .i64 d) rfl
  have c4 := hW2.at 4 (u := .int .i64 y) rfl
  have c5 := hW2.at 5 (u := .int .i64 c) rfl
  clear C0 hE1 hW1 hE2
  by_cases hvu : v = u
  · subst hvu
    clear C1 C2 H1
    go_wp2
    go_ret
    exact ⟨rfl, hF2⟩
  have hb : (v == u) = false := by rw [beq_eq_false_iff_ne]; exact hvu
  go_wp2_with fail
  refine (C1 _).mono ?_
  rintro e w3 ⟨rfl, hE3⟩
  have hF3 := hF2.trans hE3
  have hW3 := hW2.ext hE3
  by_cases he : e1 = 0
  · have he2 : ¬ e2 = 0 := fun h => hvu (H1.out he h)
    have he2b : (e2 == 0) = false := by rw [beq_eq_false_iff_ne]; exact he2
    subst he
    clear c0 c1 c2 c3 c4 c5
    have c0 := hW3.at 0 (u := .int .i64 b) rfl
    have c1 := hW3.at 1 (u := .bool p) rfl
    have c2 := hW3.at 2 (u := .int .i64 k) rfl
    have c3 := hW3.at 3 (u := .int .i64 d) rfl
    have c4 := hW3.at 4 (u := .int .i64 y) rfl
    have c5 := hW3.at 5 (u := .int .i64 c) rfl
    clear C1 H1
    go_wp2_with fail
    refine (C2 _).mono ?_
    rintro e w4 ⟨rfl, hE4⟩
    go_wp2
    go_ret
    exact ⟨ret_bool (show (e2 != 0) = true by unfold bne; rw [he2b]; rfl), hF3.trans hE4⟩
  · have heb : (e1 == 0) = false := by rw [beq_eq_false_iff_ne]; exact he
    clear C1 C2 H1
    go_wp2
    go_ret
    exact ⟨rfl, hF3⟩

set_option maxHeartbeats 4000000 in
set_option maxRecDepth 100000 in
theorem optsGrows_walk (v : Int) (o : OptV) (w : World) (_ : (Lit.int .i64 v).wf = true) (ho : o.ok) : Calls Try.prog 4 #[.int .i64 v, optV o] w fun e w' => e = .returned (.bool true) ∧ Ext w w' := by
  have hy := ho.2.2.2.1.2
  have C1 := fun W => pGrow_any v o hy W
  have C2 := fun W => refGrow_any v o W
  have HN := hide (fun (h : (grow v o).2 = 0) => grow_next h)
  generalize grow v o = r at *
  obtain ⟨⟨b2, p2, k2, d2, y2, c2⟩, er⟩ := r
  obtain ⟨b, p, k, d, y, c⟩ := o
  unfold GrowTo at C1 C2
  unfold optV optC at *
  unfold chkO at HN
  dsimp only at *
  have C3 := hide (fun (h : er = 0) W => pCheck_any (v + 1) b2 p2 k2 d2 y2 c2 (by have := (HN.out h).2.2.2; omega) W)
  unfold optC at C3
  have hE1 := extNew w (.cells #[.int .i64 b, .bool p, .int .i64 k, .int .i64 d, .int .i64 y, .int .i64 c] 23)
  have hW1 := Whole.new w 23 #[.int .i64 b, .bool p, .int .i64 k, .int .i64 d, .int .i64 y, .int .i64 c]
  have C0 := fun W => alive19_any W
  clear ho hy
  go_enter Try.func4, Try.ntmps4
  go_wp2_with fail
  refine (C0 _).mono ?_
  rintro e w2 ⟨rfl, hE2⟩
  have hW2 := hW1.ext hE2
  have hF2 := hE1.trans hE2
  have a0 := hW2.at 0 (u := .int .i64 b) rfl
  have a1 := hW2.at 1 (u := .bool p) rfl
  have a2 := hW2.at 2 (u := .int .i64 k) rfl
  have a3 := hW2.at 3 (u := .int .i64 d) rfl
  have a4 := hW2.at 4 (u := .int .i64 y) rfl
  have a5 := hW2.at 5 (u := .int .i64 c) rfl
  clear C0 hE1 hW1 hE2
  go_wp2_with fail
  refine (C1 _).mono ?_
  rintro e w3 ⟨rfl, hE3⟩
  have hE4 := hE3.alloc (.cells #[.int .i64 b2, .bool p2, .int .i64 k2, .int .i64 d2, .int .i64 y2, .int .i64 c2] 23)
  have hX4 := Whole.new w3 23 #[.int .i64 b2, .bool p2, .int .i64 k2, .int .i64 d2, .int .i64 y2, .int .i64 c2]
  have hW4 := hW2.ext hE4
  have hF4 := hF2.trans hE4
  clear C1 hW2 hF2 hE3 hE4 a0 a1 a2 a3 a4 a5
  have a0 := hW4.at 0 (u := .int .i64 b) rfl
  have a1 := hW4.at 1 (u := .bool p) rfl
  have a2 := hW4.at 2 (u := .int .i64 k) rfl
  have a3 := hW4.at 3 (u := .int .i64 d) rfl
  have a4 := hW4.at 4 (u := .int .i64 y) rfl
  have a5 := hW4.at 5 (u := .int .i64 c) rfl
  go_wp2_with fail
  refine (C2 _).mono ?_
  rintro e w5 ⟨rfl, hE5⟩
  have hE6 := hE5.alloc (.cells #[.int .i64 b2, .bool p2, .int .i64 k2, .int .i64 d2, .int .i64 y2, .int .i64 c2] 23)
  have hX6 := hX4.ext hE6
  have hY6 := Whole.new w5 23 #[.int .i64 b2, .bool p2, .int .i64 k2, .int .i64 d2, .int .i64 y2, .int .i64 c2]
  have hF6 := hF4.trans hE6
  clear C2 hW4 hX4 hF4 hE5 hE6 a0 a1 a2 a3 a4 a5
  have x0 := hX6.at 0 (u := .int .i64 b2) rfl
  have x1 := hX6.at 1 (u := .bool p2) rfl
  have x2 := hX6.at 2 (u := .int .i64 k2) rfl
  have x3 := hX6.at 3 (u := .int .i64 d2) rfl
  have x4 := hX6.at 4 (u := .int .i64 y2) rfl
  have x5 := hX6.at 5 (u := .int .i64 c2) rfl
  have z0 := hY6.at 0 (u := .int .i64 b2) rfl
  have z1 := hY6.at 1 (u := .bool p2) rfl
  have z2 := hY6.at 2 (u := .int .i64 k2) rfl
  have z3 := hY6.at 3 (u := .int .i64 d2) rfl
  have z4 := hY6.at 4 (u := .int .i64 y2) rfl
  have z5 := hY6.at 5 (u := .int .i64 c2) rfl
  by_cases he : er = 0
  · have hN := HN.out he
    have C4 := C3.out he
    clear C3 HN
    subst he
    rw [hN.2.2.1] at C4
    obtain ⟨hv1, hv2, _, _⟩ := hN
    go_wp2_with fail
    refine (C4 _).mono ?_
    rintro e w7 ⟨rfl, hE7⟩
    go_wp2
    go_ret
    exact ⟨rfl, hF6.trans hE7⟩
  · have heb : (er == 0) = false := by rw [beq_eq_false_iff_ne]; exact he
    clear C3 HN
    go_wp2
    go_ret
    exact ⟨rfl, hF6⟩

set_option maxHeartbeats 4000000 in
set_option maxRecDepth 100000 in
theorem optsDefault_walk (v : Int) (w : World) (_ : (Lit.int .i64 v).wf = true) : Calls Try.prog 5 #[.int .i64 v] w fun e w' => e = .returned (.bool true) ∧ Ext w w' := by
  have C1 := fun W => pDef_any v W
  have C2 := fun W => refDef_any v W
  have HN := hide (fun (h : (dflt v).2 = 0) => dflt_may h)
  generalize dflt v = r at *
  obtain ⟨⟨b2, p2, k2, d2, y2, c2⟩, er⟩ := r
  unfold GrowTo at C1 C2
  unfold optV optC at *
  unfold chkO at HN
  dsimp only at *
  have C3 := hide (fun (h : er = 0) W => pCheck_any v b2 p2 k2 d2 y2 c2 (by have := (HN.out h).2; omega) W)
  unfold optC at C3
  have C0 := fun W => alive19_any W
  go_enter Try.func5, Try.ntmps5
  go_wp2_with fail
  refine (C0 _).mono ?_
  rintro e w2 ⟨rfl, hF2⟩
  clear C0
  go_wp2_with fail
  refine (C1 _).mono ?_
  rintro e w3 ⟨rfl, hE3⟩
  have hE4 := hE3.alloc (.cells #[.int .i64 b2, .bool p2, .int .i64 k2, .int .i64 d2, .int .i64 y2, .int .i64 c2] 23)
  have hX4 := Whole.new w3 23 #[.int .i64 b2, .bool p2, .int .i64 k2, .int .i64 d2, .int .i64 y2, .int .i64 c2]
  have hF4 := hF2.trans hE4
  clear C1 hF2 hE3 hE4
  go_wp2_with fail
  refine (C2 _).mono ?_
  rintro e w5 ⟨rfl, hE5⟩
  have hE6 := hE5.alloc (.cells #[.int .i64 b2, .bool p2, .int .i64 k2, .int .i64 d2, .int .i64 y2, .int .i64 c2] 23)
  have hX6 := hX4.ext hE6
  have hY6 := Whole.new w5 23 #[.int .i64 b2, .bool p2, .int .i64 k2, .int .i64 d2, .int .i64 y2, .int .i64 c2]
  have hF6 := hF4.trans hE6
  clear C2 hX4 hF4 hE5 hE6
  have x0 := hX6.at 0 (u := .int .i64 b2) rfl
  have x1 := hX6.at 1 (u := .bool p2) rfl
  have x2 := hX6.at 2 (u := .int .i64 k2) rfl
  have x3 := hX6.at 3 (u := .int .i64 d2) rfl
  have x4 := hX6.at 4 (u := .int .i64 y2) rfl
  have x5 := hX6.at 5 (u := .int .i64 c2) rfl
  have z0 := hY6.at 0 (u := .int .i64 b2) rfl
  have z1 := hY6.at 1 (u := .bool p2) rfl
  have z2 := hY6.at 2 (u := .int .i64 k2) rfl
  have z3 := hY6.at 3 (u := .int .i64 d2) rfl
  have z4 := hY6.at 4 (u := .int .i64 y2) rfl
  have z5 := hY6.at 5 (u := .int .i64 c2) rfl
  by_cases he : er = 0
  · have hN := HN.out he
    have C4 := C3.out he
    clear C3 HN
    subst he
    rw [hN.1] at C4
    clear hN
    go_wp2_with fail
    refine (C4 _).mono ?_
    rintro e w7 ⟨rfl, hE7⟩
    go_wp2
    go_ret
    exact ⟨rfl, hF6.trans hE7⟩
  · have heb : (er == 0) = false := by rw [beq_eq_false_iff_ne]; exact he
    clear C3 HN
    go_wp2
    go_ret
    exact ⟨rfl, hF6⟩
end Go.Proofs.Ytlhncfjeleibmaa
