/- The program's cursor: New, Left, At, Err, Fail, End. -/
import Derived.Test.YtgnmdpklkmlpfaaCurNum
import Derived.Test.YtgnmdpklkmlpfaaClone
namespace Go.Proofs.Ytgnmdpklkmlpfaa
open Go.RowKit

/-- A cursor is made of bytes of the call's own. -/
theorem PC.new {w : World} {base : Nat} {v : Value} {b : List UInt8} (h : OwnB w base v b) (hl : b.length ≤ 1000000) :
    ∃ r, PC (w.alloc (.cells #[v, .int .i64 0, .int .i64 0] 60)) w.heap.size r b 0 0 := by
  have hO := h.ext (extNew w (.cells #[v, .int .i64 0, .int .i64 0] 60))
  have hW := Whole.new w 60 #[v, .int .i64 0, .int .i64 0]
  rcases h.2 with ⟨rfl, h0⟩ | ⟨x, cap, cur, rfl, hb, hx, hn, _⟩
  · have hnil := List.eq_nil_of_length_eq_zero h0
    subst hnil
    exact ⟨w.heap.size, none, 0, hW, by simp, ⟨rfl, .inl rfl⟩, by simp, by simp, by simp⟩
  · have hxl := (Array.getElem?_eq_some_iff.1 hx).1
    refine ⟨x, some ⟨x, 0, none⟩, cap, hW, by simpa using hn, ⟨by simp, ?_⟩, by simp; omega, by simp, hl⟩
    refine .inr ⟨by omega, 0, rfl, fun i hi => ?_⟩
    rw [Nat.zero_add, List.drop_zero]
    exact (hO.cell (by simpa using hi)).1

theorem pcNew_any (A : Option Addr) (n c : Nat) (b : List UInt8) (w : World) (hc : n ≤ c) (hn : n ≤ 1000000) (hb : Bytes w w.heap.size A n b) :
    Calls Try.prog 23 #[.slice A n c] w fun e w' => ∃ g r, e = .returned (.pointer (some ⟨g, 0, none⟩)) ∧ w.heap.size ≤ g ∧ PC w' g r b 0 0 ∧ Ext w w' := by
  have hll := hb.1
  subst hll
  have C := slicesClone_any A b.length c b w hc (by omega) hb
  go_enter Try.func23, Try.ntmps23
  go_wp2_with fail
  refine C.mono ?_
  rintro e w1 ⟨v, rfl, hO, hE⟩
  obtain ⟨r, hP⟩ := PC.new hO hn
  have hB := hE.le
  obtain ⟨A1, n1, c1, rfl, _⟩ := hO.form'
  go_wp2
  go_ret
  exact ⟨w1.heap.size, r, rfl, hB, hP, hE.trans (extNew w1 _)⟩

theorem pcLeft_any {w : World} {g r q : Nat} {b : List UInt8} {e : Int} (h : PC w g r b q e) :
    Calls Try.prog 33 #[.pointer (some ⟨g, 0, none⟩)] w fun e' w' => e' = .returned (.int .i64 ((b.length - q : Nat) : Int)) ∧ w = w' := by
  obtain ⟨A, c, c0, _, _, _, _, _, hc, hR⟩ := h.cells
  clear hR h
  go_enter Try.func33, Try.ntmps33
  go_wp2
  go_ret
  exact ⟨rfl, rfl⟩
theorem pcAt_any {w : World} {g r q : Nat} {b : List UInt8} {e : Int} (h : PC w g r b q e) :
    Calls Try.prog 32 #[.pointer (some ⟨g, 0, none⟩)] w fun e' w' => e' = .returned (.int .i64 (q : Int)) ∧ w = w' := by
  obtain ⟨A, c, c0, c1, _, _, _, _, hc, hR⟩ := h.cells
  clear hR h
  go_enter Try.func32, Try.ntmps32
  go_wp2
  go_ret
  exact ⟨rfl, rfl⟩
theorem pcErr_any {w : World} {g r q : Nat} {b : List UInt8} {e : Int} (h : PC w g r b q e) :
    Calls Try.prog 34 #[.pointer (some ⟨g, 0, none⟩)] w fun e' w' => e' = .returned (.int .i64 e) ∧ w = w' := by
  obtain ⟨A, c, c0, c1, c2, _, _, _, hc, hR⟩ := h.cells
  clear hR h
  go_enter Try.func34, Try.ntmps34
  go_wp2
  go_ret
  exact ⟨rfl, rfl⟩
theorem pcLeft_nil (w : World) : Calls Try.prog 33 #[.pointer none] w fun e' w' => e' = .returned (.int .i64 0) ∧ w = w' := by
  go_enter Try.func33, Try.ntmps33
  go_wp2
  go_ret
  exact ⟨rfl, rfl⟩
theorem pcAt_nil (w : World) : Calls Try.prog 32 #[.pointer none] w fun e' w' => e' = .returned (.int .i64 0) ∧ w = w' := by
  go_enter Try.func32, Try.ntmps32
  go_wp2
  go_ret
  exact ⟨rfl, rfl⟩
theorem pcErr_nil (w : World) : Calls Try.prog 34 #[.pointer none] w fun e' w' => e' = .returned (.int .i64 13) ∧ w = w' := by
  go_enter Try.func34, Try.ntmps34
  go_wp2
  go_ret
  exact ⟨rfl, rfl⟩

theorem entered_fail1 : Entered 38 := entered_of Try.func38 (by kernel_rfl) rfl
theorem fail1_any {w : World} {B : Nat} {e : Int} (hB : w.cell? ⟨B, 0, none⟩ = some (.int .i64 e)) : Calls Try.prog 38 #[.pointer (some ⟨B, 0, none⟩)] w fun e' w' => e' = .returned (.int .i64 e) ∧ w = w' := by
  go_enter Try.func38, Try.ntmps38
  go_wp2
  go_ret
  exact ⟨rfl, rfl⟩
theorem pcFail_any {w : World} {g r q : Nat} {b : List UInt8} {e : Int} (h : PC w g r b q e) (e2 : Int) :
    Calls Try.prog 24 #[.pointer (some ⟨g, 0, none⟩), .int .i64 e2] w fun e' w' => e' = .returned (.tuple #[]) ∧ PcTo w g r b q (Num.failR e e2) w' := by
  have hE := extNew w (.cells #[.int .i64 e2] 25)
  have hP := h.ext hE
  have hB : (w.alloc (.cells #[.int .i64 e2] 25)).cell? ⟨w.heap.size, 0, none⟩ = some (.int .i64 e2) := cellNew w _ _ _ 0
  by_cases he : e = 0
  · subst he
    have C := read_any (R := fun er w' => er = e2 ∧ w.alloc (.cells #[.int .i64 e2] 25) = w') entered_fail1 hP ((fail1_any hB).mono (by rintro e' w' ⟨rfl, rfl⟩; exact ⟨e2, q, rfl, hP, rfl, rfl⟩))
    have HR := hide (show Num.failR 0 e2 = e2 from rfl)
    have HP := hide hP
    have HE := hide hE
    clear hB hP hE h
    go_enter Try.func24, Try.ntmps24
    go_wp2_with fail
    refine C.mono ?_
    rintro e' w2 ⟨rfl, er, q', w3, _, ⟨rfl, rfl⟩, rfl⟩
    go_wp2
    go_end0
    rw [HR.out]
    exact ⟨rfl, HP.out.setErr, (Mod.ofExt HE.out).trans (Mod.ofRow (grown_setCell _ g 2 _)) (.inl rfl)⟩
  · have HR := hide (show Num.failR e e2 = e by unfold Num.failR; rw [if_neg he])
    have C := read_stuck (K := 38) (cap := #[.pointer (some ⟨w.heap.size, 0, none⟩)]) hP he
    have HP := hide hP
    have HE := hide hE
    clear hB hP hE h he
    go_enter Try.func24, Try.ntmps24
    go_wp2_with fail
    refine C.mono ?_
    rintro e' w2 ⟨rfl, rfl⟩
    go_wp2
    go_end0
    rw [HR.out]
    exact ⟨rfl, HP.out, Mod.ofExt HE.out⟩
theorem pcFail_nil (w : World) (e2 : Int) : Calls Try.prog 24 #[.pointer none, .int .i64 e2] w fun e' w' => e' = .returned (.tuple #[]) ∧ Ext w w' := by
  have C := read_nil (w := w.alloc (.cells #[.int .i64 e2] 25)) (K := 38) (cap := #[.pointer (some ⟨w.heap.size, 0, none⟩)])
  have HE := hide (extNew w (.cells #[.int .i64 e2] 25))
  go_enter Try.func24, Try.ntmps24
  go_wp2_with fail
  refine C.mono ?_
  rintro e' w2 ⟨rfl, rfl⟩
  go_wp2
  go_end0
  exact ⟨rfl, HE.out⟩

theorem entered_end1 : Entered 53 := entered_of Try.func53 (by kernel_rfl) rfl
theorem end1_any {w : World} {g r B q : Nat} {b : List UInt8} {e : Int} (h : PC w g r b q e) (hB : w.cell? ⟨B, 0, none⟩ = some (.pointer (some ⟨g, 0, none⟩))) :
    Calls Try.prog 53 #[.pointer (some ⟨B, 0, none⟩)] w fun e' w' => e' = .returned (.int .i64 (Num.endR b q 0)) ∧ w = w' := by
  obtain ⟨A, c, c0, _, _, _, _, _, hc, hR⟩ := h.cells
  clear hR h
  by_cases h0 : 0 < b.length - q
  · have HR := hide (show Num.endR b q 0 = 2 by unfold Num.endR; rw [if_pos ⟨rfl, h0⟩])
    have h0' : (0 : Int) < ((b.length - q : Nat) : Int) := by omega
    go_enter Try.func53, Try.ntmps53
    go_wp2
    go_ret
    rw [HR.out]
    exact ⟨rfl, rfl⟩
  · have HR := hide (show Num.endR b q 0 = 0 by unfold Num.endR; rw [if_neg (fun h => h0 h.2)])
    have h0' : ¬ ((0 : Int) < ((b.length - q : Nat) : Int)) := by omega
    go_enter Try.func53, Try.ntmps53
    go_wp2
    go_ret
    rw [HR.out]
    exact ⟨rfl, rfl⟩
theorem pcEnd_any {w : World} {g r q : Nat} {b : List UInt8} {e : Int} (h : PC w g r b q e) :
    Calls Try.prog 31 #[.pointer (some ⟨g, 0, none⟩)] w fun e' w' => e' = .returned (.int .i64 (Num.endR b q e)) ∧ PcTo w g r b q (Num.endR b q e) w' := by
  have hE := extNew w (.cells #[.pointer (some ⟨g, 0, none⟩)] 39)
  have hP := h.ext hE
  have hglt := h.lt
  have hB : (w.alloc (.cells #[.pointer (some ⟨g, 0, none⟩)] 39)).cell? ⟨w.heap.size, 0, none⟩ = some (.pointer (some ⟨g, 0, none⟩)) := cellNew w _ _ _ 0
  by_cases he : e = 0
  · subst he
    have C := read_any (R := fun er w' => er = Num.endR b q 0 ∧ w.alloc (.cells #[.pointer (some ⟨g, 0, none⟩)] 39) = w') entered_end1 hP ((end1_any hP hB).mono (by rintro e' w' ⟨rfl, rfl⟩; exact ⟨_, q, rfl, hP, rfl, rfl⟩))
    generalize Num.endR b q 0 = E at *
    have HP := hide hP
    have HE := hide hE
    have HB := hide hB
    clear hB hP hE h
    go_enter Try.func31, Try.ntmps31
    go_wp2_with fail
    refine C.mono ?_
    rintro e' w2 ⟨rfl, er, q', w3, _, ⟨rfl, rfl⟩, rfl⟩
    have hP2 := HP.out.setErr (e' := er)
    have hM2 := (Mod.ofExt (g := g) (ob := none) HE.out).trans (Mod.ofRow (grown_setCell _ g 2 (.int .i64 er))) (.inl rfl)
    have hB2 := ((Mod.ofRow (ob := none) (grown_setCell (w.alloc (.cells #[.pointer (some ⟨g, 0, none⟩)] 39)) g 2 (.int .i64 er))).cell (x := w.heap.size) (i := 0) (by simp) (by omega) (by simp)).trans HB.out
    generalize (w.alloc (.cells #[.pointer (some ⟨g, 0, none⟩)] 39)).setCell ⟨g, 2, none⟩ (.int .i64 er) = w2 at *
    have C2 := pcErr_any hP2
    go_wp2_with fail
    refine C2.mono ?_
    rintro e' w4 ⟨rfl, rfl⟩
    go_wp2
    go_ret
    exact ⟨rfl, hP2, hM2⟩
  · have HR := hide (show Num.endR b q e = e by unfold Num.endR; rw [if_neg (fun h => he h.1)])
    have C := read_stuck (K := 53) (cap := #[.pointer (some ⟨w.heap.size, 0, none⟩)]) hP he
    have C2 := pcErr_any hP
    have HP := hide hP
    have HE := hide hE
    clear hP hE h he
    go_enter Try.func31, Try.ntmps31
    go_wp2_with fail
    refine C.mono ?_
    rintro e' w2 ⟨rfl, rfl⟩
    go_wp2_with fail
    refine C2.mono ?_
    rintro e' w4 ⟨rfl, rfl⟩
    go_wp2
    go_ret
    rw [HR.out]
    exact ⟨rfl, HP.out, Mod.ofExt HE.out⟩
theorem pcEnd_nil (w : World) : Calls Try.prog 31 #[.pointer none] w fun e' w' => e' = .returned (.int .i64 13) ∧ Ext w w' := by
  have C := read_nil (w := w.alloc (.cells #[.pointer none] 39)) (K := 53) (cap := #[.pointer (some ⟨w.heap.size, 0, none⟩)])
  have HE := hide (extNew w (.cells #[.pointer none] 39))
  have hB : (w.alloc (.cells #[.pointer none] 39)).cell? ⟨w.heap.size, 0, none⟩ = some (.pointer none) := cellNew w _ _ _ 0
  have C2 := pcErr_nil (w.alloc (.cells #[.pointer none] 39))
  go_enter Try.func31, Try.ntmps31
  go_wp2_with fail
  refine C.mono ?_
  rintro e' w2 ⟨rfl, rfl⟩
  go_wp2_with fail
  refine C2.mono ?_
  rintro e' w4 ⟨rfl, rfl⟩
  go_wp2
  go_ret
  exact ⟨rfl, HE.out⟩
end Go.Proofs.Ytgnmdpklkmlpfaa
