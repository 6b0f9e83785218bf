/- What the laws of chapter 5 ask of the program's matrices; the example; what is more than statements reckon with. -/
import Derived.Test.YtedkajpodepkiaaMatPickR
import Derived.Test.YtedkajpodepkiaaMatMul
import Derived.Test.YtedkajpodepkiaaMatCauchy
import Derived.Test.YtedkajpodepkiaaMatSame
namespace Go.Proofs.Ytedkajpodepkiaa
open Go.RowKit

/-- From world w on, the program's functions tell what the document's tell. -/
def MatMayC (w : World) : Prop := ∀ (m : MV) (A : Option Addr) (k : Nat) (W : World), Ext w W → m.lies W A k → Calls Try.prog 15 #[m.arg A k] W fun e W' => e = .returned (.bool m.may) ∧ Ext W W'
def CauchyC (w : World) : Prop := ∀ (k m : Int) (W : World), Ext w W → Calls Try.prog 20 #[.int .i64 k, .int .i64 m] W (MadeM W (cauchyE k m).1 (cauchyE k m).2)
def MatMulC (w : World) : Prop := ∀ (a b : MV) (A1 A2 : Option Addr) (k1 k2 : Nat) (W : World), Ext w W → a.lies W A1 k1 → b.lies W A2 k2 → Calls Try.prog 27 #[a.arg A1 k1, b.arg A2 k2] W (MadeM W (a.mulE b).1 (a.mulE b).2)

theorem refMul_E (a b : MV) (A1 A2 : Option Addr) (k1 k2 : Nat) (W : World) (h1 : a.lies W A1 k1) (h2 : b.lies W A2 k2) :
    Calls Try.prog 28 #[a.arg A1 k1, b.arg A2 k2] W (MadeM W (a.mulE b).1 (a.mulE b).2) := by
  have h := refMatMul_any a b A1 A2 k1 k2 W h1.1 h2.1 h1.2.1 h2.2.1
  unfold MV.mulE
  unfold MV.arg
  by_cases hc : a.may = true ∧ b.may = true ∧ a.c = b.r
  · rw [if_pos hc] at h ⊢
    exact h
  · rw [if_neg hc] at h ⊢
    exact h

theorem cauchy21 : cauchyE 2 1 = (⟨1, 2, [142, 244]⟩, 0) := by
  have h2 : Mat.fi 2 = 142 := by decide +kernel
  have h3 : Mat.fi 3 = 244 := by decide +kernel
  have e2 : cauchyF 2 0 0 = 142 := h2
  have e3 : cauchyF 2 0 1 = 244 := h3
  simp only [cauchyE]
  rw [if_pos (by decide)]
  simp [cellsOf, List.range_succ, e2, e3]

theorem great_any (m : MV) (A : Option Addr) (k : Nat) (w : World) (h : m.lies w A k) :
    Calls Try.prog 22 #[m.arg A k] w fun e w' => e = .returned (.bool (m.may && decide (400 < m.l.length))) ∧ Ext w w' := by
  have C := fun W => refMay_any m A m.l.length k W rfl h.2.1
  have hE1 := extNew w (.cells #[.int .i64 m.r, .int .i64 m.c, .slice A m.l.length k] 24)
  have hW := Whole.new w 24 #[.int .i64 m.r, .int .i64 m.c, .slice A m.l.length k]
  unfold MV.arg
  by_cases hm : m.may = true
  · rw [hm] at C ⊢
    go_enter Try.func22, Try.ntmps22
    go_wp2_with fail
    refine (C _).mono ?_
    rintro e w2 ⟨rfl, hE2⟩
    have c2 := (hW.ext hE2).at 2 rfl
    go_wp2
    go_ret
    exact ⟨ret_bool (by rw [Bool.eq_iff_iff]; simp; omega), hE1.trans hE2⟩
  · rw [Bool.not_eq_true] at hm
    rw [hm] at C ⊢
    go_enter Try.func22, Try.ntmps22
    go_wp2_with fail
    refine (C _).mono ?_
    rintro e w2 ⟨rfl, hE2⟩
    go_wp2
    go_ret
    exact ⟨ret_bool rfl, hE1.trans hE2⟩

set_option maxHeartbeats 2000000 in
set_option maxRecDepth 100000 in
theorem alive5_any {w W : World} (hC : CauchyC w) (hE : Ext w W) : Calls Try.prog 14 #[] W fun e W' => e = .returned (.bool true) ∧ Ext W W' := by
  have C := hC 2 1 W hE
  rw [cauchy21] at C
  go_enter Try.func14, Try.ntmps14
  go_wp2_with fail
  refine C.mono ?_
  rintro e w2 ⟨v, rfl, hO, hE2⟩
  obtain ⟨A, n, c, rfl, hnc, hnl, hB⟩ := hO.form'
  have hn : n = 2 := hB.1.symm
  subst hn
  have hA := Whole.new w2 24 #[.int .i64 0, .int .i64 0, .slice none 0 0]
  have hE3 := extNew w2 (.cells #[.int .i64 0, .int .i64 0, .slice none 0 0] 24)
  dsimp only [matV]
  rcases hB.2 with h0 | ⟨g, o, rfl, hg, hc⟩
  · cases h0
  have m0 : w2.cell? ⟨g, o, none⟩ = some (.int .u8 142) := hc 0 (by decide)
  have m1 : w2.cell? ⟨g, o + 1, none⟩ = some (.int .u8 244) := hc 1 (by decide)
  clear C hB hc hO
  go_wp2_with (refine wpList_storeW rfl 24 (.tmp 1) (.tmp 5) rfl rfl rfl hA rfl mat_info (mat_one rfl) ?_; intro w5 hW5 hG5 hX5; have c0 := hW5.at 0 rfl; have c1 := hW5.at 1 rfl; have c2 := hW5.at 2 rfl; have hE5 : Ext w2 w5 := Below.grown hE3 hG5 hE3.le (fun k hk => (by cases hk; exact Nat.le_refl _)); have n0 := (hE5.cell (i := o) hg).trans m0; have n1 := (hE5.cell (i := o + 1) hg).trans m1)
  go_ret
  exact ⟨rfl, hE2.trans hE5⟩
end Go.Proofs.Ytedkajpodepkiaa
