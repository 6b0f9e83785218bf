/- The law MatMay. -/
import Derived.Test.YtedkajpodepkiaaMatLaw
import Derived.Deep.RegionHeld3
namespace Go.Proofs.Ytedkajpodepkiaa
open Go.RowKit

/-- A matrix that came in lies in a block of its own. -/
def MV.kept (m : MV) (w : World) (g : Nat) (A : Option Addr) (k : Nat) (W : World) : Prop := Ext w W ∧ W.cell? ⟨g, 0, none⟩ = some (.int .i64 m.r) ∧ W.cell? ⟨g, 1, none⟩ = some (.int .i64 m.c) ∧ W.cell? ⟨g, 2, none⟩ = some (.slice A m.l.length k) ∧ g < W.heap.size
theorem MV.kept.ext {m : MV} {w W W' : World} {g : Nat} {A : Option Addr} {k : Nat} (h : m.kept w g A k W) (hE : Ext W W') : m.kept w g A k W' := by
  obtain ⟨h1, h2, h3, h4, h5⟩ := h
  exact ⟨h1.trans hE, (hE.cell (i := 0) h5).trans h2, (hE.cell (i := 1) h5).trans h3, (hE.cell (i := 2) h5).trans h4, Nat.lt_of_lt_of_le h5 hE.le⟩

set_option maxHeartbeats 4000000 in
set_option maxRecDepth 100000 in
theorem matMay_walk0 (m : MV) (A : Option Addr) (k : Nat) (w : World) (hC : CauchyC w) (hM : MatMayC w) (h : m.lies w A k) :
    Calls Try.prog 3 #[m.arg A k] w fun e w' => e = .returned (.bool true) ∧ Below w.heap.size w w' := by
  have C0 := fun W (hE : Ext w W) => alive5_any hC hE
  have C1 := fun W (hE : Ext w W) => hM m A k W hE (h.ext hE)
  have C2 := fun W => refMay_any m A m.l.length k W rfl h.2.1
  generalize m.may = b at *
  unfold MV.arg at *
  obtain ⟨r, c, l⟩ := m
  dsimp only at *
  have hE0 := (extNew w (.cells #[.int .i64 r, .int .i64 c, .slice A l.length k] 24))
  have hW := Whole.new w 24 #[.int .i64 r, .int .i64 c, .slice A l.length k]
  have hK : MV.kept ⟨r, c, l⟩ w w.heap.size A k (w.alloc (.cells #[.int .i64 r, .int .i64 c, .slice A l.length k] 24)) := ⟨hE0, hW.at 0 rfl, hW.at 1 rfl, hW.at 2 rfl, hW.lt⟩
  have hD : ∀ W, MV.kept ⟨r, c, l⟩ w w.heap.size A k W → MV.kept ⟨r, c, l⟩ w w.heap.size A k W.drew := fun W h => h.ext (Ext.refl W).drew
  have hS : ∀ W, MV.kept ⟨r, c, l⟩ w w.heap.size A k W → W.cell? ⟨w.heap.size, 0, none⟩ = some (.int .i64 r) ∧ W.cell? ⟨w.heap.size, 1, none⟩ = some (.int .i64 c) ∧ W.cell? ⟨w.heap.size, 2, none⟩ = some (.slice A l.length k) ∧ MV.kept ⟨r, c, l⟩ w w.heap.size A k W := fun W h => ⟨h.2.1, h.2.2.1, h.2.2.2.1, h⟩
  have hT : ∀ W, (W.cell? ⟨w.heap.size, 0, none⟩ = some (.int .i64 r) ∧ W.cell? ⟨w.heap.size, 1, none⟩ = some (.int .i64 c) ∧ W.cell? ⟨w.heap.size, 2, none⟩ = some (.slice A l.length k) ∧ MV.kept ⟨r, c, l⟩ w w.heap.size A k W) → MV.kept ⟨r, c, l⟩ w w.heap.size A k W := fun W h => h.2.2.2
  have hK' := hD _ hK
  clear hE0 hW
  go_enter Try.func3, Try.ntmps3
  go_wp2_with fail
  go_region_held3 (fun W => W.cell? ⟨w.heap.size, 0, none⟩ = some (.int .i64 r) ∧ W.cell? ⟨w.heap.size, 1, none⟩ = some (.int .i64 c) ∧ W.cell? ⟨w.heap.size, 2, none⟩ = some (.slice A l.length k) ∧ MV.kept ⟨r, c, l⟩ w w.heap.size A k W)
    (first | exact hS _ hK | exact hS _ hK' | exact hS _ (MV.kept.ext (hT _ (by assumption)) hE2)) (first
    | (go_at_call 14; refine (C0 _ (hT _ (by assumption)).1).mono ?_; rintro e w2 ⟨rfl, hE2⟩)
    | (go_at_call 15; refine (C1 _ (hT _ (by assumption)).1).mono ?_; rintro e w2 ⟨rfl, hE2⟩)
    | (go_at_call 16; refine (C2 _).mono ?_; rintro e w2 ⟨rfl, hE2⟩))
  all_goals go_wp2
  all_goals go_ret
  all_goals exact ⟨ret_bool (by simp), (hT _ (by assumption)).1⟩
end Go.Proofs.Ytedkajpodepkiaa
