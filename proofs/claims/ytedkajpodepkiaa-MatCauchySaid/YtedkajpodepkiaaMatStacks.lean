/- The law MatStacks. -/
import Derived.Test.YtedkajpodepkiaaMatMuls
import Derived.Test.YtedkajpodepkiaaMatStack
namespace Go.Proofs.Ytedkajpodepkiaa
open Go.RowKit

theorem MatsAt.ext {w w' : World} {A : Option Addr} {n : Nat} {L : List MIn} (h : MatsAt w w.heap.size A n L) (hE : Ext w w') : MatsAt w' w'.heap.size A n L := by
  refine ⟨h.1, h.2.imp_right ?_⟩
  rintro ⟨b, off, e, hb, hc⟩
  exact ⟨b, off, e, Nat.lt_of_lt_of_le hb hE.le, fun i hi => ⟨(hc i hi).1.ext hE hb, hE.bytes (hc i hi).2.1, (hc i hi).2.2⟩⟩
/-- From world w on, the program's Stack tells what the document's tells. -/
def StackC (w : World) : Prop := ∀ (L : List MIn) (A : Option Addr) (k : Nat) (W : World), Ext w W → MatsAt W W.heap.size A L.length L → L.length ≤ 140737488355328 → L.length ≤ k → Calls Try.prog 23 #[.slice A L.length k] W (MadeM W (stackE (L.map MIn.m)).1 (stackE (L.map MIn.m)).2)

set_option maxHeartbeats 4000000 in
set_option maxRecDepth 100000 in
theorem matStacks_walk0 (L : List MIn) (A : Option Addr) (k : Nat) (w : World) (hC : CauchyC w) (hM : StackC w) (h : MatsAt w w.heap.size A L.length L) (hl2 : L.length ≤ k) :
    Calls Try.prog 5 #[.slice A L.length k] w fun e w' => e = .returned (.bool true) ∧ Below w.heap.size w w' := by
  have P := fun W hE h1 hl => hM L A k W hE h1 hl hl2
  have R := fun W h1 hl => refStack_any L A k W h1 hl
  generalize (stackE (L.map MIn.m)).1 = m at *
  generalize (stackE (L.map MIn.m)).2 = er at *
  by_cases hg : (20 : Int) < (L.length : Int)
  · go_enter Try.func5, Try.ntmps5
    go_wp2_with fail
    refine (alive5_any hC (Ext.refl w)).mono ?_
    rintro e w1 ⟨rfl, hE1⟩
    go_wp2
    go_ret
    exact ⟨rfl, hE1⟩
  go_enter Try.func5, Try.ntmps5
  go_wp2_with fail
  refine (alive5_any hC (Ext.refl w)).mono ?_
  rintro e w1 ⟨rfl, hE1⟩
  have HH := hide h
  clear h
  go_wp2_with fail
  go_loopw [3] (fun i wr => ∃ j : Nat, j ≤ L.length ∧ i = .int .i64 (j : Int) ∧ Ext w wr) (fun i _ => L.length - (intOf i).toNat)
  case atStart => exact ⟨0, by omega, rfl, hE1⟩
  case round =>
    obtain ⟨i, hi, rfl, hEr⟩ := hrel
    by_cases hlt : i < L.length
    · rcases HH.out.2 with h1 | ⟨gl, ol, rfl, hgl, hcs⟩
      · omega
      obtain ⟨hat, hBx, hlx⟩ := hcs i hlt
      have hat' := hat.ext hEr hgl
      have hBx' := hEr.bytes hBx
      have G := great_any (L.getD i default).m (L.getD i default).A (L.getD i default).k wr ⟨hBx', hlx⟩
      unfold MV.arg at G
      have i0 : (0 : Int) ≤ (i : Int) := by omega
      have i1 : (i : Int) < (L.length : Int) := by omega
      clear hcs hat hBx
      generalize L.getD i default = x at *
      obtain ⟨⟨mr, mc, ml⟩, Ax, kx⟩ := x
      dsimp only at *
      obtain ⟨a0, a1, a2⟩ := hat'
      dsimp only at a0 a1 a2
      go_wp2_with fail
      refine G.mono ?_
      rintro e w2 ⟨rfl, hE2⟩
      generalize (MV.may ⟨mr, mc, ml⟩ && decide (400 < ml.length)) = b
      clear G a0 a1 a2 hBx' hlx
      cases b
      · go_wp2
        go_roundw
        case rel => exact ⟨i + 1, by omega, by go_num, hEr.trans hE2⟩
        case measure => simp [intOf]; omega
      · go_wp2
        go_ret
        exact ⟨rfl, hEr.trans hE2⟩
    · obtain rfl : i = L.length := by omega
      have h := HH.out
      go_wp2_with fail
      refine (P wr hEr (h.ext hEr) (by omega)).mono ?_
      rintro e w4 ⟨v, rfl, hO, hE4⟩
      obtain ⟨A4, n, c, rfl, _, _, hB⟩ := hO.form'
      have hA := Whole.new w4 24 #[.int .i64 0, .int .i64 0, .slice none 0 0]
      have k4' := hEr.trans hE4
      dsimp only [matV]
      go_wp2_with (refine wpList_storeW rfl 24 (.tmp 4) (.tmp 27) rfl rfl rfl hA rfl mat_info (mat_one rfl) ?_; intro w5 hW5 hG5 _; have hE5 := Ext.put hG5; have k5' := k4'.trans hE5)
      refine (R w5 (h.ext k5') (by omega)).mono ?_
      rintro e w6 ⟨v, rfl, hO2, hE6⟩
      obtain ⟨A', n', c', rfl, _, _, hB'⟩ := hO2.form'
      have hA6 := Whole.new w6 24 #[.int .i64 0, .int .i64 0, .slice none 0 0]
      have hW6 := hW5.ext hE6
      have k6' := k5'.trans hE6
      dsimp only [matV]
      go_wp2_with (refine wpList_storeW rfl 24 (.tmp 6) (.tmp 32) rfl rfl rfl hA6 rfl mat_info (mat_one rfl) ?_; intro w7 hW7 hG7 _; have hE7 := Ext.put hG7; have hW67 := hW6.ext hE7; have f0 := hW67.at 0 rfl; have f1 := hW67.at 1 rfl; have f2 := hW67.at 2 rfl; have g0 := hW7.at 0 rfl; have g1 := hW7.at 1 rfl; have g2 := hW7.at 2 rfl)
      refine (refSame_any m.r m.c m.r m.c A4 A' n n' c c' m.l m.l w7 (((hE5.trans hE6).trans hE7).bytes hB) (hE7.bytes hB')).mono ?_
      rintro e w8 ⟨rfl, hE8⟩
      go_wp2
      go_ret
      exact ⟨ret_bool (by simp), (k6'.trans hE7).trans hE8⟩
end Go.Proofs.Ytedkajpodepkiaa
