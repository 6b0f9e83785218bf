/- What the laws of chapter 8 ask of the program's parts; the example; CanonChecks, CanonCodes. -/
import Derived.Test.YtabhemmmefefgaaCanRef
import Derived.Test.YtabhemmmefefgaaCanRefC
import Derived.BigQuiet
namespace Go.Proofs.Ytabhemmmefefgaa
open Go.RowKit Len Can

theorem Can.codes_example : codesE [1, 3, 3, 2] = ([0, 6, 7, 2], 0) := by decide +kernel
/-- From world w on, the program's functions tell what the document's tell. -/
def CheckC (w : World) : Prop := ∀ (l : List UInt8) (A : Option Addr) (n c : Nat) (W : World), Ext w W → n ≤ c → c ≤ maxLen → Bytes W W.heap.size A n l →
  Calls Try.prog 11 #[.slice A n c] W fun e w' => e = .returned (.int .i64 (checkE l)) ∧ Ext W w'
def CodesC (w : World) : Prop := ∀ (l : List UInt8) (A : Option Addr) (n c : Nat) (W : World), Ext w W → n ≤ c → c ≤ maxLen → Bytes W W.heap.size A n l → Calls Try.prog 13 #[.slice A n c] W (TellsH W (codesE l))

set_option maxHeartbeats 2000000 in
set_option maxRecDepth 100000 in
theorem alive8_any {w W : World} (hL : CodesC w) (hE : Ext w W) : Calls Try.prog 10 #[] W fun e W' => e = .returned (.bool true) ∧ Ext W W' := by
  have hE1 := extNew W (.cells #[.int .u8 1, .int .u8 3, .int .u8 3, .int .u8 2] 5)
  have hb1 := bytesNew W [1, 3, 3, 2] #[.int .u8 1, .int .u8 3, .int .u8 3, .int .u8 2] 5 (0, 0) rfl 4 rfl
  have C := hL [1, 3, 3, 2] _ 4 4 _ (hE.trans hE1) (Nat.le_refl _) (by unfold maxLen; omega) hb1
  rw [codes_example] at C
  clear hb1
  go_enter Try.func10, Try.ntmps10
  go_wp2_with fail
  refine C.mono ?_
  rintro e w2 ⟨v, rfl, hO, hE2⟩
  dsimp only at hO
  obtain ⟨A, c, rfl, hc, hm, hA⟩ := hO.form
  rcases hA with h0 | ⟨g, rfl, _⟩
  · simp at h0
  have c0 : w2.cell? ⟨g, 0, none⟩ = some (.int .u16 0) := (hO.cell (i := 0) (by decide)).1
  have c1 : w2.cell? ⟨g, 1, none⟩ = some (.int .u16 6) := (hO.cell (i := 1) (by decide)).1
  have c2 : w2.cell? ⟨g, 2, none⟩ = some (.int .u16 7) := (hO.cell (i := 2) (by decide)).1
  have c3 : w2.cell? ⟨g, 3, none⟩ = some (.int .u16 2) := (hO.cell (i := 3) (by decide)).1
  clear hO C
  go_wp2
  go_ret
  exact ⟨rfl, hE1.trans hE2⟩

set_option maxHeartbeats 2000000 in
theorem canonChecks_walk0 (A : Option Addr) (n c : Nat) (l : List UInt8) (w : World) (hK : CheckC w) (hL : CodesC w) (hn : n ≤ c) (hc : c ≤ maxLen) (hb : Bytes w w.heap.size A n l) :
    Calls Try.prog 3 #[.slice A n c] w fun e w' => e = .returned (.bool true) ∧ Ext w w' := by
  have C0 := alive8_any hL (Ext.refl w)
  by_cases hbig : 400 < n
  · have hbI : (400 : Int) < (n : Int) := by omega
    go_enter Try.func3, Try.ntmps3
    go_wp2_with fail
    refine C0.mono ?_
    rintro e w1 ⟨rfl, hE1⟩
    go_wp2
    go_ret
    exact ⟨rfl, hE1⟩
  · have hbI : ¬ (400 : Int) < (n : Int) := by omega
    go_enter Try.func3, Try.ntmps3
    go_wp2_with fail
    refine C0.mono ?_
    rintro e w1 ⟨rfl, hE1⟩
    have C1 := hK l A n c w1 hE1 hn hc (hE1.bytes hb)
    clear C0
    generalize hck : checkE l = ck at *
    go_wp2_with fail
    refine C1.mono ?_
    rintro e w2 ⟨rfl, hE2⟩
    have C2 := refCheck_any A n c l w2 ((hE1.trans hE2).bytes hb)
    rw [hck] at C2
    clear C1
    go_wp2_with fail
    refine C2.mono ?_
    rintro e w3 ⟨rfl, hE3⟩
    have hck2 : ((ck : Int) == ck) = true := by simp
    clear hck C2
    go_wp2
    go_ret
    exact ⟨rfl, (hE1.trans hE2).trans hE3⟩
end Go.Proofs.Ytabhemmmefefgaa
