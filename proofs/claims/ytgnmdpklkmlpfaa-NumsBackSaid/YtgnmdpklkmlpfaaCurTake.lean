/- The closures that go on last: they tell what was read and take the bytes ahead. -/
import Derived.Test.YtgnmdpklkmlpfaaCurRow
import Derived.Deep.QuietTactic
import Derived.BigQuiet
import Derived.Deep.RegionLaw
import Derived.StillTailTactics
namespace Go.Proofs.Ytgnmdpklkmlpfaa
open Go.RowKit

/-- Behind a closure that goes on: block t holds what it told, the cursor stands at q. -/
def Told (w : World) (g r t : Nat) (T : TypeId) (b : List UInt8) (v : Value) (q : Nat) (w' : World) : Prop := PC w' g r b q 0 ∧ Whole w' t T #[v] ∧ Mod w w' g (some t)
theorem Told.refl {w : World} {g r t q : Nat} {T : TypeId} {b : List UInt8} {v : Value} (h : PC w g r b q 0) (ht : Whole w t T #[v]) : Told w g r t T b v q w := ⟨h, ht, Mod.refl _ _ _⟩
theorem Told.from {w w' w'' : World} {g r t q : Nat} {T : TypeId} {b : List UInt8} {v : Value} (hE : Ext w w') (h : Told w' g r t T b v q w'') : Told w g r t T b v q w'' := ⟨h.1, h.2.1, (Mod.ofExt hE).trans h.2.2 (.inl rfl)⟩

/-- What is told is stored: the cursor stays. -/
theorem PC.told {w w' : World} {g r t q : Nat} {b : List UInt8} {e : Int} (h : PC w g r b q e) (hM : Mod w w' g (some t)) (hG : w'.heap[g]? = w.heap[g]?) (htr : t ≠ r) : PC w' g r b q e := by
  obtain ⟨A, c, hW, hc, hR, hr, h⟩ := h
  exact ⟨A, c, hG.trans hW, hc, hR.mod hM hr (by simpa using htr), Nat.lt_of_lt_of_le hr hM.size, h⟩

/-- The bytes ahead are taken. -/
theorem PC.moved {w : World} {g r q p c : Nat} {b : List UInt8} {e z : Int} {A : Option Addr} (h : PC w g r b q e) (hR : RowIn w g r A (b.length - p) (b.drop p)) (hc : b.length - p ≤ c) (hp : p ≤ b.length) (hz : z = (p : Int)) :
    PC ((w.setCell ⟨g, 1, none⟩ (.int .i64 z)).setCell ⟨g, 0, none⟩ (.slice A (b.length - p) c)) g r b p e := by
  obtain ⟨A0, c0, hW, _, _, hr, _, hl⟩ := h
  subst hz
  refine ⟨A, c, (hW.set 1 _).set 0 _, hc, ?_, by simpa using hr, hp, hl⟩
  have h1 := hR.mod (ob := none) (Mod.ofRow (grown_setCell w g 1 (.int .i64 (p : Int)))) hr (by simp)
  exact h1.mod (ob := none) (Mod.ofRow (grown_setCell _ g 0 _)) (by simpa using hr) (by simp)
theorem PC.movedMod {w : World} {g r q : Nat} {b : List UInt8} {e : Int} (_h : PC w g r b q e) (u v : Value) {ob : Option Nat} : Mod w ((w.setCell ⟨g, 1, none⟩ u).setCell ⟨g, 0, none⟩ v) g ob :=
  (Mod.ofRow (ob := ob) (grown_setCell w g 1 u)).trans (Mod.ofRow (grown_setCell _ g 0 v)) (.inl rfl)
theorem PC.wholeFar {w : World} {g r q t : Nat} {b : List UInt8} {e : Int} (_h : PC w g r b q e) {T : TypeId} {cs : Array Value} (hW : Whole w t T cs) (htg : t ≠ g) {u v : Value} : Whole ((w.setCell ⟨g, 1, none⟩ u).setCell ⟨g, 0, none⟩ v) t T cs :=
  (hW.far htg 1 u).far htg 0 v

theorem taker64_any (g t : Nat) (w : World) :
    Calls Try.prog 41 #[.pointer (some ⟨g, 0, none⟩), .pointer (some ⟨t, 0, none⟩)] w fun e w' =>
      ∃ Bt Bc, e = .returned (.func (.func 55) #[] #[.pointer (some ⟨Bt, 0, none⟩), .pointer (some ⟨Bc, 0, none⟩)]) ∧ w.heap.size ≤ Bt ∧ w.heap.size ≤ Bc ∧
        w'.cell? ⟨Bt, 0, none⟩ = some (.pointer (some ⟨t, 0, none⟩)) ∧ w'.cell? ⟨Bc, 0, none⟩ = some (.pointer (some ⟨g, 0, none⟩)) ∧ Ext w w' := by
  go_enter Try.func41, Try.ntmps41
  go_wp2
  go_ret
  have h1 := cellNew (w.alloc (.cells #[.pointer (some ⟨g, 0, none⟩)] 39)) #[.pointer (some ⟨t, 0, none⟩)] 65 (0, 0) 0
  rw [World.size_alloc] at h1
  exact ⟨w.heap.size + 1, w.heap.size, rfl, by omega, by omega, h1, ((extNew _ _).cell (i := 0) (by simp)).trans (cellNew w _ _ _ 0), (extNew w _).trans (extNew _ _)⟩

set_option maxHeartbeats 2000000 in
set_option maxRecDepth 100000 in
theorem tell64_any {w : World} {g r t Bt Bc q p c : Nat} {b : List UInt8} {A : Option Addr} {v0 : Value} {x : Int} (h : PC w g r b q 0) (hqp : q ≤ p) (hp : p ≤ b.length) (hBt : w.cell? ⟨Bt, 0, none⟩ = some (.pointer (some ⟨t, 0, none⟩))) (hBc : w.cell? ⟨Bc, 0, none⟩ = some (.pointer (some ⟨g, 0, none⟩)))
    (ht : Whole w t 22 #[v0]) (htg : t ≠ g) (htr : t ≠ r) (hct : Bc ≠ t) (hcg : Bc ≠ g) (hR : RowIn w g r A (b.length - p) (b.drop p)) (hc : b.length - p ≤ c) :
    Calls Try.prog 55 #[.int .u64 x, .slice A (b.length - p) c, .pointer (some ⟨Bt, 0, none⟩), .pointer (some ⟨Bc, 0, none⟩)] w fun e w' => e = .returned (.int .i64 0) ∧ Told w g r t 22 b (.int .u64 x) p w' := by
  obtain ⟨A0, c0, d0, d1, d2, f0, f1, f2, hc0, hR0⟩ := h.cells
  obtain ⟨hq, hl⟩ := h.bounds
  have htlt := ht.lt
  have hrlt := h.rlt
  have hglt := h.lt
  go_enter Try.func55, Try.ntmps55
  go_wp2_with (refine wpList_storeC rfl 22 (.tmp 9) (.tmp 8) rfl #[.int .u64 x] rfl rfl ht (by simp) (by kernel_rfl) rfl rfl rfl ?_; intro w1 hW1 hG1; have hM1 : Mod w w1 g (some t) := Mod.ofOwn hG1; have hP1 := h.told hM1 (hG1.block g hglt (by simpa using fun e => htg e.symm)) htr; obtain ⟨A1, c1, e0, e1, e2, k0, k1, k2, hc1, hR1⟩ := hP1.cells; have hBc1 := (hM1.cell (x := Bc) (i := 0) (World.block_lt_of_cell? w ⟨Bc, 0, none⟩ hBc) hcg (by simpa using fun e => hct e.symm)).trans hBc)
  go_still_tail 13, (by kernel_rfl)
  change wpList _ _ _ _ _ w1.drew
  have hE2 : Ext w1 w1.drew := (Ext.refl w1).drew
  have hP2 := hP1.ext hE2
  have hW2 := hW1.ext hE2
  have hM2 : Mod w w1.drew g (some t) := hM1.trans (Mod.ofExt hE2) (.inl rfl)
  have hBc2 := (hE2.cell (i := 0) (World.block_lt_of_cell? w1 ⟨Bc, 0, none⟩ hBc1)).trans hBc1
  clear hBc1 hG1 e0 e1 e2 k0 k1 k2
  generalize w1.drew = w2 at *
  obtain ⟨A2, c2, e0, e1, e2, k0, k1, k2, hc2, hR2⟩ := hP2.cells
  clear hR1 hR2 hR0 d0 d1 d2 f0 f1 f2
  go_wp2_with fail
  go_ret
  have hR2 := hR.mod hM2 hrlt (by simpa using htr)
  exact ⟨rfl, hP2.moved hR2 hc hp (by omega), hP2.wholeFar hW2 htg, hM2.trans (hP2.movedMod _ _) (.inl rfl)⟩
theorem takerInt_any (g t : Nat) (w : World) :
    Calls Try.prog 44 #[.pointer (some ⟨g, 0, none⟩), .pointer (some ⟨t, 0, none⟩)] w fun e w' =>
      ∃ Bt Bc, e = .returned (.func (.func 57) #[] #[.pointer (some ⟨Bt, 0, none⟩), .pointer (some ⟨Bc, 0, none⟩)]) ∧ w.heap.size ≤ Bt ∧ w.heap.size ≤ Bc ∧
        w'.cell? ⟨Bt, 0, none⟩ = some (.pointer (some ⟨t, 0, none⟩)) ∧ w'.cell? ⟨Bc, 0, none⟩ = some (.pointer (some ⟨g, 0, none⟩)) ∧ Ext w w' := by
  go_enter Try.func44, Try.ntmps44
  go_wp2
  go_ret
  have h1 := cellNew (w.alloc (.cells #[.pointer (some ⟨g, 0, none⟩)] 39)) #[.pointer (some ⟨t, 0, none⟩)] 69 (0, 0) 0
  rw [World.size_alloc] at h1
  exact ⟨w.heap.size + 1, w.heap.size, rfl, by omega, by omega, h1, ((extNew _ _).cell (i := 0) (by simp)).trans (cellNew w _ _ _ 0), (extNew w _).trans (extNew _ _)⟩

set_option maxHeartbeats 2000000 in
set_option maxRecDepth 100000 in
theorem tellInt_any {w : World} {g r t Bt Bc q p c : Nat} {b : List UInt8} {A : Option Addr} {v0 : Value} {x : Int} (h : PC w g r b q 0) (hqp : q ≤ p) (hp : p ≤ b.length) (hBt : w.cell? ⟨Bt, 0, none⟩ = some (.pointer (some ⟨t, 0, none⟩))) (hBc : w.cell? ⟨Bc, 0, none⟩ = some (.pointer (some ⟨g, 0, none⟩)))
    (ht : Whole w t 3 #[v0]) (htg : t ≠ g) (htr : t ≠ r) (hct : Bc ≠ t) (hcg : Bc ≠ g) (hR : RowIn w g r A (b.length - p) (b.drop p)) (hc : b.length - p ≤ c) :
    Calls Try.prog 57 #[.int .i64 x, .slice A (b.length - p) c, .pointer (some ⟨Bt, 0, none⟩), .pointer (some ⟨Bc, 0, none⟩)] w fun e w' => e = .returned (.int .i64 0) ∧ Told w g r t 3 b (.int .i64 x) p w' := by
  obtain ⟨A0, c0, d0, d1, d2, f0, f1, f2, hc0, hR0⟩ := h.cells
  obtain ⟨hq, hl⟩ := h.bounds
  have htlt := ht.lt
  have hrlt := h.rlt
  have hglt := h.lt
  go_enter Try.func57, Try.ntmps57
  go_wp2_with (refine wpList_storeC rfl 3 (.tmp 9) (.tmp 8) rfl #[.int .i64 x] rfl rfl ht (by simp) (by kernel_rfl) rfl rfl rfl ?_; intro w1 hW1 hG1; have hM1 : Mod w w1 g (some t) := Mod.ofOwn hG1; have hP1 := h.told hM1 (hG1.block g hglt (by simpa using fun e => htg e.symm)) htr; obtain ⟨A1, c1, e0, e1, e2, k0, k1, k2, hc1, hR1⟩ := hP1.cells; have hBc1 := (hM1.cell (x := Bc) (i := 0) (World.block_lt_of_cell? w ⟨Bc, 0, none⟩ hBc) hcg (by simpa using fun e => hct e.symm)).trans hBc)
  go_still_tail 13, (by kernel_rfl)
  change wpList _ _ _ _ _ w1.drew
  have hE2 : Ext w1 w1.drew := (Ext.refl w1).drew
  have hP2 := hP1.ext hE2
  have hW2 := hW1.ext hE2
  have hM2 : Mod w w1.drew g (some t) := hM1.trans (Mod.ofExt hE2) (.inl rfl)
  have hBc2 := (hE2.cell (i := 0) (World.block_lt_of_cell? w1 ⟨Bc, 0, none⟩ hBc1)).trans hBc1
  clear hBc1 hG1 e0 e1 e2 k0 k1 k2
  generalize w1.drew = w2 at *
  obtain ⟨A2, c2, e0, e1, e2, k0, k1, k2, hc2, hR2⟩ := hP2.cells
  clear hR1 hR2 hR0 d0 d1 d2 f0 f1 f2
  go_wp2_with fail
  go_ret
  have hR2 := hR.mod hM2 hrlt (by simpa using htr)
  exact ⟨rfl, hP2.moved hR2 hc hp (by omega), hP2.wholeFar hW2 htg, hM2.trans (hP2.movedMod _ _) (.inl rfl)⟩
theorem takerRow_any (g t : Nat) (w : World) :
    Calls Try.prog 49 #[.pointer (some ⟨g, 0, none⟩), .pointer (some ⟨t, 0, none⟩)] w fun e w' =>
      ∃ Bt Bc, e = .returned (.func (.func 59) #[] #[.pointer (some ⟨Bt, 0, none⟩), .pointer (some ⟨Bc, 0, none⟩)]) ∧ w.heap.size ≤ Bt ∧ w.heap.size ≤ Bc ∧
        w'.cell? ⟨Bt, 0, none⟩ = some (.pointer (some ⟨t, 0, none⟩)) ∧ w'.cell? ⟨Bc, 0, none⟩ = some (.pointer (some ⟨g, 0, none⟩)) ∧ Ext w w' := by
  go_enter Try.func49, Try.ntmps49
  go_wp2
  go_ret
  have h1 := cellNew (w.alloc (.cells #[.pointer (some ⟨g, 0, none⟩)] 39)) #[.pointer (some ⟨t, 0, none⟩)] 74 (0, 0) 0
  rw [World.size_alloc] at h1
  exact ⟨w.heap.size + 1, w.heap.size, rfl, by omega, by omega, h1, ((extNew _ _).cell (i := 0) (by simp)).trans (cellNew w _ _ _ 0), (extNew w _).trans (extNew _ _)⟩

set_option maxHeartbeats 2000000 in
set_option maxRecDepth 100000 in
theorem tellRow_any {w : World} {g r t Bt Bc q p c : Nat} {b : List UInt8} {A : Option Addr} {v0 : Value} {Ax : Option Addr} {nx cx : Nat} (h : PC w g r b q 0) (hqp : q ≤ p) (hp : p ≤ b.length) (hBt : w.cell? ⟨Bt, 0, none⟩ = some (.pointer (some ⟨t, 0, none⟩))) (hBc : w.cell? ⟨Bc, 0, none⟩ = some (.pointer (some ⟨g, 0, none⟩)))
    (ht : Whole w t 58 #[v0]) (htg : t ≠ g) (htr : t ≠ r) (hct : Bc ≠ t) (hcg : Bc ≠ g) (hR : RowIn w g r A (b.length - p) (b.drop p)) (hc : b.length - p ≤ c) :
    Calls Try.prog 59 #[.slice Ax nx cx, .slice A (b.length - p) c, .pointer (some ⟨Bt, 0, none⟩), .pointer (some ⟨Bc, 0, none⟩)] w fun e w' => e = .returned (.int .i64 0) ∧ Told w g r t 58 b (.slice Ax nx cx) p w' := by
  obtain ⟨A0, c0, d0, d1, d2, f0, f1, f2, hc0, hR0⟩ := h.cells
  obtain ⟨hq, hl⟩ := h.bounds
  have htlt := ht.lt
  have hrlt := h.rlt
  have hglt := h.lt
  go_enter Try.func59, Try.ntmps59
  go_wp2_with (refine wpList_storeC rfl 58 (.tmp 9) (.tmp 8) rfl #[.slice Ax nx cx] rfl rfl ht (by simp) (by kernel_rfl) rfl rfl rfl ?_; intro w1 hW1 hG1; have hM1 : Mod w w1 g (some t) := Mod.ofOwn hG1; have hP1 := h.told hM1 (hG1.block g hglt (by simpa using fun e => htg e.symm)) htr; obtain ⟨A1, c1, e0, e1, e2, k0, k1, k2, hc1, hR1⟩ := hP1.cells; have hBc1 := (hM1.cell (x := Bc) (i := 0) (World.block_lt_of_cell? w ⟨Bc, 0, none⟩ hBc) hcg (by simpa using fun e => hct e.symm)).trans hBc)
  go_still_tail 13, (by kernel_rfl)
  change wpList _ _ _ _ _ w1.drew
  have hE2 : Ext w1 w1.drew := (Ext.refl w1).drew
  have hP2 := hP1.ext hE2
  have hW2 := hW1.ext hE2
  have hM2 : Mod w w1.drew g (some t) := hM1.trans (Mod.ofExt hE2) (.inl rfl)
  have hBc2 := (hE2.cell (i := 0) (World.block_lt_of_cell? w1 ⟨Bc, 0, none⟩ hBc1)).trans hBc1
  clear hBc1 hG1 e0 e1 e2 k0 k1 k2
  generalize w1.drew = w2 at *
  obtain ⟨A2, c2, e0, e1, e2, k0, k1, k2, hc2, hR2⟩ := hP2.cells
  clear hR1 hR2 hR0 d0 d1 d2 f0 f1 f2
  go_wp2_with fail
  go_ret
  have hR2 := hR.mod hM2 hrlt (by simpa using htr)
  exact ⟨rfl, hP2.moved hR2 hc hp (by omega), hP2.wholeFar hW2 htg, hM2.trans (hP2.movedMod _ _) (.inl rfl)⟩
end Go.Proofs.Ytgnmdpklkmlpfaa
