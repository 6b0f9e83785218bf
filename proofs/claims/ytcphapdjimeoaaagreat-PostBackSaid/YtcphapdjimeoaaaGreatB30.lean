/- The closures that go on last: they tell what was read and take the bytes ahead. The row's reading methods: number, first. The row's reading methods: first, count, fixed, text. The row's reading methods: count, fixed, text. What goes on in each of the cursor's reading calls: the number. The program's cursor: Num, whatever its state. The program's cursor: New, Left, At, Err, Fail, End. What goes on in the cursor's reading calls: a number that is at most so much, a fixed number, bytes, a text. Pieces of the program's row: cloned, and told as a text. The program's cursor: Int, Byte, Fixed, Take, Text, whatever its state. The program's bucket of chapter 16: follow, first, further. -/
import Derived.Test.YtcphapdjimeoaaaGreatB01
import Derived.Test.YtcphapdjimeoaaaGreatB03
import Derived.Test.YtcphapdjimeoaaaGreatB04
import Derived.Test.YtcphapdjimeoaaaGreatB06
import Derived.Test.YtcphapdjimeoaaaGreatB21
import Derived.Deep.QuietTactic
import Derived.BigQuiet
import Derived.Deep.RegionLaw
import Derived.StillTailTactics
import Derived.Laws.Concat
namespace Go.Proofs.YtcphapdjimeoaaaGreat
open Go.RowKit

/-- Behind a closure that goes on: block t holds what it told, the cursor stands at q. -/
def Told (w : World) (g r t : Nat) (T : TypeId) (b : List UInt8) (v : Value) (q : Nat) (w' : World) : Prop := PC w' g r b q 0 ∧ Whole w' t T #[v] ∧ Mod w w' g (some t)
theorem Told.refl {w : World} {g r t q : Nat} {T : TypeId} {b : List UInt8} {v : Value} (h : PC w g r b q 0) (ht : Whole w t T #[v]) : Told w g r t T b v q w := ⟨h, ht, Mod.refl _ _ _⟩
theorem Told.from {w w' w'' : World} {g r t q : Nat} {T : TypeId} {b : List UInt8} {v : Value} (hE : Ext w w') (h : Told w' g r t T b v q w'') : Told w g r t T b v q w'' := ⟨h.1, h.2.1, (Mod.ofExt hE).trans h.2.2 (.inl rfl)⟩

/-- What is told is stored: the cursor stays. -/
theorem PC.told {w w' : World} {g r t q : Nat} {b : List UInt8} {e : Int} (h : PC w g r b q e) (hM : Mod w w' g (some t)) (hG : w'.heap[g]? = w.heap[g]?) (htr : t ≠ r) : PC w' g r b q e := by
  obtain ⟨A, c, hW, hc, hR, hr, h⟩ := h
  exact ⟨A, c, hG.trans hW, hc, hR.mod hM hr (by simpa using htr), Nat.lt_of_lt_of_le hr hM.size, h⟩

/-- The bytes ahead are taken. -/
theorem PC.moved {w : World} {g r q p c : Nat} {b : List UInt8} {e z : Int} {A : Option Addr} (h : PC w g r b q e) (hR : RowIn w g r A (b.length - p) (b.drop p)) (hc : b.length - p ≤ c) (hp : p ≤ b.length) (hz : z = (p : Int)) :
    PC ((w.setCell ⟨g, 1, none⟩ (.int .i64 z)).setCell ⟨g, 0, none⟩ (.slice A (b.length - p) c)) g r b p e := by
  obtain ⟨A0, c0, hW, _, _, hr, _, hl⟩ := h
  subst hz
  refine ⟨A, c, (hW.set 1 _).set 0 _, hc, ?_, by simpa using hr, hp, hl⟩
  have h1 := hR.mod (ob := none) (Mod.ofRow (grown_setCell w g 1 (.int .i64 (p : Int)))) hr (by simp)
  exact h1.mod (ob := none) (Mod.ofRow (grown_setCell _ g 0 _)) (by simpa using hr) (by simp)
theorem PC.movedMod {w : World} {g r q : Nat} {b : List UInt8} {e : Int} (_h : PC w g r b q e) (u v : Value) {ob : Option Nat} : Mod w ((w.setCell ⟨g, 1, none⟩ u).setCell ⟨g, 0, none⟩ v) g ob :=
  (Mod.ofRow (ob := ob) (grown_setCell w g 1 u)).trans (Mod.ofRow (grown_setCell _ g 0 v)) (.inl rfl)
theorem PC.wholeFar {w : World} {g r q t : Nat} {b : List UInt8} {e : Int} (_h : PC w g r b q e) {T : TypeId} {cs : Array Value} (hW : Whole w t T cs) (htg : t ≠ g) {u v : Value} : Whole ((w.setCell ⟨g, 1, none⟩ u).setCell ⟨g, 0, none⟩ v) t T cs :=
  (hW.far htg 1 u).far htg 0 v

theorem takerInt_any (g t : Nat) (w : World) :
    Calls Tryz.prog 94 #[.pointer (some ⟨g, 0, none⟩), .pointer (some ⟨t, 0, none⟩)] w fun e w' =>
      ∃ Bt Bc, e = .returned (.func (.func 113) #[] #[.pointer (some ⟨Bt, 0, none⟩), .pointer (some ⟨Bc, 0, none⟩)]) ∧ w.heap.size ≤ Bt ∧ w.heap.size ≤ Bc ∧
        w'.cell? ⟨Bt, 0, none⟩ = some (.pointer (some ⟨t, 0, none⟩)) ∧ w'.cell? ⟨Bc, 0, none⟩ = some (.pointer (some ⟨g, 0, none⟩)) ∧ Ext w w' := by
  go_enter Tryz.func94, Tryz.ntmps94
  go_wp2
  go_ret
  have h1 := cellNew (w.alloc (.cells #[.pointer (some ⟨g, 0, none⟩)] 116)) #[.pointer (some ⟨t, 0, none⟩)] 149 (0, 0) 0
  rw [World.size_alloc] at h1
  exact ⟨w.heap.size + 1, w.heap.size, rfl, by omega, by omega, h1, ((extNew _ _).cell (i := 0) (by simp)).trans (cellNew w _ _ _ 0), (extNew w _).trans (extNew _ _)⟩

set_option maxHeartbeats 2000000 in
set_option maxRecDepth 100000 in
theorem tellInt_any {w : World} {g r t Bt Bc q p c : Nat} {b : List UInt8} {A : Option Addr} {v0 : Value} {x : Int} (h : PC w g r b q 0) (hqp : q ≤ p) (hp : p ≤ b.length) (hBt : w.cell? ⟨Bt, 0, none⟩ = some (.pointer (some ⟨t, 0, none⟩))) (hBc : w.cell? ⟨Bc, 0, none⟩ = some (.pointer (some ⟨g, 0, none⟩)))
    (ht : Whole w t 3 #[v0]) (htg : t ≠ g) (htr : t ≠ r) (hct : Bc ≠ t) (hcg : Bc ≠ g) (hR : RowIn w g r A (b.length - p) (b.drop p)) (hc : b.length - p ≤ c) :
    Calls Tryz.prog 113 #[.int .i64 x, .slice A (b.length - p) c, .pointer (some ⟨Bt, 0, none⟩), .pointer (some ⟨Bc, 0, none⟩)] w fun e w' => e = .returned (.int .i64 0) ∧ Told w g r t 3 b (.int .i64 x) p w' := by
  obtain ⟨A0, c0, d0, d1, d2, f0, f1, f2, hc0, hR0⟩ := h.cells
  obtain ⟨hq, hl⟩ := h.bounds
  have htlt := ht.lt
  have hrlt := h.rlt
  have hglt := h.lt
  go_enter Tryz.func113, Tryz.ntmps113
  go_wp2_with (refine wpList_storeC rfl 3 (.tmp 9) (.tmp 8) rfl #[.int .i64 x] rfl rfl ht (by simp) (by kernel_rfl) rfl rfl rfl ?_; intro w1 hW1 hG1; have hM1 : Mod w w1 g (some t) := Mod.ofOwn hG1; have hP1 := h.told hM1 (hG1.block g hglt (by simpa using fun e => htg e.symm)) htr; obtain ⟨A1, c1, e0, e1, e2, k0, k1, k2, hc1, hR1⟩ := hP1.cells; have hBc1 := (hM1.cell (x := Bc) (i := 0) (World.block_lt_of_cell? w ⟨Bc, 0, none⟩ hBc) hcg (by simpa using fun e => hct e.symm)).trans hBc)
  go_still_tail 13, (by kernel_rfl)
  change wpList _ _ _ _ _ w1.drew
  have hE2 : Ext w1 w1.drew := (Ext.refl w1).drew
  have hP2 := hP1.ext hE2
  have hW2 := hW1.ext hE2
  have hM2 : Mod w w1.drew g (some t) := hM1.trans (Mod.ofExt hE2) (.inl rfl)
  have hBc2 := (hE2.cell (i := 0) (World.block_lt_of_cell? w1 ⟨Bc, 0, none⟩ hBc1)).trans hBc1
  clear hBc1 hG1 e0 e1 e2 k0 k1 k2
  generalize w1.drew = w2 at *
  obtain ⟨A2, c2, e0, e1, e2, k0, k1, k2, hc2, hR2⟩ := hP2.cells
  clear hR1 hR2 hR0 d0 d1 d2 f0 f1 f2
  go_wp2_with fail
  go_ret
  have hR2 := hR.mod hM2 hrlt (by simpa using htr)
  exact ⟨rfl, hP2.moved hR2 hc hp (by omega), hP2.wholeFar hW2 htg, hM2.trans (hP2.movedMod _ _) (.inl rfl)⟩
theorem takerRow_any (g t : Nat) (w : World) :
    Calls Tryz.prog 134 #[.pointer (some ⟨g, 0, none⟩), .pointer (some ⟨t, 0, none⟩)] w fun e w' =>
      ∃ Bt Bc, e = .returned (.func (.func 147) #[] #[.pointer (some ⟨Bt, 0, none⟩), .pointer (some ⟨Bc, 0, none⟩)]) ∧ w.heap.size ≤ Bt ∧ w.heap.size ≤ Bc ∧
        w'.cell? ⟨Bt, 0, none⟩ = some (.pointer (some ⟨t, 0, none⟩)) ∧ w'.cell? ⟨Bc, 0, none⟩ = some (.pointer (some ⟨g, 0, none⟩)) ∧ Ext w w' := by
  go_enter Tryz.func134, Tryz.ntmps134
  go_wp2
  go_ret
  have h1 := cellNew (w.alloc (.cells #[.pointer (some ⟨g, 0, none⟩)] 116)) #[.pointer (some ⟨t, 0, none⟩)] 191 (0, 0) 0
  rw [World.size_alloc] at h1
  exact ⟨w.heap.size + 1, w.heap.size, rfl, by omega, by omega, h1, ((extNew _ _).cell (i := 0) (by simp)).trans (cellNew w _ _ _ 0), (extNew w _).trans (extNew _ _)⟩

set_option maxHeartbeats 2000000 in
set_option maxRecDepth 100000 in
theorem tellRow_any {w : World} {g r t Bt Bc q p c : Nat} {b : List UInt8} {A : Option Addr} {v0 : Value} {Ax : Option Addr} {nx cx : Nat} (h : PC w g r b q 0) (hqp : q ≤ p) (hp : p ≤ b.length) (hBt : w.cell? ⟨Bt, 0, none⟩ = some (.pointer (some ⟨t, 0, none⟩))) (hBc : w.cell? ⟨Bc, 0, none⟩ = some (.pointer (some ⟨g, 0, none⟩)))
    (ht : Whole w t 142 #[v0]) (htg : t ≠ g) (htr : t ≠ r) (hct : Bc ≠ t) (hcg : Bc ≠ g) (hR : RowIn w g r A (b.length - p) (b.drop p)) (hc : b.length - p ≤ c) :
    Calls Tryz.prog 147 #[.slice Ax nx cx, .slice A (b.length - p) c, .pointer (some ⟨Bt, 0, none⟩), .pointer (some ⟨Bc, 0, none⟩)] w fun e w' => e = .returned (.int .i64 0) ∧ Told w g r t 142 b (.slice Ax nx cx) p w' := by
  obtain ⟨A0, c0, d0, d1, d2, f0, f1, f2, hc0, hR0⟩ := h.cells
  obtain ⟨hq, hl⟩ := h.bounds
  have htlt := ht.lt
  have hrlt := h.rlt
  have hglt := h.lt
  go_enter Tryz.func147, Tryz.ntmps147
  go_wp2_with (refine wpList_storeC rfl 142 (.tmp 9) (.tmp 8) rfl #[.slice Ax nx cx] rfl rfl ht (by simp) (by kernel_rfl) rfl rfl rfl ?_; intro w1 hW1 hG1; have hM1 : Mod w w1 g (some t) := Mod.ofOwn hG1; have hP1 := h.told hM1 (hG1.block g hglt (by simpa using fun e => htg e.symm)) htr; obtain ⟨A1, c1, e0, e1, e2, k0, k1, k2, hc1, hR1⟩ := hP1.cells; have hBc1 := (hM1.cell (x := Bc) (i := 0) (World.block_lt_of_cell? w ⟨Bc, 0, none⟩ hBc) hcg (by simpa using fun e => hct e.symm)).trans hBc)
  go_still_tail 13, (by kernel_rfl)
  change wpList _ _ _ _ _ w1.drew
  have hE2 : Ext w1 w1.drew := (Ext.refl w1).drew
  have hP2 := hP1.ext hE2
  have hW2 := hW1.ext hE2
  have hM2 : Mod w w1.drew g (some t) := hM1.trans (Mod.ofExt hE2) (.inl rfl)
  have hBc2 := (hE2.cell (i := 0) (World.block_lt_of_cell? w1 ⟨Bc, 0, none⟩ hBc1)).trans hBc1
  clear hBc1 hG1 e0 e1 e2 k0 k1 k2
  generalize w1.drew = w2 at *
  obtain ⟨A2, c2, e0, e1, e2, k0, k1, k2, hc2, hR2⟩ := hP2.cells
  clear hR1 hR2 hR0 d0 d1 d2 f0 f1 f2
  go_wp2_with fail
  go_ret
  have hR2 := hR.mod hM2 hrlt (by simpa using htr)
  exact ⟨rfl, hP2.moved hR2 hc hp (by omega), hP2.wholeFar hW2 htg, hM2.trans (hP2.movedMod _ _) (.inl rfl)⟩
end Go.Proofs.YtcphapdjimeoaaaGreat

namespace Go.Proofs.YtcphapdjimeoaaaGreat
open Go.RowKit

theorem Num.or_seven (X i : Nat) (c : UInt8) (hX : X < 128 ^ i) (hi : i ≤ 9) (h9 : i = 9 → c.toNat = 1) :
    bits .or .u64 (X : Int) (IntKind.u64.wrap (IntKind.u64.wrap (bits .andNot .u8 (c.toNat : Int) 128) * 2 ^ (7 * i))) = ((X + c.toNat % 128 * 128 ^ i : Nat) : Int) := by
  have hc := c.toNat_lt
  have e1 : bits .andNot .u8 (c.toNat : Int) 128 = ((c.toNat % 128 : Nat) : Int) := by
    rw [show (128 : Int) = ((128 : Nat) : Int) from rfl, u8_andNot_nat _ _ hc (by decide), show (255 - 128 : Nat) = 2 ^ 7 - 1 from rfl, Nat.and_two_pow_sub_one_eq_mod]
  have hp : (128 : Nat) ^ i = 2 ^ (7 * i) := by rw [Nat.pow_mul]
  have hlt : c.toNat % 128 * 2 ^ (7 * i) < 2 ^ 64 := by
    rcases Nat.lt_or_ge i 9 with h | h
    · have h1 : c.toNat % 128 < 128 := Nat.mod_lt _ (by decide)
      have h2 : 2 ^ (7 * i) ≤ 2 ^ 56 := Nat.pow_le_pow_right (by decide) (by omega)
      have h3 : c.toNat % 128 * 2 ^ (7 * i) ≤ 127 * 2 ^ 56 := Nat.mul_le_mul (by omega) h2
      omega
    · obtain rfl : i = 9 := by omega
      rw [h9 rfl]
      decide
  have e2 : IntKind.u64.wrap (((c.toNat % 128 : Nat) : Int) * 2 ^ (7 * i)) = ((c.toNat % 128 * 2 ^ (7 * i) : Nat) : Int) := by
    have : ((c.toNat % 128 : Nat) : Int) * 2 ^ (7 * i) = ((c.toNat % 128 * 2 ^ (7 * i) : Nat) : Int) := by simp only [Int.natCast_mul, Int.natCast_pow]; rfl
    rw [this, IntKind.wrap_u64]
    omega
  have hX' : X < 2 ^ 64 := Nat.lt_of_lt_of_le hX (by rw [hp]; exact Nat.pow_le_pow_right (by decide) (by omega))
  have e3 : IntKind.u64.wrap ((c.toNat % 128 : Nat) : Int) = ((c.toNat % 128 : Nat) : Int) := by rw [IntKind.wrap_u64]; omega
  rw [e1, e3, e2, u64_or_nat _ _ hX' hlt, hp, Nat.mul_comm (c.toNat % 128), Nat.or_comm, ← Nat.two_pow_add_eq_or_of_lt (by rw [← hp]; exact hX), Nat.add_comm]

/-- 'r[l:]' of a row. -/
theorem run_cutR (W : World) (a : Option Addr) (n c : Nat) (k : IntKind) (l : Int) (h0 : 0 ≤ l) (h1 : l ≤ n) :
    (Instr.slice 142 (.slice a n c) (some (.int k l)) none none).run Tryz.prog W = .ok (.slice (cutAt a c l.toNat) (n - l.toNat) (c - l.toNat)) W := by
  rw [run_slice_l (P := Tryz.prog) (w := W) 142 a n c (by kernel_rfl) k l h0 h1]
  have hs : (sizeOf (Tryz.prog.elem 142)).run Tryz.prog W = .ok 1 W := by kernel_rfl
  rw [hs]
  simp [Result.andThen, sliced, cutAt]
attribute [local go_sem ↓] run_cutR

set_option maxHeartbeats 2000000 in
set_option maxRecDepth 100000 in
theorem curNumber_any {w : World} {A : Option Addr} {c K : Nat} {l : List UInt8} {cap : Array Value} {R : Ending → World → Prop} (hK : Entered K) (hb : Bytes w w.heap.size A l.length l) (hl : l.length ≤ 1000000) (hc : l.length ≤ c)
    (hR : ∀ e w', R e w' → ∃ er, e = .returned (.int .i64 er))
    (hok : (Num.scan l 0).2.2 = 0 → Calls Tryz.prog K (#[.int .u64 (((Num.scan l 0).1 : Nat) : Int), .slice (cutAt A c (Num.scan l 0).2.1) (l.length - (Num.scan l 0).2.1) (c - (Num.scan l 0).2.1)] ++ cap) w R)
    (hbad : (Num.scan l 0).2.2 ≠ 0 → R (.returned (.int .i64 (Num.scan l 0).2.2)) w) :
    Calls Tryz.prog 111 #[.slice A l.length c, .func (.func K) #[] cap] w R := by
  have hE := fun args W => hK args W
  obtain ⟨_, hb⟩ := hb
  rcases hb with h0 | ⟨blk, off, rfl, hB, hcell⟩
  · obtain rfl := List.eq_nil_of_length_eq_zero h0
    have hbad' := hide (hbad (by decide))
    clear hok hbad
    go_enter Tryz.func111, Tryz.ntmps111
    go_wp2
    go_loop [5, 10] (fun x i => x = .int .u64 0 ∧ i = .int .i64 0) (fun _ _ => 0)
    case atStart => exact ⟨rfl, rfl⟩
    case round =>
      obtain ⟨rfl, rfl⟩ := hrel
      go_wp2
      exact hbad'.out
  · go_enter Tryz.func111, Tryz.ntmps111
    go_wp2
    go_loop [5, 10] (fun x i => ∃ (X j : Nat), x = .int .u64 (X : Int) ∧ i = .int .i64 (j : Int) ∧ X < 128 ^ j ∧ j ≤ 9 ∧ j ≤ l.length ∧ Num.scanF l 0 (10 - j) j X = Num.scan l 0) (fun _ i => l.length - (intOf i).toNat)
    case atStart => exact ⟨0, 0, rfl, rfl, by decide, by omega, by omega, rfl⟩
    case round =>
      obtain ⟨X, j, rfl, rfl, hX, hj, hjl, hs⟩ := hrel
      obtain ⟨f, hf⟩ : ∃ f, 10 - j = f + 1 := ⟨9 - j, by omega⟩
      rw [hf, Num.scanF, Nat.zero_add] at hs
      by_cases hlt : j < l.length
      · rw [if_neg (by omega)] at hs
        have hcj := hcell j hlt
        generalize l.getD j 0 = bt at *
        have hbt := bt.toNat_lt
        clear hcell
        by_cases h2 : (j = 9 ∧ bt.toNat ≠ 1) ∨ (0 < j ∧ bt.toNat = 0)
        · rw [if_pos h2] at hs
          rw [← hs] at hbad hok
          have hbad' := hide (hbad (by decide))
          clear hbad hok hs hX hf
          rcases h2 with ⟨h9, h1⟩ | ⟨h0, h1⟩
          · subst h9
            have h1' : ((bt.toNat : Int) != 1) = true := by simp; omega
            clear h1
            go_wp2_with fail
            exact hbad'.out
          · rw [h1] at hcj
            by_cases h9 : j = 9
            · subst h9
              go_wp2_with fail
              exact hbad'.out
            · have h9' : ((j : Int) == 9) = false := by simp; omega
              have h0' : (0 : Int) < (j : Int) := by omega
              clear h1
              go_wp2_with fail
              exact hbad'.out
        · rw [if_neg h2] at hs
          have HO := Num.or_seven X j bt hX hj (fun h => by omega)
          have hw7 : IntKind.i64.wrap (7 * (j : Int)) = ((7 * j : Nat) : Int) := by rw [IntKind.wrap_i64]; omega
          have hcases : (((j : Int) == 9) = true ∧ ((bt.toNat : Int) != 1) = false ∧ (0 < (j : Int)) ∧ ((bt.toNat : Int) == 0) = false) ∨ (((j : Int) == 9) = false ∧ 0 < (j : Int) ∧ ((bt.toNat : Int) == 0) = false) ∨ (((j : Int) == 9) = false ∧ ¬ (0 < (j : Int))) := by
            simp only [beq_iff_eq, beq_eq_false_iff_ne, bne_eq_false_iff_eq, ne_eq]
            omega
          have hNX := Num.part_lt (c := bt.toNat) hX
          clear h2
          by_cases h128 : bt.toNat < 128
          · rw [if_pos h128] at hs
            rw [← hs] at hok
            have hok' := hide (hok rfl)
            clear hok hbad hs hf hNX hX
            generalize X + bt.toNat % 128 * 128 ^ j = NX at *
            have h128' : (bt.toNat : Int) < 128 := by omega
            have i0 : (0 : Int) ≤ (j : Int) + 1 := by omega
            have i1 : (j : Int) + 1 ≤ (l.length : Int) := by omega
            have i2 : ((j : Int) + 1).toNat = j + 1 := by omega
            clear h128
            rcases hcases with ⟨a1, a2, a3, a4⟩ | ⟨a1, a3, a4⟩ | ⟨a1, a3⟩
            all_goals (
              go_wp2_with fail
              refine hok'.out.mono ?_
              intro e w2 hr
              obtain ⟨er, rfl⟩ := hR _ _ hr
              go_wp2
              exact hr)
          · rw [if_neg h128] at hs
            have hs' := hide hs
            have hf' := hide (show 10 - (j + 1) = f by omega)
            have hj8 : j + 1 ≤ 9 := by
              rcases hcases with ⟨a1, a2, _⟩ | ⟨a1, _⟩ | ⟨a1, _⟩
              · simp only [bne_eq_false_iff_eq] at a2
                omega
              · simp only [beq_eq_false_iff_ne, ne_eq] at a1
                omega
              · simp only [beq_eq_false_iff_ne, ne_eq] at a1
                omega
            clear hs hf hok hbad
            generalize X + bt.toNat % 128 * 128 ^ j = NX at *
            have hNX' := hide hNX
            have h128' : ¬ ((bt.toNat : Int) < 128) := by omega
            clear h128 hX hNX
            rcases hcases with ⟨a1, a2, a3, a4⟩ | ⟨a1, a3, a4⟩ | ⟨a1, a3⟩
            all_goals (
              go_wp2_with fail
              go_round
              case rel => exact ⟨NX, j + 1, rfl, by go_num, hNX'.out, hj8, by omega, by rw [hf'.out]; exact hs'.out⟩
              case measure => simp [intOf]; omega)
      · obtain rfl : j = l.length := by omega
        rw [if_pos (by omega)] at hs
        rw [← hs] at hbad hok
        have hbad' := hide (hbad (by decide))
        clear hbad hok hs hX hf
        go_wp2
        exact hbad'.out
end Go.Proofs.YtcphapdjimeoaaaGreat

namespace Go.Proofs.YtcphapdjimeoaaaGreat
open Go.RowKit
attribute [local go_sem ↓] run_cutR

/-- 'r[:h]' of a row. -/
theorem run_headR (W : World) (a : Option Addr) (n c : Nat) (k : IntKind) (h : Int) (h0 : 0 ≤ h) (h1 : h ≤ c) :
    (Instr.slice 142 (.slice a n c) none (some (.int k h)) none).run Tryz.prog W = .ok (.slice (cutAt a c 0) h.toNat c) W := by
  rw [run_slice_h (P := Tryz.prog) (w := W) 142 a n c (by kernel_rfl) k h h0 h1]
  have hs : (sizeOf (Tryz.prog.elem 142)).run Tryz.prog W = .ok 1 W := by kernel_rfl
  rw [hs]
  simp [Result.andThen, sliced, cutAt]
attribute [local go_sem ↓] run_headR

set_option maxHeartbeats 2000000 in
set_option maxRecDepth 100000 in
theorem first_any {w : World} {A : Option Addr} {m c K : Nat} {n : Int} {cap : Array Value} {R : Ending → World → Prop} (hK : Entered K) (hc : m ≤ c)
    (hR : ∀ e w', R e w' → ∃ er, e = .returned (.int .i64 er))
    (hneg : n < 0 → R (.returned (.int .i64 13)) w) (hbig : (m : Int) < n → R (.returned (.int .i64 1)) w)
    (hok : ∀ k : Nat, n = (k : Int) → k ≤ m → Calls Tryz.prog K (#[.slice (cutAt A c 0) k c, .slice (cutAt A c k) (m - k) (c - k)] ++ cap) w.drew R) :
    Calls Tryz.prog 146 #[.slice A m c, .int .i64 n, .func (.func K) #[] cap] w R := by
  have hE := fun args W => hK args W
  by_cases h0 : n < 0
  · have H := hide (hneg h0)
    clear hneg hbig hok
    go_enter Tryz.func146, Tryz.ntmps146
    go_wp2
    exact H.out
  · by_cases h1 : (m : Int) < n
    · have H := hide (hbig h1)
      clear hneg hbig hok
      go_enter Tryz.func146, Tryz.ntmps146
      go_wp2
      exact H.out
    · obtain ⟨k, rfl⟩ := Int.eq_ofNat_of_zero_le (show 0 ≤ n by omega)
      have H := hide (hok k rfl (by omega))
      have i1 : (k : Int) ≤ (m : Int) := by omega
      have i2 : (k : Int) ≤ (c : Int) := by omega
      clear hneg hbig hok h0
      go_enter Tryz.func146, Tryz.ntmps146
      go_wp2
      go_still_tail 7, (by kernel_rfl)
      change wpList _ _ _ _ _ w.drew
      go_wp2_with fail
      refine H.out.mono ?_
      intro e w2 hr
      obtain ⟨er, rfl⟩ := hR _ _ hr
      go_wp2
      exact hr

theorem entered_count1 : Entered 112 := entered_of Tryz.func112 (by kernel_rfl) rfl
set_option maxHeartbeats 2000000 in
set_option maxRecDepth 100000 in
theorem count1_any {w : World} {A : Option Addr} {m c K x Bm Bk : Nat} {most : Int} {cap : Array Value} {R : Ending → World → Prop} (hK : Entered K) (hm : most ≤ 9223372036854775807) (hx : x < 18446744073709551616)
    (hBm : w.cell? ⟨Bm, 0, none⟩ = some (.int .i64 most)) (hBk : w.cell? ⟨Bk, 0, none⟩ = some (.func (.func K) #[] cap))
    (hR : ∀ e w', R e w' → ∃ er, e = .returned (.int .i64 er))
    (hbig : most < (x : Int) → R (.returned (.int .i64 6)) w)
    (hok : (x : Int) ≤ most → Calls Tryz.prog K (#[.int .i64 (x : Int), .slice A m c] ++ cap) w R) :
    Calls Tryz.prog 112 #[.int .u64 (x : Int), .slice A m c, .pointer (some ⟨Bm, 0, none⟩), .pointer (some ⟨Bk, 0, none⟩)] w R := by
  have hE := fun args W => hK args W
  by_cases h0 : most < 0
  · have H := hide (hbig (by omega))
    clear hbig hok hx
    go_enter Tryz.func112, Tryz.ntmps112
    go_wp2
    exact H.out
  · obtain ⟨k, rfl⟩ := Int.eq_ofNat_of_zero_le (show 0 ≤ most by omega)
    have hwk : IntKind.u64.wrap (k : Int) = (k : Int) := by rw [IntKind.wrap_u64]; omega
    by_cases h1 : (k : Int) < (x : Int)
    · have H := hide (hbig h1)
      clear hbig hok hx h0
      go_enter Tryz.func112, Tryz.ntmps112
      go_wp2
      exact H.out
    · have H := hide (hok (by omega))
      have hwx : IntKind.i64.wrap (x : Int) = (x : Int) := by rw [IntKind.wrap_i64]; omega
      clear hbig hok h0
      go_enter Tryz.func112, Tryz.ntmps112
      go_wp2_with fail
      refine H.out.mono ?_
      intro e w2 hr
      obtain ⟨er, rfl⟩ := hR _ _ hr
      go_wp2
      exact hr
end Go.Proofs.YtcphapdjimeoaaaGreat

namespace Go.Proofs.YtcphapdjimeoaaaGreat
open Go.RowKit
attribute [local go_sem ↓] run_cutR

theorem Num.scan_lt (l : List UInt8) (q : Nat) : (Num.scan l q).1 < 18446744073709551616 := (Num.scan_facts l q).1

set_option maxHeartbeats 2000000 in
set_option maxRecDepth 100000 in
theorem count_any {w : World} {A : Option Addr} {c K : Nat} {l : List UInt8} {most : Int} {cap : Array Value} {R : Ending → World → Prop} (hK : Entered K) (hm : most ≤ 9223372036854775807) (hb : Bytes w w.heap.size A l.length l) (hl : l.length ≤ 1000000) (hc : l.length ≤ c)
    (hR : ∀ e w', R e w' → ∃ er, e = .returned (.int .i64 er))
    (hbad : ∀ er w', Ext w w' → (Num.scan l 0).2.2 = er ∧ er ≠ 0 ∨ (Num.scan l 0).2.2 = 0 ∧ most < ((Num.scan l 0).1 : Int) ∧ er = 6 → R (.returned (.int .i64 er)) w')
    (hok : (Num.scan l 0).2.2 = 0 → ((Num.scan l 0).1 : Int) ≤ most → ∀ w', Ext w w' →
      Calls Tryz.prog K (#[.int .i64 (((Num.scan l 0).1 : Nat) : Int), .slice (cutAt A c (Num.scan l 0).2.1) (l.length - (Num.scan l 0).2.1) (c - (Num.scan l 0).2.1)] ++ cap) w' R) :
    Calls Tryz.prog 93 #[.slice A l.length c, .int .i64 most, .func (.func K) #[] cap] w R := by
  have hE1 := extNew w (.cells #[.int .i64 most] 3)
  have hE2 := extNew (w.alloc (.cells #[.int .i64 most] 3)) (.cells #[.func (.func K) #[] cap] 147)
  have hE := hE1.trans hE2
  have hBm : ((w.alloc (.cells #[.int .i64 most] 3)).alloc (.cells #[.func (.func K) #[] cap] 147)).cell? ⟨w.heap.size, 0, none⟩ = some (.int .i64 most) := (hE2.cell (by simp)).trans (cellNew w _ _ _ 0)
  have hBk : ((w.alloc (.cells #[.int .i64 most] 3)).alloc (.cells #[.func (.func K) #[] cap] 147)).cell? ⟨w.heap.size + 1, 0, none⟩ = some (.func (.func K) #[] cap) := by
    have := cellNew (w.alloc (.cells #[.int .i64 most] 3)) #[.func (.func K) #[] cap] 147 (0, 0) 0
    rwa [World.size_alloc] at this
  have H := hide (curNumber_any (K := 112) (cap := #[.pointer (some ⟨w.heap.size, 0, none⟩), .pointer (some ⟨w.heap.size + 1, 0, none⟩)]) (R := R) entered_count1 (hE.bytes hb) hl hc hR
    (fun h0 => count1_any hK hm (Num.scan_lt l 0) hBm hBk hR (fun h6 => hbad 6 _ hE (.inr ⟨h0, h6, rfl⟩)) (fun hle => hok h0 hle _ hE))
    (fun h0 => hbad _ _ hE (.inl ⟨rfl, h0⟩)))
  clear hbad hok hE1 hE2 hE hBm hBk hb
  go_enter Tryz.func93, Tryz.ntmps93
  go_wp2_with fail
  refine H.out.mono ?_
  intro e w2 hr
  obtain ⟨er, rfl⟩ := hR _ _ hr
  go_wp2
  exact hr

theorem Num.low_snoc (l : List UInt8) (c : UInt8) : Num.low (l ++ [c]) = Num.low l + c.toNat * 256 ^ l.length := by
  induction l with
  | nil => simp [Num.low]
  | cons d l ih => rw [List.cons_append, Num.low, Num.low, ih, List.length_cons, Nat.pow_succ, Nat.mul_add, Nat.mul_comm 256 (c.toNat * 256 ^ l.length), Nat.mul_assoc, Nat.add_assoc]
theorem Num.low_take (l : List UInt8) (k : Nat) (h : k < l.length) : Num.low (l.take (k + 1)) = Num.low (l.take k) + (l.getD k 0).toNat * 256 ^ k := by
  rw [List.take_succ_eq_append_getElem h, Num.low_snoc, List.length_take, Nat.min_eq_left (by omega), List.getD_eq_getElem?_getD, List.getElem?_eq_getElem h]
  rfl
theorem Num.or_eight (X i : Nat) (c : UInt8) (hX : X < 256 ^ i) (hi : i < 8) :
    bits .or .u64 (X : Int) (IntKind.u64.wrap ((c.toNat : Int) * 2 ^ (8 * i))) = ((X + c.toNat * 256 ^ i : Nat) : Int) := by
  have hc := c.toNat_lt
  have hp : (256 : Nat) ^ i = 2 ^ (8 * i) := by rw [Nat.pow_mul]
  have hlt : c.toNat * 2 ^ (8 * i) < 2 ^ 64 := by
    have h2 : 2 ^ (8 * i) ≤ 2 ^ 56 := Nat.pow_le_pow_right (by decide) (by omega)
    have h3 : c.toNat * 2 ^ (8 * i) ≤ 255 * 2 ^ 56 := Nat.mul_le_mul (by omega) h2
    omega
  have e2 : IntKind.u64.wrap ((c.toNat : Int) * 2 ^ (8 * i)) = ((c.toNat * 2 ^ (8 * i) : Nat) : Int) := by
    have : (c.toNat : Int) * 2 ^ (8 * i) = ((c.toNat * 2 ^ (8 * i) : Nat) : Int) := by simp only [Int.natCast_mul, Int.natCast_pow]; rfl
    rw [this, IntKind.wrap_u64]
    omega
  have hX' : X < 2 ^ 64 := Nat.lt_of_lt_of_le hX (by rw [hp]; exact Nat.pow_le_pow_right (by decide) (by omega))
  rw [e2, u64_or_nat _ _ hX' hlt, hp, Nat.mul_comm c.toNat, Nat.or_comm, ← Nat.two_pow_add_eq_or_of_lt (by rw [← hp]; exact hX), Nat.add_comm]

theorem entered_text1 : Entered 145 := entered_of Tryz.func145 (by kernel_rfl) rfl
set_option maxHeartbeats 2000000 in
set_option maxRecDepth 100000 in
theorem text_any {w : World} {A : Option Addr} {c K : Nat} {l : List UInt8} {most : Int} {cap : Array Value} {R : Ending → World → Prop} (hK : Entered K) (hm : most ≤ 9223372036854775807) (hb : Bytes w w.heap.size A l.length l) (hl : l.length ≤ 1000000) (hc : l.length ≤ c)
    (hR : ∀ e w', R e w' → ∃ er, e = .returned (.int .i64 er))
    (hbad : ∀ er w', Ext w w' → (Num.scan l 0).2.2 = er ∧ er ≠ 0 ∨ (Num.scan l 0).2.2 = 0 ∧ most < ((Num.scan l 0).1 : Int) ∧ er = 6 ∨ (Num.scan l 0).2.2 = 0 ∧ ((Num.scan l 0).1 : Int) ≤ most ∧ l.length - (Num.scan l 0).2.1 < (Num.scan l 0).1 ∧ er = 1 → R (.returned (.int .i64 er)) w')
    (hok : (Num.scan l 0).2.2 = 0 → ((Num.scan l 0).1 : Int) ≤ most → (Num.scan l 0).1 ≤ l.length - (Num.scan l 0).2.1 → ∀ w', Ext w w' →
      Calls Tryz.prog K (#[.slice (cutAt (cutAt A c (Num.scan l 0).2.1) (c - (Num.scan l 0).2.1) 0) (Num.scan l 0).1 (c - (Num.scan l 0).2.1), .slice (cutAt (cutAt A c (Num.scan l 0).2.1) (c - (Num.scan l 0).2.1) (Num.scan l 0).1) (l.length - (Num.scan l 0).2.1 - (Num.scan l 0).1) (c - (Num.scan l 0).2.1 - (Num.scan l 0).1)] ++ cap) w' R) :
    Calls Tryz.prog 133 #[.slice A l.length c, .int .i64 most, .func (.func K) #[] cap] w R := by
  have hE := extNew w (.cells #[.func (.func K) #[] cap] 189)
  have hBk : (w.alloc (.cells #[.func (.func K) #[] cap] 189)).cell? ⟨w.heap.size, 0, none⟩ = some (.func (.func K) #[] cap) := cellNew w _ _ (0, 0) 0
  have H := hide (count_any (w := w.alloc (.cells #[.func (.func K) #[] cap] 189)) (K := 145) (cap := #[.pointer (some ⟨w.heap.size, 0, none⟩)]) (R := R) entered_text1 hm (hE.bytes hb) hl hc hR
    (fun er w' hE' h => hbad er w' (hE.trans hE') (by rcases h with h | h; exact .inl h; exact .inr (.inl h)))
    (fun h0 hle w' hE' => by
      have hBk' := (hE'.cell (i := 0) (by simp)).trans hBk
      have hn := Num.scan_facts l 0
      have F := hide (first_any (w := w') (A := cutAt A c (Num.scan l 0).2.1) (c := c - (Num.scan l 0).2.1) (m := l.length - (Num.scan l 0).2.1) (n := (((Num.scan l 0).1 : Nat) : Int)) (K := K) (cap := cap) (R := R) hK (by omega) hR
        (fun h => absurd h (by omega)) (fun h => hbad 1 w' (hE.trans hE') (.inr (.inr ⟨h0, hle, by omega, rfl⟩)))
        (fun k hk hkm => by
          obtain rfl : (Num.scan l 0).1 = k := by omega
          exact hok h0 hle hkm _ (hE.trans hE'.drew)))
      clear hbad hok hE hE' hb hn
      generalize cutAt A c (Num.scan l 0).2.1 = A' at *
      generalize c - (Num.scan l 0).2.1 = c' at *
      generalize l.length - (Num.scan l 0).2.1 = m' at *
      generalize (Num.scan l 0).1 = x at *
      show Calls Tryz.prog 145 #[_, _, _] _ _
      go_enter Tryz.func145, Tryz.ntmps145
      go_wp2_with fail
      refine F.out.mono ?_
      intro e w2 hr
      obtain ⟨er, rfl⟩ := hR _ _ hr
      go_wp2
      exact hr))
  clear hbad hok hE hBk hb
  go_enter Tryz.func133, Tryz.ntmps133
  go_wp2_with fail
  refine H.out.mono ?_
  intro e w2 hr
  obtain ⟨er, rfl⟩ := hR _ _ hr
  go_wp2
  exact hr
end Go.Proofs.YtcphapdjimeoaaaGreat

namespace Go.Proofs.YtcphapdjimeoaaaGreat
open Go.RowKit

theorem Num.scanF_drop (b : List UInt8) (q : Nat) : ∀ (f i x : Nat), Num.scanF b q f i x = ((Num.scanF (b.drop q) 0 f i x).1, q + (Num.scanF (b.drop q) 0 f i x).2.1, (Num.scanF (b.drop q) 0 f i x).2.2)
  | 0, _, _ => by simp [Num.scanF]
  | f + 1, i, x => by
    have hg : (b.drop q).getD (0 + i) 0 = b.getD (q + i) 0 := by simp [List.getD_eq_getElem?_getD]
    rw [Num.scanF, Num.scanF, hg, List.length_drop]
    by_cases h1 : b.length ≤ q + i
    · have h1' : b.length - q ≤ 0 + i := by omega
      simp only [if_pos h1, if_pos h1']; simp
    · have h1' : ¬ (b.length - q ≤ 0 + i) := by omega
      simp only [if_neg h1, if_neg h1']
      by_cases h2 : (i = 9 ∧ (b.getD (q + i) 0).toNat ≠ 1) ∨ (0 < i ∧ (b.getD (q + i) 0).toNat = 0)
      · simp only [if_pos h2]; simp
      · simp only [if_neg h2]
        by_cases h3 : (b.getD (q + i) 0).toNat < 128
        · simp only [if_pos h3]; simp; omega
        · simp only [if_neg h3]
          exact Num.scanF_drop b q f (i + 1) _
theorem Num.scan_drop (b : List UInt8) (q : Nat) : Num.scan b q = ((Num.scan (b.drop q) 0).1, q + (Num.scan (b.drop q) 0).2.1, (Num.scan (b.drop q) 0).2.2) := Num.scanF_drop b q 10 0 0

end Go.Proofs.YtcphapdjimeoaaaGreat

namespace Go.Proofs.YtcphapdjimeoaaaGreat
open Go.RowKit

/-- Behind a call of the program's cursor. -/
def PcTo (w : World) (g r : Nat) (b : List UInt8) (q : Nat) (e : Int) (w' : World) : Prop := PC w' g r b q e ∧ Mod w w' g none
theorem PcTo.refl {w : World} {g r q : Nat} {b : List UInt8} {e : Int} (h : PC w g r b q e) : PcTo w g r b q e w := ⟨h, Mod.refl _ _ _⟩
theorem PcTo.ext {w w' : World} {g r q : Nat} {b : List UInt8} {e : Int} (h : PC w g r b q e) (hE : Ext w w') : PcTo w g r b q e w' := ⟨h.ext hE, Mod.ofExt hE⟩
theorem PcTo.then {w w' w'' : World} {g r q' q'' : Nat} {b : List UInt8} {e' e'' : Int} (h : PcTo w g r b q' e' w') (k : PcTo w' g r b q'' e'' w'') : PcTo w g r b q'' e'' w'' := ⟨k.1, h.2.trans k.2 (.inl rfl)⟩
/-- The result stands in a cell. -/
theorem results_cell_one {fn : Func} {p : Tmp} {ty : TypeId} (h : fn.results = #[.cell p ty]) (tmps : Array Value) {w : World} {t : Nat} {v : Value} (hp : tmps.getD p undef = .pointer (some ⟨t, 0, none⟩)) (hv : ∀ W : World, W.cell? ⟨t, 0, none⟩ = some v → (loadVar ty ⟨t, 0, none⟩).run Tryz.prog W = .ok v W)
    (hc : w.cell? ⟨t, 0, none⟩ = some v) : (results fn tmps).run Tryz.prog w = .ok v w := by
  have hp' : tmps[p]?.getD undef = .pointer (some ⟨t, 0, none⟩) := by simpa using hp
  simp [results, h, hp', asAddr, hv w hc]

theorem load_u64 (t : Nat) (v : Value) (W : World) (h : W.cell? ⟨t, 0, none⟩ = some v) : (loadVar 40 ⟨t, 0, none⟩).run Tryz.prog W = .ok v W := by
  go_simp
theorem load_int (t : Nat) (v : Value) (W : World) (h : W.cell? ⟨t, 0, none⟩ = some v) : (loadVar 3 ⟨t, 0, none⟩).run Tryz.prog W = .ok v W := by
  go_simp
/-- What is told is stored once more, at the end. -/
theorem PC.atEnd {w : World} {g r t q : Nat} {b : List UInt8} {e : Int} (h : PC w g r b q e) (htg : t ≠ g) (htr : t ≠ r) (v : Value) : PC (w.setCell ⟨t, 0, none⟩ v) g r b q e :=
  h.told (Mod.ofOwn (grown_setCell w t 0 v)) ((grown_setCell w t 0 v).block g h.lt (by simpa using fun e => htg e.symm)) htr
theorem Mod.atEnd {w w1 w2 : World} {g t : Nat} (hE : Ext w w1) (hM : Mod w1 w2 g (some t)) (ht : w.heap.size ≤ t) (v : Value) : Mod w (w2.setCell ⟨t, 0, none⟩ v) g none :=
  (Mod.ofExt hE).trans (hM.trans (Mod.ofOwn (grown_setCell w2 t 0 v)) (.inl rfl)) (.inr ⟨t, rfl, ht⟩)

theorem read_told {w : World} {g r t q q' K : Nat} {T : TypeId} {b : List UInt8} {v : Value} {er : Int} {cap : Array Value} (hK : Entered K) (h : PC w g r b q 0) (htg : t ≠ g)
    (hC : Calls Tryz.prog K cap w fun e' w' => e' = .returned (.int .i64 er) ∧ Told w g r t T b v q' w') :
    Calls Tryz.prog 91 #[.pointer (some ⟨g, 0, none⟩), .func (.func K) #[] cap] w fun e' w' => e' = .returned (.tuple #[]) ∧ PC w' g r b q' er ∧ Whole w' t T #[v] ∧ Mod w w' g (some t) := by
  refine (read_any (R := fun er' w' => er' = er ∧ Told w g r t T b v q' w') hK h (hC.mono ?_)).mono ?_
  · rintro e' w' ⟨rfl, hT⟩
    exact ⟨er, q', rfl, hT.1, rfl, hT⟩
  · rintro e' w' ⟨rfl, er', _, w2, _, ⟨rfl, hT⟩, rfl⟩
    exact ⟨rfl, hT.1.setErr, hT.2.1.far htg 2 _, hT.2.2.trans (Mod.ofRow (grown_setCell w2 g 2 _)) (.inl rfl)⟩

end Go.Proofs.YtcphapdjimeoaaaGreat

namespace Go.Proofs.YtcphapdjimeoaaaGreat
open Go.RowKit

/-- A cursor is made of bytes of the call's own. -/
theorem PC.new {w : World} {base : Nat} {v : Value} {b : List UInt8} (h : OwnB w base v b) (hl : b.length ≤ 1000000) :
    ∃ r, PC (w.alloc (.cells #[v, .int .i64 0, .int .i64 0] 144)) w.heap.size r b 0 0 := by
  have hO := h.ext (extNew w (.cells #[v, .int .i64 0, .int .i64 0] 144))
  have hW := Whole.new w 144 #[v, .int .i64 0, .int .i64 0]
  rcases h.2 with ⟨rfl, h0⟩ | ⟨x, cap, cur, rfl, hb, hx, hn, _⟩
  · have hnil := List.eq_nil_of_length_eq_zero h0
    subst hnil
    exact ⟨w.heap.size, none, 0, hW, by simp, ⟨rfl, .inl rfl⟩, by simp, by simp, by simp⟩
  · have hxl := (Array.getElem?_eq_some_iff.1 hx).1
    refine ⟨x, some ⟨x, 0, none⟩, cap, hW, by simpa using hn, ⟨by simp, ?_⟩, by simp; omega, by simp, hl⟩
    refine .inr ⟨by omega, 0, rfl, fun i hi => ?_⟩
    rw [Nat.zero_add, List.drop_zero]
    exact (hO.cell (by simpa using hi)).1

theorem pcNew_any (A : Option Addr) (n c : Nat) (b : List UInt8) (w : World) (hc : n ≤ c) (hn : n ≤ 1000000) (hb : Bytes w w.heap.size A n b) :
    Calls Tryz.prog 61 #[.slice A n c] w fun e w' => ∃ g r, e = .returned (.pointer (some ⟨g, 0, none⟩)) ∧ w.heap.size ≤ g ∧ PC w' g r b 0 0 ∧ Ext w w' := by
  have hll := hb.1
  subst hll
  have C := slicesClone_any A b.length c b w hc (by omega) hb
  go_enter Tryz.func61, Tryz.ntmps61
  go_wp2_with fail
  refine C.mono ?_
  rintro e w1 ⟨v, rfl, hO, hE⟩
  obtain ⟨r, hP⟩ := PC.new hO hn
  have hB := hE.le
  obtain ⟨A1, n1, c1, rfl, _⟩ := hO.form'
  go_wp2
  go_ret
  exact ⟨w1.heap.size, r, rfl, hB, hP, hE.trans (extNew w1 _)⟩

theorem pcAt_any {w : World} {g r q : Nat} {b : List UInt8} {e : Int} (h : PC w g r b q e) :
    Calls Tryz.prog 65 #[.pointer (some ⟨g, 0, none⟩)] w fun e' w' => e' = .returned (.int .i64 (q : Int)) ∧ w = w' := by
  obtain ⟨A, c, c0, c1, _, _, _, _, hc, hR⟩ := h.cells
  clear hR h
  go_enter Tryz.func65, Tryz.ntmps65
  go_wp2
  go_ret
  exact ⟨rfl, rfl⟩
theorem pcErr_any {w : World} {g r q : Nat} {b : List UInt8} {e : Int} (h : PC w g r b q e) :
    Calls Tryz.prog 63 #[.pointer (some ⟨g, 0, none⟩)] w fun e' w' => e' = .returned (.int .i64 e) ∧ w = w' := by
  obtain ⟨A, c, c0, c1, c2, _, _, _, hc, hR⟩ := h.cells
  clear hR h
  go_enter Tryz.func63, Tryz.ntmps63
  go_wp2
  go_ret
  exact ⟨rfl, rfl⟩
theorem pcAt_nil (w : World) : Calls Tryz.prog 65 #[.pointer none] w fun e' w' => e' = .returned (.int .i64 0) ∧ w = w' := by
  go_enter Tryz.func65, Tryz.ntmps65
  go_wp2
  go_ret
  exact ⟨rfl, rfl⟩
theorem pcErr_nil (w : World) : Calls Tryz.prog 63 #[.pointer none] w fun e' w' => e' = .returned (.int .i64 13) ∧ w = w' := by
  go_enter Tryz.func63, Tryz.ntmps63
  go_wp2
  go_ret
  exact ⟨rfl, rfl⟩

theorem entered_fail1 : Entered 135 := entered_of Tryz.func135 (by kernel_rfl) rfl
theorem fail1_any {w : World} {B : Nat} {e : Int} (hB : w.cell? ⟨B, 0, none⟩ = some (.int .i64 e)) : Calls Tryz.prog 135 #[.pointer (some ⟨B, 0, none⟩)] w fun e' w' => e' = .returned (.int .i64 e) ∧ w = w' := by
  go_enter Tryz.func135, Tryz.ntmps135
  go_wp2
  go_ret
  exact ⟨rfl, rfl⟩
theorem pcFail_any {w : World} {g r q : Nat} {b : List UInt8} {e : Int} (h : PC w g r b q e) (e2 : Int) :
    Calls Tryz.prog 109 #[.pointer (some ⟨g, 0, none⟩), .int .i64 e2] w fun e' w' => e' = .returned (.tuple #[]) ∧ PcTo w g r b q (Num.failR e e2) w' := by
  have hE := extNew w (.cells #[.int .i64 e2] 28)
  have hP := h.ext hE
  have hB : (w.alloc (.cells #[.int .i64 e2] 28)).cell? ⟨w.heap.size, 0, none⟩ = some (.int .i64 e2) := cellNew w _ _ _ 0
  by_cases he : e = 0
  · subst he
    have C := read_any (R := fun er w' => er = e2 ∧ w.alloc (.cells #[.int .i64 e2] 28) = w') entered_fail1 hP ((fail1_any hB).mono (by rintro e' w' ⟨rfl, rfl⟩; exact ⟨e2, q, rfl, hP, rfl, rfl⟩))
    have HR := hide (show Num.failR 0 e2 = e2 from rfl)
    have HP := hide hP
    have HE := hide hE
    clear hB hP hE h
    go_enter Tryz.func109, Tryz.ntmps109
    go_wp2_with fail
    refine C.mono ?_
    rintro e' w2 ⟨rfl, er, q', w3, _, ⟨rfl, rfl⟩, rfl⟩
    go_wp2
    go_end0
    rw [HR.out]
    exact ⟨rfl, HP.out.setErr, (Mod.ofExt HE.out).trans (Mod.ofRow (grown_setCell _ g 2 _)) (.inl rfl)⟩
  · have HR := hide (show Num.failR e e2 = e by unfold Num.failR; rw [if_neg he])
    have C := read_stuck (K := 135) (cap := #[.pointer (some ⟨w.heap.size, 0, none⟩)]) hP he
    have HP := hide hP
    have HE := hide hE
    clear hB hP hE h he
    go_enter Tryz.func109, Tryz.ntmps109
    go_wp2_with fail
    refine C.mono ?_
    rintro e' w2 ⟨rfl, rfl⟩
    go_wp2
    go_end0
    rw [HR.out]
    exact ⟨rfl, HP.out, Mod.ofExt HE.out⟩
theorem pcFail_nil (w : World) (e2 : Int) : Calls Tryz.prog 109 #[.pointer none, .int .i64 e2] w fun e' w' => e' = .returned (.tuple #[]) ∧ Ext w w' := by
  have C := read_nil (w := w.alloc (.cells #[.int .i64 e2] 28)) (K := 135) (cap := #[.pointer (some ⟨w.heap.size, 0, none⟩)])
  have HE := hide (extNew w (.cells #[.int .i64 e2] 28))
  go_enter Tryz.func109, Tryz.ntmps109
  go_wp2_with fail
  refine C.mono ?_
  rintro e' w2 ⟨rfl, rfl⟩
  go_wp2
  go_end0
  exact ⟨rfl, HE.out⟩

theorem entered_end1 : Entered 110 := entered_of Tryz.func110 (by kernel_rfl) rfl
theorem end1_any {w : World} {g r B q : Nat} {b : List UInt8} {e : Int} (h : PC w g r b q e) (hB : w.cell? ⟨B, 0, none⟩ = some (.pointer (some ⟨g, 0, none⟩))) :
    Calls Tryz.prog 110 #[.pointer (some ⟨B, 0, none⟩)] w fun e' w' => e' = .returned (.int .i64 (Num.endR b q 0)) ∧ w = w' := by
  obtain ⟨A, c, c0, _, _, _, _, _, hc, hR⟩ := h.cells
  clear hR h
  by_cases h0 : 0 < b.length - q
  · have HR := hide (show Num.endR b q 0 = 2 by unfold Num.endR; rw [if_pos ⟨rfl, h0⟩])
    have h0' : (0 : Int) < ((b.length - q : Nat) : Int) := by omega
    go_enter Tryz.func110, Tryz.ntmps110
    go_wp2
    go_ret
    rw [HR.out]
    exact ⟨rfl, rfl⟩
  · have HR := hide (show Num.endR b q 0 = 0 by unfold Num.endR; rw [if_neg (fun h => h0 h.2)])
    have h0' : ¬ ((0 : Int) < ((b.length - q : Nat) : Int)) := by omega
    go_enter Tryz.func110, Tryz.ntmps110
    go_wp2
    go_ret
    rw [HR.out]
    exact ⟨rfl, rfl⟩
theorem pcEnd_any {w : World} {g r q : Nat} {b : List UInt8} {e : Int} (h : PC w g r b q e) :
    Calls Tryz.prog 89 #[.pointer (some ⟨g, 0, none⟩)] w fun e' w' => e' = .returned (.int .i64 (Num.endR b q e)) ∧ PcTo w g r b q (Num.endR b q e) w' := by
  have hE := extNew w (.cells #[.pointer (some ⟨g, 0, none⟩)] 116)
  have hP := h.ext hE
  have hglt := h.lt
  have hB : (w.alloc (.cells #[.pointer (some ⟨g, 0, none⟩)] 116)).cell? ⟨w.heap.size, 0, none⟩ = some (.pointer (some ⟨g, 0, none⟩)) := cellNew w _ _ _ 0
  by_cases he : e = 0
  · subst he
    have C := read_any (R := fun er w' => er = Num.endR b q 0 ∧ w.alloc (.cells #[.pointer (some ⟨g, 0, none⟩)] 116) = w') entered_end1 hP ((end1_any hP hB).mono (by rintro e' w' ⟨rfl, rfl⟩; exact ⟨_, q, rfl, hP, rfl, rfl⟩))
    generalize Num.endR b q 0 = E at *
    have HP := hide hP
    have HE := hide hE
    have HB := hide hB
    clear hB hP hE h
    go_enter Tryz.func89, Tryz.ntmps89
    go_wp2_with fail
    refine C.mono ?_
    rintro e' w2 ⟨rfl, er, q', w3, _, ⟨rfl, rfl⟩, rfl⟩
    have hP2 := HP.out.setErr (e' := er)
    have hM2 := (Mod.ofExt (g := g) (ob := none) HE.out).trans (Mod.ofRow (grown_setCell _ g 2 (.int .i64 er))) (.inl rfl)
    have hB2 := ((Mod.ofRow (ob := none) (grown_setCell (w.alloc (.cells #[.pointer (some ⟨g, 0, none⟩)] 116)) g 2 (.int .i64 er))).cell (x := w.heap.size) (i := 0) (by simp) (by omega) (by simp)).trans HB.out
    generalize (w.alloc (.cells #[.pointer (some ⟨g, 0, none⟩)] 116)).setCell ⟨g, 2, none⟩ (.int .i64 er) = w2 at *
    have C2 := pcErr_any hP2
    go_wp2_with fail
    refine C2.mono ?_
    rintro e' w4 ⟨rfl, rfl⟩
    go_wp2
    go_ret
    exact ⟨rfl, hP2, hM2⟩
  · have HR := hide (show Num.endR b q e = e by unfold Num.endR; rw [if_neg (fun h => he h.1)])
    have C := read_stuck (K := 110) (cap := #[.pointer (some ⟨w.heap.size, 0, none⟩)]) hP he
    have C2 := pcErr_any hP
    have HP := hide hP
    have HE := hide hE
    clear hP hE h he
    go_enter Tryz.func89, Tryz.ntmps89
    go_wp2_with fail
    refine C.mono ?_
    rintro e' w2 ⟨rfl, rfl⟩
    go_wp2_with fail
    refine C2.mono ?_
    rintro e' w4 ⟨rfl, rfl⟩
    go_wp2
    go_ret
    rw [HR.out]
    exact ⟨rfl, HP.out, Mod.ofExt HE.out⟩
theorem pcEnd_nil (w : World) : Calls Tryz.prog 89 #[.pointer none] w fun e' w' => e' = .returned (.int .i64 13) ∧ Ext w w' := by
  have C := read_nil (w := w.alloc (.cells #[.pointer none] 116)) (K := 110) (cap := #[.pointer (some ⟨w.heap.size, 0, none⟩)])
  have HE := hide (extNew w (.cells #[.pointer none] 116))
  have hB : (w.alloc (.cells #[.pointer none] 116)).cell? ⟨w.heap.size, 0, none⟩ = some (.pointer none) := cellNew w _ _ _ 0
  have C2 := pcErr_nil (w.alloc (.cells #[.pointer none] 116))
  go_enter Tryz.func89, Tryz.ntmps89
  go_wp2_with fail
  refine C.mono ?_
  rintro e' w2 ⟨rfl, rfl⟩
  go_wp2_with fail
  refine C2.mono ?_
  rintro e' w4 ⟨rfl, rfl⟩
  go_wp2
  go_ret
  exact ⟨rfl, HE.out⟩
end Go.Proofs.YtcphapdjimeoaaaGreat

namespace Go.Proofs.YtcphapdjimeoaaaGreat
open Go.RowKit

theorem Told.ext0 {w w' : World} {g r t q : Nat} {T : TypeId} {b : List UInt8} {v : Value} (h : PC w g r b q 0) (ht : Whole w t T #[v]) (hE : Ext w w') : Told w g r t T b v q w' := ⟨h.ext hE, ht.ext hE, Mod.ofExt hE⟩
/-- Behind a closure that tells bytes of the row. -/
def ToldRow (w : World) (g r t : Nat) (b l : List UInt8) (q : Nat) (w' : World) : Prop := ∃ A n c, PC w' g r b q 0 ∧ Whole w' t 142 #[.slice A n c] ∧ n ≤ c ∧ RowIn w' g r A n l ∧ Mod w w' g (some t)
theorem ToldRow.from {w w' w'' : World} {g r t q : Nat} {b l : List UInt8} (hE : Ext w w') (h : ToldRow w' g r t b l q w'') : ToldRow w g r t b l q w'' := by
  obtain ⟨A, n, c, h1, h2, h3, h4, h5⟩ := h
  exact ⟨A, n, c, h1, h2, h3, h4, (Mod.ofExt hE).trans h5 (.inl rfl)⟩
theorem ToldRow.ext0 {w w' : World} {g r t q : Nat} {b : List UInt8} (h : PC w g r b q 0) (ht : Whole w t 142 #[.slice none 0 0]) (hE : Ext w w') : ToldRow w g r t b [] q w' := ⟨none, 0, 0, h.ext hE, ht.ext hE, Nat.le_refl _, ⟨rfl, .inl rfl⟩, Mod.ofExt hE⟩
theorem ToldRow.of {w w' : World} {g r t q q0 nx cx : Nat} {e : Int} {b l : List UInt8} {Ax : Option Addr} (h : PC w g r b q0 e) (htr : t ≠ r) (hx : RowIn w g r Ax nx l) (hn : nx ≤ cx) (hT : Told w g r t 142 b (.slice Ax nx cx) q w') : ToldRow w g r t b l q w' :=
  ⟨Ax, nx, cx, hT.1, hT.2.1, hn, hx.mod hT.2.2 h.rlt (by simpa using htr), hT.2.2⟩

theorem entered_tellInt : Entered 113 := entered_of Tryz.func113 (by kernel_rfl) rfl
theorem entered_tellRow : Entered 147 := entered_of Tryz.func147 (by kernel_rfl) rfl

theorem intGoes {w : World} {g r t Bt Bc q m c : Nat} {b : List UInt8} {A : Option Addr} {most : Int} (hm : most ≤ 9223372036854775807) (h : PC w g r b q 0) (hrow : w.cell? ⟨g, 0, none⟩ = some (.slice A m c)) (hBt : w.cell? ⟨Bt, 0, none⟩ = some (.pointer (some ⟨t, 0, none⟩))) (hBc : w.cell? ⟨Bc, 0, none⟩ = some (.pointer (some ⟨g, 0, none⟩)))
    (ht : Whole w t 3 #[.int .i64 0]) (htg : t ≠ g) (htr : t ≠ r) (hct : Bc ≠ t) (hcg : Bc ≠ g) :
    Calls Tryz.prog 93 #[.slice A m c, .int .i64 most, .func (.func 113) #[] #[.pointer (some ⟨Bt, 0, none⟩), .pointer (some ⟨Bc, 0, none⟩)]] w
      fun e w' => e = .returned (.int .i64 (Num.intR b q 0 most).2.2) ∧ Told w g r t 3 b (.int .i64 (((Num.intR b q 0 most).1 : Nat) : Int)) (Num.intR b q 0 most).2.1 w' := by
  obtain ⟨A0, c0, d0, _, _, _, _, _, hc0, hR0⟩ := h.cells
  rw [hrow] at d0
  simp only [Option.some.injEq, Value.slice.injEq] at d0
  obtain ⟨rfl, rfl, rfl⟩ := d0
  have hl := h.bounds
  have hI : Num.intR b q 0 most = (if (Num.numR b q 0).2.2 = 0 then (if most < ((Num.numR b q 0).1 : Int) then (0, q, 6) else Num.numR b q 0) else (0, (Num.numR b q 0).2.1, (Num.numR b q 0).2.2)) := rfl
  rw [show Num.numR b q 0 = Num.scan b q from rfl, Num.scan_drop b q] at hI
  have hf := Num.scan_facts (b.drop q) 0
  have hlen : (b.drop q).length = b.length - q := List.length_drop
  have := count_any (w := w) (A := A) (c := c) (l := b.drop q) (most := most) (K := 113) (cap := #[.pointer (some ⟨Bt, 0, none⟩), .pointer (some ⟨Bc, 0, none⟩)])
    (R := fun e w' => e = .returned (.int .i64 (Num.intR b q 0 most).2.2) ∧ Told w g r t 3 b (.int .i64 (((Num.intR b q 0 most).1 : Nat) : Int)) (Num.intR b q 0 most).2.1 w')
    entered_tellInt hm (by rw [hlen]; exact hR0.bytes) (by omega) (by omega) (fun e w' he => ⟨_, he.1⟩)
    (fun er w' hE hcase => by
      rcases hcase with ⟨rfl, h0⟩ | ⟨h0, h6, rfl⟩
      · obtain ⟨h1, h2⟩ := hf.2.2.1 h0
        rw [if_neg h0, h1] at hI
        rw [hI]
        exact ⟨rfl, Told.ext0 h ht hE⟩
      · rw [if_pos h0, if_pos h6] at hI
        rw [hI]
        exact ⟨rfl, Told.ext0 h ht hE⟩)
    (fun h0 hle w' hE => by
      obtain ⟨h1, h2⟩ := hf.2.1 h0
      rw [if_pos h0, if_neg (by omega)] at hI
      rw [hI, h0]
      have hRd := (hR0.drop (k := (Num.scan (b.drop q) 0).2.1) (by omega) hc0)
      rw [List.drop_drop, Nat.sub_sub] at hRd
      rw [hlen, Nat.sub_sub]
      have hBlt := World.block_lt_of_cell? w ⟨Bt, 0, none⟩ hBt
      have hClt := World.block_lt_of_cell? w ⟨Bc, 0, none⟩ hBc
      refine (tellInt_any (h.ext hE) (by omega) (by omega) ((hE.cell hBlt).trans hBt) ((hE.cell hClt).trans hBc) (ht.ext hE) htg htr hct hcg (hRd.at (hE.block r h.rlt)) (by omega)).mono ?_
      rintro e w2 ⟨rfl, hT⟩
      exact ⟨rfl, Told.from hE hT⟩)
  rwa [hlen] at this

theorem takeGoes {w : World} {g r t Bt Bc q m c : Nat} {b : List UInt8} {A : Option Addr} {n : Int} (h : PC w g r b q 0) (hrow : w.cell? ⟨g, 0, none⟩ = some (.slice A m c)) (hBt : w.cell? ⟨Bt, 0, none⟩ = some (.pointer (some ⟨t, 0, none⟩))) (hBc : w.cell? ⟨Bc, 0, none⟩ = some (.pointer (some ⟨g, 0, none⟩)))
    (ht : Whole w t 142 #[.slice none 0 0]) (htg : t ≠ g) (htr : t ≠ r) (hct : Bc ≠ t) (hcg : Bc ≠ g) :
    Calls Tryz.prog 146 #[.slice A m c, .int .i64 n, .func (.func 147) #[] #[.pointer (some ⟨Bt, 0, none⟩), .pointer (some ⟨Bc, 0, none⟩)]] w
      fun e w' => e = .returned (.int .i64 (Num.takeR b q 0 n).2.2) ∧ ToldRow w g r t b (Num.takeR b q 0 n).1 (Num.takeR b q 0 n).2.1 w' := by
  obtain ⟨A0, c0, d0, _, _, _, _, _, hc0, hR0⟩ := h.cells
  rw [hrow] at d0
  simp only [Option.some.injEq, Value.slice.injEq] at d0
  obtain ⟨rfl, rfl, rfl⟩ := d0
  have hl := h.bounds
  refine first_any (w := w) (A := A) (m := b.length - q) (c := c) (n := n) (K := 147) (cap := #[.pointer (some ⟨Bt, 0, none⟩), .pointer (some ⟨Bc, 0, none⟩)]) entered_tellRow hc0 (fun e w' he => ⟨_, he.1⟩) (fun h0 => ?_) (fun h0 => ?_) (fun k hk hkm => ?_)
  · have hF : Num.takeR b q 0 n = ([], q, 13) := by unfold Num.takeR; rw [if_pos rfl, if_pos h0]
    rw [hF]
    exact ⟨rfl, ToldRow.ext0 h ht (Ext.refl _)⟩
  · have hF : Num.takeR b q 0 n = ([], q, 1) := by unfold Num.takeR; rw [if_pos rfl, if_neg (by omega), if_pos h0]
    rw [hF]
    exact ⟨rfl, ToldRow.ext0 h ht (Ext.refl _)⟩
  · subst hk
    have hF : Num.takeR b q 0 (k : Int) = ((b.drop q).take k, q + k, 0) := by unfold Num.takeR; rw [if_pos rfl, if_neg (by omega), if_neg (by omega)]; rfl
    rw [hF]
    have hE : Ext w w.drew := (Ext.refl w).drew
    have hRd := (hR0.drop (k := k) (by omega) hc0)
    rw [List.drop_drop, Nat.sub_sub] at hRd
    rw [Nat.sub_sub]
    have hRt := ((hR0.drop (k := 0) (by omega) hc0)).take (k := k) (by omega)
    rw [List.drop_zero] at hRt
    have hRt' := hRt.at (hE.block r h.rlt)
    have hBlt := World.block_lt_of_cell? w ⟨Bt, 0, none⟩ hBt
    have hClt := World.block_lt_of_cell? w ⟨Bc, 0, none⟩ hBc
    refine (tellRow_any (h.ext hE) (by omega) (by omega) ((hE.cell hBlt).trans hBt) ((hE.cell hClt).trans hBc) (ht.ext hE) htg htr hct hcg (hRd.at (hE.block r h.rlt)) (by omega)).mono ?_
    rintro e w2 ⟨rfl, hT⟩
    exact ⟨rfl, ToldRow.from hE (ToldRow.of (h.ext hE) htr hRt' (by omega) hT)⟩

theorem textGoes {w : World} {g r t Bt Bc q m c : Nat} {b : List UInt8} {A : Option Addr} {most : Int} (hm : most ≤ 9223372036854775807) (h : PC w g r b q 0) (hrow : w.cell? ⟨g, 0, none⟩ = some (.slice A m c)) (hBt : w.cell? ⟨Bt, 0, none⟩ = some (.pointer (some ⟨t, 0, none⟩))) (hBc : w.cell? ⟨Bc, 0, none⟩ = some (.pointer (some ⟨g, 0, none⟩)))
    (ht : Whole w t 142 #[.slice none 0 0]) (htg : t ≠ g) (htr : t ≠ r) (hct : Bc ≠ t) (hcg : Bc ≠ g) :
    Calls Tryz.prog 133 #[.slice A m c, .int .i64 most, .func (.func 147) #[] #[.pointer (some ⟨Bt, 0, none⟩), .pointer (some ⟨Bc, 0, none⟩)]] w
      fun e w' => e = .returned (.int .i64 (Num.textR b q 0 most).2.2) ∧ ToldRow w g r t b (Num.textR b q 0 most).1 (Num.textR b q 0 most).2.1 w' := by
  obtain ⟨A0, c0, d0, _, _, _, _, _, hc0, hR0⟩ := h.cells
  rw [hrow] at d0
  simp only [Option.some.injEq, Value.slice.injEq] at d0
  obtain ⟨rfl, rfl, rfl⟩ := d0
  have hl := h.bounds
  have hI : Num.intR b q 0 most = (if (Num.numR b q 0).2.2 = 0 then (if most < ((Num.numR b q 0).1 : Int) then (0, q, 6) else Num.numR b q 0) else (0, (Num.numR b q 0).2.1, (Num.numR b q 0).2.2)) := rfl
  rw [show Num.numR b q 0 = Num.scan b q from rfl, Num.scan_drop b q] at hI
  have hf := Num.scan_facts (b.drop q) 0
  have hlen : (b.drop q).length = b.length - q := List.length_drop
  have := text_any (w := w) (A := A) (c := c) (l := b.drop q) (most := most) (K := 147) (cap := #[.pointer (some ⟨Bt, 0, none⟩), .pointer (some ⟨Bc, 0, none⟩)])
    (R := fun e w' => e = .returned (.int .i64 (Num.textR b q 0 most).2.2) ∧ ToldRow w g r t b (Num.textR b q 0 most).1 (Num.textR b q 0 most).2.1 w')
    entered_tellRow hm (by rw [hlen]; exact hR0.bytes) (by omega) (by omega) (fun e w' he => ⟨_, he.1⟩)
    (fun er w' hE hcase => by
      rcases hcase with ⟨rfl, h0⟩ | ⟨h0, h6, rfl⟩ | ⟨h0, hle, hs, rfl⟩
      · obtain ⟨h1, h2⟩ := hf.2.2.1 h0
        rw [if_neg h0, h1] at hI
        have hF : Num.textR b q 0 most = ([], q, (Num.scan (b.drop q) 0).2.2) := by unfold Num.textR; rw [hI, if_neg h0]; rfl
        rw [hF]
        exact ⟨rfl, ToldRow.ext0 h ht hE⟩
      · rw [if_pos h0, if_pos h6] at hI
        have hF : Num.textR b q 0 most = ([], q, 6) := by unfold Num.textR; rw [hI, if_neg (by simp)]
        rw [hF]
        exact ⟨rfl, ToldRow.ext0 h ht hE⟩
      · obtain ⟨h1, h2⟩ := hf.2.1 h0
        rw [if_pos h0, if_neg (by omega)] at hI
        have hF : Num.textR b q 0 most = ([], q, 1) := by
          unfold Num.textR
          rw [hI, if_pos h0, if_pos (by simp only; omega)]
        rw [hF]
        exact ⟨rfl, ToldRow.ext0 h ht hE⟩)
    (fun h0 hle hs w' hE => by
      obtain ⟨h1, h2⟩ := hf.2.1 h0
      rw [if_pos h0, if_neg (by omega)] at hI
      generalize hx : (Num.scan (b.drop q) 0).1 = x at *
      generalize hp : (Num.scan (b.drop q) 0).2.1 = p at *
      have hF : Num.textR b q 0 most = ((b.drop (q + p)).take x, q + p + x, 0) := by
        unfold Num.textR
        rw [hI, if_pos h0, if_neg (by simp only; omega)]
        unfold Num.takeR
        rw [if_pos rfl, if_neg (by omega), if_neg (by simp only; omega)]
        rfl
      rw [hF]
      have hRd := hR0.drop (k := p) (by omega) hc0
      rw [List.drop_drop] at hRd
      have hRx := hRd.drop (k := x) (c := c - p) (by omega) (by omega)
      rw [List.drop_drop, show b.length - q - p - x = b.length - (q + p + x) by omega] at hRx
      have hRt := (hRd.drop (k := 0) (c := c - p) (by omega) (by omega)).take (k := x) (by omega)
      rw [List.drop_zero] at hRt
      have hRt' := hRt.at (hE.block r h.rlt)
      rw [hlen, show b.length - q - p - x = b.length - (q + p + x) by omega]
      have hBlt := World.block_lt_of_cell? w ⟨Bt, 0, none⟩ hBt
      have hClt := World.block_lt_of_cell? w ⟨Bc, 0, none⟩ hBc
      refine (tellRow_any (h.ext hE) (by omega) (by omega) ((hE.cell hBlt).trans hBt) ((hE.cell hClt).trans hBc) (ht.ext hE) htg htr hct hcg (hRx.at (hE.block r h.rlt)) (by omega)).mono ?_
      rintro e w2 ⟨rfl, hT⟩
      exact ⟨rfl, ToldRow.from hE (ToldRow.of (h.ext hE) htr hRt' (by omega) hT)⟩)
  rwa [hlen] at this

theorem entered_int1 : Entered 92 := entered_of Tryz.func92 (by kernel_rfl) rfl
set_option maxHeartbeats 2000000 in
set_option maxRecDepth 100000 in
theorem int1_any {w : World} {g r t B0 B1 q : Nat} {b : List UInt8} {most : Int} (hm : most ≤ 9223372036854775807) (h : PC w g r b q 0) (hB0 : w.cell? ⟨B0, 0, none⟩ = some (.pointer (some ⟨g, 0, none⟩))) (hB1 : w.cell? ⟨B1, 0, none⟩ = some (.int .i64 most)) (ht : Whole w t 3 #[.int .i64 0]) (htg : t ≠ g) (htr : t ≠ r) :
    Calls Tryz.prog 92 #[.pointer (some ⟨B0, 0, none⟩), .pointer (some ⟨B1, 0, none⟩), .pointer (some ⟨t, 0, none⟩)] w
      fun e w' => e = .returned (.int .i64 (Num.intR b q 0 most).2.2) ∧ Told w g r t 3 b (.int .i64 (((Num.intR b q 0 most).1 : Nat) : Int)) (Num.intR b q 0 most).2.1 w' := by
  obtain ⟨A, c, c0, x1, x2, x3, x4, x5, hc, hR⟩ := h.cells
  clear x1 x2 x3 x4 x5
  have hglt := h.lt
  have htlt := ht.lt
  have hBlt := World.block_lt_of_cell? w ⟨B0, 0, none⟩ hB0
  have hBlt1 := World.block_lt_of_cell? w ⟨B1, 0, none⟩ hB1
  have HP := hide h
  have HT := hide ht
  clear h ht hR hc
  go_enter Tryz.func92, Tryz.ntmps92
  go_wp2
  refine wp_region_T (fun W => W.cell? ⟨B0, 0, none⟩ = some (.pointer (some ⟨g, 0, none⟩)) ∧ W.cell? ⟨B1, 0, none⟩ = some (.int .i64 most) ∧ W.cell? ⟨g, 0, none⟩ = some (.slice A (b.length - q) c)) 7 9 #[false, false, false, false, false, false, false, false, false] (by kernel_rfl) rfl rfl ⟨hB0, hB1, c0⟩ ?_
  intro hS0
  refine wpAnyT_take 0 (some 4) (.pointer (some ⟨g, 0, none⟩)) #[true, false, false, false, false, false, false, false, false] rfl rfl rfl (by kernel_rfl) (fun _ _ _ h => h) hS0 (by rfl) (fun W ⟨s0, s1, s2⟩ => by go_simp) ?_
  simp only [Act.put, List.setIfInBounds_toArray, List.set_cons_zero, List.set_cons_succ]
  refine wpAnyT_take 1 (some 5) (.pointer (some ⟨g, 0, none⟩)) #[true, true, false, false, false, false, false, false, false] rfl rfl rfl (by kernel_rfl) (fun _ _ _ h => h) hS0 (by rfl) (fun W ⟨s0, s1, s2⟩ => by go_simp) ?_
  simp only [Act.put, List.setIfInBounds_toArray, List.set_cons_zero, List.set_cons_succ]
  refine wpAnyT_take 2 (some 6) (.pointer (some ⟨g, 0, none⟩)) #[true, true, true, false, false, false, false, false, false] rfl rfl rfl (by kernel_rfl) (fun _ _ _ h => h) hS0 (by rfl) (fun W ⟨s0, s1, s2⟩ => by go_simp) ?_
  simp only [Act.put, List.setIfInBounds_toArray, List.set_cons_zero, List.set_cons_succ]
  refine wpAnyT_take 3 (some 7) (.slice A (b.length - q) c) #[true, true, true, true, false, false, false, false, false] rfl rfl rfl (by kernel_rfl) (fun _ _ _ h => h) hS0 (by rfl) (fun W ⟨s0, s1, s2⟩ => by go_simp) ?_
  simp only [Act.put, List.setIfInBounds_toArray, List.set_cons_zero, List.set_cons_succ]
  refine wpAnyT_take 4 (some 8) (.int .i64 most) #[true, true, true, true, true, false, false, false, false] rfl rfl rfl (by kernel_rfl) (fun _ _ _ h => h) hS0 (by rfl) (fun W ⟨s0, s1, s2⟩ => by go_simp) ?_
  simp only [Act.put, List.setIfInBounds_toArray, List.set_cons_zero, List.set_cons_succ]
  refine wpAnyT_take 5 (some 9) (.pointer (some ⟨g, 0, none⟩)) #[true, true, true, true, true, true, false, false, false] rfl rfl rfl (by kernel_rfl) (fun _ _ _ h => h) hS0 (by rfl) (fun W ⟨s0, s1, s2⟩ => by go_simp) ?_
  simp only [Act.put, List.setIfInBounds_toArray, List.set_cons_zero, List.set_cons_succ]
  refine wpAnyT_only 6 #[true, true, true, true, true, true, true, false, false] (by kernel_rfl) rfl rfl (by rfl) (fun K hK => ?_)
  go_simp
  refine (takerInt_any g t _).mono ?_
  rintro e w2 ⟨Bt, Bc, rfl, _, hBc1, hBt, hBc, hE2'⟩
  have hE2 : Ext w w2 := (Ext.refl w).drew.trans hE2'
  have k0 := (hE2.cell (i := 0) hBlt).trans hB0
  have kn := (hE2.cell (i := 0) hBlt1).trans hB1
  have k1 := (hE2.cell (i := 0) hglt).trans c0
  change w.heap.size ≤ Bc at hBc1
  refine hK _ _ (fun _ => ⟨k0, kn, k1⟩) ?_
  clear hK K
  refine wpAnyT_only 7 #[true, true, true, true, true, true, true, true, false] (by kernel_rfl) rfl rfl (by rfl) (fun K hK => ?_)
  go_simp
  refine (intGoes hm (HP.out.ext hE2) k1 hBt hBc (HT.out.ext hE2) htg htr (by omega) (by omega)).mono ?_
  rintro e w3 ⟨rfl, hT3⟩
  refine hK _ _ (fun h => absurd h (by decide)) ?_
  clear hK K
  refine wpAnyT_only 8 #[true, true, true, true, true, true, true, true, true] (by kernel_rfl) rfl rfl (by rfl) (fun K hK => ?_)
  go_simp
  refine hK _ _ (fun h => absurd h (by decide)) ?_
  refine wpAnyT_done (by kernel_rfl) ?_ _
  go_wp2
  go_ret
  exact ⟨rfl, Told.from hE2 hT3⟩

theorem entered_ctext1 : Entered 132 := entered_of Tryz.func132 (by kernel_rfl) rfl
set_option maxHeartbeats 2000000 in
set_option maxRecDepth 100000 in
theorem ctext1_any {w : World} {g r t B0 B1 q : Nat} {b : List UInt8} {most : Int} (hm : most ≤ 9223372036854775807) (h : PC w g r b q 0) (hB0 : w.cell? ⟨B0, 0, none⟩ = some (.pointer (some ⟨g, 0, none⟩))) (hB1 : w.cell? ⟨B1, 0, none⟩ = some (.int .i64 most)) (ht : Whole w t 142 #[.slice none 0 0]) (htg : t ≠ g) (htr : t ≠ r) :
    Calls Tryz.prog 132 #[.pointer (some ⟨B0, 0, none⟩), .pointer (some ⟨B1, 0, none⟩), .pointer (some ⟨t, 0, none⟩)] w
      fun e w' => e = .returned (.int .i64 (Num.textR b q 0 most).2.2) ∧ ToldRow w g r t b (Num.textR b q 0 most).1 (Num.textR b q 0 most).2.1 w' := by
  obtain ⟨A, c, c0, x1, x2, x3, x4, x5, hc, hR⟩ := h.cells
  clear x1 x2 x3 x4 x5
  have hglt := h.lt
  have htlt := ht.lt
  have hBlt := World.block_lt_of_cell? w ⟨B0, 0, none⟩ hB0
  have hBlt1 := World.block_lt_of_cell? w ⟨B1, 0, none⟩ hB1
  have HP := hide h
  have HT := hide ht
  clear h ht hR hc
  go_enter Tryz.func132, Tryz.ntmps132
  go_wp2
  refine wp_region_T (fun W => W.cell? ⟨B0, 0, none⟩ = some (.pointer (some ⟨g, 0, none⟩)) ∧ W.cell? ⟨B1, 0, none⟩ = some (.int .i64 most) ∧ W.cell? ⟨g, 0, none⟩ = some (.slice A (b.length - q) c)) 7 9 #[false, false, false, false, false, false, false, false, false] (by kernel_rfl) rfl rfl ⟨hB0, hB1, c0⟩ ?_
  intro hS0
  refine wpAnyT_take 0 (some 4) (.pointer (some ⟨g, 0, none⟩)) #[true, false, false, false, false, false, false, false, false] rfl rfl rfl (by kernel_rfl) (fun _ _ _ h => h) hS0 (by rfl) (fun W ⟨s0, s1, s2⟩ => by go_simp) ?_
  simp only [Act.put, List.setIfInBounds_toArray, List.set_cons_zero, List.set_cons_succ]
  refine wpAnyT_take 1 (some 5) (.pointer (some ⟨g, 0, none⟩)) #[true, true, false, false, false, false, false, false, false] rfl rfl rfl (by kernel_rfl) (fun _ _ _ h => h) hS0 (by rfl) (fun W ⟨s0, s1, s2⟩ => by go_simp) ?_
  simp only [Act.put, List.setIfInBounds_toArray, List.set_cons_zero, List.set_cons_succ]
  refine wpAnyT_take 2 (some 6) (.pointer (some ⟨g, 0, none⟩)) #[true, true, true, false, false, false, false, false, false] rfl rfl rfl (by kernel_rfl) (fun _ _ _ h => h) hS0 (by rfl) (fun W ⟨s0, s1, s2⟩ => by go_simp) ?_
  simp only [Act.put, List.setIfInBounds_toArray, List.set_cons_zero, List.set_cons_succ]
  refine wpAnyT_take 3 (some 7) (.slice A (b.length - q) c) #[true, true, true, true, false, false, false, false, false] rfl rfl rfl (by kernel_rfl) (fun _ _ _ h => h) hS0 (by rfl) (fun W ⟨s0, s1, s2⟩ => by go_simp) ?_
  simp only [Act.put, List.setIfInBounds_toArray, List.set_cons_zero, List.set_cons_succ]
  refine wpAnyT_take 4 (some 8) (.int .i64 most) #[true, true, true, true, true, false, false, false, false] rfl rfl rfl (by kernel_rfl) (fun _ _ _ h => h) hS0 (by rfl) (fun W ⟨s0, s1, s2⟩ => by go_simp) ?_
  simp only [Act.put, List.setIfInBounds_toArray, List.set_cons_zero, List.set_cons_succ]
  refine wpAnyT_take 5 (some 9) (.pointer (some ⟨g, 0, none⟩)) #[true, true, true, true, true, true, false, false, false] rfl rfl rfl (by kernel_rfl) (fun _ _ _ h => h) hS0 (by rfl) (fun W ⟨s0, s1, s2⟩ => by go_simp) ?_
  simp only [Act.put, List.setIfInBounds_toArray, List.set_cons_zero, List.set_cons_succ]
  refine wpAnyT_only 6 #[true, true, true, true, true, true, true, false, false] (by kernel_rfl) rfl rfl (by rfl) (fun K hK => ?_)
  go_simp
  refine (takerRow_any g t _).mono ?_
  rintro e w2 ⟨Bt, Bc, rfl, _, hBc1, hBt, hBc, hE2'⟩
  have hE2 : Ext w w2 := (Ext.refl w).drew.trans hE2'
  have k0 := (hE2.cell (i := 0) hBlt).trans hB0
  have kn := (hE2.cell (i := 0) hBlt1).trans hB1
  have k1 := (hE2.cell (i := 0) hglt).trans c0
  change w.heap.size ≤ Bc at hBc1
  refine hK _ _ (fun _ => ⟨k0, kn, k1⟩) ?_
  clear hK K
  refine wpAnyT_only 7 #[true, true, true, true, true, true, true, true, false] (by kernel_rfl) rfl rfl (by rfl) (fun K hK => ?_)
  go_simp
  refine (textGoes hm (HP.out.ext hE2) k1 hBt hBc (HT.out.ext hE2) htg htr (by omega) (by omega)).mono ?_
  rintro e w3 ⟨rfl, hT3⟩
  refine hK _ _ (fun h => absurd h (by decide)) ?_
  clear hK K
  refine wpAnyT_only 8 #[true, true, true, true, true, true, true, true, true] (by kernel_rfl) rfl rfl (by rfl) (fun K hK => ?_)
  go_simp
  refine hK _ _ (fun h => absurd h (by decide)) ?_
  refine wpAnyT_done (by kernel_rfl) ?_ _
  go_wp2
  go_ret
  exact ⟨rfl, ToldRow.from hE2 hT3⟩
end Go.Proofs.YtcphapdjimeoaaaGreat

namespace Go.Proofs.YtcphapdjimeoaaaGreat
open Go.RowKit

theorem run_append_zeroR (w : World) (ty : TypeId) (base : Nat) (v : Value) (l : List UInt8) (hown : OwnB w base v l) (A : Option Addr) (c : Nat) :
    (Builtin.append_ #[142, 142] ty #[v, .slice A 0 c]).run Tryz.prog w = .ok v w := by
  obtain ⟨i, hi, _, _, _⟩ := info_parts byte_info
  rcases hown.2 with ⟨rfl, _⟩ | ⟨g, cap, cur, rfl, _, _, hnc, _⟩
  · cases A <;> simp [Builtin.append_, run_underlying Tryz.underlying142, sizeOf, typeInfo, hi, Builtin.lenOf, Builtin.firstCells, loadCells, loadCellsFrom]
  · cases A <;> simp [Builtin.append_, run_underlying Tryz.underlying142, sizeOf, typeInfo, hi, Builtin.lenOf, Builtin.firstCells, loadCells, loadCellsFrom, hnc, storeCells]

/-- append of bytes, wherever they lie. -/
theorem app_runR {w : World} (ty : TypeId) {base : Nat} {v : Value} {l : List UInt8} (hown : OwnB w base v l) {A : Option Addr} {m : Nat} {k : List UInt8} (c : Nat) (hb : Bytes w w.heap.size A m k)
    (hlen : l.length + m ≤ 140737488355328) (hbase : base ≤ w.heap.size) :
    ∃ v' w', (Builtin.append_ #[142, 142] ty #[v, .slice A m c]).run Tryz.prog w = .ok v' w' ∧ OwnB w' base v' (l ++ k) ∧ w.grownBy w' v.ownBlock := by
  obtain ⟨hk, hb⟩ := hb
  rcases hb with rfl | ⟨b, off, rfl, hB, hc⟩
  · obtain rfl := List.eq_nil_of_length_eq_zero hk
    exact ⟨v, w, run_append_zeroR w ty base v l hown A c, by simpa using hown, World.grownBy.refl w _⟩
  · obtain ⟨i, hi, hz, hs, hby⟩ := info_parts byte_info
    obtain ⟨v', w', hr, h2, h3, _⟩ := run_append_own (P := Tryz.prog) w base 142 ty 5 i _ 1 1 Tryz.underlying142 hi hz hs hby rfl (by omega) v l.length (l.map byteV) hown
      ⟨b, off, none⟩ m c (k.map byteV) (by simpa using hk) (by
        intro j u hu
        have hj : j < m := by
          rcases Nat.lt_or_ge j m with h | h
          · exact h
          · rw [List.getElem?_eq_none (by simp; omega)] at hu; cases hu
        have hadd : (⟨b, off, none⟩ : Addr).add j = ⟨b, off + j, none⟩ := by unfold Addr.add; split <;> simp_all
        rw [hadd, hc j hj]
        rw [List.getElem?_map, List.getElem?_eq_getElem (by omega)] at hu
        rw [List.getD_eq_getElem?_getD, List.getElem?_eq_getElem (by omega)]
        simpa [byteV] using hu) (by
        intro u hu
        obtain ⟨x, _, rfl⟩ := List.mem_map.1 hu
        rfl) (by unfold maxLen; omega) (by omega) hbase
    refine ⟨v', w', hr, ?_, h3⟩
    unfold OwnB
    rw [List.length_append, hk, List.map_append]
    exact h2
theorem wp_appR {o : Oper} {a : Act} {K : Act → World → Prop} {Q : Exit → Act → World → Prop} {w : World} (s x : Operand)
    (ho : o.op = .call { callee := .builtin .append, args := #[s, x], argTypes := #[142, 142] }) {base : Nat} {v : Value} {l : List UInt8} (hs : a.eval s = v) (hown : OwnB w base v l)
    {A : Option Addr} {m c : Nat} {k : List UInt8} (hx : a.eval x = .slice A m c) (hb : Bytes w w.heap.size A m k) (hlen : l.length + m ≤ 140737488355328) (hbase : base ≤ w.heap.size)
    (h : ∀ v' w', OwnB w' base v' (l ++ k) → w.grownBy w' v.ownBlock → K (a.put o.dst v') w') : o.wp Tryz.prog a w K Q := by
  obtain ⟨v', w', hr, h2, h3⟩ := app_runR o.type hown c hb hlen hbase
  unfold Oper.wp execOp
  simp only [ho, resolve, invoke, builtin, Sem.run_bind, Sem.run_pure, Result.andThen_ok, List.map_toArray, List.map_cons, List.map_nil, hs, hx, hr]
  exact h v' w' h2 h3
/-- The same for a walk of a plain region. -/
theorem wpList_appR {ops : Array Oper} {rest : List Oper} {o : Oper} {a : Act} {Q : Exit → Act → World → Prop} {w : World} (hgd : o.guard = none) (s x : Operand)
    (ho : o.op = .call { callee := .builtin .append, args := #[s, x], argTypes := #[142, 142] }) {base : Nat} {v : Value} {l : List UInt8} (hs : a.eval s = v) (hown : OwnB w base v l)
    {A : Option Addr} {m c : Nat} {k : List UInt8} (hx : a.eval x = .slice A m c) (hb : Bytes w w.heap.size A m k) (hlen : l.length + m ≤ 140737488355328) (hbase : base ≤ w.heap.size)
    (h : ∀ v' w', OwnB w' base v' (l ++ k) → w.grownBy w' v.ownBlock → wpList Tryz.prog ops Q rest (a.put o.dst v') w') : wpList Tryz.prog ops Q (o :: rest) a w :=
  wpList_plain hgd fun _ hK => wp_appR s x ho hs hown hx hb hlen hbase fun v' w' h2 h3 => hK _ _ (h v' w' h2 h3)

theorem conv_row {w : World} {B : Nat} {A : Option Addr} {n : Nat} {l : List UInt8} (c : Nat) (h : Bytes w B A n l) (hA : A = none → n = 0) :
    (convert 142 9 (.slice A n c)).run Tryz.prog w = .ok (.string ⟨l.toArray⟩) w := by
  obtain ⟨hl, hb⟩ := h
  rcases A with _ | ad
  · obtain rfl := hA rfl
    obtain rfl := List.eq_nil_of_length_eq_zero hl
    exact run_convert_bytes_nil w 142 5 Tryz.underlying142 Tryz.underlying5 0 c 9 Tryz.underlying9
  · subst hl
    refine run_convert_bytes_back w 142 9 5 ad c l Tryz.underlying142 Tryz.underlying5 Tryz.underlying9 fun j hj => ?_
    rcases hb with h0 | ⟨b, off, hA, _, hc⟩
    · omega
    · obtain rfl : ad = ⟨b, off, none⟩ := by injection hA
      have hadd : (⟨b, off, none⟩ : Addr).add j = ⟨b, off + j, none⟩ := by unfold Addr.add; split <;> simp_all
      rw [hadd, hc j hj, List.getD_eq_getElem?_getD, List.getElem?_eq_getElem hj]
      rfl
end Go.Proofs.YtcphapdjimeoaaaGreat

namespace Go.Proofs.YtcphapdjimeoaaaGreat
open Go.RowKit

theorem Num.intR_stuck {b : List UInt8} {q : Nat} {e : Int} (he : e ≠ 0) (most : Int) : Num.intR b q e most = (0, q, e) := by
  have hN : Num.numR b q e = (0, q, e) := by unfold Num.numR; rw [if_neg he]
  unfold Num.intR
  rw [hN, if_neg he]
theorem Num.fixedR_stuck {b : List UInt8} {q : Nat} {e : Int} (he : e ≠ 0) (n : Int) : Num.fixedR b q e n = (0, q, e) := by unfold Num.fixedR; rw [if_neg he]
theorem Num.takeR_stuck {b : List UInt8} {q : Nat} {e : Int} (he : e ≠ 0) (n : Int) : Num.takeR b q e n = ([], q, e) := by unfold Num.takeR; rw [if_neg he]
theorem Num.textR_stuck {b : List UInt8} {q : Nat} {e : Int} (he : e ≠ 0) (most : Int) : Num.textR b q e most = ([], q, e) := by
  unfold Num.textR
  rw [Num.intR_stuck he, if_neg he]
theorem Num.takeR_len (b : List UInt8) (q : Nat) (e n : Int) : (Num.takeR b q e n).1.length ≤ b.length := by
  unfold Num.takeR
  split
  · split
    · simp
    · split
      · simp
      · simp; omega
  · simp
theorem Num.textR_len (b : List UInt8) (q : Nat) (e most : Int) : (Num.textR b q e most).1.length ≤ b.length := by
  unfold Num.textR
  split
  · split
    · simp
    · exact Num.takeR_len _ _ _ _
  · simp

theorem read_toldRow {w : World} {g r t q q' K : Nat} {b l : List UInt8} {er : Int} {cap : Array Value} (hK : Entered K) (h : PC w g r b q 0) (htg : t ≠ g)
    (hC : Calls Tryz.prog K cap w fun e' w' => e' = .returned (.int .i64 er) ∧ ToldRow w g r t b l q' w') :
    Calls Tryz.prog 91 #[.pointer (some ⟨g, 0, none⟩), .func (.func K) #[] cap] w fun e' w' => e' = .returned (.tuple #[]) ∧ ∃ A n c, PC w' g r b q' er ∧ Whole w' t 142 #[.slice A n c] ∧ n ≤ c ∧ RowIn w' g r A n l ∧ Mod w w' g (some t) := by
  refine (read_any (R := fun er' w' => er' = er ∧ ToldRow w g r t b l q' w') hK h (hC.mono ?_)).mono ?_
  · rintro e' w' ⟨rfl, hT⟩
    obtain ⟨A, n, c, hP, hr⟩ := id hT
    exact ⟨er, q', rfl, hP, rfl, hT⟩
  · rintro e' w' ⟨rfl, er', _, w2, _, ⟨rfl, A, n, c, hP, hW, hc, hR, hM⟩, rfl⟩
    have hG := Mod.ofRow (ob := none) (grown_setCell w2 g 2 (.int .i64 er'))
    exact ⟨rfl, A, n, c, hP.setErr, hW.far htg 2 _, hc, hR.mod hG hP.rlt (by simp), hM.trans (Mod.ofRow (grown_setCell w2 g 2 _)) (.inl rfl)⟩

set_option maxHeartbeats 2000000 in
set_option maxRecDepth 100000 in
theorem pcInt_any {w : World} {g r q : Nat} {b : List UInt8} {e : Int} (h : PC w g r b q e) (most : Int) (hm : most ≤ 9223372036854775807) :
    Calls Tryz.prog 62 #[.pointer (some ⟨g, 0, none⟩), .int .i64 most] w fun e' w' => e' = .returned (.int .i64 (((Num.intR b q e most).1 : Nat) : Int)) ∧ PcTo w g r b (Num.intR b q e most).2.1 (Num.intR b q e most).2.2 w' := by
  have hglt := h.lt
  have hrlt := h.rlt
  have hbl := h.bounds.2
  have hE1 := extNew w (.cells #[.pointer (some ⟨g, 0, none⟩)] 116)
  have hE2 := extNew (w.alloc (.cells #[.pointer (some ⟨g, 0, none⟩)] 116)) (.cells #[.int .i64 most] 3)
  have hE3 := extNew ((w.alloc (.cells #[.pointer (some ⟨g, 0, none⟩)] 116)).alloc (.cells #[.int .i64 most] 3)) (.cells #[.int .i64 0] 3)
  have hE := (hE1.trans hE2).trans hE3
  have hP := h.ext hE
  have hB0 : (((w.alloc (.cells #[.pointer (some ⟨g, 0, none⟩)] 116)).alloc (.cells #[.int .i64 most] 3)).alloc (.cells #[.int .i64 0] 3)).cell? ⟨w.heap.size, 0, none⟩ = some (.pointer (some ⟨g, 0, none⟩)) := ((hE2.trans hE3).cell (by simp)).trans (cellNew w _ _ _ 0)
  have hB1 : (((w.alloc (.cells #[.pointer (some ⟨g, 0, none⟩)] 116)).alloc (.cells #[.int .i64 most] 3)).alloc (.cells #[.int .i64 0] 3)).cell? ⟨w.heap.size + 1, 0, none⟩ = some (.int .i64 most) := by
    have h1 := cellNew (w.alloc (.cells #[.pointer (some ⟨g, 0, none⟩)] 116)) #[.int .i64 most] 3 (0, 0) 0
    rw [World.size_alloc] at h1
    exact (hE3.cell (by simp)).trans h1
  have ht := Whole.new ((w.alloc (.cells #[.pointer (some ⟨g, 0, none⟩)] 116)).alloc (.cells #[.int .i64 most] 3)) 3 #[.int .i64 0]
  rw [World.size_alloc, World.size_alloc] at ht
  by_cases he : e = 0
  · subst he
    have C := read_told (q' := (Num.intR b q 0 most).2.1) (er := (Num.intR b q 0 most).2.2) (v := .int .i64 (((Num.intR b q 0 most).1 : Nat) : Int)) entered_int1 hP (t := w.heap.size + 1 + 1) (by omega) (int1_any hm hP hB0 hB1 ht (by omega) (by omega))
    generalize Num.intR b q 0 most = res at *
    obtain ⟨x, q', er⟩ := res
    dsimp only at *
    have HE := hide hE
    clear hP hB0 hB1 ht hE1 hE2 hE3 hE h
    go_enter Tryz.func62, Tryz.ntmps62
    go_wp2_with fail
    refine C.mono ?_
    rintro e' w2 ⟨rfl, hP2, hW2, hM2⟩
    have t0 : w2.cell? ⟨w.heap.size + 1 + 1, 0, none⟩ = some (.int .i64 (x : Int)) := hW2.cell 0
    have t1 := hW2.frozen 0
    go_wp2
    refine bodyPost_ret (results_cell_one rfl _ rfl (load_int _ _) ((hW2.set 0 _).cell 0)) rfl ⟨rfl, hP2.atEnd (by omega) (by omega) _, ?_⟩
    exact Mod.atEnd HE.out hM2 (by omega) _
  · have HN := hide (Num.intR_stuck (b := b) (q := q) he most)
    have C := read_stuck (K := 92) (cap := #[.pointer (some ⟨w.heap.size, 0, none⟩), .pointer (some ⟨w.heap.size + 1, 0, none⟩), .pointer (some ⟨w.heap.size + 1 + 1, 0, none⟩)]) hP he
    have t0 := ht.cell 0
    have t1 := ht.frozen 0
    have HP := hide hP
    have HE := hide hE
    have HT := hide ht
    clear hP hB0 hB1 ht hE1 hE2 hE3 hE h he
    go_enter Tryz.func62, Tryz.ntmps62
    go_wp2_with fail
    refine C.mono ?_
    rintro e' w2 ⟨rfl, rfl⟩
    go_wp2
    rw [HN.out]
    refine bodyPost_ret (results_cell_one rfl _ rfl (load_int _ _) (HT.out.cell 0)) rfl ⟨rfl, HP.out, Mod.ofExt HE.out⟩

/-- Of no cursor: nothing. -/
theorem pcInt_nil (w : World) (most : Int) : Calls Tryz.prog 62 #[.pointer none, .int .i64 most] w fun e' w' => e' = .returned (.int .i64 0) ∧ Ext w w' := by
  have hE1 := extNew w (.cells #[.pointer none] 116)
  have hE2 := extNew (w.alloc (.cells #[.pointer none] 116)) (.cells #[.int .i64 most] 3)
  have HE := hide ((hE1.trans hE2).trans (extNew ((w.alloc (.cells #[.pointer none] 116)).alloc (.cells #[.int .i64 most] 3)) (.cells #[.int .i64 0] 3)))
  have ht := Whole.new ((w.alloc (.cells #[.pointer none] 116)).alloc (.cells #[.int .i64 most] 3)) 3 #[.int .i64 0]
  rw [World.size_alloc, World.size_alloc] at ht
  have t0 := ht.cell 0
  have t1 := ht.frozen 0
  have HT := hide ht
  have C := read_nil (w := ((w.alloc (.cells #[.pointer none] 116)).alloc (.cells #[.int .i64 most] 3)).alloc (.cells #[.int .i64 0] 3)) (K := 92) (cap := #[.pointer (some ⟨w.heap.size, 0, none⟩), .pointer (some ⟨w.heap.size + 1, 0, none⟩), .pointer (some ⟨w.heap.size + 1 + 1, 0, none⟩)])
  clear hE1 hE2 ht
  go_enter Tryz.func62, Tryz.ntmps62
  go_wp2_with fail
  refine C.mono ?_
  rintro e' w2 ⟨rfl, rfl⟩
  go_wp2
  exact bodyPost_ret (results_cell_one rfl _ rfl (load_int _ _) (HT.out.cell 0)) rfl ⟨rfl, HE.out⟩

set_option maxHeartbeats 2000000 in
set_option maxRecDepth 100000 in
theorem pcText_any {w : World} {g r q : Nat} {b : List UInt8} {e : Int} (h : PC w g r b q e) (most : Int) (hm : most ≤ 9223372036854775807) :
    Calls Tryz.prog 107 #[.pointer (some ⟨g, 0, none⟩), .int .i64 most] w fun e' w' => e' = .returned (.string ⟨(Num.textR b q e most).1.toArray⟩) ∧ PcTo w g r b (Num.textR b q e most).2.1 (Num.textR b q e most).2.2 w' := by
  have hglt := h.lt
  have hrlt := h.rlt
  have hbl := h.bounds.2
  have hE1 := extNew w (.cells #[.pointer (some ⟨g, 0, none⟩)] 116)
  have hE2 := extNew (w.alloc (.cells #[.pointer (some ⟨g, 0, none⟩)] 116)) (.cells #[.int .i64 most] 3)
  have hE3 := extNew ((w.alloc (.cells #[.pointer (some ⟨g, 0, none⟩)] 116)).alloc (.cells #[.int .i64 most] 3)) (.cells #[.slice none 0 0] 142)
  have hE := (hE1.trans hE2).trans hE3
  have hP := h.ext hE
  have hB0 : (((w.alloc (.cells #[.pointer (some ⟨g, 0, none⟩)] 116)).alloc (.cells #[.int .i64 most] 3)).alloc (.cells #[.slice none 0 0] 142)).cell? ⟨w.heap.size, 0, none⟩ = some (.pointer (some ⟨g, 0, none⟩)) := ((hE2.trans hE3).cell (by simp)).trans (cellNew w _ _ _ 0)
  have hB1 : (((w.alloc (.cells #[.pointer (some ⟨g, 0, none⟩)] 116)).alloc (.cells #[.int .i64 most] 3)).alloc (.cells #[.slice none 0 0] 142)).cell? ⟨w.heap.size + 1, 0, none⟩ = some (.int .i64 most) := by
    have h1 := cellNew (w.alloc (.cells #[.pointer (some ⟨g, 0, none⟩)] 116)) #[.int .i64 most] 3 (0, 0) 0
    rw [World.size_alloc] at h1
    exact (hE3.cell (by simp)).trans h1
  have ht := Whole.new ((w.alloc (.cells #[.pointer (some ⟨g, 0, none⟩)] 116)).alloc (.cells #[.int .i64 most] 3)) 142 #[.slice none 0 0]
  rw [World.size_alloc, World.size_alloc] at ht
  by_cases he : e = 0
  · subst he
    have hlen := Num.textR_len b q 0 most
    have C := read_toldRow (q' := (Num.textR b q 0 most).2.1) (er := (Num.textR b q 0 most).2.2) (l := (Num.textR b q 0 most).1) entered_ctext1 hP (t := w.heap.size + 1 + 1) (by omega) (ctext1_any hm hP hB0 hB1 ht (by omega) (by omega))
    generalize Num.textR b q 0 most = res at *
    obtain ⟨l, q', er⟩ := res
    dsimp only at *
    have HE := hide hE
    clear hP hB0 hB1 ht hE1 hE2 hE3 hE h
    go_enter Tryz.func107, Tryz.ntmps107
    go_wp2_with fail
    refine C.mono ?_
    rintro e' w2 ⟨rfl, A2, n2, c2, hP2, hW2, hc2, hR2, hM2⟩
    have t0 : w2.cell? ⟨w.heap.size + 1 + 1, 0, none⟩ = some (.slice A2 n2 c2) := hW2.cell 0
    have hb2 := hR2.bytes
    have hn2 := hR2.1
    have hM : Mod w w2 g none := (Mod.ofExt HE.out).trans hM2 (.inr ⟨_, rfl, by omega⟩)
    have hcv := conv_row (w := w2) c2 hb2 (fun hA => by
      rcases hb2.2 with h0 | ⟨_, _, h0, _⟩
      · exact h0
      · rw [hA] at h0; cases h0)
    clear hR2 hb2
    go_wp2
    go_ret
    exact ⟨rfl, hP2, hM⟩
  · have HN := hide (Num.textR_stuck (b := b) (q := q) he most)
    have C := read_stuck (K := 132) (cap := #[.pointer (some ⟨w.heap.size, 0, none⟩), .pointer (some ⟨w.heap.size + 1, 0, none⟩), .pointer (some ⟨w.heap.size + 1 + 1, 0, none⟩)]) hP he
    have t0 := ht.cell 0
    have t1 := ht.frozen 0
    have HP := hide hP
    have HE := hide hE
    have HT := hide ht
    clear hP hB0 hB1 ht hE1 hE2 hE3 hE h he
    go_enter Tryz.func107, Tryz.ntmps107
    go_wp2_with fail
    refine C.mono ?_
    rintro e' w2 ⟨rfl, rfl⟩
    have hcv := conv_row (w := ((w.alloc (.cells #[.pointer (some ⟨g, 0, none⟩)] 116)).alloc (.cells #[.int .i64 most] 3)).alloc (.cells #[.slice none 0 0] 142)) (A := none) (n := 0) (l := []) 0 (Bytes.none _ 0 _) (fun _ => rfl)
    go_wp2
    go_ret
    rw [HN.out]
    exact ⟨rfl, HP.out, Mod.ofExt HE.out⟩

/-- Of no cursor: nothing. -/
theorem pcText_nil (w : World) (most : Int) : Calls Tryz.prog 107 #[.pointer none, .int .i64 most] w fun e' w' => e' = .returned (.string ⟨#[]⟩) ∧ Ext w w' := by
  have hE1 := extNew w (.cells #[.pointer none] 116)
  have hE2 := extNew (w.alloc (.cells #[.pointer none] 116)) (.cells #[.int .i64 most] 3)
  have HE := hide ((hE1.trans hE2).trans (extNew ((w.alloc (.cells #[.pointer none] 116)).alloc (.cells #[.int .i64 most] 3)) (.cells #[.slice none 0 0] 142)))
  have ht := Whole.new ((w.alloc (.cells #[.pointer none] 116)).alloc (.cells #[.int .i64 most] 3)) 142 #[.slice none 0 0]
  rw [World.size_alloc, World.size_alloc] at ht
  have t0 := ht.cell 0
  have t1 := ht.frozen 0
  have HT := hide ht
  have C := read_nil (w := ((w.alloc (.cells #[.pointer none] 116)).alloc (.cells #[.int .i64 most] 3)).alloc (.cells #[.slice none 0 0] 142)) (K := 132) (cap := #[.pointer (some ⟨w.heap.size, 0, none⟩), .pointer (some ⟨w.heap.size + 1, 0, none⟩), .pointer (some ⟨w.heap.size + 1 + 1, 0, none⟩)])
  clear hE1 hE2 ht
  go_enter Tryz.func107, Tryz.ntmps107
  go_wp2_with fail
  refine C.mono ?_
  rintro e' w2 ⟨rfl, rfl⟩
  have hcv := conv_row (w := ((w.alloc (.cells #[.pointer none] 116)).alloc (.cells #[.int .i64 most] 3)).alloc (.cells #[.slice none 0 0] 142)) (A := none) (n := 0) (l := []) 0 (Bytes.none _ 0 _) (fun _ => rfl)
  go_wp2
  go_ret
  exact ⟨rfl, HE.out⟩

theorem Num.byte_fixed (b : List UInt8) (q : Nat) (e : Int) : Num.byteR b q e = Num.fixedR b q e 1 := by
  unfold Num.byteR Num.fixedR
  by_cases he : e = 0
  · subst he
    rw [if_pos rfl, if_neg (by omega)]
    have hlen : (Num.takeR b q 0 1).1.length ≤ 1 := by
      unfold Num.takeR
      rw [if_pos rfl, if_neg (by omega)]
      split
      · simp
      · simp; omega
    generalize Num.takeR b q 0 1 = t at *
    obtain ⟨l, r⟩ := t
    rcases l with _ | ⟨c, l⟩
    · rfl
    · obtain rfl : l = [] := List.eq_nil_of_length_eq_zero (by simpa using hlen)
      simp [Num.low]
  · rw [if_neg he, Num.takeR_stuck he]
    rfl
theorem Num.byteR_lt (b : List UInt8) (q : Nat) (e : Int) : (Num.byteR b q e).1 < 256 := UInt8.toNat_lt _
end Go.Proofs.YtcphapdjimeoaaaGreat

namespace Go.Proofs.YtcphapdjimeoaaaGreat
open Go.RowKit Num Wrd Dic

/-- Block gb is a bucket: its cursor, and the text ahead. -/
structure BkSt (w : World) (gb gc r : Nat) (p : List UInt8) (q : Nat) (e : Int) (a : List UInt8) : Prop where
  whole : Whole w gb 140 #[.pointer (some ⟨gc, 0, none⟩), .string ⟨a.toArray⟩]
  cur : PC w gc r p q e
  ne : gb ≠ gc ∧ gb ≠ r
/-- Behind a call: the bucket, and all else as it was. -/
def BkTo (w : World) (gb gc r : Nat) (p : List UInt8) (q : Nat) (e : Int) (a : List UInt8) (w' : World) : Prop := BkSt w' gb gc r p q e a ∧ Mod w w' gc (some gb)
theorem PC.farTo {w w' : World} {gc r q : Nat} {p : List UInt8} {e : Int} (h : PC w gc r p q e) (hM : w.heap.size ≤ w'.heap.size) (hG : w'.heap[gc]? = w.heap[gc]?) (hr : w'.heap[r]? = w.heap[r]?) : PC w' gc r p q e := by
  obtain ⟨A, c, hW, hc, hR, hl, h⟩ := h
  exact ⟨A, c, hG.trans hW, hc, hR.at hr, Nat.lt_of_lt_of_le hl hM, h⟩
theorem BkSt.ext {w w' : World} {gb gc r q : Nat} {p a : List UInt8} {e : Int} (h : BkSt w gb gc r p q e a) (hE : Ext w w') : BkSt w' gb gc r p q e a := ⟨h.whole.ext hE, h.cur.ext hE, h.ne⟩
theorem BkSt.cursor {w w' : World} {gb gc r q q' : Nat} {p a : List UInt8} {e e' : Int} (h : BkSt w gb gc r p q e a) (k : PcTo w gc r p q' e' w') : BkTo w gb gc r p q' e' a w' :=
  ⟨⟨k.2.whole h.whole h.ne.1 (by simp), k.1, h.ne⟩, k.2.os, k.2.tape, k.2.output, k.2.size, fun i hi hg _ => k.2.block i hi hg (by simp)⟩
theorem BkSt.put {w : World} {gb gc r q : Nat} {p a : List UInt8} {e : Int} (h : BkSt w gb gc r p q e a) (t : List UInt8) : BkTo w gb gc r p q e t (w.setCell ⟨gb, 1, none⟩ (.string ⟨t.toArray⟩)) := by
  have hG := grown_setCell w gb 1 (.string ⟨t.toArray⟩)
  refine ⟨⟨h.whole.set 1 _, h.cur.farTo hG.size (hG.block gc h.cur.lt (by simpa using fun e => h.ne.1 e.symm)) (hG.block r h.cur.rlt (by simpa using fun e => h.ne.2 e.symm)), h.ne⟩, Mod.ofOwn hG⟩
theorem BkTo.then {w w' w'' : World} {gb gc r q q' : Nat} {p a a' : List UInt8} {e e' : Int} (h : BkTo w gb gc r p q e a w') (k : BkTo w' gb gc r p q' e' a' w'') : BkTo w gb gc r p q' e' a' w'' := ⟨k.1, h.2.trans k.2 (.inl rfl)⟩

set_option maxHeartbeats 1000000 in
set_option maxRecDepth 10000 in
theorem dFollowC_any {w : World} {gb gc r q : Nat} {p a : List UInt8} {e : Int} (h : BkSt w gb gc r p q e a) (t : List UInt8) (ht : t.length ≤ 1000000) :
    Calls Tryz.prog 108 #[.pointer (some ⟨gb, 0, none⟩), .string ⟨t.toArray⟩] w fun e' w' => e' = .returned (.tuple #[]) ∧ BkTo w gb gc r p q (followE a t e) t w' := by
  have CF := dFollow_any a t w ht
  have c0 := h.whole.at 0 (u := .pointer (some ⟨gc, 0, none⟩)) rfl
  have c1 := h.whole.at 1 (u := .string ⟨a.toArray⟩) rfl
  have f1 := h.whole.frozen 1
  have CX := pcFail_any h.cur 2
  have H := hide h
  cases hf : followD a t with
  | true =>
    rw [hf] at CF
    rw [follow_ok hf]
    clear CX h hf
    go_enter Tryz.func108, Tryz.ntmps108
    go_wp2_with fail
    refine CF.mono ?_
    rintro e2 w' ⟨rfl, rfl⟩
    clear CF
    go_wp2
    go_end0
    exact ⟨rfl, H.out.put t⟩
  | false =>
    rw [hf] at CF
    rw [show followE a t e = failR e 2 by unfold followE; rw [hf]; rfl]
    clear h hf
    go_enter Tryz.func108, Tryz.ntmps108
    go_wp2_with fail
    refine CF.mono ?_
    rintro e2 w' ⟨rfl, rfl⟩
    clear CF
    go_wp2_with fail
    refine CX.mono ?_
    rintro e2 w2 ⟨rfl, hP⟩
    have H2 := hide (H.out.cursor hP)
    have c1 := H2.out.1.whole.at 1 (u := .string ⟨a.toArray⟩) rfl
    have f1 := H2.out.1.whole.frozen 1
    clear CX hP
    go_wp2
    go_end0
    exact ⟨rfl, H2.out.then (H2.out.1.put t)⟩
set_option maxHeartbeats 1000000 in
set_option maxRecDepth 10000 in
theorem dFirst_any {w : World} {gb gc r q : Nat} {p a : List UInt8} {e : Int} (h : BkSt w gb gc r p q e a) :
    Calls Tryz.prog 87 #[.pointer (some ⟨gb, 0, none⟩)] w fun e' w' => e' = .returned (.string ⟨(firstP p a q e).1.toArray⟩) ∧ BkTo w gb gc r p (firstP p a q e).2.1 (firstP p a q e).2.2 (firstP p a q e).1 w' := by
  have CT := pcText_any h.cur 25 (by decide)
  have c0 := h.whole.at 0 (u := .pointer (some ⟨gc, 0, none⟩)) rfl
  have hl := text_len25 (p := p) (q := q) (e := e)
  have H := hide h
  unfold firstP
  obtain ⟨t, q', e', hT⟩ : ∃ t q' e', textR p q e 25 = (t, q', e') := ⟨_, _, _, rfl⟩
  rw [hT] at CT hl ⊢
  dsimp only at CT hl ⊢
  clear h hT
  go_enter Tryz.func87, Tryz.ntmps87
  go_wp2_with fail
  refine CT.mono ?_
  rintro e2 w2 ⟨rfl, hP⟩
  have H2 := hide (H.out.cursor hP)
  have CF := dFollowC_any H2.out.1 t (by omega)
  clear CT hP
  go_wp2_with fail
  refine CF.mono ?_
  rintro e2 w3 ⟨rfl, hP⟩
  have H3 := hide (H2.out.then hP)
  clear CF hP
  go_wp2
  go_ret
  exact ⟨rfl, H3.out⟩
attribute [local go_sem ↓] run_txtAt run_txtLen run_txtCut run_txtTop
set_option maxHeartbeats 2000000 in
set_option maxRecDepth 10000 in
theorem dFurther_any {w : World} {gb gc r q : Nat} {p a : List UInt8} {e : Int} (h : BkSt w gb gc r p q e a) (ha : a.length ≤ 100) :
    Calls Tryz.prog 88 #[.pointer (some ⟨gb, 0, none⟩)] w fun e' w' => e' = .returned (.string ⟨(furtherP p a q e).1.toArray⟩) ∧ BkTo w gb gc r p (furtherP p a q e).2.1 (furtherP p a q e).2.2 (furtherP p a q e).1 w' := by
  have CI := fun W (hp : PC W gc r p q e) => pcInt_any hp (a.length : Int) (by omega)
  have hna := int_same (p := p) (q := q) (e := e) (most := (a.length : Int)) (by omega)
  have hxl := add_len (p := p) (a := a) (q := q) (e := e)
  unfold furtherP sameE
  unfold addT at hxl ⊢
  obtain ⟨n, q1, e1, hN⟩ : ∃ n q1 e1, intR p q e (a.length : Int) = (n, q1, e1) := ⟨_, _, _, rfl⟩
  rw [hN] at CI hna hxl ⊢
  dsimp only at CI hna hxl ⊢
  have CT := fun W (hp : PC W gc r p q1 e1) => pcText_any hp 25 (by decide)
  have htl := text_len25 (p := p) (q := q1) (e := e1)
  obtain ⟨t, q2, e2, hT⟩ : ∃ t q2 e2, textR p q1 e1 25 = (t, q2, e2) := ⟨_, _, _, rfl⟩
  rw [hT] at CT htl hxl ⊢
  dsimp only at CT htl hxl ⊢
  have hadd := fun (W : World) => run_string_add_lists (P := Tryz.prog) W (a.take n) t (by simp; omega) (by omega)
  obtain ⟨x, hx⟩ : ∃ x, x = a.take n ++ t := ⟨_, rfl⟩
  rw [← hx] at hadd hxl ⊢
  have CS := fun W => dSame_any a x W (by omega) (by omega)
  have hW := (h.ext (Ext.refl w).drew).whole
  have hP := h.cur
  have hne := h.ne
  have H := hide h
  have hnN : n ≤ a.length := by omega
  have hal := (alike_le a x).1
  generalize alike a x = z at *
  obtain ⟨E, hE⟩ : ∃ E, E = (if z = n then e2 else failR e2 2) := ⟨_, rfl⟩
  rw [← hE]
  have HE := hide hE
  clear h hT hN hx htl hE
  go_enter Tryz.func88, Tryz.ntmps88
  go_wp2_with fail
  refine wp_region_T (fun W => Whole W gb 140 #[.pointer (some ⟨gc, 0, none⟩), .string ⟨a.toArray⟩]) 9 11 #[false, false, false, false, false, false, false, false, false, false, false] (by kernel_rfl) rfl rfl hW ?_
  intro hS0
  refine wpAnyT_take 0 (some 5) (.pointer (some ⟨gb, 0, none⟩)) #[true, false, false, false, false, false, false, false, false, false, false] rfl rfl rfl (by kernel_rfl) (fun _ _ _ h => h) hS0 (by rfl) (fun W hX => by have s0 := hX.at 0 (u := .pointer (some ⟨gc, 0, none⟩)) rfl; have s1 := hX.at 1 (u := .string ⟨a.toArray⟩) rfl; go_simp) ?_
  simp only [Act.put, List.setIfInBounds_toArray, List.set_cons_zero, List.set_cons_succ]
  refine wpAnyT_take 1 (some 6) (.pointer (some ⟨gb, 0, none⟩)) #[true, true, false, false, false, false, false, false, false, false, false] rfl rfl rfl (by kernel_rfl) (fun _ _ _ h => h) hS0 (by rfl) (fun W hX => by have s0 := hX.at 0 (u := .pointer (some ⟨gc, 0, none⟩)) rfl; have s1 := hX.at 1 (u := .string ⟨a.toArray⟩) rfl; go_simp) ?_
  simp only [Act.put, List.setIfInBounds_toArray, List.set_cons_zero, List.set_cons_succ]
  refine wpAnyT_take 2 (some 7) (.pointer (some ⟨gb, 0, none⟩)) #[true, true, true, false, false, false, false, false, false, false, false] rfl rfl rfl (by kernel_rfl) (fun _ _ _ h => h) hS0 (by rfl) (fun W hX => by have s0 := hX.at 0 (u := .pointer (some ⟨gc, 0, none⟩)) rfl; have s1 := hX.at 1 (u := .string ⟨a.toArray⟩) rfl; go_simp) ?_
  simp only [Act.put, List.setIfInBounds_toArray, List.set_cons_zero, List.set_cons_succ]
  refine wpAnyT_take 3 (some 8) (.pointer (some ⟨gc, 0, none⟩)) #[true, true, true, true, false, false, false, false, false, false, false] rfl rfl rfl (by kernel_rfl) (fun _ _ _ h => h) hS0 (by rfl) (fun W hX => by have s0 := hX.at 0 (u := .pointer (some ⟨gc, 0, none⟩)) rfl; have s1 := hX.at 1 (u := .string ⟨a.toArray⟩) rfl; go_simp) ?_
  simp only [Act.put, List.setIfInBounds_toArray, List.set_cons_zero, List.set_cons_succ]
  refine wpAnyT_take 4 (some 9) (.pointer (some ⟨gb, 0, none⟩)) #[true, true, true, true, true, false, false, false, false, false, false] rfl rfl rfl (by kernel_rfl) (fun _ _ _ h => h) hS0 (by rfl) (fun W hX => by have s0 := hX.at 0 (u := .pointer (some ⟨gc, 0, none⟩)) rfl; have s1 := hX.at 1 (u := .string ⟨a.toArray⟩) rfl; go_simp) ?_
  simp only [Act.put, List.setIfInBounds_toArray, List.set_cons_zero, List.set_cons_succ]
  refine wpAnyT_take 5 (some 10) (.pointer (some ⟨gb, 0, none⟩)) #[true, true, true, true, true, true, false, false, false, false, false] rfl rfl rfl (by kernel_rfl) (fun _ _ _ h => h) hS0 (by rfl) (fun W hX => by have s0 := hX.at 0 (u := .pointer (some ⟨gc, 0, none⟩)) rfl; have s1 := hX.at 1 (u := .string ⟨a.toArray⟩) rfl; go_simp) ?_
  simp only [Act.put, List.setIfInBounds_toArray, List.set_cons_zero, List.set_cons_succ]
  refine wpAnyT_take 6 (some 11) (.pointer (some ⟨gb, 1, none⟩)) #[true, true, true, true, true, true, true, false, false, false, false] rfl rfl rfl (by kernel_rfl) (fun _ _ _ h => h) hS0 (by rfl) (fun W hX => by have s0 := hX.at 0 (u := .pointer (some ⟨gc, 0, none⟩)) rfl; have s1 := hX.at 1 (u := .string ⟨a.toArray⟩) rfl; go_simp) ?_
  simp only [Act.put, List.setIfInBounds_toArray, List.set_cons_zero, List.set_cons_succ]
  refine wpAnyT_take 7 (some 12) (.string ⟨a.toArray⟩) #[true, true, true, true, true, true, true, true, false, false, false] rfl rfl rfl (by kernel_rfl) (fun _ _ _ h => h) hS0 (by rfl) (fun W hX => by have s0 := hX.at 0 (u := .pointer (some ⟨gc, 0, none⟩)) rfl; have s1 := hX.at 1 (u := .string ⟨a.toArray⟩) rfl; go_simp) ?_
  simp only [Act.put, List.setIfInBounds_toArray, List.set_cons_zero, List.set_cons_succ]
  refine wpAnyT_take 8 (some 13) (.int .i64 (a.length : Int)) #[true, true, true, true, true, true, true, true, true, false, false] rfl rfl rfl (by kernel_rfl) (fun _ _ _ h => h) hS0 (by rfl) (fun W hX => by have s0 := hX.at 0 (u := .pointer (some ⟨gc, 0, none⟩)) rfl; have s1 := hX.at 1 (u := .string ⟨a.toArray⟩) rfl; go_simp) ?_
  simp only [Act.put, List.setIfInBounds_toArray, List.set_cons_zero, List.set_cons_succ]
  refine wpAnyT_only 9 #[true, true, true, true, true, true, true, true, true, true, false] (by kernel_rfl) rfl rfl (by rfl) (fun K0 hK0 => ?_)
  go_simp
  refine (CI w.drew (hP.ext (Ext.refl w).drew)).mono ?_
  rintro e2 w1 ⟨rfl, hP1, hM1⟩
  have hS1 := hM1.whole hS0 hne.1 (by simp)
  refine hK0 _ _ (fun h => absurd h (by decide)) ?_
  clear hK0 K0
  refine wpAnyT_only 10 #[true, true, true, true, true, true, true, true, true, true, true] (by kernel_rfl) rfl rfl (by rfl) (fun K1 hK1 => ?_)
  go_simp
  refine hK1 _ _ (fun h => absurd h (by decide)) (wpAnyT_done (by kernel_rfl) ?_ _)
  clear hK1 K1
  have H1 := hide (show BkTo w gb gc r p q1 e1 a w1 from by
    have h0 := H.out.ext (Ext.refl w).drew
    have h1 := h0.cursor ⟨hP1, hM1⟩
    exact ⟨h1.1, (Mod.ofExt (Ext.refl w).drew).trans h1.2 (.inl rfl)⟩)
  have hS1d := hS1.ext (Ext.refl w1).drew
  clear CI hP hM1 hS1 hW hS0
  go_wp2_with fail
  refine wp_region_T (fun W => Whole W gb 140 #[.pointer (some ⟨gc, 0, none⟩), .string ⟨a.toArray⟩]) 12 13 #[false, false, false, false, false, false, false, false, false, false, false, false, false] (by kernel_rfl) rfl rfl hS1d ?_
  intro hS0
  refine wpAnyT_take 0 (some 15) (.pointer (some ⟨gb, 0, none⟩)) #[true, false, false, false, false, false, false, false, false, false, false, false, false] rfl rfl rfl (by kernel_rfl) (fun _ _ _ h => h) hS0 (by rfl) (fun W hX => by have s0 := hX.at 0 (u := .pointer (some ⟨gc, 0, none⟩)) rfl; have s1 := hX.at 1 (u := .string ⟨a.toArray⟩) rfl; go_simp) ?_
  simp only [Act.put, List.setIfInBounds_toArray, List.set_cons_zero, List.set_cons_succ]
  refine wpAnyT_take 1 (some 16) (.pointer (some ⟨gb, 0, none⟩)) #[true, true, false, false, false, false, false, false, false, false, false, false, false] rfl rfl rfl (by kernel_rfl) (fun _ _ _ h => h) hS0 (by rfl) (fun W hX => by have s0 := hX.at 0 (u := .pointer (some ⟨gc, 0, none⟩)) rfl; have s1 := hX.at 1 (u := .string ⟨a.toArray⟩) rfl; go_simp) ?_
  simp only [Act.put, List.setIfInBounds_toArray, List.set_cons_zero, List.set_cons_succ]
  refine wpAnyT_take 2 (some 17) (.pointer (some ⟨gb, 1, none⟩)) #[true, true, true, false, false, false, false, false, false, false, false, false, false] rfl rfl rfl (by kernel_rfl) (fun _ _ _ h => h) hS0 (by rfl) (fun W hX => by have s0 := hX.at 0 (u := .pointer (some ⟨gc, 0, none⟩)) rfl; have s1 := hX.at 1 (u := .string ⟨a.toArray⟩) rfl; go_simp) ?_
  simp only [Act.put, List.setIfInBounds_toArray, List.set_cons_zero, List.set_cons_succ]
  refine wpAnyT_take 3 (some 18) (.string ⟨a.toArray⟩) #[true, true, true, true, false, false, false, false, false, false, false, false, false] rfl rfl rfl (by kernel_rfl) (fun _ _ _ h => h) hS0 (by rfl) (fun W hX => by have s0 := hX.at 0 (u := .pointer (some ⟨gc, 0, none⟩)) rfl; have s1 := hX.at 1 (u := .string ⟨a.toArray⟩) rfl; go_simp) ?_
  simp only [Act.put, List.setIfInBounds_toArray, List.set_cons_zero, List.set_cons_succ]
  refine wpAnyT_take 4 (some 19) (.int .i64 (n : Int)) #[true, true, true, true, true, false, false, false, false, false, false, false, false] rfl rfl rfl (by kernel_rfl) (fun _ _ _ h => h) hS0 (by rfl) (fun W hX => by have s0 := hX.at 0 (u := .pointer (some ⟨gc, 0, none⟩)) rfl; have s1 := hX.at 1 (u := .string ⟨a.toArray⟩) rfl; go_simp) ?_
  simp only [Act.put, List.setIfInBounds_toArray, List.set_cons_zero, List.set_cons_succ]
  refine wpAnyT_take 5 (some 20) (.string ⟨(a.take n).toArray⟩) #[true, true, true, true, true, true, false, false, false, false, false, false, false] rfl rfl rfl (by kernel_rfl) (fun _ _ _ h => h) hS0 (by rfl) (fun W hX => by have s0 := hX.at 0 (u := .pointer (some ⟨gc, 0, none⟩)) rfl; have s1 := hX.at 1 (u := .string ⟨a.toArray⟩) rfl; go_simp) ?_
  simp only [Act.put, List.setIfInBounds_toArray, List.set_cons_zero, List.set_cons_succ]
  refine wpAnyT_take 6 (some 21) (.pointer (some ⟨gb, 0, none⟩)) #[true, true, true, true, true, true, true, false, false, false, false, false, false] rfl rfl rfl (by kernel_rfl) (fun _ _ _ h => h) hS0 (by rfl) (fun W hX => by have s0 := hX.at 0 (u := .pointer (some ⟨gc, 0, none⟩)) rfl; have s1 := hX.at 1 (u := .string ⟨a.toArray⟩) rfl; go_simp) ?_
  simp only [Act.put, List.setIfInBounds_toArray, List.set_cons_zero, List.set_cons_succ]
  refine wpAnyT_take 7 (some 22) (.pointer (some ⟨gb, 0, none⟩)) #[true, true, true, true, true, true, true, true, false, false, false, false, false] rfl rfl rfl (by kernel_rfl) (fun _ _ _ h => h) hS0 (by rfl) (fun W hX => by have s0 := hX.at 0 (u := .pointer (some ⟨gc, 0, none⟩)) rfl; have s1 := hX.at 1 (u := .string ⟨a.toArray⟩) rfl; go_simp) ?_
  simp only [Act.put, List.setIfInBounds_toArray, List.set_cons_zero, List.set_cons_succ]
  refine wpAnyT_take 8 (some 23) (.pointer (some ⟨gb, 0, none⟩)) #[true, true, true, true, true, true, true, true, true, false, false, false, false] rfl rfl rfl (by kernel_rfl) (fun _ _ _ h => h) hS0 (by rfl) (fun W hX => by have s0 := hX.at 0 (u := .pointer (some ⟨gc, 0, none⟩)) rfl; have s1 := hX.at 1 (u := .string ⟨a.toArray⟩) rfl; go_simp) ?_
  simp only [Act.put, List.setIfInBounds_toArray, List.set_cons_zero, List.set_cons_succ]
  refine wpAnyT_take 9 (some 24) (.pointer (some ⟨gc, 0, none⟩)) #[true, true, true, true, true, true, true, true, true, true, false, false, false] rfl rfl rfl (by kernel_rfl) (fun _ _ _ h => h) hS0 (by rfl) (fun W hX => by have s0 := hX.at 0 (u := .pointer (some ⟨gc, 0, none⟩)) rfl; have s1 := hX.at 1 (u := .string ⟨a.toArray⟩) rfl; go_simp) ?_
  simp only [Act.put, List.setIfInBounds_toArray, List.set_cons_zero, List.set_cons_succ]
  refine wpAnyT_only 10 #[true, true, true, true, true, true, true, true, true, true, true, false, false] (by kernel_rfl) rfl rfl (by rfl) (fun K0 hK0 => ?_)
  go_simp
  refine (CT w1.drew (hP1.ext (Ext.refl w1).drew)).mono ?_
  rintro e2 w2 ⟨rfl, hP2, hM2⟩
  have hS2 := hM2.whole hS0 hne.1 (by simp)
  refine hK0 _ _ (fun _ => hS2) ?_
  clear hK0 K0
  refine wpAnyT_pure 11 (some 26) (.string ⟨x.toArray⟩) #[true, true, true, true, true, true, true, true, true, true, true, true, false] rfl rfl rfl (by kernel_rfl) (fun _ _ _ h => h) (fun _ => hS2) (by rfl) (fun W => by go_simp) ?_
  simp only [Act.put, List.setIfInBounds_toArray, List.set_cons_zero, List.set_cons_succ]
  refine wpAnyT_only 12 #[true, true, true, true, true, true, true, true, true, true, true, true, true] (by kernel_rfl) rfl rfl (by rfl) (fun K1 hK1 => ?_)
  go_simp
  refine hK1 _ _ (fun h => absurd h (by decide)) (wpAnyT_done (by kernel_rfl) ?_ _)
  clear hK1 K1
  have H2 := hide (show BkTo w gb gc r p q2 e2 a w2 from by
    have h0 := H1.out.1.ext (Ext.refl w1).drew
    have h1 := h0.cursor ⟨hP2, hM2⟩
    exact ⟨h1.1, H1.out.2.trans ((Mod.ofExt (Ext.refl w1).drew).trans h1.2 (.inl rfl)) (.inl rfl)⟩)
  have c0 := hS2.at 0 (u := .pointer (some ⟨gc, 0, none⟩)) rfl
  have c1 := hS2.at 1 (u := .string ⟨a.toArray⟩) rfl
  have hlt := hS2.lt
  clear CT hP1 hP2 hM2 hS2 hS1d hS0 hadd hna
  go_wp2_with fail
  refine (CS w2).mono ?_
  rintro e3 w3 ⟨rfl, hQ⟩
  have H3 := hide (show BkTo w gb gc r p q2 e2 a w3 from ⟨H2.out.1.ext hQ.ext, H2.out.2.trans (Mod.ofExt hQ.ext) (.inl rfl)⟩)
  have c0 := (hQ.ext.cell (i := 0) hlt).trans c0
  clear CS hQ
  by_cases hz : z = n
  · have hEe : E = e2 := by rw [HE.out, if_pos hz]
    subst hEe
    subst hz
    have CF := dFollowC_any H3.out.1 x (by omega)
    go_wp2_with fail
    refine CF.mono ?_
    rintro e4 w4 ⟨rfl, hB⟩
    have H4 := hide (H3.out.then hB)
    clear CF hB
    go_wp2
    go_ret
    exact ⟨rfl, H4.out⟩
  · have hzb : ((z : Int) != (n : Int)) = true := by rw [bne_iff_ne]; omega
    have CX := pcFail_any H3.out.1.cur 2
    have hEe : E = failR e2 2 := by rw [HE.out, if_neg hz]
    rw [← hEe] at CX
    clear hz hEe
    go_wp2_with fail
    refine CX.mono ?_
    rintro e4 w4 ⟨rfl, hB⟩
    have H4 := hide (H3.out.then (H3.out.1.cursor hB))
    have CF := dFollowC_any H4.out.1 x (by omega)
    clear CX hB
    go_wp2_with fail
    refine CF.mono ?_
    rintro e5 w5 ⟨rfl, hB⟩
    have H5 := hide (H4.out.then hB)
    clear CF hB
    go_wp2
    go_ret
    exact ⟨rfl, H5.out⟩
end Go.Proofs.YtcphapdjimeoaaaGreat

