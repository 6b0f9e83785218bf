/- Contracts of the row of bits: widen, add, number, zerosFrom. -/
import Derived.Test.YtabhemmmefefgaaBitMath
import Derived.Test.YtabhemmmefefgaaMod
import Derived.Deep.RegionLaw
import Derived.Deep.RegionWith
import Derived.Deep.QuietTactic
import Derived.BigQuiet
namespace Go.Proofs.Ytabhemmmefefgaa
open Go.RowKit

/-- The block g is a writer's row: bytes l of the call's own at v, n bits. -/
def WRow (w : World) (base g : Nat) (v : Value) (l : List UInt8) (n : Nat) : Prop :=
  Whole w g 35 #[v, .int .i64 n] ∧ OwnB w base v l ∧ v.ownBlock ≠ some g ∧ base ≤ g
theorem WRow.bound {w : World} {base g n : Nat} {v : Value} {l : List UInt8} (h : WRow w base g v l n) : base ≤ w.heap.size := Nat.le_trans h.2.2.2 (Nat.le_of_lt h.1.lt)
/-- Behind a call that turns a writer's row. -/
def WTurned (w : World) (base g : Nat) (v : Value) (l : List UInt8) (n : Nat) (w' : World) : Prop := ∃ v', WRow w' base g v' l n ∧ NewOb w v.ownBlock v'.ownBlock ∧ Mod w w' g v.ownBlock

theorem wrapI64 (x : Int) (h0 : 0 ≤ x) (h1 : x ≤ 9223372036854775807) : IntKind.i64.wrap x = x := by rw [IntKind.wrap_i64]; omega

set_option maxHeartbeats 1000000 in
theorem widen_any {w : World} {base g S : Nat} {v : Value} {l : List UInt8} (n : Nat) (h : WRow w base g v l S) (hn : S + n ≤ 1000000000) (hl : l.length ≤ (S + n + 7) / 8) :
    Calls Try.prog 43 #[.pointer (some ⟨g, 0, none⟩), .int .i64 n] w fun e w' => e = .returned (.tuple #[]) ∧ WTurned w base g v (l ++ List.replicate ((S + n + 7) / 8 - l.length) 0) (S + n) w' := by
  obtain ⟨hW, hO, hne, hb⟩ := h
  have c1 : w.cell? ⟨g, 1, none⟩ = some (.int .i64 S) := hW.at 1 rfl
  obtain ⟨k, hk⟩ : ∃ k, k = (S + n + 7) / 8 - l.length := ⟨_, rfl⟩
  have hd : IntKind.i64.wrap (((S : Int) + n + 8 - 1) / 8 - l.length) = (k : Int) := by rw [wrapI64 _ (by omega) (by omega)]; omega
  rw [← hk]
  obtain ⟨A, c, rfl, _, _, _⟩ := hO.form
  have hfit : l.length + k ≤ 140737488355328 := by omega
  clear hk
  go_enter Try.func43, Try.ntmps43
  go_wp2_with (refine wpList_storeC rfl 3 (.tmp 12) (.tmp 10) rfl #[.slice A l.length c, .int .i64 ((S : Int) + n)] rfl rfl hW (by simp) (by kernel_rfl) rfl rfl rfl ?_; intro w1 hW1 hG1; have d0 : w1.cell? ⟨g, 0, none⟩ = some (.slice A l.length c) := hW1.at 0 rfl; have d1 : w1.cell? ⟨g, 1, none⟩ = some (.int .i64 ((S : Int) + n)) := hW1.at 1 rfl; have f0 := hW1.frozen 0; clear c1)
  have hO1 : OwnB w1.drew base (.slice A l.length c) l := ((Mod.ofRow (ob := none) hG1).own hO hne (by simp [Classical.em])).ext (Ext.refl _).drew
  have hB1 := Nat.le_trans (Nat.le_trans hb (Nat.le_of_lt hW.lt)) hG1.size
  have hW1' : Whole w1.drew g 35 #[.slice A l.length c, .int .i64 ((S : Int) + n)] := hW1
  go_region_law (refine step_zerosAt rfl (.tmp 24) (.tmp 31) rfl rfl hO1 k rfl hfit hB1 ?_; intro v2 w2 hO2 hG2' hN2'; have hG2 : w1.drew.grownBy w2 (Value.slice A l.length c).ownBlock := hG2'; have hN2 : NewOb w1 (Value.slice A l.length c).ownBlock v2.ownBlock := hN2'; clear hG2' hN2'; have hW2 := hW1'.ownGrown hG2 hne; obtain ⟨A2, c2, hv2, _, _, _⟩ := hO2.form; simp only [List.length_append, List.length_replicate] at hv2; subst hv2; have e0 := hW2.at 0 rfl; have f2 := hW2.frozen 0)
  all_goals (
    go_end0
    refine ⟨rfl, _, ⟨hW2.set 0 _, hO2.far (hN2.ne (g := g) hW1.lt hne) 0 _, hN2.ne (g := g) hW1.lt hne, hb⟩, ?_, ?_⟩
    · exact (NewOb.same w _).trans hG1.size hN2
    · exact ((Mod.ofRow (ob := (Value.slice A l.length c).ownBlock) hG1).trans ((Mod.ofExt (Ext.refl w1).drew).trans (Mod.ofOwn hG2) (.inl rfl)) (.inl rfl)).trans (Mod.ofRow (ob := (Value.slice A l.length c).ownBlock) (grown_setCell w2 g 0 _)) (.inl rfl))

theorem or_byte (c : UInt8) (x s t : Nat) : bits .or .u8 (c.toNat : Int) ((x : Int) / 2 ^ s % 256 * 2 ^ t % 256) = ((Bit.mix c x s t).toNat : Int) := by
  have e : ((x : Int) / 2 ^ s % 256 * 2 ^ t % 256) = (((x >>> s) % 256 * 2 ^ t % 256 : Nat) : Int) := by
    simp only [Nat.shiftRight_eq_div_pow, Int.natCast_emod, Int.natCast_mul, Int.natCast_ediv, Int.natCast_pow]
    rfl
  have hc := c.toNat_lt
  rw [e, u8_or_nat _ _ hc (Nat.mod_lt _ (by decide))]
  unfold Bit.mix
  rw [UInt8.toNat_or, UInt8.toNat_ofNat']
theorem WTurned.refl {w : World} {base g n : Nat} {v : Value} {l : List UInt8} (h : WRow w base g v l n) : WTurned w base g v l n w := ⟨v, h, .inl rfl, Mod.refl _ _ _⟩

set_option maxHeartbeats 1000000 in
theorem add_any {w : World} {base g S : Nat} {v : Value} {l : List UInt8} {B : List Bool} (x n : Nat) (h : WRow w base g v l S) (hP : Bit.Packs l B) (hS : B.length = S) (hx : x < 2 ^ n) (hn : n ≤ 64) (hfit : S ≤ 900000000) :
    Calls Try.prog 33 #[.pointer (some ⟨g, 0, none⟩), .int .u64 x, .int .i64 n] w fun e w' => e = .returned (.tuple #[]) ∧ ∃ l', Bit.Packs l' (B ++ Bit.num x n) ∧ WTurned w base g v l' (S + n) w' := by
  have hW := h.1
  have c1 : w.cell? ⟨g, 1, none⟩ = some (.int .i64 S) := hW.at 1 rfl
  have C1 := widen_any n h (by omega) (by have := hP.1; omega)
  have hA0 := Bit.Adds.start hP x n
  rw [hS] at hA0
  go_enter Try.func33, Try.ntmps33
  go_wp2_with (go_at_call 43; refine C1.mono ?_; rintro e w1 ⟨rfl, hT1⟩)
  go_loopw [2, 6] (fun m p wr => ∃ (q : Nat) (l1 : List UInt8), m = .int .i64 ((S + n - q : Nat) : Int) ∧ p = .int .i64 q ∧ q ≤ S + n ∧ Bit.Adds B x n l1 q ∧ WTurned w base g v l1 (S + n) wr) (fun m _ _ => (intOf m).toNat)
  case atStart => exact ⟨S, _, by simp, rfl, by omega, hA0, hT1⟩
  case round =>
    obtain ⟨q, l1, rfl, rfl, hq, hA, hT⟩ := hrel
    by_cases hlt : q < S + n
    · obtain ⟨v1, ⟨hW1, hO1, hne1, hb1⟩, hN1, hM1⟩ := hT
      have hl1 := hA.1
      obtain ⟨gb, cb, rfl, hgb, hcb⟩ := hO1.formG (by omega)
      have hcell := hO1.cell (i := q / 8) (by omega)
      obtain ⟨hc, hf⟩ := hcell
      have d0 : wr.cell? ⟨g, 0, none⟩ = some (.slice (some ⟨gb, 0, none⟩) l1.length cb) := hW1.at 0 rfl
      obtain ⟨m, hm⟩ : ∃ m, m = S + n - q := ⟨_, rfl⟩
      obtain ⟨k, hk⟩ : ∃ k, k = min m (8 - q % 8) := ⟨_, rfl⟩
      have hmin : (if (8 - (q : Int) % 8) < (m : Int) then (8 - (q : Int) % 8) else (m : Int)) = (k : Int) := by split <;> omega
      rw [← hm]
      have hm64 : m ≤ 64 := by have := hA.2.1; omega
      have hm0 : 0 < m := by omega
      have hkm : k ≤ m := by omega
      have hk8 : k ≤ 8 := by omega
      have hqL : (q : Int) / 8 < (l1.length : Int) := by omega
      have Hm := hide hm
      have Hk := hide hk
      clear hm hk
      go_wp2_with (refine wpList_min rfl (.tmp 21) (.tmp 22) rfl rfl rfl hmin ?_)
      have hor := or_byte (l1.getD (q / 8) 0) x (m - k) (8 - q % 8 - k)
      have HB := hide (hA.step hx (k := k) (by rw [hS, ← Hm.out]; exact Hk.out) (by omega))
      rw [hS, show S + n - q - k = m - k by rw [← Hm.out]] at HB
      generalize Bit.mix (l1.getD (q / 8) 0) x (m - k) (8 - q % 8 - k) = y at *
      simp only [List.getD_eq_getElem?_getD] at hor
      have HL := hide hl1
      clear hl1
      go_region
      go_wp2
      go_roundw
      case rel =>
        refine ⟨q + k, l1.set (q / 8) y, ?_, by go_num, by have := Hm.out; omega, HB.out, _, ⟨hW1.far ?_ _ _, ?_, hne1, hb1⟩, ?_, ?_⟩
        · rw [show ((m : Int) - k) = ((S + n - (q + k) : Nat) : Int) by have := Hm.out; omega]
        · exact fun e => hne1 (by simp [Value.ownBlock, e])
        · exact (hO1.set (q / 8) y).ext (Ext.refl _).drew
        · exact hN1
        · exact hM1.trans ((Mod.ofOwn (ob := some gb) (grown_setCell wr gb _ _)).trans (Mod.drew _) (.inl rfl)) hN1
      case measure => simp [intOf]; omega
    · obtain rfl : q = S + n := by omega
      have HB := hide (Bit.Adds.done (B := B) (x := x) (n := n) (l := l1) (by rw [hS]; exact hA))
      go_wp2
      go_end0
      exact ⟨rfl, l1, HB.out, hT⟩

end Go.Proofs.Ytabhemmmefefgaa
