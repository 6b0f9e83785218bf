/- Contracts of the row of bits: widen, add, number, zerosFrom. Contracts of the writer: Put, Unary, Len, Bytes. Contracts of the document's writer: Put, Unary. The contract of the document's Put. The contract of the document's Bytes. Contracts of the document's cursor: New, Left, Num, Int, Take. -/
import Derived.Test.YtcphapdjimeoaaaGreatB01
import Derived.Test.YtcphapdjimeoaaaGreatB03
import Derived.Test.YtcphapdjimeoaaaGreatB04
import Derived.Deep.RegionLaw
import Derived.Deep.RegionWith
import Derived.Deep.QuietTactic
import Derived.BigQuiet
namespace Go.Proofs.YtcphapdjimeoaaaGreat
open Go.RowKit

/-- The block g, of type t, begins with a writer's row: bytes l of the call's own at v, n bits; behind it stands R. -/
def WRowX (t : TypeId) (R : List Value) (w : World) (base g : Nat) (v : Value) (l : List UInt8) (n : Nat) : Prop :=
  Whole w g t (v :: .int .i64 n :: R).toArray ∧ OwnB w base v l ∧ v.ownBlock ≠ some g ∧ base ≤ g
/-- The block g is a writer's row. -/
abbrev WRow (w : World) (base g : Nat) (v : Value) (l : List UInt8) (n : Nat) : Prop := WRowX 156 [] w base g v l n
theorem row_at0 (a b : Value) (R : List Value) : (a :: b :: R).toArray[0]? = some a := by simp
theorem row_at1 (a b : Value) (R : List Value) : (a :: b :: R).toArray[1]? = some b := by simp
theorem row_lt1 (a b : Value) (R : List Value) : 1 < (a :: b :: R).toArray.size := by
  rw [List.size_toArray, List.length_cons, List.length_cons]
  omega
theorem row_set1 (a b u : Value) (R : List Value) : (a :: b :: R).toArray.setIfInBounds 1 u = (a :: u :: R).toArray := by simp
theorem Whole.set0 {w : World} {g : Nat} {t : TypeId} {a : Value} {R : List Value} (h : Whole w g t (a :: R).toArray) (u : Value) : Whole (w.setCell ⟨g, 0, none⟩ u) g t (u :: R).toArray := by
  have := h.set 0 u
  simpa using this
theorem WRowX.bound {t : TypeId} {R : List Value} {w : World} {base g n : Nat} {v : Value} {l : List UInt8} (h : WRowX t R w base g v l n) : base ≤ w.heap.size := Nat.le_trans h.2.2.2 (Nat.le_of_lt h.1.lt)
/-- Behind a call that turns a writer's row. -/
def WTurned (t : TypeId) (R : List Value) (w : World) (base g : Nat) (v : Value) (l : List UInt8) (n : Nat) (w' : World) : Prop := ∃ v', WRowX t R w' base g v' l n ∧ NewOb w v.ownBlock v'.ownBlock ∧ Mod w w' g v.ownBlock

theorem wrapI64 (x : Int) (h0 : 0 ≤ x) (h1 : x ≤ 9223372036854775807) : IntKind.i64.wrap x = x := by rw [IntKind.wrap_i64]; omega

set_option maxHeartbeats 1000000 in
theorem widen_any {t : TypeId} {R : List Value} {w : World} {base g S : Nat} {v : Value} {l : List UInt8} (n : Nat) (h : WRowX t R w base g v l S) (hn : S + n ≤ 1000000000) (hl : l.length ≤ (S + n + 7) / 8) :
    Calls Tryz.prog 120 #[.pointer (some ⟨g, 0, none⟩), .int .i64 n] w fun e w' => e = .returned (.tuple #[]) ∧ WTurned t R w base g v (l ++ List.replicate ((S + n + 7) / 8 - l.length) 0) (S + n) w' := by
  obtain ⟨hW, hO, hne, hb⟩ := h
  have c1 : w.cell? ⟨g, 1, none⟩ = some (.int .i64 S) := hW.at 1 (row_at1 ..)
  obtain ⟨k, hk⟩ : ∃ k, k = (S + n + 7) / 8 - l.length := ⟨_, rfl⟩
  have hd : IntKind.i64.wrap (((S : Int) + n + 8 - 1) / 8 - l.length) = (k : Int) := by rw [wrapI64 _ (by omega) (by omega)]; omega
  rw [← hk]
  obtain ⟨A, c, rfl, _, _, _⟩ := hO.form
  have hfit : l.length + k ≤ 140737488355328 := by omega
  clear hk
  go_enter Tryz.func120, Tryz.ntmps120
  go_wp2_with (refine wpList_storeC rfl 3 (.tmp 12) (.tmp 10) rfl (.slice A l.length c :: .int .i64 ((S : Int) + n) :: R).toArray rfl rfl hW (row_lt1 ..) (by kernel_rfl) rfl rfl (row_set1 ..) ?_; intro w1 hW1 hG1; have d0 : w1.cell? ⟨g, 0, none⟩ = some (.slice A l.length c) := hW1.at 0 (row_at0 ..); have d1 : w1.cell? ⟨g, 1, none⟩ = some (.int .i64 ((S : Int) + n)) := hW1.at 1 (row_at1 ..); have f0 := hW1.frozen 0; clear c1)
  have hO1 : OwnB w1.drew base (.slice A l.length c) l := ((Mod.ofRow (ob := none) hG1).own hO hne (by simp [Classical.em])).ext (Ext.refl _).drew
  have hB1 := Nat.le_trans (Nat.le_trans hb (Nat.le_of_lt hW.lt)) hG1.size
  have hW1' : Whole w1.drew g t (.slice A l.length c :: .int .i64 ((S : Int) + n) :: R).toArray := hW1
  go_region_law (refine step_zerosAt rfl (.tmp 24) (.tmp 31) rfl rfl hO1 k rfl hfit hB1 ?_; intro v2 w2 hO2 hG2' hN2'; have hG2 : w1.drew.grownBy w2 (Value.slice A l.length c).ownBlock := hG2'; have hN2 : NewOb w1 (Value.slice A l.length c).ownBlock v2.ownBlock := hN2'; clear hG2' hN2'; have hW2 := hW1'.ownGrown hG2 hne; obtain ⟨A2, c2, hv2, _, _, _⟩ := hO2.form; simp only [List.length_append, List.length_replicate] at hv2; subst hv2; have e0 := hW2.at 0 (row_at0 ..); have f2 := hW2.frozen 0)
  all_goals (
    go_end0
    refine ⟨rfl, _, ⟨hW2.set0 _, hO2.far (hN2.ne (g := g) hW1.lt hne) 0 _, hN2.ne (g := g) hW1.lt hne, hb⟩, ?_, ?_⟩
    · exact (NewOb.same w _).trans hG1.size hN2
    · exact ((Mod.ofRow (ob := (Value.slice A l.length c).ownBlock) hG1).trans ((Mod.ofExt (Ext.refl w1).drew).trans (Mod.ofOwn hG2) (.inl rfl)) (.inl rfl)).trans (Mod.ofRow (ob := (Value.slice A l.length c).ownBlock) (grown_setCell w2 g 0 _)) (.inl rfl))

theorem or_byte (c : UInt8) (x s t : Nat) : bits .or .u8 (c.toNat : Int) ((x : Int) / 2 ^ s % 256 * 2 ^ t % 256) = ((Bit.mix c x s t).toNat : Int) := by
  have e : ((x : Int) / 2 ^ s % 256 * 2 ^ t % 256) = (((x >>> s) % 256 * 2 ^ t % 256 : Nat) : Int) := by
    simp only [Nat.shiftRight_eq_div_pow, Int.natCast_emod, Int.natCast_mul, Int.natCast_ediv, Int.natCast_pow]
    rfl
  have hc := c.toNat_lt
  rw [e, u8_or_nat _ _ hc (Nat.mod_lt _ (by decide))]
  unfold Bit.mix
  rw [UInt8.toNat_or, UInt8.toNat_ofNat']
theorem WTurned.refl {t : TypeId} {R : List Value} {w : World} {base g n : Nat} {v : Value} {l : List UInt8} (h : WRowX t R w base g v l n) : WTurned t R w base g v l n w := ⟨v, h, .inl rfl, Mod.refl _ _ _⟩

set_option maxHeartbeats 1000000 in
theorem add_any {t : TypeId} {R : List Value} {w : World} {base g S : Nat} {v : Value} {l : List UInt8} {B : List Bool} (x n : Nat) (h : WRowX t R w base g v l S) (hP : Bit.Packs l B) (hS : B.length = S) (hx : x < 2 ^ n) (hn : n ≤ 64) (hfit : S ≤ 900000000) :
    Calls Tryz.prog 119 #[.pointer (some ⟨g, 0, none⟩), .int .u64 x, .int .i64 n] w fun e w' => e = .returned (.tuple #[]) ∧ ∃ l', Bit.Packs l' (B ++ Bit.num x n) ∧ WTurned t R w base g v l' (S + n) w' := by
  have hW := h.1
  have c1 : w.cell? ⟨g, 1, none⟩ = some (.int .i64 S) := hW.at 1 (row_at1 ..)
  have C1 := widen_any n h (by omega) (by have := hP.1; omega)
  have hA0 := Bit.Adds.start hP x n
  rw [hS] at hA0
  go_enter Tryz.func119, Tryz.ntmps119
  go_wp2_with (go_at_call 120; refine C1.mono ?_; rintro e w1 ⟨rfl, hT1⟩)
  go_loopw [2, 6] (fun m p wr => ∃ (q : Nat) (l1 : List UInt8), m = .int .i64 ((S + n - q : Nat) : Int) ∧ p = .int .i64 q ∧ q ≤ S + n ∧ Bit.Adds B x n l1 q ∧ WTurned t R w base g v l1 (S + n) wr) (fun m _ _ => (intOf m).toNat)
  case atStart => exact ⟨S, _, by simp, rfl, by omega, hA0, hT1⟩
  case round =>
    obtain ⟨q, l1, rfl, rfl, hq, hA, hT⟩ := hrel
    by_cases hlt : q < S + n
    · obtain ⟨v1, ⟨hW1, hO1, hne1, hb1⟩, hN1, hM1⟩ := hT
      have hl1 := hA.1
      obtain ⟨gb, cb, rfl, hgb, hcb⟩ := hO1.formG (by omega)
      have hcell := hO1.cell (i := q / 8) (by omega)
      obtain ⟨hc, hf⟩ := hcell
      have d0 : wr.cell? ⟨g, 0, none⟩ = some (.slice (some ⟨gb, 0, none⟩) l1.length cb) := hW1.at 0 (row_at0 ..)
      obtain ⟨m, hm⟩ : ∃ m, m = S + n - q := ⟨_, rfl⟩
      obtain ⟨k, hk⟩ : ∃ k, k = min m (8 - q % 8) := ⟨_, rfl⟩
      have hmin : (if (8 - (q : Int) % 8) < (m : Int) then (8 - (q : Int) % 8) else (m : Int)) = (k : Int) := by split <;> omega
      rw [← hm]
      have hm64 : m ≤ 64 := by have := hA.2.1; omega
      have hm0 : 0 < m := by omega
      have hkm : k ≤ m := by omega
      have hk8 : k ≤ 8 := by omega
      have hqL : (q : Int) / 8 < (l1.length : Int) := by omega
      have Hm := hide hm
      have Hk := hide hk
      clear hm hk
      go_wp2_with (refine wpList_min rfl (.tmp 21) (.tmp 22) rfl rfl rfl hmin ?_)
      have hor := or_byte (l1.getD (q / 8) 0) x (m - k) (8 - q % 8 - k)
      have HB := hide (hA.step hx (k := k) (by rw [hS, ← Hm.out]; exact Hk.out) (by omega))
      rw [hS, show S + n - q - k = m - k by rw [← Hm.out]] at HB
      generalize Bit.mix (l1.getD (q / 8) 0) x (m - k) (8 - q % 8 - k) = y at *
      simp only [List.getD_eq_getElem?_getD] at hor
      have HL := hide hl1
      clear hl1
      go_region
      go_wp2
      go_roundw
      case rel =>
        refine ⟨q + k, l1.set (q / 8) y, ?_, by go_num, by have := Hm.out; omega, HB.out, _, ⟨hW1.far ?_ _ _, ?_, hne1, hb1⟩, ?_, ?_⟩
        · rw [show ((m : Int) - k) = ((S + n - (q + k) : Nat) : Int) by have := Hm.out; omega]
        · exact fun e => hne1 (by simp [Value.ownBlock, e])
        · exact (hO1.set (q / 8) y).ext (Ext.refl _).drew
        · exact hN1
        · exact hM1.trans ((Mod.ofOwn (ob := some gb) (grown_setCell wr gb _ _)).trans (Mod.drew _) (.inl rfl)) hN1
      case measure => simp [intOf]; omega
    · obtain rfl : q = S + n := by omega
      have HB := hide (Bit.Adds.done (B := B) (x := x) (n := n) (l := l1) (by rw [hS]; exact hA))
      go_wp2
      go_end0
      exact ⟨rfl, l1, HB.out, hT⟩

end Go.Proofs.YtcphapdjimeoaaaGreat

namespace Go.Proofs.YtcphapdjimeoaaaGreat
open Go.RowKit

namespace Bit
/-- May x be put in n bits? -/
def fits (x : Nat) (n : Int) : Bool := decide (0 ≤ n ∧ n ≤ 64 ∧ x < 2 ^ n.toNat)
def putBits (x : Nat) (n : Int) : List Bool := if fits x n then num x n.toNat else []
def putErr (x : Nat) (n : Int) : Int := if fits x n then 0 else 13
def runs (n : Int) : Bool := decide (0 ≤ n ∧ n ≤ 100000)
def unBits (n : Nat) : List Bool := List.replicate n false ++ [true]
def unaryBits (n : Int) : List Bool := if runs n then unBits n.toNat else []
def unaryErr (n : Int) : Int := if runs n then 0 else 13
theorem put_bad {x : Nat} {n : Int} (h : fits x n = false) : putErr x n = 13 ∧ putBits x n = [] := by simp [putErr, putBits, h]
theorem put_good {x : Nat} {n : Int} (h : fits x n = true) : putErr x n = 0 ∧ putBits x n = num x n.toNat := by simp [putErr, putBits, h]
theorem unary_bad {n : Int} (h : runs n = false) : unaryErr n = 13 ∧ unaryBits n = [] := by simp [unaryErr, unaryBits, h]
theorem unary_good {n : Int} (h : runs n = true) : unaryErr n = 0 ∧ unaryBits n = unBits n.toNat := by simp [unaryErr, unaryBits, h]
theorem num_one : num 1 1 = [true] := by decide
theorem putBits_le (x : Nat) (n : Int) : (putBits x n).length ≤ 64 := by
  unfold putBits
  split
  · rename_i h
    have := of_decide_eq_true h
    rw [num_length]; omega
  · simp
theorem unaryBits_le (n : Int) : (unaryBits n).length ≤ 100001 := by
  unfold unaryBits
  split
  · rename_i h
    have := of_decide_eq_true h
    simp [unBits]; omega
  · simp
end Bit

/-- Block g, of type t, begins with a writer with these bits, R behind it; ob: the block of its bytes. -/
def WrtX (t : TypeId) (R : List Value) (w : World) (base g : Nat) (ob : Option Nat) (B : List Bool) : Prop := ∃ v l, WRowX t R w base g v l B.length ∧ Bit.Packs l B ∧ v.ownBlock = ob
/-- Block g is a writer with these bits. -/
abbrev Wrt (w : World) (base g : Nat) (ob : Option Nat) (B : List Bool) : Prop := WrtX 156 [] w base g ob B
/-- Behind a call that puts bits. -/
def PutsX (t : TypeId) (R : List Value) (w : World) (base g : Nat) (ob : Option Nat) (B : List Bool) (err : Int) (e : Ending) (w' : World) : Prop :=
  e = .returned (.int .i64 err) ∧ ∃ ob', WrtX t R w' base g ob' B ∧ NewOb w ob ob' ∧ Mod w w' g ob
abbrev Puts (w : World) (base g : Nat) (ob : Option Nat) (B : List Bool) (err : Int) (e : Ending) (w' : World) : Prop := PutsX 156 [] w base g ob B err e w'
theorem WrtX.bound {t : TypeId} {R : List Value} {w : World} {base g : Nat} {ob : Option Nat} {B : List Bool} (h : WrtX t R w base g ob B) : base ≤ w.heap.size := by obtain ⟨v, l, h, _⟩ := h; exact h.bound
theorem WrtX.lt {t : TypeId} {R : List Value} {w : World} {base g : Nat} {ob : Option Nat} {B : List Bool} (h : WrtX t R w base g ob B) : g < w.heap.size := by obtain ⟨v, l, h, _⟩ := h; exact h.1.lt
theorem WrtX.le {t : TypeId} {R : List Value} {w : World} {base g : Nat} {ob : Option Nat} {B : List Bool} (h : WrtX t R w base g ob B) : base ≤ g := by obtain ⟨v, l, h, _⟩ := h; exact h.2.2.2
theorem WrtX.ne {t : TypeId} {R : List Value} {w : World} {base g : Nat} {ob : Option Nat} {B : List Bool} (h : WrtX t R w base g ob B) : ob ≠ some g := by obtain ⟨v, l, h, _, rfl⟩ := h; exact h.2.2.1
theorem WrtX.ob {t : TypeId} {R : List Value} {w : World} {base g : Nat} {ob : Option Nat} {B : List Bool} (h : WrtX t R w base g ob B) : ∀ k, ob = some k → base ≤ k ∧ k < w.heap.size := by obtain ⟨v, l, h, _, rfl⟩ := h; exact h.2.1.lt
/-- A writer stays as it is where another block and another row are turned. -/
theorem WrtX.kept {t : TypeId} {R : List Value} {w w' : World} {base g g' : Nat} {ob ob' : Option Nat} {B : List Bool} (h : WrtX t R w base g ob B) (hM : Mod w w' g' ob') (h1 : g ≠ g') (h2 : ob' ≠ some g) (h3 : ob ≠ some g') (h4 : ob = none ∨ ob ≠ ob') : WrtX t R w' base g ob B := by
  obtain ⟨v, l, ⟨hW, hO, hne, hb⟩, hP, rfl⟩ := h
  exact ⟨v, l, ⟨hM.whole hW h1 h2, hM.own hO h3 h4, hne, hb⟩, hP, rfl⟩
theorem WrtX.ext {t : TypeId} {R : List Value} {w w' : World} {base g : Nat} {ob : Option Nat} {B : List Bool} (h : WrtX t R w base g ob B) (hE : Ext w w') : WrtX t R w' base g ob B := by
  obtain ⟨v, l, ⟨hW, hO, hne, hb⟩, hP, ho⟩ := h
  exact ⟨v, l, ⟨hW.ext hE, hO.ext hE, hne, hb⟩, hP, ho⟩

set_option maxHeartbeats 1000000 in
theorem put_any {t : TypeId} {R : List Value} {w : World} {base g : Nat} {ob : Option Nat} {B : List Bool} (h : WrtX t R w base g ob B) (x : Nat) (n : Int) (hfit : B.length ≤ 900000000) :
    Calls Tryz.prog 99 #[.pointer (some ⟨g, 0, none⟩), .int .u64 x, .int .i64 n] w (PutsX t R w base g ob (B ++ Bit.putBits x n) (Bit.putErr x n)) := by
  by_cases hbad : Bit.fits x n = false
  · have HE := hide (Bit.put_bad hbad)
    have HF := hide h
    by_cases h0 : n < 0
    · go_enter Tryz.func99, Tryz.ntmps99
      go_wp2
      go_ret
      refine ⟨ret_i64 HE.out.1.symm, ob, by rw [HE.out.2, List.append_nil]; exact HF.out, .inl rfl, Mod.refl _ _ _⟩
    · by_cases h1 : 64 < n
      · go_enter Tryz.func99, Tryz.ntmps99
        go_wp2
        go_ret
        refine ⟨ret_i64 HE.out.1.symm, ob, by rw [HE.out.2, List.append_nil]; exact HF.out, .inl rfl, Mod.refl _ _ _⟩
      · obtain ⟨k, rfl⟩ := Int.eq_ofNat_of_zero_le (show 0 ≤ n by omega)
        have hk : k ≤ 64 := by omega
        have hx : 2 ^ k ≤ x := by
          rcases Nat.lt_or_ge x (2 ^ k) with h | h
          · exfalso
            have : Bit.fits x (k : Int) = true := decide_eq_true ⟨by omega, by omega, by simpa using h⟩
            rw [this] at hbad; cases hbad
          · exact h
        have hx0 : ((x : Int) / 2 ^ k != 0) = true := by
          have h1 : 0 < x / 2 ^ k := Nat.div_pos hx (Nat.two_pow_pos k)
          have e : (x : Int) / 2 ^ k = ((x / 2 ^ k : Nat) : Int) := by simp only [Int.natCast_ediv, Int.natCast_pow]; rfl
          rw [e]; simp; omega
        clear hx hbad
        go_enter Tryz.func99, Tryz.ntmps99
        go_wp2
        go_ret
        refine ⟨ret_i64 HE.out.1.symm, ob, by rw [HE.out.2, List.append_nil]; exact HF.out, .inl rfl, Mod.refl _ _ _⟩
  · have hgood : Bit.fits x n = true := by simpa using hbad
    have HE := hide (Bit.put_good hgood)
    obtain ⟨h0, h1, hx⟩ := of_decide_eq_true hgood
    obtain ⟨k, rfl⟩ := Int.eq_ofNat_of_zero_le h0
    have hk : k ≤ 64 := by omega
    have hx' : x < 2 ^ k := by simpa using hx
    have hx0 : ((x : Int) / 2 ^ k != 0) = false := by
      have e : (x : Int) / 2 ^ k = ((x / 2 ^ k : Nat) : Int) := by simp only [Int.natCast_ediv, Int.natCast_pow]; rfl
      rw [e, Nat.div_eq_of_lt hx']; rfl
    obtain ⟨v, l, hR, hP, rfl⟩ := h
    have C := add_any x k hR hP rfl hx' hk (by omega)
    clear hx hx' hbad hgood
    go_enter Tryz.func99, Tryz.ntmps99
    go_wp2_with (go_at_call 119; refine C.mono ?_; rintro e w2 ⟨rfl, l2, hP2, v2, hR2, hN2, hM2⟩)
    go_ret
    refine ⟨ret_i64 HE.out.1.symm, v2.ownBlock, ⟨v2, l2, ?_, ?_, rfl⟩, hN2, hM2⟩
    · rw [HE.out.2, List.length_append, Bit.num_length]; exact hR2
    · rw [HE.out.2]; exact hP2

set_option maxHeartbeats 1000000 in
theorem unary_any {t : TypeId} {R : List Value} {w : World} {base g : Nat} {ob : Option Nat} {B : List Bool} (h : WrtX t R w base g ob B) (n : Int) (hfit : B.length ≤ 800000000) :
    Calls Tryz.prog 100 #[.pointer (some ⟨g, 0, none⟩), .int .i64 n] w (PutsX t R w base g ob (B ++ Bit.unaryBits n) (Bit.unaryErr n)) := by
  by_cases hbad : Bit.runs n = false
  · have HE := hide (Bit.unary_bad hbad)
    have HF := hide h
    by_cases h0 : n < 0
    · go_enter Tryz.func100, Tryz.ntmps100
      go_wp2
      go_ret
      refine ⟨ret_i64 HE.out.1.symm, ob, by rw [HE.out.2, List.append_nil]; exact HF.out, .inl rfl, Mod.refl _ _ _⟩
    · have h1 : 100000 < n := by
        have := of_decide_eq_false hbad
        omega
      go_enter Tryz.func100, Tryz.ntmps100
      go_wp2
      go_ret
      refine ⟨ret_i64 HE.out.1.symm, ob, by rw [HE.out.2, List.append_nil]; exact HF.out, .inl rfl, Mod.refl _ _ _⟩
  · have hgood : Bit.runs n = true := by simpa using hbad
    have HE := hide (Bit.unary_good hgood)
    obtain ⟨h0, h1⟩ := of_decide_eq_true hgood
    obtain ⟨k, rfl⟩ := Int.eq_ofNat_of_zero_le h0
    have hk : k ≤ 100000 := by omega
    obtain ⟨v, l, hR, hP, rfl⟩ := h
    have hpl := hP.1
    have C := widen_any k hR (by omega) (by omega)
    have hP1 := hide (hP.widen k)
    have hlen : (B ++ List.replicate k false).length = B.length + k := by simp
    have HLen := hide hlen
    clear hbad hgood hP hlen hpl
    go_enter Tryz.func100, Tryz.ntmps100
    go_wp2_with (go_at_call 120; refine C.mono ?_; rintro e w2 ⟨rfl, v2, hR2, hN2, hM2⟩)
    refine (add_any 1 1 hR2 hP1.out HLen.out (by omega) (by omega) (by omega)).mono ?_
    rintro e w3 ⟨rfl, l3, hP3, v3, hR3, hN3, hM3⟩
    go_wp2
    go_ret
    have hbits : B ++ Bit.unaryBits ((k : Nat) : Int) = B ++ List.replicate k false ++ Bit.num 1 1 := by
      rw [HE.out.2, Bit.num_one]; simp [Bit.unBits]
    refine ⟨ret_i64 HE.out.1.symm, v3.ownBlock, ⟨v3, l3, ?_, ?_, rfl⟩, hN2.trans hM2.size hN3, hM2.trans hM3 hN2⟩
    · rw [hbits, List.length_append, HLen.out]; exact hR3
    · rw [hbits]; exact hP3

theorem wbytes_any {t : TypeId} {R : List Value} {w : World} {base g : Nat} {ob : Option Nat} {B : List Bool} (h : WrtX t R w base g ob B) (hB : B.length ≤ 1000000000) :
    Calls Tryz.prog 101 #[.pointer (some ⟨g, 0, none⟩)] w fun e w' => ∃ l, Bit.Packs l B ∧ MadeB w l e w' := by
  obtain ⟨v, l, hR, hP, rfl⟩ := h
  obtain ⟨hW, hO, _, _⟩ := hR
  obtain ⟨A, c, rfl, hc, _, hb⟩ := hO.form
  have c0 : w.cell? ⟨g, 0, none⟩ = some (.slice A l.length c) := hW.at 0 (row_at0 ..)
  have hl := hP.1
  have C := slicesClone_any A l.length c l w hc (by omega) hb
  have HP := hide hP
  clear hl hP
  go_enter Tryz.func101, Tryz.ntmps101
  go_wp2_with (go_at_call 90; refine C.mono ?_; rintro e w2 ⟨v2, rfl, hown2, hE2⟩)
  go_ret
  exact ⟨l, HP.out, v2, rfl, hown2, hE2⟩
end Go.Proofs.YtcphapdjimeoaaaGreat

namespace Go.Proofs.YtcphapdjimeoaaaGreat
open Go.RowKit

def bit8 (b : Bool) : UInt8 := if b then 1 else 0
theorem bit8_int (b : Bool) : ((bit8 b).toNat : Int) = (b.toNat : Int) := by cases b <;> rfl
section
variable {w w' : World} {base g : Nat} {ob : Option Nat} {L : List UInt8}
end
end Go.Proofs.YtcphapdjimeoaaaGreat

namespace Go.Proofs.YtcphapdjimeoaaaGreat
open Go.RowKit

def Bit.lows (x k : Nat) : List UInt8 := (List.range k).map fun i => bit8 (x.testBit i)
theorem Bit.lows_len (x k : Nat) : (Bit.lows x k).length = k := by simp [Bit.lows]
theorem Bit.lows_succ (x k : Nat) : Bit.lows x (k + 1) = Bit.lows x k ++ [bit8 (x.testBit k)] := by simp [Bit.lows, List.range_succ]
theorem Bit.lows_get (x k i : Nat) (h : i < k) : (Bit.lows x k).getD i 0 = bit8 (x.testBit i) := by simp [Bit.lows, List.getD_eq_getElem?_getD, h]
theorem Bit.num_take (x n j : Nat) (hj : j < n) : ((Bit.num x n).take (n - (j + 1))).map bit8 ++ [bit8 (x.testBit j)] = ((Bit.num x n).take (n - j)).map bit8 := by
  have hl : n - (j + 1) < (Bit.num x n).length := by rw [Bit.num_length]; omega
  have hg : (Bit.num x n)[n - (j + 1)] = x.testBit j := by
    have h1 := Bit.num_getD x n (n - (j + 1)) (by omega)
    rw [List.getD_eq_getElem?_getD, List.getElem?_eq_getElem hl, show n - 1 - (n - (j + 1)) = j by omega] at h1
    exact h1
  rw [show n - j = n - (j + 1) + 1 by omega, List.take_succ_eq_append_getElem hl, List.map_append, hg]
  rfl
theorem Bit.bit_int (y : Nat) (b : Bool) (h : b.toNat = y % 2) : (y : Int) % 2 = ((bit8 b).toNat : Int) := by rw [bit8_int]; omega

end Go.Proofs.YtcphapdjimeoaaaGreat

namespace Go.Proofs.YtcphapdjimeoaaaGreat
open Go.RowKit

theorem Bit.val_bit (f : Nat → Bool) : ∀ n j, j < n → (Bit.val f n).testBit (n - 1 - j) = f j
  | n + 1, j, h => by
    rw [Bit.val]
    have hb : (2 * Bit.val f n + (f n).toNat) / 2 = Bit.val f n := by cases f n <;> simp <;> omega
    rcases Nat.lt_or_ge j n with hj | hj
    · rw [show n + 1 - 1 - j = (n - 1 - j) + 1 by omega, Nat.testBit_succ, hb]
      exact Bit.val_bit f n j hj
    · obtain rfl : j = n := by omega
      rw [show j + 1 - 1 - j = 0 by omega, Nat.testBit_zero]
      cases f j <;> simp
/-- The first m bytes of these bits. -/
def Bit.Front (l : List UInt8) (B : List Bool) (m : Nat) : Prop := l.length = m ∧ ∀ t, t < 8 * m → Bit.at_ l t = B.getD t false
theorem Bit.Front.next {l : List UInt8} {B : List Bool} {m : Nat} (h : Bit.Front l B m) : Bit.Front (l ++ [UInt8.ofNat (Bit.val (fun t => B.getD (8 * m + t) false) 8)]) B (m + 1) := by
  obtain ⟨hl, hb⟩ := h
  refine ⟨by simp [hl], fun t ht => ?_⟩
  have hv := Bit.val_lt (fun t => B.getD (8 * m + t) false) 8
  have h2 := Bit.val_bit (fun t => B.getD (8 * m + t) false) 8 (t % 8) (by omega)
  generalize Bit.val (fun t => B.getD (8 * m + t) false) 8 = X at *
  unfold Bit.at_
  rcases Nat.lt_or_ge t (8 * m) with h8 | h8
  · have h1 := hb t h8
    unfold Bit.at_ at h1
    rw [← h1]
    simp only [List.getD_eq_getElem?_getD]
    rw [List.getElem?_append_left (by omega)]
  · have h1 : t / 8 = m := by omega
    simp only [List.getD_eq_getElem?_getD]
    rw [h1, List.getElem?_append_right (by omega), hl, Nat.sub_self]
    simp only [List.getElem?_cons_zero, Option.getD_some]
    rw [UInt8.toNat_ofNat', Nat.mod_eq_of_lt hv]
    rw [show (8 : Nat) - 1 - t % 8 = 7 - t % 8 by omega] at h2
    rw [h2, show 8 * m + t % 8 = t by omega, List.getD_eq_getElem?_getD]
theorem Bit.Front.packs {l : List UInt8} {B : List Bool} {m : Nat} (h : Bit.Front l B m) (hm : m = (B.length + 7) / 8) : Bit.Packs l B := ⟨h.1.trans hm, fun i hi => h.2 i (by rw [← h.1]; exact hi)⟩

end Go.Proofs.YtcphapdjimeoaaaGreat

namespace Go.Proofs.YtcphapdjimeoaaaGreat
open Go.RowKit
attribute [local go_sem ↓] run_mid

/-- Block g is the document's cursor over the bytes b, at the place q, with the error e; P0: what is known of where its bytes lie. -/
def RefCF (P0 : Value → Prop) (w : World) (base g : Nat) (b : List UInt8) (q : Nat) (e : Int) : Prop :=
  ∃ v, Whole w g 83 #[v, .int .i64 (q : Int), .int .i64 e] ∧ OwnB w base v b ∧ v.ownBlock ≠ some g ∧ base ≤ g ∧ q ≤ b.length ∧ b.length ≤ 1000000 ∧ P0 v
abbrev RefC (w : World) (base g : Nat) (b : List UInt8) (q : Nat) (e : Int) : Prop := RefCF (fun _ => True) w base g b q e
/-- Behind a call of a cursor. -/
def CurToF (P0 : Value → Prop) (w : World) (base g : Nat) (b : List UInt8) (q : Nat) (e : Int) (w' : World) : Prop := RefCF P0 w' base g b q e ∧ Mod w w' g none
abbrev CurTo (w : World) (base g : Nat) (b : List UInt8) (q : Nat) (e : Int) (w' : World) : Prop := CurToF (fun _ => True) w base g b q e w'
section
variable {P0 : Value → Prop} {w w' : World} {base g q : Nat} {b : List UInt8} {e : Int}
theorem RefCF.lt (h : RefCF P0 w base g b q e) : g < w.heap.size := by obtain ⟨v, h, _⟩ := h; exact h.lt
theorem RefCF.le (h : RefCF P0 w base g b q e) : base ≤ g := by obtain ⟨v, _, _, _, h, _⟩ := h; exact h
theorem RefCF.ext (h : RefCF P0 w base g b q e) (hE : Ext w w') : RefCF P0 w' base g b q e := by
  obtain ⟨v, hW, hO, r⟩ := h
  exact ⟨v, hW.ext hE, hO.ext hE, r⟩
theorem RefCF.kept {g' : Nat} {ob : Option Nat} (h : RefCF P0 w base g b q e) (hM : Mod w w' g' ob) (h1 : g ≠ g') (h2 : g' < base) (h3 : ∀ k, ob = some k → k < base) : RefCF P0 w' base g b q e := by
  obtain ⟨v, hW, hO, hne, hb, r⟩ := h
  refine ⟨v, hM.whole hW h1 (fun e => by have := h3 _ e; omega), hM.own hO (fun e => by have := (hO.lt _ e).1; omega) ?_, hne, hb, r⟩
  cases hv : v.ownBlock with
  | none => exact .inl rfl
  | some x => exact .inr (fun e => by have := h3 _ e.symm; have := (hO.lt _ hv).1; omega)
theorem RefCF.bounds (h : RefCF P0 w base g b q e) : q ≤ b.length ∧ b.length ≤ 1000000 := by obtain ⟨v, _, _, _, _, h1, h2, _⟩ := h; exact ⟨h1, h2⟩
/-- What its cells hold. -/
theorem RefCF.cells (h : RefCF P0 w base g b q e) : ∃ A c, w.cell? ⟨g, 0, none⟩ = some (.slice A b.length c) ∧ w.cell? ⟨g, 1, none⟩ = some (.int .i64 (q : Int)) ∧ w.cell? ⟨g, 2, none⟩ = some (.int .i64 e) ∧ w.frozen? ⟨g, 1, none⟩ = false ∧ w.frozen? ⟨g, 2, none⟩ = false ∧
    b.length ≤ c ∧ Bytes w w.heap.size A b.length b := by
  obtain ⟨v, hW, hO, hne, hb, hq, hl, -⟩ := h
  obtain ⟨A, c, rfl, hc, _, hbb⟩ := hO.form
  exact ⟨A, c, hW.at 0 rfl, hW.at 1 rfl, hW.at 2 rfl, hW.frozen 1, hW.frozen 2, hc, hbb⟩
theorem RefCF.setAt {q' : Nat} (h : RefCF P0 w base g b q e) (hq : q' ≤ b.length) {x : Int} (hx : x = (q' : Int)) : CurToF P0 w base g b q' e (w.setCell ⟨g, 1, none⟩ (.int .i64 x)) := by
  obtain ⟨v, hW, hO, hne, hb, _, hl⟩ := h
  subst hx
  exact ⟨⟨v, hW.set 1 _, hO.far hne 1 _, hne, hb, hq, hl⟩, Mod.ofRow (grown_setCell w g 1 _)⟩
theorem RefCF.setErr {e' : Int} (h : RefCF P0 w base g b q e) : CurToF P0 w base g b q e' (w.setCell ⟨g, 2, none⟩ (.int .i64 e')) := by
  obtain ⟨v, hW, hO, hne, hb, r⟩ := h
  exact ⟨⟨v, hW.set 2 _, hO.far hne 2 _, hne, hb, r⟩, Mod.ofRow (grown_setCell w g 2 _)⟩
theorem CurToF.refl (h : RefCF P0 w base g b q e) : CurToF P0 w base g b q e w := ⟨h, Mod.refl _ _ _⟩
theorem CurToF.ext (h : RefCF P0 w base g b q e) (hE : Ext w w') : CurToF P0 w base g b q e w' := ⟨h.ext hE, Mod.ofExt hE⟩
theorem CurToF.then {w'' : World} {q' q'' : Nat} {e' e'' : Int} (h : CurToF P0 w base g b q' e' w') (k : CurToF P0 w' base g b q'' e'' w'') : CurToF P0 w base g b q'' e'' w'' := ⟨k.1, h.2.trans k.2 (.inl rfl)⟩
end

theorem refNew_any (A : Option Addr) (n c : Nat) (b : List UInt8) (w : World) (hn : n ≤ 1000000) (hb : Bytes w w.heap.size A n b) :
    Calls Tryz.prog 36 #[.slice A n c] w fun e w' => ∃ g, e = .returned (.pointer (some ⟨g, 0, none⟩)) ∧ RefC w' w.heap.size g b 0 0 ∧ Ext w w' := by
  have hll := hb.1
  subst hll
  have ho := OwnB.empty w (Nat.le_refl _)
  have hE := extNew w (.cells #[] 5)
  have hb' := hE.bytes hb
  have hfit : ([] : List UInt8).length + b.length ≤ 140737488355328 := by simp; omega
  have hB := hE.le
  go_enter Tryz.func36, Tryz.ntmps36
  go_wp2_with (at_builtin; refine wpList_appAt rfl (.tmp 3) (.tmp 4) rfl rfl ho rfl hb' hfit hB ?_; intro v2 w2 hO2 hG2 _; rw [List.nil_append] at hO2; obtain ⟨A2, n2, c2, hv2, _, _, _⟩ := hO2.form'; subst hv2)
  go_ret
  have hE2 : Ext w w2 := ho.below hE hG2 hB
  refine ⟨w2.heap.size, rfl, ⟨.slice A2 n2 c2, Whole.new w2 _ _, hO2.ext (extNew w2 _), fun e => by have := (hO2.lt _ e).2; omega, hE2.le, by omega, hn, trivial⟩, hE2.trans (extNew w2 _)⟩

theorem curLeft_any {P0 : Value → Prop} {w : World} {base g q : Nat} {b : List UInt8} {e : Int} (h : RefCF P0 w base g b q e) :
    Calls Tryz.prog 41 #[.pointer (some ⟨g, 0, none⟩)] w fun e' w' => e' = .returned (.int .i64 ((b.length - q : Nat) : Int)) ∧ Qt w w' := by
  obtain ⟨A, c, c0, c1, c2, _, _, _, _⟩ := h.cells
  obtain ⟨hq, hl⟩ := h.bounds
  go_enter Tryz.func41, Tryz.ntmps41
  go_wp2
  go_quiet (fail)
  go_wp2
  go_ret
  exact ⟨ret_i64 (by omega), ⟨_, rfl⟩⟩

theorem ret_u64N {a b : Nat} (h : a = b) : Ending.returned (.int .u64 (a : Int)) = .returned (.int .u64 (b : Int)) := by rw [h]
theorem ret_i64N {a b : Nat} (h : a = b) : Ending.returned (.int .i64 (a : Int)) = .returned (.int .i64 (b : Int)) := by rw [h]

set_option maxHeartbeats 1000000 in
theorem curNum_any {P0 : Value → Prop} {w : World} {base g q : Nat} {b : List UInt8} {e : Int} (h : RefCF P0 w base g b q e) :
    Calls Tryz.prog 68 #[.pointer (some ⟨g, 0, none⟩)] w fun e' w' => e' = .returned (.int .u64 (((Num.numR b q e).1 : Nat) : Int)) ∧ CurToF P0 w base g b (Num.numR b q e).2.1 (Num.numR b q e).2.2 w' := by
  obtain ⟨A, c, c0, c1, c2, f1, f2, hc, hbb⟩ := h.cells
  obtain ⟨hq, hl⟩ := h.bounds
  have HR := hide h
  clear h
  by_cases he : e = 0
  · subst he
    have HN := hide (show Num.numR b q 0 = Num.scan b q from rfl)
    have CS := fun m => scan_any A c q b (w.drewN m) (hbb.below ((Ext.refl w).drewN m) (Nat.le_refl _)) hq (by omega)
    have HF := hide (Num.scan_facts b q)
    have hwd : (Num.scan b q).2.1 ≤ b.length := by
      have := HF.out
      by_cases h0 : (Num.scan b q).2.2 = 0
      · exact (this.2.1 h0).2
      · have := (this.2.2.1 h0).1; omega
    have HW := hide hwd
    clear hwd
    rw [HN.out]
    generalize Num.scan b q = r at *
    obtain ⟨x, q', e'⟩ := r
    dsimp only at *
    go_enter Tryz.func68, Tryz.ntmps68
    go_wp2
    go_quiet (first | (go_at_call 97; exact Calls.quiet_of ((CS _).mono fun _ _ ⟨he, hw⟩ => ⟨he, 0, hw.symm⟩)))
    go_wp2
    go_ret
    have h1 := HR.out.setAt (q' := q') HW.out rfl
    have h2 := h1.1.setErr (e' := e')
    exact ⟨rfl, (h1.then h2).then (CurToF.ext h2.1 ((Ext.refl _).drewN _))⟩
  · have HN := hide (show Num.numR b q e = (0, q, e) by unfold Num.numR; rw [if_neg he])
    have he' : (e != 0) = true := by simpa using he
    clear he
    go_enter Tryz.func68, Tryz.ntmps68
    go_wp2
    go_ret
    rw [HN.out]
    exact ⟨rfl, CurToF.refl HR.out⟩
end Go.Proofs.YtcphapdjimeoaaaGreat

