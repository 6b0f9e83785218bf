/- Contracts of the row of bits: widen, add, number, zerosFrom. The contract of the library's slices.Clone at bytes. Contracts of the writer: Put, Unary, Len, Bytes. Contracts of the row of bits: number and zerosFrom. Contracts of the library's LeadingZeros8 and of the row's zerosFrom. Contracts of the reader: NewReader, Left, Get, Skip, Peek, Unary, Pad. Contracts of the reader: Peek, Unary, Pad, NewReader. What arguments that came in read as: slices of bytes, and slices of those. What a slice of calls (Op) that came in reads as. What was put is got: plain mathematics; slices of calls of the call's own. Symbols by words, as values: what was put is got. Plain mathematics of chapter 9. Words counted out one behind the other; slices of uint16 of the call's own. The symbols in the order of their words, as the program's table keeps them, and the symbol that the next bits begin with. Plain mathematics of chapter 9. The document's Kraft of chapter 7. The document's Check of chapter 8. The document's Codes of chapter 8. The document's coder of chapter 9: a slice of lengths and one of words, as a value. -/
import Derived.Test.YtjpmabdnaooglaaB01
import Derived.Deep.RegionLaw
import Derived.Deep.RegionWith
import Derived.Deep.QuietTactic
import Derived.BigQuiet
import Derived.Lib.SliceRun
import Derived.Lib.BitFns
import Derived.Laws.Tables
import Derived.ProofKit
import Derived.OpenShut
import Derived.Deep.Slices
import Derived.Deep.Strs
import Derived.Laws.OwnMore
import Derived.Maps.AppendAt
namespace Go.Proofs.Ytjpmabdnaooglaa
open Go.RowKit

/-- The block g is a writer's row: bytes l of the call's own at v, n bits. -/
def WRow (w : World) (base g : Nat) (v : Value) (l : List UInt8) (n : Nat) : Prop :=
  Whole w g 62 #[v, .int .i64 n] ∧ OwnB w base v l ∧ v.ownBlock ≠ some g ∧ base ≤ g
theorem WRow.bound {w : World} {base g n : Nat} {v : Value} {l : List UInt8} (h : WRow w base g v l n) : base ≤ w.heap.size := Nat.le_trans h.2.2.2 (Nat.le_of_lt h.1.lt)
/-- Behind a call that turns a writer's row. -/
def WTurned (w : World) (base g : Nat) (v : Value) (l : List UInt8) (n : Nat) (w' : World) : Prop := ∃ v', WRow w' base g v' l n ∧ NewOb w v.ownBlock v'.ownBlock ∧ Mod w w' g v.ownBlock

theorem wrapI64 (x : Int) (h0 : 0 ≤ x) (h1 : x ≤ 9223372036854775807) : IntKind.i64.wrap x = x := by rw [IntKind.wrap_i64]; omega

set_option maxHeartbeats 1000000 in
theorem widen_any {w : World} {base g S : Nat} {v : Value} {l : List UInt8} (n : Nat) (h : WRow w base g v l S) (hn : S + n ≤ 1000000000) (hl : l.length ≤ (S + n + 7) / 8) :
    Calls Try.prog 76 #[.pointer (some ⟨g, 0, none⟩), .int .i64 n] w fun e w' => e = .returned (.tuple #[]) ∧ WTurned w base g v (l ++ List.replicate ((S + n + 7) / 8 - l.length) 0) (S + n) w' := by
  obtain ⟨hW, hO, hne, hb⟩ := h
  have c1 : w.cell? ⟨g, 1, none⟩ = some (.int .i64 S) := hW.at 1 rfl
  obtain ⟨k, hk⟩ : ∃ k, k = (S + n + 7) / 8 - l.length := ⟨_, rfl⟩
  have hd : IntKind.i64.wrap (((S : Int) + n + 8 - 1) / 8 - l.length) = (k : Int) := by rw [wrapI64 _ (by omega) (by omega)]; omega
  rw [← hk]
  obtain ⟨A, c, rfl, _, _, _⟩ := hO.form
  have hfit : l.length + k ≤ 140737488355328 := by omega
  clear hk
  go_enter Try.func76, Try.ntmps76
  go_wp2_with (refine wpList_storeC rfl 3 (.tmp 12) (.tmp 10) rfl #[.slice A l.length c, .int .i64 ((S : Int) + n)] rfl rfl hW (by simp) (by kernel_rfl) rfl rfl rfl ?_; intro w1 hW1 hG1; have d0 : w1.cell? ⟨g, 0, none⟩ = some (.slice A l.length c) := hW1.at 0 rfl; have d1 : w1.cell? ⟨g, 1, none⟩ = some (.int .i64 ((S : Int) + n)) := hW1.at 1 rfl; have f0 := hW1.frozen 0; clear c1)
  have hO1 : OwnB w1.drew base (.slice A l.length c) l := ((Mod.ofRow (ob := none) hG1).own hO hne (by simp [Classical.em])).ext (Ext.refl _).drew
  have hB1 := Nat.le_trans (Nat.le_trans hb (Nat.le_of_lt hW.lt)) hG1.size
  have hW1' : Whole w1.drew g 62 #[.slice A l.length c, .int .i64 ((S : Int) + n)] := hW1
  go_region_law (refine step_zerosAt rfl (.tmp 24) (.tmp 31) rfl rfl hO1 k rfl hfit hB1 ?_; intro v2 w2 hO2 hG2' hN2'; have hG2 : w1.drew.grownBy w2 (Value.slice A l.length c).ownBlock := hG2'; have hN2 : NewOb w1 (Value.slice A l.length c).ownBlock v2.ownBlock := hN2'; clear hG2' hN2'; have hW2 := hW1'.ownGrown hG2 hne; obtain ⟨A2, c2, hv2, _, _, _⟩ := hO2.form; simp only [List.length_append, List.length_replicate] at hv2; subst hv2; have e0 := hW2.at 0 rfl; have f2 := hW2.frozen 0)
  all_goals (
    go_end0
    refine ⟨rfl, _, ⟨hW2.set 0 _, hO2.far (hN2.ne (g := g) hW1.lt hne) 0 _, hN2.ne (g := g) hW1.lt hne, hb⟩, ?_, ?_⟩
    · exact (NewOb.same w _).trans hG1.size hN2
    · exact ((Mod.ofRow (ob := (Value.slice A l.length c).ownBlock) hG1).trans ((Mod.ofExt (Ext.refl w1).drew).trans (Mod.ofOwn hG2) (.inl rfl)) (.inl rfl)).trans (Mod.ofRow (ob := (Value.slice A l.length c).ownBlock) (grown_setCell w2 g 0 _)) (.inl rfl))

theorem or_byte (c : UInt8) (x s t : Nat) : bits .or .u8 (c.toNat : Int) ((x : Int) / 2 ^ s % 256 * 2 ^ t % 256) = ((Bit.mix c x s t).toNat : Int) := by
  have e : ((x : Int) / 2 ^ s % 256 * 2 ^ t % 256) = (((x >>> s) % 256 * 2 ^ t % 256 : Nat) : Int) := by
    simp only [Nat.shiftRight_eq_div_pow, Int.natCast_emod, Int.natCast_mul, Int.natCast_ediv, Int.natCast_pow]
    rfl
  have hc := c.toNat_lt
  rw [e, u8_or_nat _ _ hc (Nat.mod_lt _ (by decide))]
  unfold Bit.mix
  rw [UInt8.toNat_or, UInt8.toNat_ofNat']
theorem WTurned.refl {w : World} {base g n : Nat} {v : Value} {l : List UInt8} (h : WRow w base g v l n) : WTurned w base g v l n w := ⟨v, h, .inl rfl, Mod.refl _ _ _⟩

set_option maxHeartbeats 1000000 in
theorem add_any {w : World} {base g S : Nat} {v : Value} {l : List UInt8} {B : List Bool} (x n : Nat) (h : WRow w base g v l S) (hP : Bit.Packs l B) (hS : B.length = S) (hx : x < 2 ^ n) (hn : n ≤ 64) (hfit : S ≤ 900000000) :
    Calls Try.prog 66 #[.pointer (some ⟨g, 0, none⟩), .int .u64 x, .int .i64 n] w fun e w' => e = .returned (.tuple #[]) ∧ ∃ l', Bit.Packs l' (B ++ Bit.num x n) ∧ WTurned w base g v l' (S + n) w' := by
  have hW := h.1
  have c1 : w.cell? ⟨g, 1, none⟩ = some (.int .i64 S) := hW.at 1 rfl
  have C1 := widen_any n h (by omega) (by have := hP.1; omega)
  have hA0 := Bit.Adds.start hP x n
  rw [hS] at hA0
  go_enter Try.func66, Try.ntmps66
  go_wp2_with (go_at_call 76; refine C1.mono ?_; rintro e w1 ⟨rfl, hT1⟩)
  go_loopw [2, 6] (fun m p wr => ∃ (q : Nat) (l1 : List UInt8), m = .int .i64 ((S + n - q : Nat) : Int) ∧ p = .int .i64 q ∧ q ≤ S + n ∧ Bit.Adds B x n l1 q ∧ WTurned w base g v l1 (S + n) wr) (fun m _ _ => (intOf m).toNat)
  case atStart => exact ⟨S, _, by simp, rfl, by omega, hA0, hT1⟩
  case round =>
    obtain ⟨q, l1, rfl, rfl, hq, hA, hT⟩ := hrel
    by_cases hlt : q < S + n
    · obtain ⟨v1, ⟨hW1, hO1, hne1, hb1⟩, hN1, hM1⟩ := hT
      have hl1 := hA.1
      obtain ⟨gb, cb, rfl, hgb, hcb⟩ := hO1.formG (by omega)
      have hcell := hO1.cell (i := q / 8) (by omega)
      obtain ⟨hc, hf⟩ := hcell
      have d0 : wr.cell? ⟨g, 0, none⟩ = some (.slice (some ⟨gb, 0, none⟩) l1.length cb) := hW1.at 0 rfl
      obtain ⟨m, hm⟩ : ∃ m, m = S + n - q := ⟨_, rfl⟩
      obtain ⟨k, hk⟩ : ∃ k, k = min m (8 - q % 8) := ⟨_, rfl⟩
      have hmin : (if (8 - (q : Int) % 8) < (m : Int) then (8 - (q : Int) % 8) else (m : Int)) = (k : Int) := by split <;> omega
      rw [← hm]
      have hm64 : m ≤ 64 := by have := hA.2.1; omega
      have hm0 : 0 < m := by omega
      have hkm : k ≤ m := by omega
      have hk8 : k ≤ 8 := by omega
      have hqL : (q : Int) / 8 < (l1.length : Int) := by omega
      have Hm := hide hm
      have Hk := hide hk
      clear hm hk
      go_wp2_with (refine wpList_min rfl (.tmp 21) (.tmp 22) rfl rfl rfl hmin ?_)
      have hor := or_byte (l1.getD (q / 8) 0) x (m - k) (8 - q % 8 - k)
      have HB := hide (hA.step hx (k := k) (by rw [hS, ← Hm.out]; exact Hk.out) (by omega))
      rw [hS, show S + n - q - k = m - k by rw [← Hm.out]] at HB
      generalize Bit.mix (l1.getD (q / 8) 0) x (m - k) (8 - q % 8 - k) = y at *
      simp only [List.getD_eq_getElem?_getD] at hor
      have HL := hide hl1
      clear hl1
      go_region
      go_wp2
      go_roundw
      case rel =>
        refine ⟨q + k, l1.set (q / 8) y, ?_, by go_num, by have := Hm.out; omega, HB.out, _, ⟨hW1.far ?_ _ _, ?_, hne1, hb1⟩, ?_, ?_⟩
        · rw [show ((m : Int) - k) = ((S + n - (q + k) : Nat) : Int) by have := Hm.out; omega]
        · exact fun e => hne1 (by simp [Value.ownBlock, e])
        · exact (hO1.set (q / 8) y).ext (Ext.refl _).drew
        · exact hN1
        · exact hM1.trans ((Mod.ofOwn (ob := some gb) (grown_setCell wr gb _ _)).trans (Mod.drew _) (.inl rfl)) hN1
      case measure => simp [intOf]; omega
    · obtain rfl : q = S + n := by omega
      have HB := hide (Bit.Adds.done (B := B) (x := x) (n := n) (l := l1) (by rw [hS]; exact hA))
      go_wp2
      go_end0
      exact ⟨rfl, l1, HB.out, hT⟩

end Go.Proofs.Ytjpmabdnaooglaa

namespace Go.Proofs.Ytjpmabdnaooglaa
open Go.RowKit

set_option maxHeartbeats 1000000 in
theorem slicesClone_any (A : Option Addr) (n c : Nat) (l : List UInt8) (w : World) (hc : n ≤ c) (hn : n ≤ 140737488355328) (hb : Bytes w w.heap.size A n l) :
    Calls Try.prog 55 #[.slice A n c] w (MadeB w l) := by
  have hnil := fun (W : World) (a : Option Addr) (n c n' c' : Nat) => Lib.run_eql_slice_nil (P := Try.prog) W 22 5 a n c n' c' Try.underlying22
  rcases A with _ | ad
  · have hl : l = [] := by
      rcases hb.2 with h0 | ⟨_, _, h, _⟩
      · exact List.eq_nil_of_length_eq_zero (by rw [hb.1, h0])
      · cases h
    subst hl
    have hn0 : n = 0 := hb.1.symm
    subst hn0
    go_enter Try.func55, Try.ntmps55
    go_wp2
    go_ret
    exact ⟨_, rfl, OwnB.nil _ _, Ext.refl _⟩
  · have ho := OwnB.empty w (Nat.le_refl _)
    have hb' := (extNew w (.cells #[] 5)).bytes hb
    have hB : w.heap.size ≤ (w.alloc (.cells #[] 5)).heap.size := by simp
    have hl0 : ([] : List UInt8).length + n ≤ 140737488355328 := by simpa using hn
    have hE := extNew w (.cells #[] 5)
    go_enter Try.func55, Try.ntmps55
    go_wp2_with (at_builtin; refine wpList_app rfl (.tmp 5) (.tmp 6) rfl rfl ho rfl hb' hl0 hB ?_; intro v1 w1 hown1 hg1)
    go_ret
    exact ⟨v1, rfl, hown1, ho.below hE hg1 hB⟩
end Go.Proofs.Ytjpmabdnaooglaa

namespace Go.Proofs.Ytjpmabdnaooglaa
open Go.RowKit

namespace Bit
/-- May x be put in n bits? -/
def fits (x : Nat) (n : Int) : Bool := decide (0 ≤ n ∧ n ≤ 64 ∧ x < 2 ^ n.toNat)
def putBits (x : Nat) (n : Int) : List Bool := if fits x n then num x n.toNat else []
def putErr (x : Nat) (n : Int) : Int := if fits x n then 0 else 13
def runs (n : Int) : Bool := decide (0 ≤ n ∧ n ≤ 100000)
def unBits (n : Nat) : List Bool := List.replicate n false ++ [true]
def unaryBits (n : Int) : List Bool := if runs n then unBits n.toNat else []
def unaryErr (n : Int) : Int := if runs n then 0 else 13
theorem put_bad {x : Nat} {n : Int} (h : fits x n = false) : putErr x n = 13 ∧ putBits x n = [] := by simp [putErr, putBits, h]
theorem put_good {x : Nat} {n : Int} (h : fits x n = true) : putErr x n = 0 ∧ putBits x n = num x n.toNat := by simp [putErr, putBits, h]
theorem unary_bad {n : Int} (h : runs n = false) : unaryErr n = 13 ∧ unaryBits n = [] := by simp [unaryErr, unaryBits, h]
theorem unary_good {n : Int} (h : runs n = true) : unaryErr n = 0 ∧ unaryBits n = unBits n.toNat := by simp [unaryErr, unaryBits, h]
theorem num_one : num 1 1 = [true] := by decide
theorem putBits_le (x : Nat) (n : Int) : (putBits x n).length ≤ 64 := by
  unfold putBits
  split
  · rename_i h
    have := of_decide_eq_true h
    rw [num_length]; omega
  · simp
theorem unaryBits_le (n : Int) : (unaryBits n).length ≤ 100001 := by
  unfold unaryBits
  split
  · rename_i h
    have := of_decide_eq_true h
    simp [unBits]; omega
  · simp
end Bit

/-- Block g is a writer with these bits; ob: the block of its bytes. -/
def Wrt (w : World) (base g : Nat) (ob : Option Nat) (B : List Bool) : Prop := ∃ v l, WRow w base g v l B.length ∧ Bit.Packs l B ∧ v.ownBlock = ob
/-- Behind a call that puts bits. -/
def Puts (w : World) (base g : Nat) (ob : Option Nat) (B : List Bool) (err : Int) (e : Ending) (w' : World) : Prop :=
  e = .returned (.int .i64 err) ∧ ∃ ob', Wrt w' base g ob' B ∧ NewOb w ob ob' ∧ Mod w w' g ob
theorem Wrt.bound {w : World} {base g : Nat} {ob : Option Nat} {B : List Bool} (h : Wrt w base g ob B) : base ≤ w.heap.size := by obtain ⟨v, l, h, _⟩ := h; exact h.bound
theorem Wrt.lt {w : World} {base g : Nat} {ob : Option Nat} {B : List Bool} (h : Wrt w base g ob B) : g < w.heap.size := by obtain ⟨v, l, h, _⟩ := h; exact h.1.lt
theorem Wrt.le {w : World} {base g : Nat} {ob : Option Nat} {B : List Bool} (h : Wrt w base g ob B) : base ≤ g := by obtain ⟨v, l, h, _⟩ := h; exact h.2.2.2
theorem Wrt.ne {w : World} {base g : Nat} {ob : Option Nat} {B : List Bool} (h : Wrt w base g ob B) : ob ≠ some g := by obtain ⟨v, l, h, _, rfl⟩ := h; exact h.2.2.1
theorem Wrt.ob {w : World} {base g : Nat} {ob : Option Nat} {B : List Bool} (h : Wrt w base g ob B) : ∀ k, ob = some k → base ≤ k ∧ k < w.heap.size := by obtain ⟨v, l, h, _, rfl⟩ := h; exact h.2.1.lt
/-- A writer stays as it is where another block and another row are turned. -/
theorem Wrt.kept {w w' : World} {base g g' : Nat} {ob ob' : Option Nat} {B : List Bool} (h : Wrt w base g ob B) (hM : Mod w w' g' ob') (h1 : g ≠ g') (h2 : ob' ≠ some g) (h3 : ob ≠ some g') (h4 : ob = none ∨ ob ≠ ob') : Wrt w' base g ob B := by
  obtain ⟨v, l, ⟨hW, hO, hne, hb⟩, hP, rfl⟩ := h
  exact ⟨v, l, ⟨hM.whole hW h1 h2, hM.own hO h3 h4, hne, hb⟩, hP, rfl⟩
theorem Wrt.ext {w w' : World} {base g : Nat} {ob : Option Nat} {B : List Bool} (h : Wrt w base g ob B) (hE : Ext w w') : Wrt w' base g ob B := by
  obtain ⟨v, l, ⟨hW, hO, hne, hb⟩, hP, ho⟩ := h
  exact ⟨v, l, ⟨hW.ext hE, hO.ext hE, hne, hb⟩, hP, ho⟩

set_option maxHeartbeats 1000000 in
theorem put_any {w : World} {base g : Nat} {ob : Option Nat} {B : List Bool} (h : Wrt w base g ob B) (x : Nat) (n : Int) (hfit : B.length ≤ 900000000) :
    Calls Try.prog 53 #[.pointer (some ⟨g, 0, none⟩), .int .u64 x, .int .i64 n] w (Puts w base g ob (B ++ Bit.putBits x n) (Bit.putErr x n)) := by
  by_cases hbad : Bit.fits x n = false
  · have HE := hide (Bit.put_bad hbad)
    have HF := hide h
    by_cases h0 : n < 0
    · go_enter Try.func53, Try.ntmps53
      go_wp2
      go_ret
      refine ⟨ret_i64 HE.out.1.symm, ob, by rw [HE.out.2, List.append_nil]; exact HF.out, .inl rfl, Mod.refl _ _ _⟩
    · by_cases h1 : 64 < n
      · go_enter Try.func53, Try.ntmps53
        go_wp2
        go_ret
        refine ⟨ret_i64 HE.out.1.symm, ob, by rw [HE.out.2, List.append_nil]; exact HF.out, .inl rfl, Mod.refl _ _ _⟩
      · obtain ⟨k, rfl⟩ := Int.eq_ofNat_of_zero_le (show 0 ≤ n by omega)
        have hk : k ≤ 64 := by omega
        have hx : 2 ^ k ≤ x := by
          rcases Nat.lt_or_ge x (2 ^ k) with h | h
          · exfalso
            have : Bit.fits x (k : Int) = true := decide_eq_true ⟨by omega, by omega, by simpa using h⟩
            rw [this] at hbad; cases hbad
          · exact h
        have hx0 : ((x : Int) / 2 ^ k != 0) = true := by
          have h1 : 0 < x / 2 ^ k := Nat.div_pos hx (Nat.two_pow_pos k)
          have e : (x : Int) / 2 ^ k = ((x / 2 ^ k : Nat) : Int) := by simp only [Int.natCast_ediv, Int.natCast_pow]; rfl
          rw [e]; simp; omega
        clear hx hbad
        go_enter Try.func53, Try.ntmps53
        go_wp2
        go_ret
        refine ⟨ret_i64 HE.out.1.symm, ob, by rw [HE.out.2, List.append_nil]; exact HF.out, .inl rfl, Mod.refl _ _ _⟩
  · have hgood : Bit.fits x n = true := by simpa using hbad
    have HE := hide (Bit.put_good hgood)
    obtain ⟨h0, h1, hx⟩ := of_decide_eq_true hgood
    obtain ⟨k, rfl⟩ := Int.eq_ofNat_of_zero_le h0
    have hk : k ≤ 64 := by omega
    have hx' : x < 2 ^ k := by simpa using hx
    have hx0 : ((x : Int) / 2 ^ k != 0) = false := by
      have e : (x : Int) / 2 ^ k = ((x / 2 ^ k : Nat) : Int) := by simp only [Int.natCast_ediv, Int.natCast_pow]; rfl
      rw [e, Nat.div_eq_of_lt hx']; rfl
    obtain ⟨v, l, hR, hP, rfl⟩ := h
    have C := add_any x k hR hP rfl hx' hk (by omega)
    clear hx hx' hbad hgood
    go_enter Try.func53, Try.ntmps53
    go_wp2_with (go_at_call 66; refine C.mono ?_; rintro e w2 ⟨rfl, l2, hP2, v2, hR2, hN2, hM2⟩)
    go_ret
    refine ⟨ret_i64 HE.out.1.symm, v2.ownBlock, ⟨v2, l2, ?_, ?_, rfl⟩, hN2, hM2⟩
    · rw [HE.out.2, List.length_append, Bit.num_length]; exact hR2
    · rw [HE.out.2]; exact hP2

theorem wlen_any {w : World} {base g : Nat} {ob : Option Nat} {B : List Bool} (h : Wrt w base g ob B) :
    Calls Try.prog 32 #[.pointer (some ⟨g, 0, none⟩)] w fun e w' => e = .returned (.int .i64 (B.length : Nat)) ∧ w = w' := by
  obtain ⟨v, l, hR, hP, rfl⟩ := h
  have c1 : w.cell? ⟨g, 1, none⟩ = some (.int .i64 B.length) := hR.1.at 1 rfl
  go_enter Try.func32, Try.ntmps32
  go_wp2
  go_ret
  exact ⟨rfl, rfl⟩

theorem wbytes_any {w : World} {base g : Nat} {ob : Option Nat} {B : List Bool} (h : Wrt w base g ob B) (hB : B.length ≤ 1000000000) :
    Calls Try.prog 36 #[.pointer (some ⟨g, 0, none⟩)] w fun e w' => ∃ l, Bit.Packs l B ∧ MadeB w l e w' := by
  obtain ⟨v, l, hR, hP, rfl⟩ := h
  obtain ⟨hW, hO, _, _⟩ := hR
  obtain ⟨A, c, rfl, hc, _, hb⟩ := hO.form
  have c0 : w.cell? ⟨g, 0, none⟩ = some (.slice A l.length c) := hW.at 0 rfl
  have hl := hP.1
  have C := slicesClone_any A l.length c l w hc (by omega) hb
  have HP := hide hP
  clear hl hP
  go_enter Try.func36, Try.ntmps36
  go_wp2_with (go_at_call 55; refine C.mono ?_; rintro e w2 ⟨v2, rfl, hown2, hE2⟩)
  go_ret
  exact ⟨l, HP.out, v2, rfl, hown2, hE2⟩
end Go.Proofs.Ytjpmabdnaooglaa

namespace Go.Proofs.Ytjpmabdnaooglaa
open Go.RowKit

theorem Bit.take_byte (X d k t : Nat) (c : UInt8) (hX : X < 2 ^ d) (hd : d + k ≤ 64) (hk : k ≤ 8) :
    bits .or .u64 (IntKind.u64.wrap ((X : Int) * 2 ^ k)) (bits .and .u64 (IntKind.u64.wrap (c.toNat : Int) / 2 ^ t) (IntKind.u64.wrap (IntKind.u64.wrap (2 ^ k) - 1))) = ((X * 2 ^ k + c.toNat / 2 ^ t % 2 ^ k : Nat) : Int) := by
  have hc := c.toNat_lt
  have hXk : X * 2 ^ k < 2 ^ 64 := by
    have h1 : X * 2 ^ k < 2 ^ d * 2 ^ k := Nat.mul_lt_mul_of_pos_right hX (Nat.two_pow_pos k)
    rw [← Nat.pow_add] at h1
    exact Nat.lt_of_lt_of_le h1 (Nat.pow_le_pow_right (by omega) hd)
  have hk2 : 2 ^ k ≤ 256 := Nat.pow_le_pow_right (n := 2) (by omega) hk
  have hk0 : 0 < 2 ^ k := Nat.two_pow_pos k
  have e1 : IntKind.u64.wrap ((X : Int) * 2 ^ k) = ((X * 2 ^ k : Nat) : Int) := by
    have : (X : Int) * 2 ^ k = ((X * 2 ^ k : Nat) : Int) := by simp only [Int.natCast_mul, Int.natCast_pow]; rfl
    rw [this, IntKind.wrap_u64]
    omega
  have e2 : IntKind.u64.wrap (c.toNat : Int) / 2 ^ t = ((c.toNat / 2 ^ t : Nat) : Int) := by
    have h1 : IntKind.u64.wrap (c.toNat : Int) = (c.toNat : Int) := by rw [IntKind.wrap_u64]; omega
    rw [h1]
    simp only [Int.natCast_ediv, Int.natCast_pow]; rfl
  have e3 : IntKind.u64.wrap (IntKind.u64.wrap (2 ^ k) - 1) = ((2 ^ k - 1 : Nat) : Int) := by
    have : (2 : Int) ^ k = ((2 ^ k : Nat) : Int) := by simp only [Int.natCast_pow]; rfl
    rw [this, IntKind.wrap_u64, IntKind.wrap_u64]
    omega
  have hdiv : c.toNat / 2 ^ t < 2 ^ 64 := Nat.lt_of_le_of_lt (Nat.div_le_self _ _) (by omega)
  rw [e1, e2, e3, u64_and_nat _ _ hdiv (by omega), Nat.and_two_pow_sub_one_eq_mod]
  have hm : c.toNat / 2 ^ t % 2 ^ k < 2 ^ k := Nat.mod_lt _ hk0
  rw [u64_or_nat _ _ hXk (by omega), Nat.mul_comm X, ← Nat.two_pow_add_eq_or_of_lt hm]

set_option maxHeartbeats 1000000 in
theorem number_any {w : World} {g : Nat} {A : Option Addr} {c : Nat} {l : List UInt8} (q n : Nat) (h0 : w.cell? ⟨g, 0, none⟩ = some (.slice A l.length c)) (hg : g < w.heap.size) (hb : Bytes w w.heap.size A l.length l)
    (hn : n ≤ 64) (hfit : q + n ≤ 8 * l.length) (hl : l.length ≤ 1000000000) :
    Calls Try.prog 59 #[.pointer (some ⟨g, 0, none⟩), .int .i64 q, .int .i64 n] w fun e w' => e = .returned (.int .u64 (Bit.val (fun i => Bit.at_ l (q + i)) n : Nat)) ∧ Qt w w' := by
  go_enter Try.func59, Try.ntmps59
  go_wp2
  go_loopw [1, 2, 7] (fun p m x wr => ∃ k : Nat, k ≤ n ∧ p = .int .i64 ((q + k : Nat) : Int) ∧ m = .int .i64 ((n - k : Nat) : Int) ∧ x = .int .u64 (Bit.val (fun i => Bit.at_ l (q + i)) k : Nat) ∧ Qt w wr) (fun _ m _ _ => (intOf m).toNat)
  case atStart => exact ⟨0, by omega, by simp, by simp, rfl, Qt.refl _⟩
  case round =>
    obtain ⟨d, hd, rfl, rfl, rfl, hE⟩ := hrel
    by_cases hlt : d < n
    · obtain ⟨hll, hb'⟩ := hb
      rcases hb' with h | ⟨b, off, rfl, hB, hcells⟩
      · omega
      have d0 := (hE.ext.cell hg).trans h0
      have hc := (hE.ext.cell hB).trans (hcells ((q + d) / 8) (by omega))
      clear hcells
      obtain ⟨m, hm⟩ : ∃ m, m = n - d := ⟨_, rfl⟩
      obtain ⟨s, hs⟩ : ∃ s, s = q + d := ⟨_, rfl⟩
      obtain ⟨k, hk⟩ : ∃ k, k = min m (8 - s % 8) := ⟨_, rfl⟩
      have hmin : (if (8 - (s : Int) % 8) < (m : Int) then (8 - (s : Int) % 8) else (m : Int)) = (k : Int) := by split <;> omega
      rw [← hm, ← hs]
      rw [← hs] at hc
      have hm64 : m ≤ 64 := by omega
      have hm0 : 0 < m := by omega
      have hkm : k ≤ m := by omega
      have hk8 : k ≤ 8 := by omega
      have hqL : (s : Int) / 8 < (l.length : Int) := by omega
      have HV := hide (Bit.val_add (fun i => Bit.at_ l (q + i)) d k)
      have HY := hide (Bit.val_byte l s k (by omega))
      have HT := hide (Bit.take_byte (Bit.val (fun i => Bit.at_ l (q + i)) d) d k (8 - s % 8 - k) (l.getD (s / 8) 0) (Bit.val_lt _ _) (by omega) (by omega))
      generalize Bit.val (fun i => Bit.at_ l (q + i)) d = X at *
      have Hm := hide hm
      have Hk := hide hk
      have Hs := hide hs
      clear hm hk hs
      go_wp2_with (refine wpList_min rfl (.tmp 15) (.tmp 16) rfl rfl rfl hmin ?_)
      go_quiet (fail)
      go_wp2
      go_roundw
      case rel =>
        have hm := Hm.out
        have hs := Hs.out
        refine ⟨d + k, by omega, ?_, ?_, ?_, hE.drewN _⟩
        · rw [show ((s : Int) + k) = ((q + (d + k) : Nat) : Int) by omega]
        · rw [show ((m : Int) - k) = ((n - (d + k) : Nat) : Int) by omega]
        · rw [HV.out, show (fun i => Bit.at_ l (q + (d + i))) = (fun i => Bit.at_ l (s + i)) by funext i; rw [hs, Nat.add_assoc], HY.out, ← HT.out, List.getD_eq_getElem?_getD]
      case measure => simp [intOf]; omega
    · obtain rfl : d = n := by omega
      go_wp2
      go_ret
      exact ⟨rfl, hE⟩
end Go.Proofs.Ytjpmabdnaooglaa

namespace Go.Proofs.Ytjpmabdnaooglaa
open Go.RowKit

namespace Bit
/-- How many bits 0 stand ahead of a byte's first 1. -/
def lz (r : Nat) : Nat := 7 - r.log2
/-- A byte shifted up by s. -/
def up (c : UInt8) (s : Nat) : UInt8 := UInt8.ofNat (c.toNat * 2 ^ s)
theorem up_bit (c : UInt8) (s i : Nat) (hi : i < 8) (h : s + i < 8) : (up c s).toNat.testBit (7 - i) = c.toNat.testBit (7 - (s + i)) := by
  unfold up
  rw [UInt8.toNat_ofNat', Nat.testBit_mod_two_pow, decide_eq_true (show 7 - i < 8 by omega), Bool.true_and, Nat.testBit_mul_two_pow, decide_eq_true (show s ≤ 7 - i by omega), Bool.true_and]
  congr 1
  omega
theorem up_bit_low (c : UInt8) (s i : Nat) (hi : i < 8) (h : 8 ≤ s + i) : (up c s).toNat.testBit (7 - i) = false := by
  unfold up
  rw [UInt8.toNat_ofNat', Nat.testBit_mod_two_pow, Nat.testBit_mul_two_pow, decide_eq_false (show ¬ s ≤ 7 - i by omega)]
  simp
theorem lz_facts (r : UInt8) (h : r.toNat ≠ 0) : lz r.toNat < 8 ∧ (∀ i, i < lz r.toNat → r.toNat.testBit (7 - i) = false) ∧ r.toNat.testBit (7 - lz r.toNat) = true := by
  have hr := r.toNat_lt
  have h8 : r.toNat.log2 < 8 := (Nat.log2_lt h).2 hr
  unfold lz
  refine ⟨by omega, fun i hi => ?_, ?_⟩
  · apply Nat.testBit_lt_two_pow
    have h1 : r.toNat.log2 < 7 - i := by omega
    exact (Nat.log2_lt h).1 h1
  · rw [show 7 - (7 - r.toNat.log2) = r.toNat.log2 by omega]
    exact Nat.testBit_log2 h
end Bit

theorem shl_byte (c : UInt8) (s : Nat) : ((c.toNat : Int) * 2 ^ s) % 256 = ((Bit.up c s).toNat : Int) := by
  unfold Bit.up
  rw [UInt8.toNat_ofNat']
  simp only [Int.natCast_emod, Int.natCast_mul, Int.natCast_pow]
  rfl

theorem bitLen_log2 : ∀ n : Fin 256, n.val ≠ 0 → Lib.bitLen n.val = n.val.log2 + 1 := by decide +kernel
set_option maxRecDepth 100000 in
theorem len8_int_any (x : Int) (w : World) (h0 : 0 ≤ x) (h1 : x ≤ 255) : Calls Try.prog 78 #[.int .u8 x] w fun e w' => e = .returned (.int .i64 (Lib.bitLen x.toNat)) ∧ w = w' := by
  rw [← Lib.len8_int x h0 h1]
  go_enter Try.func78, Try.ntmps78
  go_wp2
  go_ret
  exact ⟨congrArg (fun v => Ending.returned (.int .i64 v)) (by simp only [wrap64]), rfl⟩
theorem len8_any (r : UInt8) (w : World) (h : r.toNat ≠ 0) : Calls Try.prog 78 #[.int .u8 (r.toNat : Int)] w fun e w' => e = .returned (.int .i64 ((r.toNat.log2 + 1 : Nat) : Int)) ∧ w = w' := by
  have hr := r.toNat_lt
  have e := bitLen_log2 ⟨r.toNat, hr⟩ h
  have C := len8_int_any (r.toNat : Int) w (by omega) (by omega)
  simp only [Int.toNat_natCast] at C e
  rw [← e]
  exact C
theorem lz8_any (r : UInt8) (w : World) (h : r.toNat ≠ 0) : Calls Try.prog 69 #[.int .u8 (r.toNat : Int)] w fun e w' => e = .returned (.int .i64 (Bit.lz r.toNat : Nat)) ∧ w = w' := by
  have h8 : r.toNat.log2 < 8 := (Nat.log2_lt h).2 r.toNat_lt
  have C := fun w => len8_any r w h
  have HL := hide (show ((Bit.lz r.toNat : Nat) : Int) = 7 - (r.toNat.log2 : Int) by unfold Bit.lz; omega)
  generalize Bit.lz r.toNat = z at *
  generalize r.toNat.log2 = L at *
  go_enter Try.func69, Try.ntmps69
  go_wp2_with (go_at_call 78; refine (C _).mono ?_; rintro e w2 ⟨rfl, rfl⟩)
  go_ret
  refine ⟨?_, rfl⟩
  rw [HL.out]
  exact congrArg (fun v => Ending.returned (.int .i64 v)) (by omega)

set_option maxHeartbeats 1000000 in
theorem zerosFrom_any {w : World} {g : Nat} {A : Option Addr} {c : Nat} {l : List UInt8} (q : Nat) (h0 : w.cell? ⟨g, 0, none⟩ = some (.slice A l.length c)) (h1 : w.cell? ⟨g, 1, none⟩ = some (.int .i64 ((8 * l.length : Nat) : Int))) (hg : g < w.heap.size) (hb : Bytes w w.heap.size A l.length l)
    (hq : q ≤ 8 * l.length) (hl : l.length ≤ 1000000000) :
    Calls Try.prog 57 #[.pointer (some ⟨g, 0, none⟩), .int .i64 q] w fun e w' => e = .returned (.int .i64 (Bit.zeros (8 * l.length - q) (fun i => Bit.at_ l (q + i)) : Nat)) ∧ Qt w w' := by
  go_enter Try.func57, Try.ntmps57
  go_wp2
  go_loopw [5, 6, 7] (fun m _ _ wr => ∃ k : Nat, q + k ≤ 8 * l.length ∧ m = .int .i64 (k : Int) ∧ (∀ i, i < k → Bit.at_ l (q + i) = false) ∧ Qt w wr) (fun m _ _ _ => 8 * l.length - (intOf m).toNat)
  case atStart => exact ⟨0, by omega, rfl, fun i hi => by omega, Qt.refl _⟩
  case round =>
    obtain ⟨k, hk, rfl, hz, hE⟩ := hrel
    have d0 := (hE.ext.cell hg).trans h0
    have d1 := (hE.ext.cell hg).trans h1
    by_cases hlt : q + k < 8 * l.length
    · obtain ⟨hll, hb'⟩ := hb
      rcases hb' with h | ⟨b, off, rfl, hB, hcells⟩
      · omega
      have hc := (hE.ext.cell hB).trans (hcells ((q + k) / 8) (by omega))
      have hup := shl_byte (l.getD ((q + k) / 8) 0) ((q + k) % 8)
      have HU1 := hide (Bit.up_bit (l.getD ((q + k) / 8) 0) ((q + k) % 8))
      have HU2 := hide (Bit.up_bit_low (l.getD ((q + k) / 8) 0) ((q + k) % 8))
      have HC := hide (show ∀ i, (q + k) % 8 + i < 8 → Bit.at_ l (q + (k + i)) = (l.getD ((q + k) / 8) 0).toNat.testBit (7 - ((q + k) % 8 + i)) from fun i hi => by
        unfold Bit.at_
        rw [show (q + (k + i)) / 8 = (q + k) / 8 by omega, show (q + (k + i)) % 8 = (q + k) % 8 + i by omega])
      generalize Bit.up (l.getD ((q + k) / 8) 0) ((q + k) % 8) = r at *
      generalize l.getD ((q + k) / 8) 0 = cc at *
      clear hcells
      have hlt' : (q : Int) + k < 8 * (l.length : Int) := by omega
      have hi8 : ((q : Int) + k) / 8 < (l.length : Int) := by omega
      by_cases hr0 : r.toNat = 0
      · have ht : (((r.toNat : Int)) != 0) = false := by simp [hr0]
        have hall : ∀ i, i < 8 - (q + k) % 8 → Bit.at_ l (q + (k + i)) = false := fun i hi => by
          rw [HC.out i (by omega), ← HU1.out i (by omega) (by omega), hr0]
          simp
        have HA := hide hall
        have HZ := hide hz
        clear hall hz hr0
        go_wp2
        go_roundw
        case rel =>
          refine ⟨k + (8 - (q + k) % 8), by omega, ?_, fun i hi => ?_, hE⟩
          · rw [show ((k : Int) + (8 - ((q : Int) + k) % 8)) = ((k + (8 - (q + k) % 8) : Nat) : Int) by omega]
          · by_cases hik : i < k
            · exact HZ.out i hik
            · have := HA.out (i - k) (by omega)
              rwa [show k + (i - k) = i by omega] at this
        case measure => simp [intOf]; omega
      · have ht : (((r.toNat : Int)) != 0) = true := by simp; omega
        obtain ⟨z8, zf, zt⟩ := Bit.lz_facts r hr0
        have hz8 : (q + k) % 8 + Bit.lz r.toNat < 8 := by
          rcases Nat.lt_or_ge ((q + k) % 8 + Bit.lz r.toNat) 8 with h | h
          · exact h
          · rw [HU2.out _ z8 h] at zt; cases zt
        have HR := hide (Bit.zeros_eq (n := 8 * l.length - q) (z := k + Bit.lz r.toNat) (f := fun i => Bit.at_ l (q + i)) (by omega) (fun i hi => by
          by_cases hik : i < k
          · exact hz i hik
          · have h1 := HC.out (i - k) (by omega)
            rw [show k + (i - k) = i by omega] at h1
            show Bit.at_ l (q + i) = false
            rw [h1, ← HU1.out (i - k) (by omega) (by omega)]
            exact zf (i - k) (by omega)) (fun _ => by
          show Bit.at_ l (q + (k + Bit.lz r.toNat)) = true
          rw [HC.out _ hz8, ← HU1.out _ z8 hz8]
          exact zt))
        have hlz : Bit.lz r.toNat ≤ 8 := by omega
        have C := fun w => lz8_any r w hr0
        have HZ := hide hz
        clear zf zt hz
        generalize Bit.lz r.toNat = z at *
        go_wp2_with (go_at_call 69; refine (C _).mono ?_; rintro e w2 ⟨rfl, rfl⟩)
        go_ret
        refine ⟨?_, hE⟩
        rw [HR.out]
        exact congrArg (fun v => Ending.returned (.int .i64 v)) (by omega)
    · have HR := hide (Bit.zeros_eq (n := 8 * l.length - q) (z := k) (f := fun i => Bit.at_ l (q + i)) (by omega) hz (fun h => by omega))
      have hge : ¬ ((q : Int) + k < 8 * (l.length : Int)) := by omega
      clear hz
      go_wp2
      go_ret
      refine ⟨?_, hE⟩
      rw [HR.out]
      exact congrArg (fun v => Ending.returned (.int .i64 v)) (by omega)
end Go.Proofs.Ytjpmabdnaooglaa

namespace Go.Proofs.Ytjpmabdnaooglaa
open Go.RowKit

namespace Bit
def rest (l : List UInt8) (q : Nat) : Nat → Bool := fun i => at_ l (q + i)
def getErr (left : Nat) (n : Int) : Int := if 0 ≤ n ∧ n ≤ 64 then (if n ≤ left then 0 else 1) else 13
def getNum (l : List UInt8) (q : Nat) (n : Int) : Nat := if getErr (8 * l.length - q) n = 0 then val (rest l q) n.toNat else 0
def getTo (left q : Nat) (n : Int) : Nat := if getErr left n = 0 then q + n.toNat else q
def skipErr (left : Nat) (n : Int) : Int := if 0 ≤ n then (if n ≤ left then 0 else 1) else 13
def skipTo (left q : Nat) (n : Int) : Nat := if skipErr left n = 0 then q + n.toNat else q
def peekThere (left : Nat) (n : Int) : Nat := if 0 ≤ n ∧ n ≤ 64 then min n.toNat left else 0
def peekNum (l : List UInt8) (q : Nat) (n : Int) : Nat := if 0 ≤ n ∧ n ≤ 64 then val (rest l q) (min n.toNat (8 * l.length - q)) * 2 ^ (n.toNat - min n.toNat (8 * l.length - q)) else 0
def zs (l : List UInt8) (q : Nat) : Nat := zeros (8 * l.length - q) (rest l q)
def unErr (l : List UInt8) (q : Nat) : Int := if zs l q = 8 * l.length - q then 1 else 0
def unNum (l : List UInt8) (q : Nat) : Nat := if zs l q = 8 * l.length - q then 0 else zs l q
def unTo (l : List UInt8) (q : Nat) : Nat := if zs l q = 8 * l.length - q then q else q + zs l q + 1
def padErr (l : List UInt8) (q : Nat) : Int := if 8 * l.length - q < 8 ∧ zs l q = 8 * l.length - q then 0 else 2
end Bit

/-- Block g is a reader of the bytes l, of which q bits are taken. -/
def Rdr (w : World) (base g : Nat) (l : List UInt8) (q : Nat) : Prop :=
  ∃ A c, Whole w g 84 #[.slice A l.length c, .int .i64 ((8 * l.length : Nat) : Int), .int .i64 (q : Int)] ∧ Bytes w g A l.length l ∧ q ≤ 8 * l.length ∧ l.length ≤ 1000000 ∧ base ≤ g
theorem Rdr.lt {w : World} {base g q : Nat} {l : List UInt8} (h : Rdr w base g l q) : g < w.heap.size := by obtain ⟨A, c, hW, _⟩ := h; exact hW.lt
theorem Rdr.le {w : World} {base g q : Nat} {l : List UInt8} (h : Rdr w base g l q) : base ≤ g := by obtain ⟨A, c, _, _, _, _, h⟩ := h; exact h
theorem Rdr.below {w w' : World} {base g q B : Nat} {l : List UInt8} (h : Rdr w base g l q) (hE : Below B w w') (hg : g < B) : Rdr w' base g l q := by
  obtain ⟨A, c, hW, hb, r⟩ := h
  exact ⟨A, c, hW.below hE hg, hb.below hE (by omega), r⟩
theorem Rdr.ext {w w' : World} {base g q : Nat} {l : List UInt8} (h : Rdr w base g l q) (hE : Ext w w') : Rdr w' base g l q := h.below hE h.lt
theorem ret_nverr {k : IntKind} {a a' b b' : Int} (h : a = a') (h' : b = b') : Ending.returned (.tuple #[.int k a, .int .i64 b]) = .returned (.tuple #[.int k a', .int .i64 b']) := by rw [h, h']

theorem left_any {w : World} {base g q : Nat} {l : List UInt8} (h : Rdr w base g l q) :
    Calls Try.prog 26 #[.pointer (some ⟨g, 0, none⟩)] w fun e w' => e = .returned (.int .i64 ((8 * l.length - q : Nat) : Int)) ∧ Qt w w' := by
  obtain ⟨A, c, hW, hb, hq, hl, _⟩ := h
  have c1 : w.cell? ⟨g, 1, none⟩ = some (.int .i64 ((8 * l.length : Nat) : Int)) := hW.at 1 rfl
  have c2 : w.cell? ⟨g, 2, none⟩ = some (.int .i64 (q : Int)) := hW.at 2 rfl
  go_enter Try.func26, Try.ntmps26
  go_wp2
  go_quiet (fail)
  go_wp2
  go_ret
  exact ⟨ret_i64 (by omega), ⟨_, rfl⟩⟩

/-- What a reader's block is known to hold, in a later world. -/
theorem Rdr.number {w : World} {base g q : Nat} {l : List UInt8} (h : Rdr w base g l q) (k : Nat) (hk : k ≤ 64) (hs : k ≤ 8 * l.length - q) (m : Nat) :
    Calls Try.prog 59 #[.pointer (some ⟨g, 0, none⟩), .int .i64 q, .int .i64 k] (w.drewN m) fun e w' => e = .returned (.int .u64 (Bit.val (Bit.rest l q) k : Nat)) ∧ ∃ n, w' = w.drewN n := by
  obtain ⟨A, c, hW, hb, hq, hl, hbase⟩ := h
  have c0 : w.cell? ⟨g, 0, none⟩ = some (.slice A l.length c) := hW.at 0 rfl
  have hgl := hW.lt
  exact Calls.quiet_of (number_any (w := w.drewN m) q k (by simpa using c0) (by simpa using hgl) (hb.below (B := g) (C := w.heap.size) ((Ext.refl w).drewN m) (Nat.le_of_lt hgl) |>.mono (by simpa using Nat.le_of_lt hgl)) hk (by omega) (by omega))
theorem Rdr.zeros {w : World} {base g q : Nat} {l : List UInt8} (h : Rdr w base g l q) (m : Nat) :
    Calls Try.prog 57 #[.pointer (some ⟨g, 0, none⟩), .int .i64 q] (w.drewN m) fun e w' => e = .returned (.int .i64 (Bit.zs l q : Nat)) ∧ ∃ n, w' = w.drewN n := by
  obtain ⟨A, c, hW, hb, hq, hl, hbase⟩ := h
  have c0 : w.cell? ⟨g, 0, none⟩ = some (.slice A l.length c) := hW.at 0 rfl
  have c1 : w.cell? ⟨g, 1, none⟩ = some (.int .i64 ((8 * l.length : Nat) : Int)) := hW.at 1 rfl
  have hgl := hW.lt
  exact Calls.quiet_of (zerosFrom_any (w := w.drewN m) q (by simpa using c0) (by simpa using c1) (by simpa using hgl) (hb.below (B := g) (C := w.heap.size) ((Ext.refl w).drewN m) (Nat.le_of_lt hgl) |>.mono (by simpa using Nat.le_of_lt hgl)) hq (by omega))
theorem Rdr.leftQ {w : World} {base g q : Nat} {l : List UInt8} (h : Rdr w base g l q) (m : Nat) :
    Calls Try.prog 26 #[.pointer (some ⟨g, 0, none⟩)] (w.drewN m) fun e w' => e = .returned (.int .i64 ((8 * l.length - q : Nat) : Int)) ∧ ∃ n, w' = w.drewN n :=
  Calls.quiet_of (left_any (h.ext ((Ext.refl w).drewN m)))
theorem Rdr.cells {w : World} {base g q : Nat} {l : List UInt8} (h : Rdr w base g l q) : w.cell? ⟨g, 2, none⟩ = some (.int .i64 (q : Int)) ∧ w.frozen? ⟨g, 2, none⟩ = false ∧ q ≤ 8 * l.length ∧ l.length ≤ 1000000 := by
  obtain ⟨A, c, hW, hb, hq, hl, hbase⟩ := h
  exact ⟨hW.at 2 rfl, hW.frozen 2, hq, hl⟩
/-- The place is moved on. -/
theorem Rdr.moved {w : World} {base g q q' : Nat} {l : List UInt8} (h : Rdr w base g l q) (hq' : q' ≤ 8 * l.length) {x : Int} (hx : x = (q' : Int)) : Rdr (w.setCell ⟨g, 2, none⟩ (.int .i64 x)) base g l q' ∧ Mod w (w.setCell ⟨g, 2, none⟩ (.int .i64 x)) g none := by
  obtain ⟨A, c, hW, hb, hq, hl, hbase⟩ := h
  subst hx
  exact ⟨⟨A, c, hW.set 2 _, hb.below (Below.setCell (p := ⟨g, 2, none⟩) (Below.refl g w) (Nat.le_refl g) _) (Nat.le_refl g), hq', hl, hbase⟩, Mod.ofRow (grown_setCell w g 2 _)⟩

set_option maxHeartbeats 1000000 in
theorem skip_any {w : World} {base g q : Nat} {l : List UInt8} (h : Rdr w base g l q) (n : Int) :
    Calls Try.prog 22 #[.pointer (some ⟨g, 0, none⟩), .int .i64 n] w fun e w' =>
      e = .returned (.int .i64 (Bit.skipErr (8 * l.length - q) n)) ∧ Rdr w' base g l (Bit.skipTo (8 * l.length - q) q n) ∧ Mod w w' g none := by
  by_cases h0 : 0 ≤ n
  · obtain ⟨k, rfl⟩ := Int.eq_ofNat_of_zero_le h0
    by_cases hs : k ≤ 8 * l.length - q
    · have HE := hide (show Bit.skipErr (8 * l.length - q) (k : Int) = 0 by unfold Bit.skipErr; rw [if_pos h0, if_pos (by omega)])
      have HT := hide (show Bit.skipTo (8 * l.length - q) q (k : Int) = q + k by unfold Bit.skipTo; rw [HE.out]; simp)
      go_enter Try.func22, Try.ntmps22
      go_wp2_with fail
      refine (left_any h).mono ?_
      rintro e w2 ⟨rfl, hQ2⟩
      have hR := h.ext hQ2.ext
      obtain ⟨c2, f2, hq, hl⟩ := hR.cells
      have HR := hide hR
      clear h hR
      go_wp2
      go_ret
      have hM := HR.out.moved (q' := q + k) (x := (q : Int) + k) (by omega) (by omega)
      refine ⟨ret_i64 HE.out.symm, by rw [HT.out]; exact hM.1, ?_⟩
      exact (Mod.ofExt hQ2.ext).trans hM.2 (.inl rfl)
    · have HE := hide (show Bit.skipErr (8 * l.length - q) (k : Int) = 1 by unfold Bit.skipErr; rw [if_pos h0, if_neg (by omega)])
      have HT := hide (show Bit.skipTo (8 * l.length - q) q (k : Int) = q by unfold Bit.skipTo; rw [HE.out]; simp)
      have HR := hide h
      have hs' : ¬ ((k : Int) ≤ ((8 * l.length - q : Nat) : Int)) := by omega
      go_enter Try.func22, Try.ntmps22
      go_wp2_with fail
      refine (left_any h).mono ?_
      rintro e w2 ⟨rfl, hQ2⟩
      go_wp2
      go_ret
      exact ⟨ret_i64 HE.out.symm, by rw [HT.out]; exact HR.out.ext hQ2.ext, Mod.ofExt hQ2.ext⟩
  · have HE := hide (show Bit.skipErr (8 * l.length - q) n = 13 by unfold Bit.skipErr; rw [if_neg h0])
    have HT := hide (show Bit.skipTo (8 * l.length - q) q n = q by unfold Bit.skipTo; rw [HE.out]; simp)
    have HR := hide h
    go_enter Try.func22, Try.ntmps22
    go_wp2
    go_ret
    exact ⟨ret_i64 HE.out.symm, by rw [HT.out]; exact HR.out, Mod.refl _ _ _⟩
end Go.Proofs.Ytjpmabdnaooglaa

namespace Go.Proofs.Ytjpmabdnaooglaa
open Go.RowKit

theorem Bit.val_mul_lt (f : Nat → Bool) {a b : Nat} (h : a + b ≤ 64) : Bit.val f a * 2 ^ b < 18446744073709551616 := by
  have h1 : Bit.val f a * 2 ^ b < 2 ^ a * 2 ^ b := Nat.mul_lt_mul_of_pos_right (Bit.val_lt f a) (Nat.two_pow_pos b)
  rw [← Nat.pow_add] at h1
  exact Nat.lt_of_lt_of_le h1 (show 2 ^ (a + b) ≤ 2 ^ 64 from Nat.pow_le_pow_right (by omega) h)
theorem wrap_shl (X b : Nat) (h : X * 2 ^ b < 18446744073709551616) : IntKind.u64.wrap ((X : Int) * 2 ^ b) = ((X * 2 ^ b : Nat) : Int) := by
  have e : (X : Int) * 2 ^ b = ((X * 2 ^ b : Nat) : Int) := by simp only [Int.natCast_mul, Int.natCast_pow]; rfl
  rw [e, IntKind.wrap_u64]
  omega

set_option maxHeartbeats 1000000 in
theorem peek_any {w : World} {base g q : Nat} {l : List UInt8} (h : Rdr w base g l q) (n : Int) :
    Calls Try.prog 43 #[.pointer (some ⟨g, 0, none⟩), .int .i64 n] w fun e w' =>
      e = .returned (.tuple #[.int .u64 ((Bit.peekNum l q n : Nat) : Int), .int .i64 ((Bit.peekThere (8 * l.length - q) n : Nat) : Int)]) ∧ Qt w w' := by
  by_cases hbad : 0 ≤ n ∧ n ≤ 64
  · obtain ⟨h0, h1⟩ := hbad
    obtain ⟨k, rfl⟩ := Int.eq_ofNat_of_zero_le h0
    have hk : k ≤ 64 := by omega
    obtain ⟨t, ht⟩ : ∃ t, t = min k (8 * l.length - q) := ⟨_, rfl⟩
    have HN := hide (show Bit.peekNum l q (k : Int) = Bit.val (Bit.rest l q) t * 2 ^ (k - t) by unfold Bit.peekNum; rw [if_pos ⟨h0, h1⟩, ht]; simp)
    have HT := hide (show Bit.peekThere (8 * l.length - q) (k : Int) = t by unfold Bit.peekThere; rw [if_pos ⟨h0, h1⟩, ht]; simp)
    have htk : t ≤ k := by omega
    have hX := Bit.val_mul_lt (Bit.rest l q) (a := t) (b := k - t) (by omega)
    have hw := wrap_shl _ _ hX
    have hmin : (if ((8 * l.length - q : Nat) : Int) < (k : Int) then ((8 * l.length - q : Nat) : Int) else (k : Int)) = (t : Int) := by split <;> omega
    go_enter Try.func43, Try.ntmps43
    go_wp2_with fail
    refine (left_any h).mono ?_
    rintro e w2 ⟨rfl, hQ2⟩
    have hR := h.ext hQ2.ext
    obtain ⟨c2, f2, hq, hl⟩ := hR.cells
    have CN := hR.number t (by omega) (by omega)
    have Ht := hide ht
    generalize Bit.val (Bit.rest l q) t = X at *
    clear h hR ht hX
    go_wp2_with (refine wpList_min rfl (.tmp 14) (.tmp 16) rfl rfl rfl hmin ?_)
    go_quiet (first | (go_at_call 59; exact CN _))
    go_wp2
    go_ret2
    exact ⟨ret_nverr (by rw [HN.out, ← hw]; simp only [Int.natCast_mul, Int.natCast_pow] at hw; exact hw.symm) (by rw [HT.out]), hQ2.drewN _⟩
  · have HN := hide (show Bit.peekNum l q n = 0 by unfold Bit.peekNum; rw [if_neg hbad])
    have HT := hide (show Bit.peekThere (8 * l.length - q) n = 0 by unfold Bit.peekThere; rw [if_neg hbad])
    by_cases h0 : n < 0
    · clear hbad
      go_enter Try.func43, Try.ntmps43
      go_wp2
      go_ret2
      exact ⟨ret_nverr (by rw [HN.out]; rfl) (by rw [HT.out]; rfl), Qt.refl _⟩
    · have h1 : 64 < n := by omega
      clear hbad
      go_enter Try.func43, Try.ntmps43
      go_wp2
      go_ret2
      exact ⟨ret_nverr (by rw [HN.out]; rfl) (by rw [HT.out]; rfl), Qt.refl _⟩

set_option maxHeartbeats 1000000 in
theorem pad_any {w : World} {base g q : Nat} {l : List UInt8} (h : Rdr w base g l q) :
    Calls Try.prog 39 #[.pointer (some ⟨g, 0, none⟩)] w fun e w' => e = .returned (.int .i64 (Bit.padErr l q)) ∧ Qt w w' := by
  by_cases h8 : 8 * l.length - q < 8
  · by_cases he : Bit.zs l q = 8 * l.length - q
    · have HE := hide (show Bit.padErr l q = 0 by unfold Bit.padErr; rw [if_pos ⟨h8, he⟩])
      have ht : (((8 * l.length - q : Nat) : Int) != ((8 * l.length - q : Nat) : Int)) = false := by simp
      have h8' : ¬ (8 ≤ ((8 * l.length - q : Nat) : Int)) := by omega
      go_enter Try.func39, Try.ntmps39
      go_wp2_with fail
      refine (left_any h).mono ?_
      rintro e w2 ⟨rfl, hQ2⟩
      have hR := h.ext hQ2.ext
      obtain ⟨c2, f2, hq, hl⟩ := hR.cells
      have CN := hR.zeros
      rw [he] at CN
      have CL := hR.leftQ
      clear he h hR
      generalize 8 * l.length - q = L at *
      go_wp2_with fail
      go_quiet (first | (go_at_call 57; exact CN _) | (go_at_call 26; exact CL _))
      go_wp2
      go_ret
      exact ⟨ret_i64 HE.out.symm, hQ2.drewN _⟩
    · have HE := hide (show Bit.padErr l q = 2 by unfold Bit.padErr; rw [if_neg (fun h => he h.2)])
      have ht : (((Bit.zs l q : Nat) : Int) != ((8 * l.length - q : Nat) : Int)) = true := by simp; omega
      have h8' : ¬ (8 ≤ ((8 * l.length - q : Nat) : Int)) := by omega
      go_enter Try.func39, Try.ntmps39
      go_wp2_with fail
      refine (left_any h).mono ?_
      rintro e w2 ⟨rfl, hQ2⟩
      have hR := h.ext hQ2.ext
      obtain ⟨c2, f2, hq, hl⟩ := hR.cells
      have CN := hR.zeros
      have CL := hR.leftQ
      clear he h hR
      generalize Bit.zs l q = Z at *
      generalize 8 * l.length - q = L at *
      go_wp2_with fail
      go_quiet (first | (go_at_call 57; exact CN _) | (go_at_call 26; exact CL _))
      go_wp2
      go_ret
      exact ⟨ret_i64 HE.out.symm, hQ2.drewN _⟩
  · have HE := hide (show Bit.padErr l q = 2 by unfold Bit.padErr; rw [if_neg (fun h => h8 h.1)])
    have h8' : 8 ≤ ((8 * l.length - q : Nat) : Int) := by omega
    clear h8
    go_enter Try.func39, Try.ntmps39
    go_wp2_with fail
    refine (left_any h).mono ?_
    rintro e w2 ⟨rfl, hQ2⟩
    go_wp2
    go_ret
    exact ⟨ret_i64 HE.out.symm, hQ2⟩

set_option maxHeartbeats 1000000 in
theorem rowOf_any (A : Option Addr) (n c : Nat) (l : List UInt8) (w : World) (hc : n ≤ c) (hn : n ≤ 1000000) (hb : Bytes w w.heap.size A n l) :
    Calls Try.prog 41 #[.slice A n c] w fun e w' => ∃ A' c', e = .returned (.agg #[.slice A' l.length c', .int .i64 ((8 * l.length : Nat) : Int)]) ∧ Bytes w' w'.heap.size A' l.length l ∧ Ext w w' := by
  have hll := hb.1
  subst hll
  have hE0 := extNew w (.cells #[.slice none 0 0, .int .i64 0] 60)
  have hW0 := Whole.new w 60 #[.slice none 0 0, .int .i64 0]
  have hi1 : (Try.prog.info? 60).map (·.size) = some 2 := by kernel_rfl
  go_enter Try.func41, Try.ntmps41
  go_wp2_with (first
    | (go_at_call 55; refine (slicesClone_any A l.length c l _ hc (by omega) (hE0.bytes hb)).mono ?_; rintro e w2 ⟨v2, rfl, hown2, hE2⟩; obtain ⟨A2, c2, hv2, _, _, hb2⟩ := hown2.form; subst hv2; have hW2 := hW0.ext hE2; have hne : (Value.slice A2 l.length c2).ownBlock ≠ some w.heap.size := fun e => by have := (hown2.lt _ e).1; simp at this; omega)
    | (refine wpList_storeW rfl 60 (.tmp 2) (.tmp 8) rfl rfl rfl hW2 rfl hi1 (all_oneCell_toArray (by simp [Value.oneCell'])) ?_; intro w3 hW3 hG3 _))
  refine bodyPost_ret (results_cell_row rfl _ _ _ _ _ _ _ rfl hW3 Try.underlying60 rfl hi1) rfl ⟨A2, c2, ?_, ?_, ?_⟩
  · have e : (8 : Int) * (l.length : Int) = ((8 * l.length : Nat) : Int) := by omega
    rw [← e]
  · obtain ⟨A3, c3, hv, _, _, hb3⟩ := ((Mod.ofRow (ob := none) hG3).own hown2 hne (by simp [Classical.em])).form
    injection hv with e1 _ _
    rw [e1]; exact hb3
  · exact Below.grown (hE0.trans hE2) hG3 (hE0.trans hE2).le (fun k hk => by cases hk; exact Nat.le_refl _)
end Go.Proofs.Ytjpmabdnaooglaa

namespace Go.Proofs.Ytjpmabdnaooglaa
open Go.ChangeShapes Go.WideShapes Go.ChangeAt Go.WideMaps Go.WideElems Go.RowKit

theorem own : ownKnob Try.prog.godebug = none := by kernel_rfl
theorem laidOut : laidOutB Try.prog = true := by kernel_rfl

theorem open_bytes_cs {H : Type} {enc : TypeId × Value → H} {W : World} {fuel : Nat} {cs : List Value} {x : DataW H × List MemPlace} (hf : DataW.trod enc Try.prog W 0 (fun _ => true) true fuel 22 cs = some x) :
    ∃ a n c, ∃ l : List UInt8, cs = [.slice a n c] ∧ n ≤ c ∧ c ≤ maxLen ∧ Bytes W W.heap.size a n l := by
  rcases open_ints Try.underlying22 Try.underlying5 (by kernel_rfl) hf with ⟨hcs, _⟩ | ⟨x, n, c, zs, hcs, _, hl, hm, hz, _, hcell, hwz⟩
  · exact ⟨none, 0, 0, [], hcs, by omega, by unfold maxLen; omega, Bytes.none _ _ _⟩
  · have hz' : zs.length = c := by simpa using hz
    refine ⟨some x, n, c, (zs.take n).map fun z => UInt8.ofNat z.toNat, hcs, hl, hm, by simp; omega, ?_⟩
    rcases Nat.eq_zero_or_pos n with h0 | h0
    · exact .inl h0
    obtain ⟨b, off, spot⟩ := x
    have hc0 := hcell 0 (by omega)
    have hspot : spot = none := by simpa [Addr.add] using World.cell?_spot hc0
    subst hspot
    refine .inr ⟨b, off, rfl, by simpa [Addr.add] using World.block_lt_of_cell? W _ hc0, fun i hi => ?_⟩
    have h1 := hcell i (by omega)
    have hr : 0 ≤ zs.getD i 0 ∧ zs.getD i 0 ≤ 255 := by
      have := range_u8 hwz i
      rwa [List.getD_eq_getElem?_getD]
    have e : ((((zs.take n).map fun z => UInt8.ofNat z.toNat).getD i 0).toNat : Int) = zs.getD i 0 := by
      have hi' : i < zs.length := by omega
      simp only [List.getD_eq_getElem?_getD, List.getElem?_map, List.getElem?_take, if_pos hi, List.getElem?_eq_getElem hi', Option.map_some, Option.getD_some] at hr ⊢
      rw [UInt8.toNat_ofNat']
      omega
    rw [e]
    have hadd : (⟨b, off, none⟩ : Addr).add i = ⟨b, off + i, none⟩ := by unfold Addr.add; split <;> simp_all
    rwa [hadd] at h1
/-- A slice of bytes that came in: what it reads as. -/
theorem open_bytes {H : Type} {enc : TypeId × Value → H} {W : World} {a : Option Addr} {n c : Nat} {d : DataW H} {p : List MemPlace} (h : DataW.Trod enc Try.prog W 0 (fun _ => true) true 22 (.slice a n c) d p) :
    ∃ l : List UInt8, n ≤ c ∧ c ≤ maxLen ∧ Bytes W W.heap.size a n l := by
  obtain ⟨fuel, hf⟩ := h
  obtain ⟨a', n', c', l, hcs, h1, h2, h3⟩ := open_bytes_cs hf
  simp [Value.cells] at hcs
  obtain ⟨rfl, rfl, rfl⟩ := hcs
  exact ⟨l, h1, h2, h3⟩
end Go.Proofs.Ytjpmabdnaooglaa

namespace Go.Proofs.Ytjpmabdnaooglaa
open Go.ChangeShapes Go.WideShapes Go.ChangeAt Go.WideMaps Go.WideElems Go.RowKit

theorem addr_add' (b off i : Nat) : (⟨b, off, none⟩ : Addr).add i = ⟨b, off + i, none⟩ := by unfold Addr.add; split <;> simp_all
/-- A call, as it reads. -/
structure OpV where
  k : Nat
  x : Nat
  n : Int
instance : Inhabited OpV := ⟨⟨0, 0, 0⟩⟩
/-- The call lies in block b from o on. -/
def OpAt (w : World) (b o : Nat) (v : OpV) : Prop :=
  w.cell? ⟨b, o, none⟩ = some (.int .u8 (v.k : Int)) ∧ w.cell? ⟨b, o + 1, none⟩ = some (.int .u64 (v.x : Int)) ∧ w.cell? ⟨b, o + 2, none⟩ = some (.int .i64 v.n)
def OpV.ok (v : OpV) : Prop := v.k ≤ 255 ∧ v.x ≤ 18446744073709551615 ∧ -9223372036854775808 ≤ v.n ∧ v.n ≤ 9223372036854775807
def OpsAt (w : World) (B : Nat) (A : Option Addr) (n : Nat) (L : List OpV) : Prop :=
  L.length = n ∧ (n = 0 ∨ ∃ b off, A = some ⟨b, off, none⟩ ∧ b < B ∧ ∀ i, i < n → OpAt w b (off + i * 3) (L.getD i default) ∧ (L.getD i default).ok)
theorem OpAt.below {w w' : World} {b o B : Nat} {v : OpV} (h : OpAt w b o v) (hb : Below B w w') (hB : b < B) : OpAt w' b o v :=
  ⟨(hb.cell (p := ⟨b, o, none⟩) hB).trans h.1, (hb.cell (p := ⟨b, o + 1, none⟩) hB).trans h.2.1, (hb.cell (p := ⟨b, o + 2, none⟩) hB).trans h.2.2⟩
theorem OpsAt.below {w w' : World} {B C n : Nat} {A : Option Addr} {L : List OpV} (h : OpsAt w B A n L) (hb : Below C w w') (hC : B ≤ C) : OpsAt w' B A n L := by
  refine ⟨h.1, ?_⟩
  rcases h.2 with h0 | ⟨b, off, hA, hB, hc⟩
  · exact .inl h0
  · exact .inr ⟨b, off, hA, hB, fun i hi => ⟨(hc i hi).1.below hb (by omega), (hc i hi).2⟩⟩

end Go.Proofs.Ytjpmabdnaooglaa

namespace Go.Proofs.Ytjpmabdnaooglaa
open Go.RowKit

namespace Bit
/-- The bits that a call puts. -/
def enc (o : OpV) : List Bool := if o.k % 2 = 0 then putBits o.x o.n else unaryBits o.n
def flat (L : List OpV) : List Bool := L.flatMap enc
/-- Its call was answered OK. -/
def good (o : OpV) : Prop := (o.k % 2 = 0 ∧ fits o.x o.n = true) ∨ (o.k % 2 = 1 ∧ runs o.n = true)
theorem flat_nil : flat [] = [] := rfl
theorem flat_snoc (L : List OpV) (o : OpV) : flat (L ++ [o]) = flat L ++ enc o := by simp [flat]
theorem flat_take (L : List OpV) (k : Nat) (h : k < L.length) : flat (L.take (k + 1)) = flat (L.take k) ++ enc (L.getD k default) := by
  rw [List.take_succ_eq_append_getElem h, flat_snoc, List.getD_eq_getElem?_getD, List.getElem?_eq_getElem h]
  rfl
theorem flat_split (L : List OpV) (k : Nat) (h : k < L.length) : flat L = flat (L.take k) ++ enc (L.getD k default) ++ flat (L.drop (k + 1)) := by
  rw [← flat_take L k h]
  unfold flat
  rw [← List.flatMap_append, List.take_append_drop]
theorem Packs.bit {l : List UInt8} {P E Q : List Bool} (h : Packs l (P ++ E ++ Q)) {i : Nat} (hi : i < E.length) : at_ l (P.length + i) = E.getD i false := by
  have hl := h.1
  simp only [List.length_append] at hl
  rw [h.2 _ (by omega), List.append_assoc, getD_app_right _ _ _ (by omega), Nat.add_sub_cancel_left, getD_app_left _ _ _ hi]
theorem Packs.room {l : List UInt8} {P E Q : List Bool} (h : Packs l (P ++ E ++ Q)) : P.length + E.length ≤ 8 * l.length := by
  have hl := h.1
  simp only [List.length_append] at hl
  omega
theorem get_back {l : List UInt8} {P Q : List Bool} {x k : Nat} (h : Packs l (P ++ num x k ++ Q)) (hk : k ≤ 64) (hx : x < 2 ^ k) :
    getErr (8 * l.length - P.length) (k : Int) = 0 ∧ getNum l P.length (k : Int) = x ∧ getTo (8 * l.length - P.length) P.length (k : Int) = P.length + k := by
  have hr := h.room
  rw [num_length] at hr
  have h1 : getErr (8 * l.length - P.length) (k : Int) = 0 := by unfold getErr; rw [if_pos ⟨by omega, by omega⟩, if_pos (by omega)]
  refine ⟨h1, ?_, by unfold getTo; rw [h1]; simp⟩
  unfold getNum
  rw [h1, if_pos rfl, Int.toNat_natCast]
  have : val (rest l P.length) k = val (fun i => x.testBit (k - 1 - i)) k := val_congr k fun i hi => by
    unfold rest
    rw [h.bit (by rw [num_length]; exact hi), num_getD _ _ _ hi]
  rw [this, val_num hx]
theorem unBits_getD (n i : Nat) (h : i ≤ n) : (unBits n).getD i false = decide (i = n) := by
  unfold unBits
  rcases Nat.lt_or_ge i n with hi | hi
  · rw [getD_app_left _ _ _ (by simpa using hi), decide_eq_false (by omega), List.getD_eq_getElem?_getD, List.getElem?_replicate, if_pos hi]; rfl
  · obtain rfl : i = n := by omega
    rw [getD_app_right _ _ _ (by simp)]; simp
theorem un_back {l : List UInt8} {P Q : List Bool} {n : Nat} (h : Packs l (P ++ unBits n ++ Q)) : unErr l P.length = 0 ∧ unNum l P.length = n ∧ unTo l P.length = P.length + n + 1 := by
  have hlen : (unBits n).length = n + 1 := by simp [unBits]
  have hr := h.room
  rw [hlen] at hr
  have hz : zs l P.length = n := zeros_eq (by omega) (fun i hi => by
    unfold rest
    rw [h.bit (by omega), unBits_getD n i (by omega)]
    exact decide_eq_false (by omega)) (fun _ => by
    unfold rest
    rw [h.bit (by omega), unBits_getD n n (Nat.le_refl _)]
    exact decide_eq_true rfl)
  have hne : zs l P.length ≠ 8 * l.length - P.length := by omega
  refine ⟨by unfold unErr; rw [if_neg hne], by unfold unNum; rw [if_neg hne, hz], by unfold unTo; rw [if_neg hne, hz]⟩
theorem pad_back {l : List UInt8} {B : List Bool} (h : Packs l B) : padErr l B.length = 0 ∧ 8 * l.length - B.length < 8 := by
  have hl := h.1
  have h8 : 8 * l.length - B.length < 8 := by omega
  have hz : zs l B.length = 8 * l.length - B.length := zeros_eq (Nat.le_refl _) (fun i hi => by
    unfold rest
    rw [h.2 _ (by omega), getD_far _ _ (by omega)]) (fun h => by omega)
  exact ⟨by unfold padErr; rw [if_pos ⟨h8, hz⟩], h8⟩
theorem enc_le (o : OpV) (h : o.k % 2 = 1 → o.n ≤ 300) : (enc o).length ≤ 301 := by
  unfold enc
  split
  · exact Nat.le_trans (putBits_le _ _) (by omega)
  · have hn := h (by omega)
    unfold unaryBits
    split
    · rename_i hr
      have := of_decide_eq_true hr
      simp [unBits]; omega
    · simp
end Bit

def opCells (o : OpV) : List Value := [.int .u8 (o.k : Int), .int .u64 (o.x : Int), .int .i64 o.n]
theorem opCells_get : ∀ (L : List OpV) (i j : Nat), i < L.length → j < 3 → (L.flatMap opCells)[i * 3 + j]? = (opCells (L.getD i default))[j]?
  | o :: L, 0, j, _, hj => by
    rw [List.flatMap_cons, Nat.zero_mul, Nat.zero_add, List.getElem?_append_left (by simp [opCells]; omega)]
    rfl
  | o :: L, i + 1, j, h, hj => by
    rw [List.flatMap_cons, List.getElem?_append_right (by simp [opCells]; omega)]
    have := opCells_get L i j (by simpa using h) hj
    rw [show (i + 1) * 3 + j - (opCells o).length = i * 3 + j by simp [opCells]; omega, this]
    simp
section
variable {o : Oper} {a : Act} {K : Act → World → Prop} {Q : Exit → Act → World → Prop} {w : World} {base : Nat} {v : Value} {L : List OpV}
end
end Go.Proofs.Ytjpmabdnaooglaa

namespace Go.Proofs.Ytjpmabdnaooglaa.Huf
open Len Can

section
variable {l : List UInt8}
theorem word_fits (hr : right l = true) {s : Nat} (hs : s < l.length) (h0 : lenAt l s ≠ 0) : word l s < 2 ^ lenAt l s := by
  obtain ⟨_, h15, hk⟩ := right_facts hr
  have h1 := acc_le l (lenAt l s) (s + 1)
  rw [acc_step l (by omega) hs, if_pos rfl, ← word_mul h0] at h1
  have h2 := h15 s hs
  have e : (2 : Nat) ^ 15 = 2 ^ lenAt l s * 2 ^ (15 - lenAt l s) := by rw [← Nat.pow_add]; congr 1; omega
  have h3 : (word l s + 1) * 2 ^ (15 - lenAt l s) ≤ 2 ^ lenAt l s * 2 ^ (15 - lenAt l s) := by
    rw [← e, Nat.add_mul, Nat.one_mul]
    omega
  exact Nat.le_of_mul_le_mul_right h3 (Nat.pow_pos (by omega))
end
theorem val_top (f : Nat → Bool) {k n : Nat} (h : k ≤ n) : Bit.val f n / 2 ^ (n - k) = Bit.val f k := by
  have h1 := Bit.val_add f k (n - k)
  rw [show k + (n - k) = n by omega] at h1
  have h2 := Bit.val_lt (fun i => f (k + i)) (n - k)
  rw [h1, Nat.add_comm, Nat.add_mul_div_right _ _ (Nat.pow_pos (by omega)), Nat.div_eq_of_lt h2, Nat.zero_add]

/-- Does symbol s's word stand at bit q? -/
def hit (l b : List UInt8) (q s : Nat) : Bool := decide (lenAt l s ≠ 0 ∧ lenAt l s ≤ 8 * b.length - q ∧ Bit.val (Bit.rest b q) (lenAt l s) = word l s)
/-- Do all the bits that are left begin it? -/
def near (l b : List UInt8) (q s : Nat) : Bool := decide (lenAt l s ≠ 0 ∧ 8 * b.length - q < lenAt l s ∧ Bit.val (Bit.rest b q) (8 * b.length - q) = word l s / 2 ^ (lenAt l s - (8 * b.length - q)))
def getE (l b : List UInt8) (q : Nat) : Int × Int × Nat :=
  match (List.range l.length).find? (hit l b q) with
  | some s => ((s : Int), 0, q + lenAt l s)
  | none => if (List.range l.length).any (near l b q) then (-1, 1, q) else (-1, 7, q)
theorem hit_one {l b : List UInt8} {q s t : Nat} (hr : right l = true) (hs : s < l.length) (ht : t < l.length) (h1 : hit l b q s = true) (h2 : hit l b q t = true) : s = t := by
  obtain ⟨a0, a1, a2⟩ := of_decide_eq_true h1
  obtain ⟨b0, b1, b2⟩ := of_decide_eq_true h2
  obtain ⟨_, h15, _⟩ := right_facts hr
  refine Classical.byContradiction fun hne => ?_
  rcases Nat.le_total (lenAt l s) (lenAt l t) with h | h
  · have := word_apart hs ht hne a0 b0 (h15 t ht) h
    rw [← b2, val_top _ h, a2] at this
    exact this rfl
  · have := word_apart ht hs (Ne.symm hne) b0 a0 (h15 s hs) h
    rw [← a2, val_top _ h, b2] at this
    exact this rfl
theorem getE_hit {l b : List UInt8} {q s : Nat} (hr : right l = true) (hs : s < l.length) (h : hit l b q s = true) : getE l b q = ((s : Int), 0, q + lenAt l s) := by
  unfold getE
  cases hf : (List.range l.length).find? (hit l b q) with
  | none =>
    have := List.find?_eq_none.1 hf s (List.mem_range.2 hs)
    exact absurd h this
  | some t =>
    have h2 := List.find?_some hf
    have ht := List.mem_range.1 (List.mem_of_find?_eq_some hf)
    rw [hit_one hr hs ht h h2]
theorem getE_none {l b : List UInt8} {q : Nat} (h : ∀ s, s < l.length → hit l b q s = false) : getE l b q = if (List.range l.length).any (near l b q) then (-1, 1, q) else (-1, 7, q) := by
  unfold getE
  have hf : (List.range l.length).find? (hit l b q) = none := List.find?_eq_none.2 fun s hs => by rw [h s (List.mem_range.1 hs)]; simp
  rw [hf]
/-- May the symbol be put? -/
def fine (l : List UInt8) (s : Int) : Bool := decide (0 ≤ s ∧ s < l.length ∧ lenAt l s.toNat ≠ 0)
def putB (l : List UInt8) (s : Int) : List Bool := Bit.num (word l s.toNat) (lenAt l s.toNat)
def putE (l : List UInt8) (s : Int) : Int := if fine l s then 0 else 13
def bitsOf (l : List UInt8) (syms : List Int) : List Bool := syms.flatMap (putB l)
theorem bitsOf_cons (l : List UInt8) (s : Int) (r : List Int) : bitsOf l (s :: r) = putB l s ++ bitsOf l r := rfl
theorem bitsOf_snoc (l : List UInt8) (r : List Int) (s : Int) : bitsOf l (r ++ [s]) = bitsOf l r ++ putB l s := by simp [bitsOf]
/-- The bits of symbols, the first error. -/
def packE (l : List UInt8) (syms : List Int) : List Bool × Int := if right l then (if syms.all (fine l) then (bitsOf l syms, 0) else ([], 13)) else ([], 7)
def unR (l b : List UInt8) : Nat → Nat → List Int → List Int × Int
  | 0, q, out => if Bit.padErr b q = 0 then (out, 0) else ([], 2)
  | k + 1, q, out => if (getE l b q).2.1 = 0 then unR l b k (getE l b q).2.2 (out ++ [(getE l b q).1]) else ([], (getE l b q).2.1)
def unpackE (l : List UInt8) (n : Int) (b : List UInt8) : List Int × Int := if n < 0 ∨ 100000 < n then ([], 13) else if right l then unR l b n.toNat 0 [] else ([], 7)
theorem get_put {l b : List UInt8} {P Q : List Bool} {s : Int} (hr : right l = true) (hf : fine l s = true) (h : Bit.Packs b (P ++ putB l s ++ Q)) : getE l b P.length = (s, 0, P.length + (putB l s).length) := by
  obtain ⟨h0, h1, h2⟩ := of_decide_eq_true hf
  obtain ⟨k, rfl⟩ := Int.eq_ofNat_of_zero_le h0
  rw [Int.toNat_natCast] at h2
  have hk : k < l.length := by omega
  obtain ⟨_, h15, _⟩ := right_facts hr
  have hk15 := h15 k hk
  have hw := word_fits hr hk h2
  unfold putB at h ⊢
  rw [Int.toNat_natCast] at h ⊢
  have hg := Bit.get_back h (by omega) hw
  have hroom := h.room
  rw [Bit.num_length] at hroom ⊢
  refine getE_hit hr hk (decide_eq_true ⟨h2, by omega, ?_⟩)
  have hn := hg.2.1
  unfold Bit.getNum at hn
  rw [hg.1, if_pos rfl, Int.toNat_natCast] at hn
  exact hn
/-- What was packed is unpacked. -/
theorem un_back {l b : List UInt8} (hr : right l = true) : ∀ (syms : List Int) (P : List Bool) (out : List Int), syms.all (fine l) = true → Bit.Packs b (P ++ bitsOf l syms) → unR l b syms.length P.length out = (out ++ syms, 0)
  | [], P, out, _, h => by
    have e : P ++ bitsOf l [] = P := by simp [bitsOf]
    rw [e] at h
    show unR l b 0 P.length out = _
    rw [unR, if_pos (Bit.pad_back h).1, List.append_nil]
  | s :: r, P, out, hf, h => by
    rw [List.all_cons, Bool.and_eq_true] at hf
    rw [bitsOf_cons, ← List.append_assoc] at h
    have hg := get_put hr hf.1 h
    have IH := un_back hr r (P ++ putB l s) (out ++ [s]) hf.2 h
    rw [List.length_append] at IH
    show unR l b (r.length + 1) P.length out = _
    rw [unR, hg, if_pos rfl, IH, List.append_assoc]
    rfl
end Go.Proofs.Ytjpmabdnaooglaa.Huf

namespace Go.Proofs.Ytjpmabdnaooglaa.Can
open Len

/-- Symbol t's word is told, where symbol s of length k is the next one. -/
def done (l : List UInt8) (k s t : Nat) : Prop := lenAt l t ≠ 0 ∧ (lenAt l t < k ∨ lenAt l t = k ∧ t < s)
/-- What is counted. -/
structure Words (l : List UInt8) (k s nx was : Nat) (any : Bool) (O : List Nat) : Prop where
  len : O.length = l.length
  told : ∀ t, t < l.length → done l k s t → O.getD t 0 = word l t
  none : ∀ t, t < l.length → ¬ done l k s t → O.getD t 0 = 0
  no : any = false → acc l k s = 0 ∧ nx = 0
  yes : any = true → (nx + 1) * 2 ^ (15 - was) = acc l k s ∧ 1 ≤ was ∧ was ≤ k
section
variable {l : List UInt8} {k s nx was : Nat} {any : Bool} {O : List Nat}
theorem Words.start : Words l 1 0 0 0 false (List.replicate l.length 0) where
  len := by simp
  told := fun t _ h => by unfold done at h; omega
  none := fun t ht _ => by simp [List.getD_eq_getElem?_getD, ht]
  no := fun _ => ⟨acc_start l, rfl⟩
  yes := fun h => by cases h
theorem Words.turn (h : Words l k l.length nx was any O) : Words l (k + 1) 0 nx was any O where
  len := h.len
  told := fun t ht hd => h.told t ht (by unfold done at *; omega)
  none := fun t ht hd => h.none t ht (by unfold done at *; omega)
  no := fun e => by rw [acc_turn]; exact h.no e
  yes := fun e => by rw [acc_turn]; have := h.yes e; exact ⟨this.1, this.2.1, by omega⟩
theorem Words.pass (h : Words l k s nx was any O) (hk : 1 ≤ k) (hs : s < l.length) (hne : lenAt l s ≠ k) : Words l k (s + 1) nx was any O where
  len := h.len
  told := fun t ht hd => h.told t ht (by
    unfold done at *
    refine ⟨hd.1, ?_⟩
    rcases hd.2 with e | e
    · exact .inl e
    · by_cases e2 : t = s
      · subst e2; omega
      · exact .inr ⟨e.1, by omega⟩)
  none := fun t ht hd => h.none t ht (by unfold done at *; omega)
  no := fun e => by rw [acc_step l hk hs, if_neg hne]; exact h.no e
  yes := fun e => by rw [acc_step l hk hs, if_neg hne]; exact h.yes e
/-- The next word. -/
def nextW (any : Bool) (nx was k : Nat) : Nat := if any then (nx + 1) * 2 ^ (k - was) else nx
theorem Words.next (h : Words l k s nx was any O) (hk : 1 ≤ k) (hk15 : k ≤ 15) (hs : lenAt l s = k) : nextW any nx was k = word l s ∧ nextW any nx was k * 2 ^ (15 - k) = acc l k s := by
  have h1 : nextW any nx was k * 2 ^ (15 - k) = acc l k s := by
    unfold nextW
    cases any with
    | false =>
      obtain ⟨h2, h3⟩ := h.no rfl
      rw [h2, h3]
      simp
    | true =>
      obtain ⟨h2, h3, h4⟩ := h.yes rfl
      rw [if_pos rfl, ← h2, Nat.mul_assoc, ← Nat.pow_add, show k - was + (15 - k) = 15 - was by omega]
  refine ⟨?_, h1⟩
  unfold word
  rw [if_neg (by omega), hs, ← h1, Nat.mul_div_cancel _ (Nat.pow_pos (by omega))]
theorem Words.put (h : Words l k s nx was any O) (hk : 1 ≤ k) (hk15 : k ≤ 15) (hls : s < l.length) (hs : lenAt l s = k) : Words l k (s + 1) (nextW any nx was k) k true (O.set s (nextW any nx was k)) := by
  obtain ⟨h1, h2⟩ := h.next hk hk15 hs
  refine ⟨by rw [List.length_set, h.len], fun t ht hd => ?_, fun t ht hd => ?_, (fun e => by cases e), fun _ => ⟨?_, hk, Nat.le_refl _⟩⟩
  · by_cases e : s = t
    · subst e
      rw [List.getD_eq_getElem?_getD, List.getElem?_set_self (by rw [h.len]; exact ht), Option.getD_some, h1]
    · rw [List.getD_eq_getElem?_getD, List.getElem?_set_ne e, ← List.getD_eq_getElem?_getD]
      exact h.told t ht (by unfold done at *; omega)
  · have e : s ≠ t := fun e => hd (by subst e; unfold done; omega)
    rw [List.getD_eq_getElem?_getD, List.getElem?_set_ne e, ← List.getD_eq_getElem?_getD]
    exact h.none t ht (by unfold done at *; omega)
  · rw [acc_step l hk hls, if_pos hs, Nat.add_mul, h2, Nat.one_mul]
theorem Words.small (h : Words l k s nx was any O) (hr : right l = true) : nx < 32768 := by
  cases any with
  | false => rw [(h.no rfl).2]; decide
  | true =>
    have h1 := (h.yes rfl).1
    have h2 := acc_le l k s
    have h3 := (right_facts hr).2.2
    have h4 : 0 < 2 ^ (15 - was) := Nat.pow_pos (by omega)
    have h5 : (nx + 1) * 1 ≤ (nx + 1) * 2 ^ (15 - was) := Nat.mul_le_mul_left _ h4
    omega
theorem Words.all (h : Words l 16 0 nx was any O) (hr : right l = true) : O = codesL l := by
  have h15 := (right_facts hr).2.1
  refine List.ext_getElem (by rw [h.len]; simp [codesL]) fun t h1 h2 => ?_
  have ht : t < l.length := by rw [← h.len]; exact h1
  have e1 : (codesL l)[t] = word l t := by simp [codesL]
  rw [e1]
  have e2 : O[t] = O.getD t 0 := by rw [List.getD_eq_getElem?_getD, List.getElem?_eq_getElem h1]; rfl
  rw [e2]
  by_cases h0 : lenAt l t = 0
  · rw [h.none t ht (by unfold done; omega)]
    unfold word
    rw [if_pos h0]
  · exact h.told t ht (by have := h15 t ht; unfold done; omega)
end
end Go.Proofs.Ytjpmabdnaooglaa.Can
namespace Go.Proofs.Ytjpmabdnaooglaa
open Go.RowKit

def h16V (x : Nat) : Value := .int .u16 (x : Int)
/-- v is nil, or lies in a block of the call's own, and reads as these numbers of 16 bits. -/
def OwnH (w : World) (base : Nat) (v : Value) (L : List Nat) : Prop := w.ownsRow base 90 1 v L.length (L.map h16V)
theorem h16_info : (Try.prog.info? 90).map (fun i => (i.zero, i.size, i.bytes)) = some (some (.int .u16 0), 1, 2) := by kernel_rfl
section
variable {w w' : World} {base g n c : Nat} {v : Value} {L : List Nat}
theorem OwnH.nil (w : World) (base : Nat) : OwnH w base (.slice none 0 0) [] := World.ownsRow_nil w base _ _
theorem OwnH.ext (h : OwnH w base v L) (hE : Ext w w') : OwnH w' base v L := World.ownsRow.kept h (hE.grown none) (by cases hv : v.ownBlock <;> simp)
theorem OwnH.lt (h : OwnH w base v L) : ∀ k, v.ownBlock = some k → base ≤ k ∧ k < w.heap.size := World.ownsRow.lt h
theorem OwnH.mono {b' : Nat} (h : OwnH w base v L) (hb : b' ≤ base) : OwnH w b' v L := ⟨h.1, h.2.imp_right fun ⟨g, cap, cur, e, hg, r⟩ => ⟨g, cap, cur, e, Nat.le_trans hb hg, r⟩⟩
theorem OwnH.form (h : OwnH w base v L) : ∃ A c, v = .slice A L.length c ∧ L.length ≤ c ∧ c ≤ maxLen ∧ (L.length = 0 ∨ ∃ g, A = some ⟨g, 0, none⟩ ∧ base ≤ g ∧ g < w.heap.size) := by
  rcases h.2 with ⟨rfl, h0⟩ | ⟨g, cap, cur, rfl, hb, hg, hn, hc, hs, ht⟩
  · exact ⟨none, 0, by rw [h0], by omega, by unfold maxLen; omega, .inl h0⟩
  · exact ⟨_, cap, rfl, hn, hc, .inr ⟨g, rfl, hb, (Array.getElem?_eq_some_iff.1 hg).1⟩⟩
theorem OwnH.cell (h : OwnH w base (.slice (some ⟨g, 0, none⟩) L.length c) L) {i : Nat} (hi : i < L.length) :
    w.cell? ⟨g, i, none⟩ = some (.int .u16 ((L.getD i 0 : Nat) : Int)) ∧ w.frozen? ⟨g, i, none⟩ = false := by
  refine ⟨?_, World.ownsRow.frozenAt h i⟩
  rw [World.ownsRow.cellAt h i (by omega)]
  simp [h16V, hi]
theorem OwnH.set (h : OwnH w base (.slice (some ⟨g, 0, none⟩) L.length c) L) (i x : Nat) :
    OwnH (w.setCell ⟨g, i, none⟩ (.int .u16 (x : Int))) base (.slice (some ⟨g, 0, none⟩) L.length c) (L.set i x) := by
  have := (World.ownsRow.stored h i (.int .u16 (x : Int))).1
  unfold OwnH
  rw [List.length_set, List.map_set]
  exact this
end
section
variable {o : Oper} {a : Act} {Q : Exit → Act → World → Prop} {w : World} {base : Nat} {v : Value} {L : List Nat}
/-- append of one number, which lies in a block of its own. -/
theorem wpList_appH {ops : Array Oper} {rest : List Oper} (hgd : o.guard = none) (s x : Operand) (ho : o.op = .call { callee := .builtin .append, args := #[s, x], argTypes := #[28, 28] }) (hs : a.eval s = v) (p : Nat)
    (hown : OwnH (w.alloc (.cells #[.int .u16 (p : Int)] 90)) base v L) {c : Nat} (hx : a.eval x = .slice (some ⟨w.heap.size, 0, none⟩) 1 c) (hlen : L.length ≤ 1000) (hbase : base ≤ w.heap.size)
    (h : ∀ v' w', OwnH w' base v' (L ++ [p]) → (w.alloc (.cells #[.int .u16 (p : Int)] 90)).grownBy w' v.ownBlock → wpList Try.prog ops Q rest (a.put o.dst v') w') :
    wpList Try.prog ops Q (o :: rest) a (w.alloc (.cells #[.int .u16 (p : Int)] 90)) := by
  obtain ⟨i, hi, hz, hsz, hby⟩ := info_parts h16_info
  refine wpList_append_own_at _ hgd s x 28 ho base 90 i _ 1 2 Try.underlying28 hi hz hsz hby rfl (by omega) v L.length (L.map h16V) hs hown ⟨w.heap.size, 0, none⟩ 1 c [.int .u16 (p : Int)] hx rfl (by
    intro j u hu
    match j, hu with
    | 0, hu =>
      have : (⟨w.heap.size, 0, none⟩ : Addr).add 0 = ⟨w.heap.size, 0, none⟩ := rfl
      rw [this, cellNew]
      simpa using hu
    | j + 1, hu => simp at hu) (by
    intro u hu
    simp at hu
    subst hu
    rfl) (by unfold maxLen; omega) (by omega) (by simp; omega) ?_
  intro v' w' h2 h3 _ h5
  refine h v' w' ?_ h3
  unfold OwnH
  rw [List.length_append, List.map_append]
  exact h2
end
end Go.Proofs.Ytjpmabdnaooglaa

namespace Go.Proofs.Ytjpmabdnaooglaa.Huf
open Len Can

/-- What the words of these symbols take of all numbers of 15 bits. -/
def tot (l : List UInt8) (O : List Nat) : Nat := (O.map fun s => 2 ^ (15 - lenAt l s)).sum
/-- The least number that begins with a symbol's word. -/
def startOf (l : List UInt8) (s : Nat) : Nat := word l s * 2 ^ (15 - lenAt l s)
def starts (l : List UInt8) (O : List Nat) : List Nat := O.map (startOf l)
/-- O lists the symbols whose words are told ahead of symbol s of length k. -/
structure Ord (l : List UInt8) (k s : Nat) (O : List Nat) : Prop where
  acc : Can.acc l k s = tot l O
  all : ∀ t, t < l.length → done l k s t → t ∈ O
  at_ : ∀ i, i < O.length → O.getD i 0 < l.length ∧ lenAt l (O.getD i 0) ≠ 0 ∧ startOf l (O.getD i 0) = tot l (O.take i)
section
variable {l : List UInt8} {k s : Nat} {O : List Nat}
theorem tot_snoc (l : List UInt8) (O : List Nat) (s : Nat) : tot l (O ++ [s]) = tot l O + 2 ^ (15 - lenAt l s) := by simp [tot]
theorem starts_snoc (l : List UInt8) (O : List Nat) (s : Nat) : starts l (O ++ [s]) = starts l O ++ [startOf l s] := by simp [starts]
theorem starts_len (l : List UInt8) (O : List Nat) : (starts l O).length = O.length := by simp [starts]
theorem starts_at {l : List UInt8} {O : List Nat} {i : Nat} (hi : i < O.length) : (starts l O).getD i 0 = startOf l (O.getD i 0) := by simp [starts, List.getD_eq_getElem?_getD, hi]
theorem Ord.start : Ord l 1 0 [] where
  acc := by rw [acc_start]; rfl
  all := fun t _ h => by unfold done at h; omega
  at_ := fun i hi => absurd hi (by simp)
theorem Ord.turn (h : Ord l k l.length O) : Ord l (k + 1) 0 O where
  acc := by rw [acc_turn]; exact h.acc
  all := fun t ht hd => h.all t ht (by unfold done at *; omega)
  at_ := h.at_
theorem Ord.pass (h : Ord l k s O) (hk : 1 ≤ k) (hs : s < l.length) (hne : lenAt l s ≠ k) : Ord l k (s + 1) O where
  acc := by rw [acc_step l hk hs, if_neg hne]; exact h.acc
  all := fun t ht hd => h.all t ht (by
    unfold done at *
    refine ⟨hd.1, ?_⟩
    rcases hd.2 with e | e
    · exact .inl e
    · by_cases e2 : t = s
      · subst e2; omega
      · exact .inr ⟨e.1, by omega⟩)
  at_ := h.at_
theorem Ord.put (h : Ord l k s O) (hk : 1 ≤ k) (hs : s < l.length) (he : lenAt l s = k) : Ord l k (s + 1) (O ++ [s]) where
  acc := by rw [acc_step l hk hs, if_pos he, h.acc, tot_snoc, he]
  all := fun t ht hd => by
    rw [List.mem_append]
    by_cases e2 : t = s
    · exact .inr (by simp [e2])
    · exact .inl (h.all t ht (by unfold done at *; omega))
  at_ := fun i hi => by
    rw [List.length_append] at hi
    simp at hi
    by_cases hlt : i < O.length
    · have := h.at_ i hlt
      rw [List.take_append_of_le_length (by omega)]
      simp only [List.getD_eq_getElem?_getD, List.getElem?_append_left hlt] at *
      exact this
    · obtain rfl : i = O.length := by omega
      have e : (O ++ [s]).getD O.length 0 = s := by simp [List.getD_eq_getElem?_getD]
      rw [e, List.take_append_of_le_length (Nat.le_refl _), List.take_length]
      refine ⟨hs, by omega, ?_⟩
      unfold startOf
      rw [word_mul (by omega), he, h.acc]
theorem Ord.len_le (h : Ord l k s O) (hk : Can.acc l k s ≤ 32768) : ∀ n, n ≤ O.length → n ≤ tot l (O.take n)
  | 0, _ => Nat.zero_le _
  | n + 1, hn => by
    have ih := h.len_le hk n (by omega)
    have e : O.take (n + 1) = O.take n ++ [O.getD n 0] := by
      rw [List.take_succ_eq_append_getElem (by omega), List.getD_eq_getElem?_getD, List.getElem?_eq_getElem (by omega)]; rfl
    rw [e, tot_snoc]
    have : 0 < 2 ^ (15 - lenAt l (O.getD n 0)) := Nat.pow_pos (by omega)
    omega
theorem tot_succ {i : Nat} (hi : i < O.length) : tot l (O.take (i + 1)) = tot l (O.take i) + 2 ^ (15 - lenAt l (O.getD i 0)) := by
  have e : O.take (i + 1) = O.take i ++ [O.getD i 0] := by
    rw [List.take_succ_eq_append_getElem hi, List.getD_eq_getElem?_getD, List.getElem?_eq_getElem hi]; rfl
  rw [e, tot_snoc]
theorem tot_mono : ∀ {i j : Nat}, i ≤ j → j ≤ O.length → tot l (O.take i) ≤ tot l (O.take j)
  | i, 0, h, _ => by
    obtain rfl : i = 0 := by omega
    exact Nat.le_refl _
  | i, j + 1, h, hj => by
    by_cases e : i = j + 1
    · rw [e]; exact Nat.le_refl _
    · have h1 := tot_mono (show i ≤ j by omega) (by omega)
      rw [tot_succ (by omega)]
      exact Nat.le_trans h1 (Nat.le_add_right _ _)
theorem tot_le {i : Nat} (hi : i ≤ O.length) : tot l (O.take i) ≤ tot l O := by
  have := tot_mono (l := l) (O := O) hi (Nat.le_refl _)
  rwa [List.take_length] at this
/-- The starts rise. -/
theorem Ord.lt (h : Ord l k s O) {i j : Nat} (hij : i < j) (hj : j < O.length) : (starts l O).getD i 0 < (starts l O).getD j 0 := by
  rw [starts_at (by omega), starts_at hj, (h.at_ i (by omega)).2.2, (h.at_ j hj).2.2]
  have h1 := tot_mono (l := l) (O := O) (show i + 1 ≤ j by omega) (by omega)
  rw [tot_succ (by omega)] at h1
  have : 0 < 2 ^ (15 - lenAt l (O.getD i 0)) := Nat.pow_pos (by omega)
  omega
theorem Ord.le (h : Ord l k s O) {i j : Nat} (hij : i ≤ j) (hj : j < O.length) : (starts l O).getD i 0 ≤ (starts l O).getD j 0 := by
  by_cases e : i = j
  · rw [e]; exact Nat.le_refl _
  · exact Nat.le_of_lt (h.lt (by omega) hj)
theorem Ord.first (h : Ord l k s O) (h0 : 0 < O.length) : (starts l O).getD 0 0 = 0 := by
  rw [starts_at h0, (h.at_ 0 h0).2.2]
  rfl
theorem Ord.small (h : Ord l k s O) (hr : right l = true) {i : Nat} (hi : i < O.length) : (starts l O).getD i 0 < 32768 := by
  rw [starts_at hi, (h.at_ i hi).2.2]
  have h1 := tot_mono (l := l) (O := O) (show i + 1 ≤ O.length by omega) (Nat.le_refl _)
  rw [tot_succ hi, List.take_length, ← h.acc] at h1
  have h2 := acc_le l k s
  have h3 := (right_facts hr).2.2
  have : 0 < 2 ^ (15 - lenAt l (O.getD i 0)) := Nat.pow_pos (by omega)
  omega
theorem startOf_lt (hr : right l = true) (hs : s < l.length) (h0 : lenAt l s ≠ 0) : startOf l s + 2 ^ (15 - lenAt l s) ≤ 32768 := by
  unfold startOf
  have h1 := acc_le l (lenAt l s) (s + 1)
  rw [acc_step l (by omega) hs, if_pos rfl, ← word_mul h0] at h1
  have := (right_facts hr).2.2
  omega
/-- Every symbol with a word is listed in the end. -/
theorem Ord.mem (h : Ord l 16 0 O) (hr : right l = true) {t : Nat} (ht : t < l.length) (h0 : lenAt l t ≠ 0) : ∃ i, i < O.length ∧ O.getD i 0 = t := by
  have hm := h.all t ht ⟨h0, .inl (by have := (right_facts hr).2.1 t ht; omega)⟩
  obtain ⟨i, hi, e⟩ := List.getElem_of_mem hm
  exact ⟨i, hi, by rw [List.getD_eq_getElem?_getD, List.getElem?_eq_getElem hi]; exact e⟩
theorem Ord.len_300 (h : Ord l k s O) (hr : right l = true) : O.length ≤ 32768 := by
  have h2 := acc_le l k s
  have h3 := (right_facts hr).2.2
  have h1 := h.len_le (by omega) O.length (Nat.le_refl _)
  rw [List.take_length, ← h.acc] at h1
  omega
end
section
variable {l b : List UInt8} {q : Nat}
/-- The next bits as a number of 15, bits 0 in place of those that aren't there. -/
def nextN (b : List UInt8) (q : Nat) : Nat := Bit.peekNum b q 15
def thereN (b : List UInt8) (q : Nat) : Nat := Bit.peekThere (8 * b.length - q) 15
theorem thereN_eq (b : List UInt8) (q : Nat) : thereN b q = min 15 (8 * b.length - q) := rfl
theorem nextN_eq (b : List UInt8) (q : Nat) : nextN b q = Bit.val (Bit.rest b q) (thereN b q) * 2 ^ (15 - thereN b q) := rfl
theorem nextN_lt (b : List UInt8) (q : Nat) : nextN b q < 32768 := by
  rw [nextN_eq]
  have h1 := Bit.val_lt (Bit.rest b q) (thereN b q)
  have h2 : thereN b q ≤ 15 := by rw [thereN_eq]; omega
  have h3 : Bit.val (Bit.rest b q) (thereN b q) * 2 ^ (15 - thereN b q) < 2 ^ thereN b q * 2 ^ (15 - thereN b q) := Nat.mul_lt_mul_of_pos_right h1 (Nat.pow_pos (by omega))
  rw [← Nat.pow_add, show thereN b q + (15 - thereN b q) = 15 by omega] at h3
  exact h3
theorem next_full {y : Nat} (h : y ≤ thereN b q) : nextN b q / 2 ^ (15 - y) = Bit.val (Bit.rest b q) y := by
  have h2 : thereN b q ≤ 15 := by rw [thereN_eq]; omega
  rw [nextN_eq, show 15 - y = (15 - thereN b q) + (thereN b q - y) by omega, Nat.pow_add, ← Nat.div_div_eq_div_mul, Nat.mul_div_cancel _ (Nat.pow_pos (by omega)), val_top _ h]
theorem next_part {y : Nat} (h : thereN b q ≤ y) (hy : y ≤ 15) : nextN b q / 2 ^ (15 - y) = Bit.val (Bit.rest b q) (thereN b q) * 2 ^ (y - thereN b q) := by
  rw [nextN_eq, show 15 - thereN b q = (y - thereN b q) + (15 - y) by omega, Nat.pow_add, ← Nat.mul_assoc, Nat.mul_div_cancel _ (Nat.pow_pos (by omega))]
/-- A word stands at the next bits just if they are there and begin with it. -/
theorem hit_iff {s : Nat} (h0 : lenAt l s ≠ 0) (h15 : lenAt l s ≤ 15) : hit l b q s = true ↔ lenAt l s ≤ thereN b q ∧ nextN b q / 2 ^ (15 - lenAt l s) = word l s := by
  unfold hit
  rw [decide_eq_true_iff, thereN_eq]
  constructor
  · rintro ⟨_, h1, h2⟩
    have h3 : lenAt l s ≤ thereN b q := by rw [thereN_eq]; omega
    exact ⟨by omega, by rw [next_full h3]; exact h2⟩
  · rintro ⟨h1, h2⟩
    have h3 : lenAt l s ≤ thereN b q := by rw [thereN_eq]; exact h1
    exact ⟨h0, by omega, by rw [← next_full h3]; exact h2⟩
theorem near_next {s : Nat} (h15 : lenAt l s ≤ 15) (h : near l b q s = true) : thereN b q < lenAt l s ∧ nextN b q ≤ startOf l s := by
  obtain ⟨_, h1, h2⟩ := of_decide_eq_true h
  have e : thereN b q = 8 * b.length - q := by rw [thereN_eq]; omega
  refine ⟨by omega, ?_⟩
  rw [nextN_eq, e, h2]
  unfold startOf
  rw [show 15 - (8 * b.length - q) = (lenAt l s - (8 * b.length - q)) + (15 - lenAt l s) by omega, Nat.pow_add, ← Nat.mul_assoc]
  exact Nat.mul_le_mul_right _ (Nat.div_mul_le_self _ _)
theorem near_of {s : Nat} (h0 : lenAt l s ≠ 0) (h15 : lenAt l s ≤ 15) (h : thereN b q < lenAt l s) (he : nextN b q / 2 ^ (15 - lenAt l s) = word l s) : near l b q s = true := by
  have e : thereN b q = 8 * b.length - q := by rw [thereN_eq] at h ⊢; omega
  rw [next_part (by omega) h15, e] at he
  refine decide_eq_true ⟨h0, by omega, ?_⟩
  rw [← he, Nat.mul_div_cancel _ (Nat.pow_pos (by omega))]
theorem in_range {s N : Nat} (h1 : startOf l s ≤ N) (h2 : N < startOf l s + 2 ^ (15 - lenAt l s)) : N / 2 ^ (15 - lenAt l s) = word l s := by
  have hp : 0 < 2 ^ (15 - lenAt l s) := Nat.pow_pos (by omega)
  unfold startOf at *
  refine Nat.div_eq_of_lt_le (by omega) ?_
  rw [Nat.add_mul, Nat.one_mul]
  exact h2
theorem of_range {s N : Nat} (h : N / 2 ^ (15 - lenAt l s) = word l s) : startOf l s ≤ N ∧ N < startOf l s + 2 ^ (15 - lenAt l s) := by
  have hp : 0 < 2 ^ (15 - lenAt l s) := Nat.pow_pos (by omega)
  unfold startOf
  rw [← h]
  have h1 := Nat.div_mul_le_self N (2 ^ (15 - lenAt l s))
  have h2 := Nat.lt_div_mul_add hp (a := N)
  omega
/-- No symbol has a word. -/
theorem find_none (h : Ord l 16 0 []) (hr : right l = true) : getE l b q = (-1, 7, q) := by
  have h0 : ∀ s, s < l.length → lenAt l s = 0 := fun s hs => Classical.byContradiction fun hn => by
    obtain ⟨i, hi, _⟩ := h.mem hr hs hn
    simp at hi
  rw [getE_none fun s hs => decide_eq_false fun h2 => h2.1 (h0 s hs), if_neg]
  rw [Bool.not_eq_true, List.any_eq_false]
  intro s hs hn
  exact (of_decide_eq_true hn).1 (h0 s (List.mem_range.1 hs))
/-- What the last symbol that starts at or below the next bits tells. -/
theorem find_is {O : List Nat} (h : Ord l 16 0 O) (hr : right l = true) {a : Nat} (ha : a < O.length) (h1 : (starts l O).getD a 0 ≤ nextN b q) (h2 : a + 1 < O.length → nextN b q < (starts l O).getD (a + 1) 0) :
    getE l b q = if nextN b q / 2 ^ (15 - lenAt l (O.getD a 0)) ≠ word l (O.getD a 0) then (-1, 7, q) else if thereN b q < lenAt l (O.getD a 0) then (-1, 1, q) else (((O.getD a 0 : Nat) : Int), 0, q + lenAt l (O.getD a 0)) := by
  obtain ⟨hs, h0, hst⟩ := h.at_ a ha
  have h15 := (right_facts hr).2.1
  rw [starts_at ha] at h1
  generalize hse : O.getD a 0 = s at *
  by_cases hw : nextN b q / 2 ^ (15 - lenAt l s) = word l s
  · rw [if_neg (fun hn => hn hw)]
    by_cases ht : thereN b q < lenAt l s
    · rw [if_pos ht]
      have hn := near_of (b := b) (q := q) h0 (h15 s hs) ht hw
      have hno : ∀ t, t < l.length → hit l b q t = false := fun t htl => by
        rw [← Bool.not_eq_true]
        intro hh
        by_cases t0 : lenAt l t = 0
        · exact (of_decide_eq_true hh).1 t0
        obtain ⟨a1, a2⟩ := (hit_iff t0 (h15 t htl)).1 hh
        have hne : t ≠ s := fun e => by subst e; omega
        refine word_apart htl hs hne t0 h0 (h15 s hs) (by omega) ?_
        rw [← hw, Nat.div_div_eq_div_mul, ← Nat.pow_add, show 15 - lenAt l s + (lenAt l s - lenAt l t) = 15 - lenAt l t by have := h15 s hs; omega]
        exact a2
      rw [getE_none hno, if_pos]
      exact List.any_eq_true.2 ⟨s, List.mem_range.2 hs, hn⟩
    · rw [if_neg ht]
      exact getE_hit hr hs ((hit_iff h0 (h15 s hs)).2 ⟨by omega, hw⟩)
  · rw [if_pos hw]
    have hge : startOf l s + 2 ^ (15 - lenAt l s) ≤ nextN b q := by
      rcases Nat.lt_or_ge (nextN b q) (startOf l s + 2 ^ (15 - lenAt l s)) with hlt | hge
      · exact absurd (in_range h1 hlt) hw
      · exact hge
    have hlast : a + 1 = O.length := by
      rcases Nat.lt_or_ge (a + 1) O.length with hlt | hge2
      · have := h2 hlt
        rw [starts_at hlt, (h.at_ (a + 1) hlt).2.2, tot_succ ha, hse, ← hst] at this
        omega
      · omega
    have htot : tot l O ≤ nextN b q := by
      have e : tot l (O.take (a + 1)) = tot l O := by rw [hlast, List.take_length]
      rw [tot_succ ha, hse, ← hst] at e
      omega
    have hend : ∀ t, t < l.length → lenAt l t ≠ 0 → startOf l t + 2 ^ (15 - lenAt l t) ≤ nextN b q := fun t ht t0 => by
      obtain ⟨i, hi, e⟩ := h.mem hr ht t0
      have h3 := h.at_ i hi
      rw [e] at h3
      have h4 := tot_le (l := l) (O := O) (i := i + 1) (by omega)
      rw [tot_succ hi, e, ← h3.2.2] at h4
      omega
    rw [getE_none, if_neg]
    · rw [Bool.not_eq_true, List.any_eq_false]
      intro t ht hn
      have htl := List.mem_range.1 ht
      have t0 : lenAt l t ≠ 0 := fun e => (of_decide_eq_true hn).1 e
      have h3 := near_next (h15 t htl) hn
      have h4 := hend t htl t0
      have : 0 < 2 ^ (15 - lenAt l t) := Nat.pow_pos (by omega)
      omega
    · intro t htl
      rw [← Bool.not_eq_true]
      intro hh
      have t0 : lenAt l t ≠ 0 := fun e => (of_decide_eq_true hh).1 e
      have h3 := (hit_iff t0 (h15 t htl)).1 hh
      have h4 := hend t htl t0
      have h5 := of_range h3.2
      omega
end
end Go.Proofs.Ytjpmabdnaooglaa.Huf

namespace Go.Proofs.Ytjpmabdnaooglaa
open Go.RowKit Len

theorem kraft_le (l : List UInt8) : ∀ n, kraftOf l n ≤ n * 32768
  | 0 => by simp [kraftOf, sumN]
  | n + 1 => by
    have := kraft_le l n
    unfold kraftOf at *
    rw [sumN]
    have h : (if (l.getD n 0).toNat = 0 then 0 else 2 ^ (15 - (l.getD n 0).toNat)) ≤ 2 ^ 15 := by
      split
      · omega
      · exact Nat.pow_le_pow_right (by omega) (by omega)
    omega
/-- Behind a call that tells a number and an error. -/
def TellsI (k : IntKind) (w : World) (r : Nat × Int) (e : Ending) (w' : World) : Prop := e = .returned (.tuple #[.int k ((r.1 : Nat) : Int), .int .i64 r.2]) ∧ Ext w w'

set_option maxHeartbeats 2000000 in
set_option maxRecDepth 100000 in
theorem refKraft_any (A : Option Addr) (n c : Nat) (l : List UInt8) (w : World) (h : Bytes w w.heap.size A n l) : Calls Try.prog 45 #[.slice A n c] w (TellsI .i64 w (kraftE l)) := by
  have hl := h.1
  subst hl
  by_cases h300 : (300 : Int) < (l.length : Int)
  · have HN := hide (show kraftE l = (0, 13) from if_neg (by omega))
    clear h
    go_enter Try.func45, Try.ntmps45
    go_wp2
    go_ret2
    rw [HN.out]
    exact ⟨rfl, Ext.refl _⟩
  · have HBad := hide (show ∀ i, i < l.length → 15 < (l.getD i 0).toNat → kraftE l = (0, 13) from fun i hi hb => if_neg (fun h => by have := h.2 i hi; omega))
    have HOk := hide (show (∀ i, i < l.length → (l.getD i 0).toNat ≤ 15) → kraftE l = (kraftOf l l.length, 0) from fun h => if_pos ⟨by omega, h⟩)
    have HK := hide (kraft_le l)
    have HS := hide (show ∀ i, kraftOf l (i + 1) = kraftOf l i + if (l.getD i 0).toNat = 0 then 0 else 2 ^ (15 - (l.getD i 0).toNat) from fun _ => rfl)
    have HZ := hide (show kraftOf l 0 = 0 from rfl)
    generalize kraftE l = res at *
    go_enter Try.func45, Try.ntmps45
    go_wp2
    go_loopw [4, 5] (fun a b wr => ∃ i s : Nat, i ≤ l.length ∧ b = .int .i64 (i : Int) ∧ a = .int .i64 (s : Int) ∧ s = kraftOf l i ∧ (∀ q, q < i → (l.getD q 0).toNat ≤ 15) ∧ Ext w wr) (fun _ b _ => l.length - (intOf b).toNat)
    case atStart => exact ⟨0, 0, by omega, rfl, rfl, HZ.out.symm, fun q hq => absurd hq (by omega), Ext.refl _⟩
    case round =>
      obtain ⟨i, s, hi, rfl, rfl, hs, hall, hE⟩ := hrel
      have HAll := hide hall
      have HSS := hide hs
      clear hall
      by_cases hlt : i < l.length
      · rcases (hE.bytes h).2 with h0 | ⟨b, o, rfl, hB, hc⟩
        · omega
        have hk := hc i hlt
        have hyl := UInt8.toNat_lt (l.getD i 0)
        have hSum := HS.out i
        have hBad := HBad.out i hlt
        have hkr := HK.out i
        rw [← hs] at hkr hSum
        obtain ⟨y, hy⟩ : ∃ y, y = (l.getD i 0).toNat := ⟨_, rfl⟩
        rw [← hy] at hk hyl hSum hBad
        have HY := hide hy
        have hil : (i : Int) < (l.length : Int) := by omega
        clear hc hy hs
        by_cases h15 : (15 : Int) < (y : Int)
        · have HN := hide (hBad (by omega))
          clear hBad hSum
          go_wp2
          go_ret2
          rw [HN.out]
          exact ⟨rfl, hE⟩
        · by_cases h0 : (0 : Int) < (y : Int)
          · rw [if_neg (by omega)] at hSum
            have HSum := hide hSum
            clear hSum hBad
            obtain ⟨wa, rfl⟩ : ∃ W, W = wr := ⟨_, rfl⟩
            go_wp2_with fail
            go_loopw [6, 7] (fun a b wr => ∃ k v : Nat, k ≤ y ∧ b = .int .i64 (k : Int) ∧ a = .int .i64 (v : Int) ∧ v = 2 ^ (15 - k) ∧ wr = wa) (fun _ b _ => y - (intOf b).toNat)
            case atStart => exact ⟨0, 32768, by omega, rfl, rfl, rfl, rfl⟩
            case round =>
              obtain ⟨k, v, hk1, rfl, rfl, hv, rfl⟩ := hrel
              by_cases hky : (k : Int) < (y : Int)
              · have e : 2 ^ (15 - k) = 2 * 2 ^ (15 - (k + 1)) := by rw [show 15 - k = (15 - (k + 1)) + 1 by omega, Nat.pow_succ, Nat.mul_comm]
                have hb : 2 ^ (15 - (k + 1)) ≤ 32768 := Nat.le_trans (Nat.pow_le_pow_right (by omega) (show 15 - (k + 1) ≤ 15 by omega)) (by decide)
                obtain ⟨v', hv'⟩ : ∃ v, v = 2 ^ (15 - (k + 1)) := ⟨_, rfl⟩
                rw [← hv, ← hv'] at e
                rw [← hv'] at hb
                have hq : ((v : Nat) : Int).tdiv 2 = ((v' : Nat) : Int) := by
                  rw [Int.tdiv_eq_ediv_of_nonneg (by omega), e]
                  omega
                have hb2 : (v : Int) ≤ 65536 := by omega
                have HV' := hide hv'
                clear e hv hv'
                go_wp2
                go_roundw
                case rel => exact ⟨k + 1, v', by omega, by go_num, by go_num, HV'.out, trivial⟩
                case measure => simp [intOf]; omega
              · obtain rfl : k = y := by omega
                have hb : 2 ^ (15 - k) ≤ 32768 := Nat.le_trans (Nat.pow_le_pow_right (by omega) (show 15 - k ≤ 15 by omega)) (by decide)
                rw [← hv] at hb HSum
                clear hv
                go_wp2
                go_roundw
                case rel => exact ⟨i + 1, s + v, by omega, by go_num, by go_num, HSum.out.symm, fun q hq => (by
                  by_cases hqi : q = i
                  · rw [hqi, ← HY.out]; omega
                  · exact HAll.out q (by omega)), hE⟩
                case measure => simp [intOf]; omega
          · rw [if_pos (by omega), Nat.add_zero] at hSum
            have HSum := hide hSum
            clear hSum hBad
            go_wp2
            go_roundw
            case rel => exact ⟨i + 1, s, by omega, by go_num, rfl, HSum.out.symm, fun q hq => (by
              by_cases hqi : q = i
              · rw [hqi, ← HY.out]; omega
              · exact HAll.out q (by omega)), hE⟩
            case measure => simp [intOf]; omega
      · obtain rfl : l.length = i := by omega
        have HN := hide (HOk.out HAll.out)
        clear h
        rw [← hs] at HN
        clear hs
        go_wp2
        go_ret2
        rw [HN.out]
        exact ⟨rfl, hE⟩
end Go.Proofs.Ytjpmabdnaooglaa

namespace Go.Proofs.Ytjpmabdnaooglaa
open Go.RowKit Len Can

set_option maxHeartbeats 2000000 in
set_option maxRecDepth 100000 in
theorem refCheck_any (A : Option Addr) (n c : Nat) (l : List UInt8) (w : World) (h : Bytes w w.heap.size A n l) : Calls Try.prog 28 #[.slice A n c] w fun e w' => e = .returned (.int .i64 (checkE l)) ∧ Ext w w' := by
  have hl := h.1
  subst hl
  have C1 := refKraft_any A l.length c l w h
  by_cases hk : (kraftE l).2 = 0
  · have HR := hide (show ∀ r : Prop, ((usedC l l.length = 0 ∨ usedC l l.length = 1 ∧ oneC l l.length = 1 ∨ (kraftE l).1 = 32768) ↔ r) → (r → checkE l = 0) ∧ (¬ r → checkE l = 7) from fun r hr => ⟨fun h => check_right (decide_eq_true ⟨hk, hr.2 h⟩), fun h => check_wrong (decide_eq_false fun h2 => h (hr.1 h2.2))⟩)
    obtain ⟨h300, _, hkw⟩ := kraft_ok hk
    have HU := hide (show ∀ i, usedC l (i + 1) = usedC l i + if lenAt l i = 0 then 0 else 1 from fun _ => rfl)
    have HO := hide (show ∀ i, oneC l (i + 1) = oneC l i + if lenAt l i = 1 then 1 else 0 from fun _ => rfl)
    have HU0 := hide (show usedC l 0 = 0 from rfl)
    have HO0 := hide (show oneC l 0 = 0 from rfl)
    unfold TellsI at C1
    rw [hk] at C1
    clear hk hkw
    generalize (kraftE l).1 = kw at *
    generalize hck : checkE l = ck at *
    clear hck
    go_enter Try.func28, Try.ntmps28
    go_wp2_with fail
    refine C1.mono ?_
    rintro e w2 ⟨rfl, hE⟩
    clear C1
    go_wp2_with fail
    go_loopw [5, 6, 7] (fun a b d wr => ∃ i u o : Nat, i ≤ l.length ∧ d = .int .i64 (i : Int) ∧ a = .int .i64 (u : Int) ∧ b = .int .i64 (o : Int) ∧ u = usedC l i ∧ o = oneC l i ∧ u ≤ i ∧ o ≤ i ∧ Ext w wr) (fun _ _ d _ => l.length - (intOf d).toNat)
    case atStart => exact ⟨0, 0, 0, Nat.zero_le _, rfl, rfl, rfl, HU0.out.symm, HO0.out.symm, Nat.le_refl _, Nat.le_refl _, hE⟩
    case round =>
      obtain ⟨i, u, o, hi, rfl, rfl, rfl, hu, ho, hui, hoi, hE2⟩ := hrel
      by_cases hlt : i < l.length
      · rcases (hE2.bytes h).2 with h0 | ⟨b, off, rfl, hB, hc⟩
        · omega
        have hk := hc i hlt
        have hU := HU.out i
        have hO := HO.out i
        unfold lenAt at hU hO
        rw [← hu] at hU
        rw [← ho] at hO
        have hyl := UInt8.toNat_lt (l.getD i 0)
        obtain ⟨y, hy⟩ : ∃ y, y = (l.getD i 0).toNat := ⟨_, rfl⟩
        rw [← hy] at hk hU hO hyl
        have hil : (i : Int) < (l.length : Int) := by omega
        clear hc hy hu ho h
        by_cases y0 : y = 0
        · rw [if_pos y0] at hU
          rw [if_neg (by omega)] at hO
          have HU2 := hide hU
          have HO2 := hide hO
          subst y0
          clear hU hO
          go_wp2
          go_roundw
          case rel => exact ⟨i + 1, u, o, by omega, by go_num, rfl, rfl, HU2.out.symm, HO2.out.symm, by omega, by omega, hE2⟩
          case measure => simp [intOf]; omega
        · rw [if_neg y0] at hU
          have hy0 : (0 : Int) < (y : Int) := by omega
          by_cases y1 : y = 1
          · rw [if_pos y1] at hO
            have HU2 := hide hU
            have HO2 := hide hO
            subst y1
            clear hU hO
            go_wp2
            go_roundw
            case rel => exact ⟨i + 1, u + 1, o + 1, by omega, by go_num, by go_num, by go_num, HU2.out.symm, HO2.out.symm, by omega, by omega, hE2⟩
            case measure => simp [intOf]; omega
          · rw [if_neg y1] at hO
            have HU2 := hide hU
            have HO2 := hide hO
            have hyb : ((y : Int) == 1) = false := by rw [beq_eq_false_iff_ne]; omega
            clear hU hO
            go_wp2
            go_roundw
            case rel => exact ⟨i + 1, u + 1, o, by omega, by go_num, by go_num, rfl, HU2.out.symm, HO2.out.symm, by omega, by omega, hE2⟩
            case measure => simp [intOf]; omega
      · obtain rfl : l.length = i := by omega
        have HRu := hide (HR.out (u = 0 ∨ u = 1 ∧ o = 1 ∨ kw = 32768) (by rw [hu, ho]))
        clear hu ho h
        by_cases u0 : u = 0
        · have HK := hide (HRu.out.1 (.inl u0))
          subst u0
          clear HRu
          go_wp2
          go_ret
          exact ⟨ret_i64 HK.out.symm, hE2⟩
        · have hub : ((u : Int) == 0) = false := by rw [beq_eq_false_iff_ne]; omega
          by_cases hk : kw = 32768
          · have HK := hide (HRu.out.1 (.inr (.inr hk)))
            subst hk
            by_cases u1 : u = 1
            · subst u1
              by_cases o1 : o = 1
              · subst o1
                clear HRu
                go_wp2
                go_ret
                exact ⟨ret_i64 HK.out.symm, hE2⟩
              · have hob : ((o : Int) == 1) = false := by rw [beq_eq_false_iff_ne]; omega
                clear HRu
                go_wp2
                go_ret
                exact ⟨ret_i64 HK.out.symm, hE2⟩
            · have hu1 : ((u : Int) == 1) = false := by rw [beq_eq_false_iff_ne]; omega
              clear HRu
              go_wp2
              go_ret
              exact ⟨ret_i64 HK.out.symm, hE2⟩
          · have hkb : ((kw : Int) == 32768) = false := by rw [beq_eq_false_iff_ne]; omega
            by_cases u1 : u = 1
            · subst u1
              by_cases o1 : o = 1
              · have HK := hide (HRu.out.1 (.inr (.inl ⟨rfl, o1⟩)))
                subst o1
                clear HRu
                go_wp2
                go_ret
                exact ⟨ret_i64 HK.out.symm, hE2⟩
              · have HK := hide (HRu.out.2 (by omega))
                have hob : ((o : Int) == 1) = false := by rw [beq_eq_false_iff_ne]; omega
                clear HRu
                go_wp2
                go_ret
                exact ⟨ret_i64 HK.out.symm, hE2⟩
            · have HK := hide (HRu.out.2 (by omega))
              have hu1 : ((u : Int) == 1) = false := by rw [beq_eq_false_iff_ne]; omega
              clear HRu
              go_wp2
              go_ret
              exact ⟨ret_i64 HK.out.symm, hE2⟩
  · have HN := hide (show checkE l = 7 from check_wrong (decide_eq_false fun h2 => hk h2.1))
    have h13 : (kraftE l).2 = 13 := by
      unfold kraftE at hk ⊢
      split at hk
      · exact absurd rfl hk
      · rename_i h2
        rw [if_neg h2]
    unfold TellsI at C1
    rw [h13] at C1
    generalize (kraftE l).1 = kw at *
    generalize checkE l = ck at *
    clear hk h13 h
    go_enter Try.func28, Try.ntmps28
    go_wp2_with fail
    refine C1.mono ?_
    rintro e w2 ⟨rfl, hE⟩
    go_wp2
    go_ret
    exact ⟨ret_i64 HN.out.symm, hE⟩
end Go.Proofs.Ytjpmabdnaooglaa

namespace Go.Proofs.Ytjpmabdnaooglaa
open Go.RowKit Len Can

/-- Behind a call that tells words and an error. -/
def TellsH (w : World) (r : List Nat × Int) (e : Ending) (w' : World) : Prop := ∃ v, e = .returned (.tuple #[v, .int .i64 r.2]) ∧ OwnH w' w.heap.size v r.1 ∧ Ext w w'

set_option maxHeartbeats 4000000 in
set_option maxRecDepth 100000 in
theorem refCodes_any (A : Option Addr) (n c : Nat) (l : List UInt8) (w : World) (h : Bytes w w.heap.size A n l) : Calls Try.prog 34 #[.slice A n c] w (TellsH w (codesE l)) := by
  have hl := h.1
  subst hl
  have C1 := refCheck_any A l.length c l w h
  cases hr : right l with
  | false =>
    have HN := hide (show codesE l = ([], 7) by unfold codesE; rw [hr]; rfl)
    rw [check_wrong hr] at C1
    generalize codesE l = res at *
    clear hr h
    go_enter Try.func34, Try.ntmps34
    go_wp2_with fail
    refine C1.mono ?_
    rintro e w2 ⟨rfl, hE⟩
    go_wp2
    go_ret2
    rw [HN.out]
    exact ⟨_, rfl, OwnH.nil _ _, hE⟩
  | true =>
    have HN := hide (show codesE l = (codesL l, 0) by unfold codesE; rw [hr]; rfl)
    rw [check_right hr] at C1
    obtain ⟨h300, h15, _⟩ := right_facts hr
    have HR := hide hr
    have H15 := hide h15
    have HSt := hide (Words.start (l := l))
    generalize codesE l = res at *
    clear hr h15
    obtain ⟨N, hN⟩ : ∃ N, N = l.length := ⟨_, rfl⟩
    have HNl := hide hN
    rw [← hN] at C1 h300 ⊢
    rw [← hN] at h
    have HB := hide h
    clear hN h
    go_enter Try.func34, Try.ntmps34
    go_wp2_with fail
    refine C1.mono ?_
    rintro e w2 ⟨rfl, hE⟩
    clear C1
    go_wp2_with fail
    go_loopw [4, 5] (fun a b wr => ∃ k : Nat, k ≤ N ∧ b = .int .i64 (k : Int) ∧ OwnH wr w.heap.size a (List.replicate k 0) ∧ Ext w wr) (fun _ b _ => N - (intOf b).toNat)
    case atStart => exact ⟨0, by omega, rfl, OwnH.nil _ _, hE⟩
    case round =>
      obtain ⟨k, hk, rfl, hO, hE2⟩ := hrel
      by_cases hkj : k < N
      · have hkI : (k : Int) < (N : Int) := by omega
        have hEa := extNew wr (.cells #[.int .u16 0] 90)
        have hOa := hO.ext hEa
        have hsb := hE2.le
        have hl0 : (List.replicate k (0 : Nat)).length ≤ 1000 := by simp; omega
        go_wp2_with (at_builtin; refine wpList_appH rfl (.tmp 21) (.tmp 22) rfl rfl 0 hOa rfl hl0 hsb ?_; intro v5 w5 hO5 hG5)
        have hE5 : Ext w w5 := Below.grown (hE2.trans hEa) hG5 (hE2.trans hEa).le (fun k hk => (hO.lt k hk).1)
        have e : List.replicate k (0 : Nat) ++ [0] = List.replicate (k + 1) 0 := List.replicate_succ'.symm
        rw [e] at hO5
        go_roundw
        case rel => exact ⟨k + 1, by omega, by go_num, hO5, hE5⟩
        case measure => simp [intOf]; omega
      · obtain rfl : N = k := by omega
        clear hkj hk
        have hst := HSt.out
        rw [← HNl.out] at hst
        obtain ⟨Z, hZ⟩ : ∃ Z, Z = List.replicate N (0 : Nat) := ⟨_, rfl⟩
        have hZl : Z.length = N := by rw [hZ]; simp
        rw [← hZ] at hO hst
        obtain ⟨Av, cv, rfl, hcv, _, hav⟩ := hO.form
        rw [hZl] at hcv ⊢
        have HO := hide hO
        have HS := hide hst
        have HZl := hide hZl
        clear hZ hO hst hZl
        obtain ⟨wa, rfl⟩ : ∃ W, W = wr := ⟨_, rfl⟩
        go_wp2_with fail
        go_loopw [6, 7, 8, 9] (fun a b d x wq => ∃ (k nx was : Nat) (any : Bool) (O : List Nat), 1 ≤ k ∧ k ≤ 16 ∧ x = .int .i64 (k : Int) ∧ a = .int .i64 (nx : Int) ∧ b = .int .i64 (was : Int) ∧ d = .bool any ∧ Words l k 0 nx was any O ∧ OwnH wq w.heap.size (.slice Av N cv) O ∧ Ext w wq) (fun _ _ _ x _ => 17 - (intOf x).toNat)
        case atStart => exact ⟨1, 0, 0, false, Z, by omega, by omega, rfl, rfl, rfl, rfl, HS.out, by have := HO.out; rw [HZl.out] at this; exact this, hE2⟩
        case round =>
          obtain ⟨k, nx, was, any, O, hk1, hk16, rfl, rfl, rfl, rfl, hW, hO, hE3⟩ := hrel
          by_cases hk15 : k ≤ 15
          · have hkI : (k : Int) ≤ 15 := by omega
            have HW0 := hide hW
            have HO0 := hide hO
            obtain ⟨wb, rfl⟩ : ∃ W, W = wr := ⟨_, rfl⟩
            clear hW hO
            go_wp2_with fail
            go_loopw [6, 7, 8, 10] (fun a b d x wq => ∃ (s nx was : Nat) (any : Bool) (O : List Nat), s ≤ N ∧ x = .int .i64 (s : Int) ∧ a = .int .i64 (nx : Int) ∧ b = .int .i64 (was : Int) ∧ d = .bool any ∧ Words l k s nx was any O ∧ OwnH wq w.heap.size (.slice Av N cv) O ∧ Ext w wq) (fun _ _ _ x _ => N - (intOf x).toNat)
            case atStart => exact ⟨0, nx, was, any, O, Nat.zero_le _, rfl, rfl, rfl, rfl, HW0.out, HO0.out, hE3⟩
            case round =>
              clear HW0 HO0 hE3
              obtain ⟨s, nx, was, any, O, hs, rfl, rfl, rfl, rfl, hW, hO, hE3⟩ := hrel
              have hsm := hW.small HR.out
              have HW := hide hW
              have HO1 := hide hO
              by_cases hsN : s < N
              · have hsI : (s : Int) < (N : Int) := by omega
                rcases (hE3.bytes HB.out).2 with h0 | ⟨b, off, rfl, hbl, hc⟩
                · omega
                have hcell := hc s hsN
                have hy8 := UInt8.toNat_lt (l.getD s 0)
                obtain ⟨y, hy⟩ : ∃ y, y = lenAt l s := ⟨_, rfl⟩
                have hcl : wr.cell? ⟨b, off + s, none⟩ = some (.int .u8 (y : Int)) := by rw [hy]; exact hcell
                have hy8' : y < 256 := by rw [hy]; exact hy8
                have HY := hide hy
                clear hc hcell hy8 hy hW
                by_cases hyk : y = k
                · have hyb : ((y : Int) != (k : Int)) = false := by simp [hyk]
                  have HYk := hide hyk
                  clear hyk
                  have hput := HW.out.put hk1 hk15 (by rw [← HNl.out]; exact hsN) (by rw [← HY.out]; exact HYk.out)
                  have hpsm := hput.small HR.out
                  obtain ⟨gO, rfl, hgb, hgl⟩ : ∃ g, Av = some ⟨g, 0, none⟩ ∧ w.heap.size ≤ g ∧ g < wr.heap.size := by
                    obtain ⟨A9, c9, e9, _, _, h9⟩ := hO.form
                    simp only [Value.slice.injEq] at e9
                    obtain ⟨rfl, e10, rfl⟩ := e9
                    rcases h9 with h9 | ⟨g, e, hg⟩
                    · omega
                    · exact ⟨g, e, hg⟩
                  have hOl : O.length = N := by rw [HW.out.len, ← HNl.out]
                  rw [← hOl] at hO
                  obtain ⟨k1, k2⟩ := hO.cell (i := s) (by omega)
                  have hset := fun x => hO.set s x
                  rw [hOl] at hset
                  have HSet := hide hset
                  clear hset hO hOl
                  cases any with
                  | false =>
                    have hw16 : IntKind.u16.wrap (nx : Int) = (nx : Int) := by simp [IntKind.wrap, IntKind.bits, IntKind.signed]; omega
                    have hG := grown_setCell wr gO s (.int .u16 (nx : Int))
                    have HPut := hide hput
                    clear hput
                    go_wp2
                    go_roundw
                    case rel => exact ⟨s + 1, nx, k, true, O.set s nx, by omega, by go_num, rfl, rfl, rfl, HPut.out, HSet.out nx, Below.grown hE3 hG hE3.le (fun j hj => by cases hj; exact hgb)⟩
                    case measure => simp [intOf]; omega
                  | true =>
                    have hy3 := HW.out.yes rfl
                    have HPut := hide hput
                    have hwk : was ≤ k := hy3.2.2
                    have hw1 : 1 ≤ was := hy3.2.1
                    clear hput hy3
                    obtain ⟨wc, rfl⟩ : ∃ W, W = wr := ⟨_, rfl⟩
                    have HSm := hide (show ∀ j, j ≤ k → was ≤ j → (nx + 1) * 2 ^ (j - was) ≤ 32768 from fun j hj1 hj2 => by
                      have h1 : nextW true nx was k < 32768 := hpsm
                      unfold nextW at h1
                      rw [if_pos rfl] at h1
                      have h2 : 2 ^ (j - was) ≤ 2 ^ (k - was) := Nat.pow_le_pow_right (by omega) (by omega)
                      have h3 := Nat.mul_le_mul_left (nx + 1) h2
                      omega)
                    go_wp2_with fail
                    go_loopw [6, 11] (fun a x wq => ∃ j v : Nat, was ≤ j ∧ j ≤ k ∧ x = .int .i64 (j : Int) ∧ a = .int .i64 (v : Int) ∧ v = (nx + 1) * 2 ^ (j - was) ∧ wq = wc) (fun _ x _ => k - (intOf x).toNat)
                    case atStart => exact ⟨was, nx + 1, Nat.le_refl _, hwk, rfl, by go_num, by simp, rfl⟩
                    case round =>
                      obtain ⟨j, v, hj1, hj2, rfl, rfl, hv, rfl⟩ := hrel
                      have hvs : v ≤ 32768 := by rw [hv]; exact HSm.out j hj2 hj1
                      by_cases hjk : j < k
                      · have hjI : (j : Int) < (k : Int) := by omega
                        have HV := hide (show 2 * v = (nx + 1) * 2 ^ (j + 1 - was) by rw [hv, show j + 1 - was = (j - was) + 1 by omega, Nat.pow_succ, Nat.mul_comm 2, Nat.mul_assoc])
                        clear hv
                        go_wp2
                        go_roundw
                        case rel => exact ⟨j + 1, 2 * v, by omega, by omega, by go_num, by go_num, HV.out, trivial⟩
                        case measure => simp [intOf]; omega
                      · obtain rfl : j = k := by omega
                        have hv2 : v = nextW true nx was j := by unfold nextW; rw [if_pos rfl]; exact hv
                        have hP2 := HPut.out
                        rw [← hv2] at hP2
                        have HP2 := hide hP2
                        have hvl : v < 32768 := hP2.small HR.out
                        have hw16 : IntKind.u16.wrap (v : Int) = (v : Int) := by simp [IntKind.wrap, IntKind.bits, IntKind.signed]; omega
                        have hG := grown_setCell wr gO s (.int .u16 (v : Int))
                        clear hv hv2 hP2
                        go_wp2
                        go_roundw
                        case rel => exact ⟨s + 1, v, j, true, O.set s v, by omega, by go_num, rfl, rfl, rfl, HP2.out, HSet.out v, Below.grown hE3 hG hE3.le (fun j hj => by cases hj; exact hgb)⟩
                        case measure => simp [intOf]; omega
                · have hyb : ((y : Int) != (k : Int)) = true := by simp; omega
                  have HP := hide (HW.out.pass hk1 (by rw [← HNl.out]; exact hsN) (by rw [← HY.out]; exact hyk))
                  clear hO
                  go_wp2
                  go_roundw
                  case rel => exact ⟨s + 1, nx, was, any, O, by omega, by go_num, rfl, rfl, rfl, HP.out, HO1.out, hE3⟩
                  case measure => simp [intOf]; omega
              · have hs2 : s = N := by omega
                have hnI : ¬ (s : Int) < (N : Int) := by omega
                have hW2 := HW.out
                rw [hs2, HNl.out] at hW2
                have HP := hide hW2.turn
                clear hW2 hW hO hs2
                go_wp2
                go_roundw
                case rel => exact ⟨k + 1, nx, was, any, O, by omega, by omega, by go_num, rfl, rfl, rfl, HP.out, HO1.out, hE3⟩
                case measure => simp [intOf]; omega
          · obtain rfl : k = 16 := by omega
            have hOe := hW.all HR.out
            have HOe := hide hOe
            have HO1 := hide hO
            clear hW hO hOe
            go_wp2
            go_ret2
            rw [HN.out]
            exact ⟨_, rfl, by rw [← HOe.out]; exact HO1.out, hE3⟩
end Go.Proofs.Ytjpmabdnaooglaa

namespace Go.Proofs.Ytjpmabdnaooglaa
open Go.RowKit Len Can Huf

/-- A slice that reads as these numbers of 16 bits, its memory below block B. -/
def H16At (w : World) (B : Nat) (A : Option Addr) (n : Nat) (L : List Nat) : Prop :=
  L.length = n ∧ (n = 0 ∨ ∃ b off, A = some ⟨b, off, none⟩ ∧ b < B ∧ ∀ i, i < n → w.cell? ⟨b, off + i, none⟩ = some (.int .u16 ((L.getD i 0 : Nat) : Int)))
theorem H16At.below {w w' : World} {B C : Nat} {A : Option Addr} {n : Nat} {L : List Nat} (h : H16At w B A n L) (hb : Below C w w') (hC : B ≤ C) : H16At w' B A n L := by
  refine ⟨h.1, ?_⟩
  rcases h.2 with h0 | ⟨b, off, hA, hB, hc⟩
  · exact .inl h0
  · exact .inr ⟨b, off, hA, hB, fun i hi => by rw [hb.cell (p := ⟨b, off + i, none⟩) (Nat.lt_of_lt_of_le hB hC)]; exact hc i hi⟩
theorem H16At.mono {w : World} {B C : Nat} {A : Option Addr} {n : Nat} {L : List Nat} (h : H16At w B A n L) (hC : B ≤ C) : H16At w C A n L := by
  refine ⟨h.1, ?_⟩
  rcases h.2 with h0 | ⟨b, off, hA, hB, hc⟩
  · exact .inl h0
  · exact .inr ⟨b, off, hA, Nat.lt_of_lt_of_le hB hC, hc⟩
theorem OwnH.reads {w : World} {base : Nat} {v : Value} {L : List Nat} (h : OwnH w base v L) : ∃ A c, v = .slice A L.length c ∧ L.length ≤ c ∧ c ≤ maxLen ∧ H16At w w.heap.size A L.length L := by
  obtain ⟨A, c, rfl, hc, hm, hA⟩ := h.form
  refine ⟨A, c, rfl, hc, hm, rfl, ?_⟩
  rcases hA with h0 | ⟨g, rfl, hb, hg⟩
  · exact .inl h0
  · exact .inr ⟨g, 0, rfl, hg, fun i hi => by rw [Nat.zero_add]; exact (h.cell hi).1⟩

/-- The document's coder of right lengths, its memory below block B. -/
def RefCod (w : World) (B : Nat) (v : Value) (l : List UInt8) : Prop :=
  ∃ A1 c1 A2 c2, v = .agg #[.slice A1 l.length c1, .slice A2 l.length c2] ∧ l.length ≤ c1 ∧ c1 ≤ maxLen ∧ Bytes w B A1 l.length l ∧ H16At w B A2 l.length (codesL l)
theorem RefCod.below {w w' : World} {B C : Nat} {v : Value} {l : List UInt8} (h : RefCod w B v l) (hb : Below C w w') (hC : B ≤ C) : RefCod w' B v l := by
  obtain ⟨A1, c1, A2, c2, e, h1, h2, h3, h4⟩ := h
  exact ⟨A1, c1, A2, c2, e, h1, h2, h3.below hb hC, h4.below hb hC⟩
theorem RefCod.mono {w : World} {B C : Nat} {v : Value} {l : List UInt8} (h : RefCod w B v l) (hC : B ≤ C) : RefCod w C v l := by
  obtain ⟨A1, c1, A2, c2, e, h1, h2, h3, h4⟩ := h
  exact ⟨A1, c1, A2, c2, e, h1, h2, h3.mono hC, h4.mono hC⟩
theorem RefCod.ext {w w' : World} {v : Value} {l : List UInt8} (h : RefCod w w.heap.size v l) (hE : Ext w w') : RefCod w' w'.heap.size v l := (h.below hE (Nat.le_refl _)).mono hE.le
/-- What the document's New tells. -/
def RefNew (w : World) (l : List UInt8) (e : Ending) (w' : World) : Prop :=
  ∃ v, e = .returned (.tuple #[v, .int .i64 (checkE l)]) ∧ (right l = true → RefCod w' w'.heap.size v l) ∧ (right l = false → v = .agg #[.slice none 0 0, .slice none 0 0]) ∧ Ext w w'
/-- The document's coder of right lengths, its memory in the call's own blocks from lo to below hi. -/
def RefCodR (w : World) (lo hi : Nat) (v : Value) (l : List UInt8) : Prop :=
  ∃ A1 c1 A2 c2, v = .agg #[.slice A1 l.length c1, .slice A2 l.length c2] ∧ OwnB w lo (.slice A1 l.length c1) l ∧ OwnH w lo (.slice A2 l.length c2) (codesL l) ∧
    (∀ k, Value.ownBlock (.slice A1 l.length c1) = some k → k < hi) ∧ (∀ k, Value.ownBlock (.slice A2 l.length c2) = some k → k < hi)
theorem RefCodR.mod {w w' : World} {lo hi g : Nat} {ob : Option Nat} {v : Value} {l : List UInt8} (h : RefCodR w lo hi v l) (hM : Mod w w' g ob) (hg : g < lo ∨ hi ≤ g) (ho : ∀ k, ob = some k → k < lo ∨ hi ≤ k) : RefCodR w' lo hi v l := by
  obtain ⟨A1, c1, A2, c2, e, h1, h2, h3, h4⟩ := h
  have far : ∀ x : Value, (∀ k, x.ownBlock = some k → lo ≤ k ∧ k < hi) → x.ownBlock ≠ some g ∧ (x.ownBlock = none ∨ x.ownBlock ≠ ob) := fun x hx => by
    refine ⟨fun e => by have := hx g e; omega, ?_⟩
    cases hv : x.ownBlock with
    | none => exact .inl rfl
    | some k =>
      refine .inr fun e => ?_
      have := hx k hv
      have := ho k e.symm
      omega
  obtain ⟨a1, a2⟩ := far _ (fun k hk => ⟨(h1.lt k hk).1, h3 k hk⟩)
  obtain ⟨b1, b2⟩ := far _ (fun k hk => ⟨(h2.lt k hk).1, h4 k hk⟩)
  refine ⟨A1, c1, A2, c2, e, hM.own h1 a1 a2, ⟨h2.1, ?_⟩, h3, h4⟩
  rcases h2.2 with hn | ⟨x, cap, cur, e2, hb, hgg, rest⟩
  · exact .inl hn
  · rw [e2] at b1 b2
    refine .inr ⟨x, cap, cur, e2, hb, ?_, rest⟩
    rw [hM.block x (Array.getElem?_eq_some_iff.1 hgg).1 (fun e3 => b1 (by subst e3; rfl)) (fun e3 => by
      rcases b2 with b2 | b2
      · simp [Value.ownBlock] at b2
      · exact b2 (by simpa [Value.ownBlock] using e3))]
    exact hgg
theorem RefCodR.ext {w w' : World} {lo hi : Nat} {v : Value} {l : List UInt8} (h : RefCodR w lo hi v l) (hE : Ext w w') : RefCodR w' lo hi v l := by
  obtain ⟨A1, c1, A2, c2, e, h1, h2, h3, h4⟩ := h
  exact ⟨A1, c1, A2, c2, e, h1.ext hE, h2.ext hE, h3, h4⟩
/-- What the document's New tells; where its coder lies. -/
def RefNewR (w : World) (l : List UInt8) (e : Ending) (w' : World) : Prop :=
  ∃ v, e = .returned (.tuple #[v, .int .i64 (checkE l)]) ∧ (right l = true → RefCodR w' w.heap.size w'.heap.size v l) ∧ (right l = false → v = .agg #[.slice none 0 0, .slice none 0 0]) ∧ Ext w w'
theorem Can.codesL_len (l : List UInt8) : (codesL l).length = l.length := by simp [codesL]
theorem Can.codesL_at {l : List UInt8} {i : Nat} (hi : i < l.length) : (codesL l).getD i 0 = word l i := by simp [codesL, List.getD_eq_getElem?_getD, hi]
theorem RefCodR.cod {w : World} {lo hi : Nat} {v : Value} {l : List UInt8} (h : RefCodR w lo hi v l) : RefCod w w.heap.size v l := by
  obtain ⟨A1, c1, A2, c2, e, h1, h2, _, _⟩ := h
  obtain ⟨A7, c7, e7, h7c, h7m, h7⟩ := h1.form
  simp only [Value.slice.injEq] at e7
  obtain ⟨rfl, _, rfl⟩ := e7
  obtain ⟨A8, c8, e8, _, _, h8⟩ := OwnH.reads h2
  simp only [Value.slice.injEq] at e8
  obtain ⟨rfl, _, rfl⟩ := e8
  rw [codesL_len] at h8
  exact ⟨_, _, _, _, e, h7c, h7m, h7, h8⟩
end Go.Proofs.Ytjpmabdnaooglaa

