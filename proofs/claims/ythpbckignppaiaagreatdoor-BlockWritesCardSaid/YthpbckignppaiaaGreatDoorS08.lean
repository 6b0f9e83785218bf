/- The program's writer of tokens: putCode, writerOf. The program's writer of tokens: putPiece. The program's writer of tokens: Write. The program's frames: squeeze, Write. Rows of numbers of the call's own (as XOwnL, without the texts of matrices). Lists of items: weights with rows of numbers, as the document's Lens has them. The document's merge of chapter 7. Appends of parts of lists of items; rows of numbers put together; the place where an item is put. Parts of lists of items, ahead of the document's Lens of chapter 7: slices of them, new items. -/
import Derived.Test.YthpbckignppaiaaGreatDoorS01
import Derived.Test.YthpbckignppaiaaGreatDoorS02
import Derived.Test.YthpbckignppaiaaGreatDoorS03
import Derived.Test.YthpbckignppaiaaGreatDoorS04
import Derived.Test.YthpbckignppaiaaGreatDoorS05
import Derived.Test.YthpbckignppaiaaGreatDoorS06
import Derived.Test.YthpbckignppaiaaGreatDoorS07
import Derived.StillTailTactics
import Derived.Deep.DeepCutAuto
import Derived.Laws.OwnMore
import Derived.Maps.AppendAt
import Derived.Deep.QuietTactic
import Derived.BigQuiet
namespace Go.Proofs.YthpbckignppaiaaGreatDoor
open Go.RowKit Lz Tok Len Can Huf
theorem WrtX.set2 {t : TypeId} {a b u : Value} {w : World} {base g : Nat} {ob : Option Nat} {B : List Bool} (h : WrtX t [a, b] w base g ob B) : WrtX t [u, b] (w.setCell ⟨g, 2, none⟩ u) base g ob B := by
  obtain ⟨v, l, ⟨hW, hO, hne, hb⟩, hP, rfl⟩ := h
  refine ⟨v, l, ⟨?_, hO.far hne 2 u, hne, hb⟩, hP, rfl⟩
  have := hW.set 2 u
  simpa using this
theorem WrtX.set3 {t : TypeId} {a b u : Value} {w : World} {base g : Nat} {ob : Option Nat} {B : List Bool} (h : WrtX t [a, b] w base g ob B) : WrtX t [a, u] (w.setCell ⟨g, 3, none⟩ u) base g ob B := by
  obtain ⟨v, l, ⟨hW, hO, hne, hb⟩, hP, rfl⟩ := h
  refine ⟨v, l, ⟨?_, hO.far hne 3 u, hne, hb⟩, hP, rfl⟩
  have := hW.set 3 u
  simpa using this
theorem WrtX.ptrs {t : TypeId} {a b : Value} {w : World} {base g : Nat} {ob : Option Nat} {B : List Bool} (h : WrtX t [a, b] w base g ob B) : w.cell? ⟨g, 2, none⟩ = some a ∧ w.cell? ⟨g, 3, none⟩ = some b ∧ w.frozen? ⟨g, 2, none⟩ = false ∧ w.frozen? ⟨g, 3, none⟩ = false := by
  obtain ⟨v, l, ⟨hW, _⟩, _⟩ := h
  exact ⟨hW.at 2 (by simp), hW.at 3 (by simp), hW.frozen 2, hW.frozen 3⟩
def CodeTo (R : List Value) (W : World) (base g : Nat) (ob : Option Nat) (B : List Bool) (l : List UInt8) (e : Ending) (w' : World) : Prop :=
  ∃ cg lo ob', e = .returned (.pointer (some ⟨cg, 0, none⟩)) ∧ CodR w' lo w'.heap.size cg l ∧ W.heap.size ≤ lo ∧ (∀ k, ob' = some k → k < lo) ∧ WrtX 75 R w' base g ob' (B ++ wbits l) ∧ NewOb W ob ob' ∧ Mod W w' g ob
set_option maxHeartbeats 1000000 in
set_option maxRecDepth 100000 in
theorem putCode_any {R : List Value} {W : World} {base g : Nat} {ob : Option Nat} {B : List Bool} (hW : WrtX 75 R W base g ob B) (often : List Nat) (A : Option Addr) (n c : Nat) (hn : n ≤ c) (hc : c ≤ maxLen) (ho : often.length ≤ 300) (hU : U32At W W.heap.size A n often) (hB : B.length ≤ 100000) :
    Calls Tryz.prog 48 #[.pointer (some ⟨g, 0, none⟩), .slice A n c] W (CodeTo R W base g ob B (lensL often 15)) := by
  have C1 := lensC_any W often 15 A n c W (Ext.refl W) hn hc hU (by omega) (by omega)
  rw [lens_found ho] at C1
  have hr := right_lens (often := often) ho
  have hll : (lensL often 15).length ≤ 300 := by rw [lensL_len]; omega
  have hgl := hW.lt
  have hob := hW.ob
  have HW := hide hW
  generalize lensL often 15 = l at *
  clear hU hW ho
  unfold TellsB at C1
  dsimp only at C1
  go_enter Tryz.func48, Tryz.ntmps48
  go_wp2_with fail
  refine C1.mono ?_
  rintro e w1 ⟨v1, rfl, hV1, hE1⟩
  have hW1 := HW.out.ext hE1
  have hkeep : ∀ W', Mod w1 W' g ob → OwnB W' W.heap.size v1 l := fun W' hM => hM.own hV1 (fun e => by have := (hV1.lt g e).1; omega) (by
    cases hv : v1.ownBlock with
    | none => exact .inl rfl
    | some k =>
      refine .inr fun e => ?_
      have h1 := (hV1.lt k hv).1
      have h2 := (hob k e.symm).2
      omega)
  obtain ⟨A1, c1, rfl, hc1, hcm, _⟩ := hV1.form
  have hBy : ∀ W', Mod w1 W' g ob → Bytes W' W'.heap.size A1 l.length l := fun W' hM => (hkeep W' hM).at rfl
  have C2 := writeX_any l A1 l.length c1 w1 base g ob B hc1 hcm hBy hW1 hB
  rw [if_pos hr, check_right hr] at C2
  have HBy := hide hBy
  clear hBy hkeep hV1 C1 hW1
  go_wp2_with fail
  refine C2.mono ?_
  rintro e w2 ⟨rfl, ob2, hW2, hN2, hM2⟩
  have C3 := hufNew_any A1 l.length c1 l w2 hc1 (HBy.out w2 hM2)
  have hob2 := hW2.ob
  have HW2 := hide hW2
  have HR := hide hr
  clear C2 hW2 hr
  go_wp2_with fail
  refine C3.mono ?_
  rintro e w3 ⟨hyes, _, hE3⟩
  obtain ⟨cg, rfl, hC⟩ := hyes HR.out
  clear hyes C3
  go_wp2
  go_ret
  have hMW := (Mod.ofExt (g := g) (ob := ob) hE1)
  refine ⟨cg, w2.heap.size, ob2, rfl, hC, Nat.le_trans hE1.le hM2.size, fun k hk => (hob2 k hk).2, HW2.out.ext hE3, (NewOb.same W ob).trans hE1.le hN2, (hMW.trans hM2 (.inl rfl)).trans (Mod.ofExt (ob := ob2) hE3) ((NewOb.same W ob).trans hE1.le hN2)⟩
def WriterTo (W : World) (x y : List UInt8) (e : Ending) (w' : World) : Prop :=
  ∃ g c1 c2 lo1 hi1 lo2 hi2 ob, e = .returned (.pointer (some ⟨g, 0, none⟩)) ∧ WrtX 75 [.pointer (some ⟨c1, 0, none⟩), .pointer (some ⟨c2, 0, none⟩)] w' W.heap.size g ob (wbits x ++ wbits y) ∧
    CodR w' lo1 hi1 c1 x ∧ CodR w' lo2 hi2 c2 y ∧ g < lo1 ∧ g < lo2 ∧ (∀ k, ob = some k → k < lo1 ∨ hi1 ≤ k) ∧ (∀ k, ob = some k → k < lo2 ∨ hi2 ≤ k) ∧ Ext W w'
set_option maxHeartbeats 1000000 in
set_option maxRecDepth 100000 in
theorem writerOf_any (W : World) (s1 s2 : List Nat) (A1 A2 : Option Addr) (h1 : s1.length = 265) (h2 : s2.length = 12) (hU1 : U32At W W.heap.size A1 265 s1) (hU2 : U32At W W.heap.size A2 12 s2) :
    Calls Tryz.prog 30 #[.slice A1 265 265, .slice A2 12 12] W (WriterTo W (lensL s1 15) (lensL s2 15)) := by
  have hE0 := extNew W (.cells #[.slice none 0 0, .int .i64 0, .pointer none, .pointer none] 75)
  have hW0 : WrtX 75 [.pointer none, .pointer none] (W.alloc (.cells #[.slice none 0 0, .int .i64 0, .pointer none, .pointer none] 75)) W.heap.size W.heap.size none [] :=
    ⟨.slice none 0 0, [], ⟨Whole.new W _ _, OwnB.nil _ _, by simp [Value.ownBlock], Nat.le_refl _⟩, Bit.Packs.nil, rfl⟩
  have hl1 := wbits_len (lensL s1 15)
  have hl2 := wbits_len (lensL s2 15)
  rw [lensL_len, h1] at hl1
  rw [lensL_len, h2] at hl2
  have C1 := putCode_any hW0 s1 A1 265 265 (Nat.le_refl _) (by unfold maxLen; omega) (by omega) (hU1.ext hE0) (by simp)
  have HU2 := hide hU2
  clear hU1 hU2
  generalize lensL s1 15 = x at *
  generalize hy : lensL s2 15 = y at *
  go_enter Tryz.func30, Tryz.ntmps30
  go_wp2_with fail
  generalize W.alloc (.cells #[.slice none 0 0, .int .i64 0, .pointer none, .pointer none] 75) = w0 at *
  refine C1.mono ?_
  rintro e w1 ⟨cg1, lo1, ob1, rfl, hC1, hlo1, hob1, hW1, hN1, hM1⟩
  obtain ⟨p2, _, f2, _⟩ := hW1.ptrs
  rw [List.nil_append] at hW1
  have hg0 : W.heap.size < w0.heap.size := hW0.lt
  have hlh : lo1 < w1.heap.size := by have := hC1.1; have := hC1.2.1; omega
  have hM1s := (Mod.ofRow (ob := ob1) (grown_setCell w1 W.heap.size 2 (.pointer (some ⟨cg1, 0, none⟩))))
  have hC1s := CodR.keeps.mod hC1 hM1s (.inl (by omega)) (fun k hk => .inl (hob1 k hk))
  have hW1s := hW1.set2 (u := .pointer (some ⟨cg1, 0, none⟩))
  have hMs : Mod w0 (w1.setCell ⟨W.heap.size, 2, none⟩ (.pointer (some ⟨cg1, 0, none⟩))) W.heap.size none := hM1.trans hM1s hN1
  have hE1 : Ext W (w1.setCell ⟨W.heap.size, 2, none⟩ (.pointer (some ⟨cg1, 0, none⟩))) := Below.trans hE0 (hMs.below (B := W.heap.size) hE0.le (Nat.le_refl _) (fun k hk => by cases hk))
  have C2 := putCode_any hW1s s2 A2 12 12 (Nat.le_refl _) (by unfold maxLen; omega) (by omega) (HU2.out.ext hE1) (by omega)
  rw [hy] at C2
  have hsz : (w1.setCell ⟨W.heap.size, 2, none⟩ (.pointer (some ⟨cg1, 0, none⟩))).heap.size = w1.heap.size := by simp
  have HW1 := hide hW1s
  have HC1 := hide hC1s
  have HE1 := hide hE1
  clear C1 hC1 hW1 hM1 hM1s hC1s hW1s hMs hE1 HU2 hN1
  go_wp2_with fail
  generalize w1.setCell ⟨W.heap.size, 2, none⟩ (.pointer (some ⟨cg1, 0, none⟩)) = w1s at *
  refine C2.mono ?_
  rintro e w2 ⟨cg2, lo2, ob2, rfl, hC2, hlo2, hob2, hW2, hN2, hM2⟩
  obtain ⟨_, p3, _, f3⟩ := hW2.ptrs
  have hob21 : ∀ k, ob2 = some k → k < lo1 ∨ w1.heap.size ≤ k := fun k hk => by
    rcases hN2 with e | ⟨n, e, hn⟩
    · exact .inl (hob1 k (e ▸ hk))
    · rw [hk] at e
      cases e
      exact .inr (by omega)
  have hC1b := CodR.keeps.mod HC1.out hM2 (.inl (by omega)) (fun k hk => .inl (hob1 k hk))
  have hM2s := (Mod.ofRow (ob := ob2) (grown_setCell w2 W.heap.size 3 (.pointer (some ⟨cg2, 0, none⟩))))
  have hC1c := CodR.keeps.mod hC1b hM2s (.inl (by omega)) hob21
  have hC2c := CodR.keeps.mod hC2 hM2s (.inl (by omega)) (fun k hk => .inl (hob2 k hk))
  have hW2s := hW2.set3 (u := .pointer (some ⟨cg2, 0, none⟩))
  have hE2 : Ext W (w2.setCell ⟨W.heap.size, 3, none⟩ (.pointer (some ⟨cg2, 0, none⟩))) := Below.trans HE1.out ((hM2.trans hM2s hN2).below (B := W.heap.size) HE1.out.le (Nat.le_refl _) (fun k hk => (HW1.out.ob k hk).1))
  have hlt2 : W.heap.size < lo2 := by omega
  have hlt1 : W.heap.size < lo1 := by omega
  have HW2 := hide hW2s
  have HC1c := hide hC1c
  have HC2c := hide hC2c
  have HE2 := hide hE2
  clear C2 hC2 hW2 hM2 hM2s hC1b hC1c hC2c hW2s hE2 hN2
  go_wp2
  go_ret
  exact ⟨W.heap.size, cg1, cg2, lo1, w1.heap.size, lo2, w2.heap.size, ob2, rfl, HW2.out, HC1c.out, HC2c.out, hlt1, hlt2, hob21, fun k hk => .inl (hob2 k hk), HE2.out⟩
end Go.Proofs.YthpbckignppaiaaGreatDoor

namespace Go.Proofs.YthpbckignppaiaaGreatDoor
open Go.RowKit Lz Tok Len Can Huf
def PieceTo (R : List Value) (W : World) (base g : Nat) (ob : Option Nat) (B : List Bool) (e : Ending) (w' : World) : Prop :=
  e = .returned (.tuple #[]) ∧ ∃ ob', WrtX 75 R w' base g ob' B ∧ NewOb W ob ob' ∧ Mod W w' g ob
theorem wrapU64 (x : Int) (h0 : 0 ≤ x) (h1 : x ≤ 18446744073709551615) : IntKind.u64.wrap x = x := by rw [IntKind.wrap_u64]; omega
theorem CodR.ext' {W W' : World} {lo hi g : Nat} {l : List UInt8} (h : CodR W lo hi g l) (hE : Ext W W') : CodR W' lo hi g l := CodR.keeps.ext h hE
set_option maxHeartbeats 1000000 in
set_option maxRecDepth 100000 in
theorem putPiece_lit {W : World} {base g c1 c2 lo1 hi1 : Nat} {ob : Option Nat} {B : List Bool} {x : List UInt8} (hW : WrtX 75 [.pointer (some ⟨c1, 0, none⟩), .pointer (some ⟨c2, 0, none⟩)] W base g ob B) (hC : CodR W lo1 hi1 c1 x) (hr : right x = true)
    (a b c d : Int) (ha : a < 257) (hB : B.length ≤ 700000000) :
    Calls Tryz.prog 32 #[.pointer (some ⟨g, 0, none⟩), pcV ⟨a, b, c, d⟩] W (PieceTo [.pointer (some ⟨c1, 0, none⟩), .pointer (some ⟨c2, 0, none⟩)] W base g ob (B ++ putX x a)) := by
  have hE1 := extNew W (.cells #[.int .i64 a, .int .i64 b, .int .i64 c, .int .i64 d] 56)
  have hP1 := Whole.new W 56 #[.int .i64 a, .int .i64 b, .int .i64 c, .int .i64 d]
  have hW1 := hW.ext hE1
  have hC1 := hC.ext' hE1
  have hgl := hW.lt
  have hob := hW.ob
  have CI := fun w => isMatch_any ⟨a, b, c, d⟩ w
  rw [decide_eq_false (show ¬ 257 ≤ a by omega)] at CI
  unfold pcV at *
  dsimp only at CI
  obtain ⟨q2, _, _, _⟩ := hW1.ptrs
  have q0 := hP1.at 0 (u := .int .i64 a) rfl
  have CP := hufPut_any (hC1.ext' (Ext.refl _).drew) hr (hW1.ext (Ext.refl _).drew) (by omega) a
  clear hW hC hC1 hW1
  generalize putX x a = X at *
  generalize putE x a = E at *
  have hs1 : (W.alloc (.cells #[.int .i64 a, .int .i64 b, .int .i64 c, .int .i64 d] 56)).heap.size = W.heap.size + 1 := by simp
  go_enter Tryz.func32, Tryz.ntmps32
  go_upto_region 1 with fail
  generalize W.alloc (.cells #[.int .i64 a, .int .i64 b, .int .i64 c, .int .i64 d] 56) = w1 at *
  go_wp2_with fail
  go_still_tail 9, (by kernel_rfl)
  change wpList _ _ _ _ _ (World.drew _)
  go_wp2_with fail
  refine CP.mono ?_
  rintro e w2 ⟨rfl, ob2, hW2, hN2, hM2⟩
  have hM2' : Mod W w2 g ob := (Mod.ofExt (hE1.trans (Ext.refl _).drew)).trans hM2 (.inl rfl)
  have hP1d : Whole w1.drew W.heap.size 56 #[.int .i64 a, .int .i64 b, .int .i64 c, .int .i64 d] := hP1.ext (Ext.refl _).drew
  have hP2 := hM2.whole hP1d (by omega) (fun e => by have := (hob _ e).2; omega)
  have hN2' : NewOb W ob ob2 := (NewOb.same W ob).trans (hE1.trans (Ext.refl _).drew).le hN2
  clear CP hM2 hN2 hP1 hP1d q0 q2
  go_wp2_with (refine wpList_load_row rfl 56 (.tmp 3) rfl _ rfl _ _ _ _ hP2 Tryz.underlying56 rfl pc_info ?_)
  refine (CI _).mono ?_
  rintro e w3 ⟨rfl, hE3⟩
  clear CI
  go_wp2
  go_end0
  exact ⟨rfl, ob2, hW2.ext hE3, hN2', hM2'.trans (Mod.ofExt (ob := ob2) hE3) hN2'⟩
set_option maxHeartbeats 1000000 in
set_option maxRecDepth 100000 in
theorem putPiece_match {W : World} {base g c1 c2 lo1 hi1 lo2 hi2 : Nat} {ob : Option Nat} {B : List Bool} {x y : List UInt8} (hW : WrtX 75 [.pointer (some ⟨c1, 0, none⟩), .pointer (some ⟨c2, 0, none⟩)] W base g ob B) (hC : CodR W lo1 hi1 c1 x) (hr : right x = true)
    (hD : CodR W lo2 hi2 c2 y) (hry : right y = true) (hg2 : g < lo2) (ho2 : ∀ k, ob = some k → k < lo2 ∨ hi2 ≤ k)
    (k v cn z : Nat) (hk : k ≤ 7) (hv : v < 2 ^ k) (hc : cn ≤ 11) (hz : z < 2 ^ cn) (hB : B.length ≤ 700000000) :
    Calls Tryz.prog 32 #[.pointer (some ⟨g, 0, none⟩), pcV ⟨257 + (k : Int), v, cn, z⟩] W (PieceTo [.pointer (some ⟨c1, 0, none⟩), .pointer (some ⟨c2, 0, none⟩)] W base g ob (B ++ putX x (257 + (k : Int)) ++ Bit.num v k ++ putX y (cn : Int) ++ Bit.num z cn)) := by
  have hkp := pow_top hk
  have hcp := pow_top hc
  have hXl := putX_le (l := x) (257 + (k : Int)) hr
  have hYl := putX_le (l := y) (cn : Int) hry
  have HXn := hide (put_num (x := v) (k := k) (by omega) hv)
  have HYn := hide (put_num (x := z) (k := cn) (by omega) hz)
  have hnl1 := Bit.num_length v k
  have CI := fun w => isMatch_any ⟨257 + (k : Int), v, cn, z⟩ w
  rw [decide_eq_true (show 257 ≤ 257 + (k : Int) by omega)] at CI
  have CL := fun w => lenBits_any ⟨257 + (k : Int), v, cn, z⟩ w (by dsimp only; omega) (by dsimp only; omega)
  unfold pcV at *
  dsimp only at CI CL
  rw [show 257 + (k : Int) - 257 = (k : Int) by omega] at CL
  have hgl := hW.lt
  have hob := hW.ob
  obtain ⟨a, ha⟩ : ∃ a : Int, a = 257 + (k : Int) := ⟨_, rfl⟩
  rw [← ha] at CI CL hXl ⊢
  have hv7 : v < 128 := by omega
  have hz11 : z < 2048 := by omega
  clear ha hv hz hkp hcp
  have hE1 := extNew W (.cells #[.int .i64 a, .int .i64 (v : Int), .int .i64 (cn : Int), .int .i64 (z : Int)] 56)
  have hP1 := Whole.new W 56 #[.int .i64 a, .int .i64 (v : Int), .int .i64 (cn : Int), .int .i64 (z : Int)]
  have hW1 := hW.ext hE1
  have hC1 := hC.ext' hE1
  have HD := hide hD
  obtain ⟨q2, _, _, _⟩ := hW1.ptrs
  have q0 := hP1.at 0 (u := .int .i64 a) rfl
  have CP := hufPut_any (hC1.ext' (Ext.refl _).drew) hr (hW1.ext (Ext.refl _).drew) (by omega) a
  clear hW hC hC1 hW1 hD
  generalize putX x a = X at *
  generalize putE x a = E at *
  have hs1 : (W.alloc (.cells #[.int .i64 a, .int .i64 (v : Int), .int .i64 (cn : Int), .int .i64 (z : Int)] 56)).heap.size = W.heap.size + 1 := by simp
  go_enter Tryz.func32, Tryz.ntmps32
  go_upto_region 1 with fail
  generalize W.alloc (.cells #[.int .i64 a, .int .i64 (v : Int), .int .i64 (cn : Int), .int .i64 (z : Int)] 56) = w1 at *
  go_wp2_with fail
  go_still_tail 9, (by kernel_rfl)
  change wpList _ _ _ _ _ (World.drew _)
  go_wp2_with fail
  refine CP.mono ?_
  rintro e w2 ⟨rfl, ob2, hW2, hN2, hM2⟩
  have hM2' : Mod W w2 g ob := (Mod.ofExt (hE1.trans (Ext.refl _).drew)).trans hM2 (.inl rfl)
  have hP1d : Whole w1.drew W.heap.size 56 #[.int .i64 a, .int .i64 (v : Int), .int .i64 (cn : Int), .int .i64 (z : Int)] := hP1.ext (Ext.refl _).drew
  have hP2 := hM2.whole hP1d (by omega) (fun e => by have := (hob _ e).2; omega)
  have hN2' : NewOb W ob ob2 := (NewOb.same W ob).trans (hE1.trans (Ext.refl _).drew).le hN2
  have hoP : ∀ k', ob2 = some k' → k' ≠ W.heap.size := fun k' hk' => by
    rcases hN2 with e | ⟨n, e, hn⟩
    · have := (hob k' (e ▸ hk')).2
      omega
    · rw [hk'] at e
      cases e
      have : w1.drew.heap.size = W.heap.size + 1 := hs1
      omega
  have HoP := hide hoP
  clear CP hM2 hN2 hP1 hP1d q0 q2 hE1 hoP
  go_wp2_with (refine wpList_load_row rfl 56 (.tmp 3) rfl _ rfl _ _ _ _ hP2 Tryz.underlying56 rfl pc_info ?_)
  refine (CI _).mono ?_
  rintro e w4 ⟨rfl, hE4⟩
  have hP4 := hP2.ext hE4
  have hW4 := hW2.ext hE4
  have hM4 := hM2'.trans (Mod.ofExt (ob := ob2) hE4) hN2'
  have HM4 := hide hM4
  have HN4 := hide hN2'
  have HW4 := hide hW4
  clear CI hP2 hW2 hM2' hN2' hE4 hW4 hM4
  have hgH : W.heap.size ≠ g := by omega
  have hHl : W.heap.size < w4.heap.size := hP4.lt
  generalize W.heap.size = H at hP4 hgH HoP hHl ⊢
  go_wp2_with fail
  refine wp_region_T (fun W => Ext w4 W) 8 9 #[false, false, false, false, false, false, false, false, false] (by kernel_rfl) rfl rfl (Ext.refl w4).drew ?_
  intro hS0
  refine wpAnyT_take 0 (some 16) (.pointer (some ⟨g, 0, none⟩)) #[true, false, false, false, false, false, false, false, false] rfl rfl rfl (by kernel_rfl) (fun _ _ _ h => h) hS0 (by rfl) (fun W hX => by go_simp) ?_
  simp only [Act.put, List.setIfInBounds_toArray, List.set_cons_zero, List.set_cons_succ]
  refine wpAnyT_take 1 (some 17) (.pointer (some ⟨g, 0, none⟩)) #[true, true, false, false, false, false, false, false, false] rfl rfl rfl (by kernel_rfl) (fun _ _ _ h => h) hS0 (by rfl) (fun W hX => by go_simp) ?_
  simp only [Act.put, List.setIfInBounds_toArray, List.set_cons_zero, List.set_cons_succ]
  refine wpAnyT_take 2 (some 18) (.pointer (some ⟨g, 0, none⟩)) #[true, true, true, false, false, false, false, false, false] rfl rfl rfl (by kernel_rfl) (fun _ _ _ h => h) hS0 (by rfl) (fun W hX => by go_simp) ?_
  simp only [Act.put, List.setIfInBounds_toArray, List.set_cons_zero, List.set_cons_succ]
  refine wpAnyT_take 3 (some 19) (.pointer (some ⟨H, 1, none⟩)) #[true, true, true, true, false, false, false, false, false] rfl rfl rfl (by kernel_rfl) (fun _ _ _ h => h) hS0 (by rfl) (fun W hX => by go_simp) ?_
  simp only [Act.put, List.setIfInBounds_toArray, List.set_cons_zero, List.set_cons_succ]
  refine wpAnyT_take 4 (some 20) (.int .i64 (v : Int)) #[true, true, true, true, true, false, false, false, false] rfl rfl rfl (by kernel_rfl) (fun _ _ _ h => h) hS0 (by rfl) (fun W hX => by have s0 := (hP4.ext hX).at 0 (u := .int .i64 a) rfl; have s1 := (hP4.ext hX).at 1 (u := .int .i64 (v : Int)) rfl; have s2 := (hP4.ext hX).at 2 (u := .int .i64 (cn : Int)) rfl; have s3 := (hP4.ext hX).at 3 (u := .int .i64 (z : Int)) rfl; go_simp) ?_
  simp only [Act.put, List.setIfInBounds_toArray, List.set_cons_zero, List.set_cons_succ]
  refine wpAnyT_take 5 (some 21) (.int .u64 (v : Int)) #[true, true, true, true, true, true, false, false, false] rfl rfl rfl (by kernel_rfl) (fun _ _ _ h => h) hS0 (by rfl) (fun W hX => by have hwu := wrapU64 (v : Int) (by omega) (by omega); go_simp) ?_
  simp only [Act.put, List.setIfInBounds_toArray, List.set_cons_zero, List.set_cons_succ]
  refine wpAnyT_take 6 (some 22) (.agg #[.int .i64 a, .int .i64 (v : Int), .int .i64 (cn : Int), .int .i64 (z : Int)]) #[true, true, true, true, true, true, true, false, false] rfl rfl rfl (by kernel_rfl) (fun _ _ _ h => h) hS0 (by rfl) (fun W hX => by have s0 := (hP4.ext hX).at 0 (u := .int .i64 a) rfl; have s1 := (hP4.ext hX).at 1 (u := .int .i64 (v : Int)) rfl; have s2 := (hP4.ext hX).at 2 (u := .int .i64 (cn : Int)) rfl; have s3 := (hP4.ext hX).at 3 (u := .int .i64 (z : Int)) rfl; go_simp) ?_
  simp only [Act.put, List.setIfInBounds_toArray, List.set_cons_zero, List.set_cons_succ]
  refine wpAnyT_only 7 #[true, true, true, true, true, true, true, true, false] (by kernel_rfl) rfl rfl (by rfl) (fun K0 hK0 => ?_)
  go_simp
  go_at_call 53
  refine (CL _).mono ?_
  rintro e wc0 ⟨rfl, hC0⟩
  have hX0 := hS0.trans hC0
  refine hK0 _ _ (fun _ => hX0) ?_
  clear hK0 K0
  refine wpAnyT_only 8 #[true, true, true, true, true, true, true, true, true] (by kernel_rfl) rfl rfl (by rfl) (fun K1 hK1 => ?_)
  go_simp
  go_at_call 52
  refine (put_any (HW4.out.ext hX0) v (k : Int) (by rw [List.length_append]; omega)).mono ?_
  rintro e w5 ⟨rfl, ob5, hW5, hN5, hM5⟩
  refine hK1 _ _ (fun h => absurd h (by decide)) (wpAnyT_done (by kernel_rfl) ?_ _)
  clear hK1 K1 CL
  rw [HXn.out] at hW5
  have hM5' := HM4.out.trans ((Mod.ofExt (ob := ob2) hX0).trans hM5 (.inl rfl)) HN4.out
  have hN5' := HN4.out.trans HM4.out.size ((NewOb.same w4 ob2).trans hX0.le hN5)
  have hP5 := hM5.whole (hP4.ext hX0) hgH (fun e => HoP.out _ e rfl)
  have hoP5 : ∀ k', ob5 = some k' → k' ≠ H := fun k' hk' => by
    rcases hN5 with e | ⟨n, e, hn⟩
    · exact HoP.out k' (e ▸ hk')
    · rw [hk'] at e
      cases e
      have := hX0.le
      omega
  have hD5 := CodR.keeps.mod HD.out hM5' (.inl hg2) ho2
  have HoP5 := hide hoP5
  have HM5 := hide hM5'
  have HN5 := hide hN5'
  obtain ⟨_, q3, _, _⟩ := hW5.ptrs
  have s2 := hP5.at 2 (u := .int .i64 (cn : Int)) rfl
  have hsz5 := hM5.size
  have hXs := hX0.le
  have CP := hufPut_any (hD5.ext' (Ext.refl _).drew) hry (hW5.ext (Ext.refl _).drew) (by simp only [List.length_append]; omega) (cn : Int)
  clear HM4 HN4 HW4 hP4 hM5 hN5 hM5' hN5' hoP5 hS0 hC0 hX0 HD hD5 hW5
  generalize putX y (cn : Int) = Y at *
  generalize putE y (cn : Int) = E5 at *
  go_wp2_with fail
  go_still_tail 9, (by kernel_rfl)
  change wpList _ _ _ _ _ (World.drew _)
  go_wp2_with fail
  refine CP.mono ?_
  rintro e w6 ⟨rfl, ob6, hW6, hN6, hM6⟩
  have hP6 := hM6.whole (hP5.ext (Ext.refl w5).drew) hgH (fun e => HoP5.out _ e rfl)
  have hM6' := HM5.out.trans ((Mod.ofExt (ob := ob5) (Ext.refl w5).drew).trans hM6 (.inl rfl)) HN5.out
  have hN6' := HN5.out.trans HM5.out.size ((NewOb.same w5 ob5).trans (Ext.refl w5).drew.le hN6)
  have r2 := hP6.at 2 (u := .int .i64 (cn : Int)) rfl
  have r3 := hP6.at 3 (u := .int .i64 (z : Int)) rfl
  have CQ := put_any (hW6.ext (Ext.refl _).drew) z (cn : Int) (by simp only [List.length_append]; omega)
  rw [HYn.out] at CQ
  have HM6 := hide hM6'
  have HN6 := hide hN6'
  clear CP hP5 hW6 hN6 hM6 hM6' hN6' HM5 HN5 q3 s2 hP6
  generalize Bit.putErr z (cn : Int) = E6 at *
  go_wp2_with fail
  go_still_tail 8, (by kernel_rfl)
  change wpList _ _ _ _ _ (World.drew _)
  go_wp2_with fail
  refine CQ.mono ?_
  rintro e w7 ⟨rfl, ob7, hW7, hN7, hM7⟩
  go_wp2
  go_end0
  exact ⟨rfl, ob7, hW7, HN6.out.trans HM6.out.size ((NewOb.same w6 ob6).trans (Ext.refl w6).drew.le hN7), HM6.out.trans ((Mod.ofExt (ob := ob6) (Ext.refl w6).drew).trans hM7 (.inl rfl)) HN6.out⟩
end Go.Proofs.YthpbckignppaiaaGreatDoor

namespace Go.Proofs.YthpbckignppaiaaGreatDoor
open Go.RowKit Lz Tok Len Can Huf
set_option maxHeartbeats 1000000 in
theorem tend_any (w : World) : Calls Tryz.prog 33 #[] w fun e w' => e = .returned (pcV ⟨256, 0, 0, 0⟩) ∧ Ext w w' := by
  have hP := Whole.new w 56 #[.int .i64 0, .int .i64 0, .int .i64 0, .int .i64 0]
  have hE := extNew w (.cells #[.int .i64 0, .int .i64 0, .int .i64 0, .int .i64 0] 56)
  go_enter Tryz.func33, Tryz.ntmps33
  go_wp2_with (refine wpList_storeW rfl 56 (.tmp 0) (.tmp 1) rfl rfl rfl hP rfl pc_info (pc_one ..) ?_; intro w5 hW5 hG5 _)
  refine bodyPost_ret (results_cell_row rfl _ _ _ _ _ _ _ rfl hW5 Tryz.underlying56 rfl pc_info) rfl ?_
  exact ⟨rfl, Below.grown hE hG5 hE.le (fun k hk => by cases hk; omega)⟩
set_option maxHeartbeats 2000000 in
set_option maxRecDepth 100000 in
theorem twrite_any (A : Option Addr) (n c : Nat) (L : List TokV) (w : World) (hn : n ≤ 100000) (hT : ToksAt w w.heap.size A n L) : Calls Tryz.prog 15 #[.slice A n c] w (PackTo w (writeE L)) := by
  have C1 := tcount_any A n c L w hn hT
  have hl := hT.1
  subst hl
  by_cases h32 : 32768 < L.length
  · have HN := hide (show writeE L = ([], 6) from if_pos h32)
    generalize writeE L = res at *
    have hI : (32768 : Int) < (L.length : Int) := by omega
    clear h32 hT C1
    go_enter Tryz.func15, Tryz.ntmps15
    go_wp2
    go_ret2
    rw [HN.out]
    exact ⟨_, [], rfl, OwnB.nil _ _, fun h => absurd h (by simp), fun _ => rfl, Ext.refl _⟩
  have hI : ¬ (32768 : Int) < (L.length : Int) := by omega
  cases hall : L.all may with
  | false =>
    have HN := hide (show writeE L = ([], 7) by unfold writeE; rw [if_neg h32, hall]; rfl)
    have HA := hide hall
    generalize writeE L = res at *
    clear h32 hT hall
    go_enter Tryz.func15, Tryz.ntmps15
    go_wp2_with fail
    refine C1.mono ?_
    rintro e w1 ⟨hE1, hC⟩
    rw [HA.out, if_neg (by simp)] at hC
    subst hC
    clear C1
    go_wp2
    go_ret2
    rw [HN.out]
    exact ⟨_, [], rfl, OwnB.nil _ _, fun h => absurd h (by simp), fun _ => rfl, hE1⟩
  | true =>
    have HN := hide (show writeE L = (writeB L, 0) by unfold writeE; rw [if_neg h32, if_pos hall])
    have HA := hide hall
    generalize writeE L = res at *
    have HT := hide hT
    clear h32 hT hall
    go_enter Tryz.func15, Tryz.ntmps15
    go_wp2_with fail
    refine C1.mono ?_
    rintro e w1 ⟨hE1, hC⟩
    rw [if_pos HA.out] at hC
    obtain ⟨g1, g2, hne, rfl, hO1, hO2⟩ := hC
    have hU1 := hO1.at (by rw [countsS_len]) (fun q => by have := countsS_lt L q; omega)
    have hU2 := hO2.at (by rw [countsF_len]) (fun q => by have := cntF_le L q; omega)
    have C2 := writerOf_any w1 (countsS L) (countsF L) (some ⟨g1, 0, none⟩) (some ⟨g2, 0, none⟩) (countsS_len L) (countsF_len L) hU1 hU2
    change Calls _ _ _ _ (WriterTo _ (bestS L) (bestF L)) at C2
    clear C1 hO1 hO2 hU1 hU2
    go_wp2_with fail
    refine C2.mono ?_
    rintro e w8 ⟨g, c1, c2, lo1, hi1, lo2, hi2, ob8, rfl, hW8, hC8, hD8, hg1, hg2, ho1, ho2, hE2⟩
    have hE8 := hE1.trans hE2
    have hle1 := hE1.le
    have hWl1 := wbits_len (bestS L)
    have hWl2 := wbits_len (bestF L)
    rw [bestS_len] at hWl1
    rw [bestF_len] at hWl2
    have hgb := hW8.le
    have hobb := fun k hk => (hW8.ob k hk).1
    have hhi1 := hC8.2.2.1
    have hhi2 := hD8.2.2.1
    have HAll := hide (show ∀ W, Mod w8 W g ob8 → CodR W lo1 hi1 c1 (bestS L) ∧ CodR W lo2 hi2 c2 (bestF L) ∧ Ext w W from fun W hM =>
      ⟨CodR.keeps.mod hC8 hM (.inl hg1) ho1, CodR.keeps.mod hD8 hM (.inl hg2) ho2, Below.trans hE8 (hM.below (B := w.heap.size) hE8.le (Nat.le_trans hle1 hgb) (fun k hk => Nat.le_trans hle1 (hobb k hk)))⟩)
    have HO2 := hide (show ∀ (W : World) (ob : Option Nat), w8.heap.size ≤ W.heap.size → NewOb w8 ob8 ob → ∀ k, ob = some k → k < lo2 ∨ hi2 ≤ k from fun W ob hs hN k hk => by
      rcases hN with e | ⟨n, e, hn⟩
      · exact ho2 k (e ▸ hk)
      · rw [hk] at e
        cases e
        exact .inr (by omega))
    have HW8 := hide hW8
    clear C2 hC8 hD8 ho1 ho2 hE2 hE8 hW8 hE1 hobb
    go_wp2_with fail
    go_loopw [29] (fun x wr => ∃ (i : Nat) (ob : Option Nat), i ≤ L.length ∧ x = .int .i64 (i : Int) ∧ WrtX 75 [.pointer (some ⟨c1, 0, none⟩), .pointer (some ⟨c2, 0, none⟩)] wr w1.heap.size g ob (wbits (bestS L) ++ wbits (bestF L) ++ bodyB (bestS L) (bestF L) (L.take i)) ∧ NewOb w8 ob8 ob ∧ Mod w8 wr g ob8 ∧ (bodyB (bestS L) (bestF L) (L.take i)).length ≤ 48 * i) (fun x _ => L.length - (intOf x).toNat)
    case atStart => exact ⟨0, ob8, by omega, rfl, by simpa [bodyB] using HW8.out, .inl rfl, Mod.refl _ _ _, by simp [bodyB]⟩
    case round =>
      clear HW8
      obtain ⟨i, ob, hi, rfl, hR, hN, hM, hlen⟩ := hrel
      by_cases hlt : i < L.length
      · have hiI : (i : Int) < (L.length : Int) := by omega
        obtain ⟨hCr, hDr, hEw⟩ := HAll.out wr hM
        have hoo := HO2.out wr ob hM.size hN
        have hMem : L.getD i default ∈ L := by
          rw [List.getD_eq_getElem?_getD, List.getElem?_eq_getElem hlt]
          exact List.getElem_mem hlt
        have hmay := List.all_eq_true.1 HA.out _ hMem
        have hfS := sym_fine hMem hmay
        have hfF := dist_fine hMem hmay
        have HBn := hide (bodyB_next (bestS L) (bestF L) hlt)
        have CM := fun W => tsplit_any (L.getD i default) W
        unfold tokV at CM
        have hToks := HT.out.below hEw (Nat.le_refl _)
        rcases hToks.2 with h0 | ⟨b1, o1, rfl, hb1, hc⟩
        · omega
        obtain ⟨hAt, hOk⟩ := hc i hlt
        obtain ⟨e0, e1, e2⟩ := hAt.cells
        clear hc hToks hAt hMem
        obtain ⟨t, ht⟩ : ∃ t, t = L.getD i default := ⟨_, rfl⟩
        rw [← ht] at e0 e1 e2 hOk CM hmay hfS hfF HBn
        clear ht
        obtain ⟨P, hP⟩ : ∃ P, P = wbits (bestS L) ++ wbits (bestF L) ++ bodyB (bestS L) (bestF L) (L.take i) := ⟨_, rfl⟩
        have hPl : P.length ≤ 2770 + 48 * i := by rw [hP]; simp only [List.length_append]; omega
        rw [← hP] at hR
        have HP := hide hP
        have HN2 := hide hN
        have HM2 := hide hM
        have HRr := hide hR
        have HEw := hide hEw
        have hET := extNew wr (.cells #[.int .u8 (t.lit.toNat : Int), .int .i64 t.len, .int .i64 t.dist] 60)
        have hWT := Whole.new wr 60 #[.int .u8 (t.lit.toNat : Int), .int .i64 t.len, .int .i64 t.dist]
        clear hP hN hM hR hEw
        by_cases h0 : t.len = 0
        · have hsp := split_lit hmay h0
          have HBt := hide (tokB_lit (y := bestF L) hfS h0)
          rw [hsp] at CM HBt
          dsimp only at HBt
          unfold SplitTo at CM
          dsimp only at CM
          have h8 := UInt8.toNat_lt t.lit
          have hxl := putX_le (l := bestS L) (t.lit.toNat : Int) (bestS_right L)
          clear hsp hfS hfF hmay h0 hOk
          generalize tokB (bestS L) (bestF L) t = T at *
          generalize t.lit.toNat = y at *
          generalize t.dist = td at *
          generalize t.len = tl at *
          go_wp2_with (refine wpList_load_row rfl 60 (.tmp 9) rfl _ rfl _ _ _ _ hWT Tryz.underlying60 rfl tk_info ?_)
          refine (CM _).mono ?_
          rintro e wa ⟨rfl, hEs⟩
          have hEp := (hET.trans hEs).trans (extNew wa (.cells #[.int .i64 (y : Int), .int .i64 0, .int .i64 0, .int .i64 0] 56))
          have hWP := Whole.new wa 56 #[.int .i64 (y : Int), .int .i64 0, .int .i64 0, .int .i64 0]
          have CP := putPiece_lit (HRr.out.ext hEp) (hCr.ext' hEp) (bestS_right L) (y : Int) 0 0 0 (by omega) (by omega)
          have HMp := hide (HM2.out.trans (Mod.ofExt (ob := ob) hEp) HN2.out)
          have HMe := hide (Mod.ofExt (g := g) (ob := ob) hEp)
          have hsp := hEp.le
          unfold pcV at CP
          dsimp only at CP
          clear CM e0 e1 e2 hCr hDr hEs hWT hET hEp
          unfold pcV
          dsimp only
          go_wp2_with (refine wpList_load_row rfl 56 (.tmp 10) rfl _ rfl _ _ _ _ hWP Tryz.underlying56 rfl pc_info ?_)
          refine CP.mono ?_
          rintro e wc ⟨rfl, obc, hRc, hNc, hMc⟩
          have HMw := hide (HMp.out.trans hMc HN2.out)
          have HNw := hide (HN2.out.trans HMp.out.size hNc)
          have HRc := hide hRc
          clear CP hRc hNc hMc hWP
          go_wp2
          go_roundw
          case rel => exact ⟨i + 1, obc, by omega, by go_num, (by rw [HBn.out, HBt.out, ← List.append_assoc, ← HP.out]; exact HRc.out), HNw.out, HMw.out, by rw [HBn.out, HBt.out, List.length_append]; omega⟩
          case measure => simp [intOf]; omega
        · obtain ⟨k, x, cn, y, hk, hx, hcn, hy, -, -, e3⟩ := split_match hmay h0
          have hfF := hfF h0
          rw [e3] at hfS hfF
          dsimp only at hfS hfF
          have HBt := hide (tokB_match (x := bestS L) (y := bestF L) e3 hfS hfF h0)
          rw [e3] at CM
          unfold SplitTo at CM
          dsimp only at CM
          have hxl := putX_le (l := bestS L) (257 + (k : Int)) (bestS_right L)
          have hfl := putX_le (l := bestF L) (cn : Int) (bestF_right L)
          have hnl1 := Bit.num_length x k
          have hnl2 := Bit.num_length y cn
          clear e3 hfS hfF hmay h0 hOk
          generalize tokB (bestS L) (bestF L) t = T at *
          generalize t.lit.toNat = yl at *
          generalize t.dist = td at *
          generalize t.len = tl at *
          go_wp2_with (refine wpList_load_row rfl 60 (.tmp 9) rfl _ rfl _ _ _ _ hWT Tryz.underlying60 rfl tk_info ?_)
          refine (CM _).mono ?_
          rintro e wa ⟨rfl, hEs⟩
          have hEp := (hET.trans hEs).trans (extNew wa (.cells #[.int .i64 (257 + (k : Int)), .int .i64 (x : Int), .int .i64 (cn : Int), .int .i64 (y : Int)] 56))
          have hWP := Whole.new wa 56 #[.int .i64 (257 + (k : Int)), .int .i64 (x : Int), .int .i64 (cn : Int), .int .i64 (y : Int)]
          have CP := putPiece_match (HRr.out.ext hEp) (hCr.ext' hEp) (bestS_right L) (hDr.ext' hEp) (bestF_right L) hg2 hoo k x cn y hk hx hcn hy (by omega)
          have HMp := hide (HM2.out.trans (Mod.ofExt (ob := ob) hEp) HN2.out)
          unfold pcV at CP
          dsimp only at CP
          clear CM e0 e1 e2 hCr hDr hEs hWT hET hEp hoo hx hy
          unfold pcV
          dsimp only
          generalize 257 + (k : Int) = sy at *
          go_wp2_with (refine wpList_load_row rfl 56 (.tmp 10) rfl _ rfl _ _ _ _ hWP Tryz.underlying56 rfl pc_info ?_)
          refine CP.mono ?_
          rintro e wc ⟨rfl, obc, hRc, hNc, hMc⟩
          have HMw := hide (HMp.out.trans hMc HN2.out)
          have HNw := hide (HN2.out.trans HMp.out.size hNc)
          have HRc := hide hRc
          have HLn := hide (show (putX (bestS L) sy ++ Bit.num x k ++ putX (bestF L) (cn : Int) ++ Bit.num y cn).length ≤ 48 by simp only [List.length_append]; omega)
          clear CP hRc hNc hMc hWP hxl hfl hnl1 hnl2
          go_wp2
          go_roundw
          case rel => exact ⟨i + 1, obc, by omega, by go_num, (by rw [HBn.out, HBt.out, ← List.append_assoc, ← HP.out]; simpa only [List.append_assoc] using HRc.out), HNw.out, HMw.out, by rw [HBn.out, HBt.out, List.length_append]; have := HLn.out; omega⟩
          case measure => simp [intOf]; omega
      · obtain rfl : L.length = i := by omega
        rw [List.take_length] at hR hlen
        have HM2 := hide hM
        have HN2 := hide hN
        have HRr := hide hR
        have hRlen : (wbits (bestS L) ++ wbits (bestF L) ++ bodyB (bestS L) (bestF L) L).length ≤ 700000000 := by simp only [List.length_append]; omega
        have HRl := hide hRlen
        have HEnd := hide (show putX (bestS L) 256 = putB (bestS L) 256 from if_pos (end_fine L))
        have HX := hide (putX_le (l := bestS L) 256 (bestS_right L))
        clear hR hM hN hRlen
        go_wp2_with fail
        refine (tend_any _).mono ?_
        rintro e wa ⟨rfl, hEa⟩
        have hMa := HM2.out.trans (Mod.ofExt (ob := ob) hEa) HN2.out
        obtain ⟨hCa, _, _⟩ := HAll.out wa hMa
        have CP := putPiece_lit (HRr.out.ext hEa) hCa (bestS_right L) 256 0 0 0 (by omega) HRl.out
        have HMa := hide hMa
        clear hCa hMa
        go_wp2_with fail
        refine CP.mono ?_
        rintro e wc ⟨rfl, obc, hRc, hNc, hMc⟩
        obtain ⟨_, _, hEc⟩ := HAll.out wc (HMa.out.trans hMc HN2.out)
        have CB := wbytes_any hRc (by rw [List.length_append]; have := HRl.out; have := HX.out; omega)
        clear CP hRc hNc hMc
        go_wp2_with fail
        refine CB.mono ?_
        rintro e wd ⟨l, hPk, v, rfl, hO, hE⟩
        have HPk := hide hPk
        clear CB hPk
        go_wp2
        go_ret2
        rw [HN.out]
        refine ⟨v, l, rfl, hO.mono hEc.le, fun _ => ?_, fun h => absurd rfl h, hEc.trans hE⟩
        have hPk := HPk.out
        rw [HEnd.out] at hPk
        unfold writeB
        simpa only [List.append_assoc] using hPk
end Go.Proofs.YthpbckignppaiaaGreatDoor

namespace Go.Proofs.YthpbckignppaiaaGreatDoor
open Go.RowKit Num Lz Tok Blk
set_option maxHeartbeats 2000000 in
set_option maxRecDepth 100000 in
theorem squeeze_any (A : Option Addr) (n c : Nat) (b : List UInt8) (w : World) (hb : b.length ≤ 32768) (hc : n ≤ c) (h : Bytes w w.heap.size A n b) :
    Calls Tryz.prog 9 #[.slice A n c] w (MadeE w (squeeze b) 0) := by
  have hl := h.1
  have C1 := lzFind_any A n c b w (by omega) hc h
  have hT := toks_len b 0
  have hok := toks_ok b 0
  have HW := hide (write_toks hb)
  have HS := hide (show squeeze b = Bit.pack (writeB (toks b 0)) from rfl)
  clear h
  generalize toks b 0 = T at *
  go_enter Tryz.func9, Tryz.ntmps9
  go_wp2_with fail
  refine C1.mono ?_
  rintro e w1 ⟨v1, rfl, hO1, hE1⟩
  obtain ⟨A1, c1, rfl, -, -, hT1⟩ := hO1.at hok
  have C2 := twrite_any A1 T.length c1 T w1 (by omega) hT1
  rw [HW.out] at C2
  clear C1 hT1
  go_wp2_with fail
  refine C2.mono ?_
  rintro e w2 ⟨v2, l2, rfl, hO2, hp2, -, hE2⟩
  have hpk := (hp2 rfl).is
  subst hpk
  obtain ⟨A2, n2, c2, rfl, _⟩ := hO2.form'
  clear C2 hp2
  go_wp2
  go_ret2
  exact ⟨_, rfl, by rw [HS.out]; exact hO2.mono hE1.le, hE1.trans hE2⟩
set_option maxHeartbeats 4000000 in
set_option maxRecDepth 100000 in
theorem bwrite_any (A : Option Addr) (n c : Nat) (b : List UInt8) (plain : Bool) (w : World) (hc : n ≤ c) (ht : Tab w) (h : Bytes w w.heap.size A n b) :
    Calls Tryz.prog 5 #[.slice A n c, .bool plain] w (MadeE w (writeF b plain).1 (writeF b plain).2) := by
  have hl := h.1
  subst hl
  by_cases hbig : 32768 < b.length
  · have hbI : (32768 : Int) < (b.length : Int) := by omega
    have HN := hide (show writeF b plain = ([], 6) by unfold writeF; rw [if_pos hbig])
    rw [HN.out]
    clear HN
    go_enter Tryz.func5, Tryz.ntmps5
    go_wp2
    go_ret2
    exact ⟨_, rfl, OwnB.nil _ _, Ext.refl _⟩
  have hbI : ¬ (32768 : Int) < (b.length : Int) := by omega
  have h0 := ht.pos
  have HB := hide h
  have HT := hide ht
  have HN := hide (show writeF b plain = (Crc.put (headB b plain ++ bodyOf b plain), 0) by unfold writeF; rw [if_neg hbig]; rfl)
  rw [HN.out]
  clear HN h ht
  have HAs := fun (hu : useS b plain = false) => show Crc.put (UInt8.ofNat 0 :: (enc b.length ++ enc b.length) ++ b) = Crc.put (headB b plain ++ bodyOf b plain) by
    unfold headB bodyOf wayOf
    rw [hu]
    rfl
  have HSq := fun (hu : useS b plain = true) => show Crc.put (UInt8.ofNat 1 :: (enc b.length ++ enc (squeeze b).length) ++ squeeze b) = Crc.put (headB b plain ++ bodyOf b plain) by
    unfold headB bodyOf wayOf
    rw [hu]
    rfl
  have HU := hide (show useS b plain = (!plain && decide ((squeeze b).length < b.length)) from rfl)
  have CS := fun W (hE : Ext w W) => squeeze_any A b.length c b W (by omega) hc (hE.bytes HB.out)
  have CF := fun W (hE : Ext w W) => fbytes_any 0 b.length A b.length c b W (by omega) (by omega) (by omega) (hE.tab HT.out h0) (hE.bytes HB.out)
  have HAs := hide HAs
  have HSq := hide HSq
  generalize Crc.put (headB b plain ++ bodyOf b plain) = Y at *
  generalize useS b plain = us at *
  generalize hsq : squeeze b = sq at *
  clear hsq
  unfold frameV at CF
  cases plain with
  | true =>
    have hY := HAs.out (by rw [HU.out]; rfl)
    rw [hY] at CF
    have CF0 := CF w (Ext.refl w)
    clear HAs HSq HU CS CF
    go_enter Tryz.func5, Tryz.ntmps5
    go_wp2_with fail
    refine CF0.mono ?_
    rintro e w1 ⟨v1, rfl, hO1, hE1⟩
    obtain ⟨A1, n1, c1, rfl, _⟩ := hO1.form'
    go_wp2
    go_ret2
    exact ⟨_, rfl, hO1, hE1⟩
  | false =>
    have CS0 := CS w (Ext.refl w)
    clear CS
    by_cases hs : sq.length < b.length
    · have hsI : (sq.length : Int) < (b.length : Int) := by omega
      have hY := HSq.out (by rw [HU.out]; simp [hs])
      clear HAs HSq HU CF
      go_enter Tryz.func5, Tryz.ntmps5
      go_wp2_with fail
      refine CS0.mono ?_
      rintro e w1 ⟨v1, rfl, hO1, hE1⟩
      obtain ⟨A1, c1, rfl, -, -, hb1⟩ := hO1.form
      have CF1 := fbytes_any 1 b.length A1 sq.length c1 sq w1 (by omega) (by omega) (by omega) (hE1.tab HT.out h0) hb1
      rw [hY] at CF1
      unfold frameV at CF1
      clear CS0 hY hb1
      go_wp2_with fail
      refine CF1.mono ?_
      rintro e w2 ⟨v2, rfl, hO2, hE2⟩
      obtain ⟨A2, n2, c2, rfl, _⟩ := hO2.form'
      go_wp2
      go_ret2
      exact ⟨_, rfl, hO2.mono hE1.le, hE1.trans hE2⟩
    · have hsI : ¬ (sq.length : Int) < (b.length : Int) := by omega
      have hY := HAs.out (by rw [HU.out]; simp [hs])
      rw [hY] at CF
      clear HAs HSq HU
      go_enter Tryz.func5, Tryz.ntmps5
      go_wp2_with fail
      refine CS0.mono ?_
      rintro e w1 ⟨v1, rfl, hO1, hE1⟩
      obtain ⟨A1, c1, rfl, -, -, -⟩ := hO1.form
      have CF1 := CF w1 hE1
      clear CS0 CF hY
      go_wp2_with fail
      refine CF1.mono ?_
      rintro e w2 ⟨v2, rfl, hO2, hE2⟩
      obtain ⟨A2, n2, c2, rfl, _⟩ := hO2.form'
      go_wp2
      go_ret2
      exact ⟨_, rfl, hO2.mono hE1.le, hE1.trans hE2⟩
theorem bwriteC_any {w : World} (ht : Tab w) : BWriteC w := fun b plain A n c W hE hc _ h => bwrite_any A n c b plain W hc (hE.tab ht ht.pos) h
end Go.Proofs.YthpbckignppaiaaGreatDoor

namespace Go.Proofs.YthpbckignppaiaaGreatDoor
open Go.RowKit
def IntsL (w : World) (B : Nat) (A : Option Addr) (n : Nat) (L : List Int) : Prop :=
  L.length = n ∧ (n = 0 ∨ ∃ b off, A = some ⟨b, off, none⟩ ∧ b < B ∧ ∀ i, i < n → w.cell? ⟨b, off + i, none⟩ = some (.int .i64 (L.getD i 0)))
def OwnL (w : World) (base : Nat) (v : Value) (L : List Int) : Prop := w.ownsRow base 3 1 v L.length (L.map (Value.int .i64))
theorem intL_info : (Tryz.prog.info? 3).map (fun i => (i.zero, i.size, i.bytes)) = some (some (.int .i64 0), 1, 8) := by kernel_rfl
theorem OwnL.nil (w : World) (base : Nat) : OwnL w base (.slice none 0 0) [] := World.ownsRow_nil w base _ _
theorem OwnL.ext {w w' : World} {base : Nat} {v : Value} {L : List Int} (h : OwnL w base v L) (hE : Ext w w') : OwnL w' base v L :=
  World.ownsRow.kept h (hE.grown none) (by cases hv : v.ownBlock <;> simp)
theorem OwnL.lt {w : World} {base : Nat} {v : Value} {L : List Int} (h : OwnL w base v L) : ∀ k, v.ownBlock = some k → base ≤ k ∧ k < w.heap.size := World.ownsRow.lt h
theorem OwnL.form {w : World} {base : Nat} {v : Value} {L : List Int} (h : OwnL w base v L) : ∃ A c, v = .slice A L.length c ∧ L.length ≤ c ∧ IntsL w w.heap.size A L.length L := by
  have hl := h.lt
  rcases h.2 with ⟨rfl, h0⟩ | ⟨g, cap, cur, rfl, hb, hg, hn, hc, hs, ht⟩
  · exact ⟨none, 0, by rw [h0], by omega, rfl, .inl h0⟩
  · refine ⟨_, cap, rfl, hn, rfl, .inr ⟨g, 0, rfl, (hl g rfl).2, fun i hi => ?_⟩⟩
    have hk := World.ownsRow.cellAt h i (by omega)
    rw [Nat.zero_add, hk]
    simp [hi]
end Go.Proofs.YthpbckignppaiaaGreatDoor

namespace Go.Proofs.YthpbckignppaiaaGreatDoor
open Go.RowKit Len
abbrev RawI := Nat × Value
def rawC (y : RawI) : List Value := [.int .u64 ((y.1 : Nat) : Int), y.2]
theorem item_info : (Tryz.prog.info? 85).map (fun i => (i.zero, i.size, i.bytes)) = some (some (.agg #[.int .u64 0, .slice none 0 0]), 2, 32) := by kernel_rfl
theorem rawC_get : ∀ (Y : List RawI) (i j : Nat), i < Y.length → j < 2 → (Y.flatMap rawC)[i * 2 + j]? = (rawC (Y.getD i (0, undef)))[j]?
  | y :: Y, 0, j, _, hj => by
    rw [List.flatMap_cons, Nat.zero_mul, Nat.zero_add, List.getElem?_append_left (by simp [rawC]; omega)]
    rfl
  | y :: Y, i + 1, j, h, hj => by
    rw [List.flatMap_cons, List.getElem?_append_right (by simp [rawC]; omega)]
    have := rawC_get Y i j (by simpa using h) hj
    rw [show (i + 1) * 2 + j - (rawC y).length = i * 2 + j by simp [rawC]; omega, this]
    simp
theorem rawC_len : ∀ Y : List RawI, (Y.flatMap rawC).length = Y.length * 2
  | [] => rfl
  | y :: Y => by rw [List.flatMap_cons, List.length_append, rawC_len Y]; simp [rawC]; omega
def OwnY (w : World) (base : Nat) (v : Value) (Y : List RawI) : Prop := w.ownsRow base 85 2 v Y.length (Y.flatMap rawC)
def SaysY (w : World) (B : Nat) (Y : List RawI) (X : List Len.Item) : Prop := Y.length = X.length ∧ ∀ i, i < X.length → (Y.getD i (0, undef)).1 = (X.getD i (0, [])).1 ∧ OwnL w 0 (Y.getD i (0, undef)).2 ((X.getD i (0, [])).2.map Int.ofNat) ∧ ∀ k, (Y.getD i (0, undef)).2.ownBlock = some k → k < B
def ItL (w : World) (base : Nat) (v : Value) (X : List Len.Item) : Prop := ∃ Y, OwnY w base v Y ∧ SaysY w w.heap.size Y X
section
variable {w w' : World} {base g : Nat} {v u : Value} {Y : List RawI} {X : List Len.Item} {L : List Int}
theorem OwnY.lt (h : OwnY w base v Y) : ∀ k, v.ownBlock = some k → base ≤ k ∧ k < w.heap.size := World.ownsRow.lt h
theorem OwnL.notY (h : OwnL w 0 u L) (hY : OwnY w base v Y) (hg : v.ownBlock = some g) : u.ownBlock ≠ some g := by
  intro e
  rcases h.2 with ⟨rfl, _⟩ | ⟨g1, c1, cur1, rfl, _, h1, _⟩
  · cases e
  rcases hY.2 with ⟨rfl, _⟩ | ⟨g2, c2, cur2, rfl, _, h2, _⟩
  · cases hg
  simp only [Value.ownBlock, Option.some.injEq] at e hg
  subst e
  subst hg
  rw [h1] at h2
  simp only [Option.some.injEq, Obj.cells.injEq] at h2
  exact absurd h2.2.1 (by decide)
theorem SaysY.ext {B : Nat} (h : SaysY w B Y X) (hE : Ext w w') : SaysY w' B Y X := ⟨h.1, fun i hi => ⟨(h.2 i hi).1, (h.2 i hi).2.1.ext hE, (h.2 i hi).2.2⟩⟩
theorem SaysY.up {B C : Nat} (h : SaysY w B Y X) (hB : B ≤ C) : SaysY w C Y X := ⟨h.1, fun i hi => ⟨(h.2 i hi).1, (h.2 i hi).2.1, fun k hk => Nat.lt_of_lt_of_le ((h.2 i hi).2.2 k hk) hB⟩⟩
theorem SaysY.grownY {B : Nat} {Y2 : List RawI} (h : SaysY w B Y X) (hY : OwnY w base v Y2) (hG : w.grownBy w' v.ownBlock) : SaysY w' B Y X := ⟨h.1, fun i hi => ⟨(h.2 i hi).1, World.ownsRow.kept (h.2 i hi).2.1 hG (by
  cases hb : v.ownBlock with
  | none => cases (Y.getD i (0, undef)).2.ownBlock <;> simp
  | some g => exact .inr ((h.2 i hi).2.1.notY hY hb)), (h.2 i hi).2.2⟩⟩
theorem OwnY.ext (h : OwnY w base v Y) (hE : Ext w w') : OwnY w' base v Y := World.ownsRow.kept h (hE.grown none) (by cases hv : v.ownBlock <;> simp)
theorem OwnY.mono {b' : Nat} (h : OwnY w base v Y) (hb : b' ≤ base) : OwnY w b' v Y := ⟨h.1, h.2.elim Or.inl fun ⟨g, cap, cur, hv, hg, r⟩ => Or.inr ⟨g, cap, cur, hv, Nat.le_trans hb hg, r⟩⟩
theorem ItL.ext (h : ItL w base v X) (hE : Ext w w') : ItL w' base v X := by
  obtain ⟨Y, h1, h2⟩ := h
  exact ⟨Y, h1.ext hE, (h2.ext hE).up hE.le⟩
theorem ItL.mono {b' : Nat} (h : ItL w base v X) (hb : b' ≤ base) : ItL w b' v X := by
  obtain ⟨Y, h1, h2⟩ := h
  exact ⟨Y, h1.mono hb, h2⟩
theorem ItL.nil (w : World) (base : Nat) : ItL w base (.slice none 0 0) [] := ⟨[], World.ownsRow_nil w base _ _, rfl, fun i hi => absurd hi (by simp)⟩
theorem ItL.lt (h : ItL w base v X) : ∀ k, v.ownBlock = some k → base ≤ k ∧ k < w.heap.size := by
  obtain ⟨Y, h1, _⟩ := h
  exact h1.lt
theorem OwnY.form (h : OwnY w base v Y) : ∃ A c, v = .slice A Y.length c ∧ Y.length ≤ c ∧ c ≤ maxLen ∧ (Y.length = 0 ∨ ∃ g, A = some ⟨g, 0, none⟩ ∧ ∀ i, i < Y.length → w.cell? ⟨g, i * 2, none⟩ = some (.int .u64 (((Y.getD i (0, undef)).1 : Nat) : Int)) ∧ w.cell? ⟨g, i * 2 + 1, none⟩ = some (Y.getD i (0, undef)).2) := by
  rcases h.2 with ⟨rfl, h0⟩ | ⟨g, cap, cur, rfl, hb, hgg, hn, hc, hs, ht⟩
  · exact ⟨none, 0, by rw [h0], by omega, by unfold maxLen; omega, .inl h0⟩
  · refine ⟨_, cap, rfl, hn, hc, .inr ⟨g, rfl, fun i hi => ?_⟩⟩
    have hcell : ∀ j, j < 2 → w.cell? ⟨g, i * 2 + j, none⟩ = (rawC (Y.getD i (0, undef)))[j]? := fun j hj => by
      rw [cell_of_row w g (i * 2 + j) cur _ _ hgg, ← rawC_get Y i j hi hj, ← ht, List.getElem?_take, if_pos (by omega)]
      simp
    exact ⟨(hcell 0 (by omega)).trans (by simp [rawC]), (hcell 1 (by omega)).trans (by simp [rawC])⟩
structure AtI (w : World) (B : Nat) (A : Option Addr) (i : Nat) (x : Len.Item) : Prop where
  ex : ∃ g q C, A = some ⟨g, 0, none⟩ ∧ w.cell? ⟨g, i * 2, none⟩ = some (.int .u64 ((x.1 : Nat) : Int)) ∧ w.cell? ⟨g, i * 2 + 1, none⟩ = some (.slice q x.2.length C) ∧ OwnL w 0 (.slice q x.2.length C) (x.2.map Int.ofNat) ∧ ∀ k, (Value.slice q x.2.length C).ownBlock = some k → k < B
theorem ItL.form (h : ItL w base v X) : ∃ A c, v = .slice A X.length c ∧ X.length ≤ c ∧ c ≤ maxLen ∧ ∀ i, i < X.length → AtI w w.heap.size A i (X.getD i (0, [])) := by
  obtain ⟨Y, h1, h2, h3⟩ := h
  obtain ⟨A, c, rfl, hc, hm, hA⟩ := h1.form
  rw [h2] at hc hA ⊢
  refine ⟨A, c, rfl, hc, hm, fun i hi => ?_⟩
  rcases hA with h0 | ⟨g, rfl, hg⟩
  · omega
  obtain ⟨k1, k2⟩ := hg i hi
  obtain ⟨e1, e2, e3⟩ := h3 i hi
  obtain ⟨q, C, hq, _, _⟩ := e2.form
  rw [List.length_map] at hq
  rw [hq] at k2 e2 e3
  rw [e1] at k1
  exact ⟨g, q, C, rfl, k1, k2, e2, e3⟩
end
section
variable {o : Oper} {a : Act} {Q : Exit → Act → World → Prop} {w : World} {base : Nat} {v : Value} {X : List Len.Item}
set_option maxRecDepth 100000 in
theorem wpList_appY {ops : Array Oper} {rest : List Oper} (hgd : o.guard = none) (s x : Operand) (ho : o.op = .call { callee := .builtin .append, args := #[s, x], argTypes := #[82, 82] }) (hs : a.eval s = v) {q : Option Addr} {C : Nat} {it : Len.Item}
    (hown : ItL w base v X) (hit : OwnL w 0 (.slice q it.2.length C) (it.2.map Int.ofNat)) {c : Nat} (hx : a.eval x = .slice (some ⟨w.heap.size, 0, none⟩) 1 c) (hlen : X.length ≤ 1000) (hbase : base ≤ w.heap.size)
    (h : ∀ v' w', ItL w' base v' (X ++ [it]) → (w.alloc (.cells #[.int .u64 ((it.1 : Nat) : Int), .slice q it.2.length C] 85)).grownBy w' v.ownBlock → (v'.ownBlock = v.ownBlock ∨ v'.ownBlock = some (w.heap.size + 1)) → wpList Tryz.prog ops Q rest (a.put o.dst v') w') :
    wpList Tryz.prog ops Q (o :: rest) a (w.alloc (.cells #[.int .u64 ((it.1 : Nat) : Int), .slice q it.2.length C] 85)) := by
  obtain ⟨Y, h1, h2⟩ := hown
  obtain ⟨i, hi, hz, hsz, hby⟩ := info_parts item_info
  have hE := extNew w (.cells #[.int .u64 ((it.1 : Nat) : Int), .slice q it.2.length C] 85)
  have h1E := h1.ext hE
  refine wpList_append_own_at _ hgd s x 82 ho base 85 i _ 2 32 Tryz.underlying82 hi hz hsz hby rfl (by omega) v Y.length (Y.flatMap rawC) hs h1E ⟨w.heap.size, 0, none⟩ 1 c (rawC (it.1, .slice q it.2.length C)) hx rfl (by
    intro j u hu
    rw [show (⟨w.heap.size, 0, none⟩ : Addr).add j = ⟨w.heap.size, j, none⟩ by unfold Addr.add; split <;> simp_all, cellNew]
    match j, hu with
    | 0, hu => simpa [rawC] using hu
    | 1, hu => simpa [rawC] using hu
    | j + 2, hu => simp [rawC] at hu) (by
    intro u hu
    simp [rawC] at hu
    rcases hu with rfl | rfl <;> rfl) (by unfold maxLen; have := h2.1; omega) (by have := h2.1; omega) (by simp; omega) ?_
  intro v' w' h4 h5 _ h6
  rw [World.size_alloc] at h6
  have hS := h5.size
  rw [World.size_alloc] at hS
  refine h v' w' ⟨Y ++ [(it.1, .slice q it.2.length C)], ?_, ?_⟩ h5 h6
  · unfold OwnY
    rw [List.length_append, List.flatMap_append]
    simpa using h4
  · have k1 := ((h2.ext hE).grownY h1E h5).up (C := w'.heap.size) (by omega)
    have k2 : OwnL w' 0 (.slice q it.2.length C) (it.2.map Int.ofNat) := World.ownsRow.kept (hit.ext hE) h5 (by
      cases hb : v.ownBlock with
      | none => cases (Value.slice q it.2.length C).ownBlock <;> simp
      | some g => exact .inr ((hit.ext hE).notY h1E hb))
    refine ⟨by simp [h2.1], fun j hj => ?_⟩
    have hl := h2.1
    by_cases hjl : j < X.length
    · have e1 : (X ++ [it]).getD j (0, []) = X.getD j (0, []) := by simp [List.getD_eq_getElem?_getD, List.getElem?_append_left hjl]
      have e2 : (Y ++ [(it.1, Value.slice q it.2.length C)]).getD j (0, undef) = Y.getD j (0, undef) := by simp [List.getD_eq_getElem?_getD, List.getElem?_append_left (by omega : j < Y.length)]
      rw [e1, e2]
      exact k1.2 j hjl
    · have hjx : j = X.length := by simp at hj; omega
      subst hjx
      have e1 : (X ++ [it]).getD X.length (0, []) = it := by simp [List.getD_eq_getElem?_getD]
      have e2 : (Y ++ [(it.1, Value.slice q it.2.length C)]).getD X.length (0, undef) = (it.1, .slice q it.2.length C) := by rw [← hl]; simp [List.getD_eq_getElem?_getD]
      rw [e1, e2]
      exact ⟨rfl, k2, fun k hk => (k2.lt k hk).2⟩
end
end Go.Proofs.YthpbckignppaiaaGreatDoor

namespace Go.Proofs.YthpbckignppaiaaGreatDoor
open Go.RowKit Len
theorem AtI.ext {w w' : World} {A : Option Addr} {i : Nat} {x : Len.Item} (h : AtI w w.heap.size A i x) (hE : Ext w w') : AtI w' w'.heap.size A i x := by
  obtain ⟨g, q, C, rfl, k1, k2, k3, k4⟩ := h.ex
  have hg : g < w.heap.size := World.block_lt_of_cell? w _ k1
  exact ⟨g, q, C, rfl, (hE.cell hg).trans k1, (hE.cell hg).trans k2, k3.ext hE, fun k hk => Nat.lt_of_lt_of_le (k4 k hk) hE.le⟩
theorem drop_at {X : List Len.Item} {i : Nat} (h : i < X.length) : X.drop i = X.getD i (0, []) :: X.drop (i + 1) := by
  rw [List.drop_eq_getElem_cons h, List.getD_eq_getElem?_getD, List.getElem?_eq_getElem h]
  rfl
theorem merge_first {X1 X2 P : List Len.Item} {i k : Nat} (hi : i < X1.length) (h : k = X2.length ∨ k < X2.length ∧ (X1.getD i (0, [])).1 ≤ (X2.getD k (0, [])).1) (hP : P ++ mergeI (X1.drop i) (X2.drop k) = mergeI X1 X2) :
    (P ++ [X1.getD i (0, [])]) ++ mergeI (X1.drop (i + 1)) (X2.drop k) = mergeI X1 X2 := by
  rw [← hP, List.append_assoc]
  congr 1
  rw [drop_at hi]
  rcases h with rfl | ⟨hk, hle⟩
  · rw [List.drop_length, mergeI_nil, mergeI_nil]
    rfl
  · rw [drop_at hk, mergeI_cons, if_pos hle]
    rfl
theorem merge_second {X1 X2 P : List Len.Item} {i k : Nat} (hk : k < X2.length) (h : i = X1.length ∨ i < X1.length ∧ ¬ (X1.getD i (0, [])).1 ≤ (X2.getD k (0, [])).1) (hP : P ++ mergeI (X1.drop i) (X2.drop k) = mergeI X1 X2) :
    (P ++ [X2.getD k (0, [])]) ++ mergeI (X1.drop i) (X2.drop (k + 1)) = mergeI X1 X2 := by
  rw [← hP, List.append_assoc]
  congr 1
  rw [drop_at hk]
  rcases h with rfl | ⟨hi, hle⟩
  · rw [List.drop_length, nil_mergeI, nil_mergeI]
    rfl
  · rw [drop_at hi, mergeI_cons, if_neg hle]
    rfl
set_option maxHeartbeats 4000000 in
set_option maxRecDepth 100000 in
theorem refMerge_any (v1 v2 : Value) (b1 b2 : Nat) (X1 X2 : List Len.Item) (w : World) (h1 : ItL w b1 v1 X1) (h2 : ItL w b2 v2 X2) (l1 : X1.length ≤ 400) (l2 : X2.length ≤ 400) :
    Calls Tryz.prog 41 #[v1, v2] w fun e w' => ∃ v, e = .returned v ∧ ItL w' w.heap.size v (mergeI X1 X2) ∧ Ext w w' := by
  obtain ⟨A1, c1, rfl, _, _, f1⟩ := h1.form
  obtain ⟨A2, c2, rfl, _, _, f2⟩ := h2.form
  have F1 := hide f1
  have F2 := hide f2
  have HM := hide (fun (i k : Nat) (P : List Len.Item) a b c => merge_first (X1 := X1) (X2 := X2) (P := P) (i := i) (k := k) a b c)
  have HS := hide (fun (i k : Nat) (P : List Len.Item) a b c => merge_second (X1 := X1) (X2 := X2) (P := P) (i := i) (k := k) a b c)
  have H0 := hide (show [] ++ mergeI (X1.drop 0) (X2.drop 0) = mergeI X1 X2 by simp)
  have HE := hide (show ∀ P : List Len.Item, P ++ mergeI (X1.drop X1.length) (X2.drop X2.length) = mergeI X1 X2 → P = mergeI X1 X2 from fun P h => by rw [List.drop_length, List.drop_length, nil_mergeI, List.append_nil] at h; exact h)
  obtain ⟨n1, hn1⟩ : ∃ n, n = X1.length := ⟨_, rfl⟩
  obtain ⟨n2, hn2⟩ : ∃ n, n = X2.length := ⟨_, rfl⟩
  rw [← hn1] at l1 ⊢
  rw [← hn2] at l2 ⊢
  have HN1 := hide hn1
  have HN2 := hide hn2
  clear f1 f2 h1 h2 hn1 hn2
  generalize mergeI X1 X2 = res at *
  go_enter Tryz.func41, Tryz.ntmps41
  go_wp2_with fail
  go_loopw [5, 6, 7] (fun u a b wr => ∃ (i k : Nat) (P : List Len.Item), i ≤ n1 ∧ k ≤ n2 ∧ a = .int .i64 (i : Int) ∧ b = .int .i64 (k : Int) ∧ P.length = i + k ∧ P ++ mergeI (X1.drop i) (X2.drop k) = res ∧ ItL wr w.heap.size u P ∧ Ext w wr) (fun _ a b _ => n1 + n2 - ((intOf a).toNat + (intOf b).toNat))
  case atStart => exact ⟨0, 0, [], by omega, by omega, rfl, rfl, rfl, H0.out, ItL.nil _ _, Ext.refl _⟩
  case round =>
    obtain ⟨i, k, P, hi, hk, rfl, rfl, hPl, hP, hI, hE⟩ := hrel
    have HP := hide hP
    have hPl10 : P.length ≤ 1000 := by omega
    have HPl := hide hPl
    clear hP hPl
    by_cases hk2 : k = n2
    · subst hk2
      by_cases hi1 : i = n1
      · subst hi1
        have HR := hide (show P = res by
          have := HP.out
          have e1 := HN1.out
          have e2 := HN2.out
          rw [e1, e2] at this
          exact HE.out P this)
        have hx1 : ¬ ((i : Int) < (i : Int)) := by omega
        have hx2 : ¬ ((k : Int) < (k : Int)) := by omega
        go_wp2
        go_ret
        exact ⟨_, rfl, by rw [← HR.out]; exact hI, hE⟩
      · have hi2 : i < n1 := by omega
        obtain ⟨g, q, C, rfl, j1, j2, j3, j4⟩ := ((F1.out i (by rw [← HN1.out]; exact hi2)).ext hE).ex
        have HP2 := hide (HM.out i k P (by rw [← HN1.out]; exact hi2) (.inl HN2.out) HP.out)
        generalize X1.getD i (0, []) = it at *
        have hd1 : (i : Int) < (n1 : Int) := by omega
        have hq2 : ((k : Int) == (k : Int)) = true := by simp
        clear hi1
        go_wp2_with fail
        go_quiet (fail)
        have hEq : Ext wr (wr.drewN nq) := (Ext.refl wr).drewN nq
        generalize wr.drewN nq = w3 at hEq ⊢
        have hg : g < wr.heap.size := World.block_lt_of_cell? wr _ j1
        have j1' := (hEq.cell hg).trans j1
        have j2' := (hEq.cell hg).trans j2
        have hI3 := hI.ext hEq
        have hE3 := hE.trans hEq
        have hb3 := hE3.le
        clear j1 j2 hI
        go_wp2_with (at_builtin; refine wpList_appY rfl (.tmp 41) (.tmp 46) rfl rfl hI3 (j3.ext hEq) rfl hPl10 hb3 ?_; intro v5 w5 hI5 hG5 hN5)
        have hEa := extNew w3 (.cells #[.int .u64 ((it.1 : Nat) : Int), .slice q it.2.length C] 85)
        have hE5 : Ext w w5 := Below.grown (hE3.trans hEa) hG5 (hE3.trans hEa).le (fun k hk => (hI3.lt k hk).1)
        go_roundw
        case rel => exact ⟨i + 1, k, _, by omega, by omega, by go_num, rfl, by rw [List.length_append, HPl.out, List.length_singleton]; omega, HP2.out, hI5, hE5⟩
        case measure => simp [intOf]; omega
    · have hk3 : k < n2 := by omega
      have hkI : (k : Int) < (n2 : Int) := by omega
      have hq2 : ((k : Int) == (n2 : Int)) = false := by simp; omega
      obtain ⟨g2, q2, C2, rfl, m1, m2, m3, m4⟩ := ((F2.out k (by rw [← HN2.out]; exact hk3)).ext hE).ex
      by_cases hi1 : i = n1
      · subst hi1
        have HP2 := hide (HS.out i k P (by rw [← HN2.out]; exact hk3) (.inl HN1.out) HP.out)
        generalize X2.getD k (0, []) = it at *
        have hx1 : ¬ ((i : Int) < (i : Int)) := by omega
        have hd1 : decide ((i : Int) < (i : Int)) = false := decide_eq_false (by omega)
        clear hk2
        go_wp2_with fail
        go_quiet (fail)
        have hEq : Ext wr (wr.drewN nq) := (Ext.refl wr).drewN nq
        generalize wr.drewN nq = w3 at hEq ⊢
        have hg : g2 < wr.heap.size := World.block_lt_of_cell? wr _ m1
        have j1' := (hEq.cell hg).trans m1
        have j2' := (hEq.cell hg).trans m2
        have hI3 := hI.ext hEq
        have hE3 := hE.trans hEq
        have hb3 := hE3.le
        clear m1 m2 hI
        go_wp2_with (at_builtin; refine wpList_appY rfl (.tmp 50) (.tmp 55) rfl rfl hI3 (m3.ext hEq) rfl hPl10 hb3 ?_; intro v5 w5 hI5 hG5 hN5)
        have hEa := extNew w3 (.cells #[.int .u64 ((it.1 : Nat) : Int), .slice q2 it.2.length C2] 85)
        have hE5 : Ext w w5 := Below.grown (hE3.trans hEa) hG5 (hE3.trans hEa).le (fun k hk => (hI3.lt k hk).1)
        go_roundw
        case rel => exact ⟨i, k + 1, _, by omega, by omega, rfl, by go_num, by rw [List.length_append, HPl.out, List.length_singleton]; omega, HP2.out, hI5, hE5⟩
        case measure => simp [intOf]; omega
      · have hi2 : i < n1 := by omega
        have hd1 : (i : Int) < (n1 : Int) := by omega
        have hd1b : decide ((i : Int) < (n1 : Int)) = true := decide_eq_true hd1
        obtain ⟨g, q, C, rfl, j1, j2, j3, j4⟩ := ((F1.out i (by rw [← HN1.out]; exact hi2)).ext hE).ex
        by_cases hle : (X1.getD i (0, [])).1 ≤ (X2.getD k (0, [])).1
        · have HP2 := hide (HM.out i k P (by rw [← HN1.out]; exact hi2) (.inr ⟨by rw [← HN2.out]; exact hk3, hle⟩) HP.out)
          generalize X1.getD i (0, []) = it at *
          generalize X2.getD k (0, []) = it2 at *
          have hleI : ((it.1 : Nat) : Int) ≤ ((it2.1 : Nat) : Int) := by omega
          have hled : decide (((it.1 : Nat) : Int) ≤ ((it2.1 : Nat) : Int)) = true := decide_eq_true hleI
          clear hk2 hi1 hle
          go_wp2_with fail
          go_quiet (fail)
          have hEq : Ext wr (wr.drewN nq) := (Ext.refl wr).drewN nq
          generalize wr.drewN nq = w3 at hEq ⊢
          have hg : g < wr.heap.size := World.block_lt_of_cell? wr _ j1
          have j1' := (hEq.cell hg).trans j1
          have j2' := (hEq.cell hg).trans j2
          have hI3 := hI.ext hEq
          have hE3 := hE.trans hEq
          have hb3 := hE3.le
          clear j1 j2 hI m1 m2
          go_wp2_with (at_builtin; refine wpList_appY rfl (.tmp 41) (.tmp 46) rfl rfl hI3 (j3.ext hEq) rfl hPl10 hb3 ?_; intro v5 w5 hI5 hG5 hN5)
          have hEa := extNew w3 (.cells #[.int .u64 ((it.1 : Nat) : Int), .slice q it.2.length C] 85)
          have hE5 : Ext w w5 := Below.grown (hE3.trans hEa) hG5 (hE3.trans hEa).le (fun k hk => (hI3.lt k hk).1)
          go_roundw
          case rel => exact ⟨i + 1, k, _, by omega, by omega, by go_num, rfl, by rw [List.length_append, HPl.out, List.length_singleton]; omega, HP2.out, hI5, hE5⟩
          case measure => simp [intOf]; omega
        · have HP2 := hide (HS.out i k P (by rw [← HN2.out]; exact hk3) (.inr ⟨by rw [← HN1.out]; exact hi2, hle⟩) HP.out)
          generalize X1.getD i (0, []) = it1 at *
          generalize X2.getD k (0, []) = it at *
          have hled : decide (((it1.1 : Nat) : Int) ≤ ((it.1 : Nat) : Int)) = false := decide_eq_false (by omega)
          have hleN : decide (it1.1 ≤ it.1) = false := decide_eq_false hle
          clear hk2 hi1
          go_wp2_with fail
          go_quiet (fail)
          have hEq : Ext wr (wr.drewN nq) := (Ext.refl wr).drewN nq
          generalize wr.drewN nq = w3 at hEq ⊢
          have hg : g2 < wr.heap.size := World.block_lt_of_cell? wr _ m1
          have j1' := (hEq.cell hg).trans m1
          have j2' := (hEq.cell hg).trans m2
          have hI3 := hI.ext hEq
          have hE3 := hE.trans hEq
          have hb3 := hE3.le
          clear j1 j2 hI m1 m2
          go_wp2_with (at_builtin; refine wpList_appY rfl (.tmp 50) (.tmp 55) rfl rfl hI3 (m3.ext hEq) rfl hPl10 hb3 ?_; intro v5 w5 hI5 hG5 hN5)
          have hEa := extNew w3 (.cells #[.int .u64 ((it.1 : Nat) : Int), .slice q2 it.2.length C2] 85)
          have hE5 : Ext w w5 := Below.grown (hE3.trans hEa) hG5 (hE3.trans hEa).le (fun k hk => (hI3.lt k hk).1)
          go_roundw
          case rel => exact ⟨i, k + 1, _, by omega, by omega, rfl, by go_num, by rw [List.length_append, HPl.out, List.length_singleton]; omega, HP2.out, hI5, hE5⟩
          case measure => simp [intOf]; omega
end Go.Proofs.YthpbckignppaiaaGreatDoor

namespace Go.Proofs.YthpbckignppaiaaGreatDoor
open Go.RowKit Len
def SrcY (w : World) (S : Option Addr) (m : Nat) (Y : List RawI) : Prop := Y.length = m ∧ (m = 0 ∨ ∃ g off, S = some ⟨g, off, none⟩ ∧ ∀ i, i < m → w.cell? ⟨g, off + i * 2, none⟩ = some (.int .u64 (((Y.getD i (0, undef)).1 : Nat) : Int)) ∧ w.cell? ⟨g, off + (i * 2 + 1), none⟩ = some (Y.getD i (0, undef)).2)
section
variable {w w' : World} {base : Nat} {v : Value} {Y : List RawI} {X : List Len.Item} {A : Option Addr}
theorem SrcY.take {n k : Nat} (h : SrcY w A n Y) (hk : k ≤ n) : SrcY w A k (Y.take k) := by
  refine ⟨by rw [List.length_take, h.1]; omega, ?_⟩
  rcases h.2 with h0 | ⟨g, off, e, hc⟩
  · exact .inl (by omega)
  · refine .inr ⟨g, off, e, fun i hi => ?_⟩
    have e2 : (Y.take k).getD i (0, undef) = Y.getD i (0, undef) := by simp [List.getD_eq_getElem?_getD, hi]
    rw [e2]
    exact hc i (by omega)
theorem SrcY.drop {n k c : Nat} (h : SrcY w A n Y) (hk : k ≤ n) (hc : n ≤ c) : SrcY w (cutAt A (c * 2) (k * 2)) (n - k) (Y.drop k) := by
  refine ⟨by rw [List.length_drop, h.1], ?_⟩
  by_cases hkn : k = n
  · exact .inl (by omega)
  rcases h.2 with h0 | ⟨g, off, rfl, hcell⟩
  · exact .inl (by omega)
  · refine .inr ⟨g, off + k * 2, by simp [cutAt, show ¬ c * 2 = k * 2 by omega, Addr.add], fun i hi => ?_⟩
    have e2 : (Y.drop k).getD i (0, undef) = Y.getD (k + i) (0, undef) := by simp [List.getD_eq_getElem?_getD]
    rw [e2, show off + k * 2 + i * 2 = off + (k + i) * 2 by omega, show off + k * 2 + (i * 2 + 1) = off + ((k + i) * 2 + 1) by omega]
    exact hcell (k + i) (by omega)
theorem SaysY.take {B k : Nat} (h : SaysY w B Y X) : SaysY w B (Y.take k) (X.take k) := by
  refine ⟨by rw [List.length_take, List.length_take, h.1], fun i hi => ?_⟩
  rw [List.length_take] at hi
  have e1 : (Y.take k).getD i (0, undef) = Y.getD i (0, undef) := by simp [List.getD_eq_getElem?_getD, show i < k by omega]
  have e2 : (X.take k).getD i (0, []) = X.getD i (0, []) := by simp [List.getD_eq_getElem?_getD, show i < k by omega]
  rw [e1, e2]
  exact h.2 i (by omega)
theorem SaysY.drop {B k : Nat} (h : SaysY w B Y X) : SaysY w B (Y.drop k) (X.drop k) := by
  refine ⟨by rw [List.length_drop, List.length_drop, h.1], fun i hi => ?_⟩
  rw [List.length_drop] at hi
  have e1 : (Y.drop k).getD i (0, undef) = Y.getD (k + i) (0, undef) := by simp [List.getD_eq_getElem?_getD]
  have e2 : (X.drop k).getD i (0, []) = X.getD (k + i) (0, []) := by simp [List.getD_eq_getElem?_getD]
  rw [e1, e2]
  exact h.2 (k + i) (by omega)
theorem ItL.src (h : ItL w base v X) : ∃ A c Y, v = .slice A X.length c ∧ X.length ≤ c ∧ c ≤ maxLen ∧ SrcY w A X.length Y ∧ SaysY w w.heap.size Y X := by
  obtain ⟨Y, h1, h2⟩ := h
  obtain ⟨A, c, rfl, hc, hm, hA⟩ := h1.form
  have hl := h2.1
  rw [hl] at hc hA ⊢
  refine ⟨A, c, Y, rfl, hc, hm, ⟨hl, hA.imp_right fun ⟨g, e, hg⟩ => ⟨g, 0, e, fun i hi => ?_⟩⟩, h2⟩
  rw [Nat.zero_add, Nat.zero_add]
  exact hg i hi
end
theorem run_appY_zero (w : World) (ty : TypeId) (base : Nat) (v : Value) (Y : List RawI) (hown : OwnY w base v Y) (A : Option Addr) (c : Nat) :
    (Builtin.append_ #[82, 82] ty #[v, .slice A 0 c]).run Tryz.prog w = .ok v w := by
  obtain ⟨i, hi, _, _, _⟩ := info_parts item_info
  rcases hown.2 with ⟨rfl, _⟩ | ⟨g, cap, cur, rfl, _, _, hnc, _⟩
  · cases A <;> simp [Builtin.append_, run_underlying Tryz.underlying82, sizeOf, typeInfo, hi, Builtin.lenOf, Builtin.firstCells, loadCells, loadCellsFrom]
  · cases A <;> simp [Builtin.append_, run_underlying Tryz.underlying82, sizeOf, typeInfo, hi, Builtin.lenOf, Builtin.firstCells, loadCells, loadCellsFrom, hnc, storeCells]
theorem app_says {w w' : World} {B C : Nat} {Y Y2 : List RawI} {X Z : List Len.Item} (h1 : SaysY w B Y X) (h2 : SaysY w' C Y2 Z) (h1' : SaysY w' C Y X) : SaysY w' C (Y ++ Y2) (X ++ Z) := by
  have hl := h1.1
  have hl2 := h2.1
  refine ⟨by simp [hl, hl2], fun j hj => ?_⟩
  by_cases hjl : j < X.length
  · have e1 : (X ++ Z).getD j (0, []) = X.getD j (0, []) := by simp [List.getD_eq_getElem?_getD, List.getElem?_append_left hjl]
    have e2 : (Y ++ Y2).getD j (0, undef) = Y.getD j (0, undef) := by simp [List.getD_eq_getElem?_getD, List.getElem?_append_left (by omega : j < Y.length)]
    rw [e1, e2]
    exact h1'.2 j hjl
  · have e1 : (X ++ Z).getD j (0, []) = Z.getD (j - X.length) (0, []) := by simp [List.getD_eq_getElem?_getD, List.getElem?_append_right (Nat.le_of_not_lt hjl)]
    have e2 : (Y ++ Y2).getD j (0, undef) = Y2.getD (j - X.length) (0, undef) := by rw [← hl]; simp [List.getD_eq_getElem?_getD, List.getElem?_append_right (by omega : Y.length ≤ j)]
    rw [e1, e2]
    rw [List.length_append] at hj
    exact h2.2 _ (by omega)
section
variable {o : Oper} {a : Act} {Q : Exit → Act → World → Prop} {w : World} {base : Nat} {v : Value} {X Z : List Len.Item} {Y2 : List RawI}
set_option maxRecDepth 100000 in
theorem wpList_appYs {ops : Array Oper} {rest : List Oper} (hgd : o.guard = none) (s x : Operand) (ho : o.op = .call { callee := .builtin .append, args := #[s, x], argTypes := #[82, 82] }) (hs : a.eval s = v)
    (hown : ItL w base v X) {S : Option Addr} {m c : Nat} (hx : a.eval x = .slice S m c) (hsrc : SrcY w S m Y2) (hsay : SaysY w w.heap.size Y2 Z) (hlen : X.length ≤ 1000) (hm : m ≤ 1000) (hbase : base ≤ w.heap.size)
    (h : ∀ v' w', ItL w' base v' (X ++ Z) → w.grownBy w' v.ownBlock → (v'.ownBlock = v.ownBlock ∨ v'.ownBlock = some w.heap.size) → wpList Tryz.prog ops Q rest (a.put o.dst v') w') :
    wpList Tryz.prog ops Q (o :: rest) a w := by
  obtain ⟨Y, h1, h2⟩ := hown
  obtain ⟨hl2, hcs⟩ := hsrc
  rcases hcs with rfl | ⟨g, off, rfl, hc⟩
  · obtain rfl := List.eq_nil_of_length_eq_zero hl2
    have hz : Z = [] := List.eq_nil_of_length_eq_zero hsay.1.symm
    subst hz
    have hr := run_appY_zero w o.type base v Y h1 S c
    refine wpList_plain hgd fun K hK => ?_
    unfold Oper.wp execOp
    simp only [ho, resolve, invoke, builtin, Sem.run_bind, Sem.run_pure, Result.andThen_ok, List.map_toArray, List.map_cons, List.map_nil, hs, hx, hr]
    exact hK _ _ (h v w (by rw [List.append_nil]; exact ⟨Y, h1, h2⟩) (World.grownBy.refl w _) (.inl rfl))
  · obtain ⟨i, hi, hz, hsz, hby⟩ := info_parts item_info
    refine wpList_append_own_at _ hgd s x 82 ho base 85 i _ 2 32 Tryz.underlying82 hi hz hsz hby rfl (by omega) v Y.length (Y.flatMap rawC) hs h1 ⟨g, off, none⟩ m c (Y2.flatMap rawC) hx (by rw [rawC_len, hl2]) (by
      intro j u hu
      have hj : j < m * 2 := by
        have := (List.getElem?_eq_some_iff.1 hu).1
        rw [rawC_len, hl2] at this
        exact this
      rw [show (⟨g, off, none⟩ : Addr).add j = ⟨g, off + j, none⟩ by unfold Addr.add; split <;> simp_all]
      obtain ⟨k1, k2⟩ := hc (j / 2) (by omega)
      have hd : j = j / 2 * 2 + j % 2 := by omega
      rw [hd, rawC_get Y2 (j / 2) (j % 2) (by omega) (by omega)] at hu
      rcases (show j % 2 = 0 ∨ j % 2 = 1 by omega) with e | e
      · rw [e] at hu
        rw [show off + j = off + j / 2 * 2 by omega, k1]
        simpa [rawC] using hu
      · rw [e] at hu
        rw [show off + j = off + (j / 2 * 2 + 1) by omega, k2]
        simpa [rawC] using hu) (by
      intro u hu
      obtain ⟨y, hy, hu2⟩ := List.mem_flatMap.1 hu
      obtain ⟨p, hp, rfl⟩ := List.mem_iff_getElem.1 hy
      have hs2 := (hsay.2 p (by have := hsay.1; omega)).2.1
      rw [List.getD_eq_getElem?_getD, List.getElem?_eq_getElem hp] at hs2
      obtain ⟨q, C, hq, _, _⟩ := hs2.form
      simp only [rawC, List.mem_cons, List.not_mem_nil, or_false] at hu2
      rcases hu2 with rfl | rfl
      · rfl
      · have e3 : (Y2[p]'hp).2 = .slice q _ C := hq
        rw [e3]
        rfl) (by have := h2.1; unfold maxLen; omega) (by have := h2.1; omega) hbase ?_
    intro v' w' h4 h5 _ h6
    have hS := h5.size
    refine h v' w' ⟨Y ++ Y2, ?_, ?_⟩ h5 h6
    · unfold OwnY
      rw [List.length_append, List.flatMap_append, hl2]
      exact h4
    · exact app_says h2 ((hsay.grownY h1 h5).up hS) ((h2.grownY h1 h5).up hS)
theorem wpList_appLs {u : Value} {L M : List Int} {b2 : Nat} {ops : Array Oper} {rest : List Oper} (hgd : o.guard = none) (s x : Operand) (ho : o.op = .call { callee := .builtin .append, args := #[s, x], argTypes := #[83, 83] }) (hs : a.eval s = v)
    (hown : OwnL w base v L) {n : Nat} {S : Option Addr} {c : Nat} (hu : u = .slice S n c) (hx : a.eval x = .slice S n c) (hM : OwnL w b2 u M) (hn : M.length = n) (hlen : L.length ≤ 10000000) (hm : n ≤ 10000000) (hbase : base ≤ w.heap.size)
    (h : ∀ v' w', OwnL w' base v' (L ++ M) → w.grownBy w' v.ownBlock → (v'.ownBlock = v.ownBlock ∨ v'.ownBlock = some w.heap.size) → wpList Tryz.prog ops Q rest (a.put o.dst v') w') :
    wpList Tryz.prog ops Q (o :: rest) a w := by
  subst hu
  subst hn
  obtain ⟨i, hi, hz, hsz, hby⟩ := info_parts intL_info
  obtain ⟨S', c', e, _, hI⟩ := hM.form
  simp only [Value.slice.injEq] at e
  obtain ⟨rfl, _, rfl⟩ := e
  rcases hI.2 with h0 | ⟨g, off, rfl, _, hc⟩
  · obtain rfl := List.eq_nil_of_length_eq_zero h0
    have hr : (Builtin.append_ #[83, 83] o.type #[v, .slice S 0 c]).run Tryz.prog w = .ok v w := by
      rcases hown.2 with ⟨rfl, _⟩ | ⟨g, cap, cur, rfl, _, _, hnc, _⟩
      · cases S <;> simp [Builtin.append_, run_underlying Tryz.underlying83, sizeOf, typeInfo, hi, Builtin.lenOf, Builtin.firstCells, loadCells, loadCellsFrom]
      · cases S <;> simp [Builtin.append_, run_underlying Tryz.underlying83, sizeOf, typeInfo, hi, Builtin.lenOf, Builtin.firstCells, loadCells, loadCellsFrom, hnc, storeCells]
    refine wpList_plain hgd fun K hK => ?_
    unfold Oper.wp execOp
    simp only [ho, resolve, invoke, builtin, Sem.run_bind, Sem.run_pure, Result.andThen_ok, List.map_toArray, List.map_cons, List.map_nil, hs, hx, List.length_nil, hr]
    exact hK _ _ (h v w (by rw [List.append_nil]; exact hown) (World.grownBy.refl w _) (.inl rfl))
  · refine wpList_append_own_at _ hgd s x 83 ho base 3 i _ 1 8 Tryz.underlying83 hi hz hsz hby rfl (by omega) v L.length (L.map (Value.int .i64)) hs hown ⟨g, off, none⟩ M.length c (M.map (Value.int .i64)) hx (by simp) (by
      intro j u hu
      have hj : j < M.length := by
        have := (List.getElem?_eq_some_iff.1 hu).1
        simpa using this
      rw [show (⟨g, off, none⟩ : Addr).add j = ⟨g, off + j, none⟩ by unfold Addr.add; split <;> simp_all, hc j hj]
      rw [List.getElem?_map, List.getElem?_eq_getElem hj] at hu
      rw [List.getD_eq_getElem?_getD, List.getElem?_eq_getElem hj]
      simpa using hu) (by
      intro u hu
      obtain ⟨x, _, rfl⟩ := List.mem_map.1 hu
      rfl) (by unfold maxLen; omega) (by omega) hbase ?_
    intro v' w' h2 h3 _ h5
    refine h v' w' ?_ h3 h5
    unfold OwnL
    rw [List.length_append, List.map_append]
    exact h2
end
theorem insI_split (x : Len.Item) : ∀ (l : List Len.Item) (k : Nat), k ≤ l.length → (∀ t, t < k → (l.getD t (0, [])).1 ≤ x.1) → (k < l.length → x.1 < (l.getD k (0, [])).1) → insI x l = (l.take k ++ [x]) ++ l.drop k
  | [], k, hk, _, _ => by
    obtain rfl : k = 0 := by simpa using hk
    rfl
  | a :: l, 0, _, _, h2 => by
    have := h2 (by simp)
    rw [insI, if_neg (by simpa using this)]
    rfl
  | a :: l, k + 1, hk, h1, h2 => by
    have ha := h1 0 (by omega)
    rw [insI, if_pos (by simpa using ha), insI_split x l k (by simpa using hk) (fun t ht => by simpa using h1 (t + 1) (by omega)) (fun h => by simpa using h2 (by simpa using h))]
    rfl
end Go.Proofs.YthpbckignppaiaaGreatDoor

namespace Go.Proofs.YthpbckignppaiaaGreatDoor
open Go.RowKit Len
theorem run_headY (W : World) (a : Option Addr) (n c : Nat) (k : IntKind) (h : Int) (h0 : 0 ≤ h) (h1 : h ≤ c) :
    (Instr.slice 82 (.slice a n c) none (some (.int k h)) none).run Tryz.prog W = .ok (.slice (cutAt a (c * 2) (0 * 2)) h.toNat c) W := by
  rw [run_slice_h (P := Tryz.prog) (w := W) 82 a n c (by kernel_rfl) k h h0 h1]
  have hs : (sizeOf (Tryz.prog.elem 82)).run Tryz.prog W = .ok 2 W := by kernel_rfl
  rw [hs]
  have e : (c * 2 = 0 * 2) = (c = 0) := propext ⟨fun h => by omega, fun h => by omega⟩
  simp only [Result.andThen, sliced, cutAt, e, Nat.sub_zero]
theorem run_cutY (W : World) (a : Option Addr) (n c : Nat) (k : IntKind) (l : Int) (h0 : 0 ≤ l) (h1 : l ≤ n) :
    (Instr.slice 82 (.slice a n c) (some (.int k l)) none none).run Tryz.prog W = .ok (.slice (cutAt a (c * 2) (l.toNat * 2)) (n - l.toNat) (c - l.toNat)) W := by
  rw [run_slice_l (P := Tryz.prog) (w := W) 82 a n c (by kernel_rfl) k l h0 h1]
  have hs : (sizeOf (Tryz.prog.elem 82)).run Tryz.prog W = .ok 2 W := by kernel_rfl
  rw [hs]
  have e : (c * 2 = l.toNat * 2) = (c = l.toNat) := propext ⟨fun h => by omega, fun h => by omega⟩
  simp only [Result.andThen, sliced, cutAt, e]
theorem SrcY.head {w : World} {A : Option Addr} {n c k : Nat} {Y : List RawI} (h : SrcY w A n Y) (hk : k ≤ n) (hc : n ≤ c) : SrcY w (cutAt A (c * 2) (0 * 2)) k (Y.take k) := by
  have := (h.drop (k := 0) (Nat.zero_le n) hc).take (k := k) (by omega)
  simpa using this
theorem SrcY.extN {w w' : World} {A : Option Addr} {n : Nat} {Y : List RawI} (h : SrcY w A n Y) (hE : Ext w w') : SrcY w' A n Y := by
  refine ⟨h.1, h.2.imp_right fun ⟨g, off, e, hc⟩ => ⟨g, off, e, fun i hi => ?_⟩⟩
  obtain ⟨k1, k2⟩ := hc i hi
  have hg : g < w.heap.size := World.block_lt_of_cell? w _ k1
  exact ⟨(hE.cell hg).trans k1, (hE.cell hg).trans k2⟩
theorem OwnL.one (w : World) (p : Int) {base : Nat} (h : base ≤ w.heap.size) : OwnL (w.alloc (.cells #[.int .i64 p] 3)) base (.slice (some ⟨w.heap.size, 0, none⟩) 1 1) [p] := by
  have := World.ownsRow_lit (e := 3) (size := 1) w #[.int .i64 p] 1 h (by unfold maxLen; omega) (by simp)
  simpa [OwnL] using this
theorem OwnL.mono {w : World} {base base' : Nat} {v : Value} {L : List Int} (h : OwnL w base v L) (hb : base' ≤ base) : OwnL w base' v L :=
  ⟨h.1, h.2.imp_right fun ⟨g, cap, cur, e, hg, r⟩ => ⟨g, cap, cur, e, Nat.le_trans hb hg, r⟩⟩
theorem wpList_appYg {o : Oper} {a : Act} {Q : Exit → Act → World → Prop} {w : World} {base g : Nat} {v : Value} {X : List Len.Item} {ops : Array Oper} {rest : List Oper} (hgd : o.guard = none) (s x : Operand) (ho : o.op = .call { callee := .builtin .append, args := #[s, x], argTypes := #[82, 82] }) (hs : a.eval s = v) {q : Option Addr} {C : Nat} {it : Len.Item}
    (hg : g = w.heap.size) (hown : ItL w base v X) (hit : OwnL w 0 (.slice q it.2.length C) (it.2.map Int.ofNat)) {c : Nat} (hx : a.eval x = .slice (some ⟨g, 0, none⟩) 1 c) (hlen : X.length ≤ 1000) (hbase : base ≤ w.heap.size)
    (h : ∀ v' w', ItL w' base v' (X ++ [it]) → (w.alloc (.cells #[.int .u64 ((it.1 : Nat) : Int), .slice q it.2.length C] 85)).grownBy w' v.ownBlock → (v'.ownBlock = v.ownBlock ∨ v'.ownBlock = some (w.heap.size + 1)) → wpList Tryz.prog ops Q rest (a.put o.dst v') w') :
    wpList Tryz.prog ops Q (o :: rest) a (w.alloc (.cells #[.int .u64 ((it.1 : Nat) : Int), .slice q it.2.length C] 85)) := by
  subst hg
  exact wpList_appY hgd s x ho hs hown hit hx hlen hbase h
theorem ItL.byte {w w' : World} {base b2 g n c : Nat} {v : Value} {X : List Len.Item} {O : List UInt8} (h : ItL w base v X) (hO : OwnB w b2 (.slice (some ⟨g, 0, none⟩) n c) O) (hG : w.grownBy w' (some g)) : ItL w' base v X := by
  obtain ⟨Y, h1, h2⟩ := h
  have hg : ∃ x, w.heap[g]? = some (.cells x 5) := by
    rcases hO.2 with ⟨e, _⟩ | ⟨g1, c1, cur1, e, _, hh, _⟩
    · cases e
    · simp only [Value.slice.injEq, Option.some.injEq, Addr.mk.injEq, and_true] at e
      obtain ⟨rfl, _⟩ := e
      exact ⟨_, hh⟩
  obtain ⟨x, hx⟩ := hg
  refine ⟨Y, World.ownsRow.kept h1 hG (.inr fun e => ?_), h2.1, fun i hi => ⟨(h2.2 i hi).1, World.ownsRow.kept (h2.2 i hi).2.1 hG (.inr fun e => ?_), fun k hk => Nat.lt_of_lt_of_le ((h2.2 i hi).2.2 k hk) hG.size⟩⟩
  · rcases h1.2 with ⟨rfl, _⟩ | ⟨g2, c2, cur2, rfl, _, hh, _⟩
    · cases e
    · simp only [Value.ownBlock, Option.some.injEq] at e
      subst e
      rw [hx] at hh
      simp only [Option.some.injEq, Obj.cells.injEq] at hh
      exact absurd hh.2.1 (by decide)
  · rcases (h2.2 i hi).2.1.2 with ⟨e2, _⟩ | ⟨g2, c2, cur2, e2, _, hh, _⟩
    · rw [e2] at e
      cases e
    · rw [e2] at e
      simp only [Value.ownBlock, Option.some.injEq] at e
      subst e
      rw [hx] at hh
      simp only [Option.some.injEq, Obj.cells.injEq] at hh
      exact absurd hh.2.1 (by decide)
set_option maxRecDepth 100000 in
theorem wp_appY {o : Oper} {a : Act} {K : Act → World → Prop} {Q : Exit → Act → World → Prop} {w : World} {base : Nat} {v : Value} {X : List Len.Item} (s x : Operand) (ho : o.op = .call { callee := .builtin .append, args := #[s, x], argTypes := #[82, 82] }) (hs : a.eval s = v) {q : Option Addr} {C : Nat} {it : Len.Item}
    (hown : ItL w base v X) (hit : OwnL w 0 (.slice q it.2.length C) (it.2.map Int.ofNat)) {c : Nat} (hx : a.eval x = .slice (some ⟨w.heap.size, 0, none⟩) 1 c) (hlen : X.length ≤ 1000) (hbase : base ≤ w.heap.size)
    (h : ∀ v' w', ItL w' base v' (X ++ [it]) → (w.alloc (.cells #[.int .u64 ((it.1 : Nat) : Int), .slice q it.2.length C] 85)).grownBy w' v.ownBlock → K (a.put o.dst v') w') :
    o.wp Tryz.prog a (w.alloc (.cells #[.int .u64 ((it.1 : Nat) : Int), .slice q it.2.length C] 85)) K Q := by
  obtain ⟨Y, h1, h2⟩ := hown
  obtain ⟨i, hi, hz, hsz, hby⟩ := info_parts item_info
  have hE := extNew w (.cells #[.int .u64 ((it.1 : Nat) : Int), .slice q it.2.length C] 85)
  have h1E := h1.ext hE
  obtain ⟨v', w', hr, h4, h5, _, _⟩ := run_append_own_at (P := Tryz.prog) _ base 82 o.type 85 i _ 2 32 Tryz.underlying82 hi hz hsz hby rfl (by omega) v Y.length (Y.flatMap rawC) h1E ⟨w.heap.size, 0, none⟩ 1 c (rawC (it.1, .slice q it.2.length C)) rfl (by
    intro j u hu
    rw [show (⟨w.heap.size, 0, none⟩ : Addr).add j = ⟨w.heap.size, j, none⟩ by unfold Addr.add; split <;> simp_all, cellNew]
    match j, hu with
    | 0, hu => simpa [rawC] using hu
    | 1, hu => simpa [rawC] using hu
    | j + 2, hu => simp [rawC] at hu) (by
    intro u hu
    simp [rawC] at hu
    rcases hu with rfl | rfl <;> rfl) (by unfold maxLen; have := h2.1; omega) (by have := h2.1; omega) (by simp; omega)
  unfold Oper.wp execOp
  simp only [ho, resolve, invoke, builtin, Sem.run_bind, Sem.run_pure, Result.andThen_ok, List.map_toArray, List.map_cons, List.map_nil, hs, hx, hr]
  have hS := h5.size
  rw [World.size_alloc] at hS
  refine h v' w' ⟨Y ++ [(it.1, .slice q it.2.length C)], ?_, ?_⟩ h5
  · unfold OwnY
    rw [List.length_append, List.flatMap_append]
    simpa using h4
  · have k1 := ((h2.ext hE).grownY h1E h5).up (C := w'.heap.size) (by omega)
    have k2 : OwnL w' 0 (.slice q it.2.length C) (it.2.map Int.ofNat) := World.ownsRow.kept (hit.ext hE) h5 (by
      cases hb : v.ownBlock with
      | none => cases (Value.slice q it.2.length C).ownBlock <;> simp
      | some g => exact .inr ((hit.ext hE).notY h1E hb))
    refine ⟨by simp [h2.1], fun j hj => ?_⟩
    have hl := h2.1
    by_cases hjl : j < X.length
    · have e1 : (X ++ [it]).getD j (0, []) = X.getD j (0, []) := by simp [List.getD_eq_getElem?_getD, List.getElem?_append_left hjl]
      have e2 : (Y ++ [(it.1, Value.slice q it.2.length C)]).getD j (0, undef) = Y.getD j (0, undef) := by simp [List.getD_eq_getElem?_getD, List.getElem?_append_left (by omega : j < Y.length)]
      rw [e1, e2]
      exact k1.2 j hjl
    · have hjx : j = X.length := by simp at hj; omega
      subst hjx
      have e1 : (X ++ [it]).getD X.length (0, []) = it := by simp [List.getD_eq_getElem?_getD]
      have e2 : (Y ++ [(it.1, Value.slice q it.2.length C)]).getD X.length (0, undef) = (it.1, .slice q it.2.length C) := by rw [← hl]; simp [List.getD_eq_getElem?_getD]
      rw [e1, e2]
      exact ⟨rfl, k2, fun k hk => (k2.lt k hk).2⟩
end Go.Proofs.YthpbckignppaiaaGreatDoor

