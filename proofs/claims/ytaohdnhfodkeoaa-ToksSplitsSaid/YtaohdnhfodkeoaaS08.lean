/- The program's writer of tokens: putCode, writerOf. The program's writer of tokens: putPiece. What is read of any bits: its steps, and that it may be. Plain mathematics of chapter 11. The document's Read of chapter 8: the walk. The document's Read of chapter 11. What the laws of chapter 8 ask of Read; the law CanonReads. Contract of the program's Read. The program's reader of tokens: number, code, readerOf. -/
import Derived.Test.YtaohdnhfodkeoaaS01
import Derived.Test.YtaohdnhfodkeoaaS03
import Derived.Test.YtaohdnhfodkeoaaS04
import Derived.Test.YtaohdnhfodkeoaaS05
import Derived.Test.YtaohdnhfodkeoaaS06
import Derived.Test.YtaohdnhfodkeoaaS07
import Derived.StillTailTactics
import Derived.Deep.DeepCutAuto
namespace Go.Proofs.Ytaohdnhfodkeoaa
open Go.RowKit Lz Tok Len Can Huf
theorem WrtX.set2 {t : TypeId} {a b u : Value} {w : World} {base g : Nat} {ob : Option Nat} {B : List Bool} (h : WrtX t [a, b] w base g ob B) : WrtX t [u, b] (w.setCell ⟨g, 2, none⟩ u) base g ob B := by
  obtain ⟨v, l, ⟨hW, hO, hne, hb⟩, hP, rfl⟩ := h
  refine ⟨v, l, ⟨?_, hO.far hne 2 u, hne, hb⟩, hP, rfl⟩
  have := hW.set 2 u
  simpa using this
theorem WrtX.set3 {t : TypeId} {a b u : Value} {w : World} {base g : Nat} {ob : Option Nat} {B : List Bool} (h : WrtX t [a, b] w base g ob B) : WrtX t [a, u] (w.setCell ⟨g, 3, none⟩ u) base g ob B := by
  obtain ⟨v, l, ⟨hW, hO, hne, hb⟩, hP, rfl⟩ := h
  refine ⟨v, l, ⟨?_, hO.far hne 3 u, hne, hb⟩, hP, rfl⟩
  have := hW.set 3 u
  simpa using this
theorem WrtX.ptrs {t : TypeId} {a b : Value} {w : World} {base g : Nat} {ob : Option Nat} {B : List Bool} (h : WrtX t [a, b] w base g ob B) : w.cell? ⟨g, 2, none⟩ = some a ∧ w.cell? ⟨g, 3, none⟩ = some b ∧ w.frozen? ⟨g, 2, none⟩ = false ∧ w.frozen? ⟨g, 3, none⟩ = false := by
  obtain ⟨v, l, ⟨hW, _⟩, _⟩ := h
  exact ⟨hW.at 2 (by simp), hW.at 3 (by simp), hW.frozen 2, hW.frozen 3⟩
def CodeTo (R : List Value) (W : World) (base g : Nat) (ob : Option Nat) (B : List Bool) (l : List UInt8) (e : Ending) (w' : World) : Prop :=
  ∃ cg lo ob', e = .returned (.pointer (some ⟨cg, 0, none⟩)) ∧ CodR w' lo w'.heap.size cg l ∧ W.heap.size ≤ lo ∧ (∀ k, ob' = some k → k < lo) ∧ WrtX 66 R w' base g ob' (B ++ wbits l) ∧ NewOb W ob ob' ∧ Mod W w' g ob
set_option maxHeartbeats 1000000 in
set_option maxRecDepth 100000 in
theorem putCode_any {R : List Value} {W : World} {base g : Nat} {ob : Option Nat} {B : List Bool} (hW : WrtX 66 R W base g ob B) (often : List Nat) (A : Option Addr) (n c : Nat) (hn : n ≤ c) (hc : c ≤ maxLen) (ho : often.length ≤ 300) (hU : U32At W W.heap.size A n often) (hB : B.length ≤ 100000) :
    Calls Try.prog 52 #[.pointer (some ⟨g, 0, none⟩), .slice A n c] W (CodeTo R W base g ob B (lensL often 15)) := by
  have C1 := lensC_any W often 15 A n c W (Ext.refl W) hn hc hU (by omega) (by omega)
  rw [lens_found ho] at C1
  have hr := right_lens (often := often) ho
  have hll : (lensL often 15).length ≤ 300 := by rw [lensL_len]; omega
  have hgl := hW.lt
  have hob := hW.ob
  have HW := hide hW
  generalize lensL often 15 = l at *
  clear hU hW ho
  unfold TellsB at C1
  dsimp only at C1
  go_enter Try.func52, Try.ntmps52
  go_wp2_with fail
  refine C1.mono ?_
  rintro e w1 ⟨v1, rfl, hV1, hE1⟩
  have hW1 := HW.out.ext hE1
  have hkeep : ∀ W', Mod w1 W' g ob → OwnB W' W.heap.size v1 l := fun W' hM => hM.own hV1 (fun e => by have := (hV1.lt g e).1; omega) (by
    cases hv : v1.ownBlock with
    | none => exact .inl rfl
    | some k =>
      refine .inr fun e => ?_
      have h1 := (hV1.lt k hv).1
      have h2 := (hob k e.symm).2
      omega)
  obtain ⟨A1, c1, rfl, hc1, hcm, _⟩ := hV1.form
  have hBy : ∀ W', Mod w1 W' g ob → Bytes W' W'.heap.size A1 l.length l := fun W' hM => (hkeep W' hM).at rfl
  have C2 := writeX_any l A1 l.length c1 w1 base g ob B hc1 hcm hBy hW1 hB
  rw [if_pos hr, check_right hr] at C2
  have HBy := hide hBy
  clear hBy hkeep hV1 C1 hW1
  go_wp2_with fail
  refine C2.mono ?_
  rintro e w2 ⟨rfl, ob2, hW2, hN2, hM2⟩
  have C3 := hufNew_any A1 l.length c1 l w2 hc1 (HBy.out w2 hM2)
  have hob2 := hW2.ob
  have HW2 := hide hW2
  have HR := hide hr
  clear C2 hW2 hr
  go_wp2_with fail
  refine C3.mono ?_
  rintro e w3 ⟨hyes, _, hE3⟩
  obtain ⟨cg, rfl, hC⟩ := hyes HR.out
  clear hyes C3
  go_wp2
  go_ret
  have hMW := (Mod.ofExt (g := g) (ob := ob) hE1)
  refine ⟨cg, w2.heap.size, ob2, rfl, hC, Nat.le_trans hE1.le hM2.size, fun k hk => (hob2 k hk).2, HW2.out.ext hE3, (NewOb.same W ob).trans hE1.le hN2, (hMW.trans hM2 (.inl rfl)).trans (Mod.ofExt (ob := ob2) hE3) ((NewOb.same W ob).trans hE1.le hN2)⟩
def WriterTo (W : World) (x y : List UInt8) (e : Ending) (w' : World) : Prop :=
  ∃ g c1 c2 lo1 hi1 lo2 hi2 ob, e = .returned (.pointer (some ⟨g, 0, none⟩)) ∧ WrtX 66 [.pointer (some ⟨c1, 0, none⟩), .pointer (some ⟨c2, 0, none⟩)] w' W.heap.size g ob (wbits x ++ wbits y) ∧
    CodR w' lo1 hi1 c1 x ∧ CodR w' lo2 hi2 c2 y ∧ g < lo1 ∧ g < lo2 ∧ (∀ k, ob = some k → k < lo1 ∨ hi1 ≤ k) ∧ (∀ k, ob = some k → k < lo2 ∨ hi2 ≤ k) ∧ Ext W w'
set_option maxHeartbeats 1000000 in
set_option maxRecDepth 100000 in
theorem writerOf_any (W : World) (s1 s2 : List Nat) (A1 A2 : Option Addr) (h1 : s1.length = 265) (h2 : s2.length = 12) (hU1 : U32At W W.heap.size A1 265 s1) (hU2 : U32At W W.heap.size A2 12 s2) :
    Calls Try.prog 31 #[.slice A1 265 265, .slice A2 12 12] W (WriterTo W (lensL s1 15) (lensL s2 15)) := by
  have hE0 := extNew W (.cells #[.slice none 0 0, .int .i64 0, .pointer none, .pointer none] 66)
  have hW0 : WrtX 66 [.pointer none, .pointer none] (W.alloc (.cells #[.slice none 0 0, .int .i64 0, .pointer none, .pointer none] 66)) W.heap.size W.heap.size none [] :=
    ⟨.slice none 0 0, [], ⟨Whole.new W _ _, OwnB.nil _ _, by simp [Value.ownBlock], Nat.le_refl _⟩, Bit.Packs.nil, rfl⟩
  have hl1 := wbits_len (lensL s1 15)
  have hl2 := wbits_len (lensL s2 15)
  rw [lensL_len, h1] at hl1
  rw [lensL_len, h2] at hl2
  have C1 := putCode_any hW0 s1 A1 265 265 (Nat.le_refl _) (by unfold maxLen; omega) (by omega) (hU1.ext hE0) (by simp)
  have HU2 := hide hU2
  clear hU1 hU2
  generalize lensL s1 15 = x at *
  generalize hy : lensL s2 15 = y at *
  go_enter Try.func31, Try.ntmps31
  go_wp2_with fail
  generalize W.alloc (.cells #[.slice none 0 0, .int .i64 0, .pointer none, .pointer none] 66) = w0 at *
  refine C1.mono ?_
  rintro e w1 ⟨cg1, lo1, ob1, rfl, hC1, hlo1, hob1, hW1, hN1, hM1⟩
  obtain ⟨p2, _, f2, _⟩ := hW1.ptrs
  rw [List.nil_append] at hW1
  have hg0 : W.heap.size < w0.heap.size := hW0.lt
  have hlh : lo1 < w1.heap.size := by have := hC1.1; have := hC1.2.1; omega
  have hM1s := (Mod.ofRow (ob := ob1) (grown_setCell w1 W.heap.size 2 (.pointer (some ⟨cg1, 0, none⟩))))
  have hC1s := CodR.keeps.mod hC1 hM1s (.inl (by omega)) (fun k hk => .inl (hob1 k hk))
  have hW1s := hW1.set2 (u := .pointer (some ⟨cg1, 0, none⟩))
  have hMs : Mod w0 (w1.setCell ⟨W.heap.size, 2, none⟩ (.pointer (some ⟨cg1, 0, none⟩))) W.heap.size none := hM1.trans hM1s hN1
  have hE1 : Ext W (w1.setCell ⟨W.heap.size, 2, none⟩ (.pointer (some ⟨cg1, 0, none⟩))) := Below.trans hE0 (hMs.below (B := W.heap.size) hE0.le (Nat.le_refl _) (fun k hk => by cases hk))
  have C2 := putCode_any hW1s s2 A2 12 12 (Nat.le_refl _) (by unfold maxLen; omega) (by omega) (HU2.out.ext hE1) (by omega)
  rw [hy] at C2
  have hsz : (w1.setCell ⟨W.heap.size, 2, none⟩ (.pointer (some ⟨cg1, 0, none⟩))).heap.size = w1.heap.size := by simp
  have HW1 := hide hW1s
  have HC1 := hide hC1s
  have HE1 := hide hE1
  clear C1 hC1 hW1 hM1 hM1s hC1s hW1s hMs hE1 HU2 hN1
  go_wp2_with fail
  generalize w1.setCell ⟨W.heap.size, 2, none⟩ (.pointer (some ⟨cg1, 0, none⟩)) = w1s at *
  refine C2.mono ?_
  rintro e w2 ⟨cg2, lo2, ob2, rfl, hC2, hlo2, hob2, hW2, hN2, hM2⟩
  obtain ⟨_, p3, _, f3⟩ := hW2.ptrs
  have hob21 : ∀ k, ob2 = some k → k < lo1 ∨ w1.heap.size ≤ k := fun k hk => by
    rcases hN2 with e | ⟨n, e, hn⟩
    · exact .inl (hob1 k (e ▸ hk))
    · rw [hk] at e
      cases e
      exact .inr (by omega)
  have hC1b := CodR.keeps.mod HC1.out hM2 (.inl (by omega)) (fun k hk => .inl (hob1 k hk))
  have hM2s := (Mod.ofRow (ob := ob2) (grown_setCell w2 W.heap.size 3 (.pointer (some ⟨cg2, 0, none⟩))))
  have hC1c := CodR.keeps.mod hC1b hM2s (.inl (by omega)) hob21
  have hC2c := CodR.keeps.mod hC2 hM2s (.inl (by omega)) (fun k hk => .inl (hob2 k hk))
  have hW2s := hW2.set3 (u := .pointer (some ⟨cg2, 0, none⟩))
  have hE2 : Ext W (w2.setCell ⟨W.heap.size, 3, none⟩ (.pointer (some ⟨cg2, 0, none⟩))) := Below.trans HE1.out ((hM2.trans hM2s hN2).below (B := W.heap.size) HE1.out.le (Nat.le_refl _) (fun k hk => (HW1.out.ob k hk).1))
  have hlt2 : W.heap.size < lo2 := by omega
  have hlt1 : W.heap.size < lo1 := by omega
  have HW2 := hide hW2s
  have HC1c := hide hC1c
  have HC2c := hide hC2c
  have HE2 := hide hE2
  clear C2 hC2 hW2 hM2 hM2s hC1b hC1c hC2c hW2s hE2 hN2
  go_wp2
  go_ret
  exact ⟨W.heap.size, cg1, cg2, lo1, w1.heap.size, lo2, w2.heap.size, ob2, rfl, HW2.out, HC1c.out, HC2c.out, hlt1, hlt2, hob21, fun k hk => .inl (hob2 k hk), HE2.out⟩
end Go.Proofs.Ytaohdnhfodkeoaa

namespace Go.Proofs.Ytaohdnhfodkeoaa
open Go.RowKit Lz Tok Len Can Huf
def PieceTo (R : List Value) (W : World) (base g : Nat) (ob : Option Nat) (B : List Bool) (e : Ending) (w' : World) : Prop :=
  e = .returned (.tuple #[]) ∧ ∃ ob', WrtX 66 R w' base g ob' B ∧ NewOb W ob ob' ∧ Mod W w' g ob
theorem wrapU64 (x : Int) (h0 : 0 ≤ x) (h1 : x ≤ 18446744073709551615) : IntKind.u64.wrap x = x := by rw [IntKind.wrap_u64]; omega
theorem CodR.ext' {W W' : World} {lo hi g : Nat} {l : List UInt8} (h : CodR W lo hi g l) (hE : Ext W W') : CodR W' lo hi g l := CodR.keeps.ext h hE
set_option maxHeartbeats 1000000 in
set_option maxRecDepth 100000 in
theorem putPiece_lit {W : World} {base g c1 c2 lo1 hi1 : Nat} {ob : Option Nat} {B : List Bool} {x : List UInt8} (hW : WrtX 66 [.pointer (some ⟨c1, 0, none⟩), .pointer (some ⟨c2, 0, none⟩)] W base g ob B) (hC : CodR W lo1 hi1 c1 x) (hr : right x = true)
    (a b c d : Int) (ha : a < 257) (hB : B.length ≤ 700000000) :
    Calls Try.prog 32 #[.pointer (some ⟨g, 0, none⟩), pcV ⟨a, b, c, d⟩] W (PieceTo [.pointer (some ⟨c1, 0, none⟩), .pointer (some ⟨c2, 0, none⟩)] W base g ob (B ++ putX x a)) := by
  have hE1 := extNew W (.cells #[.int .i64 a, .int .i64 b, .int .i64 c, .int .i64 d] 25)
  have hP1 := Whole.new W 25 #[.int .i64 a, .int .i64 b, .int .i64 c, .int .i64 d]
  have hW1 := hW.ext hE1
  have hC1 := hC.ext' hE1
  have hgl := hW.lt
  have hob := hW.ob
  have CI := fun w => isMatch_any ⟨a, b, c, d⟩ w
  rw [decide_eq_false (show ¬ 257 ≤ a by omega)] at CI
  unfold pcV at *
  dsimp only at CI
  obtain ⟨q2, _, _, _⟩ := hW1.ptrs
  have q0 := hP1.at 0 (u := .int .i64 a) rfl
  have CP := hufPut_any (hC1.ext' (Ext.refl _).drew) hr (hW1.ext (Ext.refl _).drew) (by omega) a
  clear hW hC hC1 hW1
  generalize putX x a = X at *
  generalize putE x a = E at *
  have hs1 : (W.alloc (.cells #[.int .i64 a, .int .i64 b, .int .i64 c, .int .i64 d] 25)).heap.size = W.heap.size + 1 := by simp
  go_enter Try.func32, Try.ntmps32
  go_upto_region 1 with fail
  generalize W.alloc (.cells #[.int .i64 a, .int .i64 b, .int .i64 c, .int .i64 d] 25) = w1 at *
  go_wp2_with fail
  go_still_tail 9, (by kernel_rfl)
  change wpList _ _ _ _ _ (World.drew _)
  go_wp2_with fail
  refine CP.mono ?_
  rintro e w2 ⟨rfl, ob2, hW2, hN2, hM2⟩
  have hM2' : Mod W w2 g ob := (Mod.ofExt (hE1.trans (Ext.refl _).drew)).trans hM2 (.inl rfl)
  have hP1d : Whole w1.drew W.heap.size 25 #[.int .i64 a, .int .i64 b, .int .i64 c, .int .i64 d] := hP1.ext (Ext.refl _).drew
  have hP2 := hM2.whole hP1d (by omega) (fun e => by have := (hob _ e).2; omega)
  have hN2' : NewOb W ob ob2 := (NewOb.same W ob).trans (hE1.trans (Ext.refl _).drew).le hN2
  clear CP hM2 hN2 hP1 hP1d q0 q2
  go_wp2_with (refine wpList_load_row rfl 25 (.tmp 3) rfl _ rfl _ _ _ _ hP2 Try.underlying25 rfl pc_info ?_)
  refine (CI _).mono ?_
  rintro e w3 ⟨rfl, hE3⟩
  clear CI
  go_wp2
  go_end0
  exact ⟨rfl, ob2, hW2.ext hE3, hN2', hM2'.trans (Mod.ofExt (ob := ob2) hE3) hN2'⟩
set_option maxHeartbeats 1000000 in
set_option maxRecDepth 100000 in
theorem putPiece_match {W : World} {base g c1 c2 lo1 hi1 lo2 hi2 : Nat} {ob : Option Nat} {B : List Bool} {x y : List UInt8} (hW : WrtX 66 [.pointer (some ⟨c1, 0, none⟩), .pointer (some ⟨c2, 0, none⟩)] W base g ob B) (hC : CodR W lo1 hi1 c1 x) (hr : right x = true)
    (hD : CodR W lo2 hi2 c2 y) (hry : right y = true) (hg2 : g < lo2) (ho2 : ∀ k, ob = some k → k < lo2 ∨ hi2 ≤ k)
    (k v cn z : Nat) (hk : k ≤ 7) (hv : v < 2 ^ k) (hc : cn ≤ 11) (hz : z < 2 ^ cn) (hB : B.length ≤ 700000000) :
    Calls Try.prog 32 #[.pointer (some ⟨g, 0, none⟩), pcV ⟨257 + (k : Int), v, cn, z⟩] W (PieceTo [.pointer (some ⟨c1, 0, none⟩), .pointer (some ⟨c2, 0, none⟩)] W base g ob (B ++ putX x (257 + (k : Int)) ++ Bit.num v k ++ putX y (cn : Int) ++ Bit.num z cn)) := by
  have hkp := pow_top hk
  have hcp := pow_top hc
  have hXl := putX_le (l := x) (257 + (k : Int)) hr
  have hYl := putX_le (l := y) (cn : Int) hry
  have HXn := hide (put_num (x := v) (k := k) (by omega) hv)
  have HYn := hide (put_num (x := z) (k := cn) (by omega) hz)
  have hnl1 := Bit.num_length v k
  have CI := fun w => isMatch_any ⟨257 + (k : Int), v, cn, z⟩ w
  rw [decide_eq_true (show 257 ≤ 257 + (k : Int) by omega)] at CI
  have CL := fun w => lenBits_any ⟨257 + (k : Int), v, cn, z⟩ w (by dsimp only; omega) (by dsimp only; omega)
  unfold pcV at *
  dsimp only at CI CL
  rw [show 257 + (k : Int) - 257 = (k : Int) by omega] at CL
  have hgl := hW.lt
  have hob := hW.ob
  obtain ⟨a, ha⟩ : ∃ a : Int, a = 257 + (k : Int) := ⟨_, rfl⟩
  rw [← ha] at CI CL hXl ⊢
  have hv7 : v < 128 := by omega
  have hz11 : z < 2048 := by omega
  clear ha hv hz hkp hcp
  have hE1 := extNew W (.cells #[.int .i64 a, .int .i64 (v : Int), .int .i64 (cn : Int), .int .i64 (z : Int)] 25)
  have hP1 := Whole.new W 25 #[.int .i64 a, .int .i64 (v : Int), .int .i64 (cn : Int), .int .i64 (z : Int)]
  have hW1 := hW.ext hE1
  have hC1 := hC.ext' hE1
  have HD := hide hD
  obtain ⟨q2, _, _, _⟩ := hW1.ptrs
  have q0 := hP1.at 0 (u := .int .i64 a) rfl
  have CP := hufPut_any (hC1.ext' (Ext.refl _).drew) hr (hW1.ext (Ext.refl _).drew) (by omega) a
  clear hW hC hC1 hW1 hD
  generalize putX x a = X at *
  generalize putE x a = E at *
  have hs1 : (W.alloc (.cells #[.int .i64 a, .int .i64 (v : Int), .int .i64 (cn : Int), .int .i64 (z : Int)] 25)).heap.size = W.heap.size + 1 := by simp
  go_enter Try.func32, Try.ntmps32
  go_upto_region 1 with fail
  generalize W.alloc (.cells #[.int .i64 a, .int .i64 (v : Int), .int .i64 (cn : Int), .int .i64 (z : Int)] 25) = w1 at *
  go_wp2_with fail
  go_still_tail 9, (by kernel_rfl)
  change wpList _ _ _ _ _ (World.drew _)
  go_wp2_with fail
  refine CP.mono ?_
  rintro e w2 ⟨rfl, ob2, hW2, hN2, hM2⟩
  have hM2' : Mod W w2 g ob := (Mod.ofExt (hE1.trans (Ext.refl _).drew)).trans hM2 (.inl rfl)
  have hP1d : Whole w1.drew W.heap.size 25 #[.int .i64 a, .int .i64 (v : Int), .int .i64 (cn : Int), .int .i64 (z : Int)] := hP1.ext (Ext.refl _).drew
  have hP2 := hM2.whole hP1d (by omega) (fun e => by have := (hob _ e).2; omega)
  have hN2' : NewOb W ob ob2 := (NewOb.same W ob).trans (hE1.trans (Ext.refl _).drew).le hN2
  have hoP : ∀ k', ob2 = some k' → k' ≠ W.heap.size := fun k' hk' => by
    rcases hN2 with e | ⟨n, e, hn⟩
    · have := (hob k' (e ▸ hk')).2
      omega
    · rw [hk'] at e
      cases e
      have : w1.drew.heap.size = W.heap.size + 1 := hs1
      omega
  have HoP := hide hoP
  clear CP hM2 hN2 hP1 hP1d q0 q2 hE1 hoP
  go_wp2_with (refine wpList_load_row rfl 25 (.tmp 3) rfl _ rfl _ _ _ _ hP2 Try.underlying25 rfl pc_info ?_)
  refine (CI _).mono ?_
  rintro e w4 ⟨rfl, hE4⟩
  have hP4 := hP2.ext hE4
  have hW4 := hW2.ext hE4
  have hM4 := hM2'.trans (Mod.ofExt (ob := ob2) hE4) hN2'
  have HM4 := hide hM4
  have HN4 := hide hN2'
  have HW4 := hide hW4
  clear CI hP2 hW2 hM2' hN2' hE4 hW4 hM4
  have hgH : W.heap.size ≠ g := by omega
  have hHl : W.heap.size < w4.heap.size := hP4.lt
  generalize W.heap.size = H at hP4 hgH HoP hHl ⊢
  go_wp2_with fail
  refine wp_region_T (fun W => Ext w4 W) 8 9 #[false, false, false, false, false, false, false, false, false] (by kernel_rfl) rfl rfl (Ext.refl w4).drew ?_
  intro hS0
  refine wpAnyT_take 0 (some 16) (.pointer (some ⟨g, 0, none⟩)) #[true, false, false, false, false, false, false, false, false] rfl rfl rfl (by kernel_rfl) (fun _ _ _ h => h) hS0 (by rfl) (fun W hX => by go_simp) ?_
  simp only [Act.put, List.setIfInBounds_toArray, List.set_cons_zero, List.set_cons_succ]
  refine wpAnyT_take 1 (some 17) (.pointer (some ⟨g, 0, none⟩)) #[true, true, false, false, false, false, false, false, false] rfl rfl rfl (by kernel_rfl) (fun _ _ _ h => h) hS0 (by rfl) (fun W hX => by go_simp) ?_
  simp only [Act.put, List.setIfInBounds_toArray, List.set_cons_zero, List.set_cons_succ]
  refine wpAnyT_take 2 (some 18) (.pointer (some ⟨g, 0, none⟩)) #[true, true, true, false, false, false, false, false, false] rfl rfl rfl (by kernel_rfl) (fun _ _ _ h => h) hS0 (by rfl) (fun W hX => by go_simp) ?_
  simp only [Act.put, List.setIfInBounds_toArray, List.set_cons_zero, List.set_cons_succ]
  refine wpAnyT_take 3 (some 19) (.pointer (some ⟨H, 1, none⟩)) #[true, true, true, true, false, false, false, false, false] rfl rfl rfl (by kernel_rfl) (fun _ _ _ h => h) hS0 (by rfl) (fun W hX => by go_simp) ?_
  simp only [Act.put, List.setIfInBounds_toArray, List.set_cons_zero, List.set_cons_succ]
  refine wpAnyT_take 4 (some 20) (.int .i64 (v : Int)) #[true, true, true, true, true, false, false, false, false] rfl rfl rfl (by kernel_rfl) (fun _ _ _ h => h) hS0 (by rfl) (fun W hX => by have s0 := (hP4.ext hX).at 0 (u := .int .i64 a) rfl; have s1 := (hP4.ext hX).at 1 (u := .int .i64 (v : Int)) rfl; have s2 := (hP4.ext hX).at 2 (u := .int .i64 (cn : Int)) rfl; have s3 := (hP4.ext hX).at 3 (u := .int .i64 (z : Int)) rfl; go_simp) ?_
  simp only [Act.put, List.setIfInBounds_toArray, List.set_cons_zero, List.set_cons_succ]
  refine wpAnyT_take 5 (some 21) (.int .u64 (v : Int)) #[true, true, true, true, true, true, false, false, false] rfl rfl rfl (by kernel_rfl) (fun _ _ _ h => h) hS0 (by rfl) (fun W hX => by have hwu := wrapU64 (v : Int) (by omega) (by omega); go_simp) ?_
  simp only [Act.put, List.setIfInBounds_toArray, List.set_cons_zero, List.set_cons_succ]
  refine wpAnyT_take 6 (some 22) (.agg #[.int .i64 a, .int .i64 (v : Int), .int .i64 (cn : Int), .int .i64 (z : Int)]) #[true, true, true, true, true, true, true, false, false] rfl rfl rfl (by kernel_rfl) (fun _ _ _ h => h) hS0 (by rfl) (fun W hX => by have s0 := (hP4.ext hX).at 0 (u := .int .i64 a) rfl; have s1 := (hP4.ext hX).at 1 (u := .int .i64 (v : Int)) rfl; have s2 := (hP4.ext hX).at 2 (u := .int .i64 (cn : Int)) rfl; have s3 := (hP4.ext hX).at 3 (u := .int .i64 (z : Int)) rfl; go_simp) ?_
  simp only [Act.put, List.setIfInBounds_toArray, List.set_cons_zero, List.set_cons_succ]
  refine wpAnyT_only 7 #[true, true, true, true, true, true, true, true, false] (by kernel_rfl) rfl rfl (by rfl) (fun K0 hK0 => ?_)
  go_simp
  go_at_call 51
  refine (CL _).mono ?_
  rintro e wc0 ⟨rfl, hC0⟩
  have hX0 := hS0.trans hC0
  refine hK0 _ _ (fun _ => hX0) ?_
  clear hK0 K0
  refine wpAnyT_only 8 #[true, true, true, true, true, true, true, true, true] (by kernel_rfl) rfl rfl (by rfl) (fun K1 hK1 => ?_)
  go_simp
  go_at_call 54
  refine (put_any (HW4.out.ext hX0) v (k : Int) (by rw [List.length_append]; omega)).mono ?_
  rintro e w5 ⟨rfl, ob5, hW5, hN5, hM5⟩
  refine hK1 _ _ (fun h => absurd h (by decide)) (wpAnyT_done (by kernel_rfl) ?_ _)
  clear hK1 K1 CL
  rw [HXn.out] at hW5
  have hM5' := HM4.out.trans ((Mod.ofExt (ob := ob2) hX0).trans hM5 (.inl rfl)) HN4.out
  have hN5' := HN4.out.trans HM4.out.size ((NewOb.same w4 ob2).trans hX0.le hN5)
  have hP5 := hM5.whole (hP4.ext hX0) hgH (fun e => HoP.out _ e rfl)
  have hoP5 : ∀ k', ob5 = some k' → k' ≠ H := fun k' hk' => by
    rcases hN5 with e | ⟨n, e, hn⟩
    · exact HoP.out k' (e ▸ hk')
    · rw [hk'] at e
      cases e
      have := hX0.le
      omega
  have hD5 := CodR.keeps.mod HD.out hM5' (.inl hg2) ho2
  have HoP5 := hide hoP5
  have HM5 := hide hM5'
  have HN5 := hide hN5'
  obtain ⟨_, q3, _, _⟩ := hW5.ptrs
  have s2 := hP5.at 2 (u := .int .i64 (cn : Int)) rfl
  have hsz5 := hM5.size
  have hXs := hX0.le
  have CP := hufPut_any (hD5.ext' (Ext.refl _).drew) hry (hW5.ext (Ext.refl _).drew) (by simp only [List.length_append]; omega) (cn : Int)
  clear HM4 HN4 HW4 hP4 hM5 hN5 hM5' hN5' hoP5 hS0 hC0 hX0 HD hD5 hW5
  generalize putX y (cn : Int) = Y at *
  generalize putE y (cn : Int) = E5 at *
  go_wp2_with fail
  go_still_tail 9, (by kernel_rfl)
  change wpList _ _ _ _ _ (World.drew _)
  go_wp2_with fail
  refine CP.mono ?_
  rintro e w6 ⟨rfl, ob6, hW6, hN6, hM6⟩
  have hP6 := hM6.whole (hP5.ext (Ext.refl w5).drew) hgH (fun e => HoP5.out _ e rfl)
  have hM6' := HM5.out.trans ((Mod.ofExt (ob := ob5) (Ext.refl w5).drew).trans hM6 (.inl rfl)) HN5.out
  have hN6' := HN5.out.trans HM5.out.size ((NewOb.same w5 ob5).trans (Ext.refl w5).drew.le hN6)
  have r2 := hP6.at 2 (u := .int .i64 (cn : Int)) rfl
  have r3 := hP6.at 3 (u := .int .i64 (z : Int)) rfl
  have CQ := put_any (hW6.ext (Ext.refl _).drew) z (cn : Int) (by simp only [List.length_append]; omega)
  rw [HYn.out] at CQ
  have HM6 := hide hM6'
  have HN6 := hide hN6'
  clear CP hP5 hW6 hN6 hM6 hM6' hN6' HM5 HN5 q3 s2 hP6
  generalize Bit.putErr z (cn : Int) = E6 at *
  go_wp2_with fail
  go_still_tail 8, (by kernel_rfl)
  change wpList _ _ _ _ _ (World.drew _)
  go_wp2_with fail
  refine CQ.mono ?_
  rintro e w7 ⟨rfl, ob7, hW7, hN7, hM7⟩
  go_wp2
  go_end0
  exact ⟨rfl, ob7, hW7, HN6.out.trans HM6.out.size ((NewOb.same w6 ob6).trans (Ext.refl w6).drew.le hN7), HM6.out.trans ((Mod.ofExt (ob := ob6) (Ext.refl w6).drew).trans hM7 (.inl rfl)) HN6.out⟩
end Go.Proofs.Ytaohdnhfodkeoaa

namespace Go.Proofs.Ytaohdnhfodkeoaa.Tok
open Len Can Huf Lz
theorem getE_ok {l b : List UInt8} {q : Nat} (hr : right l = true) (h : (getE l b q).2.1 = 0) :
    ∃ s : Nat, s < l.length ∧ getE l b q = ((s : Int), 0, q + lenAt l s) ∧ 0 < lenAt l s ∧ q + lenAt l s ≤ 8 * b.length := by
  by_cases hx : ∃ s, s < l.length ∧ hit l b q s = true
  · obtain ⟨s, hs, hh⟩ := hx
    obtain ⟨a0, a1, _⟩ := of_decide_eq_true hh
    exact ⟨s, hs, getE_hit hr hs hh, by omega, by omega⟩
  · have hn := getE_none (l := l) (b := b) (q := q) fun s hs => by
      cases hv : hit l b q s with
      | false => rfl
      | true => exact absurd ⟨s, hs, hv⟩ hx
    rw [hn] at h
    split at h <;> simp at h
theorem readR_ok {b : List UInt8} {n : Nat} : ∀ (q ah : Nat) (out : List UInt8), out.length ≤ n → (readR b n q ah out).2.1 = 0 → right (readR b n q ah out).1 = true ∧ (readR b n q ah out).1.length = n := by
  intro q ah out
  induction q, ah, out using readR.induct (b := b) (n := n) with
  | case1 q ah out h1 h2 h3 h4 h5 =>
    intro _ h
    rw [readR_bad h1 h2 h3 h4 h5] at h
    simp at h
  | case2 q ah out h1 h2 h3 h4 h5 ih =>
    intro hl h
    rw [readR_run h1 h2 h3 h4 h5] at h ⊢
    exact ih (by rw [List.length_append, List.length_replicate]; omega) h
  | case3 q ah out h1 h2 h3 h4 =>
    intro _ h
    rw [readR_short6 h1 h2 h3 h4] at h
    simp at h
  | case4 q ah out h1 h2 h3 ih =>
    intro hl h
    rw [readR_used h1 h2 h3] at h ⊢
    exact ih (by rw [List.length_append]; simp; omega) h
  | case5 q ah out h1 h2 =>
    intro _ h
    rw [readR_short h1 h2] at h
    simp at h
  | case6 q ah out h1 hr =>
    intro hl h
    rw [readR_end h1, if_pos hr]
    exact ⟨hr, by show out.length = n; omega⟩
  | case7 q ah out h1 hr =>
    intro hl h
    rw [readR_end h1, if_neg hr] at h
    simp at h
theorem readE_ok {b : List UInt8} {n : Nat} {q : Nat} (h : (readE b (n : Int) q).2.1 = 0) : right (readE b (n : Int) q).1 = true ∧ (readE b (n : Int) q).1.length = n := by
  unfold readE at h ⊢
  split at h
  · simp at h
  · rename_i h2
    rw [if_neg h2, Int.toNat_natCast]
    rw [Int.toNat_natCast] at h
    exact readR_ok q 64 [] (by simp) h
theorem piece_ok {y b : List UInt8} {s : Int} {q : Nat} (hr : right y = true) (hy : y.length = 12) (h0 : 0 ≤ s) (h1 : s < 265) (h2 : s ≠ 256) (h : (pieceT y b s q).2.1 = 0) :
    (joinE (pieceT y b s q).1).2 = 0 ∧ q ≤ (pieceT y b s q).2.2 := by
  unfold pieceT at h ⊢
  split
  · rename_i hs
    dsimp only
    unfold joinE
    rw [if_pos ⟨h0, hs, rfl, rfl, rfl⟩]
    exact ⟨rfl, Nat.le_refl _⟩
  · rename_i hs
    rw [if_neg hs] at h
    obtain ⟨k, hk⟩ := Int.eq_ofNat_of_zero_le (show 0 ≤ s - 257 by omega)
    unfold matchT at h ⊢
    rw [hk, Int.toNat_natCast] at h ⊢
    split at h
    · rename_i c1
      exact absurd h c1
    · rename_i c1
      rw [if_neg c1]
      split at h
      · rename_i c2
        exact absurd h c2
      · rename_i c2
        rw [if_neg c2]
        split at h
        · rename_i c3
          exact absurd h c3
        · rename_i c3
          rw [if_neg c3]
          obtain ⟨d, hd, he, hl, _⟩ := getE_ok (q := q + k) hr (Classical.not_not.1 c2)
          rw [he]
          dsimp only
          have n1 := getNum_lt b q k
          have n2 := getNum_lt b (q + k + lenAt y d) d
          unfold joinE
          dsimp only
          rw [if_neg (by omega), if_neg (by omega), hk, Int.toNat_natCast, Int.toNat_natCast, if_neg (by omega)]
          exact ⟨rfl, by omega⟩
section
variable {x y b : List UInt8} {most : Int} {q : Nat} {n : Int} {out : List TokV}
theorem un_err (h : (getE x b q).2.1 ≠ 0) : unT x y b most q n out = ([], (getE x b q).2.1) := by rw [unT, if_pos h]
theorem un_end (h : (getE x b q).2.1 = 0) (h2 : (getE x b q).1 = 256) : unT x y b most q n out = if Bit.padErr b (getE x b q).2.2 = 0 then (out, 0) else ([], 2) := by rw [unT, if_neg (by rw [h]; simp), if_pos h2]
theorem un_bad (h : (getE x b q).2.1 = 0) (h2 : (getE x b q).1 ≠ 256) (h3 : (pieceT y b (getE x b q).1 (getE x b q).2.2).2.1 ≠ 0) :
    unT x y b most q n out = ([], (pieceT y b (getE x b q).1 (getE x b q).2.2).2.1) := by rw [unT, if_neg (by rw [h]; simp), if_neg h2, if_pos h3]
theorem un_much (h : (getE x b q).2.1 = 0) (h2 : (getE x b q).1 ≠ 256) (h3 : (pieceT y b (getE x b q).1 (getE x b q).2.2).2.1 = 0) (h4 : most < n + sizeT (joinE (pieceT y b (getE x b q).1 (getE x b q).2.2).1).1) :
    unT x y b most q n out = ([], 6) := by rw [unT, if_neg (by rw [h]; simp), if_neg h2, if_neg (by rw [h3]; simp), if_pos h4]
theorem un_on (h : (getE x b q).2.1 = 0) (h2 : (getE x b q).1 ≠ 256) (h3 : (pieceT y b (getE x b q).1 (getE x b q).2.2).2.1 = 0) (h4 : ¬ most < n + sizeT (joinE (pieceT y b (getE x b q).1 (getE x b q).2.2).1).1)
    (h5 : q < (pieceT y b (getE x b q).1 (getE x b q).2.2).2.2) (h6 : (pieceT y b (getE x b q).1 (getE x b q).2.2).2.2 ≤ 8 * b.length) :
    unT x y b most q n out = unT x y b most (pieceT y b (getE x b q).1 (getE x b q).2.2).2.2 (n + sizeT (joinE (pieceT y b (getE x b q).1 (getE x b q).2.2).1).1) (out ++ [(joinE (pieceT y b (getE x b q).1 (getE x b q).2.2).1).1]) := by
  rw [unT, if_neg (by rw [h]; simp), if_neg h2, if_neg (by rw [h3]; simp), if_neg h4, if_pos ⟨h5, h6⟩]
end
theorem sumSz_app (A B : List TokV) : sumSz (A ++ B) = sumSz A + sumSz B := by simp [sumSz]
theorem un_may {x y b : List UInt8} {most : Int} (hrx : right x = true) (hx : x.length = 265) (hry : right y = true) (hy : y.length = 12) : ∀ (m q : Nat) (n : Int) (out : List TokV), 8 * b.length - q ≤ m → (∀ t, t ∈ out → may t = true) → n = (sumSz out : Nat) → n ≤ most →
    (∀ t, t ∈ (unT x y b most q n out).1 → may t = true) ∧ ((sumSz (unT x y b most q n out).1 : Nat) : Int) ≤ most
  | m, q, n, out, hm, ha, hn, hle => by
    have none_ok : (∀ t, t ∈ ([] : List TokV) → may t = true) ∧ ((sumSz [] : Nat) : Int) ≤ most := ⟨fun t ht => (by cases ht), by simp [sumSz]; omega⟩
    by_cases h1 : (getE x b q).2.1 = 0
    · by_cases h2 : (getE x b q).1 = 256
      · rw [un_end h1 h2]
        split
        · exact ⟨ha, by show ((sumSz out : Nat) : Int) ≤ most; omega⟩
        · exact none_ok
      · by_cases h3 : (pieceT y b (getE x b q).1 (getE x b q).2.2).2.1 = 0
        · obtain ⟨s, hs, he, hl, hlb⟩ := getE_ok hrx h1
          have hp := piece_ok hry hy (by rw [he]; dsimp only; omega) (by rw [he]; dsimp only; omega) h2 h3
          have hmay := (split_join hp.1).2
          by_cases h4 : most < n + sizeT (joinE (pieceT y b (getE x b q).1 (getE x b q).2.2).1).1
          · rw [un_much h1 h2 h3 h4]
            exact none_ok
          · have hq : q < (pieceT y b (getE x b q).1 (getE x b q).2.2).2.2 := by
              have := hp.2
              rw [he] at this ⊢
              dsimp only at this ⊢
              omega
            by_cases h6 : (pieceT y b (getE x b q).1 (getE x b q).2.2).2.2 ≤ 8 * b.length
            · rw [un_on h1 h2 h3 h4 hq h6]
              match m, hm with
              | 0, hm => omega
              | m + 1, hm =>
                refine un_may hrx hx hry hy m _ _ _ (by omega) (fun t ht => ?_) (by rw [hn, sumSz_app]; simp [sumSz]) (by omega)
                rcases List.mem_append.1 ht with h | h
                · exact ha t h
                · rw [List.mem_singleton] at h
                  rw [h]
                  exact hmay
            · rw [unT, if_neg (by rw [h1]; simp), if_neg h2, if_neg (by rw [h3]; simp), if_neg h4, if_neg (fun h => h6 h.2)]
              exact none_ok
        · rw [un_bad h1 h2 h3]
          exact none_ok
    · rw [un_err h1]
      exact none_ok
theorem read_may {b : List UInt8} {most : Int} (h : (readT b most).2 = 0) : (∀ t, t ∈ (readT b most).1 → may t = true) ∧ ((sumSz (readT b most).1 : Nat) : Int) ≤ most := by
  unfold readT at h ⊢
  split at h
  · simp at h
  · rename_i c0
    rw [if_neg c0]
    split at h
    · rename_i c1
      exact absurd h c1
    · rename_i c1
      rw [if_neg c1]
      split at h
      · rename_i c2
        exact absurd h c2
      · rename_i c2
        rw [if_neg c2]
        have r1 := readE_ok (n := 265) (Classical.not_not.1 c1)
        have r2 := readE_ok (n := 12) (Classical.not_not.1 c2)
        exact un_may r1.1 r1.2 r2.1 r2.2 _ _ _ _ (Nat.le_refl _) (fun t ht => by cases ht) (by simp [sumSz]) (by omega)
end Go.Proofs.Ytaohdnhfodkeoaa.Tok

namespace Go.Proofs.Ytaohdnhfodkeoaa
open Go.RowKit Len Can
def RefReads (w : World) (base g : Nat) (b : List UInt8) (r : List UInt8 × Int × Nat) (e : Ending) (w' : World) : Prop :=
  ∃ v, e = .returned (.tuple #[v, .int .i64 r.2.1]) ∧ OwnB w' w.heap.size v r.1 ∧ RefR w' base g b r.2.2 ∧ Mod w w' g none
def rdLen : Value → Nat
  | .slice _ n _ => n
  | _ => 0
theorem own_apart {w wr : World} {g : Nat} {v o : Value} {out : List UInt8} (hg : g < w.heap.size) (hV : ∀ k, v.ownBlock = some k → k < w.heap.size) (hO : OwnB wr w.heap.size o out) : o.ownBlock ≠ some g ∧ (v.ownBlock = none ∨ v.ownBlock ≠ o.ownBlock) ∧ (o.ownBlock = none ∨ o.ownBlock ≠ none) := by
  refine ⟨fun e => by have := (hO.lt _ e).1; omega, ?_, ?_⟩
  · cases hv : v.ownBlock with
    | none => exact .inl rfl
    | some k =>
      refine .inr fun e => ?_
      have h1 := hV k hv
      have h2 := (hO.lt k e.symm).1
      omega
  · cases o.ownBlock <;> simp
set_option maxHeartbeats 400000 in
set_option maxRecDepth 100000 in
theorem refRead_any {w : World} {base g q : Nat} {b : List UInt8} (h : RefR w base g b q) (n : Int) :
    Calls Try.prog 45 #[.pointer (some ⟨g, 0, none⟩), .int .i64 n] w (RefReads w base g b (readE b n q)) := by
  by_cases hneg : n < 0
  · have HN := hide (show readE b n q = ([], 13, q) by unfold readE; rw [if_pos (.inl hneg)])
    generalize readE b n q = res at *
    go_enter Try.func45, Try.ntmps45
    go_wp2
    go_ret2
    rw [HN.out]
    exact ⟨_, rfl, OwnB.nil _ _, h, Mod.refl _ _ _⟩
  by_cases hbig : 300 < n
  · have HN := hide (show readE b n q = ([], 13, q) by unfold readE; rw [if_pos (.inr hbig)])
    generalize readE b n q = res at *
    go_enter Try.func45, Try.ntmps45
    go_wp2
    go_ret2
    rw [HN.out]
    exact ⟨_, rfl, OwnB.nil _ _, h, Mod.refl _ _ _⟩
  obtain ⟨k, rfl⟩ := Int.eq_ofNat_of_zero_le (show 0 ≤ n by omega)
  have hk : k ≤ 300 := by omega
  have HN := hide (show readE b (k : Int) q = readR b k q 64 [] by unfold readE; rw [if_neg (by omega)]; rfl)
  generalize readE b (k : Int) q = res at *
  obtain ⟨v, h⟩ := h
  have h : RefRV w base g v b q := h
  have hgl := h.ref.lt
  have HF := hide h
  have HV := hide (show ∀ k, v.ownBlock = some k → k < w.heap.size from fun k hk => (h.2.1.lt k hk).2)
  clear h hneg hbig
  go_enter Try.func45, Try.ntmps45
  go_wp2_with fail
  go_loopw [6, 7] (fun o a wr => ∃ (q1 ah : Nat) (out : List UInt8), out.length ≤ k ∧ ah ≤ 64 ∧ a = .int .i64 (ah : Int) ∧ OwnB wr w.heap.size o out ∧ RefRV wr base g v b q1 ∧ Mod w wr g none ∧ res = readR b k q1 ah out) (fun o _ _ => k - rdLen o)
  case atStart => exact ⟨q, 64, [], Nat.zero_le _, Nat.le_refl _, rfl, OwnB.nil _ _, HF.out, Mod.refl _ _ _, HN.out⟩
  case round =>
    obtain ⟨q1, ah, out, hol, hah, rfl, hO, hR, hM, hres⟩ := hrel
    obtain ⟨Ao, co, rfl, hco, hcm, hbO⟩ := hO.form
    have HO := hide hO
    have HR := hide hR
    have HM := hide hM
    have HRes := hide hres
    have HB := hide hbO
    clear hO hM hres hbO HN HF
    obtain ⟨m, hm⟩ : ∃ m, m = out.length := ⟨_, rfl⟩
    have Hm := hide hm
    rw [← hm] at hol hco HO HB ⊢
    clear hm
    by_cases hlt : m < k
    · have hltI : (m : Int) < (k : Int) := by omega
      by_cases h4 : Bit.getErr (8 * b.length - q1) 4 = 0
      · have CG := refGetV_any hR 4
        have hL := getNum_lt b q1 4
        have HU := hide (show Bit.getNum b q1 4 ≠ 0 → res = readR b k (q1 + 4) 64 (out ++ [UInt8.ofNat (Bit.getNum b q1 4)]) from fun h0 => by rw [HRes.out, readR_used (by rw [← Hm.out]; exact hlt) h4 h0])
        have HZ6 := hide (show Bit.getNum b q1 4 = 0 → Bit.getErr (8 * b.length - (q1 + 4)) 6 ≠ 0 → res = ([], 1, q1 + 4) from fun h0 h6 => by rw [HRes.out, readR_short6 (by rw [← Hm.out]; exact hlt) h4 h0 h6])
        have HZb := hide (show Bit.getNum b q1 4 = 0 → Bit.getErr (8 * b.length - (q1 + 4)) 6 = 0 → (ah < 64 ∨ k < m + Bit.getNum b (q1 + 4) 6 + 1) → res = ([], 7, q1 + 10) from fun h0 h6 hb => by rw [HRes.out, readR_bad (by rw [← Hm.out]; exact hlt) h4 h0 h6 (by rw [← Hm.out]; exact hb)])
        have HZr := hide (show Bit.getNum b q1 4 = 0 → Bit.getErr (8 * b.length - (q1 + 4)) 6 = 0 → ¬ (ah < 64 ∨ k < m + Bit.getNum b (q1 + 4) 6 + 1) → res = readR b k (q1 + 10) (Bit.getNum b (q1 + 4) 6 + 1) (out ++ List.replicate (Bit.getNum b (q1 + 4) 6 + 1) 0) from fun h0 h6 hb => by rw [HRes.out, readR_run (by rw [← Hm.out]; exact hlt) h4 h0 h6 (by rw [← Hm.out]; exact hb)])
        unfold Bit.getTo at CG
        rw [h4, if_pos rfl] at CG
        rw [show (4 : Int).toNat = 4 from rfl] at CG
        change Bit.getNum b q1 4 < 16 at hL
        clear h4 hR
        generalize Bit.getNum b q1 4 = L at *
        go_wp2_with fail
        refine CG.mono ?_
        rintro e w2 ⟨rfl, hR2, hM2⟩
        clear CG
        have hap := own_apart hgl HV.out HO.out
        have hO2 := hM2.own HO.out hap.1 hap.2.2
        have hMw := HM.out.trans hM2 (.inl rfl)
        by_cases hL0 : L = 0
        · subst hL0
          by_cases h6 : Bit.getErr (8 * b.length - (q1 + 4)) 6 = 0
          · have CG := refGetV_any hR2 6
            have hK := getNum_lt b (q1 + 4) 6
            have HB1 := hide (HZb.out rfl h6)
            have HR1 := hide (HZr.out rfl h6)
            unfold Bit.getTo at CG
            rw [h6, if_pos rfl] at CG
            rw [show q1 + 4 + (6 : Int).toNat = q1 + 10 by rw [show (6 : Int).toNat = 6 from rfl]] at CG
            change Bit.getNum b (q1 + 4) 6 < 64 at hK
            clear h6 HU HZ6 HZb HZr HRes hR2
            generalize Bit.getNum b (q1 + 4) 6 = K at *
            go_wp2_with fail
            refine CG.mono ?_
            rintro e w3 ⟨rfl, hR3, hM3⟩
            clear CG
            have hap2 := own_apart hgl HV.out hO2
            have hO3 := hM3.own hO2 hap2.1 hap2.2.2
            have hMv := hMw.trans hM3 (.inl rfl)
            by_cases ha64 : ah < 64
            · have haI : (ah : Int) < 64 := by omega
              have HR2 := hide (HB1.out (.inl ha64))
              clear hO2 hap hap2 hMw hM2 hM3
              go_wp2
              go_ret2
              rw [HR2.out]
              exact ⟨_, rfl, OwnB.nil _ _, hR3.ref, hMv⟩
            · have haI : ¬ (ah : Int) < 64 := by omega
              by_cases hmK : k < m + K + 1
              · have hmI : (m : Int) + (K : Int) + 1 > (k : Int) := by omega
                have HR2 := hide (HB1.out (.inr hmK))
                clear hO2 hap hap2 hMw hM2 hM3
                go_wp2
                go_ret2
                rw [HR2.out]
                exact ⟨_, rfl, OwnB.nil _ _, hR3.ref, hMv⟩
              · have hmI : ¬ (m : Int) + (K : Int) + 1 > (k : Int) := by omega
                have HR2 := hide (HR1.out (by omega))
                have HO3 := hide hO3
                clear hO2 hap hap2 hMw hM2 hM3 HB1 HR1 hO3
                go_wp2_with fail
                go_loopw [6, 11] (fun o a wq => ∃ j : Nat, j ≤ K + 1 ∧ a = .int .i64 (j : Int) ∧ OwnB wq w.heap.size o (out ++ List.replicate j 0) ∧ RefRV wq base g v b (q1 + 10) ∧ Mod w wq g none) (fun _ a _ => K + 1 - (intOf a).toNat)
                case atStart => exact ⟨0, by omega, rfl, by simpa using HO3.out, hR3, hMv⟩
                case round =>
                  clear HO3 hR3 hMv
                  obtain ⟨j, hj, rfl, hO, hR, hM⟩ := hrel
                  have hlen : (out ++ List.replicate j (0 : UInt8)).length = m + j := by rw [List.length_append, List.length_replicate, ← Hm.out]
                  obtain ⟨o, ho⟩ : ∃ o, o = out ++ List.replicate j (0 : UInt8) := ⟨_, rfl⟩
                  rw [← ho] at hO hlen
                  have Ho := hide ho
                  clear ho
                  by_cases hjK : j < K + 1
                  · have hjI : (j : Int) < (K : Int) + 1 := by omega
                    have hEa := extNew wr (.cells #[.int .u8 ((0 : UInt8).toNat : Int)] 5)
                    have hb1 := bytesNew wr [0] #[.int .u8 ((0 : UInt8).toNat : Int)] 5 (0, 0) rfl 1 rfl
                    have hOa := hO.ext hEa
                    have hap := own_apart hgl HV.out hO
                    have hbs : w.heap.size ≤ (wr.alloc (.cells #[.int .u8 ((0 : UInt8).toNat : Int)] 5)).heap.size := Nat.le_trans hM.size hEa.le
                    have hfit : o.length + 1 ≤ 140737488355328 := by omega
                    have HX := hide hlen
                    clear hlen
                    go_wp2_with (at_builtin; refine wpList_app rfl (.tmp 65) (.tmp 66) rfl rfl hOa rfl hb1 hfit hbs ?_; intro v5 w5 hO5 hG5)
                    have hR5 := (hR.ext hEa).grown hG5 hap.1 hap.2.1
                    have hM5 := (hM.trans (Mod.ofExt (ob := none) hEa) (.inl rfl)).fresh hG5 (fun k hk => (hO.lt k hk).1)
                    rw [Ho.out, List.append_assoc, show List.replicate j (0 : UInt8) ++ [0] = List.replicate (j + 1) 0 from List.replicate_succ'.symm] at hO5
                    clear hb1 hOa hap hbs hfit hG5
                    go_roundw
                    case rel => exact ⟨j + 1, by omega, by go_num, hO5, hR5, hM5⟩
                    case measure => simp [intOf]; omega
                  · have hjI : ¬ (j : Int) < (K : Int) + 1 := by omega
                    have hj2 : j = K + 1 := by omega
                    have hO6 := hO
                    rw [Ho.out, hj2] at hO6
                    have hl6 : (out ++ List.replicate (K + 1) (0 : UInt8)).length = m + (K + 1) := by rw [List.length_append, List.length_replicate, ← Hm.out]
                    obtain ⟨Av, cv, rfl, _⟩ := hO.form
                    have HX := hide hlen
                    have HH := hide hj2
                    have HL := hide hl6
                    have HO6 := hide hO6
                    clear hO hlen hj2 hl6 hO6
                    go_wp2
                    go_roundw
                    case rel => exact ⟨q1 + 10, K + 1, _, by rw [HL.out]; omega, by omega, by go_num, HO6.out, hR, hM, HR2.out⟩
                    case measure =>
                      have := HX.out
                      simp only [rdLen]
                      omega
          · have hres2 := HZ6.out rfl h6
            have CG := refGetV_any hR2 6
            have hg1 : Bit.getErr (8 * b.length - (q1 + 4)) 6 = 1 := getErr_le (n := 6) (by omega) h6
            unfold Bit.getTo at CG
            rw [hg1, if_neg (by omega)] at CG
            generalize Bit.getNum b (q1 + 4) 6 = K at CG
            have HR2 := hide hres2
            clear h6 hg1 hres2 hR2
            go_wp2_with fail
            refine CG.mono ?_
            rintro e w3 ⟨rfl, hR3, hM3⟩
            go_wp2
            go_ret2
            rw [HR2.out]
            exact ⟨_, rfl, OwnB.nil _ _, hR3.ref, hMw.trans hM3 (.inl rfl)⟩
        · have HR2 := hide (HU.out hL0)
          obtain ⟨x, hx⟩ : ∃ x : UInt8, x = UInt8.ofNat L := ⟨_, rfl⟩
          have hxL : x.toNat = L := by rw [hx, UInt8.toNat_ofNat']; omega
          rw [← hx] at HR2
          clear hx HU HZ6 HZb HZr HRes
          subst hxL
          have hxI : (x.toNat : Int) > 0 := by omega
          have hx8 : IntKind.u8.wrap (x.toNat : Int) = (x.toNat : Int) := by simp [IntKind.wrap, IntKind.bits, IntKind.signed]; omega
          have hEa := extNew w2 (.cells #[.int .u8 (x.toNat : Int)] 5)
          have hb1 := bytesNew w2 [x] #[.int .u8 (x.toNat : Int)] 5 (0, 0) rfl 1 rfl
          have hOa := hO2.ext hEa
          have hap2 := own_apart hgl HV.out hO2
          have hbs : w.heap.size ≤ (w2.alloc (.cells #[.int .u8 (x.toNat : Int)] 5)).heap.size := Nat.le_trans hMw.size hEa.le
          have hfit : out.length + 1 ≤ 140737488355328 := by have := Hm.out; omega
          go_wp2_with (at_builtin; refine wpList_app rfl (.tmp 32) (.tmp 35) rfl rfl hOa rfl hb1 hfit hbs ?_; intro v5 w5 hO5 hG5)
          have hR5 := (hR2.ext hEa).grown hG5 hap2.1 hap2.2.1
          have hM5 := (hMw.trans (Mod.ofExt (ob := none) hEa) (.inl rfl)).fresh hG5 (fun k hk => (hO2.lt k hk).1)
          have hl5 : (out ++ [x]).length = m + 1 := by rw [List.length_append, ← Hm.out]; rfl
          clear hb1 hOa hap hap2 hbs hfit hG5
          obtain ⟨Av, cv, rfl, _⟩ := hO5.form
          have HO5 := hide hO5
          have HL5 := hide hl5
          clear hl5 hO5
          go_wp2
          go_roundw
          case rel => exact ⟨q1 + 4, 64, _, by rw [HL5.out]; omega, by omega, rfl, HO5.out, hR5, hM5, HR2.out⟩
          case measure =>
            have := HL5.out
            simp only [rdLen]
            omega
      · have hres2 := HRes.out
        rw [readR_short (by rw [← Hm.out]; exact hlt) h4] at hres2
        have CG := refGetV_any hR 4
        have hg1 : Bit.getErr (8 * b.length - q1) 4 = 1 := getErr_le (n := 4) (by omega) h4
        unfold Bit.getTo at CG
        rw [hg1, if_neg (by omega)] at CG
        generalize Bit.getNum b q1 4 = L at CG
        have HR2 := hide hres2
        clear h4 hg1 hres2 hR
        go_wp2_with fail
        refine CG.mono ?_
        rintro e w2 ⟨rfl, hR2, hM2⟩
        go_wp2
        go_ret2
        rw [HR2.out]
        exact ⟨_, rfl, OwnB.nil _ _, hR2.ref, HM.out.trans hM2 (.inl rfl)⟩
    · obtain rfl : m = k := by omega
      have hltI : ¬ (m : Int) < (m : Int) := by omega
      have hres2 := HRes.out
      rw [readR_end (by rw [← Hm.out]; exact hlt)] at hres2
      have C := refCheck_any Ao m co out wr HB.out
      clear hR
      cases hr : right out with
      | true =>
        rw [check_right hr] at C
        rw [hr, if_pos rfl] at hres2
        have HR2 := hide hres2
        clear hr hres2
        go_wp2_with fail
        refine C.mono ?_
        rintro e w2 ⟨rfl, hE⟩
        go_wp2
        go_ret2
        rw [HR2.out]
        exact ⟨_, rfl, HO.out.ext hE, (HR.out.ext hE).ref, HM.out.trans (Mod.ofExt hE) (.inl rfl)⟩
      | false =>
        rw [check_wrong hr] at C
        rw [hr] at hres2
        have HR2 := hide (show res = ([], 7, q1) from hres2)
        clear hr hres2
        go_wp2_with fail
        refine C.mono ?_
        rintro e w2 ⟨rfl, hE⟩
        go_wp2
        go_ret2
        rw [HR2.out]
        exact ⟨_, rfl, OwnB.nil _ _, (HR.out.ext hE).ref, HM.out.trans (Mod.ofExt hE) (.inl rfl)⟩
end Go.Proofs.Ytaohdnhfodkeoaa

namespace Go.Proofs.Ytaohdnhfodkeoaa
open Go.RowKit Lz Tok Len Can Huf
def ReadTo (w : World) (r : List TokV × Int) (e : Ending) (w' : World) : Prop := ∃ v, e = .returned (.tuple #[v, .int .i64 r.2]) ∧ OwnTk w' w.heap.size v r.1 ∧ Ext w w'
theorem join_lit {s : Nat} (h : s < 256) : joinE ⟨s, 0, 0, 0⟩ = (⟨UInt8.ofNat s, 0, 0⟩, 0) := by
  unfold joinE
  dsimp only
  rw [if_pos ⟨by omega, by omega, rfl, rfl, rfl⟩, Int.toNat_natCast]
theorem rd_store {w0 w : World} {base g gp q i : Nat} {b : List UInt8} {rv u : Value} {t : TypeId} {cs : Array Value} (hM : Mod w0 w g none) (hR : RefRV w base g rv b q) (hW : Whole w gp t cs) (hgp : w0.heap.size ≤ gp) (hg : g < w0.heap.size) (hrv : ∀ k, rv.ownBlock = some k → k < w0.heap.size) :
    Mod w0 (w.setCell ⟨gp, i, none⟩ u) g none ∧ RefRV (w.setCell ⟨gp, i, none⟩ u) base g rv b q ∧ Whole (w.setCell ⟨gp, i, none⟩ u) gp t (cs.setIfInBounds i u) :=
  ⟨hM.fresh (grown_setCell w gp i u) (fun k hk => by cases hk; exact hgp), hR.grown (grown_setCell w gp i u) (fun e => by cases e; omega) (by
    cases hv : rv.ownBlock with
    | none => exact .inl rfl
    | some k => exact .inr fun e => by have := hrv k hv; cases e; omega), hW.set i u⟩
theorem join_match {k x d y : Nat} (hk : k ≤ 7) (hx : x < 2 ^ k) (hd : d ≤ 11) (hy : y < 2 ^ d) : ∃ (l8 : UInt8) (N D : Nat), 3 ≤ N ∧ N ≤ 257 ∧ joinE ⟨257 + (k : Int), x, d, y⟩ = (⟨l8, (N : Int), (D : Int)⟩, 0) := by
  have p1 := pow_top hk
  refine ⟨0, 2 ^ k + x + 2, 2 ^ d + y, by omega, by omega, ?_⟩
  unfold joinE
  dsimp only
  rw [if_neg (by omega), if_neg (by omega), show (257 + (k : Int) - 257).toNat = k by omega, Int.toNat_natCast, if_neg (by omega)]
  congr 2
theorem match1 {y b : List UInt8} {s : Int} {q : Nat} (h : Bit.getErr (8 * b.length - q) (s - 257) ≠ 0) : (matchT y b s q).2.1 = Bit.getErr (8 * b.length - q) (s - 257) := by unfold matchT; rw [if_pos h]
theorem match2 {y b : List UInt8} {s : Int} {q : Nat} (h : Bit.getErr (8 * b.length - q) (s - 257) = 0) (h2 : (getE y b (q + (s - 257).toNat)).2.1 ≠ 0) : (matchT y b s q).2.1 = (getE y b (q + (s - 257).toNat)).2.1 := by
  unfold matchT
  rw [if_neg (by rw [h]; simp), if_pos h2]
theorem match3 {y b : List UInt8} {s : Int} {q d qd : Nat} (h : Bit.getErr (8 * b.length - q) (s - 257) = 0) (h2 : getE y b (q + (s - 257).toNat) = ((d : Int), 0, qd)) (h3 : Bit.getErr (8 * b.length - qd) (d : Int) ≠ 0) : (matchT y b s q).2.1 = Bit.getErr (8 * b.length - qd) (d : Int) := by
  unfold matchT
  rw [if_neg (by rw [h]; simp), h2]
  dsimp only
  rw [if_neg (by simp), if_pos h3]
theorem match4 {y b : List UInt8} {s : Int} {q d qd : Nat} (h : Bit.getErr (8 * b.length - q) (s - 257) = 0) (h2 : getE y b (q + (s - 257).toNat) = ((d : Int), 0, qd)) (h3 : Bit.getErr (8 * b.length - qd) (d : Int) = 0) :
    matchT y b s q = (⟨s, (Bit.getNum b q (s - 257) : Nat), d, (Bit.getNum b qd (d : Int) : Nat)⟩, 0, qd + d) := by
  unfold matchT
  rw [if_neg (by rw [h]; simp), h2]
  dsimp only
  rw [if_neg (by simp), if_neg (by rw [h3]; simp), Int.toNat_natCast]
theorem get_to {left q : Nat} {n : Int} (h : Bit.getErr left n = 0) : Bit.getTo left q n = q + n.toNat := by unfold Bit.getTo; rw [if_pos h]
set_option maxHeartbeats 1000000 in
set_option maxRecDepth 100000 in
theorem refRead11_any (A : Option Addr) (c : Nat) (b : List UInt8) (most : Int) (w : World) (hn : b.length ≤ 100000) (hB : Bytes w w.heap.size A b.length b) (hm0 : -9223372036854775808 ≤ most) (hm1 : most ≤ 9223372036854775807) :
    Calls Try.prog 21 #[.slice A b.length c, .int .i64 most] w (ReadTo w (readT b most)) := by
  by_cases hneg : most < 0
  · have HN := hide (show readT b most = ([], 13) by unfold readT; rw [if_pos hneg])
    generalize readT b most = res at *
    go_enter Try.func21, Try.ntmps21
    go_wp2
    go_ret2
    rw [HN.out]
    exact ⟨_, rfl, OwnTk.nil _ _, Ext.refl _⟩
  have C1 := refReader_any A b.length c b w (by omega) hB
  have hm2 : ¬ most < 0 := hneg
  have HRs := hide (show readT b most = if (readE b 265 0).2.1 ≠ 0 then ([], (readE b 265 0).2.1)
      else if (readE b 12 (readE b 265 0).2.2).2.1 ≠ 0 then ([], (readE b 12 (readE b 265 0).2.2).2.1)
      else unT (readE b 265 0).1 (readE b 12 (readE b 265 0).2.2).1 b most (readE b 12 (readE b 265 0).2.2).2.2 0 [] by unfold readT; rw [if_neg hneg])
  have ok1 := fun h => readE_ok (b := b) (n := 265) (q := 0) h
  have ok2 := fun h => readE_ok (b := b) (n := 12) (q := (readE b 265 0).2.2) h
  have HO1 := hide ok1
  have HO2 := hide ok2
  generalize readT b most = res at *
  clear hneg hB ok1 ok2
  go_enter Try.func21, Try.ntmps21
  go_wp2_with fail
  refine C1.mono ?_
  rintro e w1 ⟨g, rfl, hR1, hE1⟩
  have C2 := refRead_any hR1 265
  have hg1 := hR1.lt
  have hgb := hR1.le
  clear C1 hR1
  go_wp2_with fail
  refine C2.mono ?_
  rintro e w2 ⟨v1, rfl, hV1, hR2, hM2⟩
  clear C2
  change Hid ((readE b 265 0).2.1 = 0 → _) at HO1
  generalize readE b 265 0 = r1 at *
  obtain ⟨x, E1, q1⟩ := r1
  dsimp only at HO1 HO2 HRs hV1 hR2 ⊢
  by_cases hE1z : E1 = 0
  case neg =>
    have HN := hide (HRs.out.trans (if_pos hE1z))
    have hEb : (E1 != 0) = true := by simpa using hE1z
    have hEx : Ext w w2 := Below.trans hE1 (hM2.below (B := w.heap.size) hE1.le hgb (fun k hk => by cases hk))
    clear HRs HO1 HO2
    go_wp2
    go_ret2
    rw [HN.out]
    exact ⟨_, rfl, OwnTk.nil _ _, hEx⟩
  subst hE1z
  obtain ⟨hrx, hx⟩ := HO1.out rfl
  have C3 := refRead_any hR2 12
  have h12 := hM2.size
  clear HO1 hR2
  go_wp2_with fail
  refine C3.mono ?_
  rintro e w3 ⟨v2, rfl, hV2, hR3, hM3⟩
  clear C3
  change Hid ((readE b 12 q1).2.1 = 0 → _) at HO2
  generalize readE b 12 q1 = r2 at *
  obtain ⟨y, E2, q2⟩ := r2
  dsimp only at HO2 HRs hV2 hR3 ⊢
  have hM13 := hM2.trans hM3 (.inl rfl)
  have hEx3 : Ext w w3 := Below.trans hE1 (hM13.below (B := w.heap.size) hE1.le hgb (fun k hk => by cases hk))
  by_cases hE2z : E2 = 0
  case neg =>
    have HN := hide (HRs.out.trans ((if_neg (by simp)).trans (if_pos hE2z)))
    have hEb : (E2 != 0) = true := by simpa using hE2z
    clear HRs HO2
    go_wp2
    go_ret2
    rw [HN.out]
    exact ⟨_, rfl, OwnTk.nil _ _, hEx3⟩
  subst hE2z
  obtain ⟨hry, hy⟩ := HO2.out rfl
  have HRes := hide (show res = unT x y b most q2 0 [] from HRs.out.trans ((if_neg (by simp)).trans (if_neg (by simp))))
  have hV1' := hV1.away (hi := w2.heap.size) (fun k hk => (hV1.lt k hk).2) hM3 hg1 (fun k hk => by cases hk)
  obtain ⟨Ax, cx, rfl, _, _, _⟩ := hV1'.form
  obtain ⟨Ay, cy, rfl, _, _, _⟩ := hV2.form
  rw [hx] at hV1' ⊢
  rw [hy] at hV2 ⊢
  obtain ⟨rv, hR3⟩ := hR3
  have hR3 : RefRV w3 w.heap.size g rv b q2 := hR3
  have hrv := fun k hk => (hR3.2.1.lt k hk).2
  have h23 := hM3.size
  have C4 := refNew9R_any Ax 265 cx x w3 (hV1'.at hx.symm)
  unfold RefNewR at C4
  rw [check_right hrx] at C4
  clear HRs HO2 hV1 hM2 hM3 hM13 hE1
  go_wp2_with fail
  refine C4.mono ?_
  rintro e w4 ⟨vc, rfl, hvc, _, hE4⟩
  have hvc := hvc hrx
  obtain ⟨B1, d1, B2, d2, rfl, hvr⟩ := hvc
  have HCc := hide (show RefCodR w4 w3.heap.size w4.heap.size (.agg #[.slice B1 x.length d1, .slice B2 x.length d2]) x from ⟨B1, d1, B2, d2, rfl, hvr⟩)
  clear hvr hvc C4
  rw [hx] at HCc ⊢
  have hE4a := extNew w4 (.cells #[.slice B1 265 d1, .slice B2 265 d2] 74)
  have HWc := hide (Whole.new w4 74 #[.slice B1 265 d1, .slice B2 265 d2])
  have hs4 : (w4.alloc (.cells #[.slice B1 265 d1, .slice B2 265 d2] 74)).heap.size = w4.heap.size + 1 := by simp
  have hV2f := (hV2.ext hE4).ext hE4a
  have C5 := refNew9R_any Ay 12 cy y _ (hV2f.at hy.symm)
  unfold RefNewR at C5
  rw [check_right hry] at C5
  have hle4 := hE4.le
  have hE34 := hE4.trans hE4a
  have HCc2 := hide (HCc.out.ext hE4a)
  clear hV2f hV2 hV1' HCc hE4a hE4
  go_wp2_with fail
  generalize w4.heap.size = H4 at *
  generalize w4.alloc (.cells #[.slice B1 265 d1, .slice B2 265 d2] 74) = w4a at *
  refine C5.mono ?_
  rintro e w5 ⟨vd, rfl, hvd, _, hE5⟩
  have hvd := hvd hry
  rw [hs4] at hvd
  obtain ⟨B3, d3, B4, d4, rfl, hvr⟩ := hvd
  have HCd := hide (show RefCodR w5 (H4 + 1) w5.heap.size (.agg #[.slice B3 y.length d3, .slice B4 y.length d4]) y from ⟨B3, d3, B4, d4, rfl, hvr⟩)
  clear hvr hvd C5
  rw [hy] at HCd ⊢
  have hE5a := extNew w5 (.cells #[.slice B3 12 d3, .slice B4 12 d4] 74)
  have HWd := hide (Whole.new w5 74 #[.slice B3 12 d3, .slice B4 12 d4])
  have hs5 : (w5.alloc (.cells #[.slice B3 12 d3, .slice B4 12 d4] 74)).heap.size = w5.heap.size + 1 := by simp
  have hle5 := hE5.le
  have hE38 := (hE34.trans hE5).trans hE5a
  have HCc3 := hide ((HCc2.out.ext hE5).ext hE5a)
  have HCd3 := hide (HCd.out.ext hE5a)
  have HWc3 := hide ((HWc.out.ext hE5).ext hE5a)
  have HR8 := hide (hR3.ext hE38)
  have hE8 := hEx3.trans hE38
  have hgl3 := hR3.ref.lt
  clear HCc2 HCd HWc hE5a hE5 hE34 hR3
  go_wp2_with fail
  generalize w5.heap.size = H5 at *
  generalize w5.alloc (.cells #[.slice B3 12 d3, .slice B4 12 d4] 74) = w8 at *
  have HAll := hide (show ∀ W, Mod w8 W g none → RefCodR W w3.heap.size H4 (.agg #[.slice B1 265 d1, .slice B2 265 d2]) x ∧ RefCodR W (H4 + 1) H5 (.agg #[.slice B3 12 d3, .slice B4 12 d4]) y ∧ Whole W H4 74 #[.slice B1 265 d1, .slice B2 265 d2] ∧ Whole W H5 74 #[.slice B3 12 d3, .slice B4 12 d4] ∧ Ext w W from fun W hM =>
    ⟨HCc3.out.mod hM (.inl (by omega)) (fun k hk => by cases hk), HCd3.out.mod hM (.inl (by omega)) (fun k hk => by cases hk), hM.whole HWc3.out (by omega) (by simp), hM.whole HWd.out (by omega) (by simp),
      Below.trans hE8 (hM.below (B := w.heap.size) hE8.le hgb (fun k hk => by cases hk))⟩)
  have hrv8 := fun k hk => Nat.lt_of_lt_of_le (hrv k hk) hE38.le
  clear HCc3 HCd3 HWc3 HWd hE38 hE8 hrv hEx3
  go_loopw [14, 15] (fun o a wr => ∃ (q : Nat) (n : Int) (out : List TokV), a = .int .i64 n ∧ 0 ≤ n ∧ n ≤ most ∧ n ≤ 257 * out.length ∧ OwnTk wr w8.heap.size o out ∧ out.length ≤ q ∧ RefRV wr w.heap.size g rv b q ∧ Mod w8 wr g none ∧ res = unT x y b most q n out) (fun o _ _ => 8 * b.length + 1 - rdLen o)
  case atStart => exact ⟨q2, 0, [], rfl, by omega, by omega, by simp, OwnTk.nil _ _, Nat.zero_le _, HR8.out, Mod.refl _ _ _, HRes.out⟩
  case round =>
    clear HRes HR8
    obtain ⟨q, n, out, rfl, hn0, hnm, hnb, hO, hoq, hR, hM, hres⟩ := hrel
    obtain ⟨Ao, co, rfl, _⟩ := hO.form
    obtain ⟨hCr, _, hWc, _, hEw⟩ := HAll.out wr hM
    have hq8 := hR.2.2.2.2.1
    have e0 := hWc.at 0 (u := .slice B1 265 d1) rfl
    have e1 := hWc.at 1 (u := .slice B2 265 d2) rfl
    have CG := refGet9VH_any hCr.cod hrx hR
    have HO := hide hO
    have HR := hide hR
    have HM := hide hM
    have HRes := hide hres
    have hszr := hM.size
    obtain ⟨m, hm⟩ : ∃ m, m = out.length := ⟨_, rfl⟩
    have Hm := hide hm
    have hlm : out.length = m := hm.symm
    rw [hlm] at HO hnb hoq ⊢
    clear hO hR hM hres hCr hWc hm hlm
    by_cases h1 : (getE x b q).2.1 = 0
    case neg =>
      have HN := hide (HRes.out.trans (un_err h1))
      generalize getE x b q = r at *
      obtain ⟨r1, r2, r3⟩ := r
      dsimp only at h1 HN
      have hEb : (r2 != 0) = true := by simpa using h1
      have h1' := hide h1
      clear HRes h1
      go_wp2_with fail
      refine CG.mono ?_
      rintro e wg ⟨rfl, hRg, hMg⟩
      obtain ⟨_, _, _, _, hEg⟩ := HAll.out wg (HM.out.trans hMg (.inl rfl))
      clear CG e0 e1
      dsimp only
      go_wp2
      go_ret2
      rw [HN.out]
      exact ⟨_, rfl, OwnTk.nil _ _, hEg⟩
    obtain ⟨s, hs, he, hl, hlb⟩ := getE_ok hrx h1
    rw [he] at CG
    have HHe := hide he
    have H1 := hide h1
    have hs265 : s < 265 := by omega
    obtain ⟨q', hq'⟩ : ∃ q', q' = q + lenAt x s := ⟨_, rfl⟩
    rw [← hq'] at CG HHe
    have hqq : q < q' := by omega
    have hq8' : q' ≤ 8 * b.length := by omega
    clear he h1 hq' hl hlb hs
    by_cases h256 : s = 256
    · subst h256
      have HEnd := hide (HRes.out.trans (un_end H1.out (by rw [HHe.out]; rfl)))
      rw [HHe.out] at HEnd
      clear HRes H1 HHe
      go_wp2_with fail
      refine CG.mono ?_
      rintro e wg ⟨rfl, hRg, hMg⟩
      have hMw := HM.out.trans hMg (.inl rfl)
      obtain ⟨_, _, _, _, hEg⟩ := HAll.out wg hMw
      have CPd := refPad_any hRg.ref
      have hOg := hMg.ownTk HO.out (fun e => by have := (HO.out.lt g e).1; omega) (by cases Value.ownBlock (.slice Ao m co) <;> simp)
      have HOg := hide hOg
      clear CG e0 e1 hOg
      dsimp only at CPd HEnd ⊢
      by_cases hp : Bit.padErr b q' = 0
      · have HN := hide (HEnd.out.trans (if_pos hp))
        rw [hp] at CPd
        clear hp HEnd
        go_wp2_with fail
        refine CPd.mono ?_
        rintro e wd ⟨rfl, hQd⟩
        go_wp2
        go_ret2
        rw [HN.out]
        obtain ⟨k1, k2⟩ := HOg.out.ext hQd.ext
        exact ⟨_, rfl, ⟨k1, k2.imp_right fun ⟨g', cap, cur, e', hb', r'⟩ => ⟨g', cap, cur, e', Nat.le_trans (by have := hEw.le; omega) hb', r'⟩⟩, hEg.trans hQd.ext⟩
      · have HN := hide (HEnd.out.trans (if_neg hp))
        have hEb : (Bit.padErr b q' != 0) = true := by simpa using hp
        have hp' := hide hp
        clear hp HEnd
        generalize Bit.padErr b q' = pe at *
        go_wp2_with fail
        refine CPd.mono ?_
        rintro e wd ⟨rfl, hQd⟩
        go_wp2
        go_ret2
        rw [HN.out]
        exact ⟨_, rfl, OwnTk.nil _ _, hEg.trans hQd.ext⟩
    · have hsI : ¬ ((s : Int) = 256) := by omega
      have hsb : ((s : Int) == 256) = false := by rw [beq_eq_false_iff_ne]; exact hsI
      by_cases hlit : s < 256
      · have hP : pieceT y b (s : Int) q' = (⟨s, 0, 0, 0⟩, 0, q') := by unfold pieceT; rw [if_pos (by omega)]
        have hp1 : pieceT y b (getE x b q).1 (getE x b q).2.2 = (⟨s, 0, 0, 0⟩, 0, q') := by rw [HHe.out]; exact hP
        have hsz : sizeT (joinE ⟨(s : Int), 0, 0, 0⟩).1 = 1 := by rw [join_lit hlit]; rfl
        have HMu := hide (show most < n + 1 → res = ([], 6) from fun h => HRes.out.trans (un_much H1.out (by rw [HHe.out]; exact hsI) (by rw [hp1]) (by rw [hp1]; dsimp only; rw [hsz]; exact h)))
        have HOn := hide (show ¬ most < n + 1 → res = unT x y b most q' (n + 1) (out ++ [⟨UInt8.ofNat s, 0, 0⟩]) from fun h => by
          have := HRes.out.trans (un_on H1.out (by rw [HHe.out]; exact hsI) (by rw [hp1]) (by rw [hp1]; dsimp only; rw [hsz]; exact h) (by rw [hp1]; exact hqq) (by rw [hp1]; exact hq8'))
          rw [hp1] at this
          dsimp only at this
          rw [hsz, join_lit hlit] at this
          exact this)
        have CJ := fun W => refJoin_any ⟨(s : Int), 0, 0, 0⟩ W
        rw [join_lit hlit] at CJ
        unfold pcV JoinTo tokV at CJ
        dsimp only at CJ
        have h8 := UInt8.toNat_lt (UInt8.ofNat s)
        have hnI : n + 1 ≤ 1000000000 := by omega
        have hltI : (s : Int) < 256 := by omega
        obtain ⟨l8, hl8⟩ : ∃ l8, l8 = UInt8.ofNat s := ⟨_, rfl⟩
        rw [← hl8] at CJ HOn h8
        clear HRes H1 HHe hP hp1 hsz h256 hl8 hlit
        go_wp2_with fail
        refine CG.mono ?_
        rintro e wg ⟨rfl, hRg, hMg⟩
        have hMw := HM.out.trans hMg (.inl rfl)
        have hOg := hMg.ownTk HO.out (fun e => by have := (HO.out.lt g e).1; omega) (by cases Value.ownBlock (.slice Ao m co) <;> simp)
        have HOg := hide hOg
        have HRg := hide hRg
        clear CG e0 e1 hOg hRg
        dsimp only at HRg ⊢
        go_wp2_with fail
        refine (CJ _).mono ?_
        rintro e wj ⟨rfl, hEj⟩
        have hEt := ((extNew wg (.cells #[.int .i64 (s : Int), .int .i64 0, .int .i64 0, .int .i64 0] 25)).trans hEj).trans (extNew wj (.cells #[.int .u8 (l8.toNat : Int), .int .i64 0, .int .i64 0] 23))
        have hMt := hMw.trans (Mod.ofExt (ob := none) hEt) (.inl rfl)
        obtain ⟨_, _, _, _, hEwt⟩ := HAll.out _ hMt
        have hWt := Whole.new wj 23 #[.int .u8 (l8.toNat : Int), .int .i64 0, .int .i64 0]
        have t0 := hWt.at 0 (u := .int .u8 (l8.toNat : Int)) rfl
        have t1 := hWt.at 1 (u := .int .i64 0) rfl
        have t2 := hWt.at 2 (u := .int .i64 0) rfl
        clear CJ hWt
        go_upto_region 32 with fail
        generalize wj.alloc (.cells #[.int .u8 (l8.toNat : Int), .int .i64 0, .int .i64 0] 23) = wt at *
        by_cases hmu : most < n + 1
        · have HN := hide (HMu.out hmu)
          go_wp2
          go_ret2
          rw [HN.out]
          exact ⟨_, rfl, OwnTk.nil _ _, hEwt⟩
        · have HRn := hide (HOn.out (by omega))
          have hEz := extNew wt (.cells #[.int .u8 (l8.toNat : Int), .int .i64 0, .int .i64 0] 23)
          have hOt := (HOg.out.ext hEt).ext hEz
          have hbs := hMt.size
          have hLn : out.length ≤ 1000000 := by rw [← Hm.out]; omega
          have hEtz := hEt.trans hEz
          have hMtz := hide (hMt.trans (Mod.ofExt (ob := none) hEz) (.inl rfl))
          clear hEt hEz hEj
          go_wp2_with (at_builtin; refine wpList_appTkB rfl (.tmp 122) (.tmp 124) rfl rfl ⟨l8, 0, 0⟩ hOt rfl hLn hbs ?_; intro v5 w5 hO5 hG5 _; obtain ⟨A5, c5, rfl, _⟩ := hO5.form)
          have hl5 : (out ++ [(⟨l8, 0, 0⟩ : TokV)]).length = m + 1 := by rw [List.length_append, ← Hm.out]; rfl
          rw [hl5] at hO5
          rw [← Hm.out]
          go_roundw
          case rel => exact ⟨q', n + 1, out ++ [⟨l8, 0, 0⟩], by go_num, by omega, by omega, by rw [hl5]; omega, hO5, by rw [hl5]; omega, (HRg.out.ext hEtz).grown hG5 (fun e => by have := (HO.out.lt g e).1; omega) (by
            cases hv : rv.ownBlock with
            | none => exact .inl rfl
            | some k => exact .inr fun e => by have := hrv8 k hv; have := (HO.out.lt k e.symm).1; omega), Mod.fresh hMtz.out hG5 (fun k hk => (HO.out.lt k hk).1), HRn.out⟩
          case measure => simp [rdLen]; omega
      · obtain ⟨k, hk⟩ : ∃ k : Nat, (s : Int) = 257 + (k : Int) := ⟨s - 257, by omega⟩
        have hk7 : k ≤ 7 := by omega
        obtain ⟨sy, hsy⟩ : ∃ sy : Int, sy = (s : Int) := ⟨_, rfl⟩
        have hsk : sy - 257 = (k : Int) := by omega
        have HSy := hide (show sy = 257 + (k : Int) by omega)
        rw [← hsy] at CG HHe hsI hsb
        have hgt : 256 < sy := by omega
        have hs2 : sy ≤ 264 := by omega
        have hs3 : sy - 257 ≤ 7 := by omega
        have hP : pieceT y b (getE x b q).1 (getE x b q).2.2 = matchT y b sy q' := by rw [HHe.out]; unfold pieceT; rw [if_neg (by omega)]
        have HBad := hide (show ∀ E : Int, E ≠ 0 → (matchT y b sy q').2.1 = E → res = ([], E) from fun E hE h => by
          have := HRes.out.trans (un_bad H1.out (by rw [HHe.out]; exact hsI) (by rw [hP, h]; exact hE))
          rw [hP, h] at this
          exact this)
        have HGood := hide (show ∀ (p : PcV) (qf N : Nat) (t : TokV), matchT y b sy q' = (p, 0, qf) → joinE p = (t, 0) → sizeT t = N → q < qf → qf ≤ 8 * b.length → (most < n + N → res = ([], 6)) ∧ (n + N ≤ most → res = unT x y b most qf (n + N) (out ++ [t])) from fun p qf N t h hj hN h5 h6 => by
          have hp1 := hP.trans h
          have e : (joinE p).1 = t := by rw [hj]
          refine ⟨fun h4 => HRes.out.trans (un_much H1.out (by rw [HHe.out]; exact hsI) (by rw [hp1]) (by rw [hp1]; dsimp only; rw [e, hN]; exact h4)), fun h4 => ?_⟩
          have := HRes.out.trans (un_on H1.out (by rw [HHe.out]; exact hsI) (by rw [hp1]) (by rw [hp1]; dsimp only; rw [e, hN]; omega) (by rw [hp1]; exact h5) (by rw [hp1]; exact h6))
          rw [hp1] at this
          dsimp only at this
          rw [e, hN] at this
          exact this)
        have HSk := hide hsk
        have hrvr := fun k hk => Nat.lt_of_lt_of_le (hrv8 k hk) hszr
        have hgr : g < wr.heap.size := by omega
        clear HRes H1 HHe hP h256 hk hsy hlit hsk
        go_wp2_with fail
        refine CG.mono ?_
        rintro e wg ⟨rfl, hRg, hMg⟩
        have hEp := extNew wg (.cells #[.int .i64 sy, .int .i64 0, .int .i64 0, .int .i64 0] 25)
        have hWp := Whole.new wg 25 #[.int .i64 sy, .int .i64 0, .int .i64 0, .int .i64 0]
        have hMp := hMg.trans (Mod.ofExt (ob := none) hEp) (.inl rfl)
        have hRp := hRg.ext hEp
        have hgpr := hMg.size
        have CG1 := refGetV_any hRp (sy - 257)
        clear CG e0 e1 hRg hMg
        dsimp only at hRp CG1 ⊢
        go_wp2_with fail
        refine CG1.mono ?_
        rintro e wq ⟨rfl, hRq, hMq⟩
        have hMR := hMp.trans hMq (.inl rfl)
        have hWq := hMq.whole hWp (by omega) (by simp)
        clear CG1 hRp hMp hWp hEp hMq
        generalize wg.heap.size = gp at *
        by_cases hE3 : Bit.getErr (8 * b.length - q') (sy - 257) = 0
        case neg =>
          have HN := hide (HBad.out _ hE3 (match1 hE3))
          generalize Bit.getErr (8 * b.length - q') (sy - 257) = E3 at *
          have hEb : (E3 != 0) = true := by simpa using hE3
          have h3' := hide hE3
          obtain ⟨_, _, _, _, hEq⟩ := HAll.out wq (HM.out.trans hMR (.inl rfl))
          clear hE3
          go_wp2
          go_ret2
          rw [HN.out]
          exact ⟨_, rfl, OwnTk.nil _ _, hEq⟩
        rw [get_to hE3, HSk.out, Int.toNat_natCast] at hRq
        have HE3 := hide hE3
        rw [hE3]
        clear hE3
        have hx1 : Bit.getNum b q' (sy - 257) < 2 ^ k := by rw [HSk.out]; exact getNum_lt b q' k
        have hkp := pow_top hk7
        obtain ⟨x1, hx1v⟩ : ∃ v, v = Bit.getNum b q' (sy - 257) := ⟨_, rfl⟩
        rw [← hx1v] at hx1 ⊢
        have HX1 := hide hx1v
        have hx128 : x1 < 128 := by omega
        have HKn := hide (show (sy - 257).toNat = k by rw [HSk.out]; rfl)
        clear hx1v hkp
        have p1 := hWq.at 1 (u := .int .i64 0) rfl
        have f1 := hWq.frozen 1
        obtain ⟨hMR1, hRq1, hWq1⟩ := rd_store (i := 1) (u := .int .i64 (x1 : Int)) hMR hRq hWq hgpr hgr hrvr
        have hWq1 : Whole (wq.setCell ⟨gp, 1, none⟩ (.int .i64 (x1 : Int))) gp 25 #[.int .i64 sy, .int .i64 (x1 : Int), .int .i64 0, .int .i64 0] := hWq1
        obtain ⟨_, hDr, _, hWd, _⟩ := HAll.out _ (HM.out.trans hMR1 (.inl rfl))
        have e0 := hWd.at 0 (u := .slice B3 12 d3) rfl
        have e1 := hWd.at 1 (u := .slice B4 12 d4) rfl
        have CG2 := refGet9VH_any hDr.cod hry hRq1
        have hgpg : gp ≠ g := by omega
        clear hDr hWd hRq1 hRq hWq hMR
        go_wp2_with fail
        refine CG2.mono ?_
        rintro e wq2 ⟨rfl, hR2, hM2⟩
        have hMR2 := hMR1.trans hM2 (.inl rfl)
        have hW2 := hM2.whole hWq1 hgpg (by simp)
        have p2 := hW2.at 2 (u := .int .i64 0) rfl
        have f2 := hW2.frozen 2
        clear CG2 e0 e1 p1 f1 hWq1 hMR1 hM2
        by_cases h2 : (getE y b (q' + k)).2.1 = 0
        case neg =>
          have HN := hide (HBad.out _ h2 (by rw [match2 (y := y) HE3.out (by rw [HKn.out]; exact h2), HKn.out]))
          generalize getE y b (q' + k) = r at *
          obtain ⟨r1, r2, r3⟩ := r
          dsimp only at h2 HN hR2 ⊢
          have hEb : (r2 != 0) = true := by simpa using h2
          have h2' := hide h2
          obtain ⟨_, _, _, _, hEq⟩ := HAll.out _ (HM.out.trans (rd_store (i := 2) (u := .int .i64 r1) hMR2 hR2 hW2 hgpr hgr hrvr).1 (.inl rfl))
          clear h2 hgpg
          go_wp2
          go_ret2
          rw [HN.out]
          exact ⟨_, rfl, OwnTk.nil _ _, hEq⟩
        obtain ⟨d, hd, hde, hdl, hdb⟩ := getE_ok hry h2
        rw [hde] at hR2 ⊢
        have HDe := hide (show getE y b (q' + (sy - 257).toNat) = ((d : Int), 0, q' + k + lenAt y d) by rw [HKn.out]; exact hde)
        have hd12 : d < 12 := by omega
        obtain ⟨qd, hqd⟩ : ∃ qd, qd = q' + k + lenAt y d := ⟨_, rfl⟩
        rw [← hqd] at HDe hR2
        have hqd1 : q' < qd := by omega
        clear h2 hde hqd hdl hdb hd
        dsimp only at hR2 ⊢
        obtain ⟨hMR3, hR3, hW3⟩ := rd_store (i := 2) (u := .int .i64 (d : Int)) hMR2 hR2 hW2 hgpr hgr hrvr
        have hW3 : Whole (wq2.setCell ⟨gp, 2, none⟩ (.int .i64 (d : Int))) gp 25 #[.int .i64 sy, .int .i64 (x1 : Int), .int .i64 (d : Int), .int .i64 0] := hW3
        have CG3 := refGetV_any hR3 (d : Int)
        clear hMR2 hR2 hW2 hR3
        have HG := hide hgpg
        clear hgpg
        go_wp2_with fail
        refine CG3.mono ?_
        rintro e wq3 ⟨rfl, hR4, hM4⟩
        have hMR4 := hMR3.trans hM4 (.inl rfl)
        have hW4 := hM4.whole hW3 HG.out (by simp)
        clear CG3 p2 f2 hMR3 hW3 hM4
        by_cases hE5 : Bit.getErr (8 * b.length - qd) (d : Int) = 0
        case neg =>
          have HN := hide (HBad.out _ hE5 (match3 HE3.out HDe.out hE5))
          generalize Bit.getErr (8 * b.length - qd) (d : Int) = E5 at *
          have hEb : (E5 != 0) = true := by simpa using hE5
          have h3' := hide hE5
          obtain ⟨_, _, _, _, hEq⟩ := HAll.out wq3 (HM.out.trans hMR4 (.inl rfl))
          clear hE5
          go_wp2
          go_ret2
          rw [HN.out]
          exact ⟨_, rfl, OwnTk.nil _ _, hEq⟩
        have HM4 := hide (match4 HE3.out HDe.out hE5)
        rw [get_to hE5, Int.toNat_natCast] at hR4
        rw [hE5]
        have hq9 := hR4.2.2.2.2.1
        have hy1 := getNum_lt b qd d
        rw [← HX1.out] at HM4
        generalize Bit.getNum b qd (d : Int) = y1 at *
        obtain ⟨l8, N, D, hN3, hN257, hj⟩ := join_match hk7 hx1 (show d ≤ 11 by omega) hy1
        rw [← HSy.out] at hj
        have hdp := pow_top (show d ≤ 11 by omega)
        have hy2 : y1 < 2048 := by omega
        obtain ⟨g6, gon⟩ := HGood.out _ _ N ⟨l8, (N : Int), (D : Int)⟩ HM4.out hj (by unfold sizeT; dsimp only; rw [if_neg (by omega), Int.toNat_natCast]) (by omega) hq9
        have H6 := hide g6
        have HOn := hide gon
        have CJ := fun W => refJoin_any ⟨sy, (x1 : Int), (d : Int), (y1 : Int)⟩ W
        rw [hj] at CJ
        unfold pcV JoinTo tokV at CJ
        dsimp only at CJ
        obtain ⟨hMR5, hR5, hW5⟩ := rd_store (i := 3) (u := .int .i64 (y1 : Int)) hMR4 hR4 hW4 hgpr hgr hrvr
        have p0 := hW4.at 0 (u := .int .i64 sy) rfl
        have p1 := hW4.at 1 (u := .int .i64 (x1 : Int)) rfl
        have p2 := hW4.at 2 (u := .int .i64 (d : Int)) rfl
        have p3 := hW4.at 3 (u := .int .i64 0) rfl
        have f3 := hW4.frozen 3
        have HR5 := hide hR5
        have HMR5 := hide hMR5
        clear hE5 g6 gon hj hy1 hdp hx1 hR4 hW4 hMR4 hR5 hW5 hMR5
        go_wp2_with fail
        refine (CJ _).mono ?_
        rintro e wj ⟨rfl, hEj⟩
        have h8 := UInt8.toNat_lt l8
        have hOg := HMR5.out.ownTk HO.out (fun e => by have := (HO.out.lt g e).1; omega) (by cases Value.ownBlock (.slice Ao m co) <;> simp)
        have HOg := hide hOg
        have hEt := hEj.trans (extNew wj (.cells #[.int .u8 (l8.toNat : Int), .int .i64 (N : Int), .int .i64 (D : Int)] 23))
        have hMt := (HM.out.trans HMR5.out (.inl rfl)).trans (Mod.ofExt (ob := none) hEt) (.inl rfl)
        obtain ⟨_, _, _, _, hEwt⟩ := HAll.out _ hMt
        have hWt := Whole.new wj 23 #[.int .u8 (l8.toNat : Int), .int .i64 (N : Int), .int .i64 (D : Int)]
        have t0 := hWt.at 0 (u := .int .u8 (l8.toNat : Int)) rfl
        have t1 := hWt.at 1 (u := .int .i64 (N : Int)) rfl
        have t2 := hWt.at 2 (u := .int .i64 (D : Int)) rfl
        clear CJ hWt hOg p0 p1 p2 p3 f3
        go_upto_region 32 with fail
        generalize wj.alloc (.cells #[.int .u8 (l8.toNat : Int), .int .i64 (N : Int), .int .i64 (D : Int)] 23) = wt at *
        have hNp : 0 < (N : Int) := by omega
        have hnI : n + 1 + (N : Int) ≤ 1000000000 := by omega
        by_cases hmu : most < n + (N : Int)
        · have HN := hide (H6.out hmu)
          have hmuI : most < n + 1 + (N : Int) - 1 := by omega
          clear hmu
          go_wp2
          go_ret2
          rw [HN.out]
          exact ⟨_, rfl, OwnTk.nil _ _, hEwt⟩
        · have HRn := hide (HOn.out (by omega))
          have hmuI : ¬ most < n + 1 + (N : Int) - 1 := by omega
          have hEz := extNew wt (.cells #[.int .u8 (l8.toNat : Int), .int .i64 (N : Int), .int .i64 (D : Int)] 23)
          have hOt := (HOg.out.ext hEt).ext hEz
          have hbs := hMt.size
          have hLn : out.length ≤ 1000000 := by rw [← Hm.out]; omega
          have hEtz := hEt.trans hEz
          have hMtz := hide (hMt.trans (Mod.ofExt (ob := none) hEz) (.inl rfl))
          have hmx : n + (N : Int) ≤ most := by omega
          have Hmx := hide hmx
          clear hEt hEz hEj hmu hmx
          go_wp2_with (at_builtin; refine wpList_appTkB rfl (.tmp 122) (.tmp 124) rfl rfl ⟨l8, (N : Int), (D : Int)⟩ hOt rfl hLn hbs ?_; intro v5 w5 hO5 hG5 _; obtain ⟨A5, c5, rfl, _⟩ := hO5.form)
          have hl5 : (out ++ [(⟨l8, (N : Int), (D : Int)⟩ : TokV)]).length = m + 1 := by rw [List.length_append, ← Hm.out]; rfl
          rw [hl5] at hO5
          rw [← Hm.out]
          go_roundw
          case rel => exact ⟨qd + d, n + (N : Int), out ++ [⟨l8, (N : Int), (D : Int)⟩], congrArg (Value.int .i64) (by omega), by omega, Hmx.out, by rw [hl5]; omega, hO5, by rw [hl5]; omega, (HR5.out.ext hEtz).grown hG5 (fun e => by have := (HO.out.lt g e).1; omega) (by
            cases hv : rv.ownBlock with
            | none => exact .inl rfl
            | some k => exact .inr fun e => by have := hrv8 k hv; have := (HO.out.lt k e.symm).1; omega), Mod.fresh hMtz.out hG5 (fun k hk => (HO.out.lt k hk).1), HRn.out⟩
          case measure => simp [rdLen]; omega
end Go.Proofs.Ytaohdnhfodkeoaa

namespace Go.Proofs.Ytaohdnhfodkeoaa
open Go.RowKit Len Can
def Reads (w : World) (base g : Nat) (b : List UInt8) (r : List UInt8 × Int × Nat) (e : Ending) (w' : World) : Prop :=
  ∃ v q', e = .returned (.tuple #[v, .int .i64 r.2.1]) ∧ OwnB w' w.heap.size v r.1 ∧ Rdr w' base g b q' ∧ (r.2.1 = 0 → q' = r.2.2) ∧ Mod w w' g none
def ReadC (w : World) : Prop := ∀ (n : Int) (W : World) (base g q : Nat) (b : List UInt8), Below w.heap.size w W → -9223372036854775808 ≤ n → n ≤ 9223372036854775807 → Rdr W base g b q →
  Calls Try.prog 75 #[.pointer (some ⟨g, 0, none⟩), .int .i64 n] W (Reads W base g b (readE b n q))
end Go.Proofs.Ytaohdnhfodkeoaa

namespace Go.Proofs.Ytaohdnhfodkeoaa
open Go.RowKit Len Can
def Can.padded (out : List UInt8) (k : Nat) : List UInt8 := out ++ List.replicate (k - out.length) 0
theorem Can.padded_len {out : List UInt8} {k : Nat} (h : out.length ≤ k) : (padded out k).length = k := by
  unfold padded
  rw [List.length_append, List.length_replicate]
  omega
theorem Can.padded_full {out : List UInt8} {k : Nat} (h : out.length = k) : padded out k = out := by
  unfold padded
  rw [h, Nat.sub_self]
  simp
theorem Can.padded_one {out : List UInt8} {k : Nat} (h : out.length < k) (y : UInt8) : (padded out k).set out.length y = padded (out ++ [y]) k := by
  unfold padded
  obtain ⟨d, hd⟩ : ∃ d, k - out.length = d + 1 := ⟨k - out.length - 1, by omega⟩
  rw [hd, List.set_append_right _ _ (Nat.le_refl _), Nat.sub_self, List.replicate_succ, List.set_cons_zero, List.length_append, List.length_singleton, show k - (out.length + 1) = d by omega, List.append_assoc]
  rfl
theorem Can.padded_run {out : List UInt8} {k m : Nat} (h : out.length + m ≤ k) (hm : 1 ≤ m) : (padded out k).set out.length 0 = padded (out ++ List.replicate m 0) k := by
  have e : padded out k = padded (out ++ List.replicate m 0) k := by
    unfold padded
    rw [List.length_append, List.length_replicate, List.append_assoc, List.replicate_append_replicate]
    congr 2
    omega
  rw [← e]
  refine List.ext_getElem (by simp) fun i h1 h2 => ?_
  rw [List.getElem_set]
  split
  · rename_i hi
    subst hi
    have h3 : (padded out k)[out.length]? = some 0 := by
      unfold padded
      rw [List.getElem?_append_right (Nat.le_refl _), List.getElem?_replicate, if_pos (by omega)]
    rw [List.getElem?_eq_getElem h2] at h3
    exact (Option.some.inj h3).symm
  · rfl
theorem Can.readR_item {b : List UInt8} {n q ah : Nat} {out : List UInt8} (h : out.length < n) {x m : Nat} {er : Int} {q' : Nat} (hi : itemE b q = ((x, m), er, q')) :
    (er ≠ 0 → ∃ z, readR b n q ah out = ([], er, z)) ∧
    (er = 0 → x ≠ 0 → x < 256 ∧ m = 1 ∧ readR b n q ah out = readR b n q' 64 (out ++ [UInt8.ofNat x])) ∧
    (er = 0 → x = 0 → 1 ≤ m ∧ m ≤ 64) ∧
    (er = 0 → x = 0 → ah < 64 ∨ n < out.length + m → ∃ z, readR b n q ah out = ([], 7, z)) ∧
    (er = 0 → x = 0 → ¬ (ah < 64 ∨ n < out.length + m) → readR b n q ah out = readR b n q' m (out ++ List.replicate m 0)) := by
  unfold itemE at hi
  by_cases h4 : Bit.getErr (8 * b.length - q) 4 = 0
  · rw [if_pos h4] at hi
    by_cases h0 : Bit.getNum b q 4 = 0
    · rw [if_pos h0] at hi
      by_cases h6 : Bit.getErr (8 * b.length - (q + 4)) 6 = 0
      · rw [if_pos h6] at hi
        have hK := getNum_lt b (q + 4) 6
        change Bit.getNum b (q + 4) 6 < 64 at hK
        simp only [Prod.mk.injEq] at hi
        obtain ⟨⟨rfl, rfl⟩, rfl, rfl⟩ := hi
        refine ⟨fun e => absurd rfl e, fun _ e => absurd rfl e, fun _ _ => ⟨by omega, by omega⟩, fun _ _ hb => ⟨_, readR_bad h h4 h0 h6 hb⟩, fun _ _ hb => readR_run h h4 h0 h6 hb⟩
      · rw [if_neg h6] at hi
        simp only [Prod.mk.injEq] at hi
        obtain ⟨⟨rfl, rfl⟩, rfl, rfl⟩ := hi
        exact ⟨fun _ => ⟨_, readR_short6 h h4 h0 h6⟩, fun e => by omega, fun e => by omega, fun e => by omega, fun e => by omega⟩
    · rw [if_neg h0] at hi
      have hL := getNum_lt b q 4
      change Bit.getNum b q 4 < 16 at hL
      simp only [Prod.mk.injEq] at hi
      obtain ⟨⟨rfl, rfl⟩, rfl, rfl⟩ := hi
      exact ⟨fun e => absurd rfl e, fun _ _ => ⟨by omega, rfl, readR_used h h4 h0⟩, fun _ e => absurd e h0, fun _ e => absurd e h0, fun _ e => absurd e h0⟩
  · rw [if_neg h4] at hi
    simp only [Prod.mk.injEq] at hi
    obtain ⟨⟨rfl, rfl⟩, rfl, rfl⟩ := hi
    exact ⟨fun _ => ⟨_, readR_short h h4⟩, fun e => by omega, fun e => by omega, fun e => by omega, fun e => by omega⟩
set_option maxHeartbeats 2000000 in
set_option maxRecDepth 100000 in
theorem readC_any (w : World) : ReadC w := by
  intro n W base g q b _ hlo hhi h
  by_cases hneg : n < 0
  · have HN := hide (show readE b n q = ([], 13, q) by unfold readE; rw [if_pos (.inl hneg)])
    generalize readE b n q = res at *
    go_enter Try.func75, Try.ntmps75
    go_wp2
    go_ret2
    rw [HN.out]
    exact ⟨_, _, rfl, OwnB.nil _ _, h, fun _ => rfl, Mod.refl _ _ _⟩
  by_cases hbig : 300 < n
  · have HN := hide (show readE b n q = ([], 13, q) by unfold readE; rw [if_pos (.inr hbig)])
    generalize readE b n q = res at *
    go_enter Try.func75, Try.ntmps75
    go_wp2
    go_ret2
    rw [HN.out]
    exact ⟨_, _, rfl, OwnB.nil _ _, h, fun _ => rfl, Mod.refl _ _ _⟩
  obtain ⟨k, rfl⟩ := Int.eq_ofNat_of_zero_le (show 0 ≤ n by omega)
  have hk : k ≤ 300 := by omega
  have HN := hide (show readE b (k : Int) q = readR b k q 64 [] by unfold readE; rw [if_neg (by omega)]; rfl)
  generalize readE b (k : Int) q = res at *
  have hgl := h.lt
  have HR := hide h
  have HP0 := hide (show padded [] k = List.replicate k 0 from by unfold padded; rfl)
  have hk0 : (0 : Int) ≤ (k : Int) := by omega
  clear h hneg hlo hhi
  go_enter Try.func75, Try.ntmps75
  go_wp2_with (refine wpList_makeB (n := k) rfl (.tmp 18) (.tmp 18) rfl rfl rfl (by omega) ?_; intro w2 hO2 hE2)
  obtain ⟨g6, hg6⟩ : ∃ g6, g6 = W.heap.size := ⟨_, rfl⟩
  rw [← hg6] at hO2 ⊢
  have hle6 : W.heap.size ≤ g6 := by omega
  have hgg : g < g6 := by omega
  clear hg6
  rw [show decide ((k : Int) < 0) = false from decide_eq_false (by omega)]
  go_loopw [7, 8] (fun a x wr => ∃ q1 ah out, out.length ≤ k ∧ a = .bool (decide (ah < 64)) ∧ x = .int .i64 (out.length : Int) ∧ OwnB wr g6 (.slice (some ⟨g6, 0, none⟩) k k) (padded out k) ∧ Rdr wr base g b q1 ∧ Mod W wr g none ∧ res = readR b k q1 ah out) (fun _ x _ => k - (intOf x).toNat)
  case atStart => exact ⟨q, 64, [], Nat.zero_le _, rfl, rfl, by rw [HP0.out]; exact hO2, HR.out.ext hE2, Mod.ofExt hE2, HN.out⟩
  case round =>
    clear HR hO2 hE2 HN HP0
    obtain ⟨q1, ah, out, hol, rfl, rfl, hO, hR, hM, hres⟩ := hrel
    have hpl := padded_len hol
    by_cases hlt : out.length < k
    · have C1 := readItem_any hR
      obtain ⟨t, ht⟩ : ∃ t, t = itemE b q1 := ⟨_, rfl⟩
      rw [← ht] at C1
      obtain ⟨⟨x, s⟩, er, q2⟩ := t
      obtain ⟨f1, f2, f3, f4, f5⟩ := readR_item (n := k) (ah := ah) (out := out) hlt ht.symm
      rw [← hres] at f1 f2 f4 f5
      have F1 := hide f1
      have F2 := hide f2
      have F3 := hide f3
      have F4 := hide f4
      have F5 := hide f5
      have HPone := hide (show ∀ y, (padded out k).set out.length y = padded (out ++ [y]) k from fun y => padded_one hlt y)
      have HPrun := hide (show ∀ m, out.length + m ≤ k → 1 ≤ m → (padded out k).set out.length 0 = padded (out ++ List.replicate m 0) k from fun m h1 h2 => padded_run h1 h2)
      unfold ItemAt at C1
      dsimp only at C1
      clear f1 f2 f3 f4 f5 ht hres
      obtain ⟨a, ha⟩ : ∃ a, a = out.length := ⟨_, rfl⟩
      have HA := hide ha
      rw [← ha] at hlt hol F4 F5 HPone HPrun ⊢
      generalize padded out k = P at *
      clear ha
      have hltI : (a : Int) < (k : Int) := by omega
      have hsb := hM.size
      obtain ⟨ended, hen⟩ : ∃ ended, ended = decide (ah < 64) := ⟨_, rfl⟩
      rw [← hen]
      have HEn := hide hen
      clear hen
      go_wp2_with fail
      refine C1.mono ?_
      rintro e w3 ⟨rfl, hR3, hM3⟩
      have hM9 := Whole.new w3 150 (itemV 0 0)
      have hinf : (Try.prog.info? 150).map (·.size) = some (itemV x s).size := canItem_info
      have hone := itemV_one x s
      have hE4 := extNew w3 (.cells (itemV 0 0) 150)
      have hss : (itemV x s).size = 2 := rfl
      have CR := fun (hx : x < 256) (w : World) => isRow_any x s hx w
      have HV0 := hide (show (itemV x s)[0]? = some (.int .u8 (x : Int)) from rfl)
      have HV1 := hide (show (itemV x s)[1]? = some (.int .i64 (s : Int)) from rfl)
      generalize itemV x s = V at *
      unfold itemV at hM9 hE4
      clear C1
      by_cases her : er = 0
      · have C2 := F2.out her
        have C3 := F3.out her
        have C4 := F4.out her
        have C5 := F5.out her
        subst her
        go_wp2_with (first
          | (refine wpList_storeW rfl 150 (.tmp 9) (.tmp 26) rfl rfl rfl hM9 hss hinf hone ?_; intro w5 hW5 hG5 hS5; clear hS5)
          | (refine wpList_load_row rfl 150 (.tmp 9) rfl _ rfl _ _ _ _ hW5 Try.underlying150 rfl hinf ?_))
        have hx256 : x < 256 := by
          by_cases e : x = 0
          · omega
          · exact (C2 e).1
        have hg3 : g6 < w3.heap.size := (hO.lt g6 rfl).2 |> fun h => Nat.lt_of_lt_of_le h hM3.size
        have hO3 := hM3.own hO (by simp [Value.ownBlock]; omega) (by simp [Value.ownBlock])
        have hO5 := (Mod.ofRow (ob := none) hG5).own (hO3.ext hE4) (by simp [Value.ownBlock]; omega) (by simp [Value.ownBlock])
        have hR5 := (hR3.ext hE4).below (B := w3.heap.size) (Below.grown (Below.refl _ _) hG5 hE4.le (fun k hk => by cases hk; omega)) (by omega)
        have hMw := (hM.trans hM3 (.inl rfl)).trans (Mod.ofExt (ob := none) hE4) (.inl rfl) |>.fresh hG5 (fun k hk => by cases hk; omega)
        clear hO3 hM9 hE4 hG5 hO hM hM3 hR hR3
        refine (CR hx256 w5).mono ?_
        rintro e w6 ⟨rfl, hE6⟩
        have hW6 := hW5.ext hE6
        have c0 := hW6.at 0 HV0.out
        have c1 := hW6.at 1 HV1.out
        have hO6 := hO5.ext hE6
        have hR6 := hR5.ext hE6
        have hM6 := hMw.trans (Mod.ofExt (ob := none) hE6) (.inl rfl)
        clear hW5 hO5 hR5 hMw hE6 F1 F2 F3 F4 F5
        by_cases x0 : x = 0
        · have C3' := C3 x0
          have HCR := hide (CR hx256)
          rw [decide_eq_true x0] at HCR ⊢
          clear CR
          by_cases hbad : ah < 64 ∨ k < a + s
          · obtain ⟨z, hz⟩ := C4 x0 hbad
            have HZ := hide hz
            clear hz C2 C3 C4 C5 x0
            cases ended with
            | true =>
              clear hbad
              go_wp2
              go_ret2
              rw [HZ.out]
              exact ⟨_, _, rfl, OwnB.nil _ _, hR6, (fun h => absurd h (by simp)), hM6⟩
            | false =>
              have hah := of_decide_eq_false HEn.out.symm
              have hs : (k : Int) - (a : Int) < (s : Int) := by omega
              have hs2 : (s : Int) ≤ 64 := by omega
              clear hbad hah
              go_wp2
              go_ret2
              rw [HZ.out]
              exact ⟨_, _, rfl, OwnB.nil _ _, hR6, (fun h => absurd h (by simp)), hM6⟩
          · have C5' := C5 x0 hbad
            have hen : ended = false := by rw [HEn.out, decide_eq_false (by omega)]
            subst hen
            have hs : ¬ ((k : Int) - (a : Int) < (s : Int)) := by omega
            have hak : a + s ≤ k := by omega
            have HC5 := hide C5'
            have HX0 := hide x0
            clear C2 C3 C4 C5 C5' hbad
            subst x0
            obtain ⟨hs1, hs64⟩ := C3'
            change w6.cell? ⟨w3.heap.size, 0, none⟩ = some (.int .u8 0) at c0
            have HPl := hide hpl
            rw [← hpl] at hO6
            obtain ⟨k1, k2⟩ := hO6.cell (i := a) (by omega)
            have HOs := hide (hO6.set a 0)
            have hWs := hW6.far (b := g6) (by omega) a (.int .u8 0)
            have c1s := hWs.at 1 HV1.out
            have hRs : Rdr (w6.setCell ⟨g6, a, none⟩ (.int .u8 0)) base g b q2 := hR6.below (B := g6) (Below.setCell (p := ⟨g6, a, none⟩) (Below.refl _ _) (Nat.le_refl _) _) hgg
            have hMs := hM6.fresh (grown_setCell w6 g6 a (.int .u8 0)) (fun k hk => by cases hk; exact hle6)
            have HP2 := hide (HPrun.out s hak hs1)
            have hsI : (s : Int) ≤ 64 := by omega
            generalize (P.getD a 0).toNat = y0 at *
            clear hO6 hpl hR6 hM6
            go_wp2_with (refine wpList_load_row rfl 150 (.tmp 9) rfl _ rfl _ _ _ _ hWs Try.underlying150 rfl hinf ?_)
            refine (HCR.out _).mono ?_
            rintro e w7 ⟨rfl, hE7⟩
            have c1t := (hWs.ext hE7).at 1 HV1.out
            have HOt := hide (HOs.out.ext hE7)
            have hRt := hRs.ext hE7
            have hMt := hMs.trans (Mod.ofExt (ob := none) hE7) (.inl rfl)
            have hlen : (out ++ List.replicate s (0 : UInt8)).length = a + s := by rw [List.length_append, List.length_replicate, ← HA.out]
            have HL := hide hlen
            clear hWs c1s hRs hMs hE7 HOs hlen HCR
            go_wp2
            go_roundw
            case rel => exact ⟨q2, s, out ++ List.replicate s 0, by rw [HL.out]; omega, congrArg Value.bool (decide_eq_decide.2 (by omega)), by rw [HL.out]; go_num, by have := HOt.out; rw [HPl.out, HP2.out] at this; exact this, hRt, hMt, HC5.out⟩
            case measure => simp [intOf]; omega
        · obtain ⟨_, rfl, C2'⟩ := C2 x0
          have HCR := hide (CR hx256)
          rw [decide_eq_false x0] at HCR ⊢
          have HC2 := hide C2'
          obtain ⟨y, hy⟩ : ∃ y : UInt8, y = UInt8.ofNat x := ⟨_, rfl⟩
          have hyx : y.toNat = x := by rw [hy, UInt8.toNat_ofNat']; omega
          rw [← hy] at HC2
          clear C2 C3 C4 C5 C2' CR hy
          have HPl := hide hpl
          rw [← hpl] at hO6
          obtain ⟨k1, k2⟩ := hO6.cell (i := a) (by omega)
          have hOs := hO6.set a y
          rw [hyx] at hOs
          have HOs := hide hOs
          have hWs := hW6.far (b := g6) (by omega) a (.int .u8 (x : Int))
          have c1s := hWs.at 1 HV1.out
          have hRs : Rdr (w6.setCell ⟨g6, a, none⟩ (.int .u8 (x : Int))) base g b q2 := hR6.below (B := g6) (Below.setCell (p := ⟨g6, a, none⟩) (Below.refl _ _) (Nat.le_refl _) _) hgg
          have hMs := hM6.fresh (grown_setCell w6 g6 a (.int .u8 (x : Int))) (fun k hk => by cases hk; exact hle6)
          have HP2 := hide (HPone.out y)
          generalize (P.getD a 0).toNat = y0 at *
          have hx0b : (x : Int) ≠ 0 := by omega
          clear hO6 hpl hR6 hM6 hOs hyx
          go_wp2_with (refine wpList_load_row rfl 150 (.tmp 9) rfl _ rfl _ _ _ _ hWs Try.underlying150 rfl hinf ?_)
          refine (HCR.out _).mono ?_
          rintro e w7 ⟨rfl, hE7⟩
          have HOt := hide (HOs.out.ext hE7)
          have hRt := hRs.ext hE7
          have hMt := hMs.trans (Mod.ofExt (ob := none) hE7) (.inl rfl)
          have hlen : (out ++ [y]).length = a + 1 := by rw [List.length_append, ← HA.out]; rfl
          have HL := hide hlen
          clear hWs c1s hRs hMs hE7 HOs hlen HCR
          go_wp2
          go_roundw
          case rel => exact ⟨q2, 64, out ++ [y], by rw [HL.out]; omega, rfl, by rw [HL.out]; go_num, by have := HOt.out; rw [HPl.out, HP2.out] at this; exact this, hRt, hMt, HC2.out⟩
          case measure => simp [intOf]; omega
      · have herb : ((er : Int) == 0) = false := by rw [beq_eq_false_iff_ne]; omega
        obtain ⟨z, hz⟩ := F1.out her
        have HZ := hide hz
        clear hz F1 F2 F3 F4 F5
        go_wp2_with (refine wpList_storeW rfl 150 (.tmp 9) (.tmp 26) rfl rfl rfl hM9 hss hinf hone ?_; intro w5 hW5 hG5 hS5; clear hS5)
        go_ret2
        rw [HZ.out]
        exact ⟨_, _, rfl, OwnB.nil _ _, (hR3.ext hE4).below (B := w3.heap.size) (Below.grown (Below.refl _ _) hG5 hE4.le (fun k hk => by cases hk; omega)) (by have := hM3.size; omega), fun h => absurd h her, (hM.trans hM3 (.inl rfl)).trans (Mod.ofExt (ob := none) hE4) (.inl rfl) |>.fresh hG5 (fun k hk => by cases hk; have := hM3.size; omega)⟩
    · have hak : out.length = k := by omega
      rw [padded_full hak] at hO
      have hRes := hres
      rw [readR_end hlt] at hRes
      have HRes := hide hRes
      have hkI : ¬ (out.length : Int) < (k : Int) := by omega
      have hgw : g6 < wr.heap.size := (hO.lt g6 rfl).2
      have hb : Bytes wr wr.heap.size (some ⟨g6, 0, none⟩) k out := by
        obtain ⟨A9, c9, e9, _, _, h9⟩ := hO.form
        simp only [Value.slice.injEq] at e9
        obtain ⟨rfl, _, _⟩ := e9
        rw [hak] at h9
        exact h9
      have C1 := check_any (some ⟨g6, 0, none⟩) k k out wr hb
      have HO := hide hO
      obtain ⟨a, ha⟩ : ∃ a, a = out.length := ⟨_, rfl⟩
      rw [← ha] at hkI ⊢
      clear ha hres hRes hpl hol hlt hak hb hO
      cases hr : right out with
      | true =>
        rw [check_right hr] at C1
        rw [hr] at HRes
        go_wp2_with fail
        refine C1.mono ?_
        rintro e w3 ⟨rfl, hE3⟩
        go_wp2
        go_ret2
        rw [HRes.out]
        exact ⟨_, _, rfl, (HO.out.ext hE3).mono hle6, hR.ext hE3, fun _ => rfl, hM.trans (Mod.ofExt (ob := none) hE3) (.inl rfl)⟩
      | false =>
        rw [check_wrong hr] at C1
        rw [hr] at HRes
        go_wp2_with fail
        refine C1.mono ?_
        rintro e w3 ⟨rfl, hE3⟩
        go_wp2
        go_ret2
        rw [HRes.out]
        exact ⟨_, _, rfl, OwnB.nil _ _, hR.ext hE3, (fun h => absurd h (by simp)), hM.trans (Mod.ofExt (ob := none) hE3) (.inl rfl)⟩
end Go.Proofs.Ytaohdnhfodkeoaa

namespace Go.Proofs.Ytaohdnhfodkeoaa
open Go.RowKit Lz Tok Len Can Huf
theorem rdr_store {w0 w : World} {base g gp q i : Nat} {b : List UInt8} {u : Value} {t : TypeId} {cs : Array Value} (hM : Mod w0 w g none) (hR : Rdr w base g b q) (hW : Whole w gp t cs) (hgp : w0.heap.size ≤ gp) (hg : g < w0.heap.size) :
    Mod w0 (w.setCell ⟨gp, i, none⟩ u) g none ∧ Rdr (w.setCell ⟨gp, i, none⟩ u) base g b q ∧ Whole (w.setCell ⟨gp, i, none⟩ u) gp t (cs.setIfInBounds i u) :=
  ⟨hM.fresh (grown_setCell w gp i u) (fun k hk => by cases hk; exact hgp), hR.below (B := g + 1) (Below.setCell (p := ⟨gp, i, none⟩) (Below.refl _ _) (by show g + 1 ≤ gp; omega) u) (by omega), hW.set i u⟩
set_option maxHeartbeats 1000000 in
set_option maxRecDepth 100000 in
theorem number_any' {W : World} {base r gr q : Nat} {b : List UInt8} {P1 P2 : Value} (hW : Whole W r 87 #[.pointer (some ⟨gr, 0, none⟩), P1, P2]) (hR : Rdr W base gr b q) (k : Nat) (hk : k ≤ 11) :
    Calls Try.prog 77 #[.pointer (some ⟨r, 0, none⟩), .int .i64 (k : Int)] W fun e w' => e = .returned (.tuple #[.int .i64 ((Bit.getNum b q (k : Int) : Nat) : Int), .int .i64 (Bit.getErr (8 * b.length - q) (k : Int))]) ∧ Rdr w' base gr b (Bit.getTo (8 * b.length - q) q (k : Int)) ∧ Mod W w' gr none := by
  have C := get_any hR (k : Int)
  have p0 := hW.at 0 (u := .pointer (some ⟨gr, 0, none⟩)) rfl
  have hl := getNum_lt b q k
  have hp := pow_top hk
  have hx : Bit.getNum b q (k : Int) < 2048 := by omega
  clear hR hW hl hp
  generalize Bit.getNum b q (k : Int) = x at *
  generalize Bit.getErr (8 * b.length - q) (k : Int) = E at *
  generalize Bit.getTo (8 * b.length - q) q (k : Int) = q' at *
  go_enter Try.func77, Try.ntmps77
  go_wp2_with fail
  refine C.mono ?_
  rintro e w2 ⟨rfl, hR2, hM2⟩
  have hxw := wrapI64 (x : Int) (by omega) (by omega)
  clear C
  go_wp2
  go_ret2
  exact ⟨rfl, hR2, hM2⟩
def CodeRTo (W : World) (base gr : Nat) (b : List UInt8) (r : List UInt8 × Int × Nat) (e : Ending) (w' : World) : Prop :=
  (r.2.1 ≠ 0 → e = .returned (.tuple #[.pointer none, .int .i64 r.2.1])) ∧ (r.2.1 = 0 → ∃ cg lo, e = .returned (.tuple #[.pointer (some ⟨cg, 0, none⟩), .int .i64 0]) ∧ CodR w' lo w'.heap.size cg r.1 ∧ W.heap.size ≤ lo) ∧
    (∃ q', Rdr w' base gr b q' ∧ (r.2.1 = 0 → q' = r.2.2)) ∧ Mod W w' gr none
set_option maxHeartbeats 1000000 in
set_option maxRecDepth 100000 in
theorem code_any {W : World} {base r gr q : Nat} {b : List UInt8} {P1 P2 : Value} (hW : Whole W r 87 #[.pointer (some ⟨gr, 0, none⟩), P1, P2]) (hR : Rdr W base gr b q) (n : Nat) (hn : n ≤ 300) :
    Calls Try.prog 60 #[.pointer (some ⟨r, 0, none⟩), .int .i64 (n : Int)] W (CodeRTo W base gr b (readE b (n : Int) q)) := by
  have C := readC_any W (n : Int) W base gr q b (Ext.refl W) (by omega) (by omega) hR
  have HOk := hide (fun h => readE_ok (b := b) (n := n) (q := q) h)
  have p0 := hW.at 0 (u := .pointer (some ⟨gr, 0, none⟩)) rfl
  have hgr := hR.lt
  clear hR hW
  generalize readE b (n : Int) q = res at *
  obtain ⟨l, E, q1⟩ := res
  unfold Reads at C
  dsimp only at C HOk
  go_enter Try.func60, Try.ntmps60
  go_wp2_with fail
  refine C.mono ?_
  rintro e w2 ⟨v, q', rfl, hV, hR2, hq, hM2⟩
  have HR2 := hide hR2
  have HQ := hide hq
  clear C hR2 hq
  by_cases hE : E = 0
  case neg =>
    have hb : (E != 0) = true := by rw [bne_iff_ne]; exact hE
    have hE' := hide hE
    clear hE hV
    go_wp2
    go_ret2
    exact ⟨fun _ => rfl, fun h => absurd h hE'.out, ⟨q', HR2.out, HQ.out⟩, hM2⟩
  subst hE
  obtain ⟨hr, hll⟩ := HOk.out rfl
  obtain ⟨A1, c1, rfl, hc1, hcm, hby⟩ := hV.form
  have C3 := hufNew_any A1 l.length c1 l w2 hc1 hby
  have HR := hide hr
  clear hr hll hby hV HOk
  go_wp2_with fail
  refine C3.mono ?_
  rintro e w3 ⟨hyes, _, hE3⟩
  obtain ⟨cg, rfl, hC⟩ := hyes HR.out
  clear hyes C3
  go_wp2
  go_ret2
  exact ⟨fun h => absurd rfl h, fun _ => ⟨cg, w2.heap.size, rfl, hC, hM2.size⟩, ⟨q', HR2.out.ext hE3, fun _ => HQ.out trivial⟩, hM2.trans (Mod.ofExt (ob := none) hE3) (.inl rfl)⟩
structure RdAt (W : World) (base r gr c1 c2 lo1 hi1 lo2 hi2 : Nat) (x y : List UInt8) : Prop where
  blk : Whole W r 87 #[.pointer (some ⟨gr, 0, none⟩), .pointer (some ⟨c1, 0, none⟩), .pointer (some ⟨c2, 0, none⟩)]
  one : CodR W lo1 hi1 c1 x
  two : CodR W lo2 hi2 c2 y
  far : r ≠ gr
  lt1 : gr < lo1
  lt2 : gr < lo2
  low : base ≤ gr
theorem RdAt.mod {W W' : World} {base r gr c1 c2 lo1 hi1 lo2 hi2 : Nat} {x y : List UInt8} (h : RdAt W base r gr c1 c2 lo1 hi1 lo2 hi2 x y) (hM : Mod W W' gr none) : RdAt W' base r gr c1 c2 lo1 hi1 lo2 hi2 x y :=
  ⟨hM.whole h.blk h.far (by simp), CodR.keeps.mod h.one hM (.inl h.lt1) (fun k hk => by cases hk), CodR.keeps.mod h.two hM (.inl h.lt2) (fun k hk => by cases hk), h.far, h.lt1, h.lt2, h.low⟩
def ReaderQ (W : World) (b : List UInt8) (r1 r2 : List UInt8 × Int × Nat) (e : Ending) (w' : World) : Prop := Ext W w' ∧
  ((r1.2.1 ≠ 0 ∧ e = .returned (.tuple #[.pointer none, .int .i64 r1.2.1])) ∨
   (r1.2.1 = 0 ∧ r2.2.1 ≠ 0 ∧ e = .returned (.tuple #[.pointer none, .int .i64 r2.2.1])) ∨
   (r1.2.1 = 0 ∧ r2.2.1 = 0 ∧ ∃ r gr c1 c2 lo1 hi1 lo2 hi2, e = .returned (.tuple #[.pointer (some ⟨r, 0, none⟩), .int .i64 0]) ∧ RdAt w' W.heap.size r gr c1 c2 lo1 hi1 lo2 hi2 r1.1 r2.1 ∧ Rdr w' W.heap.size gr b r2.2.2))
def ReaderTo (W : World) (b : List UInt8) (e : Ending) (w' : World) : Prop := ReaderQ W b (readE b 265 0) (readE b 12 (readE b 265 0).2.2) e w'
set_option maxHeartbeats 1000000 in
set_option maxRecDepth 100000 in
theorem readerOf_any (A : Option Addr) (c : Nat) (b : List UInt8) (W : World) (hc : b.length ≤ c) (hn : b.length ≤ 100000) (hB : Bytes W W.heap.size A b.length b) : Calls Try.prog 41 #[.slice A b.length c] W (ReaderTo W b) := by
  have C1 := newReader_any A b.length c b W hc (by omega) hB
  unfold ReaderTo
  generalize hx1 : readE b 265 0 = r1 at *
  obtain ⟨x, E1, q1⟩ := r1
  dsimp only
  generalize hx3 : readE b 12 q1 = r2 at *
  obtain ⟨y, E2, q2⟩ := r2
  have HX1 := hide hx1
  have HX2 := hide hx3
  clear hB hx1 hx3
  go_enter Try.func41, Try.ntmps41
  go_wp2_with fail
  refine C1.mono ?_
  rintro e w1 ⟨gr, rfl, hR1, hE1⟩
  have hE1a := hE1.alloc (.cells #[.pointer (some ⟨gr, 0, none⟩), .pointer none, .pointer none] 87)
  have hW1 := Whole.new w1 87 #[.pointer (some ⟨gr, 0, none⟩), .pointer none, .pointer none]
  have hR1a := hR1.ext (extNew w1 (.cells #[.pointer (some ⟨gr, 0, none⟩), .pointer none, .pointer none] 87))
  have C2 := code_any hW1 hR1a 265 (by omega)
  rw [show ((265 : Nat) : Int) = 265 from rfl, HX1.out] at C2
  unfold CodeRTo at C2
  dsimp only at C2
  have hgl := hR1.lt
  have hgb := hR1.le
  have hs1 : (w1.alloc (.cells #[.pointer (some ⟨gr, 0, none⟩), .pointer none, .pointer none] 87)).heap.size = w1.heap.size + 1 := by simp
  clear C1 hR1 hR1a hE1
  go_wp2_with fail
  generalize w1.heap.size = r at *
  generalize w1.alloc (.cells #[.pointer (some ⟨gr, 0, none⟩), .pointer none, .pointer none] 87) = wa at *
  refine C2.mono ?_
  rintro e w2 ⟨hno, hyes, ⟨q', hR2, hq⟩, hM2⟩
  have hrg : r ≠ gr := by omega
  have hW2 := hM2.whole hW1 hrg (by simp)
  have hE2 : Ext W w2 := Below.trans hE1a (hM2.below (B := W.heap.size) hE1a.le hgb (fun k hk => by cases hk))
  have p1 := hW2.at 1 (u := .pointer none) rfl
  have f1 := hW2.frozen 1
  clear C2
  by_cases hE1z : E1 = 0
  case neg =>
    obtain rfl := hno hE1z
    have hb : (E1 != 0) = true := by rw [bne_iff_ne]; exact hE1z
    have h1' := hide hE1z
    have HE := hide (show Ext W (w2.setCell ⟨r, 1, none⟩ (.pointer none)) from Below.grown hE2 (grown_setCell w2 r 1 (.pointer none)) hE2.le (fun k hk => by cases hk; omega))
    clear hno hyes hq hE1z
    go_wp2
    go_ret2
    exact ⟨HE.out, .inl ⟨h1'.out, rfl⟩⟩
  subst hE1z
  obtain ⟨c1, lo1, rfl, hC1, hlo1⟩ := hyes rfl
  obtain rfl := hq rfl
  have hle2 := hM2.size
  have hMs := Mod.ofRow (ob := none) (grown_setCell w2 r 1 (.pointer (some ⟨c1, 0, none⟩)))
  have hC1s := CodR.keeps.mod hC1 hMs (.inl (by omega)) (fun k hk => by cases hk)
  have hRs : Rdr (w2.setCell ⟨r, 1, none⟩ (.pointer (some ⟨c1, 0, none⟩))) W.heap.size gr b q' := hR2.below (B := gr + 1) (Below.setCell (p := ⟨r, 1, none⟩) (Below.refl _ _) (by show gr + 1 ≤ r; omega) _) (by omega)
  have hWs : Whole (w2.setCell ⟨r, 1, none⟩ (.pointer (some ⟨c1, 0, none⟩))) r 87 #[.pointer (some ⟨gr, 0, none⟩), .pointer (some ⟨c1, 0, none⟩), .pointer none] := hW2.set 1 _
  have hEs : Ext W (w2.setCell ⟨r, 1, none⟩ (.pointer (some ⟨c1, 0, none⟩))) := Below.grown hE2 (grown_setCell w2 r 1 _) hE2.le (fun k hk => by cases hk; omega)
  have C3 := code_any hWs hRs 12 (by omega)
  rw [show ((12 : Nat) : Int) = 12 from rfl, HX2.out] at C3
  unfold CodeRTo at C3
  dsimp only at C3
  have hss : (w2.setCell ⟨r, 1, none⟩ (.pointer (some ⟨c1, 0, none⟩))).heap.size = w2.heap.size := by simp
  have hlh : lo1 < w2.heap.size := by have := hC1.1; have := hC1.2.1; omega
  have HC1 := hide hC1s
  clear hno hyes hq hMs hC1 hC1s hRs hR2 hW2 hM2 hE2
  go_wp2_with fail
  generalize w2.setCell ⟨r, 1, none⟩ (.pointer (some ⟨c1, 0, none⟩)) = ws at *
  refine C3.mono ?_
  rintro e w3 ⟨hno, hyes, ⟨q', hR3, hq⟩, hM3⟩
  have hW3 := hM3.whole hWs hrg (by simp)
  have hE3 : Ext W w3 := Below.trans hEs (hM3.below (B := W.heap.size) hEs.le hgb (fun k hk => by cases hk))
  have p2 := hW3.at 2 (u := .pointer none) rfl
  have f2 := hW3.frozen 2
  clear C3 p1 f1
  by_cases hE2z : E2 = 0
  case neg =>
    obtain rfl := hno hE2z
    have hb : (E2 != 0) = true := by rw [bne_iff_ne]; exact hE2z
    have h1' := hide hE2z
    have HE := hide (show Ext W (w3.setCell ⟨r, 2, none⟩ (.pointer none)) from Below.grown hE3 (grown_setCell w3 r 2 (.pointer none)) hE3.le (fun k hk => by cases hk; omega))
    clear hno hyes hq hE2z
    go_wp2
    go_ret2
    exact ⟨HE.out, .inr (.inl ⟨rfl, h1'.out, rfl⟩)⟩
  subst hE2z
  obtain ⟨c2, lo2, rfl, hC2, hlo2⟩ := hyes rfl
  obtain rfl := hq rfl
  have hMs := Mod.ofRow (ob := none) (grown_setCell w3 r 2 (.pointer (some ⟨c2, 0, none⟩)))
  have hC1b := CodR.keeps.mod HC1.out hM3 (.inl (by omega)) (fun k hk => by cases hk)
  have hC1c := CodR.keeps.mod hC1b hMs (.inl (by omega)) (fun k hk => by cases hk)
  have hC2c := CodR.keeps.mod hC2 hMs (.inl (by omega)) (fun k hk => by cases hk)
  have hRs : Rdr (w3.setCell ⟨r, 2, none⟩ (.pointer (some ⟨c2, 0, none⟩))) W.heap.size gr b q' := hR3.below (B := gr + 1) (Below.setCell (p := ⟨r, 2, none⟩) (Below.refl _ _) (by show gr + 1 ≤ r; omega) _) (by omega)
  have hWr : Whole (w3.setCell ⟨r, 2, none⟩ (.pointer (some ⟨c2, 0, none⟩))) r 87 #[.pointer (some ⟨gr, 0, none⟩), .pointer (some ⟨c1, 0, none⟩), .pointer (some ⟨c2, 0, none⟩)] := hW3.set 2 _
  have HE := hide (show Ext W (w3.setCell ⟨r, 2, none⟩ (.pointer (some ⟨c2, 0, none⟩))) from Below.grown hE3 (grown_setCell w3 r 2 _) hE3.le (fun k hk => by cases hk; omega))
  have HRd := hide hRs
  have HAt := hide (show RdAt (w3.setCell ⟨r, 2, none⟩ (.pointer (some ⟨c2, 0, none⟩))) W.heap.size r gr c1 c2 lo1 w2.heap.size lo2 w3.heap.size x y from ⟨hWr, hC1c, hC2c, hrg, by omega, by omega, hgb⟩)
  clear hno hyes hq hMs hC1b hC1c hC2c hRs hR3 hWr hW3 hWs hM3 hE3 hEs hC2
  go_wp2
  go_ret2
  exact ⟨HE.out, .inr (.inr ⟨rfl, rfl, r, gr, c1, c2, lo1, w2.heap.size, lo2, w3.heap.size, rfl, HAt.out, HRd.out⟩)⟩
end Go.Proofs.Ytaohdnhfodkeoaa

