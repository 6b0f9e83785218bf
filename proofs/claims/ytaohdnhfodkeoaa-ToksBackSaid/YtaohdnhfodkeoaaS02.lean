/- Contracts of the row of bits: widen, add, number, zerosFrom. The program's pieces: whole, tokenOf, Split, Join. The program's pieces: Join. Contracts of the row of bits: number and zerosFrom. The contract of the library's slices.Clone at bytes. Contracts of the reader: NewReader, Left, Get, Skip, Peek, Unary, Pad. Contracts of the reader: Peek, Unary, Pad, NewReader. The document's Join of chapter 11. Packages that are merged: why the lengths that they say cost least. Plain mathematics of chapter 7. The lengths that packages say: full, and none cost less. -/
import Derived.Test.YtaohdnhfodkeoaaS01
import Derived.Deep.RegionLaw
import Derived.Deep.RegionWith
import Derived.Deep.QuietTactic
import Derived.BigQuiet
import Derived.OpenShut
import Derived.Lib.SliceRun
import Derived.Laws.Tables
import Derived.Test.YtaohdnhfodkeoaaRows
namespace Go.Proofs.Ytaohdnhfodkeoaa
open Go.RowKit
def WRowX (t : TypeId) (R : List Value) (w : World) (base g : Nat) (v : Value) (l : List UInt8) (n : Nat) : Prop :=
  Whole w g t (v :: .int .i64 n :: R).toArray ∧ OwnB w base v l ∧ v.ownBlock ≠ some g ∧ base ≤ g
theorem row_at0 (a b : Value) (R : List Value) : (a :: b :: R).toArray[0]? = some a := by simp
theorem row_at1 (a b : Value) (R : List Value) : (a :: b :: R).toArray[1]? = some b := by simp
theorem row_lt1 (a b : Value) (R : List Value) : 1 < (a :: b :: R).toArray.size := by
  rw [List.size_toArray, List.length_cons, List.length_cons]
  omega
theorem row_set1 (a b u : Value) (R : List Value) : (a :: b :: R).toArray.setIfInBounds 1 u = (a :: u :: R).toArray := by simp
theorem Whole.set0 {w : World} {g : Nat} {t : TypeId} {a : Value} {R : List Value} (h : Whole w g t (a :: R).toArray) (u : Value) : Whole (w.setCell ⟨g, 0, none⟩ u) g t (u :: R).toArray := by
  have := h.set 0 u
  simpa using this
theorem WRowX.bound {t : TypeId} {R : List Value} {w : World} {base g n : Nat} {v : Value} {l : List UInt8} (h : WRowX t R w base g v l n) : base ≤ w.heap.size := Nat.le_trans h.2.2.2 (Nat.le_of_lt h.1.lt)
def WTurned (t : TypeId) (R : List Value) (w : World) (base g : Nat) (v : Value) (l : List UInt8) (n : Nat) (w' : World) : Prop := ∃ v', WRowX t R w' base g v' l n ∧ NewOb w v.ownBlock v'.ownBlock ∧ Mod w w' g v.ownBlock
theorem wrapI64 (x : Int) (h0 : 0 ≤ x) (h1 : x ≤ 9223372036854775807) : IntKind.i64.wrap x = x := by rw [IntKind.wrap_i64]; omega
set_option maxHeartbeats 1000000 in
theorem widen_any {t : TypeId} {R : List Value} {w : World} {base g S : Nat} {v : Value} {l : List UInt8} (n : Nat) (h : WRowX t R w base g v l S) (hn : S + n ≤ 1000000000) (hl : l.length ≤ (S + n + 7) / 8) :
    Calls Try.prog 90 #[.pointer (some ⟨g, 0, none⟩), .int .i64 n] w fun e w' => e = .returned (.tuple #[]) ∧ WTurned t R w base g v (l ++ List.replicate ((S + n + 7) / 8 - l.length) 0) (S + n) w' := by
  obtain ⟨hW, hO, hne, hb⟩ := h
  have c1 : w.cell? ⟨g, 1, none⟩ = some (.int .i64 S) := hW.at 1 (row_at1 ..)
  obtain ⟨k, hk⟩ : ∃ k, k = (S + n + 7) / 8 - l.length := ⟨_, rfl⟩
  have hd : IntKind.i64.wrap (((S : Int) + n + 8 - 1) / 8 - l.length) = (k : Int) := by rw [wrapI64 _ (by omega) (by omega)]; omega
  rw [← hk]
  obtain ⟨A, c, rfl, _, _, _⟩ := hO.form
  have hfit : l.length + k ≤ 140737488355328 := by omega
  clear hk
  go_enter Try.func90, Try.ntmps90
  go_wp2_with (refine wpList_storeC rfl 3 (.tmp 12) (.tmp 10) rfl (.slice A l.length c :: .int .i64 ((S : Int) + n) :: R).toArray rfl rfl hW (row_lt1 ..) (by kernel_rfl) rfl rfl (row_set1 ..) ?_; intro w1 hW1 hG1; have d0 : w1.cell? ⟨g, 0, none⟩ = some (.slice A l.length c) := hW1.at 0 (row_at0 ..); have d1 : w1.cell? ⟨g, 1, none⟩ = some (.int .i64 ((S : Int) + n)) := hW1.at 1 (row_at1 ..); have f0 := hW1.frozen 0; clear c1)
  have hO1 : OwnB w1.drew base (.slice A l.length c) l := ((Mod.ofRow (ob := none) hG1).own hO hne (by simp [Classical.em])).ext (Ext.refl _).drew
  have hB1 := Nat.le_trans (Nat.le_trans hb (Nat.le_of_lt hW.lt)) hG1.size
  have hW1' : Whole w1.drew g t (.slice A l.length c :: .int .i64 ((S : Int) + n) :: R).toArray := hW1
  go_region_law (refine step_zerosAt rfl (.tmp 24) (.tmp 31) rfl rfl hO1 k rfl hfit hB1 ?_; intro v2 w2 hO2 hG2' hN2'; have hG2 : w1.drew.grownBy w2 (Value.slice A l.length c).ownBlock := hG2'; have hN2 : NewOb w1 (Value.slice A l.length c).ownBlock v2.ownBlock := hN2'; clear hG2' hN2'; have hW2 := hW1'.ownGrown hG2 hne; obtain ⟨A2, c2, hv2, _, _, _⟩ := hO2.form; simp only [List.length_append, List.length_replicate] at hv2; subst hv2; have e0 := hW2.at 0 (row_at0 ..); have f2 := hW2.frozen 0)
  all_goals (
    go_end0
    refine ⟨rfl, _, ⟨hW2.set0 _, hO2.far (hN2.ne (g := g) hW1.lt hne) 0 _, hN2.ne (g := g) hW1.lt hne, hb⟩, ?_, ?_⟩
    · exact (NewOb.same w _).trans hG1.size hN2
    · exact ((Mod.ofRow (ob := (Value.slice A l.length c).ownBlock) hG1).trans ((Mod.ofExt (Ext.refl w1).drew).trans (Mod.ofOwn hG2) (.inl rfl)) (.inl rfl)).trans (Mod.ofRow (ob := (Value.slice A l.length c).ownBlock) (grown_setCell w2 g 0 _)) (.inl rfl))
theorem or_byte (c : UInt8) (x s t : Nat) : bits .or .u8 (c.toNat : Int) ((x : Int) / 2 ^ s % 256 * 2 ^ t % 256) = ((Bit.mix c x s t).toNat : Int) := by
  have e : ((x : Int) / 2 ^ s % 256 * 2 ^ t % 256) = (((x >>> s) % 256 * 2 ^ t % 256 : Nat) : Int) := by
    simp only [Nat.shiftRight_eq_div_pow, Int.natCast_emod, Int.natCast_mul, Int.natCast_ediv, Int.natCast_pow]
    rfl
  have hc := c.toNat_lt
  rw [e, u8_or_nat _ _ hc (Nat.mod_lt _ (by decide))]
  unfold Bit.mix
  rw [UInt8.toNat_or, UInt8.toNat_ofNat']
set_option maxHeartbeats 1000000 in
theorem add_any {t : TypeId} {R : List Value} {w : World} {base g S : Nat} {v : Value} {l : List UInt8} {B : List Bool} (x n : Nat) (h : WRowX t R w base g v l S) (hP : Bit.Packs l B) (hS : B.length = S) (hx : x < 2 ^ n) (hn : n ≤ 64) (hfit : S ≤ 900000000) :
    Calls Try.prog 72 #[.pointer (some ⟨g, 0, none⟩), .int .u64 x, .int .i64 n] w fun e w' => e = .returned (.tuple #[]) ∧ ∃ l', Bit.Packs l' (B ++ Bit.num x n) ∧ WTurned t R w base g v l' (S + n) w' := by
  have hW := h.1
  have c1 : w.cell? ⟨g, 1, none⟩ = some (.int .i64 S) := hW.at 1 (row_at1 ..)
  have C1 := widen_any n h (by omega) (by have := hP.1; omega)
  have hA0 := Bit.Adds.start hP x n
  rw [hS] at hA0
  go_enter Try.func72, Try.ntmps72
  go_wp2_with (go_at_call 90; refine C1.mono ?_; rintro e w1 ⟨rfl, hT1⟩)
  go_loopw [2, 6] (fun m p wr => ∃ (q : Nat) (l1 : List UInt8), m = .int .i64 ((S + n - q : Nat) : Int) ∧ p = .int .i64 q ∧ q ≤ S + n ∧ Bit.Adds B x n l1 q ∧ WTurned t R w base g v l1 (S + n) wr) (fun m _ _ => (intOf m).toNat)
  case atStart => exact ⟨S, _, by simp, rfl, by omega, hA0, hT1⟩
  case round =>
    obtain ⟨q, l1, rfl, rfl, hq, hA, hT⟩ := hrel
    by_cases hlt : q < S + n
    · obtain ⟨v1, ⟨hW1, hO1, hne1, hb1⟩, hN1, hM1⟩ := hT
      have hl1 := hA.1
      obtain ⟨gb, cb, rfl, hgb, hcb⟩ := hO1.formG (by omega)
      have hcell := hO1.cell (i := q / 8) (by omega)
      obtain ⟨hc, hf⟩ := hcell
      have d0 : wr.cell? ⟨g, 0, none⟩ = some (.slice (some ⟨gb, 0, none⟩) l1.length cb) := hW1.at 0 (row_at0 ..)
      obtain ⟨m, hm⟩ : ∃ m, m = S + n - q := ⟨_, rfl⟩
      obtain ⟨k, hk⟩ : ∃ k, k = min m (8 - q % 8) := ⟨_, rfl⟩
      have hmin : (if (8 - (q : Int) % 8) < (m : Int) then (8 - (q : Int) % 8) else (m : Int)) = (k : Int) := by split <;> omega
      rw [← hm]
      have hm64 : m ≤ 64 := by have := hA.2.1; omega
      have hm0 : 0 < m := by omega
      have hkm : k ≤ m := by omega
      have hk8 : k ≤ 8 := by omega
      have hqL : (q : Int) / 8 < (l1.length : Int) := by omega
      have Hm := hide hm
      have Hk := hide hk
      clear hm hk
      go_wp2_with (refine wpList_min rfl (.tmp 21) (.tmp 22) rfl rfl rfl hmin ?_)
      have hor := or_byte (l1.getD (q / 8) 0) x (m - k) (8 - q % 8 - k)
      have HB := hide (hA.step hx (k := k) (by rw [hS, ← Hm.out]; exact Hk.out) (by omega))
      rw [hS, show S + n - q - k = m - k by rw [← Hm.out]] at HB
      generalize Bit.mix (l1.getD (q / 8) 0) x (m - k) (8 - q % 8 - k) = y at *
      simp only [List.getD_eq_getElem?_getD] at hor
      have HL := hide hl1
      clear hl1
      go_region
      go_wp2
      go_roundw
      case rel =>
        refine ⟨q + k, l1.set (q / 8) y, ?_, by go_num, by have := Hm.out; omega, HB.out, _, ⟨hW1.far ?_ _ _, ?_, hne1, hb1⟩, ?_, ?_⟩
        · rw [show ((m : Int) - k) = ((S + n - (q + k) : Nat) : Int) by have := Hm.out; omega]
        · exact fun e => hne1 (by simp [Value.ownBlock, e])
        · exact (hO1.set (q / 8) y).ext (Ext.refl _).drew
        · exact hN1
        · exact hM1.trans ((Mod.ofOwn (ob := some gb) (grown_setCell wr gb _ _)).trans (Mod.drew _) (.inl rfl)) hN1
      case measure => simp [intOf]; omega
    · obtain rfl : q = S + n := by omega
      have HB := hide (Bit.Adds.done (B := B) (x := x) (n := n) (l := l1) (by rw [hS]; exact hA))
      go_wp2
      go_end0
      exact ⟨rfl, l1, HB.out, hT⟩
end Go.Proofs.Ytaohdnhfodkeoaa

namespace Go.Proofs.Ytaohdnhfodkeoaa
open Go.RowKit Lz Tok
set_option maxHeartbeats 1000000 in
theorem isMatch_any (p : PcV) (w : World) : Calls Try.prog 30 #[pcV p] w fun e w' => e = .returned (.bool (decide (257 ≤ p.sym))) ∧ Ext w w' := by
  have hE := extNew w (.cells #[.int .i64 p.sym, .int .i64 p.len, .int .i64 p.dist, .int .i64 p.far] 25)
  have c0 := (Whole.new w 25 #[.int .i64 p.sym, .int .i64 p.len, .int .i64 p.dist, .int .i64 p.far]).at 0 (u := .int .i64 p.sym) rfl
  unfold pcV
  go_enter Try.func30, Try.ntmps30
  go_wp2
  go_ret
  exact ⟨rfl, hE⟩
set_option maxHeartbeats 1000000 in
theorem lenBits_any (p : PcV) (w : World) (h0 : 257 ≤ p.sym) (h1 : p.sym ≤ 9223372036854775807) : Calls Try.prog 51 #[pcV p] w fun e w' => e = .returned (.int .i64 (p.sym - 257)) ∧ Ext w w' := by
  have hE := extNew w (.cells #[.int .i64 p.sym, .int .i64 p.len, .int .i64 p.dist, .int .i64 p.far] 25)
  have c0 := (Whole.new w 25 #[.int .i64 p.sym, .int .i64 p.len, .int .i64 p.dist, .int .i64 p.far]).at 0 (u := .int .i64 p.sym) rfl
  unfold pcV
  go_enter Try.func51, Try.ntmps51
  go_wp2
  go_ret
  exact ⟨rfl, hE⟩
theorem wrap64_in (x : Int) : -9223372036854775808 ≤ wrap64 x ∧ wrap64 x ≤ 9223372036854775807 := by
  unfold wrap64
  omega
theorem wrapI_in (x : Int) : -9223372036854775808 ≤ IntKind.i64.wrap x ∧ IntKind.i64.wrap x ≤ 9223372036854775807 := by
  rw [IntKind.wrap_i64]
  omega
def PcIn (p : PcV) : Prop := -9223372036854775808 ≤ p.sym ∧ p.sym ≤ 9223372036854775807 ∧ -9223372036854775808 ≤ p.len ∧ p.len ≤ 9223372036854775807 ∧ -9223372036854775808 ≤ p.dist ∧ p.dist ≤ 9223372036854775807 ∧ -9223372036854775808 ≤ p.far ∧ p.far ≤ 9223372036854775807
def WholeTo (w : World) (e : Ending) (w' : World) : Prop := (∃ x : Int, e = .returned (.int .i64 x) ∧ -9223372036854775808 ≤ x ∧ x ≤ 9223372036854775807) ∧ w = w'
set_option maxHeartbeats 1000000 in
theorem whole_some (n r : Int) (h1 : n ≤ 9223372036854775807) (w : World) : Calls Try.prog 50 #[.int .i64 n, .int .i64 r] w (WholeTo w) := by
  by_cases h0 : n < 0
  · go_enter Try.func50, Try.ntmps50
    go_wp2
    go_ret
    exact ⟨⟨_, rfl, wrap64_in _⟩, rfl⟩
  · have h0' : 0 ≤ n := by omega
    go_enter Try.func50, Try.ntmps50
    go_wp2
    go_ret
    exact ⟨⟨_, rfl, wrap64_in _⟩, rfl⟩
set_option maxHeartbeats 1000000 in
theorem whole_good (k y : Nat) (h0 : k ≤ 11) (h1 : y < 2 ^ k) (w : World) : Calls Try.prog 50 #[.int .i64 (k : Int), .int .i64 (y : Int)] w fun e w' => e = .returned (.int .i64 ((2 ^ k + y : Nat) : Int)) ∧ w = w' := by
  have hp := pow_top h0
  have hpI : (2 : Int) ^ k ≤ 2048 := by
    have : ((2 ^ k : Nat) : Int) ≤ 2048 := by omega
    simpa using this
  have hpI0 : (0 : Int) < (2 : Int) ^ k := by
    have := Nat.two_pow_pos k
    have : (0 : Int) < ((2 ^ k : Nat) : Int) := by omega
    simpa using this
  have hy : (y : Int) ≤ 2048 := by omega
  have HS := hide (show ((2 ^ k + y : Nat) : Int) = (2 : Int) ^ k + (y : Int) by simp)
  generalize 2 ^ k + y = z at *
  clear hp h1
  go_enter Try.func50, Try.ntmps50
  go_wp2
  go_ret
  exact ⟨ret_i64 HS.out.symm, rfl⟩
set_option maxHeartbeats 2000000 in
set_option maxRecDepth 100000 in
theorem tsplit_any (t : TokV) (w : World) : Calls Try.prog 11 #[tokV t] w (SplitTo w (splitE t)) := by
  have hE1 := (extNew w (.cells #[.int .u8 (t.lit.toNat : Int), .int .i64 t.len, .int .i64 t.dist] 23)).alloc (.cells #[.int .i64 0, .int .i64 0, .int .i64 0, .int .i64 0] 25)
  have hW1 := (Whole.new w 23 #[.int .u8 (t.lit.toNat : Int), .int .i64 t.len, .int .i64 t.dist]).alloc (.cells #[.int .i64 0, .int .i64 0, .int .i64 0, .int .i64 0] 25)
  have hP1 := Whole.new (w.alloc (.cells #[.int .u8 (t.lit.toNat : Int), .int .i64 t.len, .int .i64 t.dist] 23)) 25 #[.int .i64 0, .int .i64 0, .int .i64 0, .int .i64 0]
  rw [World.size_alloc] at hP1
  have CM := fun W => lzMay_any t W
  unfold tokV at CM ⊢
  cases hm : may t with
  | false =>
    rw [hm] at CM
    have HN := hide (split_bad hm)
    generalize splitE t = res at *
    clear hm
    generalize t.lit.toNat = y at *
    generalize t.len = tn at *
    generalize t.dist = td at *
    go_enter Try.func11, Try.ntmps11
    go_wp2_with (refine wpList_load_row rfl 23 (.tmp 1) rfl _ rfl _ _ _ _ hW1 Try.underlying23 rfl tk_info ?_)
    refine (CM _).mono ?_
    rintro e w2 ⟨rfl, hE2⟩
    have hP2 := hP1.ext hE2
    clear CM
    go_wp2_with (refine wpList_storeW rfl 25 (.tmp 2) (.tmp 12) rfl rfl rfl hP2 rfl pc_info (pc_one ..) ?_; intro w5 hW5 hG5 _)
    refine bodyPost_ret (results_row2 rfl _ rfl rfl (run_loadVar_row _ _ _ _ _ _ _ hW5 Try.underlying25 rfl pc_info)) rfl ?_
    have hE := hE1.trans hE2
    rw [HN.out]
    exact ⟨rfl, Below.grown hE hG5 hE.le (fun k hk => by cases hk; omega)⟩
  | true =>
    rw [hm] at CM
    have hwp := hP1.lt
    by_cases h0 : t.len = 0
    · have HN := hide (split_lit hm h0)
      generalize splitE t = res at *
      rw [h0] at CM hE1 hW1 hP1 ⊢
      clear hm h0
      have h8 := UInt8.toNat_lt t.lit
      generalize t.lit.toNat = y at *
      generalize t.dist = td at *
      go_enter Try.func11, Try.ntmps11
      go_wp2_with (refine wpList_load_row rfl 23 (.tmp 1) rfl _ rfl _ _ _ _ hW1 Try.underlying23 rfl tk_info ?_)
      refine (CM _).mono ?_
      rintro e w2 ⟨rfl, hE2⟩
      have hP2 := hP1.ext hE2
      have hW2 := hW1.ext hE2
      have c0 := hW2.at 0 (u := .int .u8 (y : Int)) rfl
      have c1 := hW2.at 1 (u := .int .i64 0) rfl
      clear CM
      go_wp2_with (refine wpList_storeW rfl 25 (.tmp 2) (.tmp 20) rfl rfl rfl hP2 rfl pc_info (pc_one ..) ?_; intro w5 hW5 hG5 _)
      refine bodyPost_ret (results_row2 rfl _ rfl rfl (run_loadVar_row _ _ _ _ _ _ _ hW5 Try.underlying25 rfl pc_info)) rfl ?_
      have hE := hE1.trans hE2
      rw [HN.out]
      exact ⟨rfl, Below.grown hE hG5 hE.le (fun k hk => by cases hk; omega)⟩
    · obtain ⟨_, m1, m2, m3, m4⟩ := may_facts hm h0
      obtain ⟨v, hv⟩ := Int.eq_ofNat_of_zero_le (show 0 ≤ t.len - 2 by omega)
      obtain ⟨d, hd⟩ := Int.eq_ofNat_of_zero_le (show 0 ≤ t.dist by omega)
      have hlv : t.len = (v : Int) + 2 := by omega
      have HN := hide (show splitE t = (⟨257 + (Nat.log2 v : Nat), (v - 2 ^ Nat.log2 v : Nat), (Nat.log2 d : Nat), (d - 2 ^ Nat.log2 d : Nat)⟩, 0) by
        unfold splitE
        rw [if_neg (by rw [hm]; simp), if_neg h0, hv, hd, Int.toNat_natCast, Int.toNat_natCast])
      have C1 := fun W => halve_any v W (by omega) (by omega)
      have C2 := fun W => halve_any d W (by omega) (by omega)
      have b1 : Nat.log2 v < 8 := log_lt (by omega) (by omega)
      have b2 : Nat.log2 d < 12 := log_lt (by omega) (by omega)
      generalize splitE t = res at *
      rw [hlv, hd] at CM hE1 hW1 hP1 ⊢
      have hv8 : v ≤ 255 := by omega
      have hd4 : d ≤ 4095 := by omega
      clear hm h0 m1 m2 m3 m4 hv hd hlv
      generalize t.lit.toNat = y at *
      generalize v - 2 ^ Nat.log2 v = x1 at *
      generalize d - 2 ^ Nat.log2 d = x2 at *
      generalize Nat.log2 v = l1 at *
      generalize Nat.log2 d = l2 at *
      have hlb : (((v : Int) + 2) == 0) = false := by rw [beq_eq_false_iff_ne]; omega
      go_enter Try.func11, Try.ntmps11
      go_wp2_with (refine wpList_load_row rfl 23 (.tmp 1) rfl _ rfl _ _ _ _ hW1 Try.underlying23 rfl tk_info ?_)
      refine (CM _).mono ?_
      rintro e w2 ⟨rfl, hE2⟩
      have hP2 := hP1.ext hE2
      have hW2 := hW1.ext hE2
      have c1 := hW2.at 1 (u := .int .i64 ((v : Int) + 2)) rfl
      clear CM
      go_wp2_with fail
      have hv2 : (v : Int) + 2 - 2 = (v : Int) := by omega
      try rw [hv2]
      refine (C1 _).mono ?_
      rintro e w3 ⟨rfl, hE3⟩
      have hP3 := hP2.ext hE3
      have hW3 := hW2.ext hE3
      have c2 := hW3.at 2 (u := .int .i64 (d : Int)) rfl
      clear C1
      go_wp2_with fail
      refine (C2 _).mono ?_
      rintro e w4 ⟨rfl, hE4⟩
      have hP4 := hP3.ext hE4
      have hE := ((hE1.trans hE2).trans hE3).trans hE4
      clear C2
      go_wp2_with (refine wpList_storeW rfl 25 (.tmp 2) (.tmp 39) rfl rfl rfl hP4 rfl pc_info (pc_one ..) ?_; intro w5 hW5 hG5 _)
      refine bodyPost_ret (results_row2 rfl _ rfl rfl (run_loadVar_row _ _ _ _ _ _ _ hW5 Try.underlying25 rfl pc_info)) rfl ?_
      rw [HN.out]
      exact ⟨rfl, Below.grown hE hG5 hE.le (fun k hk => by cases hk; omega)⟩
def TokenTo (w : World) (p : PcV) (e : Ending) (w' : World) : Prop := ∃ t : TokV, e = .returned (tokV t) ∧ t.ok ∧ ((joinE p).2 = 0 → t = (joinE p).1) ∧ Ext w w'
theorem Tok.join_low {a b c d : Int} (h : a < 257) (h0 : (joinE ⟨a, b, c, d⟩).2 = 0) : 0 ≤ a ∧ a < 256 ∧ (joinE ⟨a, b, c, d⟩).1 = ⟨UInt8.ofNat a.toNat, 0, 0⟩ := by
  unfold joinE at h0 ⊢
  dsimp only at h0 ⊢
  split at h0
  · rename_i h1
    rw [if_pos h1]
    exact ⟨h1.1, h1.2.1, rfl⟩
  · rw [if_pos (.inl h)] at h0
    simp at h0
theorem Tok.join_high {a b c d : Int} (h : 257 ≤ a) (h0 : (joinE ⟨a, b, c, d⟩).2 = 0) : ∃ k x m y : Nat, a = 257 + (k : Int) ∧ b = x ∧ c = m ∧ d = y ∧ k ≤ 7 ∧ x < 2 ^ k ∧ m ≤ 11 ∧ y < 2 ^ m ∧ (joinE ⟨a, b, c, d⟩).1 = ⟨0, ((2 ^ k + x : Nat) : Int) + 2, ((2 ^ m + y : Nat) : Int)⟩ := by
  unfold joinE at h0 ⊢
  dsimp only at h0 ⊢
  rw [if_neg (by omega)] at h0 ⊢
  split at h0
  · simp at h0
  · rename_i h1
    rw [if_neg h1]
    split at h0
    · simp at h0
    · rename_i h2
      rw [if_neg h2]
      obtain ⟨k, hk⟩ := Int.eq_ofNat_of_zero_le (show 0 ≤ a - 257 by omega)
      obtain ⟨x, rfl⟩ := Int.eq_ofNat_of_zero_le (show 0 ≤ b by omega)
      obtain ⟨m, rfl⟩ := Int.eq_ofNat_of_zero_le (show 0 ≤ c by omega)
      obtain ⟨y, rfl⟩ := Int.eq_ofNat_of_zero_le (show 0 ≤ d by omega)
      obtain rfl : a = 257 + (k : Int) := by omega
      have e1 : (257 + (k : Int) - 257).toNat = k := by omega
      rw [e1, Int.toNat_natCast, not_or, Int.not_le, Int.not_le] at h2
      rw [e1, Int.toNat_natCast]
      refine ⟨k, x, m, y, rfl, rfl, rfl, rfl, by omega, Int.ofNat_lt.1 h2.1, by omega, Int.ofNat_lt.1 h2.2, ?_⟩
      simp
theorem Tok.join_else (p : PcV) : (joinE p).2 = 0 ∨ joinE p = (⟨0, 0, 0⟩, 7) := by
  unfold joinE
  split
  · exact .inl rfl
  · split
    · exact .inr rfl
    · split
      · exact .inr rfl
      · exact .inl rfl
theorem Tok.split_not {p : PcV} {t : TokV} (h : (joinE p).2 ≠ 0) (hs : splitE t = (p, 0)) : False := by
  have hm : may t = true := by
    cases hm : may t with
    | true => rfl
    | false => rw [split_bad hm] at hs; simp at hs
  have := join_split hm
  rw [hs] at this
  dsimp only at this
  rw [this] at h
  exact h rfl
set_option maxHeartbeats 2000000 in
set_option maxRecDepth 100000 in
theorem tokenOf_low (p : PcV) (hp : PcIn p) (h : p.sym < 257) (w : World) : Calls Try.prog 28 #[pcV p] w (TokenTo w p) := by
  have CM := fun W => isMatch_any p W
  rw [decide_eq_false (show ¬ 257 ≤ p.sym by omega)] at CM
  obtain ⟨a, b, c, d⟩ := p
  obtain ⟨p1, p2, -⟩ := hp
  unfold pcV at CM ⊢
  dsimp only at *
  have hE1 := (extNew w (.cells #[.int .i64 a, .int .i64 b, .int .i64 c, .int .i64 d] 25)).alloc (.cells #[.int .u8 0, .int .i64 0, .int .i64 0] 23)
  have hB := (Whole.new w 25 #[.int .i64 a, .int .i64 b, .int .i64 c, .int .i64 d]).alloc (.cells #[.int .u8 0, .int .i64 0, .int .i64 0] 23)
  have hP1 := Whole.new (w.alloc (.cells #[.int .i64 a, .int .i64 b, .int .i64 c, .int .i64 d] 25)) 23 #[.int .u8 0, .int .i64 0, .int .i64 0]
  rw [World.size_alloc] at hP1
  have HT := hide (show ((UInt8.ofNat (a % 256).toNat).toNat : Int) = a % 256 by rw [UInt8.toNat_ofNat']; omega)
  have HJ := hide (show (joinE ⟨a, b, c, d⟩).2 = 0 → (⟨UInt8.ofNat (a % 256).toNat, 0, 0⟩ : TokV) = (joinE ⟨a, b, c, d⟩).1 from fun h0 => by
    obtain ⟨h1, h2, h3⟩ := join_low h h0
    rw [h3, show a % 256 = a by omega])
  go_enter Try.func28, Try.ntmps28
  go_wp2_with (refine wpList_load_row rfl 25 (.tmp 1) rfl _ rfl _ _ _ _ hB Try.underlying25 rfl pc_info ?_)
  refine (CM _).mono ?_
  rintro e w2 ⟨rfl, hE2⟩
  have hP2 := hP1.ext hE2
  have c0 := (hB.ext hE2).at 0 (u := .int .i64 a) rfl
  have hE := hE1.trans hE2
  clear CM
  go_wp2_with (refine wpList_storeW rfl 23 (.tmp 2) (.tmp 9) rfl rfl rfl hP2 rfl tk_info (tk_one ..) ?_; intro w5 hW5 hG5 _)
  refine bodyPost_ret (results_cell_row rfl _ _ _ _ _ _ _ rfl hW5 Try.underlying23 rfl tk_info) rfl ?_
  refine ⟨⟨UInt8.ofNat (a % 256).toNat, 0, 0⟩, ?_, by unfold TokV.ok; dsimp only; omega, HJ.out, Below.grown hE hG5 hE.le (fun k hk => by cases hk; omega)⟩
  unfold tokV
  dsimp only
  rw [HT.out]
theorem wpOper_storeW {op : Oper} {a : Act} {w : World} {K : Act → World → Prop} {Q : Exit → Act → World → Prop} (ty : TypeId) (x y : Operand) (ho : op.op = .store ty x y)
    {g : Nat} {t : TypeId} {cs cells : Array Value} (hx : a.eval x = .pointer (some ⟨g, 0, none⟩)) (hy : a.eval y = .agg cells) (hw : Whole w g t cs) (hs : cells.size = cs.size)
    (hi : (Try.prog.info? ty).map (·.size) = some cells.size) (h1 : cells.all (·.oneCell') = true)
    (h : ∀ w', Whole w' g t cells → w.grownBy w' (some g) → K (a.put op.dst undef) w') : Oper.wp Try.prog op a w K Q := by
  refine wp_store_mid ty x y ho g 0 cells hx hy (fun j hj => ?_) hi h1 (h _ (hw.storeAll hs) (setCells_grown g _ _ _).1)
  rw [Nat.zero_add]
  refine ⟨?_, hw.frozen j⟩
  rw [hw.cell j, Array.getElem?_eq_getElem (by omega)]
  rfl
set_option maxHeartbeats 2000000 in
set_option maxRecDepth 100000 in
theorem tokenOf_good (k x m y : Nat) (hk : k ≤ 7) (hx : x < 2 ^ k) (hm : m ≤ 11) (hy : y < 2 ^ m) (w : World) : Calls Try.prog 28 #[pcV ⟨257 + (k : Int), x, m, y⟩] w fun e w' => e = .returned (tokV ⟨0, ((2 ^ k + x : Nat) : Int) + 2, ((2 ^ m + y : Nat) : Int)⟩) ∧ Ext w w' := by
  have CM := fun W => isMatch_any ⟨257 + (k : Int), x, m, y⟩ W
  rw [decide_eq_true (show 257 ≤ 257 + (k : Int) by omega)] at CM
  have CL := fun W => lenBits_any ⟨257 + (k : Int), x, m, y⟩ W (by dsimp only; omega) (by dsimp only; omega)
  have C1 := fun W => whole_good k x (by omega) hx W
  have C2 := fun W => whole_good m y hm hy W
  have hp1 := pow_top hk
  have hp2 := pow_top hm
  have hz1 : 2 ^ k + x ≤ 256 := by omega
  have hz2 : 2 ^ m + y ≤ 4096 := by omega
  unfold pcV tokV at *
  dsimp only at *
  rw [show 257 + (k : Int) - 257 = (k : Int) by omega] at CL
  generalize 257 + (k : Int) = a at *
  generalize 2 ^ k + x = z1 at *
  generalize 2 ^ m + y = z2 at *
  clear hp1 hp2 hx hy hk hm
  have hE1 := (extNew w (.cells #[.int .i64 a, .int .i64 (x : Int), .int .i64 (m : Int), .int .i64 (y : Int)] 25)).alloc (.cells #[.int .u8 0, .int .i64 0, .int .i64 0] 23)
  have hB0 := (Whole.new w 25 #[.int .i64 a, .int .i64 (x : Int), .int .i64 (m : Int), .int .i64 (y : Int)]).alloc (.cells #[.int .u8 0, .int .i64 0, .int .i64 0] 23)
  have hP1 := Whole.new (w.alloc (.cells #[.int .i64 a, .int .i64 (x : Int), .int .i64 (m : Int), .int .i64 (y : Int)] 25)) 23 #[.int .u8 0, .int .i64 0, .int .i64 0]
  rw [World.size_alloc] at hP1
  go_enter Try.func28, Try.ntmps28
  go_wp2_with (refine wpList_load_row rfl 25 (.tmp 1) rfl _ rfl _ _ _ _ hB0 Try.underlying25 rfl pc_info ?_)
  refine (CM _).mono ?_
  rintro e w2 ⟨rfl, hE2⟩
  have hP2 := hP1.ext hE2
  have hB := hB0.ext hE2
  clear CM hB0 hP1
  go_wp2_with fail
  refine wp_region_T (fun W => Ext w2 W) 12 13 #[false, false, false, false, false, false, false, false, false, false, false, false, false] (by kernel_rfl) rfl rfl (Ext.refl w2).drew ?_
  intro hS0
  refine wpAnyT_take 0 (some 10) (.agg #[.int .i64 a, .int .i64 (x : Int), .int .i64 (m : Int), .int .i64 (y : Int)]) #[true, false, false, false, false, false, false, false, false, false, false, false, false] rfl rfl rfl (by kernel_rfl) (fun _ _ _ h => h) hS0 (by rfl) (fun W hX => by have s0 := (hB.ext hX).at 0 (u := .int .i64 a) rfl; have s1 := (hB.ext hX).at 1 (u := .int .i64 (x : Int)) rfl; have s2 := (hB.ext hX).at 2 (u := .int .i64 (m : Int)) rfl; have s3 := (hB.ext hX).at 3 (u := .int .i64 (y : Int)) rfl; go_simp) ?_
  simp only [Act.put, List.setIfInBounds_toArray, List.set_cons_zero, List.set_cons_succ]
  refine wpAnyT_take 2 (some 12) (.pointer (some ⟨w.heap.size, 1, none⟩)) #[true, false, true, false, false, false, false, false, false, false, false, false, false] rfl rfl rfl (by kernel_rfl) (fun _ _ _ h => h) hS0 (by rfl) (fun W hX => by go_simp) ?_
  simp only [Act.put, List.setIfInBounds_toArray, List.set_cons_zero, List.set_cons_succ]
  refine wpAnyT_take 3 (some 13) (.int .i64 (x : Int)) #[true, false, true, true, false, false, false, false, false, false, false, false, false] rfl rfl rfl (by kernel_rfl) (fun _ _ _ h => h) hS0 (by rfl) (fun W hX => by have s0 := (hB.ext hX).at 0 (u := .int .i64 a) rfl; have s1 := (hB.ext hX).at 1 (u := .int .i64 (x : Int)) rfl; have s2 := (hB.ext hX).at 2 (u := .int .i64 (m : Int)) rfl; have s3 := (hB.ext hX).at 3 (u := .int .i64 (y : Int)) rfl; go_simp) ?_
  simp only [Act.put, List.setIfInBounds_toArray, List.set_cons_zero, List.set_cons_succ]
  refine wpAnyT_take 6 (some 16) (.pointer (some ⟨w.heap.size, 2, none⟩)) #[true, false, true, true, false, false, true, false, false, false, false, false, false] rfl rfl rfl (by kernel_rfl) (fun _ _ _ h => h) hS0 (by rfl) (fun W hX => by go_simp) ?_
  simp only [Act.put, List.setIfInBounds_toArray, List.set_cons_zero, List.set_cons_succ]
  refine wpAnyT_take 7 (some 17) (.int .i64 (m : Int)) #[true, false, true, true, false, false, true, true, false, false, false, false, false] rfl rfl rfl (by kernel_rfl) (fun _ _ _ h => h) hS0 (by rfl) (fun W hX => by have s0 := (hB.ext hX).at 0 (u := .int .i64 a) rfl; have s1 := (hB.ext hX).at 1 (u := .int .i64 (x : Int)) rfl; have s2 := (hB.ext hX).at 2 (u := .int .i64 (m : Int)) rfl; have s3 := (hB.ext hX).at 3 (u := .int .i64 (y : Int)) rfl; go_simp) ?_
  simp only [Act.put, List.setIfInBounds_toArray, List.set_cons_zero, List.set_cons_succ]
  refine wpAnyT_take 8 (some 18) (.pointer (some ⟨w.heap.size, 3, none⟩)) #[true, false, true, true, false, false, true, true, true, false, false, false, false] rfl rfl rfl (by kernel_rfl) (fun _ _ _ h => h) hS0 (by rfl) (fun W hX => by go_simp) ?_
  simp only [Act.put, List.setIfInBounds_toArray, List.set_cons_zero, List.set_cons_succ]
  refine wpAnyT_take 9 (some 19) (.int .i64 (y : Int)) #[true, false, true, true, false, false, true, true, true, true, false, false, false] rfl rfl rfl (by kernel_rfl) (fun _ _ _ h => h) hS0 (by rfl) (fun W hX => by have s0 := (hB.ext hX).at 0 (u := .int .i64 a) rfl; have s1 := (hB.ext hX).at 1 (u := .int .i64 (x : Int)) rfl; have s2 := (hB.ext hX).at 2 (u := .int .i64 (m : Int)) rfl; have s3 := (hB.ext hX).at 3 (u := .int .i64 (y : Int)) rfl; go_simp) ?_
  simp only [Act.put, List.setIfInBounds_toArray, List.set_cons_zero, List.set_cons_succ]
  refine wpAnyT_only 1 #[true, true, true, true, false, false, true, true, true, true, false, false, false] (by kernel_rfl) rfl rfl (by rfl) (fun K0 hK0 => ?_)
  go_simp
  go_at_call 51
  refine (CL _).mono ?_
  rintro e wc0 ⟨rfl, hC0⟩
  have hX0 := hS0.trans hC0
  refine hK0 _ _ (fun _ => hX0) ?_
  clear hK0 K0
  refine wpAnyT_only 4 #[true, true, true, true, true, false, true, true, true, true, false, false, false] (by kernel_rfl) rfl rfl (by rfl) (fun K1 hK1 => ?_)
  go_simp
  go_at_call 50
  refine (C1 _).mono ?_
  rintro e wc1 ⟨rfl, hC1⟩
  subst hC1
  have hX1 := hX0
  refine hK1 _ _ (fun _ => hX1) ?_
  clear hK1 K1
  refine wpAnyT_take 5 (some 15) (.int .i64 ((z1 : Int) + 2)) #[true, true, true, true, true, true, true, true, true, true, false, false, false] rfl rfl rfl (by kernel_rfl) (fun _ _ _ h => h) hX1 (by rfl) (fun W hX => by have hwz := wrapI64 ((z1 : Int) + 2) (by omega) (by omega); go_simp) ?_
  simp only [Act.put, List.setIfInBounds_toArray, List.set_cons_zero, List.set_cons_succ]
  refine wpAnyT_only 10 #[true, true, true, true, true, true, true, true, true, true, true, false, false] (by kernel_rfl) rfl rfl (by rfl) (fun K2 hK2 => ?_)
  go_simp
  go_at_call 50
  refine (C2 _).mono ?_
  rintro e wc2 ⟨rfl, hC2⟩
  subst hC2
  have hX2 := hX1
  refine hK2 _ _ (fun _ => hX2) ?_
  clear hK2 K2
  refine wpAnyT_take 11 (some 21) (.agg #[.int .u8 0, .int .i64 ((z1 : Int) + 2), .int .i64 (z2 : Int)]) #[true, true, true, true, true, true, true, true, true, true, true, true, false] rfl rfl rfl (by kernel_rfl) (fun _ _ _ h => h) hX2 (by rfl) (fun W hX => by go_simp) ?_
  simp only [Act.put, List.setIfInBounds_toArray, List.set_cons_zero, List.set_cons_succ]
  refine wpAnyT_only 12 #[true, true, true, true, true, true, true, true, true, true, true, true, true] (by kernel_rfl) rfl rfl (by rfl) (fun K3 hK3 => ?_)
  have hP3 := hP2.ext hX2
  have hE := hE1.trans (hE2.trans hX2)
  refine wpOper_storeW 23 (.tmp 2) (.tmp 21) rfl rfl rfl hP3 rfl tk_info (tk_one ..) ?_
  intro w5 hW5 hG5
  refine hK3 _ _ (fun h => absurd h (by decide)) (wpAnyT_done (by kernel_rfl) ?_ _)
  clear hK3 K3
  go_wp2
  refine bodyPost_ret (results_cell_row rfl _ _ _ _ _ _ _ rfl hW5 Try.underlying23 rfl tk_info) rfl ?_
  exact ⟨rfl, Below.grown hE hG5 hE.le (fun k hk => by cases hk; omega)⟩
set_option maxHeartbeats 2000000 in
set_option maxRecDepth 100000 in
theorem tokenOf_some (a b c d : Int) (ha : 257 ≤ a) (ha1 : a ≤ 9223372036854775807) (hc : c ≤ 9223372036854775807) (w : World) : Calls Try.prog 28 #[pcV ⟨a, b, c, d⟩] w fun e w' => ∃ t : TokV, e = .returned (tokV t) ∧ t.ok ∧ Ext w w' := by
  have CM := fun W => isMatch_any ⟨a, b, c, d⟩ W
  rw [decide_eq_true (show 257 ≤ a by omega)] at CM
  have CL := fun W => lenBits_any ⟨a, b, c, d⟩ W ha ha1
  have C1 := fun W => whole_some (a - 257) b (by omega) W
  have C2 := fun W => whole_some c d hc W
  unfold WholeTo at C1 C2
  unfold pcV at *
  dsimp only at *
  have hE1 := (extNew w (.cells #[.int .i64 a, .int .i64 b, .int .i64 c, .int .i64 d] 25)).alloc (.cells #[.int .u8 0, .int .i64 0, .int .i64 0] 23)
  have hB0 := (Whole.new w 25 #[.int .i64 a, .int .i64 b, .int .i64 c, .int .i64 d]).alloc (.cells #[.int .u8 0, .int .i64 0, .int .i64 0] 23)
  have hP1 := Whole.new (w.alloc (.cells #[.int .i64 a, .int .i64 b, .int .i64 c, .int .i64 d] 25)) 23 #[.int .u8 0, .int .i64 0, .int .i64 0]
  rw [World.size_alloc] at hP1
  go_enter Try.func28, Try.ntmps28
  go_wp2_with (refine wpList_load_row rfl 25 (.tmp 1) rfl _ rfl _ _ _ _ hB0 Try.underlying25 rfl pc_info ?_)
  refine (CM _).mono ?_
  rintro e w2 ⟨rfl, hE2⟩
  have hP2 := hP1.ext hE2
  have hB := hB0.ext hE2
  clear CM hB0 hP1
  go_wp2_with fail
  refine wp_region_T (fun W => Ext w2 W) 12 13 #[false, false, false, false, false, false, false, false, false, false, false, false, false] (by kernel_rfl) rfl rfl (Ext.refl w2).drew ?_
  intro hS0
  refine wpAnyT_take 0 (some 10) (.agg #[.int .i64 a, .int .i64 b, .int .i64 c, .int .i64 d]) #[true, false, false, false, false, false, false, false, false, false, false, false, false] rfl rfl rfl (by kernel_rfl) (fun _ _ _ h => h) hS0 (by rfl) (fun W hX => by have s0 := (hB.ext hX).at 0 (u := .int .i64 a) rfl; have s1 := (hB.ext hX).at 1 (u := .int .i64 b) rfl; have s2 := (hB.ext hX).at 2 (u := .int .i64 c) rfl; have s3 := (hB.ext hX).at 3 (u := .int .i64 d) rfl; go_simp) ?_
  simp only [Act.put, List.setIfInBounds_toArray, List.set_cons_zero, List.set_cons_succ]
  refine wpAnyT_take 2 (some 12) (.pointer (some ⟨w.heap.size, 1, none⟩)) #[true, false, true, false, false, false, false, false, false, false, false, false, false] rfl rfl rfl (by kernel_rfl) (fun _ _ _ h => h) hS0 (by rfl) (fun W hX => by go_simp) ?_
  simp only [Act.put, List.setIfInBounds_toArray, List.set_cons_zero, List.set_cons_succ]
  refine wpAnyT_take 3 (some 13) (.int .i64 b) #[true, false, true, true, false, false, false, false, false, false, false, false, false] rfl rfl rfl (by kernel_rfl) (fun _ _ _ h => h) hS0 (by rfl) (fun W hX => by have s0 := (hB.ext hX).at 0 (u := .int .i64 a) rfl; have s1 := (hB.ext hX).at 1 (u := .int .i64 b) rfl; have s2 := (hB.ext hX).at 2 (u := .int .i64 c) rfl; have s3 := (hB.ext hX).at 3 (u := .int .i64 d) rfl; go_simp) ?_
  simp only [Act.put, List.setIfInBounds_toArray, List.set_cons_zero, List.set_cons_succ]
  refine wpAnyT_take 6 (some 16) (.pointer (some ⟨w.heap.size, 2, none⟩)) #[true, false, true, true, false, false, true, false, false, false, false, false, false] rfl rfl rfl (by kernel_rfl) (fun _ _ _ h => h) hS0 (by rfl) (fun W hX => by go_simp) ?_
  simp only [Act.put, List.setIfInBounds_toArray, List.set_cons_zero, List.set_cons_succ]
  refine wpAnyT_take 7 (some 17) (.int .i64 c) #[true, false, true, true, false, false, true, true, false, false, false, false, false] rfl rfl rfl (by kernel_rfl) (fun _ _ _ h => h) hS0 (by rfl) (fun W hX => by have s0 := (hB.ext hX).at 0 (u := .int .i64 a) rfl; have s1 := (hB.ext hX).at 1 (u := .int .i64 b) rfl; have s2 := (hB.ext hX).at 2 (u := .int .i64 c) rfl; have s3 := (hB.ext hX).at 3 (u := .int .i64 d) rfl; go_simp) ?_
  simp only [Act.put, List.setIfInBounds_toArray, List.set_cons_zero, List.set_cons_succ]
  refine wpAnyT_take 8 (some 18) (.pointer (some ⟨w.heap.size, 3, none⟩)) #[true, false, true, true, false, false, true, true, true, false, false, false, false] rfl rfl rfl (by kernel_rfl) (fun _ _ _ h => h) hS0 (by rfl) (fun W hX => by go_simp) ?_
  simp only [Act.put, List.setIfInBounds_toArray, List.set_cons_zero, List.set_cons_succ]
  refine wpAnyT_take 9 (some 19) (.int .i64 d) #[true, false, true, true, false, false, true, true, true, true, false, false, false] rfl rfl rfl (by kernel_rfl) (fun _ _ _ h => h) hS0 (by rfl) (fun W hX => by have s0 := (hB.ext hX).at 0 (u := .int .i64 a) rfl; have s1 := (hB.ext hX).at 1 (u := .int .i64 b) rfl; have s2 := (hB.ext hX).at 2 (u := .int .i64 c) rfl; have s3 := (hB.ext hX).at 3 (u := .int .i64 d) rfl; go_simp) ?_
  simp only [Act.put, List.setIfInBounds_toArray, List.set_cons_zero, List.set_cons_succ]
  refine wpAnyT_only 1 #[true, true, true, true, false, false, true, true, true, true, false, false, false] (by kernel_rfl) rfl rfl (by rfl) (fun K0 hK0 => ?_)
  go_simp
  go_at_call 51
  refine (CL _).mono ?_
  rintro e wc0 ⟨rfl, hC0⟩
  have hX0 := hS0.trans hC0
  refine hK0 _ _ (fun _ => hX0) ?_
  clear hK0 K0
  refine wpAnyT_only 4 #[true, true, true, true, true, false, true, true, true, true, false, false, false] (by kernel_rfl) rfl rfl (by rfl) (fun K1 hK1 => ?_)
  go_simp
  go_at_call 50
  refine (C1 _).mono ?_
  rintro e wc1 ⟨⟨z1, rfl, hz1, hz1b⟩, hC1⟩
  subst hC1
  have hX1 := hX0
  refine hK1 _ _ (fun _ => hX1) ?_
  clear hK1 K1
  refine wpAnyT_take 5 (some 15) (.int .i64 (IntKind.i64.wrap (z1 + 2))) #[true, true, true, true, true, true, true, true, true, true, false, false, false] rfl rfl rfl (by kernel_rfl) (fun _ _ _ h => h) hX1 (by rfl) (fun W hX => by go_simp) ?_
  simp only [Act.put, List.setIfInBounds_toArray, List.set_cons_zero, List.set_cons_succ]
  refine wpAnyT_only 10 #[true, true, true, true, true, true, true, true, true, true, true, false, false] (by kernel_rfl) rfl rfl (by rfl) (fun K2 hK2 => ?_)
  go_simp
  go_at_call 50
  refine (C2 _).mono ?_
  rintro e wc2 ⟨⟨z2, rfl, hz2, hz2b⟩, hC2⟩
  subst hC2
  have hX2 := hX1
  refine hK2 _ _ (fun _ => hX2) ?_
  clear hK2 K2
  refine wpAnyT_take 11 (some 21) (.agg #[.int .u8 0, .int .i64 (IntKind.i64.wrap (z1 + 2)), .int .i64 z2]) #[true, true, true, true, true, true, true, true, true, true, true, true, false] rfl rfl rfl (by kernel_rfl) (fun _ _ _ h => h) hX2 (by rfl) (fun W hX => by go_simp) ?_
  simp only [Act.put, List.setIfInBounds_toArray, List.set_cons_zero, List.set_cons_succ]
  refine wpAnyT_only 12 #[true, true, true, true, true, true, true, true, true, true, true, true, true] (by kernel_rfl) rfl rfl (by rfl) (fun K3 hK3 => ?_)
  have hP3 := hP2.ext hX2
  have hE := hE1.trans (hE2.trans hX2)
  refine wpOper_storeW 23 (.tmp 2) (.tmp 21) rfl rfl rfl hP3 rfl tk_info (tk_one ..) ?_
  intro w5 hW5 hG5
  refine hK3 _ _ (fun h => absurd h (by decide)) (wpAnyT_done (by kernel_rfl) ?_ _)
  clear hK3 K3
  go_wp2
  refine bodyPost_ret (results_cell_row rfl _ _ _ _ _ _ _ rfl hW5 Try.underlying23 rfl tk_info) rfl ?_
  refine ⟨⟨0, IntKind.i64.wrap (z1 + 2), z2⟩, rfl, ?_, Below.grown hE hG5 hE.le (fun k hk => by cases hk; omega)⟩
  have := wrapI_in (z1 + 2)
  unfold TokV.ok
  dsimp only
  omega
theorem tokenOf_any (p : PcV) (hp : PcIn p) (w : World) : Calls Try.prog 28 #[pcV p] w (TokenTo w p) := by
  by_cases h : p.sym < 257
  · exact tokenOf_low p hp h w
  · obtain ⟨a, b, c, d⟩ := p
    dsimp only at h
    by_cases hj : (joinE ⟨a, b, c, d⟩).2 = 0
    · obtain ⟨k, x, m, y, rfl, rfl, rfl, rfl, hk, hx, hm, hy, e1⟩ := join_high (by omega) hj
      refine (tokenOf_good k x m y hk hx hm hy w).mono ?_
      rintro e w' ⟨rfl, hE⟩
      have hp1 := pow_top hk
      have hp2 := pow_top hm
      exact ⟨_, rfl, by unfold TokV.ok; dsimp only; omega, fun _ => e1.symm, hE⟩
    · obtain ⟨p1, p2, p3, p4, p5, p6, -⟩ := hp
      refine (tokenOf_some a b c d (by omega) p2 p6 w).mono ?_
      rintro e w' ⟨t, rfl, ht, hE⟩
      exact ⟨t, rfl, ht, fun h => absurd h hj, hE⟩
end Go.Proofs.Ytaohdnhfodkeoaa

namespace Go.Proofs.Ytaohdnhfodkeoaa
open Go.RowKit Lz Tok
set_option maxHeartbeats 2000000 in
set_option maxRecDepth 100000 in
theorem tjoin_any (p : PcV) (hp : PcIn p) (w : World) : Calls Try.prog 13 #[pcV p] w (JoinTo w (joinE p)) := by
  have CT := fun W => tokenOf_any p hp W
  have CS := fun t W => tsplit_any t W
  have hE1 := (extNew w (.cells #[.int .i64 p.sym, .int .i64 p.len, .int .i64 p.dist, .int .i64 p.far] 25)).alloc (.cells #[.int .u8 0, .int .i64 0, .int .i64 0] 23)
  have hB1 := (Whole.new w 25 #[.int .i64 p.sym, .int .i64 p.len, .int .i64 p.dist, .int .i64 p.far]).alloc (.cells #[.int .u8 0, .int .i64 0, .int .i64 0] 23)
  have hP1 := Whole.new (w.alloc (.cells #[.int .i64 p.sym, .int .i64 p.len, .int .i64 p.dist, .int .i64 p.far] 25)) 23 #[.int .u8 0, .int .i64 0, .int .i64 0]
  rw [World.size_alloc] at hP1
  have HEl := hide (join_else p)
  have HNo := hide (fun t => split_not (p := p) (t := t))
  have HYes := hide (fun h => split_join (p := p) h)
  unfold TokenTo SplitTo at *
  unfold pcV at *
  generalize joinE p = res at *
  obtain ⟨a, b, c, d⟩ := p
  dsimp only at *
  go_enter Try.func13, Try.ntmps13
  go_wp2_with (refine wpList_load_row rfl 25 (.tmp 1) rfl _ rfl _ _ _ _ hB1 Try.underlying25 rfl pc_info ?_)
  refine (CT _).mono ?_
  rintro e w2 ⟨t, rfl, ht, htj, hE2⟩
  have hP2 := hP1.ext hE2
  have hB2 := hB1.ext hE2
  have hE12 := hE1.trans hE2
  have HTj := hide htj
  have CS2 := CS t
  have HS2 := hide (show splitE t = splitE t from rfl)
  have HNo2 := hide (HNo.out t)
  have HYes2 := hide (fun (h : res.2 = 0) => by have := HYes.out h; rw [← htj h] at this; exact this)
  generalize splitE t = st at *
  clear CT hE1 hP1 hB1 hE2 htj CS HNo HYes HS2
  unfold tokV at *
  obtain ⟨⟨s1, s2, s3, s4⟩, es⟩ := st
  dsimp only at CS2 HNo2 HYes2
  have hE3 := hE12.alloc (.cells #[.int .u8 (t.lit.toNat : Int), .int .i64 t.len, .int .i64 t.dist] 23)
  have hT3 := Whole.new w2 23 #[.int .u8 (t.lit.toNat : Int), .int .i64 t.len, .int .i64 t.dist]
  have hP3 := hP2.alloc (.cells #[.int .u8 (t.lit.toNat : Int), .int .i64 t.len, .int .i64 t.dist] 23)
  have hB3 := hB2.alloc (.cells #[.int .u8 (t.lit.toNat : Int), .int .i64 t.len, .int .i64 t.dist] 23)
  clear hP2 hB2 hE12
  have hg8 := UInt8.toNat_lt t.lit
  go_wp2_with (refine wpList_load_row rfl 23 (.tmp 4) rfl _ rfl _ _ _ _ hT3 Try.underlying23 rfl tk_info ?_)
  refine (CS2 _).mono ?_
  rintro e w4 ⟨rfl, hE4⟩
  have hEp := hE4.alloc (.cells #[.int .i64 s1, .int .i64 s2, .int .i64 s3, .int .i64 s4] 25)
  have hE5 := hE3.trans hEp
  have hT5 := hT3.ext hEp
  have hP5 := hP3.ext hEp
  have hB5 := hB3.ext hEp
  have hS5 := Whole.new w4 25 #[.int .i64 s1, .int .i64 s2, .int .i64 s3, .int .i64 s4]
  clear CS2 hE3 hT3 hP3 hB3 hEp hE4
  have hH5 := hE5.le
  generalize w2.heap.size = H2 at *
  have b0 := hB5.at 0 (u := .int .i64 a) rfl
  have b1 := hB5.at 1 (u := .int .i64 b) rfl
  have b2 := hB5.at 2 (u := .int .i64 c) rfl
  have b3 := hB5.at 3 (u := .int .i64 d) rfl
  have d0 := hS5.at 0 (u := .int .i64 s1) rfl
  have d1 := hS5.at 1 (u := .int .i64 s2) rfl
  have d2 := hS5.at 2 (u := .int .i64 s3) rfl
  have d3 := hS5.at 3 (u := .int .i64 s4) rfl
  by_cases hes : es = 0
  · subst hes
    by_cases heq : s1 = a ∧ s2 = b ∧ s3 = c ∧ s4 = d
    · obtain ⟨rfl, rfl, rfl, rfl⟩ := heq
      have HR := hide (show res = (t, 0) from by
        rcases HEl.out with h | h
        · have := HTj.out h
          obtain ⟨r1, r2⟩ := res
          dsimp only at h this
          rw [h, this]
        · exact (HNo2.out (by rw [h]; simp) rfl).elim)
      clear HEl HTj HNo2 HYes2
      go_wp2_with (first
        | (refine wpList_load_row rfl 23 (.tmp 4) rfl _ rfl _ _ _ _ hT5 Try.underlying23 rfl tk_info ?_)
        | (refine wpList_storeW rfl 23 (.tmp 2) (.tmp 22) rfl rfl rfl hP5 rfl tk_info (tk_one ..) ?_; intro w6 hW6 hG6 _))
      refine bodyPost_ret (results_row2 rfl _ rfl rfl (run_loadVar_row _ _ _ _ _ _ _ hW6 Try.underlying23 rfl tk_info)) rfl ?_
      rw [HR.out]
      exact ⟨rfl, Below.grown hE5 hG6 hE5.le (fun k hk => by cases hk; omega)⟩
    · have HR := hide (show res = (⟨0, 0, 0⟩, 7) from by
        rcases HEl.out with h | h
        · have h2 := (HYes2.out h).1
          simp only [Prod.mk.injEq, PcV.mk.injEq, and_true] at h2
          exact (heq h2).elim
        · exact h)
      have hcs : (s1 ≠ a) ∨ (s1 = a ∧ s2 ≠ b) ∨ (s1 = a ∧ s2 = b ∧ s3 ≠ c) ∨ (s1 = a ∧ s2 = b ∧ s3 = c ∧ s4 ≠ d) := by
        by_cases g1 : s1 = a
        · by_cases g2 : s2 = b
          · by_cases g3 : s3 = c
            · exact .inr (.inr (.inr ⟨g1, g2, g3, fun g4 => heq ⟨g1, g2, g3, g4⟩⟩))
            · exact .inr (.inr (.inl ⟨g1, g2, g3⟩))
          · exact .inr (.inl ⟨g1, g2⟩)
        · exact .inl g1
      clear heq HEl HTj HNo2 HYes2
      rcases hcs with hne | ⟨rfl, hne⟩ | ⟨rfl, rfl, hne⟩ | ⟨rfl, rfl, rfl, hne⟩
      · go_wp2_with (refine wpList_storeW rfl 23 (.tmp 2) (.tmp 21) rfl rfl rfl hP5 rfl tk_info (tk_one ..) ?_; intro w6 hW6 hG6 _)
        refine bodyPost_ret (results_row2 rfl _ rfl rfl (run_loadVar_row _ _ _ _ _ _ _ hW6 Try.underlying23 rfl tk_info)) rfl ?_
        rw [HR.out]
        exact ⟨rfl, Below.grown hE5 hG6 hE5.le (fun k hk => by cases hk; omega)⟩
      · go_wp2_with (refine wpList_storeW rfl 23 (.tmp 2) (.tmp 21) rfl rfl rfl hP5 rfl tk_info (tk_one ..) ?_; intro w6 hW6 hG6 _)
        refine bodyPost_ret (results_row2 rfl _ rfl rfl (run_loadVar_row _ _ _ _ _ _ _ hW6 Try.underlying23 rfl tk_info)) rfl ?_
        rw [HR.out]
        exact ⟨rfl, Below.grown hE5 hG6 hE5.le (fun k hk => by cases hk; omega)⟩
      · go_wp2_with (refine wpList_storeW rfl 23 (.tmp 2) (.tmp 21) rfl rfl rfl hP5 rfl tk_info (tk_one ..) ?_; intro w6 hW6 hG6 _)
        refine bodyPost_ret (results_row2 rfl _ rfl rfl (run_loadVar_row _ _ _ _ _ _ _ hW6 Try.underlying23 rfl tk_info)) rfl ?_
        rw [HR.out]
        exact ⟨rfl, Below.grown hE5 hG6 hE5.le (fun k hk => by cases hk; omega)⟩
      · go_wp2_with (refine wpList_storeW rfl 23 (.tmp 2) (.tmp 21) rfl rfl rfl hP5 rfl tk_info (tk_one ..) ?_; intro w6 hW6 hG6 _)
        refine bodyPost_ret (results_row2 rfl _ rfl rfl (run_loadVar_row _ _ _ _ _ _ _ hW6 Try.underlying23 rfl tk_info)) rfl ?_
        rw [HR.out]
        exact ⟨rfl, Below.grown hE5 hG6 hE5.le (fun k hk => by cases hk; omega)⟩
  · have hb : (es != 0) = true := by rw [bne_iff_ne]; exact hes
    have HR := hide (show res = (⟨0, 0, 0⟩, 7) from by
      rcases HEl.out with h | h
      · have h2 := (HYes2.out h).1
        simp only [Prod.mk.injEq] at h2
        exact (hes h2.2).elim
      · exact h)
    have h' := hide hes
    clear hes HEl HTj HNo2 HYes2
    go_wp2_with (refine wpList_storeW rfl 23 (.tmp 2) (.tmp 21) rfl rfl rfl hP5 rfl tk_info (tk_one ..) ?_; intro w6 hW6 hG6 _)
    refine bodyPost_ret (results_row2 rfl _ rfl rfl (run_loadVar_row _ _ _ _ _ _ _ hW6 Try.underlying23 rfl tk_info)) rfl ?_
    rw [HR.out]
    exact ⟨rfl, Below.grown hE5 hG6 hE5.le (fun k hk => by cases hk; omega)⟩
end Go.Proofs.Ytaohdnhfodkeoaa

namespace Go.Proofs.Ytaohdnhfodkeoaa
open Go.RowKit
theorem Bit.take_byte (X d k t : Nat) (c : UInt8) (hX : X < 2 ^ d) (hd : d + k ≤ 64) (hk : k ≤ 8) :
    bits .or .u64 (IntKind.u64.wrap ((X : Int) * 2 ^ k)) (bits .and .u64 (IntKind.u64.wrap (c.toNat : Int) / 2 ^ t) (IntKind.u64.wrap (IntKind.u64.wrap (2 ^ k) - 1))) = ((X * 2 ^ k + c.toNat / 2 ^ t % 2 ^ k : Nat) : Int) := by
  have hc := c.toNat_lt
  have hXk : X * 2 ^ k < 2 ^ 64 := by
    have h1 : X * 2 ^ k < 2 ^ d * 2 ^ k := Nat.mul_lt_mul_of_pos_right hX (Nat.two_pow_pos k)
    rw [← Nat.pow_add] at h1
    exact Nat.lt_of_lt_of_le h1 (Nat.pow_le_pow_right (by omega) hd)
  have hk2 : 2 ^ k ≤ 256 := Nat.pow_le_pow_right (n := 2) (by omega) hk
  have hk0 : 0 < 2 ^ k := Nat.two_pow_pos k
  have e1 : IntKind.u64.wrap ((X : Int) * 2 ^ k) = ((X * 2 ^ k : Nat) : Int) := by
    have : (X : Int) * 2 ^ k = ((X * 2 ^ k : Nat) : Int) := by simp only [Int.natCast_mul, Int.natCast_pow]; rfl
    rw [this, IntKind.wrap_u64]
    omega
  have e2 : IntKind.u64.wrap (c.toNat : Int) / 2 ^ t = ((c.toNat / 2 ^ t : Nat) : Int) := by
    have h1 : IntKind.u64.wrap (c.toNat : Int) = (c.toNat : Int) := by rw [IntKind.wrap_u64]; omega
    rw [h1]
    simp only [Int.natCast_ediv, Int.natCast_pow]; rfl
  have e3 : IntKind.u64.wrap (IntKind.u64.wrap (2 ^ k) - 1) = ((2 ^ k - 1 : Nat) : Int) := by
    have : (2 : Int) ^ k = ((2 ^ k : Nat) : Int) := by simp only [Int.natCast_pow]; rfl
    rw [this, IntKind.wrap_u64, IntKind.wrap_u64]
    omega
  have hdiv : c.toNat / 2 ^ t < 2 ^ 64 := Nat.lt_of_le_of_lt (Nat.div_le_self _ _) (by omega)
  rw [e1, e2, e3, u64_and_nat _ _ hdiv (by omega), Nat.and_two_pow_sub_one_eq_mod]
  have hm : c.toNat / 2 ^ t % 2 ^ k < 2 ^ k := Nat.mod_lt _ hk0
  rw [u64_or_nat _ _ hXk (by omega), Nat.mul_comm X, ← Nat.two_pow_add_eq_or_of_lt hm]
set_option maxHeartbeats 1000000 in
theorem number_any {w : World} {g : Nat} {A : Option Addr} {c : Nat} {l : List UInt8} (q n : Nat) (h0 : w.cell? ⟨g, 0, none⟩ = some (.slice A l.length c)) (hg : g < w.heap.size) (hb : Bytes w w.heap.size A l.length l)
    (hn : n ≤ 64) (hfit : q + n ≤ 8 * l.length) (hl : l.length ≤ 1000000000) :
    Calls Try.prog 107 #[.pointer (some ⟨g, 0, none⟩), .int .i64 q, .int .i64 n] w fun e w' => e = .returned (.int .u64 (Bit.val (fun i => Bit.at_ l (q + i)) n : Nat)) ∧ Qt w w' := by
  go_enter Try.func107, Try.ntmps107
  go_wp2
  go_loopw [1, 2, 7] (fun p m x wr => ∃ k : Nat, k ≤ n ∧ p = .int .i64 ((q + k : Nat) : Int) ∧ m = .int .i64 ((n - k : Nat) : Int) ∧ x = .int .u64 (Bit.val (fun i => Bit.at_ l (q + i)) k : Nat) ∧ Qt w wr) (fun _ m _ _ => (intOf m).toNat)
  case atStart => exact ⟨0, by omega, by simp, by simp, rfl, Qt.refl _⟩
  case round =>
    obtain ⟨d, hd, rfl, rfl, rfl, hE⟩ := hrel
    by_cases hlt : d < n
    · obtain ⟨hll, hb'⟩ := hb
      rcases hb' with h | ⟨b, off, rfl, hB, hcells⟩
      · omega
      have d0 := (hE.ext.cell hg).trans h0
      have hc := (hE.ext.cell hB).trans (hcells ((q + d) / 8) (by omega))
      clear hcells
      obtain ⟨m, hm⟩ : ∃ m, m = n - d := ⟨_, rfl⟩
      obtain ⟨s, hs⟩ : ∃ s, s = q + d := ⟨_, rfl⟩
      obtain ⟨k, hk⟩ : ∃ k, k = min m (8 - s % 8) := ⟨_, rfl⟩
      have hmin : (if (8 - (s : Int) % 8) < (m : Int) then (8 - (s : Int) % 8) else (m : Int)) = (k : Int) := by split <;> omega
      rw [← hm, ← hs]
      rw [← hs] at hc
      have hm64 : m ≤ 64 := by omega
      have hm0 : 0 < m := by omega
      have hkm : k ≤ m := by omega
      have hk8 : k ≤ 8 := by omega
      have hqL : (s : Int) / 8 < (l.length : Int) := by omega
      have HV := hide (Bit.val_add (fun i => Bit.at_ l (q + i)) d k)
      have HY := hide (Bit.val_byte l s k (by omega))
      have HT := hide (Bit.take_byte (Bit.val (fun i => Bit.at_ l (q + i)) d) d k (8 - s % 8 - k) (l.getD (s / 8) 0) (Bit.val_lt _ _) (by omega) (by omega))
      generalize Bit.val (fun i => Bit.at_ l (q + i)) d = X at *
      have Hm := hide hm
      have Hk := hide hk
      have Hs := hide hs
      clear hm hk hs
      go_wp2_with (refine wpList_min rfl (.tmp 15) (.tmp 16) rfl rfl rfl hmin ?_)
      go_quiet (fail)
      go_wp2
      go_roundw
      case rel =>
        have hm := Hm.out
        have hs := Hs.out
        refine ⟨d + k, by omega, ?_, ?_, ?_, hE.drewN _⟩
        · rw [show ((s : Int) + k) = ((q + (d + k) : Nat) : Int) by omega]
        · rw [show ((m : Int) - k) = ((n - (d + k) : Nat) : Int) by omega]
        · rw [HV.out, show (fun i => Bit.at_ l (q + (d + i))) = (fun i => Bit.at_ l (s + i)) by funext i; rw [hs, Nat.add_assoc], HY.out, ← HT.out, List.getD_eq_getElem?_getD]
      case measure => simp [intOf]; omega
    · obtain rfl : d = n := by omega
      go_wp2
      go_ret
      exact ⟨rfl, hE⟩
end Go.Proofs.Ytaohdnhfodkeoaa

namespace Go.Proofs.Ytaohdnhfodkeoaa
open Go.RowKit
set_option maxHeartbeats 1000000 in
theorem slicesClone_any (A : Option Addr) (n c : Nat) (l : List UInt8) (w : World) (hc : n ≤ c) (hn : n ≤ 140737488355328) (hb : Bytes w w.heap.size A n l) :
    Calls Try.prog 55 #[.slice A n c] w (MadeB w l) := by
  have hnil := fun (W : World) (a : Option Addr) (n c n' c' : Nat) => Lib.run_eql_slice_nil (P := Try.prog) W 40 5 a n c n' c' Try.underlying40
  rcases A with _ | ad
  · have hl : l = [] := by
      rcases hb.2 with h0 | ⟨_, _, h, _⟩
      · exact List.eq_nil_of_length_eq_zero (by rw [hb.1, h0])
      · cases h
    subst hl
    have hn0 : n = 0 := hb.1.symm
    subst hn0
    go_enter Try.func55, Try.ntmps55
    go_wp2
    go_ret
    exact ⟨_, rfl, OwnB.nil _ _, Ext.refl _⟩
  · have ho := OwnB.empty w (Nat.le_refl _)
    have hb' := (extNew w (.cells #[] 5)).bytes hb
    have hB : w.heap.size ≤ (w.alloc (.cells #[] 5)).heap.size := by simp
    have hl0 : ([] : List UInt8).length + n ≤ 140737488355328 := by simpa using hn
    have hE := extNew w (.cells #[] 5)
    go_enter Try.func55, Try.ntmps55
    go_wp2_with (at_builtin; refine wpList_app rfl (.tmp 5) (.tmp 6) rfl rfl ho rfl hb' hl0 hB ?_; intro v1 w1 hown1 hg1)
    go_ret
    exact ⟨v1, rfl, hown1, ho.below hE hg1 hB⟩
end Go.Proofs.Ytaohdnhfodkeoaa

namespace Go.Proofs.Ytaohdnhfodkeoaa
open Go.RowKit
namespace Bit
def rest (l : List UInt8) (q : Nat) : Nat → Bool := fun i => at_ l (q + i)
def getErr (left : Nat) (n : Int) : Int := if 0 ≤ n ∧ n ≤ 64 then (if n ≤ left then 0 else 1) else 13
def getNum (l : List UInt8) (q : Nat) (n : Int) : Nat := if getErr (8 * l.length - q) n = 0 then val (rest l q) n.toNat else 0
def getTo (left q : Nat) (n : Int) : Nat := if getErr left n = 0 then q + n.toNat else q
def skipErr (left : Nat) (n : Int) : Int := if 0 ≤ n then (if n ≤ left then 0 else 1) else 13
def skipTo (left q : Nat) (n : Int) : Nat := if skipErr left n = 0 then q + n.toNat else q
def peekThere (left : Nat) (n : Int) : Nat := if 0 ≤ n ∧ n ≤ 64 then min n.toNat left else 0
def peekNum (l : List UInt8) (q : Nat) (n : Int) : Nat := if 0 ≤ n ∧ n ≤ 64 then val (rest l q) (min n.toNat (8 * l.length - q)) * 2 ^ (n.toNat - min n.toNat (8 * l.length - q)) else 0
def zs (l : List UInt8) (q : Nat) : Nat := zeros (8 * l.length - q) (rest l q)
def padErr (l : List UInt8) (q : Nat) : Int := if 8 * l.length - q < 8 ∧ zs l q = 8 * l.length - q then 0 else 2
end Bit
def Rdr (w : World) (base g : Nat) (l : List UInt8) (q : Nat) : Prop :=
  ∃ A c, Whole w g 118 #[.slice A l.length c, .int .i64 ((8 * l.length : Nat) : Int), .int .i64 (q : Int)] ∧ Bytes w g A l.length l ∧ q ≤ 8 * l.length ∧ l.length ≤ 1000000 ∧ base ≤ g
theorem Rdr.lt {w : World} {base g q : Nat} {l : List UInt8} (h : Rdr w base g l q) : g < w.heap.size := by obtain ⟨A, c, hW, _⟩ := h; exact hW.lt
theorem Rdr.le {w : World} {base g q : Nat} {l : List UInt8} (h : Rdr w base g l q) : base ≤ g := by obtain ⟨A, c, _, _, _, _, h⟩ := h; exact h
theorem Rdr.below {w w' : World} {base g q B : Nat} {l : List UInt8} (h : Rdr w base g l q) (hE : Below B w w') (hg : g < B) : Rdr w' base g l q := by
  obtain ⟨A, c, hW, hb, r⟩ := h
  exact ⟨A, c, hW.below hE hg, hb.below hE (by omega), r⟩
theorem Rdr.ext {w w' : World} {base g q : Nat} {l : List UInt8} (h : Rdr w base g l q) (hE : Ext w w') : Rdr w' base g l q := h.below hE h.lt
theorem ret_nverr {k : IntKind} {a a' b b' : Int} (h : a = a') (h' : b = b') : Ending.returned (.tuple #[.int k a, .int .i64 b]) = .returned (.tuple #[.int k a', .int .i64 b']) := by rw [h, h']
theorem left_any {w : World} {base g q : Nat} {l : List UInt8} (h : Rdr w base g l q) :
    Calls Try.prog 62 #[.pointer (some ⟨g, 0, none⟩)] w fun e w' => e = .returned (.int .i64 ((8 * l.length - q : Nat) : Int)) ∧ Qt w w' := by
  obtain ⟨A, c, hW, hb, hq, hl, _⟩ := h
  have c1 : w.cell? ⟨g, 1, none⟩ = some (.int .i64 ((8 * l.length : Nat) : Int)) := hW.at 1 rfl
  have c2 : w.cell? ⟨g, 2, none⟩ = some (.int .i64 (q : Int)) := hW.at 2 rfl
  go_enter Try.func62, Try.ntmps62
  go_wp2
  go_quiet (fail)
  go_wp2
  go_ret
  exact ⟨ret_i64 (by omega), ⟨_, rfl⟩⟩
theorem Rdr.number {w : World} {base g q : Nat} {l : List UInt8} (h : Rdr w base g l q) (k : Nat) (hk : k ≤ 64) (hs : k ≤ 8 * l.length - q) (m : Nat) :
    Calls Try.prog 107 #[.pointer (some ⟨g, 0, none⟩), .int .i64 q, .int .i64 k] (w.drewN m) fun e w' => e = .returned (.int .u64 (Bit.val (Bit.rest l q) k : Nat)) ∧ ∃ n, w' = w.drewN n := by
  obtain ⟨A, c, hW, hb, hq, hl, hbase⟩ := h
  have c0 : w.cell? ⟨g, 0, none⟩ = some (.slice A l.length c) := hW.at 0 rfl
  have hgl := hW.lt
  exact Calls.quiet_of (number_any (w := w.drewN m) q k (by simpa using c0) (by simpa using hgl) (hb.below (B := g) (C := w.heap.size) ((Ext.refl w).drewN m) (Nat.le_of_lt hgl) |>.mono (by simpa using Nat.le_of_lt hgl)) hk (by omega) (by omega))
theorem Rdr.zeros {w : World} {base g q : Nat} {l : List UInt8} (h : Rdr w base g l q) (m : Nat) :
    Calls Try.prog 63 #[.pointer (some ⟨g, 0, none⟩), .int .i64 q] (w.drewN m) fun e w' => e = .returned (.int .i64 (Bit.zs l q : Nat)) ∧ ∃ n, w' = w.drewN n := by
  obtain ⟨A, c, hW, hb, hq, hl, hbase⟩ := h
  have c0 : w.cell? ⟨g, 0, none⟩ = some (.slice A l.length c) := hW.at 0 rfl
  have c1 : w.cell? ⟨g, 1, none⟩ = some (.int .i64 ((8 * l.length : Nat) : Int)) := hW.at 1 rfl
  have hgl := hW.lt
  exact Calls.quiet_of (zerosFrom_any (w := w.drewN m) q (by simpa using c0) (by simpa using c1) (by simpa using hgl) (hb.below (B := g) (C := w.heap.size) ((Ext.refl w).drewN m) (Nat.le_of_lt hgl) |>.mono (by simpa using Nat.le_of_lt hgl)) hq (by omega))
theorem Rdr.leftQ {w : World} {base g q : Nat} {l : List UInt8} (h : Rdr w base g l q) (m : Nat) :
    Calls Try.prog 62 #[.pointer (some ⟨g, 0, none⟩)] (w.drewN m) fun e w' => e = .returned (.int .i64 ((8 * l.length - q : Nat) : Int)) ∧ ∃ n, w' = w.drewN n :=
  Calls.quiet_of (left_any (h.ext ((Ext.refl w).drewN m)))
theorem Rdr.cells {w : World} {base g q : Nat} {l : List UInt8} (h : Rdr w base g l q) : w.cell? ⟨g, 2, none⟩ = some (.int .i64 (q : Int)) ∧ w.frozen? ⟨g, 2, none⟩ = false ∧ q ≤ 8 * l.length ∧ l.length ≤ 1000000 := by
  obtain ⟨A, c, hW, hb, hq, hl, hbase⟩ := h
  exact ⟨hW.at 2 rfl, hW.frozen 2, hq, hl⟩
theorem Rdr.moved {w : World} {base g q q' : Nat} {l : List UInt8} (h : Rdr w base g l q) (hq' : q' ≤ 8 * l.length) {x : Int} (hx : x = (q' : Int)) : Rdr (w.setCell ⟨g, 2, none⟩ (.int .i64 x)) base g l q' ∧ Mod w (w.setCell ⟨g, 2, none⟩ (.int .i64 x)) g none := by
  obtain ⟨A, c, hW, hb, hq, hl, hbase⟩ := h
  subst hx
  exact ⟨⟨A, c, hW.set 2 _, hb.below (Below.setCell (p := ⟨g, 2, none⟩) (Below.refl g w) (Nat.le_refl g) _) (Nat.le_refl g), hq', hl, hbase⟩, Mod.ofRow (grown_setCell w g 2 _)⟩
set_option maxHeartbeats 1000000 in
theorem get_any {w : World} {base g q : Nat} {l : List UInt8} (h : Rdr w base g l q) (n : Int) :
    Calls Try.prog 96 #[.pointer (some ⟨g, 0, none⟩), .int .i64 n] w fun e w' =>
      e = .returned (.tuple #[.int .u64 ((Bit.getNum l q n : Nat) : Int), .int .i64 (Bit.getErr (8 * l.length - q) n)]) ∧ Rdr w' base g l (Bit.getTo (8 * l.length - q) q n) ∧ Mod w w' g none := by
  by_cases hbad : 0 ≤ n ∧ n ≤ 64
  · obtain ⟨h0, h1⟩ := hbad
    obtain ⟨k, rfl⟩ := Int.eq_ofNat_of_zero_le h0
    have hk : k ≤ 64 := by omega
    by_cases hs : k ≤ 8 * l.length - q
    · have HE := hide (show Bit.getErr (8 * l.length - q) (k : Int) = 0 by unfold Bit.getErr; rw [if_pos ⟨h0, h1⟩, if_pos (by omega)])
      have HN := hide (show Bit.getNum l q (k : Int) = Bit.val (Bit.rest l q) k by unfold Bit.getNum; rw [HE.out]; simp)
      have HT := hide (show Bit.getTo (8 * l.length - q) q (k : Int) = q + k by unfold Bit.getTo; rw [HE.out]; simp)
      go_enter Try.func96, Try.ntmps96
      go_wp2_with fail
      refine (left_any h).mono ?_
      rintro e w2 ⟨rfl, hQ2⟩
      have hR := h.ext hQ2.ext
      obtain ⟨c2, f2, hq, hl⟩ := hR.cells
      have CN := hR.number k hk hs
      have HR := hide hR
      generalize Bit.val (Bit.rest l q) k = X at *
      clear h hR
      go_wp2_with fail
      go_quiet (first | (go_at_call 107; exact CN _))
      go_wp2
      go_ret2
      have hM := (HR.out.ext ((Ext.refl w2).drewN nq)).moved (q' := q + k) (x := (q : Int) + k) (by omega) (by omega)
      refine ⟨ret_nverr (by rw [HN.out]) HE.out.symm, by rw [HT.out]; exact hM.1, ?_⟩
      exact (Mod.ofExt (hQ2.drewN nq).ext).trans hM.2 (.inl rfl)
    · have HE := hide (show Bit.getErr (8 * l.length - q) (k : Int) = 1 by unfold Bit.getErr; rw [if_pos ⟨h0, h1⟩, if_neg (by omega)])
      have HN := hide (show Bit.getNum l q (k : Int) = 0 by unfold Bit.getNum; rw [HE.out]; simp)
      have HT := hide (show Bit.getTo (8 * l.length - q) q (k : Int) = q by unfold Bit.getTo; rw [HE.out]; simp)
      have HR := hide h
      have hs' : ¬ ((k : Int) ≤ ((8 * l.length - q : Nat) : Int)) := by omega
      go_enter Try.func96, Try.ntmps96
      go_wp2_with fail
      refine (left_any h).mono ?_
      rintro e w2 ⟨rfl, hQ2⟩
      go_wp2
      go_ret2
      exact ⟨ret_nverr (by rw [HN.out]; rfl) HE.out.symm, by rw [HT.out]; exact HR.out.ext hQ2.ext, Mod.ofExt hQ2.ext⟩
  · have HE := hide (show Bit.getErr (8 * l.length - q) n = 13 by unfold Bit.getErr; rw [if_neg hbad])
    have HN := hide (show Bit.getNum l q n = 0 by unfold Bit.getNum; rw [HE.out]; simp)
    have HT := hide (show Bit.getTo (8 * l.length - q) q n = q by unfold Bit.getTo; rw [HE.out]; simp)
    have HR := hide h
    by_cases h0 : n < 0
    · clear hbad
      go_enter Try.func96, Try.ntmps96
      go_wp2
      go_ret2
      exact ⟨ret_nverr (by rw [HN.out]; rfl) HE.out.symm, by rw [HT.out]; exact HR.out, Mod.refl _ _ _⟩
    · have h1 : 64 < n := by omega
      clear hbad
      go_enter Try.func96, Try.ntmps96
      go_wp2
      go_ret2
      exact ⟨ret_nverr (by rw [HN.out]; rfl) HE.out.symm, by rw [HT.out]; exact HR.out, Mod.refl _ _ _⟩
set_option maxHeartbeats 1000000 in
theorem skip_any {w : World} {base g q : Nat} {l : List UInt8} (h : Rdr w base g l q) (n : Int) :
    Calls Try.prog 95 #[.pointer (some ⟨g, 0, none⟩), .int .i64 n] w fun e w' =>
      e = .returned (.int .i64 (Bit.skipErr (8 * l.length - q) n)) ∧ Rdr w' base g l (Bit.skipTo (8 * l.length - q) q n) ∧ Mod w w' g none := by
  by_cases h0 : 0 ≤ n
  · obtain ⟨k, rfl⟩ := Int.eq_ofNat_of_zero_le h0
    by_cases hs : k ≤ 8 * l.length - q
    · have HE := hide (show Bit.skipErr (8 * l.length - q) (k : Int) = 0 by unfold Bit.skipErr; rw [if_pos h0, if_pos (by omega)])
      have HT := hide (show Bit.skipTo (8 * l.length - q) q (k : Int) = q + k by unfold Bit.skipTo; rw [HE.out]; simp)
      go_enter Try.func95, Try.ntmps95
      go_wp2_with fail
      refine (left_any h).mono ?_
      rintro e w2 ⟨rfl, hQ2⟩
      have hR := h.ext hQ2.ext
      obtain ⟨c2, f2, hq, hl⟩ := hR.cells
      have HR := hide hR
      clear h hR
      go_wp2
      go_ret
      have hM := HR.out.moved (q' := q + k) (x := (q : Int) + k) (by omega) (by omega)
      refine ⟨ret_i64 HE.out.symm, by rw [HT.out]; exact hM.1, ?_⟩
      exact (Mod.ofExt hQ2.ext).trans hM.2 (.inl rfl)
    · have HE := hide (show Bit.skipErr (8 * l.length - q) (k : Int) = 1 by unfold Bit.skipErr; rw [if_pos h0, if_neg (by omega)])
      have HT := hide (show Bit.skipTo (8 * l.length - q) q (k : Int) = q by unfold Bit.skipTo; rw [HE.out]; simp)
      have HR := hide h
      have hs' : ¬ ((k : Int) ≤ ((8 * l.length - q : Nat) : Int)) := by omega
      go_enter Try.func95, Try.ntmps95
      go_wp2_with fail
      refine (left_any h).mono ?_
      rintro e w2 ⟨rfl, hQ2⟩
      go_wp2
      go_ret
      exact ⟨ret_i64 HE.out.symm, by rw [HT.out]; exact HR.out.ext hQ2.ext, Mod.ofExt hQ2.ext⟩
  · have HE := hide (show Bit.skipErr (8 * l.length - q) n = 13 by unfold Bit.skipErr; rw [if_neg h0])
    have HT := hide (show Bit.skipTo (8 * l.length - q) q n = q by unfold Bit.skipTo; rw [HE.out]; simp)
    have HR := hide h
    go_enter Try.func95, Try.ntmps95
    go_wp2
    go_ret
    exact ⟨ret_i64 HE.out.symm, by rw [HT.out]; exact HR.out, Mod.refl _ _ _⟩
end Go.Proofs.Ytaohdnhfodkeoaa

namespace Go.Proofs.Ytaohdnhfodkeoaa
open Go.RowKit
theorem Bit.val_mul_lt (f : Nat → Bool) {a b : Nat} (h : a + b ≤ 64) : Bit.val f a * 2 ^ b < 18446744073709551616 := by
  have h1 : Bit.val f a * 2 ^ b < 2 ^ a * 2 ^ b := Nat.mul_lt_mul_of_pos_right (Bit.val_lt f a) (Nat.two_pow_pos b)
  rw [← Nat.pow_add] at h1
  exact Nat.lt_of_lt_of_le h1 (show 2 ^ (a + b) ≤ 2 ^ 64 from Nat.pow_le_pow_right (by omega) h)
theorem wrap_shl (X b : Nat) (h : X * 2 ^ b < 18446744073709551616) : IntKind.u64.wrap ((X : Int) * 2 ^ b) = ((X * 2 ^ b : Nat) : Int) := by
  have e : (X : Int) * 2 ^ b = ((X * 2 ^ b : Nat) : Int) := by simp only [Int.natCast_mul, Int.natCast_pow]; rfl
  rw [e, IntKind.wrap_u64]
  omega
set_option maxHeartbeats 1000000 in
theorem peek_any {w : World} {base g q : Nat} {l : List UInt8} (h : Rdr w base g l q) (n : Int) :
    Calls Try.prog 94 #[.pointer (some ⟨g, 0, none⟩), .int .i64 n] w fun e w' =>
      e = .returned (.tuple #[.int .u64 ((Bit.peekNum l q n : Nat) : Int), .int .i64 ((Bit.peekThere (8 * l.length - q) n : Nat) : Int)]) ∧ Qt w w' := by
  by_cases hbad : 0 ≤ n ∧ n ≤ 64
  · obtain ⟨h0, h1⟩ := hbad
    obtain ⟨k, rfl⟩ := Int.eq_ofNat_of_zero_le h0
    have hk : k ≤ 64 := by omega
    obtain ⟨t, ht⟩ : ∃ t, t = min k (8 * l.length - q) := ⟨_, rfl⟩
    have HN := hide (show Bit.peekNum l q (k : Int) = Bit.val (Bit.rest l q) t * 2 ^ (k - t) by unfold Bit.peekNum; rw [if_pos ⟨h0, h1⟩, ht]; simp)
    have HT := hide (show Bit.peekThere (8 * l.length - q) (k : Int) = t by unfold Bit.peekThere; rw [if_pos ⟨h0, h1⟩, ht]; simp)
    have htk : t ≤ k := by omega
    have hX := Bit.val_mul_lt (Bit.rest l q) (a := t) (b := k - t) (by omega)
    have hw := wrap_shl _ _ hX
    have hmin : (if ((8 * l.length - q : Nat) : Int) < (k : Int) then ((8 * l.length - q : Nat) : Int) else (k : Int)) = (t : Int) := by split <;> omega
    go_enter Try.func94, Try.ntmps94
    go_wp2_with fail
    refine (left_any h).mono ?_
    rintro e w2 ⟨rfl, hQ2⟩
    have hR := h.ext hQ2.ext
    obtain ⟨c2, f2, hq, hl⟩ := hR.cells
    have CN := hR.number t (by omega) (by omega)
    have Ht := hide ht
    generalize Bit.val (Bit.rest l q) t = X at *
    clear h hR ht hX
    go_wp2_with (refine wpList_min rfl (.tmp 14) (.tmp 16) rfl rfl rfl hmin ?_)
    go_quiet (first | (go_at_call 107; exact CN _))
    go_wp2
    go_ret2
    exact ⟨ret_nverr (by rw [HN.out, ← hw]; simp only [Int.natCast_mul, Int.natCast_pow] at hw; exact hw.symm) (by rw [HT.out]), hQ2.drewN _⟩
  · have HN := hide (show Bit.peekNum l q n = 0 by unfold Bit.peekNum; rw [if_neg hbad])
    have HT := hide (show Bit.peekThere (8 * l.length - q) n = 0 by unfold Bit.peekThere; rw [if_neg hbad])
    by_cases h0 : n < 0
    · clear hbad
      go_enter Try.func94, Try.ntmps94
      go_wp2
      go_ret2
      exact ⟨ret_nverr (by rw [HN.out]; rfl) (by rw [HT.out]; rfl), Qt.refl _⟩
    · have h1 : 64 < n := by omega
      clear hbad
      go_enter Try.func94, Try.ntmps94
      go_wp2
      go_ret2
      exact ⟨ret_nverr (by rw [HN.out]; rfl) (by rw [HT.out]; rfl), Qt.refl _⟩
set_option maxHeartbeats 1000000 in
theorem pad_any {w : World} {base g q : Nat} {l : List UInt8} (h : Rdr w base g l q) :
    Calls Try.prog 43 #[.pointer (some ⟨g, 0, none⟩)] w fun e w' => e = .returned (.int .i64 (Bit.padErr l q)) ∧ Qt w w' := by
  by_cases h8 : 8 * l.length - q < 8
  · by_cases he : Bit.zs l q = 8 * l.length - q
    · have HE := hide (show Bit.padErr l q = 0 by unfold Bit.padErr; rw [if_pos ⟨h8, he⟩])
      have ht : (((8 * l.length - q : Nat) : Int) != ((8 * l.length - q : Nat) : Int)) = false := by simp
      have h8' : ¬ (8 ≤ ((8 * l.length - q : Nat) : Int)) := by omega
      go_enter Try.func43, Try.ntmps43
      go_wp2_with fail
      refine (left_any h).mono ?_
      rintro e w2 ⟨rfl, hQ2⟩
      have hR := h.ext hQ2.ext
      obtain ⟨c2, f2, hq, hl⟩ := hR.cells
      have CN := hR.zeros
      rw [he] at CN
      have CL := hR.leftQ
      clear he h hR
      generalize 8 * l.length - q = L at *
      go_wp2_with fail
      go_quiet (first | (go_at_call 63; exact CN _) | (go_at_call 62; exact CL _))
      go_wp2
      go_ret
      exact ⟨ret_i64 HE.out.symm, hQ2.drewN _⟩
    · have HE := hide (show Bit.padErr l q = 2 by unfold Bit.padErr; rw [if_neg (fun h => he h.2)])
      have ht : (((Bit.zs l q : Nat) : Int) != ((8 * l.length - q : Nat) : Int)) = true := by simp; omega
      have h8' : ¬ (8 ≤ ((8 * l.length - q : Nat) : Int)) := by omega
      go_enter Try.func43, Try.ntmps43
      go_wp2_with fail
      refine (left_any h).mono ?_
      rintro e w2 ⟨rfl, hQ2⟩
      have hR := h.ext hQ2.ext
      obtain ⟨c2, f2, hq, hl⟩ := hR.cells
      have CN := hR.zeros
      have CL := hR.leftQ
      clear he h hR
      generalize Bit.zs l q = Z at *
      generalize 8 * l.length - q = L at *
      go_wp2_with fail
      go_quiet (first | (go_at_call 63; exact CN _) | (go_at_call 62; exact CL _))
      go_wp2
      go_ret
      exact ⟨ret_i64 HE.out.symm, hQ2.drewN _⟩
  · have HE := hide (show Bit.padErr l q = 2 by unfold Bit.padErr; rw [if_neg (fun h => h8 h.1)])
    have h8' : 8 ≤ ((8 * l.length - q : Nat) : Int) := by omega
    clear h8
    go_enter Try.func43, Try.ntmps43
    go_wp2_with fail
    refine (left_any h).mono ?_
    rintro e w2 ⟨rfl, hQ2⟩
    go_wp2
    go_ret
    exact ⟨ret_i64 HE.out.symm, hQ2⟩
set_option maxHeartbeats 1000000 in
theorem rowOf_any (A : Option Addr) (n c : Nat) (l : List UInt8) (w : World) (hc : n ≤ c) (hn : n ≤ 1000000) (hb : Bytes w w.heap.size A n l) :
    Calls Try.prog 74 #[.slice A n c] w fun e w' => ∃ A' c', e = .returned (.agg #[.slice A' l.length c', .int .i64 ((8 * l.length : Nat) : Int)]) ∧ Bytes w' w'.heap.size A' l.length l ∧ Ext w w' := by
  have hll := hb.1
  subst hll
  have hE0 := extNew w (.cells #[.slice none 0 0, .int .i64 0] 61)
  have hW0 := Whole.new w 61 #[.slice none 0 0, .int .i64 0]
  have hi1 : (Try.prog.info? 61).map (·.size) = some 2 := by kernel_rfl
  go_enter Try.func74, Try.ntmps74
  go_wp2_with (first
    | (go_at_call 55; refine (slicesClone_any A l.length c l _ hc (by omega) (hE0.bytes hb)).mono ?_; rintro e w2 ⟨v2, rfl, hown2, hE2⟩; obtain ⟨A2, c2, hv2, _, _, hb2⟩ := hown2.form; subst hv2; have hW2 := hW0.ext hE2; have hne : (Value.slice A2 l.length c2).ownBlock ≠ some w.heap.size := fun e => by have := (hown2.lt _ e).1; simp at this; omega)
    | (refine wpList_storeW rfl 61 (.tmp 2) (.tmp 8) rfl rfl rfl hW2 rfl hi1 (all_oneCell_toArray (by simp [Value.oneCell'])) ?_; intro w3 hW3 hG3 _))
  refine bodyPost_ret (results_cell_row rfl _ _ _ _ _ _ _ rfl hW3 Try.underlying61 rfl hi1) rfl ⟨A2, c2, ?_, ?_, ?_⟩
  · have e : (8 : Int) * (l.length : Int) = ((8 * l.length : Nat) : Int) := by omega
    rw [← e]
  · obtain ⟨A3, c3, hv, _, _, hb3⟩ := ((Mod.ofRow (ob := none) hG3).own hown2 hne (by simp [Classical.em])).form
    injection hv with e1 _ _
    rw [e1]; exact hb3
  · exact Below.grown (hE0.trans hE2) hG3 (hE0.trans hE2).le (fun k hk => by cases hk; exact Nat.le_refl _)
end Go.Proofs.Ytaohdnhfodkeoaa

namespace Go.Proofs.Ytaohdnhfodkeoaa
open Go.RowKit Lz Tok
theorem join_bad {a b c d : Int} (hA : ¬ (0 ≤ a ∧ a < 256 ∧ b = 0 ∧ c = 0 ∧ d = 0)) (hB : a < 257 ∨ 264 < a ∨ c < 0 ∨ 11 < c ∨ b < 0 ∨ d < 0) : joinE ⟨a, b, c, d⟩ = (⟨0, 0, 0⟩, 7) := by
  unfold joinE
  rw [if_neg hA, if_pos hB]
theorem power_q (b : Nat) (h : b ≤ 11) (w : World) (m : Nat) : Calls Try.prog 29 #[.int .i64 (b : Int)] (w.drewN m) fun e w' => e = .returned (.int .i64 ((2 ^ b : Nat) : Int)) ∧ ∃ n, w' = w.drewN n :=
  Calls.quiet_of (power_any b h (w.drewN m))
set_option maxHeartbeats 2000000 in
set_option maxRecDepth 100000 in
theorem refJoin_bad1 (a b c d : Int) (h : a < 0) (w : World) : Calls Try.prog 14 #[pcV ⟨a, b, c, d⟩] w (JoinTo w (joinE ⟨a, b, c, d⟩)) := by
  rw [join_bad (by omega) (by omega)]
  unfold pcV
  dsimp only
  have hE1 := (extNew w (.cells #[.int .i64 a, .int .i64 b, .int .i64 c, .int .i64 d] 25)).alloc (.cells #[.int .u8 0, .int .i64 0, .int .i64 0] 23)
  have hP1 := Whole.new (w.alloc (.cells #[.int .i64 a, .int .i64 b, .int .i64 c, .int .i64 d] 25)) 23 #[.int .u8 0, .int .i64 0, .int .i64 0]
  rw [World.size_alloc] at hP1
  have hwp := hP1.lt
  go_enter Try.func14, Try.ntmps14
  go_wp2_with (refine wpList_storeW rfl 23 (.tmp 2) (.tmp 61) rfl rfl rfl hP1 rfl tk_info (tk_one ..) ?_; intro w5 hW5 hG5 _)
  refine bodyPost_ret (results_row2 rfl _ rfl rfl (run_loadVar_row _ _ _ _ _ _ _ hW5 Try.underlying23 rfl tk_info)) rfl ?_
  exact ⟨rfl, Below.grown hE1 hG5 hE1.le (fun k hk => by cases hk; omega)⟩
set_option maxHeartbeats 2000000 in
set_option maxRecDepth 100000 in
theorem refJoin_bad2 (a b c d : Int) (h0 : 0 ≤ a) (h1 : a < 256) (h2 : b ≠ 0) (w : World) : Calls Try.prog 14 #[pcV ⟨a, b, c, d⟩] w (JoinTo w (joinE ⟨a, b, c, d⟩)) := by
  rw [join_bad (by omega) (by omega)]
  unfold pcV
  dsimp only
  have hE1 := (extNew w (.cells #[.int .i64 a, .int .i64 b, .int .i64 c, .int .i64 d] 25)).alloc (.cells #[.int .u8 0, .int .i64 0, .int .i64 0] 23)
  have hP1 := Whole.new (w.alloc (.cells #[.int .i64 a, .int .i64 b, .int .i64 c, .int .i64 d] 25)) 23 #[.int .u8 0, .int .i64 0, .int .i64 0]
  rw [World.size_alloc] at hP1
  have hwp := hP1.lt
  have hb : (b == 0) = false := by rw [beq_eq_false_iff_ne]; exact h2
  have hlt : a < 257 := by omega
  clear h2
  go_enter Try.func14, Try.ntmps14
  go_wp2_with (refine wpList_storeW rfl 23 (.tmp 2) (.tmp 61) rfl rfl rfl hP1 rfl tk_info (tk_one ..) ?_; intro w5 hW5 hG5 _)
  refine bodyPost_ret (results_row2 rfl _ rfl rfl (run_loadVar_row _ _ _ _ _ _ _ hW5 Try.underlying23 rfl tk_info)) rfl ?_
  exact ⟨rfl, Below.grown hE1 hG5 hE1.le (fun k hk => by cases hk; omega)⟩
set_option maxHeartbeats 2000000 in
set_option maxRecDepth 100000 in
theorem refJoin_bad3 (a c d : Int) (h0 : 0 ≤ a) (h1 : a < 256) (h2 : c ≠ 0) (w : World) : Calls Try.prog 14 #[pcV ⟨a, 0, c, d⟩] w (JoinTo w (joinE ⟨a, 0, c, d⟩)) := by
  rw [join_bad (by omega) (by omega)]
  unfold pcV
  dsimp only
  have hE1 := (extNew w (.cells #[.int .i64 a, .int .i64 0, .int .i64 c, .int .i64 d] 25)).alloc (.cells #[.int .u8 0, .int .i64 0, .int .i64 0] 23)
  have hP1 := Whole.new (w.alloc (.cells #[.int .i64 a, .int .i64 0, .int .i64 c, .int .i64 d] 25)) 23 #[.int .u8 0, .int .i64 0, .int .i64 0]
  rw [World.size_alloc] at hP1
  have hwp := hP1.lt
  have hb : (c == 0) = false := by rw [beq_eq_false_iff_ne]; exact h2
  have hlt : a < 257 := by omega
  clear h2
  go_enter Try.func14, Try.ntmps14
  go_wp2_with (refine wpList_storeW rfl 23 (.tmp 2) (.tmp 61) rfl rfl rfl hP1 rfl tk_info (tk_one ..) ?_; intro w5 hW5 hG5 _)
  refine bodyPost_ret (results_row2 rfl _ rfl rfl (run_loadVar_row _ _ _ _ _ _ _ hW5 Try.underlying23 rfl tk_info)) rfl ?_
  exact ⟨rfl, Below.grown hE1 hG5 hE1.le (fun k hk => by cases hk; omega)⟩
set_option maxHeartbeats 2000000 in
set_option maxRecDepth 100000 in
theorem refJoin_bad4 (a d : Int) (h0 : 0 ≤ a) (h1 : a < 256) (h2 : d ≠ 0) (w : World) : Calls Try.prog 14 #[pcV ⟨a, 0, 0, d⟩] w (JoinTo w (joinE ⟨a, 0, 0, d⟩)) := by
  rw [join_bad (by omega) (by omega)]
  unfold pcV
  dsimp only
  have hE1 := (extNew w (.cells #[.int .i64 a, .int .i64 0, .int .i64 0, .int .i64 d] 25)).alloc (.cells #[.int .u8 0, .int .i64 0, .int .i64 0] 23)
  have hP1 := Whole.new (w.alloc (.cells #[.int .i64 a, .int .i64 0, .int .i64 0, .int .i64 d] 25)) 23 #[.int .u8 0, .int .i64 0, .int .i64 0]
  rw [World.size_alloc] at hP1
  have hwp := hP1.lt
  have hb : (d == 0) = false := by rw [beq_eq_false_iff_ne]; exact h2
  have hlt : a < 257 := by omega
  clear h2
  go_enter Try.func14, Try.ntmps14
  go_wp2_with (refine wpList_storeW rfl 23 (.tmp 2) (.tmp 61) rfl rfl rfl hP1 rfl tk_info (tk_one ..) ?_; intro w5 hW5 hG5 _)
  refine bodyPost_ret (results_row2 rfl _ rfl rfl (run_loadVar_row _ _ _ _ _ _ _ hW5 Try.underlying23 rfl tk_info)) rfl ?_
  exact ⟨rfl, Below.grown hE1 hG5 hE1.le (fun k hk => by cases hk; omega)⟩
set_option maxHeartbeats 2000000 in
set_option maxRecDepth 100000 in
theorem refJoin_bad5 (b c d : Int) (w : World) : Calls Try.prog 14 #[pcV ⟨256, b, c, d⟩] w (JoinTo w (joinE ⟨256, b, c, d⟩)) := by
  rw [join_bad (by omega) (by omega)]
  unfold pcV
  dsimp only
  have hE1 := (extNew w (.cells #[.int .i64 256, .int .i64 b, .int .i64 c, .int .i64 d] 25)).alloc (.cells #[.int .u8 0, .int .i64 0, .int .i64 0] 23)
  have hP1 := Whole.new (w.alloc (.cells #[.int .i64 256, .int .i64 b, .int .i64 c, .int .i64 d] 25)) 23 #[.int .u8 0, .int .i64 0, .int .i64 0]
  rw [World.size_alloc] at hP1
  have hwp := hP1.lt
  go_enter Try.func14, Try.ntmps14
  go_wp2_with (refine wpList_storeW rfl 23 (.tmp 2) (.tmp 61) rfl rfl rfl hP1 rfl tk_info (tk_one ..) ?_; intro w5 hW5 hG5 _)
  refine bodyPost_ret (results_row2 rfl _ rfl rfl (run_loadVar_row _ _ _ _ _ _ _ hW5 Try.underlying23 rfl tk_info)) rfl ?_
  exact ⟨rfl, Below.grown hE1 hG5 hE1.le (fun k hk => by cases hk; omega)⟩
set_option maxHeartbeats 2000000 in
set_option maxRecDepth 100000 in
theorem refJoin_bad6 (a b c d : Int) (h0 : 264 < a) (w : World) : Calls Try.prog 14 #[pcV ⟨a, b, c, d⟩] w (JoinTo w (joinE ⟨a, b, c, d⟩)) := by
  rw [join_bad (by omega) (by omega)]
  unfold pcV
  dsimp only
  have hE1 := (extNew w (.cells #[.int .i64 a, .int .i64 b, .int .i64 c, .int .i64 d] 25)).alloc (.cells #[.int .u8 0, .int .i64 0, .int .i64 0] 23)
  have hP1 := Whole.new (w.alloc (.cells #[.int .i64 a, .int .i64 b, .int .i64 c, .int .i64 d] 25)) 23 #[.int .u8 0, .int .i64 0, .int .i64 0]
  rw [World.size_alloc] at hP1
  have hwp := hP1.lt
  have g1 : 0 ≤ a := by omega
  have g2 : ¬ a < 256 := by omega
  have g3 : ¬ a < 257 := by omega
  go_enter Try.func14, Try.ntmps14
  go_wp2_with (refine wpList_storeW rfl 23 (.tmp 2) (.tmp 61) rfl rfl rfl hP1 rfl tk_info (tk_one ..) ?_; intro w5 hW5 hG5 _)
  refine bodyPost_ret (results_row2 rfl _ rfl rfl (run_loadVar_row _ _ _ _ _ _ _ hW5 Try.underlying23 rfl tk_info)) rfl ?_
  exact ⟨rfl, Below.grown hE1 hG5 hE1.le (fun k hk => by cases hk; omega)⟩
set_option maxHeartbeats 2000000 in
set_option maxRecDepth 100000 in
theorem refJoin_bad7 (a b c d : Int) (h0 : 257 ≤ a) (h1 : a ≤ 264) (h2 : c < 0) (w : World) : Calls Try.prog 14 #[pcV ⟨a, b, c, d⟩] w (JoinTo w (joinE ⟨a, b, c, d⟩)) := by
  rw [join_bad (by omega) (by omega)]
  unfold pcV
  dsimp only
  have hE1 := (extNew w (.cells #[.int .i64 a, .int .i64 b, .int .i64 c, .int .i64 d] 25)).alloc (.cells #[.int .u8 0, .int .i64 0, .int .i64 0] 23)
  have hP1 := Whole.new (w.alloc (.cells #[.int .i64 a, .int .i64 b, .int .i64 c, .int .i64 d] 25)) 23 #[.int .u8 0, .int .i64 0, .int .i64 0]
  rw [World.size_alloc] at hP1
  have hwp := hP1.lt
  have g1 : 0 ≤ a := by omega
  have g2 : ¬ a < 256 := by omega
  have g3 : ¬ a < 257 := by omega
  have g4 : ¬ 264 < a := by omega
  go_enter Try.func14, Try.ntmps14
  go_wp2_with (refine wpList_storeW rfl 23 (.tmp 2) (.tmp 61) rfl rfl rfl hP1 rfl tk_info (tk_one ..) ?_; intro w5 hW5 hG5 _)
  refine bodyPost_ret (results_row2 rfl _ rfl rfl (run_loadVar_row _ _ _ _ _ _ _ hW5 Try.underlying23 rfl tk_info)) rfl ?_
  exact ⟨rfl, Below.grown hE1 hG5 hE1.le (fun k hk => by cases hk; omega)⟩
set_option maxHeartbeats 2000000 in
set_option maxRecDepth 100000 in
theorem refJoin_bad8 (a b c d : Int) (h0 : 257 ≤ a) (h1 : a ≤ 264) (h2 : 11 < c) (w : World) : Calls Try.prog 14 #[pcV ⟨a, b, c, d⟩] w (JoinTo w (joinE ⟨a, b, c, d⟩)) := by
  rw [join_bad (by omega) (by omega)]
  unfold pcV
  dsimp only
  have hE1 := (extNew w (.cells #[.int .i64 a, .int .i64 b, .int .i64 c, .int .i64 d] 25)).alloc (.cells #[.int .u8 0, .int .i64 0, .int .i64 0] 23)
  have hP1 := Whole.new (w.alloc (.cells #[.int .i64 a, .int .i64 b, .int .i64 c, .int .i64 d] 25)) 23 #[.int .u8 0, .int .i64 0, .int .i64 0]
  rw [World.size_alloc] at hP1
  have hwp := hP1.lt
  have g1 : 0 ≤ a := by omega
  have g2 : ¬ a < 256 := by omega
  have g3 : ¬ a < 257 := by omega
  have g4 : ¬ 264 < a := by omega
  have g5 : ¬ c < 0 := by omega
  go_enter Try.func14, Try.ntmps14
  go_wp2_with (refine wpList_storeW rfl 23 (.tmp 2) (.tmp 61) rfl rfl rfl hP1 rfl tk_info (tk_one ..) ?_; intro w5 hW5 hG5 _)
  refine bodyPost_ret (results_row2 rfl _ rfl rfl (run_loadVar_row _ _ _ _ _ _ _ hW5 Try.underlying23 rfl tk_info)) rfl ?_
  exact ⟨rfl, Below.grown hE1 hG5 hE1.le (fun k hk => by cases hk; omega)⟩
set_option maxHeartbeats 2000000 in
set_option maxRecDepth 100000 in
theorem refJoin_bad9 (a b c d : Int) (h0 : 257 ≤ a) (h1 : a ≤ 264) (h2 : 0 ≤ c) (h3 : c ≤ 11) (h4 : b < 0) (w : World) : Calls Try.prog 14 #[pcV ⟨a, b, c, d⟩] w (JoinTo w (joinE ⟨a, b, c, d⟩)) := by
  rw [join_bad (by omega) (by omega)]
  unfold pcV
  dsimp only
  have hE1 := (extNew w (.cells #[.int .i64 a, .int .i64 b, .int .i64 c, .int .i64 d] 25)).alloc (.cells #[.int .u8 0, .int .i64 0, .int .i64 0] 23)
  have hP1 := Whole.new (w.alloc (.cells #[.int .i64 a, .int .i64 b, .int .i64 c, .int .i64 d] 25)) 23 #[.int .u8 0, .int .i64 0, .int .i64 0]
  rw [World.size_alloc] at hP1
  have hwp := hP1.lt
  have g1 : 0 ≤ a := by omega
  have g2 : ¬ a < 256 := by omega
  have g3 : ¬ a < 257 := by omega
  have g4 : ¬ 264 < a := by omega
  have g5 : ¬ c < 0 := by omega
  have g6 : ¬ 11 < c := by omega
  go_enter Try.func14, Try.ntmps14
  go_wp2_with (refine wpList_storeW rfl 23 (.tmp 2) (.tmp 61) rfl rfl rfl hP1 rfl tk_info (tk_one ..) ?_; intro w5 hW5 hG5 _)
  refine bodyPost_ret (results_row2 rfl _ rfl rfl (run_loadVar_row _ _ _ _ _ _ _ hW5 Try.underlying23 rfl tk_info)) rfl ?_
  exact ⟨rfl, Below.grown hE1 hG5 hE1.le (fun k hk => by cases hk; omega)⟩
set_option maxHeartbeats 2000000 in
set_option maxRecDepth 100000 in
theorem refJoin_bad10 (a b c d : Int) (h0 : 257 ≤ a) (h1 : a ≤ 264) (h2 : 0 ≤ c) (h3 : c ≤ 11) (h4 : 0 ≤ b) (h5 : d < 0) (w : World) : Calls Try.prog 14 #[pcV ⟨a, b, c, d⟩] w (JoinTo w (joinE ⟨a, b, c, d⟩)) := by
  rw [join_bad (by omega) (by omega)]
  unfold pcV
  dsimp only
  have hE1 := (extNew w (.cells #[.int .i64 a, .int .i64 b, .int .i64 c, .int .i64 d] 25)).alloc (.cells #[.int .u8 0, .int .i64 0, .int .i64 0] 23)
  have hP1 := Whole.new (w.alloc (.cells #[.int .i64 a, .int .i64 b, .int .i64 c, .int .i64 d] 25)) 23 #[.int .u8 0, .int .i64 0, .int .i64 0]
  rw [World.size_alloc] at hP1
  have hwp := hP1.lt
  have g1 : 0 ≤ a := by omega
  have g2 : ¬ a < 256 := by omega
  have g3 : ¬ a < 257 := by omega
  have g4 : ¬ 264 < a := by omega
  have g5 : ¬ c < 0 := by omega
  have g6 : ¬ 11 < c := by omega
  have g7 : ¬ b < 0 := by omega
  go_enter Try.func14, Try.ntmps14
  go_wp2_with (refine wpList_storeW rfl 23 (.tmp 2) (.tmp 61) rfl rfl rfl hP1 rfl tk_info (tk_one ..) ?_; intro w5 hW5 hG5 _)
  refine bodyPost_ret (results_row2 rfl _ rfl rfl (run_loadVar_row _ _ _ _ _ _ _ hW5 Try.underlying23 rfl tk_info)) rfl ?_
  exact ⟨rfl, Below.grown hE1 hG5 hE1.le (fun k hk => by cases hk; omega)⟩
set_option maxHeartbeats 2000000 in
set_option maxRecDepth 100000 in
theorem refJoin_lit (y : Nat) (hy : y < 256) (w : World) : Calls Try.prog 14 #[pcV ⟨y, 0, 0, 0⟩] w (JoinTo w (joinE ⟨y, 0, 0, 0⟩)) := by
  have HN := hide (show joinE ⟨y, 0, 0, 0⟩ = (⟨UInt8.ofNat y, 0, 0⟩, 0) by unfold joinE; dsimp only; rw [if_pos ⟨by omega, by omega, rfl, rfl, rfl⟩, Int.toNat_natCast])
  have HY := hide (show ((UInt8.ofNat y).toNat : Int) = (y : Int) by rw [UInt8.toNat_ofNat']; omega)
  rw [HN.out]
  unfold pcV JoinTo tokV
  dsimp only
  have hI : (y : Int) < 256 := by omega
  have hE1 := (extNew w (.cells #[.int .i64 (y : Int), .int .i64 0, .int .i64 0, .int .i64 0] 25)).alloc (.cells #[.int .u8 0, .int .i64 0, .int .i64 0] 23)
  have hP1 := Whole.new (w.alloc (.cells #[.int .i64 (y : Int), .int .i64 0, .int .i64 0, .int .i64 0] 25)) 23 #[.int .u8 0, .int .i64 0, .int .i64 0]
  rw [World.size_alloc] at hP1
  have hwp := hP1.lt
  go_enter Try.func14, Try.ntmps14
  go_wp2_with (refine wpList_storeW rfl 23 (.tmp 2) (.tmp 32) rfl rfl rfl hP1 rfl tk_info (tk_one ..) ?_; intro w5 hW5 hG5 _)
  refine bodyPost_ret (results_row2 rfl _ rfl rfl (run_loadVar_row _ _ _ _ _ _ _ hW5 Try.underlying23 rfl tk_info)) rfl ?_
  rw [HY.out]
  exact ⟨rfl, Below.grown hE1 hG5 hE1.le (fun k hk => by cases hk; omega)⟩
set_option maxHeartbeats 2000000 in
set_option maxRecDepth 100000 in
theorem refJoin_pair (k b m d : Nat) (hk : k ≤ 7) (hm : m ≤ 11) (w : World) : Calls Try.prog 14 #[pcV ⟨257 + (k : Int), b, m, d⟩] w (JoinTo w (joinE ⟨257 + (k : Int), b, m, d⟩)) := by
  have HN := hide (show joinE ⟨257 + (k : Int), b, m, d⟩ = if (2 ^ k : Nat) ≤ b ∨ (2 ^ m : Nat) ≤ d then (⟨0, 0, 0⟩, 7) else (⟨0, ((2 ^ k : Nat) : Int) + b + 2, ((2 ^ m : Nat) : Int) + d⟩, 0) by
    unfold joinE
    dsimp only
    rw [if_neg (by omega), if_neg (by omega), show (257 + (k : Int) - 257).toNat = k by omega, Int.toNat_natCast]
    simp only [Int.ofNat_le])
  generalize joinE ⟨257 + (k : Int), b, m, d⟩ = res at *
  unfold pcV
  dsimp only
  have hs : IntKind.i64.wrap (257 + (k : Int) - 257) = (k : Int) := by rw [IntWalk.i64_in _ (by omega)]; omega
  obtain ⟨a, ha⟩ : ∃ a : Int, 257 + (k : Int) = a := ⟨_, rfl⟩
  rw [ha] at hs ⊢
  have g0 : 0 ≤ a := by omega
  have g2 : ¬ a < 256 := by omega
  have g3 : ¬ a < 257 := by omega
  have g4 : ¬ 264 < a := by omega
  clear ha
  have g5 : ¬ (m : Int) < 0 := by omega
  have g6 : ¬ 11 < (m : Int) := by omega
  have g7 : ¬ (b : Int) < 0 := by omega
  have g8 : ¬ (d : Int) < 0 := by omega
  have C1 := fun W n => power_q k (by omega) W n
  have C2 := fun W n => power_q m (by omega) W n
  have hv := pow_top hk
  have hz := pow_top hm
  generalize 2 ^ k = v at *
  generalize 2 ^ m = z at *
  have hvI : (v : Int) ≤ 128 := by omega
  have hzI : (z : Int) ≤ 2048 := by omega
  have hE1 := (extNew w (.cells #[.int .i64 a, .int .i64 (b : Int), .int .i64 (m : Int), .int .i64 (d : Int)] 25)).alloc (.cells #[.int .u8 0, .int .i64 0, .int .i64 0] 23)
  have hP1 := Whole.new (w.alloc (.cells #[.int .i64 a, .int .i64 (b : Int), .int .i64 (m : Int), .int .i64 (d : Int)] 25)) 23 #[.int .u8 0, .int .i64 0, .int .i64 0]
  rw [World.size_alloc] at hP1
  have hwp := hP1.lt
  have hW1 := (Whole.new w 25 #[.int .i64 a, .int .i64 (b : Int), .int .i64 (m : Int), .int .i64 (d : Int)]).alloc (.cells #[.int .u8 0, .int .i64 0, .int .i64 0] 23)
  go_enter Try.func14, Try.ntmps14
  go_wp2_with fail
  generalize (w.alloc (.cells #[.int .i64 a, .int .i64 (b : Int), .int .i64 (m : Int), .int .i64 (d : Int)] 25)).alloc (.cells #[.int .u8 0, .int .i64 0, .int .i64 0] 23) = W at *
  have c0 := hW1.at 0 (u := .int .i64 a) rfl
  have c2 := hW1.at 2 (u := .int .i64 (m : Int)) rfl
  go_quiet (first | (go_at_call 29; with_reducible exact C1 _ _) | (go_at_call 29; with_reducible exact C2 _ _))
  clear C1 C2 c0 c2 hs
  have hE := hE1.trans ((Ext.refl W).drewN nq)
  have hW2 := hW1.ext ((Ext.refl W).drewN nq)
  have hP2 := hP1.ext ((Ext.refl W).drewN nq)
  have hle : w.heap.size ≤ W.heap.size := hE1.le
  generalize W.drewN nq = W2 at *
  have c1 := hW2.at 1 (u := .int .i64 (b : Int)) rfl
  have c3 := hW2.at 3 (u := .int .i64 (d : Int)) rfl
  by_cases hb : v ≤ b
  · have hbI : (v : Int) ≤ (b : Int) := by omega
    go_wp2_with (refine wpList_storeW rfl 23 (.tmp 2) (.tmp 79) rfl rfl rfl hP2 rfl tk_info (tk_one ..) ?_; intro w5 hW5 hG5 _)
    refine bodyPost_ret (results_row2 rfl _ rfl rfl (run_loadVar_row _ _ _ _ _ _ _ hW5 Try.underlying23 rfl tk_info)) rfl ?_
    rw [HN.out, if_pos (Or.inl hb)]
    exact ⟨rfl, Below.grown hE hG5 hE.le (fun k hk => by cases hk; omega)⟩
  · have hbI : ¬ (v : Int) ≤ (b : Int) := by omega
    by_cases hd : z ≤ d
    · have hdI : (z : Int) ≤ (d : Int) := by omega
      go_wp2_with (refine wpList_storeW rfl 23 (.tmp 2) (.tmp 79) rfl rfl rfl hP2 rfl tk_info (tk_one ..) ?_; intro w5 hW5 hG5 _)
      refine bodyPost_ret (results_row2 rfl _ rfl rfl (run_loadVar_row _ _ _ _ _ _ _ hW5 Try.underlying23 rfl tk_info)) rfl ?_
      rw [HN.out, if_pos (Or.inr hd)]
      exact ⟨rfl, Below.grown hE hG5 hE.le (fun k hk => by cases hk; omega)⟩
    · have hdI : ¬ (z : Int) ≤ (d : Int) := by omega
      go_wp2_with (refine wpList_storeW rfl 23 (.tmp 2) (.tmp 89) rfl rfl rfl hP2 rfl tk_info (tk_one ..) ?_; intro w5 hW5 hG5 _)
      refine bodyPost_ret (results_row2 rfl _ rfl rfl (run_loadVar_row _ _ _ _ _ _ _ hW5 Try.underlying23 rfl tk_info)) rfl ?_
      rw [HN.out, if_neg (by omega)]
      exact ⟨rfl, Below.grown hE hG5 hE.le (fun k hk => by cases hk; omega)⟩
theorem refJoin_any (p : PcV) (w : World) : Calls Try.prog 14 #[pcV p] w (JoinTo w (joinE p)) := by
  obtain ⟨a, b, c, d⟩ := p
  by_cases h1 : a < 0
  · exact refJoin_bad1 a b c d h1 w
  by_cases h2 : a < 256
  · by_cases h3 : b = 0
    · subst h3
      by_cases h4 : c = 0
      · subst h4
        by_cases h5 : d = 0
        · subst h5
          obtain ⟨y, rfl⟩ := Int.eq_ofNat_of_zero_le (show 0 ≤ a by omega)
          exact refJoin_lit y (by omega) w
        · exact refJoin_bad4 a d (by omega) h2 h5 w
      · exact refJoin_bad3 a c d (by omega) h2 h4 w
    · exact refJoin_bad2 a b c d (by omega) h2 h3 w
  by_cases h3 : a = 256
  · subst h3
    exact refJoin_bad5 b c d w
  by_cases h4 : 264 < a
  · exact refJoin_bad6 a b c d h4 w
  by_cases h5 : c < 0
  · exact refJoin_bad7 a b c d (by omega) (by omega) h5 w
  by_cases h6 : 11 < c
  · exact refJoin_bad8 a b c d (by omega) (by omega) h6 w
  by_cases h7 : b < 0
  · exact refJoin_bad9 a b c d (by omega) (by omega) (by omega) (by omega) h7 w
  by_cases h8 : d < 0
  · exact refJoin_bad10 a b c d (by omega) (by omega) (by omega) (by omega) (by omega) h8 w
  obtain ⟨k, hk⟩ := Int.eq_ofNat_of_zero_le (show 0 ≤ a - 257 by omega)
  obtain ⟨m, rfl⟩ := Int.eq_ofNat_of_zero_le (show 0 ≤ c by omega)
  obtain ⟨x, rfl⟩ := Int.eq_ofNat_of_zero_le (show 0 ≤ b by omega)
  obtain ⟨y, rfl⟩ := Int.eq_ofNat_of_zero_le (show 0 ≤ d by omega)
  obtain rfl : a = 257 + (k : Int) := by omega
  exact refJoin_pair k x m y (by omega) (by omega) w
end Go.Proofs.Ytaohdnhfodkeoaa

namespace Go.Proofs.Ytaohdnhfodkeoaa.Len
def sumN : Nat → (Nat → Nat) → Nat
  | 0, _ => 0
  | n + 1, f => sumN n f + f n
theorem sumN_congr : ∀ {n : Nat} {f g : Nat → Nat}, (∀ i, i < n → f i = g i) → sumN n f = sumN n g
  | 0, _, _, _ => rfl
  | n + 1, f, g, h => by rw [sumN, sumN, sumN_congr (fun i hi => h i (by omega)), h n (by omega)]
theorem sumN_le : ∀ {n : Nat} {f g : Nat → Nat}, (∀ i, i < n → f i ≤ g i) → sumN n f ≤ sumN n g
  | 0, _, _, _ => Nat.le_refl _
  | n + 1, f, g, h => by
    rw [sumN, sumN]
    have := sumN_le (n := n) (f := f) (g := g) (fun i hi => h i (by omega))
    have := h n (by omega)
    omega
theorem sumN_add : ∀ (n : Nat) (f g : Nat → Nat), sumN n (fun i => f i + g i) = sumN n f + sumN n g
  | 0, _, _ => rfl
  | n + 1, f, g => by rw [sumN, sumN, sumN, sumN_add n f g]; omega
theorem sumN_mul (c : Nat) : ∀ (n : Nat) (f : Nat → Nat), sumN n (fun i => c * f i) = c * sumN n f
  | 0, _ => rfl
  | n + 1, f => by rw [sumN, sumN, sumN_mul c n f, Nat.mul_add]
theorem sumN_zero : ∀ (n : Nat) {f : Nat → Nat}, (∀ i, i < n → f i = 0) → sumN n f = 0
  | 0, _, _ => rfl
  | n + 1, f, h => by rw [sumN, sumN_zero n (fun i hi => h i (by omega)), h n (by omega)]
theorem sumN_const (c : Nat) : ∀ n : Nat, sumN n (fun _ => c) = n * c
  | 0 => by simp [sumN]
  | n + 1 => by rw [sumN, sumN_const c n, Nat.add_mul, Nat.one_mul]
theorem sumN_first (f : Nat → Nat) (a : Nat) : ∀ n : Nat, a ≤ n → sumN n (fun i => if i < a then f i else 0) = sumN a f
  | 0, h => by
    obtain rfl : a = 0 := by omega
    rfl
  | n + 1, h => by
    rw [sumN]
    by_cases e : a = n + 1
    · subst e
      rw [if_pos (by omega), sumN]
      congr 1
      exact sumN_congr fun i hi => if_pos (by omega)
    · rw [sumN_first f a n (by omega), if_neg (by omega), Nat.add_zero]
def cntN (p : Nat → Bool) : Nat → Nat
  | 0 => 0
  | n + 1 => cntN p n + (if p n then 1 else 0)
theorem cntN_le (p : Nat → Bool) : ∀ n, cntN p n ≤ n
  | 0 => Nat.le_refl _
  | n + 1 => by
    rw [cntN]
    have := cntN_le p n
    split <;> omega
theorem sumN_mono {f : Nat → Nat} : ∀ {m n : Nat}, m ≤ n → sumN m f ≤ sumN n f
  | m, 0, h => by
    obtain rfl : m = 0 := by omega
    exact Nat.le_refl _
  | m, n + 1, h => by
    by_cases e : m = n + 1
    · rw [e]; exact Nat.le_refl _
    · have := sumN_mono (f := f) (m := m) (n := n) (by omega)
      rw [sumN]
      omega
theorem firsts_le {w : Nat → Nat} (p : Nat → Bool) : ∀ n : Nat, (∀ i j, i ≤ j → j < n → w i ≤ w j) → sumN (cntN p n) w ≤ sumN n fun i => if p i then w i else 0
  | 0, _ => Nat.le_refl _
  | n + 1, hs => by
    have IH := firsts_le p n fun i j hij hj => hs i j hij (by omega)
    rw [cntN, sumN]
    by_cases h : p n = true
    · rw [if_pos h, if_pos h, sumN]
      have := hs (cntN p n) n (cntN_le p n) (by omega)
      omega
    · rw [if_neg h, if_neg h]
      omega
abbrev Item := Nat × List Nat
def wts (l : List Item) : Nat := (l.map Prod.fst).sum
def syms (l : List Item) : List Nat := l.flatMap Prod.snd
def Sorted (l : List Item) : Prop := l.Pairwise fun a b => a.1 ≤ b.1
def pairsOf : List Item → List Item
  | a :: b :: r => (a.1 + b.1, a.2 ++ b.2) :: pairsOf r
  | _ => []
def mergeI : List Item → List Item → List Item
  | [], ps => ps
  | ls, [] => ls
  | a :: ls, b :: ps => if a.1 ≤ b.1 then a :: mergeI ls (b :: ps) else b :: mergeI (a :: ls) ps
termination_by ls ps => ls.length + ps.length
theorem mergeI_nil (l : List Item) : mergeI l [] = l := by
  cases l <;> simp [mergeI]
theorem nil_mergeI (l : List Item) : mergeI [] l = l := by simp [mergeI]
theorem mergeI_cons (a b : Item) (ls ps : List Item) : mergeI (a :: ls) (b :: ps) = if a.1 ≤ b.1 then a :: mergeI ls (b :: ps) else b :: mergeI (a :: ls) ps := by rw [mergeI]
theorem mergeI_len : ∀ (ls ps : List Item), (mergeI ls ps).length = ls.length + ps.length
  | [], ps => by rw [nil_mergeI]; simp
  | a :: ls, [] => by rw [mergeI_nil]; simp
  | a :: ls, b :: ps => by
    rw [mergeI_cons]
    split
    · rw [List.length_cons, mergeI_len ls (b :: ps)]; simp; omega
    · rw [List.length_cons, mergeI_len (a :: ls) ps]; simp; omega
termination_by ls ps => ls.length + ps.length
theorem pairsOf_len : ∀ l : List Item, (pairsOf l).length = l.length / 2
  | [] => rfl
  | [_] => by simp [pairsOf]
  | a :: b :: r => by rw [pairsOf, List.length_cons, pairsOf_len r]; simp; omega
theorem wts_nil : wts [] = 0 := rfl
theorem wts_cons (a : Item) (l : List Item) : wts (a :: l) = a.1 + wts l := by simp [wts]
theorem wts_append (a b : List Item) : wts (a ++ b) = wts a + wts b := by simp [wts]
theorem syms_cons (a : Item) (l : List Item) : syms (a :: l) = a.2 ++ syms l := by simp [syms]
theorem merge_take : ∀ (ls ps : List Item) (m : Nat), m ≤ ls.length + ps.length → ∃ a, a ≤ m ∧ a ≤ ls.length ∧ m - a ≤ ps.length ∧ wts ((mergeI ls ps).take m) = wts (ls.take a) + wts (ps.take (m - a)) ∧
    ∀ s, (syms ((mergeI ls ps).take m)).count s = (syms (ls.take a)).count s + (syms (ps.take (m - a))).count s
  | ls, ps, 0, _ => ⟨0, by omega, by omega, by omega, by simp [wts], fun s => by simp [syms]⟩
  | [], ps, m + 1, h => ⟨0, by omega, by omega, by simpa using h, by rw [nil_mergeI]; simp [wts], fun s => by rw [nil_mergeI]; simp [syms]⟩
  | a :: ls, [], m + 1, h => ⟨m + 1, by omega, by simpa using h, by omega, by rw [mergeI_nil]; simp [wts], fun s => by rw [mergeI_nil]; simp [syms]⟩
  | a :: ls, b :: ps, m + 1, h => by
    rw [mergeI_cons]
    by_cases hab : a.1 ≤ b.1
    · rw [if_pos hab]
      obtain ⟨k, h1, h2, h3, h4, h5⟩ := merge_take ls (b :: ps) m (by simp at h ⊢; omega)
      refine ⟨k + 1, by omega, by simpa using h2, by rw [show m + 1 - (k + 1) = m - k by omega]; exact h3, ?_, fun s => ?_⟩
      · rw [List.take_succ_cons, List.take_succ_cons, wts_cons, wts_cons, h4, show m + 1 - (k + 1) = m - k by omega]
        omega
      · rw [List.take_succ_cons, List.take_succ_cons, syms_cons, syms_cons, List.count_append, List.count_append, h5 s, show m + 1 - (k + 1) = m - k by omega]
        omega
    · rw [if_neg hab]
      obtain ⟨k, h1, h2, h3, h4, h5⟩ := merge_take (a :: ls) ps m (by simp at h ⊢; omega)
      refine ⟨k, by omega, h2, by simp; omega, ?_, fun s => ?_⟩
      · rw [show m + 1 - k = (m - k) + 1 by omega, List.take_succ_cons, List.take_succ_cons, wts_cons, wts_cons, h4]
        omega
      · rw [show m + 1 - k = (m - k) + 1 by omega, List.take_succ_cons, List.take_succ_cons, syms_cons, syms_cons, List.count_append, List.count_append, h5 s]
        omega
termination_by ls ps => ls.length + ps.length
theorem wts_take_le (a : Item) (l : List Item) (h : ∀ x ∈ l, a.1 ≤ x.1) : ∀ {m : Nat}, m + 1 ≤ l.length → a.1 + wts (l.take m) ≤ wts (l.take (m + 1)) := by
  intro m hm
  have e : l.take (m + 1) = l.take m ++ [l[m]'(by omega)] := by rw [List.take_add_one, List.getElem?_eq_getElem (by omega)]; rfl
  rw [e, wts_append, wts_cons, wts_nil]
  have := h (l[m]'(by omega)) (List.getElem_mem _)
  omega
theorem merge_least : ∀ (ls ps : List Item) (m c : Nat), Sorted ls → Sorted ps → c ≤ m → c ≤ ls.length → m - c ≤ ps.length → wts ((mergeI ls ps).take m) ≤ wts (ls.take c) + wts (ps.take (m - c))
  | ls, ps, 0, _, _, _, _, _, _ => by simp [wts]
  | [], ps, m + 1, c, _, _, h1, h2, _ => by
    obtain rfl : c = 0 := by simpa using h2
    rw [nil_mergeI]
    simp [wts]
  | a :: ls, [], m + 1, c, _, _, h1, h2, h3 => by
    obtain rfl : c = m + 1 := by simp at h3; omega
    rw [mergeI_nil]
    simp [wts]
  | a :: ls, b :: ps, m + 1, c, hl, hp, h1, h2, h3 => by
    have hl1 := (List.pairwise_cons.1 hl).1
    have hl2 := (List.pairwise_cons.1 hl).2
    have hp1 := (List.pairwise_cons.1 hp).1
    have hp2 := (List.pairwise_cons.1 hp).2
    rw [mergeI_cons]
    simp only [List.length_cons] at h2 h3
    by_cases hab : a.1 ≤ b.1
    · rw [if_pos hab, List.take_succ_cons, wts_cons]
      cases c with
      | succ c =>
        have IH := merge_least ls (b :: ps) m c hl2 hp (by omega) (by omega) (by simp; omega)
        rw [List.take_succ_cons, wts_cons, show m + 1 - (c + 1) = m - c by omega]
        omega
      | zero =>
        have IH := merge_least ls (b :: ps) m 0 hl2 hp (by omega) (by omega) (by simp; omega)
        have h4 : a.1 + wts ((b :: ps).take m) ≤ wts ((b :: ps).take (m + 1)) := wts_take_le a (b :: ps) (fun x hx => by
          rcases List.mem_cons.1 hx with e | e
          · rw [e]; exact hab
          · have := hp1 x e; omega) (by simp; omega)
        rw [List.take_zero] at IH ⊢
        rw [Nat.sub_zero] at IH ⊢
        rw [wts_nil] at IH ⊢
        omega
    · rw [if_neg hab, List.take_succ_cons, wts_cons]
      by_cases hc : c = m + 1
      · subst hc
        have IH := merge_least (a :: ls) ps m m hl hp2 (by omega) (by simp; omega) (by omega)
        have h4 : b.1 + wts ((a :: ls).take m) ≤ wts ((a :: ls).take (m + 1)) := wts_take_le b (a :: ls) (fun x hx => by
          rcases List.mem_cons.1 hx with e | e
          · rw [e]; omega
          · have := hl1 x e; omega) (by simp; omega)
        rw [Nat.sub_self, List.take_zero, wts_nil] at IH ⊢
        omega
      · have IH := merge_least (a :: ls) ps m c hl hp2 (by omega) (by simp; omega) (by omega)
        rw [show m + 1 - c = (m - c) + 1 by omega, List.take_succ_cons, wts_cons]
        omega
termination_by ls ps => ls.length + ps.length
theorem merge_mem {ls ps : List Item} {x : Item} : x ∈ mergeI ls ps → x ∈ ls ∨ x ∈ ps := by
  match ls, ps with
  | [], ps => rw [nil_mergeI]; exact .inr
  | a :: ls, [] => rw [mergeI_nil]; exact .inl
  | a :: ls, b :: ps =>
    rw [mergeI_cons]
    split
    · intro h
      rcases List.mem_cons.1 h with e | e
      · exact .inl (by rw [e]; exact List.mem_cons_self)
      · rcases merge_mem e with h | h
        · exact .inl (List.mem_cons_of_mem _ h)
        · exact .inr h
    · intro h
      rcases List.mem_cons.1 h with e | e
      · exact .inr (by rw [e]; exact List.mem_cons_self)
      · rcases merge_mem e with h | h
        · exact .inl h
        · exact .inr (List.mem_cons_of_mem _ h)
termination_by ls.length + ps.length
theorem merge_sorted : ∀ {ls ps : List Item}, Sorted ls → Sorted ps → Sorted (mergeI ls ps)
  | [], ps, _, h => by rw [nil_mergeI]; exact h
  | a :: ls, [], h, _ => by rw [mergeI_nil]; exact h
  | a :: ls, b :: ps, hl, hp => by
    have hl1 := (List.pairwise_cons.1 hl).1
    have hp1 := (List.pairwise_cons.1 hp).1
    rw [mergeI_cons]
    by_cases hab : a.1 ≤ b.1
    · rw [if_pos hab]
      refine List.pairwise_cons.2 ⟨fun x hx => ?_, merge_sorted (List.pairwise_cons.1 hl).2 hp⟩
      rcases merge_mem hx with h | h
      · exact hl1 x h
      · rcases List.mem_cons.1 h with e | e
        · rw [e]; exact hab
        · have := hp1 x e; omega
    · rw [if_neg hab]
      refine List.pairwise_cons.2 ⟨fun x hx => ?_, merge_sorted hl (List.pairwise_cons.1 hp).2⟩
      rcases merge_mem hx with h | h
      · rcases List.mem_cons.1 h with e | e
        · rw [e]; omega
        · have := hl1 x e; omega
      · exact hp1 x h
termination_by ls ps => ls.length + ps.length
theorem pairs_ge : ∀ {l : List Item} {c : Nat}, (∀ x ∈ l, c ≤ x.1) → ∀ x ∈ pairsOf l, 2 * c ≤ x.1
  | [], _, _, x, h => by simp [pairsOf] at h
  | [_], _, _, x, h => by simp [pairsOf] at h
  | a :: b :: r, c, hl, x, h => by
    rw [pairsOf] at h
    rcases List.mem_cons.1 h with e | e
    · rw [e]
      have := hl a (by simp)
      have := hl b (by simp)
      simp only
      omega
    · exact pairs_ge (fun y hy => hl y (by simp [hy])) x e
theorem pairs_sorted : ∀ {l : List Item}, Sorted l → Sorted (pairsOf l)
  | [], _ => by simp [pairsOf, Sorted]
  | [_], _ => by simp [pairsOf, Sorted]
  | a :: b :: r, h => by
    have h1 := List.pairwise_cons.1 h
    have h2 := List.pairwise_cons.1 h1.2
    rw [pairsOf]
    refine List.pairwise_cons.2 ⟨fun x hx => ?_, pairs_sorted h2.2⟩
    have := pairs_ge (c := b.1) (fun y hy => h2.1 y hy) x hx
    have := h1.1 b (by simp)
    simp only
    omega
theorem pairs_take : ∀ (l : List Item) (k : Nat), 2 * k ≤ l.length → wts ((pairsOf l).take k) = wts (l.take (2 * k)) ∧ ∀ s, (syms ((pairsOf l).take k)).count s = (syms (l.take (2 * k))).count s
  | _, 0, _ => by simp [wts, syms]
  | [], k + 1, h => by simp at h
  | [_], k + 1, h => by simp at h; omega
  | a :: b :: r, k + 1, h => by
    obtain ⟨i1, i2⟩ := pairs_take r k (by simp at h; omega)
    rw [pairsOf, List.take_succ_cons, show 2 * (k + 1) = 2 * k + 1 + 1 by omega, List.take_succ_cons, List.take_succ_cons]
    refine ⟨?_, fun s => ?_⟩
    · rw [wts_cons, wts_cons, wts_cons, i1]
      simp only
      omega
    · rw [syms_cons, syms_cons, syms_cons, List.count_append, List.count_append, List.count_append, i2 s]
      simp only [List.count_append]
      omega
def leaves (n : Nat) (w s : Nat → Nat) : List Item := (List.range n).map fun i => (w i, [s i])
def row (lv : List Item) : Nat → List Item
  | 0 => lv
  | r + 1 => mergeI lv (pairsOf (row lv r))
section
variable {n : Nat} {w s : Nat → Nat}
theorem leaves_len : (leaves n w s).length = n := by simp [leaves]
theorem leaves_succ : leaves (n + 1) w s = leaves n w s ++ [(w n, [s n])] := by simp [leaves, List.range_succ]
theorem leaves_take {a : Nat} (h : a ≤ n) : (leaves n w s).take a = leaves a w s := by
  unfold leaves
  rw [← List.map_take, List.take_range, Nat.min_eq_left h]
theorem leaves_wts : ∀ n, wts (leaves n w s) = sumN n w
  | 0 => rfl
  | n + 1 => by rw [leaves_succ, sumN, ← leaves_wts n]; simp [wts]
theorem leaves_count (hs : ∀ i j, i < n → j < n → s i = s j → i = j) {i : Nat} (hi : i < n) : ∀ a, a ≤ n → (syms (leaves a w s)).count (s i) = if i < a then 1 else 0
  | 0, _ => by simp [leaves, syms]
  | a + 1, h => by
    have IH := leaves_count hs hi a (by omega)
    have e : syms (leaves (a + 1) w s) = syms (leaves a w s) ++ [s a] := by rw [leaves_succ]; simp [syms]
    rw [e, List.count_append, IH]
    by_cases hia : i = a
    · subst hia
      simp
    · have hne : s a ≠ s i := fun h2 => hia (hs a i (by omega) hi h2).symm
      have hb : (s a == s i) = false := beq_eq_false_iff_ne.2 hne
      rw [List.count_singleton, hb, if_neg Bool.false_ne_true, Nat.add_zero]
      by_cases h3 : i < a
      · rw [if_pos h3, if_pos (by omega)]
      · rw [if_neg h3, if_neg (by omega)]
theorem leaves_other {x : Nat} : ∀ {a : Nat}, (∀ i, i < a → s i ≠ x) → (syms (leaves a w s)).count x = 0
  | 0, _ => by simp [leaves, syms]
  | a + 1, h => by
    have e : syms (leaves (a + 1) w s) = syms (leaves a w s) ++ [s a] := by rw [leaves_succ]; simp [syms]
    rw [e, List.count_append, leaves_other (fun i hi => h i (by omega)), List.count_singleton, beq_eq_false_iff_ne.2 (h a (by omega)), if_neg Bool.false_ne_true]
theorem leaves_sorted (hw : ∀ i j, i ≤ j → j < n → w i ≤ w j) : Sorted (leaves n w s) := by
  unfold leaves Sorted
  rw [List.pairwise_map]
  exact (List.pairwise_lt_range (n := n)).imp_of_mem fun {a b} ha hb h => hw a b (Nat.le_of_lt h) (List.mem_range.1 hb)
theorem row_sorted {lv : List Item} (h : Sorted lv) : ∀ r, Sorted (row lv r)
  | 0 => h
  | r + 1 => merge_sorted h (pairs_sorted (row_sorted h r))
theorem row_len (lv : List Item) (r : Nat) : (row lv (r + 1)).length = lv.length + (row lv r).length / 2 := by rw [row, mergeI_len, pairsOf_len]
theorem row_says (hs : ∀ i j, i < n → j < n → s i = s j → i = j) : ∀ (r m : Nat), m ≤ (row (leaves n w s) r).length →
    ∃ c wd : Nat → Nat, (∀ i, i < n → (syms ((row (leaves n w s) r).take m)).count (s i) = c i) ∧ (∀ x, (∀ i, i < n → s i ≠ x) → (syms ((row (leaves n w s) r).take m)).count x = 0) ∧
      (∀ i, i < n → c i ≤ r + 1 ∧ wd i + 2 ^ (r + 1 - c i) ≤ 2 ^ (r + 1)) ∧ (∀ i j, i ≤ j → j < n → c j ≤ c i) ∧ sumN n wd = m * 2 ^ r ∧ wts ((row (leaves n w s) r).take m) = sumN n fun i => w i * c i
  | 0, m, h => by
    have hmn : m ≤ n := by rw [row, leaves_len] at h; exact h
    refine ⟨fun i => if i < m then 1 else 0, fun i => if i < m then 1 else 0, fun i hi => ?_, fun x hx => ?_, fun i _ => ?_, fun i j hij _ => ?_, ?_, ?_⟩
    · rw [row, leaves_take hmn, leaves_count hs hi m hmn]
    · rw [row, leaves_take hmn]
      exact leaves_other fun i hi => hx i (by omega)
    · dsimp only
      by_cases e : i < m
      · rw [if_pos e]; simp
      · rw [if_neg e]; simp
    · dsimp only
      by_cases e : j < m
      · rw [if_pos e, if_pos (by omega)]; exact Nat.le_refl _
      · rw [if_neg e]; omega
    · rw [sumN_first (fun _ => 1) m n hmn, sumN_const, Nat.pow_zero]
    · rw [row, leaves_take hmn, leaves_wts]
      rw [← sumN_first w m n hmn]
      refine sumN_congr fun i _ => ?_
      dsimp only
      by_cases e : i < m
      · rw [if_pos e, if_pos e, Nat.mul_one]
      · rw [if_neg e, if_neg e, Nat.mul_zero]
  | r + 1, m, h => by
    rw [row_len, leaves_len] at h
    obtain ⟨a, a1, a2, a3, a4, a5⟩ := merge_take (leaves n w s) (pairsOf (row (leaves n w s) r)) m (by rw [leaves_len, pairsOf_len]; exact h)
    rw [leaves_len] at a2
    rw [pairsOf_len] at a3
    obtain ⟨c, wd, h1, h2, h3, h4, h5, h6⟩ := row_says hs r (2 * (m - a)) (by omega)
    obtain ⟨p1, p2⟩ := pairs_take (row (leaves n w s) r) (m - a) (by omega)
    refine ⟨fun i => (if i < a then 1 else 0) + c i, fun i => (if i < a then 2 ^ (r + 1) else 0) + wd i, fun i hi => ?_, fun x hx => ?_, fun i hi => ?_, fun i j hij hj => ?_, ?_, ?_⟩
    · rw [row, a5 (s i), leaves_take a2, leaves_count hs hi a a2, p2 (s i), h1 i hi]
    · rw [row, a5 x, leaves_take a2, leaves_other (fun i hi => hx i (by omega)), p2 x, h2 x hx]
    · dsimp only
      obtain ⟨k1, k2⟩ := h3 i hi
      have e2 : 2 ^ (r + 1 + 1) = 2 * 2 ^ (r + 1) := by rw [Nat.pow_succ, Nat.mul_comm]
      by_cases e : i < a
      · rw [if_pos e, if_pos e, show r + 1 + 1 - (1 + c i) = r + 1 - c i by omega, e2]
        exact ⟨by omega, by omega⟩
      · rw [if_neg e, if_neg e, Nat.zero_add, Nat.zero_add, show r + 1 + 1 - c i = (r + 1 - c i) + 1 by omega, Nat.pow_succ, e2]
        have : 2 ^ (r + 1 - c i) ≤ 2 ^ (r + 1) := Nat.pow_le_pow_right (by omega) (by omega)
        exact ⟨by omega, by omega⟩
    · dsimp only
      have := h4 i j hij hj
      by_cases e : j < a
      · rw [if_pos e, if_pos (by omega)]; omega
      · rw [if_neg e]; split <;> omega
    · rw [sumN_add, sumN_first (fun _ => 2 ^ (r + 1)) a n a2, sumN_const, h5, Nat.pow_succ, Nat.mul_comm 2 (m - a), Nat.mul_assoc, ← Nat.mul_comm (2 ^ r) 2, ← Nat.add_mul]
      rw [show a + (m - a) = m by omega]
    · rw [row, a4, leaves_take a2, leaves_wts, p1, h6, ← sumN_first w a n a2, ← sumN_add]
      refine sumN_congr fun i _ => ?_
      dsimp only
      by_cases e : i < a
      · rw [if_pos e, if_pos e, Nat.mul_add, Nat.mul_one]
      · rw [if_neg e, if_neg e, Nat.mul_add, Nat.mul_zero]
theorem row_least (hw : ∀ i j, i ≤ j → j < n → w i ≤ w j) : ∀ (r m : Nat) (l : Nat → Nat), (∀ i, i < n → l i ≤ r + 1) → m * 2 ^ r ≤ sumN n (fun i => 2 ^ (r + 1) - 2 ^ (r + 1 - l i)) →
    m ≤ (row (leaves n w s) r).length ∧ wts ((row (leaves n w s) r).take m) ≤ sumN n fun i => w i * l i
  | 0, m, l, hl, h => by
    have e : sumN n (fun i => 2 ^ (0 + 1) - 2 ^ (0 + 1 - l i)) = cntN (fun i => decide (0 < l i)) n := by
      clear h hw
      induction n with
      | zero => rfl
      | succ n ih =>
        rw [sumN, cntN, ih fun i hi => hl i (by omega)]
        have := hl n (by omega)
        rcases Nat.eq_zero_or_pos (l n) with h0 | h0
        · rw [h0]; simp
        · have h1 : l n = 1 := by omega
          rw [h1]; simp
    rw [e, Nat.pow_zero, Nat.mul_one] at h
    have hcn := cntN_le (fun i => decide (0 < l i)) n
    refine ⟨by rw [row, leaves_len]; omega, ?_⟩
    rw [row, leaves_take (by omega), leaves_wts]
    refine Nat.le_trans (sumN_mono h) (Nat.le_trans (firsts_le _ n hw) (sumN_le fun i _ => ?_))
    by_cases h0 : 0 < l i
    · rw [if_pos (by simpa using h0)]
      exact Nat.le_mul_of_pos_right _ h0
    · rw [if_neg (by simpa using h0)]
      omega
  | r + 1, m, l, hl, h => by
    have hP : 0 < 2 ^ (r + 1) := Nat.pow_pos (by omega)
    have e : sumN n (fun i => 2 ^ (r + 1 + 1) - 2 ^ (r + 1 + 1 - l i)) = cntN (fun i => decide (0 < l i)) n * 2 ^ (r + 1) + sumN n (fun i => 2 ^ (r + 1) - 2 ^ (r + 1 - (l i - 1))) := by
      clear h hw
      induction n with
      | zero => rw [sumN, sumN, cntN]; omega
      | succ n ih =>
        rw [sumN, sumN, cntN, ih fun i hi => hl i (by omega), Nat.add_mul]
        have := hl n (by omega)
        have e2 : 2 ^ (r + 1 + 1) = 2 ^ (r + 1) + 2 ^ (r + 1) := by rw [Nat.pow_succ]; omega
        rcases Nat.eq_zero_or_pos (l n) with h0 | h0
        · rw [h0]
          simp
        · rw [if_pos (by simpa using h0), show r + 1 + 1 - l n = r + 1 - (l n - 1) by omega, Nat.one_mul, e2]
          have : 2 ^ (r + 1 - (l n - 1)) ≤ 2 ^ (r + 1) := Nat.pow_le_pow_right (by omega) (by omega)
          omega
    rw [e] at h
    have hcn := cntN_le (fun i => decide (0 < l i)) n
    have hcost : sumN n (fun i => w i * l i) = sumN n (fun i => if decide (0 < l i) then w i else 0) + sumN n fun i => w i * (l i - 1) := by
      rw [← sumN_add]
      refine sumN_congr fun i _ => ?_
      rcases Nat.eq_zero_or_pos (l i) with h0 | h0
      · rw [h0]; simp
      · rw [if_pos (by simpa using h0)]
        have : l i = (l i - 1) + 1 := by omega
        rw [show w i * l i = w i * ((l i - 1) + 1) by rw [← this], Nat.mul_add, Nat.mul_one]
        omega
    have hfl := firsts_le (w := w) (fun i => decide (0 < l i)) n hw
    have hls := leaves_sorted (s := s) hw
    have hps := pairs_sorted (row_sorted hls r)
    generalize cntN (fun i => decide (0 < l i)) n = c at *
    rw [row_len, leaves_len]
    by_cases hmc : m ≤ c
    · refine ⟨by omega, ?_⟩
      have := merge_least (leaves n w s) (pairsOf (row (leaves n w s) r)) m m hls hps (Nat.le_refl _) (by rw [leaves_len]; omega) (by omega)
      rw [Nat.sub_self, List.take_zero, wts_nil, leaves_take (by omega), leaves_wts] at this
      have := sumN_mono (f := w) hmc
      rw [row]
      omega
    · have hm2 : (m - c) * 2 ^ (r + 1) = m * 2 ^ (r + 1) - c * 2 ^ (r + 1) := Nat.sub_mul _ _ _
      have IH := row_least hw r (2 * (m - c)) (fun i => l i - 1) (fun i hi => by have := hl i hi; omega) (by
        rw [Nat.mul_comm 2 (m - c), Nat.mul_assoc, Nat.mul_comm 2 (2 ^ r), ← Nat.pow_succ, Nat.succ_eq_add_one, hm2]
        omega)
      obtain ⟨i1, i2⟩ := IH
      refine ⟨by omega, ?_⟩
      have h1 := merge_least (leaves n w s) (pairsOf (row (leaves n w s) r)) m c hls hps (by omega) (by rw [leaves_len]; exact hcn) (by rw [pairsOf_len]; omega)
      rw [leaves_take hcn, leaves_wts, (pairs_take (row (leaves n w s) r) (m - c) (by omega)).1] at h1
      rw [row]
      omega
end
end Go.Proofs.Ytaohdnhfodkeoaa.Len

namespace Go.Proofs.Ytaohdnhfodkeoaa.Len
theorem sumN_shift : ∀ (n : Nat) (f : Nat → Nat), sumN (n + 1) f = f 0 + sumN n fun i => f (i + 1)
  | 0, f => by simp [sumN]
  | n + 1, f => by
    rw [sumN, sumN_shift n f, sumN]
    omega
theorem sumN_sub {c : Nat} : ∀ (n : Nat) {g : Nat → Nat}, (∀ i, i < n → g i ≤ c) → sumN n (fun i => c - g i) + sumN n g = n * c
  | 0, _, _ => by simp [sumN]
  | n + 1, g, h => by
    rw [sumN, sumN, Nat.add_mul, Nat.one_mul]
    have := sumN_sub (c := c) n (g := g) fun i hi => h i (by omega)
    have := h n (by omega)
    omega
theorem pow_le_of {a b : Nat} (h : a ≤ b) : 2 ^ a ≤ 2 ^ b := Nat.pow_le_pow_right (by omega) h
section
variable {n r : Nat} {w s l : Nat → Nat}
theorem wide (hK : sumN n (fun i => 2 ^ (r + 1 - l i)) ≤ 2 ^ (r + 1)) : (2 * n - 2) * 2 ^ r ≤ sumN n fun i => 2 ^ (r + 1) - 2 ^ (r + 1 - l i) := by
  have h1 := sumN_sub (c := 2 ^ (r + 1)) n (g := fun i => 2 ^ (r + 1 - l i)) fun i _ => pow_le_of (by omega)
  have e : (2 * n - 2) * 2 ^ r = n * 2 ^ (r + 1) - 2 ^ (r + 1) := by
    rw [Nat.pow_succ, Nat.sub_mul]
    have : 2 * n * 2 ^ r = n * (2 ^ r * 2) := by rw [Nat.mul_comm 2 n, Nat.mul_assoc, Nat.mul_comm 2]
    omega
  omega
def says (n : Nat) (w s : Nat → Nat) (r i : Nat) : Nat := (syms ((row (leaves n w s) r).take (2 * n - 2))).count (s i)
structure Fine (n r : Nat) (w s : Nat → Nat) : Prop where
  enough : 2 * n - 2 ≤ (row (leaves n w s) r).length
  pos : ∀ i, i < n → 1 ≤ says n w s r i
  top : ∀ i, i < n → says n w s r i ≤ r + 1
  anti : ∀ i j, i ≤ j → j < n → says n w s r j ≤ says n w s r i
  full : sumN n (fun i => 2 ^ (r + 1 - says n w s r i)) = 2 ^ (r + 1)
  none : ∀ x, (∀ i, i < n → s i ≠ x) → (syms ((row (leaves n w s) r).take (2 * n - 2))).count x = 0
  best : ∀ l : Nat → Nat, (∀ i, i < n → l i ≤ r + 1) → sumN n (fun i => 2 ^ (r + 1 - l i)) ≤ 2 ^ (r + 1) → sumN n (fun i => w i * says n w s r i) ≤ sumN n fun i => w i * l i
theorem fine (hn : 2 ≤ n) (hnr : n ≤ 2 ^ (r + 1)) (hw : ∀ i j, i ≤ j → j < n → w i ≤ w j) (hw0 : 1 ≤ w 0) (hs : ∀ i j, i < n → j < n → s i = s j → i = j) : Fine n r w s := by
  have h0 := row_least (s := s) hw r (2 * n - 2) (fun _ => r + 1) (fun _ _ => Nat.le_refl _) (wide (by
    rw [sumN_congr (g := fun _ => 1) (fun i _ => by rw [Nat.sub_self, Nat.pow_zero]), sumN_const]
    omega))
  obtain ⟨c, wd, h1, h2, h3, h4, h5, h6⟩ := row_says (w := w) hs r (2 * n - 2) h0.1
  have hP : 0 < 2 ^ (r + 1) := Nat.pow_pos (by omega)
  have hbest : ∀ l : Nat → Nat, (∀ i, i < n → l i ≤ r + 1) → sumN n (fun i => 2 ^ (r + 1 - l i)) ≤ 2 ^ (r + 1) → sumN n (fun i => w i * c i) ≤ sumN n fun i => w i * l i := fun l hl hK => by
    rw [← h6]
    exact (row_least hw r (2 * n - 2) l hl (wide hK)).2
  -- the weight isn't too much
  have hle : sumN n (fun i => 2 ^ (r + 1 - c i)) ≤ 2 ^ (r + 1) := by
    have k1 : sumN n (fun i => wd i + 2 ^ (r + 1 - c i)) ≤ sumN n fun _ => 2 ^ (r + 1) := sumN_le fun i hi => (h3 i hi).2
    rw [sumN_add, h5, sumN_const] at k1
    have e : (2 * n - 2) * 2 ^ r = n * 2 ^ (r + 1) - 2 ^ (r + 1) := by
      rw [Nat.pow_succ, Nat.sub_mul]
      have : 2 * n * 2 ^ r = n * (2 ^ r * 2) := by rw [Nat.mul_comm 2 n, Nat.mul_assoc, Nat.mul_comm 2]
      omega
    have : 1 * 2 ^ (r + 1) ≤ n * 2 ^ (r + 1) := Nat.mul_le_mul_right _ (by omega)
    omega
  obtain ⟨k, rfl⟩ : ∃ k, n = k + 2 := ⟨n - 2, by omega⟩
  have hlast : 1 ≤ c (k + 1) := by
    rcases Nat.eq_zero_or_pos (c (k + 1)) with e | e
    · rw [sumN, e, Nat.sub_zero] at hle
      have : sumN (k + 1) (fun _ => 1) ≤ sumN (k + 1) fun i => 2 ^ (r + 1 - c i) := sumN_le fun i _ => Nat.pow_pos (by omega)
      rw [sumN_const] at this
      omega
    · exact e
  have hpos : ∀ i, i < k + 2 → 1 ≤ c i := fun i hi => Nat.le_trans hlast (h4 i (k + 1) (by omega) (by omega))
  have hfull : sumN (k + 2) (fun i => 2 ^ (r + 1 - c i)) = 2 ^ (r + 1) := by
    rcases Nat.lt_or_ge (sumN (k + 2) fun i => 2 ^ (r + 1 - c i)) (2 ^ (r + 1)) with hlt | hge
    · exfalso
      have hc0 := h3 0 (by omega)
      have hc1 := hpos 0 (by omega)
      by_cases h1' : c 0 = 1
      · have : sumN (k + 2) (fun _ => 2 ^ r) ≤ sumN (k + 2) fun i => 2 ^ (r + 1 - c i) := sumN_le fun i hi => by
          have := h4 0 i (by omega) hi
          exact pow_le_of (by omega)
        rw [sumN_const] at this
        have h2' : 2 * 2 ^ r ≤ (k + 2) * 2 ^ r := Nat.mul_le_mul_right _ (by omega)
        rw [Nat.pow_succ] at hlt
        omega
      · -- one bit less for the first symbol
        have hdiv : sumN (k + 2) (fun i => 2 ^ (r + 1 - c i)) = 2 ^ (r + 1 - c 0) * sumN (k + 2) fun i => 2 ^ (c 0 - c i) := by
          rw [← sumN_mul]
          refine sumN_congr fun i hi => ?_
          have := h4 0 i (by omega) hi
          rw [← Nat.pow_add]
          congr 1
          omega
        have hpw : 2 ^ (r + 1) = 2 ^ (r + 1 - c 0) * 2 ^ c 0 := by
          rw [← Nat.pow_add]
          congr 1
          omega
        have hroom : sumN (k + 2) (fun i => 2 ^ (r + 1 - c i)) + 2 ^ (r + 1 - c 0) ≤ 2 ^ (r + 1) := by
          rw [hdiv, hpw] at hlt ⊢
          have := Nat.lt_of_mul_lt_mul_left hlt
          rw [← Nat.mul_succ]
          exact Nat.mul_le_mul_left _ this
        have hlow := hbest (fun i => if i = 0 then c 0 - 1 else c i) (fun i hi => by
          have := (h3 i hi).1
          split <;> omega) (by
          rw [sumN_shift] at hroom ⊢
          simp only [if_false, if_true, Nat.add_one_ne_zero]
          have e : 2 ^ (r + 1 - (c 0 - 1)) = 2 ^ (r + 1 - c 0) + 2 ^ (r + 1 - c 0) := by
            rw [show r + 1 - (c 0 - 1) = (r + 1 - c 0) + 1 by omega, Nat.pow_succ]
            omega
          omega)
        rw [sumN_shift, sumN_shift (k + 1) fun i => w i * if i = 0 then c 0 - 1 else c i] at hlow
        simp only [Nat.add_one_ne_zero, if_false, if_true] at hlow
        have e : w 0 * c 0 = w 0 * (c 0 - 1) + w 0 := by
          rw [← Nat.mul_succ]
          congr 1
          omega
        omega
    · omega
  have hsay : ∀ i, i < k + 2 → says (k + 2) w s r i = c i := fun i hi => h1 i hi
  refine ⟨h0.1, fun i hi => by rw [hsay i hi]; exact hpos i hi, fun i hi => by rw [hsay i hi]; exact (h3 i hi).1, fun i j hij hj => by rw [hsay i (by omega), hsay j hj]; exact h4 i j hij hj, ?_, h2, fun l hl hK => ?_⟩
  · rw [sumN_congr (g := fun i => 2 ^ (r + 1 - c i)) (fun i hi => by rw [hsay i hi])]
    exact hfull
  · rw [sumN_congr (g := fun i => w i * c i) (fun i hi => by rw [hsay i hi])]
    exact hbest l hl hK
end
end Go.Proofs.Ytaohdnhfodkeoaa.Len

