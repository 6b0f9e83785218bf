/- The program's reader of rows: takeLow, fill. The program's reader of rows: takeHigh. The program's bytesMost and readAll. The document's Same of chapter 9: two slices of numbers. EfOne, EfBack, EfFinds. The program's readParts. The contract of the program's Fixed. The contract of the example that every law of chapter 3 asks first. The program's cursor: what its block and its row hold. The closures that go on last: they tell what was read and take the bytes ahead. The row's reading methods: number, first. The row's reading methods: first, count, fixed, text. The row's reading methods: count, fixed, text. What goes on in each of the cursor's reading calls: the number. The program's cursor: Num, whatever its state. The program's cursor: New, Left, At, Err, Fail, End. -/
import Derived.Test.YtdpeidijaohgcaaB01
import Derived.Test.YtdpeidijaohgcaaB02
import Derived.Test.YtdpeidijaohgcaaB03
import Derived.BigQuiet
import Derived.Deep.QuietTactic
import Derived.Deep.RegionLaw
import Derived.StillTailTactics
namespace Go.Proofs.Ytdpeidijaohgcaa
open Go.RowKit Num Ef

theorem Mod.grown {w w' : World} {g : Nat} (h : Mod w w' g none) : w.grownBy w' (some g) := ⟨h.os, h.tape, h.output, h.size, fun k hk hg => h.block k hk (fun e => hg (by rw [e])) (by simp)⟩
/-- The reader of a row, in block r, over a reader of bits in block gr; all that there was in W is there still. -/
structure RSt (W w : World) (gr r k q : Nat) (b : List UInt8) (v1 v2 : Value) (L H : List Int) : Prop where
  rd : Rdr w W.heap.size gr b q
  blk : Whole w r 96 #[.pointer (some ⟨gr, 0, none⟩), .int .i64 (k : Int), v1, v2]
  two : TwoI w (r + 1) v1 v2 L H
  lt : gr < r
  ext : Ext W w
section
variable {W w w' w2 : World} {gr r k q q' : Nat} {b : List UInt8} {v1 v2 v' : Value} {L H L' : List Int}
theorem RSt.later (h : RSt W w gr r k q b v1 v2 L H) (hE : Ext w w') : RSt W w' gr r k q b v1 v2 L H := ⟨h.rd.ext hE, h.blk.ext hE, h.two.ext hE, h.lt, h.ext.trans hE⟩
theorem RSt.get (h : RSt W w gr r k q b v1 v2 L H) (hR : Rdr w' W.heap.size gr b q') (hM : Mod w w' gr none) : RSt W w' gr r k q' b v1 v2 L H :=
  ⟨hR, hM.whole h.blk (by have := h.lt; omega) (by simp), h.two.below hM.grown (by have := h.lt; omega), h.lt, Below.trans h.ext (hM.below (B := W.heap.size) h.ext.le h.rd.le (fun k hk => by cases hk))⟩
/-- The first list has grown and is stored. -/
theorem RSt.low (h : RSt W w gr r k q b v1 v2 L H) (hO : OwnI w' (r + 1) v' L') (hG : w.grownBy w' v1.ownBlock) (hN : NewOb w v1.ownBlock v'.ownBlock) (hW2 : Whole w2 r 96 #[.pointer (some ⟨gr, 0, none⟩), .int .i64 (k : Int), v', v2]) (hG2 : w'.grownBy w2 (some r)) : RSt W w2 gr r k q b v' v2 L' H := by
  have hlt := h.lt
  have hle := h.rd.le
  have hrl := h.blk.lt
  have hB1 : Below (r + 1) w w' := Below.grown (Below.refl _ _) hG (by omega) (fun k hk => (h.two.one.lt k hk).1)
  have hB2 : Below r w' w2 := Below.grown (Below.refl _ _) hG2 (by have := hB1.size; omega) (fun k hk => by cases hk; omega)
  have hB : Below r w w2 := Below.trans (Below.mono hB1 (by omega)) hB2
  exact ⟨h.rd.below hB hlt, hW2, (h.two.grow hO hG hN).below hG2 (by omega), hlt, Below.trans h.ext (Below.mono hB (by omega))⟩
theorem RSt.high (h : RSt W w gr r k q b v1 v2 L H) (hO : OwnI w' (r + 1) v' L') (hG : w.grownBy w' v2.ownBlock) (hN : NewOb w v2.ownBlock v'.ownBlock) (hW2 : Whole w2 r 96 #[.pointer (some ⟨gr, 0, none⟩), .int .i64 (k : Int), v1, v']) (hG2 : w'.grownBy w2 (some r)) : RSt W w2 gr r k q b v1 v' L L' := by
  have hlt := h.lt
  have hle := h.rd.le
  have hrl := h.blk.lt
  have hB1 : Below (r + 1) w w' := Below.grown (Below.refl _ _) hG (by omega) (fun k hk => (h.two.two.lt k hk).1)
  have hB2 : Below r w' w2 := Below.grown (Below.refl _ _) hG2 (by have := hB1.size; omega) (fun k hk => by cases hk; omega)
  have hB : Below r w w2 := Below.trans (Below.mono hB1 (by omega)) hB2
  exact ⟨h.rd.below hB hlt, hW2, ((h.two.flip.grow hO hG hN).flip).below hG2 (by omega), hlt, Below.trans h.ext (Below.mono hB (by omega))⟩
end
/-- The low bits of n numbers. -/
def Ef.lowsOf (b : List UInt8) (k n : Nat) : List Int := (List.range n).map fun i => ((Bit.getNum b (i * k) (k : Int) : Nat) : Int)
theorem Ef.lowsOf_len (b : List UInt8) (k n : Nat) : (lowsOf b k n).length = n := by simp [lowsOf]
theorem Ef.lowsOf_succ (b : List UInt8) (k n : Nat) : lowsOf b k (n + 1) = lowsOf b k n ++ [((Bit.getNum b (n * k) (k : Int) : Nat) : Int)] := by
  unfold lowsOf
  rw [List.range_succ, List.map_append]
  rfl
theorem Ef.lowsOf_at (b : List UInt8) {k n i : Nat} (h : i < n) : (lowsOf b k n).getD i 0 = ((Bit.getNum b (i * k) (k : Int) : Nat) : Int) := by simp [lowsOf, List.getD_eq_getElem?_getD, h]
/-- What takeLow tells. -/
def LowsTo (W : World) (gr r k n : Nat) (b : List UInt8) (v2 : Value) (H : List Int) (e : Ending) (w' : World) : Prop :=
  (8 * b.length < n * k ∧ e = .returned (.int .i64 1) ∧ Ext W w') ∨ (n * k ≤ 8 * b.length ∧ e = .returned (.int .i64 0) ∧ ∃ A1 c1, RSt W w' gr r k (n * k) b (.slice A1 n c1) v2 (lowsOf b k n) H)

set_option maxHeartbeats 2000000 in
set_option maxRecDepth 10000 in
theorem takeLow_any {W w0 : World} {gr r k : Nat} {b : List UInt8} {v2 : Value} {H : List Int} (h : RSt W w0 gr r k 0 b (.slice none 0 0) v2 [] H) (n : Nat) (hn : n ≤ 20000) (hk : k ≤ 14) (hb : b.length ≤ 100000) :
    Calls Try.prog 60 #[.pointer (some ⟨r, 0, none⟩), .int .i64 (n : Int)] w0 (LowsTo W gr r k n b v2 H) := by
  have HB := hide hb
  have HS0 := hide h
  clear h hb
  go_enter Try.func60, Try.ntmps60
  go_wp2_with fail
  go_loopw [8] (fun x wr => ∃ i A1 c1 L, i ≤ n ∧ x = .int .i64 ((i : Nat) : Int) ∧ RSt W wr gr r k (i * k) b (.slice A1 L.length c1) v2 L H ∧ L = lowsOf b k i ∧ i * k ≤ 8 * b.length) (fun x _ => n - (intOf x).toNat)
  case atStart => exact ⟨0, none, 0, [], by omega, rfl, by rw [Nat.zero_mul]; exact HS0.out, rfl, by omega⟩
  case round =>
    clear HS0
    obtain ⟨i, A1, c1, L, hi, rfl, hS, hL, hik⟩ := hrel
    have HL := hide hL
    have HLen := hide (show L.length = i by rw [hL]; exact lowsOf_len _ _ _)
    clear hL
    by_cases hlt : i < n
    · have hiI : (i : Int) < (n : Int) := by omega
      have CG := get_any (hS.later (Ext.refl wr).drew).rd (k : Int)
      have hx2 := Bit.getNum_lt b (i * k) k
      have hpw : (2 : Nat) ^ k ≤ 2 ^ 14 := Nat.pow_le_pow_right (by omega) hk
      have HLS := hide (lowsOf_succ b k i)
      have hxs : Bit.getNum b (i * k) (k : Int) < 16384 := by omega
      have HNo := hide (show ¬ k ≤ 8 * b.length - i * k → Bit.getErr (8 * b.length - i * k) (k : Int) = 1 ∧ 8 * b.length < n * k from fun h => by
        refine ⟨by unfold Bit.getErr; rw [if_pos ⟨by omega, by omega⟩, if_neg (by omega)], ?_⟩
        have h1 : (i + 1) * k ≤ n * k := Nat.mul_le_mul_right k hlt
        rw [Nat.succ_mul] at h1
        omega)
      have HYes := hide (show k ≤ 8 * b.length - i * k → Bit.getErr (8 * b.length - i * k) (k : Int) = 0 ∧ Bit.getTo (8 * b.length - i * k) (i * k) (k : Int) = (i + 1) * k ∧ (i + 1) * k ≤ 8 * b.length from fun h => by
        have h1 : Bit.getErr (8 * b.length - i * k) (k : Int) = 0 := by unfold Bit.getErr; rw [if_pos ⟨by omega, by omega⟩, if_pos (by omega)]
        refine ⟨h1, by unfold Bit.getTo; rw [if_pos h1, Int.toNat_natCast, Nat.succ_mul], by rw [Nat.succ_mul]; omega⟩)
      generalize Bit.getNum b (i * k) (k : Int) = x at *
      generalize Bit.getErr (8 * b.length - i * k) (k : Int) = E at *
      generalize Bit.getTo (8 * b.length - i * k) (i * k) (k : Int) = q' at *
      have hblk := hS.blk
      have HIK := hide hik
      clear hx2 hpw hik
      go_wp2_with fail
      refine wp_region_T (fun W => Whole W r 96 #[.pointer (some ⟨gr, 0, none⟩), .int .i64 (k : Int), .slice A1 L.length c1, v2]) 9 15 #[false, false, false, false, false, false, false, false, false, false, false, false, false, false, false] (by kernel_rfl) rfl rfl hS.blk ?_
      intro hS0
      refine wpAnyT_take 0 (some 11) (.pointer (some ⟨r, 0, none⟩)) #[true, false, false, false, false, false, false, false, false, false, false, false, false, false, false] rfl rfl rfl (by kernel_rfl) (fun _ _ _ h => h) hS0 (by rfl) (fun W hX => by have s0 := hX.at 0 (u := .pointer (some ⟨gr, 0, none⟩)) rfl; have s1 := hX.at 1 (u := .int .i64 (k : Int)) rfl; go_simp) ?_
      simp only [Act.put, List.setIfInBounds_toArray, List.set_cons_zero, List.set_cons_succ]
      refine wpAnyT_take 1 (some 12) (.pointer (some ⟨r, 0, none⟩)) #[true, true, false, false, false, false, false, false, false, false, false, false, false, false, false] rfl rfl rfl (by kernel_rfl) (fun _ _ _ h => h) hS0 (by rfl) (fun W hX => by have s0 := hX.at 0 (u := .pointer (some ⟨gr, 0, none⟩)) rfl; have s1 := hX.at 1 (u := .int .i64 (k : Int)) rfl; go_simp) ?_
      simp only [Act.put, List.setIfInBounds_toArray, List.set_cons_zero, List.set_cons_succ]
      refine wpAnyT_take 2 (some 13) (.pointer (some ⟨r, 0, none⟩)) #[true, true, true, false, false, false, false, false, false, false, false, false, false, false, false] rfl rfl rfl (by kernel_rfl) (fun _ _ _ h => h) hS0 (by rfl) (fun W hX => by have s0 := hX.at 0 (u := .pointer (some ⟨gr, 0, none⟩)) rfl; have s1 := hX.at 1 (u := .int .i64 (k : Int)) rfl; go_simp) ?_
      simp only [Act.put, List.setIfInBounds_toArray, List.set_cons_zero, List.set_cons_succ]
      refine wpAnyT_take 3 (some 14) (.pointer (some ⟨gr, 0, none⟩)) #[true, true, true, true, false, false, false, false, false, false, false, false, false, false, false] rfl rfl rfl (by kernel_rfl) (fun _ _ _ h => h) hS0 (by rfl) (fun W hX => by have s0 := hX.at 0 (u := .pointer (some ⟨gr, 0, none⟩)) rfl; have s1 := hX.at 1 (u := .int .i64 (k : Int)) rfl; go_simp) ?_
      simp only [Act.put, List.setIfInBounds_toArray, List.set_cons_zero, List.set_cons_succ]
      refine wpAnyT_take 4 (some 15) (.pointer (some ⟨r, 0, none⟩)) #[true, true, true, true, true, false, false, false, false, false, false, false, false, false, false] rfl rfl rfl (by kernel_rfl) (fun _ _ _ h => h) hS0 (by rfl) (fun W hX => by have s0 := hX.at 0 (u := .pointer (some ⟨gr, 0, none⟩)) rfl; have s1 := hX.at 1 (u := .int .i64 (k : Int)) rfl; go_simp) ?_
      simp only [Act.put, List.setIfInBounds_toArray, List.set_cons_zero, List.set_cons_succ]
      refine wpAnyT_take 5 (some 16) (.pointer (some ⟨r, 0, none⟩)) #[true, true, true, true, true, true, false, false, false, false, false, false, false, false, false] rfl rfl rfl (by kernel_rfl) (fun _ _ _ h => h) hS0 (by rfl) (fun W hX => by have s0 := hX.at 0 (u := .pointer (some ⟨gr, 0, none⟩)) rfl; have s1 := hX.at 1 (u := .int .i64 (k : Int)) rfl; go_simp) ?_
      simp only [Act.put, List.setIfInBounds_toArray, List.set_cons_zero, List.set_cons_succ]
      refine wpAnyT_take 6 (some 17) (.pointer (some ⟨r, 1, none⟩)) #[true, true, true, true, true, true, true, false, false, false, false, false, false, false, false] rfl rfl rfl (by kernel_rfl) (fun _ _ _ h => h) hS0 (by rfl) (fun W hX => by have s0 := hX.at 0 (u := .pointer (some ⟨gr, 0, none⟩)) rfl; have s1 := hX.at 1 (u := .int .i64 (k : Int)) rfl; go_simp) ?_
      simp only [Act.put, List.setIfInBounds_toArray, List.set_cons_zero, List.set_cons_succ]
      refine wpAnyT_take 7 (some 18) (.pointer (some ⟨r, 1, none⟩)) #[true, true, true, true, true, true, true, true, false, false, false, false, false, false, false] rfl rfl rfl (by kernel_rfl) (fun _ _ _ h => h) hS0 (by rfl) (fun W hX => by have s0 := hX.at 0 (u := .pointer (some ⟨gr, 0, none⟩)) rfl; have s1 := hX.at 1 (u := .int .i64 (k : Int)) rfl; go_simp) ?_
      simp only [Act.put, List.setIfInBounds_toArray, List.set_cons_zero, List.set_cons_succ]
      refine wpAnyT_take 8 (some 19) (.int .i64 (k : Int)) #[true, true, true, true, true, true, true, true, true, false, false, false, false, false, false] rfl rfl rfl (by kernel_rfl) (fun _ _ _ h => h) hS0 (by rfl) (fun W hX => by have s0 := hX.at 0 (u := .pointer (some ⟨gr, 0, none⟩)) rfl; have s1 := hX.at 1 (u := .int .i64 (k : Int)) rfl; go_simp) ?_
      simp only [Act.put, List.setIfInBounds_toArray, List.set_cons_zero, List.set_cons_succ]
      refine wpAnyT_only 9 #[true, true, true, true, true, true, true, true, true, true, false, false, false, false, false] (by kernel_rfl) rfl rfl (by rfl) (fun K0 hK0 => ?_)
      go_simp
      go_at_call 65
      refine CG.mono ?_
      rintro e wg ⟨rfl, hRg, hMg⟩
      refine hK0 _ _ (fun h => absurd h (by decide)) ?_
      clear hK0 K0
      refine wpAnyT_pure 10 (some 10) (.tuple #[.int .u64 (x : Int), .int .i64 E]) #[true, true, true, true, true, true, true, true, true, true, true, false, false, false, false] rfl rfl rfl (by kernel_rfl) (fun _ _ _ h => h) (fun h => absurd h (by decide)) (by rfl) (fun W => by go_simp) ?_
      simp only [Act.put, List.setIfInBounds_toArray, List.set_cons_zero, List.set_cons_succ]
      refine wpAnyT_pure 11 (some 21) (.int .u64 (x : Int)) #[true, true, true, true, true, true, true, true, true, true, true, true, false, false, false] rfl rfl rfl (by kernel_rfl) (fun _ _ _ h => h) (fun h => absurd h (by decide)) (by rfl) (fun W => by go_simp) ?_
      simp only [Act.put, List.setIfInBounds_toArray, List.set_cons_zero, List.set_cons_succ]
      refine wpAnyT_pure 12 (some 22) (.int .i64 E) #[true, true, true, true, true, true, true, true, true, true, true, true, true, false, false] rfl rfl rfl (by kernel_rfl) (fun _ _ _ h => h) (fun h => absurd h (by decide)) (by rfl) (fun W => by go_simp) ?_
      simp only [Act.put, List.setIfInBounds_toArray, List.set_cons_zero, List.set_cons_succ]
      refine wpAnyT_only 13 #[true, true, true, true, true, true, true, true, true, true, true, true, true, true, false] (by kernel_rfl) rfl rfl (by rfl) (fun K1 hK1 => ?_)
      go_simp
      refine hK1 _ _ (fun h => absurd h (by decide)) ?_
      clear hK1 K1
      refine wpAnyT_only 14 #[true, true, true, true, true, true, true, true, true, true, true, true, true, true, true] (by kernel_rfl) rfl rfl (by rfl) (fun K2 hK2 => ?_)
      go_simp
      refine hK2 _ _ (fun h => absurd h (by decide)) (wpAnyT_done (by kernel_rfl) ?_ _)
      clear hK2 K2
      have hSg := (hS.later (Ext.refl wr).drew).get hRg hMg
      clear CG hRg hMg hS0 hblk hS
      by_cases hE : E = 0
      case neg =>
        have hEb : (E != 0) = true := by rw [bne_iff_ne]; exact hE
        have HF := hide (show E = 1 ∧ 8 * b.length < n * k from HNo.out (fun h => hE (HYes.out h).1))
        have HX := hide hSg.ext
        clear HNo HYes hSg hE
        go_wp2
        go_ret
        exact .inl ⟨HF.out.2, by rw [HF.out.1]; rfl, HX.out⟩
      subst hE
      have HY := hide (HYes.out (Decidable.byContradiction fun h => by have := (HNo.out h).1; omega))
      have hq' := HY.out.2.1
      subst hq'
      have hxw : IntKind.i64.wrap (x : Int) = (x : Int) := wrapI64 (x : Int) (by omega) (by omega)
      have p2 := hSg.blk.at 2 (u := .slice A1 L.length c1) rfl
      have hEx := extNew wg (.cells #[.int .i64 (x : Int)] 3)
      have hSx := hSg.later hEx
      have hcx := (Whole.new wg 3 #[.int .i64 (x : Int)]).at 0 (u := .int .i64 (x : Int)) rfl
      have hOx := hSx.two.one
      have hle : r + 1 ≤ (wg.alloc (.cells #[.int .i64 (x : Int)] 3)).heap.size := by have := hSx.blk.lt; omega
      have hLm : L.length ≤ 1000000 := by rw [HLen.out]; omega
      have HSx := hide hSx
      have HBk := hide hSx.blk
      have hne := hSx.two.ne1 (g := r) (by omega)
      obtain ⟨L2, hL2⟩ : ∃ Z, Z = L ++ [(x : Int)] := ⟨_, rfl⟩
      have HL2 := hide hL2
      clear hL2 HNo HYes hSg hSx hEx
      go_wp2_with (first
        | (at_builtin; refine wpList_appIN rfl (.tmp 31) (.tmp 34) rfl rfl hOx rfl hcx hLm hle ?_; intro vn wa hO hG hN; rw [← HL2.out] at hO; have hWa := HBk.out.ownGrown hG hne; have HSl := hide (fun w2 => HSx.out.low (w2 := w2) hO hG hN); obtain ⟨A3, c3, hvn, -, -⟩ := hO.form; subst hvn; clear hO hG hN hcx hOx)
        | (refine wpList_storeC rfl 22 (.tmp 38) (.tmp 35) rfl #[.pointer (some ⟨gr, 0, none⟩), .int .i64 (k : Int), .slice A3 L2.length c3, v2] rfl rfl hWa (by simp) (by kernel_rfl) rfl rfl rfl ?_; intro ws hWs hGs; have hSs := HSl.out ws hWs hGs; clear hWs hGs HSl hWa))
      exact ⟨⟨i + 1, A3, c3, L2, by omega, by go_num, hSs, by rw [HL2.out, HLS.out, HL.out], HY.out.2.2⟩, by simp [intOf]; omega⟩
    · obtain rfl : n = i := by omega
      have HS := hide hS
      clear hS
      go_wp2
      go_ret
      refine .inr ⟨hik, rfl, A1, c1, ?_⟩
      have h1 := HS.out
      rw [HLen.out, HL.out] at h1
      exact h1

theorem Bit.val_none {f : Nat → Bool} {n : Nat} : Bit.val f n = 0 ↔ ∀ i, i < n → f i = false := by
  constructor
  · intro h i hi
    have := Bit.val_testBit f n i hi
    rw [h, Nat.zero_testBit] at this
    exact this.symm
  · intro h
    rw [Bit.val_congr (g := fun _ => false) n h, Bit.val_zero]
/-- What fill tells. -/
def FillTo (W : World) (gr r k q : Nat) (b : List UInt8) (v1 v2 : Value) (L H : List Int) (e : Ending) (w' : World) : Prop :=
  (padZ b q = true ∧ e = .returned (.int .i64 0) ∧ RSt W w' gr r k (8 * ((q + 7) / 8)) b v1 v2 L H) ∨ (padZ b q = false ∧ e = .returned (.int .i64 2) ∧ Ext W w')

set_option maxHeartbeats 2000000 in
set_option maxRecDepth 10000 in
theorem fill_any {W w0 : World} {gr r k q : Nat} {b : List UInt8} {v1 v2 : Value} {L H : List Int} (hS : RSt W w0 gr r k q b v1 v2 L H) (hq : q ≤ 8 * b.length) :
    Calls Try.prog 62 #[.pointer (some ⟨r, 0, none⟩)] w0 (FillTo W gr r k q b v1 v2 L H) := by
  obtain ⟨m, hm⟩ : ∃ m, m = (8 * b.length - q) % 8 := ⟨_, rfl⟩
  have hm7 : m < 8 := by omega
  have hmq : m = (8 - q % 8) % 8 := by omega
  have hrd := hS.rd
  have hle8 := hrd.cells.2.2.2
  have HG1 := hide (show Bit.getErr (8 * b.length - q) (m : Int) = 0 by unfold Bit.getErr; rw [if_pos ⟨by omega, by omega⟩, if_pos (by omega)])
  obtain ⟨x, hx⟩ : ∃ x, x = Bit.getNum b q (m : Int) := ⟨_, rfl⟩
  have HG2 := hide hx.symm
  have HG3 := hide (show Bit.getTo (8 * b.length - q) q (m : Int) = 8 * ((q + 7) / 8) by unfold Bit.getTo; rw [if_pos HG1.out, Int.toNat_natCast]; omega)
  have HPad := hide (show x = 0 ↔ padZ b q = true by
    have e : x = Bit.val (Bit.rest b q) m := by rw [hx]; unfold Bit.getNum; rw [if_pos HG1.out, Int.toNat_natCast]
    rw [e, Bit.val_none, hmq]
    unfold padZ Bit.rest
    rw [decide_eq_true_iff])
  have hxb : x < 18446744073709551616 := by
    have h1 := Bit.getNum_lt b q m
    have h2 : (2 : Nat) ^ m ≤ 2 ^ 8 := Nat.pow_le_pow_right (by omega) (by omega)
    omega
  have htm : ((8 * b.length - q : Nat) : Int).tmod 8 = (m : Int) := by rw [Int.tmod_eq_emod_of_nonneg (by omega)]; omega
  have hDm : 8 * b.length - q ≤ 8000000 := by omega
  have CL := left_any (hrd.ext (Ext.refl w0).drew)
  have hRd := hrd.ext (Ext.refl w0).drew
  have hblk := hS.blk
  have HS := hide hS
  obtain ⟨D, hD⟩ : ∃ D, D = 8 * b.length - q := ⟨_, rfl⟩
  rw [← hD] at CL htm hDm
  clear hx hm hmq hq hle8 hrd hS hD
  go_enter Try.func62, Try.ntmps62
  go_wp2_with fail
  refine wp_region_T (fun W => Whole W r 96 #[.pointer (some ⟨gr, 0, none⟩), .int .i64 (k : Int), v1, v2]) 10 16 #[false, false, false, false, false, false, false, false, false, false, false, false, false, false, false, false] (by kernel_rfl) rfl rfl hblk ?_
  intro hS0
  refine wpAnyT_take 0 (some 6) (.pointer (some ⟨r, 0, none⟩)) #[true, false, false, false, false, false, false, false, false, false, false, false, false, false, false, false] rfl rfl rfl (by kernel_rfl) (fun _ _ _ h => h) hS0 (by rfl) (fun W hX => by have s0 := hX.at 0 (u := .pointer (some ⟨gr, 0, none⟩)) rfl; have s1 := hX.at 1 (u := .int .i64 (k : Int)) rfl; go_simp) ?_
  simp only [Act.put, List.setIfInBounds_toArray, List.set_cons_zero, List.set_cons_succ]
  refine wpAnyT_take 1 (some 7) (.pointer (some ⟨r, 0, none⟩)) #[true, true, false, false, false, false, false, false, false, false, false, false, false, false, false, false] rfl rfl rfl (by kernel_rfl) (fun _ _ _ h => h) hS0 (by rfl) (fun W hX => by have s0 := hX.at 0 (u := .pointer (some ⟨gr, 0, none⟩)) rfl; have s1 := hX.at 1 (u := .int .i64 (k : Int)) rfl; go_simp) ?_
  simp only [Act.put, List.setIfInBounds_toArray, List.set_cons_zero, List.set_cons_succ]
  refine wpAnyT_take 2 (some 8) (.pointer (some ⟨r, 0, none⟩)) #[true, true, true, false, false, false, false, false, false, false, false, false, false, false, false, false] rfl rfl rfl (by kernel_rfl) (fun _ _ _ h => h) hS0 (by rfl) (fun W hX => by have s0 := hX.at 0 (u := .pointer (some ⟨gr, 0, none⟩)) rfl; have s1 := hX.at 1 (u := .int .i64 (k : Int)) rfl; go_simp) ?_
  simp only [Act.put, List.setIfInBounds_toArray, List.set_cons_zero, List.set_cons_succ]
  refine wpAnyT_take 3 (some 9) (.pointer (some ⟨gr, 0, none⟩)) #[true, true, true, true, false, false, false, false, false, false, false, false, false, false, false, false] rfl rfl rfl (by kernel_rfl) (fun _ _ _ h => h) hS0 (by rfl) (fun W hX => by have s0 := hX.at 0 (u := .pointer (some ⟨gr, 0, none⟩)) rfl; have s1 := hX.at 1 (u := .int .i64 (k : Int)) rfl; go_simp) ?_
  simp only [Act.put, List.setIfInBounds_toArray, List.set_cons_zero, List.set_cons_succ]
  refine wpAnyT_take 4 (some 10) (.pointer (some ⟨r, 0, none⟩)) #[true, true, true, true, true, false, false, false, false, false, false, false, false, false, false, false] rfl rfl rfl (by kernel_rfl) (fun _ _ _ h => h) hS0 (by rfl) (fun W hX => by have s0 := hX.at 0 (u := .pointer (some ⟨gr, 0, none⟩)) rfl; have s1 := hX.at 1 (u := .int .i64 (k : Int)) rfl; go_simp) ?_
  simp only [Act.put, List.setIfInBounds_toArray, List.set_cons_zero, List.set_cons_succ]
  refine wpAnyT_take 5 (some 11) (.pointer (some ⟨r, 0, none⟩)) #[true, true, true, true, true, true, false, false, false, false, false, false, false, false, false, false] rfl rfl rfl (by kernel_rfl) (fun _ _ _ h => h) hS0 (by rfl) (fun W hX => by have s0 := hX.at 0 (u := .pointer (some ⟨gr, 0, none⟩)) rfl; have s1 := hX.at 1 (u := .int .i64 (k : Int)) rfl; go_simp) ?_
  simp only [Act.put, List.setIfInBounds_toArray, List.set_cons_zero, List.set_cons_succ]
  refine wpAnyT_take 6 (some 12) (.pointer (some ⟨r, 0, none⟩)) #[true, true, true, true, true, true, true, false, false, false, false, false, false, false, false, false] rfl rfl rfl (by kernel_rfl) (fun _ _ _ h => h) hS0 (by rfl) (fun W hX => by have s0 := hX.at 0 (u := .pointer (some ⟨gr, 0, none⟩)) rfl; have s1 := hX.at 1 (u := .int .i64 (k : Int)) rfl; go_simp) ?_
  simp only [Act.put, List.setIfInBounds_toArray, List.set_cons_zero, List.set_cons_succ]
  refine wpAnyT_take 7 (some 13) (.pointer (some ⟨gr, 0, none⟩)) #[true, true, true, true, true, true, true, true, false, false, false, false, false, false, false, false] rfl rfl rfl (by kernel_rfl) (fun _ _ _ h => h) hS0 (by rfl) (fun W hX => by have s0 := hX.at 0 (u := .pointer (some ⟨gr, 0, none⟩)) rfl; have s1 := hX.at 1 (u := .int .i64 (k : Int)) rfl; go_simp) ?_
  simp only [Act.put, List.setIfInBounds_toArray, List.set_cons_zero, List.set_cons_succ]
  refine wpAnyT_only 8 #[true, true, true, true, true, true, true, true, true, false, false, false, false, false, false, false] (by kernel_rfl) rfl rfl (by rfl) (fun K0 hK0 => ?_)
  go_simp
  go_at_call 63
  refine CL.mono ?_
  rintro e wl ⟨rfl, hQl⟩
  have hSl := hS0.ext hQl.ext
  have hRl := hRd.ext hQl.ext
  have CG := get_any hRl (m : Int)
  rw [HG1.out, HG2.out, HG3.out] at CG
  clear CL
  refine hK0 _ _ (fun _ => hSl) ?_
  clear hK0 K0
  refine wpAnyT_take 9 (some 15) (.int .i64 (m : Int)) #[true, true, true, true, true, true, true, true, true, true, false, false, false, false, false, false] rfl rfl rfl (by kernel_rfl) (fun _ _ _ h => h) hSl (by rfl) (fun W hX => by have s0 := hX.at 0 (u := .pointer (some ⟨gr, 0, none⟩)) rfl; have s1 := hX.at 1 (u := .int .i64 (k : Int)) rfl; go_simp) ?_
  simp only [Act.put, List.setIfInBounds_toArray, List.set_cons_zero, List.set_cons_succ]
  refine wpAnyT_only 10 #[true, true, true, true, true, true, true, true, true, true, true, false, false, false, false, false] (by kernel_rfl) rfl rfl (by rfl) (fun K1 hK1 => ?_)
  go_simp
  go_at_call 65
  refine CG.mono ?_
  rintro e wg ⟨rfl, hRg, hMg⟩
  refine hK1 _ _ (fun h => absurd h (by decide)) ?_
  clear hK1 K1
  refine wpAnyT_pure 11 (some 5) (.tuple #[.int .u64 (x : Int), .int .i64 0]) #[true, true, true, true, true, true, true, true, true, true, true, true, false, false, false, false] rfl rfl rfl (by kernel_rfl) (fun _ _ _ h => h) (fun h => absurd h (by decide)) (by rfl) (fun W => by go_simp) ?_
  simp only [Act.put, List.setIfInBounds_toArray, List.set_cons_zero, List.set_cons_succ]
  refine wpAnyT_pure 12 (some 17) (.int .u64 (x : Int)) #[true, true, true, true, true, true, true, true, true, true, true, true, true, false, false, false] rfl rfl rfl (by kernel_rfl) (fun _ _ _ h => h) (fun h => absurd h (by decide)) (by rfl) (fun W => by go_simp) ?_
  simp only [Act.put, List.setIfInBounds_toArray, List.set_cons_zero, List.set_cons_succ]
  refine wpAnyT_pure 13 (some 18) (.int .i64 0) #[true, true, true, true, true, true, true, true, true, true, true, true, true, true, false, false] rfl rfl rfl (by kernel_rfl) (fun _ _ _ h => h) (fun h => absurd h (by decide)) (by rfl) (fun W => by go_simp) ?_
  simp only [Act.put, List.setIfInBounds_toArray, List.set_cons_zero, List.set_cons_succ]
  refine wpAnyT_only 14 #[true, true, true, true, true, true, true, true, true, true, true, true, true, true, true, false] (by kernel_rfl) rfl rfl (by rfl) (fun K2 hK2 => ?_)
  go_simp
  refine hK2 _ _ (fun h => absurd h (by decide)) ?_
  clear hK2 K2
  refine wpAnyT_only 15 #[true, true, true, true, true, true, true, true, true, true, true, true, true, true, true, true] (by kernel_rfl) rfl rfl (by rfl) (fun K3 hK3 => ?_)
  go_simp
  refine hK3 _ _ (fun h => absurd h (by decide)) (wpAnyT_done (by kernel_rfl) ?_ _)
  clear hK3 K3
  have hSg := (((HS.out.later (Ext.refl w0).drew).later hQl.ext).get hRg hMg)
  have HSg := hide hSg
  clear hS0 hSl hRd hRl hQl CG hRg hMg hblk hSg HG1 HG2 HG3
  by_cases h0 : x = 0
  · have hxe : ((x : Int) != 0) = false := by subst h0; rfl
    have HP := hide (HPad.out.1 h0)
    clear h0 HPad
    go_wp2
    go_ret
    exact .inl ⟨HP.out, rfl, HSg.out⟩
  · have hxe : ((x : Int) != 0) = true := by rw [bne_iff_ne]; omega
    have HP := hide (show padZ b q = false by
      cases hp : padZ b q with
      | false => rfl
      | true => exact absurd (HPad.out.2 hp) h0)
    clear h0 HPad
    go_wp2
    go_ret
    exact .inr ⟨HP.out, rfl, HSg.out.ext⟩
end Go.Proofs.Ytdpeidijaohgcaa

namespace Go.Proofs.Ytdpeidijaohgcaa
open Go.RowKit Num Ef

theorem RSt.range {W w : World} {gr r k q : Nat} {b : List UInt8} {v1 v2 : Value} {L H : List Int} (h : RSt W w gr r k q b v1 v2 L H) : w.rangeAt r 1 [.int .i64 (k : Int), v1, v2] := by
  intro j v hv
  match j, hv with
  | 0, hv => exact h.blk.at 1 hv
  | 1, hv => exact h.blk.at 2 hv
  | 2, hv => exact h.blk.at 3 hv
  | j + 3, hv => simp at hv
theorem parts_infoL (a b c : Value) : (Try.prog.info? 51).map (·.size) = some [a, b, c].length := parts_info
/-- What takeHigh tells. -/
def HighsTo (W : World) (gr r k n : Nat) (b : List UInt8) (v1 : Value) (L : List Int) (R : List Int × Nat × Int) (e : Ending) (w' : World) : Prop :=
  (R.2.2 ≠ 0 ∧ e = .returned (.int .i64 R.2.2) ∧ Ext W w') ∨
  (R.2.2 = 0 ∧ e = .returned (.int .i64 0) ∧ ∃ A2 c2 H, RSt W w' gr r k R.2.1 b v1 (.slice A2 n c2) L H ∧ Ef.Parts k R.1 L H ∧ H.length = n ∧ R.2.1 ≤ 8 * b.length)
theorem Ef.ahead_iff {out : List Int} {id : Nat} : (id : Int) ≤ aheadOf out out.length ↔ 0 < out.length ∧ (id : Int) ≤ out.getD (out.length - 1) 0 := by
  unfold aheadOf
  by_cases h : out.length = 0
  · rw [if_pos h, h]
    constructor
    · intro h; omega
    · intro h; exact absurd h.1 (by omega)
  · rw [if_neg h]
    exact ⟨fun h2 => ⟨by omega, h2⟩, fun h2 => h2.2⟩
theorem Ef.ahead_snoc (out : List Int) (x : Int) : aheadOf (out ++ [x]) (out.length + 1) = x := by
  rw [aheadOf_succ, getD_last]

set_option maxHeartbeats 4000000 in
set_option maxRecDepth 10000 in
theorem takeHigh_any {W w0 : World} {gr r k : Nat} {b : List UInt8} {A1 : Option Addr} {c1 n : Nat} (hS : RSt W w0 gr r k (n * k) b (.slice A1 n c1) (.slice none 0 0) (lowsOf b k n) []) (bound : Int) (hn : n ≤ 20000) (hk : k ≤ 14) (hb : b.length ≤ 100000) (hnk : n * k ≤ 8 * b.length) :
    Calls Try.prog 61 #[.pointer (some ⟨r, 0, none⟩), .int .i64 bound, .int .i64 (n : Int)] w0 (HighsTo W gr r k n b (.slice A1 n c1) (lowsOf b k n) (readH b k bound n (n * k) 0 [])) := by
  have HL0 := hide (lowsOf_len b k n)
  have HLat := hide (fun (i : Nat) (hi : i < n) => (⟨lowsOf_at b (k := k) hi, Bit.getNum_lt b (i * k) k⟩ : (lowsOf b k n).getD i 0 = ((Bit.getNum b (i * k) (k : Int) : Nat) : Int) ∧ Bit.getNum b (i * k) (k : Int) < 2 ^ k))
  generalize lowsOf b k n = L at *
  obtain ⟨R, hR⟩ : ∃ R, R = readH b k bound n (n * k) 0 [] := ⟨_, rfl⟩
  rw [← hR]
  have HB := hide hb
  have HR0 := hide hR
  have HS0 := hide hS
  have HNK := hide hnk
  clear hS hb hR hnk
  go_enter Try.func61, Try.ntmps61
  go_wp2_with fail
  go_loopw [14, 7, 8] (fun x y z wr => ∃ (i h p : Nat) (A2 : Option Addr) (c2 : Nat) (H out : List Int), i ≤ n ∧ x = .int .i64 (i : Int) ∧ y = .int .i64 (h : Int) ∧ z = .int .i64 (aheadOf out out.length) ∧ RSt W wr gr r k p b (.slice A1 n c1) (.slice A2 H.length c2) L H ∧ Ef.Parts k out L H ∧ out.length = i ∧ p ≤ 8 * b.length ∧ h ≤ p ∧ R = readH b k bound (n - i) p h out) (fun x _ _ _ => n - (intOf x).toNat)
  case atStart => exact ⟨0, 0, n * k, none, 0, [], [], by omega, rfl, rfl, rfl, HS0.out, Parts.nil hk L, rfl, HNK.out, by omega, HR0.out⟩
  case round =>
    clear HS0 HR0 HNK
    obtain ⟨i, h, p, A2, c2, H, out, hi, rfl, rfl, rfl, hS, hP, hol, hp, hhp, hR⟩ := hrel
    have HP := hide hP
    have HOl := hide hol
    have HRd := hide hR
    have HPp := hide hp
    have HHl := hide (show H.length = i by rw [← hP.2.1, hol])
    clear hP hol hR hp
    by_cases hlt : i < n
    · have hiI : (i : Int) < (n : Int) := by omega
      have CU := runary_any hS.rd
      have p0 := hS.blk.at 0 (u := .pointer (some ⟨gr, 0, none⟩)) rfl
      have HNext := hide (show readH b k bound (n - i) p h out = readH b k bound (n - i - 1 + 1) p h out by rw [show n - i - 1 + 1 = n - i by omega])
      have HBad := hide (show Bit.unErr b p ≠ 0 → Bit.unErr b p = 1 ∧ R = ([], p, 1) from fun h => by
        refine ⟨by unfold Bit.unErr at h ⊢; split at h <;> rename_i h9 <;> simp_all, ?_⟩
        rw [HRd.out, HNext.out, readH, if_pos h])
      have HUn := hide (fun h => Bit.un_sub (l := b) (q := p) h)
      obtain ⟨hLi, hLx⟩ := HLat.out i hlt
      have HGo := hide (show Bit.unErr b p = 0 → R = (if 0 < out.length ∧ (((h + Bit.unNum b p) * 2 ^ k + Bit.getNum b (i * k) (k : Int) : Nat) : Int) ≤ out.getD (out.length - 1) 0 then ([], p, 2)
          else if bound ≤ (((h + Bit.unNum b p) * 2 ^ k + Bit.getNum b (i * k) (k : Int) : Nat) : Int) then ([], p, 8)
          else readH b k bound (n - i - 1) (Bit.unTo b p) (h + Bit.unNum b p) (out ++ [(((h + Bit.unNum b p) * 2 ^ k + Bit.getNum b (i * k) (k : Int) : Nat) : Int)])) from fun h => by
        rw [HRd.out, HNext.out, readH, if_neg (by rw [h]; simp), HOl.out])
      have HX := hide (And.intro hLi hLx)
      clear hLi hLx HNext HRd
      generalize Bit.getNum b (i * k) (k : Int) = x at *
      generalize Bit.unNum b p = u at *
      generalize Bit.unErr b p = E at *
      generalize Bit.unTo b p = p' at *
      have HS := hide hS
      have HHp := hide hhp
      clear hS hhp
      go_wp2_with fail
      refine CU.mono ?_
      rintro e wg ⟨rfl, hRg, hMg⟩
      have hSg := HS.out.get hRg hMg
      clear CU hRg hMg p0 HS
      by_cases hE : E = 0
      case neg =>
        have hEb : (E != 0) = true := by rw [bne_iff_ne]; exact hE
        have HF := hide (HBad.out hE)
        have HX2 := hide hSg.ext
        clear HBad HUn HGo hSg hE
        go_wp2
        go_ret
        exact .inl (by rw [HF.out.2, HF.out.1]; exact ⟨by simp, rfl, HX2.out⟩)
      subst hE
      have HU2 := hide (HUn.out rfl)
      have HG2 := hide (HGo.out rfl)
      have hhm : h + u ≤ 800000 := by
        have h1 := HU2.out.1
        have h2 := HU2.out.2.1
        have h3 := HHp.out
        have h4 := HB.out
        omega
      clear HBad HUn HGo
      obtain ⟨h', hh'⟩ : ∃ h', h' = h + u := ⟨_, rfl⟩
      have hhI : (h : Int) + (u : Int) = (h' : Int) := by omega
      rw [← hh'] at HG2 hhm
      obtain ⟨id, hid⟩ : ∃ id, id = h' * 2 ^ k + x := ⟨_, rfl⟩
      rw [← hid] at HG2
      have HId := hide hid
      have HHh := hide hh'
      have p3 := hSg.blk.at 3 (u := .slice A2 H.length c2) rfl
      have hEx := extNew wg (.cells #[.int .i64 (h' : Int)] 3)
      have hSx := hSg.later hEx
      have hcx := (Whole.new wg 3 #[.int .i64 (h' : Int)]).at 0 (u := .int .i64 (h' : Int)) rfl
      have hOx := hSx.two.two
      have hle : r + 1 ≤ (wg.alloc (.cells #[.int .i64 (h' : Int)] 3)).heap.size := by have := hSx.blk.lt; omega
      have hLm : H.length ≤ 1000000 := by rw [HHl.out]; omega
      have HSx := hide hSx
      have HBk := hide hSx.blk
      have hne := hSx.two.ne2 (g := r) (by omega)
      obtain ⟨H2, hH2⟩ : ∃ Z, Z = H ++ [(h' : Int)] := ⟨_, rfl⟩
      have HH2 := hide hH2
      have hbig : h + u ≤ 800000 := by omega
      clear hH2 hSg hSx hEx hid hh'
      go_wp2_with (first
        | (at_builtin; refine wpList_appIN rfl (.tmp 36) (.tmp 38) rfl rfl hOx rfl hcx hLm hle ?_; intro vn wa hO hG hN; rw [← HH2.out] at hO; have hWa := HBk.out.ownGrown hG hne; have HSl := hide (fun w2 => HSx.out.high (w2 := w2) hO hG hN); obtain ⟨A3, c3, hvn, -, -⟩ := hO.form; subst hvn; clear hO hG hN hcx hOx)
        | (refine wpList_storeC rfl 22 (.tmp 42) (.tmp 39) rfl #[.pointer (some ⟨gr, 0, none⟩), .int .i64 (k : Int), .slice A1 n c1, .slice A3 H2.length c3] rfl rfl hWa (by simp) (by kernel_rfl) rfl rfl rfl ?_; intro ws hWs hGs; have hSs := HSl.out ws hWs hGs; clear hWs hGs HSl hWa)
        | (refine wpList_load_mid rfl 51 (.tmp 45) rfl r 1 rfl [.int .i64 (k : Int), .slice A1 n c1, .slice A3 H2.length c3] _ hSs.range Try.underlying51 rfl (parts_infoL ..) ?_))
      have i1 := hSs.two.one.at
      have i2 := hSs.two.two.at
      rw [HL0.out] at i1
      have HP2 := hide (show Ef.Parts k (out ++ [(id : Int)]) L H2 by
        rw [HH2.out, HId.out]
        exact HP.out.high (by rw [HOl.out, HL0.out]; exact hlt) (by rw [HOl.out]; exact HX.out.1) HX.out.2 (by omega))
      have C3 := efNumber_any (c1 := c1) (c2 := c3) (w := ws) (i := i) (k := k) (A1 := A1) (n1 := n) (A2 := A3) (n2 := H2.length) (ids := out ++ [(id : Int)]) ⟨⟨L, H2, i1, i2, HP2.out⟩⟩ (by rw [List.length_append, HOl.out]; exact Nat.lt_succ_self i)
      rw [show (out ++ [(id : Int)]).getD i 0 = (id : Int) by rw [← HOl.out]; exact getD_last _ _] at C3
      have HSs := hide hSs
      have HAi := hide (ahead_iff (out := out) (id := id))
      have HAs := hide (show aheadOf (out ++ [(id : Int)]) (out ++ [(id : Int)]).length = (id : Int) by rw [List.length_append]; exact ahead_snoc _ _)
      clear i1 i2 hSs hle hLm hne hbig hhI hhm
      refine C3.mono ?_
      rintro e w5 ⟨rfl, hE5⟩
      have HS5 := hide (HSs.out.later hE5)
      clear C3 HSs hE5
      generalize aheadOf out out.length = z at *
      by_cases g1 : (id : Int) ≤ z
      · have HF := hide (show R = ([], p, 2) by rw [HG2.out, if_pos (HAi.out.1 g1)])
        have HX5 := hide HS5.out.ext
        clear HG2
        go_wp2
        go_ret
        exact .inl (by rw [HF.out]; exact ⟨by simp, rfl, HX5.out⟩)
      · have HG3 := HG2.out
        rw [if_neg (fun h => g1 (HAi.out.2 h))] at HG3
        by_cases g2 : bound ≤ (id : Int)
        · rw [if_pos g2] at HG3
          have HF := hide HG3
          have HX5 := hide HS5.out.ext
          clear HG2 HG3
          go_wp2
          go_ret
          exact .inl (by rw [HF.out]; exact ⟨by simp, rfl, HX5.out⟩)
        · rw [if_neg g2] at HG3
          have HF := hide HG3
          clear HG2 HG3
          go_wp2
          go_roundw
          case rel => exact ⟨i + 1, h', p', A3, c3, H2, out ++ [(id : Int)], by omega, by go_num, rfl, by rw [HAs.out], HS5.out, HP2.out, by rw [List.length_append, HOl.out]; rfl, HU2.out.2.1, by have := HU2.out.1; have := HHp.out; have := HHh.out; omega, by rw [show n - (i + 1) = n - i - 1 by omega]; exact HF.out⟩
          case measure => simp [intOf]; omega
    · obtain rfl : n = i := by omega
      have HF := hide (show R = (out, p, 0) by rw [HRd.out, Nat.sub_self, readH])
      have HS := hide hS
      clear HRd hS
      go_wp2
      go_ret
      refine .inr (by rw [HF.out]; exact ⟨rfl, rfl, A2, c2, H, by have := HS.out; rwa [HHl.out] at this, HP.out, HHl.out, HPp.out⟩)
end Go.Proofs.Ytdpeidijaohgcaa

namespace Go.Proofs.Ytdpeidijaohgcaa
open Go.RowKit Num Ef

theorem results_row3 {fn : Func} {p u v : Tmp} {ty : TypeId} (h : fn.results = #[.cell p ty, .tmp u, .tmp v]) (tmps : Array Value) {w : World} {g : Nat} {cs : Array Value} {x y : Value} (hp : tmps.getD p undef = .pointer (some ⟨g, 0, none⟩)) (hx : tmps.getD u undef = x) (hy : tmps.getD v undef = y)
    (hl : (loadVar ty ⟨g, 0, none⟩).run Try.prog w = .ok (.agg cs) w) : (results fn tmps).run Try.prog w = .ok (.tuple #[.agg cs, x, y]) w := by
  have e : (results fn tmps).run Try.prog w = ((asAddr (tmps.getD p undef)).run Try.prog w).andThen fun a w₁ => ((loadVar ty a).run Try.prog w₁).andThen fun z w₂ => .ok (.tuple #[z, tmps.getD u undef, tmps.getD v undef]) w₂ := by
    simp only [results, h]
    simp [Sem.run_bind, Result.andThen]
  rw [e, hp, hx, hy]
  simp [asAddr, Result.andThen, hl]
theorem exec_load_mid {a : Act} {oi : Oper} {W : World} (ty : TypeId) (x : Operand) (ho : oi.op = .load ty x) (b o : Nat) (hx : a.eval x = .pointer (some ⟨b, o, none⟩)) (cs : List Value) {d : TypeDesc} (hc : W.rangeAt b o cs)
    (hu : Try.prog.underlying ty = some d) (hd : d.isRow = true) (hi : (Try.prog.info? ty).map (·.size) = some cs.length) : (execOp a.eval oi).run Try.prog W = .ok (.value (.agg cs.toArray)) W := by
  unfold execOp
  simp only [ho, hx, Instr.loadAt, Instr.sureAddr, Sem.run_bind, Sem.run_pure, Result.andThen_ok, run_loadVar_mid W b o ty cs d hc hu hd hi]
theorem wpOper_putW {op : Oper} {a : Act} {w : World} {K : Act → World → Prop} {Q : Exit → Act → World → Prop} (ty : TypeId) (x y : Operand) (ho : op.op = .store ty x y)
    {g : Nat} {t : TypeId} {cs cells : Array Value} (hx : a.eval x = .pointer (some ⟨g, 0, none⟩)) (hy : a.eval y = .agg cells) (hw : Whole w g t cs) (hs : cells.size = cs.size)
    (hi : (Try.prog.info? ty).map (·.size) = some cells.size) (h1 : cells.all (·.oneCell') = true)
    (h : ∀ w', Whole w' g t cells → w.grownBy w' (some g) → K (a.put op.dst undef) w') : Oper.wp Try.prog op a w K Q := by
  refine wp_store_mid ty x y ho g 0 cells hx hy (fun j hj => ?_) hi h1 (h _ (hw.storeAll hs) (setCells_grown g _ _ _).1)
  rw [Nat.zero_add]
  refine ⟨?_, hw.frozen j⟩
  rw [hw.cell j, Array.getElem?_eq_getElem (by omega)]
  rfl
theorem whole_range {w : World} {r : Nat} {t : TypeId} {p a b c : Value} (h : Whole w r t #[p, a, b, c]) : w.rangeAt r 1 [a, b, c] := by
  intro j v hv
  match j, hv with
  | 0, hv => exact h.at 1 hv
  | 1, hv => exact h.at 2 hv
  | 2, hv => exact h.at 3 hv
  | j + 3, hv => simp at hv
/-- How many bytes a row takes at most: some number. -/
def MostTo (w : World) (e : Ending) (w' : World) : Prop := (∃ m : Nat, m ≤ 100000 ∧ e = .returned (.int .i64 (m : Int))) ∧ Qt w w'

set_option maxHeartbeats 1000000 in
set_option maxRecDepth 10000 in
theorem efMost_any (bd n : Nat) (w : World) (hb : bd ≤ 20000) (hn : n ≤ 20000) : Calls Try.prog 51 #[.int .i64 (bd : Int), .int .i64 (n : Int)] w (MostTo w) := by
  have CL := efLow_any bd n w hb hn
  have hk14 := widE_le (bound := (bd : Int)) (n := n) (by omega)
  generalize widE (bd : Int) n = k at *
  obtain ⟨z, hz⟩ : ∃ z, z = bd / 2 ^ k := ⟨_, rfl⟩
  have hshr : (bd : Int) / 2 ^ k = (z : Int) := by rw [hz]; simp only [Int.natCast_ediv, Int.natCast_pow]; rfl
  have hz2 : z ≤ 20000 := by rw [hz]; exact Nat.le_trans (Nat.div_le_self _ _) hb
  obtain ⟨y, hy⟩ : ∃ y, y = n * k := ⟨_, rfl⟩
  have hmul : (n : Int) * (k : Int) = (y : Int) := by rw [hy]; push_cast; rfl
  have hy2 : y ≤ 280000 := by rw [hy]; exact Nat.le_trans (Nat.mul_le_mul hn hk14) (by omega)
  clear hz hy
  go_enter Try.func51, Try.ntmps51
  go_wp2_with fail
  refine CL.mono ?_
  rintro e w2 ⟨rfl, hQ⟩
  clear CL
  go_wp2
  go_ret
  exact ⟨⟨(y + z + n + 8 - 1) / 8, by omega, ret_i64 (by omega)⟩, hQ⟩

theorem Ef.readP_eq (l : List UInt8) (bound : Int) (n : Nat) : readP l bound n = readN l bound n := by
  unfold readP
  split
  · rename_i h
    subst h
    unfold readN
    rw [Nat.zero_mul, if_neg (by omega), readH, if_neg (by simp)]
    have hp : padZ l 0 = true := decide_eq_true fun i hi => by omega
    rw [hp, if_neg (by simp)]
    rfl
  · rfl
/-- What a slice reads lies in blocks from lo on. -/
def LowS (lo : Nat) (A : Option Addr) : Prop := ∀ b o, A = some ⟨b, o, none⟩ → lo ≤ b
theorem OwnI.low {w : World} {base n c : Nat} {A : Option Addr} {L : List Int} (h : OwnI w base (.slice A n c) L) : LowS base A := by
  intro b o hA
  rcases h.2 with ⟨hv, _⟩ | ⟨g, cap, cur, hv, hb, _⟩
  · simp only [Value.slice.injEq] at hv
    rw [hv.1] at hA
    cases hA
  · simp only [Value.slice.injEq] at hv
    rw [hv.1] at hA
    injection hA with hA
    injection hA with hA
    omega
theorem IntsAt.off {w w' : World} {B n R : Nat} {A : Option Addr} {L : List Int} (h : IntsAt w B A n L) (hG : w.grownBy w' (some R)) (hl : LowS (R + 1) A) : IntsAt w' B A n L :=
  ⟨h.1, h.2.imp_right fun ⟨b, o, hA, hB, hc⟩ => ⟨b, o, hA, hB, fun i hi => (World.cell?_of_block (a := ⟨b, o + i, none⟩) (hG.block b (World.block_lt_of_cell? w _ (hc i hi)) (by have := hl b o hA; simp; omega))).trans (hc i hi)⟩⟩
theorem IntsAt.wide {w : World} {B C n : Nat} {A : Option Addr} {L : List Int} (h : IntsAt w B A n L) (hC : B ≤ C) : IntsAt w C A n L :=
  ⟨h.1, h.2.imp_right fun ⟨b, o, hA, hB, hc⟩ => ⟨b, o, hA, Nat.lt_of_lt_of_le hB hC, hc⟩⟩
/-- What readAll and readParts tell. -/
def AllPTo (W : World) (k n : Nat) (P : List Int × Nat × Int) (e : Ending) (w' : World) : Prop :=
  Ext W w' ∧ (P.2.2 = 0 → ∃ A1 c1 A2 c2, e = .returned (.tuple #[.agg #[.int .i64 (k : Int), .slice A1 n c1, .slice A2 n c2], .int .i64 (P.2.1 : Int), .int .i64 0]) ∧ PartsV w' w'.heap.size k A1 n A2 n P.1 ∧ P.1.length = n ∧ LowS W.heap.size A1 ∧ LowS W.heap.size A2) ∧
    (P.2.2 ≠ 0 → e = .returned (.tuple #[.agg #[.int .i64 0, .slice none 0 0, .slice none 0 0], .int .i64 0, .int .i64 P.2.2]))

set_option maxHeartbeats 4000000 in
set_option maxRecDepth 10000 in
theorem readAll_any (A : Option Addr) (N c : Nat) (b : List UInt8) (bd n : Nat) (w0 : World) (hc : N ≤ c) (hNb : N ≤ 100000) (hB : Bytes w0 w0.heap.size A N b) (hb : bd ≤ 20000) (hn : n ≤ 20000) :
    Calls Try.prog 52 #[.int .i64 (bd : Int), .int .i64 (n : Int), .slice A N c] w0 (AllPTo w0 (widE (bd : Int) n) n (readP b (bd : Int) n)) := by
  rw [readP_eq]
  have hl := hB.1
  have hk14 := widE_le (bound := (bd : Int)) (n := n) (by omega)
  have CL := fun W => efLow_any bd n W hb hn
  have HShort := hide (show 8 * b.length < n * widE (bd : Int) n → readN b (bd : Int) n = ([], 0, 1) from fun h => by unfold readN; rw [if_pos h])
  have HHigh := hide (show n * widE (bd : Int) n ≤ 8 * b.length → (readH b (widE (bd : Int) n) (bd : Int) n (n * widE (bd : Int) n) 0 []).2.2 ≠ 0 → readN b (bd : Int) n = ([], 0, (readH b (widE (bd : Int) n) (bd : Int) n (n * widE (bd : Int) n) 0 []).2.2) from fun h h2 => by
    unfold readN; rw [if_neg (by omega), if_pos h2])
  have HPad := hide (show n * widE (bd : Int) n ≤ 8 * b.length → (readH b (widE (bd : Int) n) (bd : Int) n (n * widE (bd : Int) n) 0 []).2.2 = 0 → padZ b (readH b (widE (bd : Int) n) (bd : Int) n (n * widE (bd : Int) n) 0 []).2.1 = false → readN b (bd : Int) n = ([], 0, 2) from fun h h2 h3 => by
    unfold readN; rw [if_neg (by omega), if_neg (by rw [h2]; simp), if_pos h3])
  have HGood := hide (show n * widE (bd : Int) n ≤ 8 * b.length → (readH b (widE (bd : Int) n) (bd : Int) n (n * widE (bd : Int) n) 0 []).2.2 = 0 → padZ b (readH b (widE (bd : Int) n) (bd : Int) n (n * widE (bd : Int) n) 0 []).2.1 = true → readN b (bd : Int) n = ((readH b (widE (bd : Int) n) (bd : Int) n (n * widE (bd : Int) n) 0 []).1, ((readH b (widE (bd : Int) n) (bd : Int) n (n * widE (bd : Int) n) 0 []).2.1 + 7) / 8, 0) from fun h h2 h3 => by
    unfold readN; rw [if_neg (by omega), if_neg (by rw [h2]; simp), if_neg (by rw [h3]; simp)])
  generalize widE (bd : Int) n = k at *
  generalize readN b (bd : Int) n = res at *
  have hE1 := extNew w0 (.cells #[.int .i64 0, .slice none 0 0, .slice none 0 0] 51)
  have hR1 := Whole.new w0 51 #[.int .i64 0, .slice none 0 0, .slice none 0 0]
  obtain ⟨w1, hw1⟩ : ∃ W, W = w0.alloc (.cells #[.int .i64 0, .slice none 0 0, .slice none 0 0] 51) := ⟨_, rfl⟩
  obtain ⟨g, hg⟩ : ∃ g, g = w0.heap.size := ⟨_, rfl⟩
  rw [← hw1, ← hg] at hR1
  rw [← hw1] at hE1
  have C1 := newReader_any A N c b w1 hc (by omega) (hE1.bytes hB)
  have HW1 := hide hw1
  have HG := hide hg
  have HE1 := hide hE1
  have HR1 := hide hR1
  have HL := hide hl
  clear hB hw1 hg hE1 hR1 hl
  go_enter Try.func52, Try.ntmps52
  go_wp2_with fail
  rw [← HW1.out, ← HG.out]
  refine C1.mono ?_
  rintro e w2 ⟨gr, rfl, hR2, hE2⟩
  have HR2 := hide hR2
  clear C1 hR2
  go_wp2_with fail
  refine (CL _).mono ?_
  rintro e w3 ⟨rfl, hQ3⟩
  have hE3 := hE2.trans hQ3.ext
  have hR3 := HR2.out.ext hQ3.ext
  have hgl := hR3.lt
  clear CL hE2 hQ3 HR2
  have hWx := Whole.new w3 96 #[.pointer (some ⟨gr, 0, none⟩), .int .i64 (k : Int), .slice none 0 0, .slice none 0 0]
  have hEx := extNew w3 (.cells #[.pointer (some ⟨gr, 0, none⟩), .int .i64 (k : Int), .slice none 0 0, .slice none 0 0] 96)
  have hS0 : RSt w1 _ gr w3.heap.size k 0 b (.slice none 0 0) (.slice none 0 0) [] [] := ⟨hR3.ext hEx, hWx, TwoI.nil _ _, hgl, hE3.trans hEx⟩
  have C2 := takeLow_any hS0 n hn hk14 (by have := HL.out; omega)
  clear hR3 hE3 hWx hEx hS0 hgl
  go_wp2_with fail
  refine C2.mono ?_
  rintro e w4 h4
  clear C2
  generalize w3.heap.size = r at *
  rcases h4 with ⟨h1, rfl, hE4⟩ | ⟨h1, rfl, A1, c1, hS4⟩
  · have HF := hide (HShort.out h1)
    have hR4 := HR1.out.ext hE4
    have HEx := hide (HE1.out.trans hE4)
    have hgw : w0.heap.size ≤ g := by rw [HG.out]; exact Nat.le_refl _
    clear h1 HShort HHigh HPad HGood hE4
    go_wp2_with (refine wpList_storeW rfl 51 (.tmp 6) (.tmp 26) rfl rfl rfl hR4 rfl parts_info (parts_one ..) ?_; intro w9 hW9 hG9 hS9; clear hS9)
    refine bodyPost_ret (results_row3 rfl _ rfl rfl rfl (run_loadVar_row _ _ _ _ _ _ _ hW9 Try.underlying51 rfl parts_info)) rfl ?_
    rw [HF.out]
    exact ⟨Below.grown HEx.out hG9 HEx.out.le (fun k hk => by cases hk; exact hgw), fun h => absurd h (by simp), fun _ => rfl⟩
  have C3 := takeHigh_any hS4 (bd : Int) hn hk14 (by have := HL.out; omega) h1
  have HNk := hide h1
  clear h1 hS4 HShort
  go_wp2_with fail
  refine C3.mono ?_
  rintro e w5 h5
  clear C3
  generalize readH b k (bd : Int) n (n * k) 0 [] = R at *
  obtain ⟨out, p, E⟩ := R
  dsimp only at h5 HHigh HPad HGood
  rcases h5 with ⟨h1, rfl, hE5⟩ | ⟨h1, rfl, A2, c2, H, hS5, hP5, hH5, hp5⟩
  · dsimp only at h1
    have HF := hide (HHigh.out HNk.out h1)
    have hEb : (E != 0) = true := by rw [bne_iff_ne]; exact h1
    have HH1 := hide h1
    have hR4 := HR1.out.ext hE5
    have HEx := hide (HE1.out.trans hE5)
    have hgw : w0.heap.size ≤ g := by rw [HG.out]; exact Nat.le_refl _
    clear h1 HHigh HPad HGood hE5
    go_wp2_with (refine wpList_storeW rfl 51 (.tmp 6) (.tmp 34) rfl rfl rfl hR4 rfl parts_info (parts_one ..) ?_; intro w9 hW9 hG9 hS9; clear hS9)
    refine bodyPost_ret (results_row3 rfl _ rfl rfl rfl (run_loadVar_row _ _ _ _ _ _ _ hW9 Try.underlying51 rfl parts_info)) rfl ?_
    rw [HF.out]
    exact ⟨Below.grown HEx.out hG9 HEx.out.le (fun k hk => by cases hk; exact hgw), fun h => absurd h HH1.out, fun _ => rfl⟩
  dsimp only at h1 hS5 hP5 hp5
  subst h1
  have C4 := fill_any hS5 hp5
  have HP5 := hide hP5
  have HH5 := hide hH5
  have Hp5 := hide hp5
  clear hS5 hP5 hH5 hp5 HHigh
  go_wp2_with fail
  refine C4.mono ?_
  rintro e w6 h6
  clear C4
  rcases h6 with ⟨h1, rfl, hS6⟩ | ⟨h1, rfl, hE6⟩
  case inr =>
    have HF := hide (HPad.out HNk.out trivial h1)
    have hR4 := HR1.out.ext hE6
    have HEx := hide (HE1.out.trans hE6)
    have hgw : w0.heap.size ≤ g := by rw [HG.out]; exact Nat.le_refl _
    clear h1 HPad HGood hE6
    go_wp2_with (refine wpList_storeW rfl 51 (.tmp 6) (.tmp 40) rfl rfl rfl hR4 rfl parts_info (parts_one ..) ?_; intro w9 hW9 hG9 hS9; clear hS9)
    refine bodyPost_ret (results_row3 rfl _ rfl rfl rfl (run_loadVar_row _ _ _ _ _ _ _ hW9 Try.underlying51 rfl parts_info)) rfl ?_
    rw [HF.out]
    exact ⟨Below.grown HEx.out hG9 HEx.out.le (fun k hk => by cases hk; exact hgw), fun h => absurd h (by simp), fun _ => rfl⟩
  have HF := hide (HGood.out HNk.out trivial h1)
  obtain ⟨long, hlong⟩ : ∃ z, z = (p + 7) / 8 := ⟨_, rfl⟩
  rw [← hlong] at hS6 HF
  have hpl := Hp5.out
  have HLg := hide (show long ≤ b.length by omega)
  have hrl := HL.out
  obtain ⟨m, hm⟩ : ∃ m, m = b.length - long := ⟨_, rfl⟩
  obtain ⟨D, hD⟩ : ∃ D, D = 8 * b.length - 8 * long := ⟨_, rfl⟩
  have hq1 : (D : Int).tdiv 8 = (m : Int) := by rw [Int.tdiv_eq_ediv_of_nonneg (by omega)]; omega
  have hq2 : (D : Int) / 8 = (m : Int) := by omega
  have hDm : D ≤ 8000000 := by omega
  have hmN : m ≤ N := by omega
  have hsub : IntKind.i64.wrap ((N : Int) - (m : Int)) = (long : Int) := by rw [IntKind.wrap_i64]; omega
  have hwm : IntKind.i64.wrap (m : Int) = (m : Int) := by rw [IntKind.wrap_i64]; omega
  have hblk := hS6.blk
  have CL := left_any (hS6.later (Ext.refl _).drew).rd
  rw [← hD] at CL
  have HS4 := hide hS6
  have hR5 := (HR1.out.ext hS6.ext).ext (Ext.refl _).drew
  clear h1 HPad HGood hlong hpl hrl hm hD hS6
  go_wp2_with fail
  refine wp_region_T (fun W => Whole W r 96 #[.pointer (some ⟨gr, 0, none⟩), .int .i64 (k : Int), .slice A1 n c1, .slice A2 n c2]) 13 16 #[false, false, false, false, false, false, false, false, false, false, false, false, false, false, false, false] (by kernel_rfl) rfl rfl hblk ?_
  intro hS0
  refine wpAnyT_take 0 (some 42) (.pointer (some ⟨r, 0, none⟩)) #[true, false, false, false, false, false, false, false, false, false, false, false, false, false, false, false] rfl rfl rfl (by kernel_rfl) (fun _ _ _ h => h) hS0 (by rfl) (fun W hX => by have s0 := hX.at 0 (u := .pointer (some ⟨gr, 0, none⟩)) rfl; have s1 := hX.at 1 (u := .int .i64 (k : Int)) rfl; go_simp) ?_
  simp only [Act.put, List.setIfInBounds_toArray, List.set_cons_zero, List.set_cons_succ]
  refine wpAnyT_take 1 (some 43) (.pointer (some ⟨r, 0, none⟩)) #[true, true, false, false, false, false, false, false, false, false, false, false, false, false, false, false] rfl rfl rfl (by kernel_rfl) (fun _ _ _ h => h) hS0 (by rfl) (fun W hX => by have s0 := hX.at 0 (u := .pointer (some ⟨gr, 0, none⟩)) rfl; have s1 := hX.at 1 (u := .int .i64 (k : Int)) rfl; go_simp) ?_
  simp only [Act.put, List.setIfInBounds_toArray, List.set_cons_zero, List.set_cons_succ]
  refine wpAnyT_take 2 (some 44) (.pointer (some ⟨r, 1, none⟩)) #[true, true, true, false, false, false, false, false, false, false, false, false, false, false, false, false] rfl rfl rfl (by kernel_rfl) (fun _ _ _ h => h) hS0 (by rfl) (fun W hX => by have s0 := hX.at 0 (u := .pointer (some ⟨gr, 0, none⟩)) rfl; have s1 := hX.at 1 (u := .int .i64 (k : Int)) rfl; go_simp) ?_
  simp only [Act.put, List.setIfInBounds_toArray, List.set_cons_zero, List.set_cons_succ]
  refine wpAnyT_take 3 (some 45) (.agg #[.int .i64 (k : Int), .slice A1 n c1, .slice A2 n c2]) #[true, true, true, true, false, false, false, false, false, false, false, false, false, false, false, false] rfl rfl rfl (by kernel_rfl) (fun _ _ _ h => h) hS0 (by rfl) (fun W hX => by exact exec_load_mid 51 (.tmp 44) rfl r 1 rfl [.int .i64 (k : Int), .slice A1 n c1, .slice A2 n c2] (whole_range hX) Try.underlying51 rfl (parts_infoL ..)) ?_
  simp only [Act.put, List.setIfInBounds_toArray, List.set_cons_zero, List.set_cons_succ]
  refine wpAnyT_pure 4 (some 46) (.slice A N c) #[true, true, true, true, true, false, false, false, false, false, false, false, false, false, false, false] rfl rfl rfl (by kernel_rfl) (fun _ _ _ h => h) (fun _ => hS0) (by rfl) (fun W => by go_simp) ?_
  simp only [Act.put, List.setIfInBounds_toArray, List.set_cons_zero, List.set_cons_succ]
  refine wpAnyT_pure 5 (some 47) (.int .i64 (N : Int)) #[true, true, true, true, true, true, false, false, false, false, false, false, false, false, false, false] rfl rfl rfl (by kernel_rfl) (fun _ _ _ h => h) (fun _ => hS0) (by rfl) (fun W => by go_simp) ?_
  simp only [Act.put, List.setIfInBounds_toArray, List.set_cons_zero, List.set_cons_succ]
  refine wpAnyT_take 6 (some 48) (.pointer (some ⟨r, 0, none⟩)) #[true, true, true, true, true, true, true, false, false, false, false, false, false, false, false, false] rfl rfl rfl (by kernel_rfl) (fun _ _ _ h => h) hS0 (by rfl) (fun W hX => by have s0 := hX.at 0 (u := .pointer (some ⟨gr, 0, none⟩)) rfl; have s1 := hX.at 1 (u := .int .i64 (k : Int)) rfl; go_simp) ?_
  simp only [Act.put, List.setIfInBounds_toArray, List.set_cons_zero, List.set_cons_succ]
  refine wpAnyT_take 7 (some 49) (.pointer (some ⟨r, 0, none⟩)) #[true, true, true, true, true, true, true, true, false, false, false, false, false, false, false, false] rfl rfl rfl (by kernel_rfl) (fun _ _ _ h => h) hS0 (by rfl) (fun W hX => by have s0 := hX.at 0 (u := .pointer (some ⟨gr, 0, none⟩)) rfl; have s1 := hX.at 1 (u := .int .i64 (k : Int)) rfl; go_simp) ?_
  simp only [Act.put, List.setIfInBounds_toArray, List.set_cons_zero, List.set_cons_succ]
  refine wpAnyT_take 8 (some 50) (.pointer (some ⟨r, 0, none⟩)) #[true, true, true, true, true, true, true, true, true, false, false, false, false, false, false, false] rfl rfl rfl (by kernel_rfl) (fun _ _ _ h => h) hS0 (by rfl) (fun W hX => by have s0 := hX.at 0 (u := .pointer (some ⟨gr, 0, none⟩)) rfl; have s1 := hX.at 1 (u := .int .i64 (k : Int)) rfl; go_simp) ?_
  simp only [Act.put, List.setIfInBounds_toArray, List.set_cons_zero, List.set_cons_succ]
  refine wpAnyT_take 9 (some 51) (.pointer (some ⟨gr, 0, none⟩)) #[true, true, true, true, true, true, true, true, true, true, false, false, false, false, false, false] rfl rfl rfl (by kernel_rfl) (fun _ _ _ h => h) hS0 (by rfl) (fun W hX => by have s0 := hX.at 0 (u := .pointer (some ⟨gr, 0, none⟩)) rfl; have s1 := hX.at 1 (u := .int .i64 (k : Int)) rfl; go_simp) ?_
  simp only [Act.put, List.setIfInBounds_toArray, List.set_cons_zero, List.set_cons_succ]
  refine wpAnyT_only 10 #[true, true, true, true, true, true, true, true, true, true, true, false, false, false, false, false] (by kernel_rfl) rfl rfl (by rfl) (fun K0 hK0 => ?_)
  go_simp
  go_at_call 63
  refine CL.mono ?_
  rintro e wl ⟨rfl, hQl⟩
  have hSl := hS0.ext hQl.ext
  have HSl := hide ((HS4.out.later (Ext.refl _).drew).later hQl.ext)
  have hRl := hR5.ext hQl.ext
  clear CL
  refine hK0 _ _ (fun _ => hSl) ?_
  clear hK0 K0
  refine wpAnyT_pure 11 (some 53) (.int .i64 (m : Int)) #[true, true, true, true, true, true, true, true, true, true, true, true, false, false, false, false] rfl rfl rfl (by kernel_rfl) (fun _ _ _ h => h) (fun _ => hSl) (by rfl) (fun W => by go_simp) ?_
  simp only [Act.put, List.setIfInBounds_toArray, List.set_cons_zero, List.set_cons_succ]
  refine wpAnyT_pure 12 (some 54) (.int .i64 (long : Int)) #[true, true, true, true, true, true, true, true, true, true, true, true, true, false, false, false] rfl rfl rfl (by kernel_rfl) (fun _ _ _ h => h) (fun _ => hSl) (by rfl) (fun W => by go_simp) ?_
  simp only [Act.put, List.setIfInBounds_toArray, List.set_cons_zero, List.set_cons_succ]
  refine wpAnyT_only 13 #[true, true, true, true, true, true, true, true, true, true, true, true, true, true, false, false] (by kernel_rfl) rfl rfl (by rfl) (fun K1 hK1 => ?_)
  refine wpOper_putW 51 (.tmp 6) (.tmp 45) rfl rfl rfl hRl rfl parts_info (parts_one ..) ?_
  intro w9 hW9 hG9
  simp only [Act.put]
  refine hK1 _ _ (fun h => absurd h (by decide)) ?_
  clear hK1 K1
  refine wpAnyT_only 14 #[true, true, true, true, true, true, true, true, true, true, true, true, true, true, true, false] (by kernel_rfl) rfl rfl (by rfl) (fun K2 hK2 => ?_)
  go_simp
  refine hK2 _ _ (fun h => absurd h (by decide)) ?_
  clear hK2 K2
  refine wpAnyT_only 15 #[true, true, true, true, true, true, true, true, true, true, true, true, true, true, true, true] (by kernel_rfl) rfl rfl (by rfl) (fun K3 hK3 => ?_)
  go_simp
  refine hK3 _ _ (fun h => absurd h (by decide)) (wpAnyT_done (by kernel_rfl) ?_ _)
  clear hK3 K3
  have hgw : w0.heap.size ≤ g := by rw [HG.out]; exact Nat.le_refl _
  have hEl := HE1.out.trans HSl.out.ext
  have hgr : g < r + 1 := by
    have h1 := HR1.out.lt
    have h2 := HSl.out.rd.le
    have h3 := HSl.out.lt
    omega
  have hT9 := HSl.out.two.below hG9 hgr
  have HE9 := hide (show Ext w0 w9 from Below.grown hEl hG9 hEl.le (fun k hk => by cases hk; exact hgw))
  have i1 := hT9.one.at
  have i2 := hT9.two.at
  have HL1 := hide hT9.one.low
  have HL2 := hide hT9.two.low
  have HRr := hide (show w0.heap.size ≤ r + 1 by omega)
  rw [lowsOf_len] at i1
  rw [HH5.out] at i2
  have HPV := hide (show PartsV w9 w9.heap.size k A1 n A2 n out from ⟨⟨_, _, i1, i2, HP5.out⟩⟩)
  have HLo := hide (show out.length = n by rw [HP5.out.2.1, HH5.out])
  clear hS0 hSl hRl hQl hblk hR5 hEl hgr hT9 i1 i2 hG9
  go_wp2
  refine bodyPost_ret (results_row3 rfl _ rfl rfl rfl (run_loadVar_row _ _ _ _ _ _ _ hW9 Try.underlying51 rfl parts_info)) rfl ?_
  rw [HF.out]
  exact ⟨HE9.out, fun _ => ⟨A1, c1, A2, c2, rfl, HPV.out, HLo.out, fun b o h => Nat.le_trans HRr.out (HL1.out b o h), fun b o h => Nat.le_trans HRr.out (HL2.out b o h)⟩, fun h => absurd rfl h⟩
end Go.Proofs.Ytdpeidijaohgcaa

namespace Go.Proofs.Ytdpeidijaohgcaa
open Go.RowKit

theorem Huf.list_ext {a b : List Int} (hl : a.length = b.length) (h : ∀ i, i < a.length → a.getD i 0 = b.getD i 0) : a = b := by
  refine List.ext_getElem hl fun i h1 h2 => ?_
  have := h i h1
  rwa [List.getD_eq_getElem?_getD, List.getD_eq_getElem?_getD, List.getElem?_eq_getElem h1, List.getElem?_eq_getElem h2] at this
set_option maxHeartbeats 1000000 in
set_option maxRecDepth 100000 in
theorem refSame9_any (A1 A2 : Option Addr) (c1 c2 : Nat) (a b : List Int) (w : World) (h1 : IntsAt w w.heap.size A1 a.length a) (h2 : IntsAt w w.heap.size A2 b.length b) (hn0 : a.length ≤ 140737488355328) :
    Calls Try.prog 14 #[.slice A1 a.length c1, .slice A2 b.length c2] w fun e w' => e = .returned (.bool (decide (a = b))) ∧ Ext w w' := by
  by_cases hl : a.length = b.length
  · have HEq := hide (show (∀ i, i < a.length → a.getD i 0 = b.getD i 0) → decide (a = b) = true from fun h => decide_eq_true (Huf.list_ext hl h))
    have HNe := hide (show ∀ i, a.getD i 0 ≠ b.getD i 0 → decide (a = b) = false from fun i h => decide_eq_false fun e => h (by rw [e]))
    have hlb : ((a.length : Int) != (b.length : Int)) = false := by simp; omega
    have HA := hide h1
    have HB := hide h2
    generalize decide (a = b) = res at *
    rw [← hl] at HB ⊢
    generalize a.length = n at *
    clear h1 h2 hl
    go_enter Try.func14, Try.ntmps14
    go_wp2
    go_loopw [5] (fun x wr => ∃ i : Nat, i ≤ n ∧ x = .int .i64 (i : Int) ∧ (∀ j, j < i → a.getD j 0 = b.getD j 0) ∧ Qt w wr) (fun x _ => n - (intOf x).toNat)
    case atStart => exact ⟨0, by omega, rfl, fun j hj => absurd hj (by omega), Qt.refl _⟩
    case round =>
      obtain ⟨i, hi, rfl, hall, hQ⟩ := hrel
      have HAll := hide hall
      clear hall
      by_cases hlt : i < n
      · have hiI : (i : Int) < (n : Int) := by omega
        rcases (HA.out.later hQ.ext).2 with hn | ⟨b1, o1, rfl, _, hc1⟩
        · omega
        rcases (HB.out.later hQ.ext).2 with hn | ⟨b2, o2, rfl, _, hc2⟩
        · omega
        have e1 := hc1 i hlt
        have e2 := hc2 i hlt
        have hNe := HNe.out i
        clear hc1 hc2
        by_cases he : a.getD i 0 = b.getD i 0
        · have HE := hide he
          obtain ⟨y, hy⟩ : ∃ y, y = b.getD i 0 := ⟨_, rfl⟩
          rw [he, ← hy] at e1
          rw [← hy] at e2
          clear he hNe hy
          go_wp2_with fail
          go_quiet (fail)
          go_wp2
          go_roundw
          case rel => exact ⟨i + 1, by omega, by go_num, fun j hj => (by
            by_cases e : j = i
            · rw [e]; exact HE.out
            · exact HAll.out j (by omega)), hQ.drewN _⟩
          case measure => simp [intOf]; omega
        · have HN := hide (hNe he)
          have heb : (a.getD i 0 != b.getD i 0) = true := by simpa using he
          generalize a.getD i 0 = y1 at *
          generalize b.getD i 0 = y2 at *
          clear hNe he
          go_wp2_with fail
          go_quiet (fail)
          go_wp2
          go_ret
          exact ⟨ret_bool HN.out.symm, (hQ.drewN _).ext⟩
      · obtain rfl : n = i := by omega
        have HN := hide (HEq.out HAll.out)
        go_wp2
        go_ret
        exact ⟨ret_bool HN.out.symm, hQ.ext⟩
  · have HN := hide (show decide (a = b) = false from decide_eq_false fun e => hl (by rw [e]))
    have hlb : ((a.length : Int) != (b.length : Int)) = true := by simp; omega
    generalize decide (a = b) = res at *
    clear h1 h2
    go_enter Try.func14, Try.ntmps14
    go_wp2
    go_ret
    exact ⟨ret_bool HN.out.symm, Ext.refl _⟩
end Go.Proofs.Ytdpeidijaohgcaa

namespace Go.Proofs.Ytdpeidijaohgcaa
open Go.RowKit Num Ef

/-- 'b[:n]' of bytes. -/
theorem run_headB (W : World) (a : Option Addr) (n c : Nat) (k : IntKind) (h : Int) (h0 : 0 ≤ h) (h1 : h ≤ c) :
    (Instr.slice 24 (.slice a n c) none (some (.int k h)) none).run Try.prog W = .ok (.slice (cutAt a c 0) h.toNat c) W := by
  rw [run_slice_h (P := Try.prog) (w := W) 24 a n c (by kernel_rfl) k h h0 h1]
  have hs : (sizeOf (Try.prog.elem 24)).run Try.prog W = .ok 1 W := by kernel_rfl
  rw [hs]
  simp [Result.andThen, sliced, cutAt]
theorem Ef.bytes_take {w : World} {B n k : Nat} {A : Option Addr} {l : List UInt8} (h : Bytes w B A n l) (hk : k ≤ n) : Bytes w B A k (l.take k) := by
  refine ⟨by rw [List.length_take, h.1]; omega, ?_⟩
  rcases h.2 with h0 | ⟨b, off, rfl, hB, hc⟩
  · exact .inl (by omega)
  · refine .inr ⟨b, off, rfl, hB, fun i hi => ?_⟩
    have := hc i (by omega)
    rw [List.getD_eq_getElem?_getD, List.getElem?_take, if_pos hi, ← List.getD_eq_getElem?_getD]
    exact this
theorem Ef.bytes_head {w : World} {B n c k : Nat} {A : Option Addr} {l : List UInt8} (h : Bytes w B A n l) (hk : k ≤ n) (hc : n ≤ c) : Bytes w B (cutAt A c 0) k (l.take k) := by
  have h1 := bytes_take (h.drop (k := 0) (c := c) (by omega) hc) (k := k) (by omega)
  rwa [List.drop_zero] at h1
theorem Ef.one_len {bound : Int} {b : List UInt8} {ids : List Int} {n : Nat} (h : readE bound b = (ids, n, 0)) : ids.length ≤ 20000 := by
  have h1 := (read_one h).1
  unfold writeE at h1
  split at h1
  · rename_i hc
    have := row_len hc.2
    omega
  · simp at h1

set_option maxHeartbeats 2000000 in
set_option maxRecDepth 100000 in
theorem efOne_walk0 {LP : LstP} (bound : Int) (A : Option Addr) (n c : Nat) (b : List UInt8) (w : World) (hB : EfWriteC w) (hR : EfReadC LP w) (hA : EfAllC LP w) (hbd : IsI64 bound) (hn : n ≤ c) (hc : c ≤ maxLen) (h : Bytes w w.heap.size A n b) :
    Calls Try.prog 5 #[.int .i64 bound, .slice A n c] w fun e w' => e = .returned (.bool true) ∧ Ext w w' := by
  have C0 := alive13_any hB (Ext.refl w)
  have hl := h.1
  by_cases hbig : 500 < n
  · have hbI : (500 : Int) < (n : Int) := by omega
    clear hl
    go_enter Try.func5, Try.ntmps5
    go_wp2_with fail
    refine C0.mono ?_
    rintro e w1 ⟨rfl, hE1⟩
    go_wp2
    go_ret
    exact ⟨rfl, hE1⟩
  have hbI : ¬ (500 : Int) < (n : Int) := by omega
  have H := hide h
  have HL := hide hl
  have HB := hide hB
  have HA := hide hA
  have CR := fun (W : World) (hE : Ext w W) => hR bound b A c W hE hbd (by omega) hc (by omega) (by rw [hl]; exact hE.bytes h)
  rw [hl] at CR
  have HR := hide CR
  clear h hB hR hA CR hl
  obtain ⟨r1, r2, r3, hr⟩ : ∃ r1 r2 r3, readE bound b = (r1, r2, r3) := ⟨_, _, _, rfl⟩
  rw [hr] at HR
  by_cases he : r3 = 0
  · subst he
    obtain ⟨o1, o2⟩ := read_one hr
    have HO := hide o1
    have hlen := one_len hr
    rw [HL.out] at o2
    clear hr o1
    go_enter Try.func5, Try.ntmps5
    go_wp2_with fail
    refine C0.mono ?_
    rintro e w1 ⟨rfl, hE1⟩
    have C1 := HR.out w1 hE1
    clear C0
    go_wp2_with fail
    refine C1.mono ?_
    rintro e w2 ⟨hE2, hok, _⟩
    obtain ⟨g, rfl, hL⟩ := hok rfl
    have hF2 := hE1.trans hE2
    have C2 := HA.out r1 g w2 hF2 hL
    clear C1 hok hL hE1 hE2
    dsimp only at *
    go_wp2_with fail
    refine C2.mono ?_
    rintro e w3 ⟨Al, cl, rfl, hlc, hlm, hI, hE3⟩
    have hF3 := hF2.trans hE3
    have C3 := HB.out bound r1 Al r1.length cl w3 hF3 hbd hlc hlm hlen hI
    rw [HO.out] at C3
    clear C2 hF2 hE3 hI
    generalize r1.length = kl at *
    go_wp2_with fail
    refine C3.mono ?_
    rintro e w4 ⟨v4, rfl, hO4, hE4⟩
    have hF4 := hF3.trans hE4
    obtain ⟨A4, c4, rfl, _, _, h4⟩ := hO4.form
    have hbt := bytes_head (hF4.bytes H.out) o2 hn
    have CS := same_any _ _ _ _ c4 c _ _ _ h4 hbt
    rw [sameB_true rfl] at CS
    have kc := fun W => run_headB W A n c .i64 (r2 : Int) (by omega) (by omega)
    rw [Int.toNat_natCast] at kc
    have i0 : (0 : Int) ≤ (r2 : Int) := by omega
    have i1 : (r2 : Int) ≤ (n : Int) := by omega
    clear C3 hO4 h4 hbt hF3 hE4
    generalize (b.take r2).length = k4 at *
    go_wp2_with fail
    refine CS.mono ?_
    rintro e w5 ⟨rfl, hE5⟩
    go_wp2
    go_ret
    exact ⟨rfl, hF4.trans hE5⟩
  · have heb : (r3 != 0) = true := by simpa using he
    have HE := hide he
    clear hr he
    go_enter Try.func5, Try.ntmps5
    go_wp2_with fail
    refine C0.mono ?_
    rintro e w1 ⟨rfl, hE1⟩
    have C1 := HR.out w1 hE1
    clear C0
    go_wp2_with fail
    refine C1.mono ?_
    rintro e w2 ⟨hE2, _, hno⟩
    obtain rfl := hno HE.out
    have hF2 := hE1.trans hE2
    clear C1 hno hE1 hE2
    dsimp only at *
    go_wp2
    go_ret
    exact ⟨rfl, hF2⟩

theorem Ef.write_len {bound : Int} {ids : List Int} (he : (writeE bound ids).2 = 0) (hn : ids.length ≤ 2000) : (writeE bound ids).1.length ≤ 4300 := by
  rcases Nat.eq_zero_or_pos ids.length with hz | hz
  · unfold writeE at he ⊢
    split at he
    · rename_i hc
      rw [if_pos hc]
      dsimp only
      unfold rowB
      rw [if_pos hz, List.append_nil]
      have := enc_len ids.length
      omega
    · simp at he
  · have h := short he hz hn
    have hb : bound ≤ 20000 := by
      unfold writeE at he
      split at he
      · rename_i hc; exact hc.1.2
      · simp at he
    have h1 := widE_le (n := ids.length) hb
    have h2 : ids.length * (widE bound ids.length + 3) ≤ 2000 * 17 := Nat.mul_le_mul hn (by omega)
    omega

set_option maxHeartbeats 2000000 in
set_option maxRecDepth 100000 in
theorem efBack_walk0 {LP : LstP} (bound : Int) (A1 A2 : Option Addr) (n1 c1 n2 c2 : Nat) (ids : List Int) (m : List UInt8) (w : World) (hB : EfWriteC w) (hR : EfReadC LP w) (hA : EfAllC LP w) (hbd : IsI64 bound) (hn1 : n1 ≤ c1) (hc1 : c1 ≤ maxLen) (h1 : IntsAt w w.heap.size A1 n1 ids) (h2 : Bytes w w.heap.size A2 n2 m) :
    Calls Try.prog 4 #[.int .i64 bound, .slice A1 n1 c1, .slice A2 n2 c2] w fun e w' => e = .returned (.bool true) ∧ Ext w w' := by
  have C0 := alive13_any hB (Ext.refl w)
  have hl1 := h1.1
  have hl2 := h2.1
  by_cases hb1 : 2000 < n1
  · have hbI : (2000 : Int) < (n1 : Int) := by omega
    clear hl1 hl2
    go_enter Try.func4, Try.ntmps4
    go_wp2_with fail
    refine C0.mono ?_
    rintro e w1 ⟨rfl, hE1⟩
    go_wp2
    go_ret
    exact ⟨rfl, hE1⟩
  have hb1I : ¬ (2000 : Int) < (n1 : Int) := by omega
  by_cases hb2 : 500 < n2
  · have hbI : (500 : Int) < (n2 : Int) := by omega
    clear hl1 hl2
    go_enter Try.func4, Try.ntmps4
    go_wp2_with fail
    refine C0.mono ?_
    rintro e w1 ⟨rfl, hE1⟩
    go_wp2
    go_ret
    exact ⟨rfl, hE1⟩
  have hb2I : ¬ (500 : Int) < (n2 : Int) := by omega
  have H1 := hide h1
  have H2 := hide h2
  have HL1 := hide hl1
  have HL2 := hide hl2
  have HB := hide hB
  have HR := hide hR
  have HA := hide hA
  clear h1 h2 hB hR hA hl1 hl2
  by_cases he : (writeE bound ids).2 = 0
  · have HE := hide he
    have hlen := write_len he (by rw [HL1.out]; omega)
    have HBk := hide (read_back he m)
    clear he
    go_enter Try.func4, Try.ntmps4
    go_wp2_with fail
    refine C0.mono ?_
    rintro e w1 ⟨rfl, hE1⟩
    have C1 := HB.out bound ids A1 n1 c1 w1 hE1 hbd hn1 hc1 (by omega) (H1.out.later hE1)
    rw [HE.out] at C1
    clear C0
    generalize (writeE bound ids).1 = b at *
    go_wp2_with fail
    refine C1.mono ?_
    rintro e w2 ⟨v2, rfl, hO2, hE2⟩
    have hF2 := hE1.trans hE2
    obtain ⟨Ab, cb, rfl, _, _, hb⟩ := hO2.form
    have hN0 := OwnB.nil w2 w2.heap.size
    have hBel0 : Below w2.heap.size w2 w2 := Below.refl _ _
    have hm0 := hF2.bytes H2.out
    have HM0 := hide hm0
    have hle0 : ([] : List UInt8).length + b.length ≤ 140737488355328 := by simp; omega
    have hle1 : ([] ++ b : List UInt8).length + n2 ≤ 140737488355328 := by simp; omega
    have hbs : w2.heap.size ≤ w2.heap.size := Nat.le_refl _
    clear C1 hO2 hE2 hm0
    go_wp2_with (first
      | (at_builtin; refine wpList_app rfl (.tmp 38) (.tmp 39) rfl rfl hN0 rfl hb hle0 hbs ?_; intro v3 w3 hO3 hG3; have hBel3 := hN0.below hBel0 hG3 hbs; have hB3 : w2.heap.size ≤ w3.heap.size := hG3.size; have hm3 : Bytes w3 w3.heap.size A2 n2 m := (HM0.out.below hBel3 (Nat.le_refl _)).mono hB3)
      | (at_builtin; refine wpList_app rfl (.tmp 40) (.tmp 41) rfl rfl hO3 rfl hm3 hle1 hB3 ?_; intro v4 w4 hO4 hG4; have hBel4 := hO3.below hBel3 hG4 hB3))
    rw [List.nil_append] at hO4
    have hE4 : Ext w2 w4 := hBel4
    have hF4 := hF2.trans hE4
    obtain ⟨A4, c4, rfl, h4c, h4m, h4⟩ := hO4.form
    have C5 := HR.out bound (b ++ m) A4 c4 w4 hF4 hbd h4c h4m (by rw [List.length_append, HL2.out]; omega) h4
    rw [HBk.out] at C5
    clear hO4 h4 hG4 hO3 hG3 hm3 hBel3 hBel4 hb hN0 hBel0
    generalize (b ++ m).length = k4 at *
    go_wp2_with fail
    refine C5.mono ?_
    rintro e w5 ⟨hE5, hok, _⟩
    obtain ⟨g, rfl, hL⟩ := hok rfl
    have hF5 := hF4.trans hE5
    have C6 := HA.out ids g w5 hF5 hL
    clear C5 hok hL hE5 hE4
    dsimp only at *
    go_wp2_with fail
    refine C6.mono ?_
    rintro e w6 ⟨Al, cl, rfl, hlc, hlm, hI, hE6⟩
    have hF6 := hF5.trans hE6
    have hI1 := H1.out.later hF6
    rw [← HL1.out] at hI1 hb1 hn1
    have CS := refSame9_any Al A1 cl c1 ids ids w6 hI hI1 (by omega)
    rw [decide_eq_true rfl, HL1.out] at CS
    rw [HL1.out] at hlc ⊢
    clear C6 hI hI1 hE6
    go_wp2_with fail
    refine CS.mono ?_
    rintro e w7 ⟨rfl, hE7⟩
    go_wp2
    go_ret
    exact ⟨rfl, hF6.trans hE7⟩
  · have hw : writeE bound ids = ([], 13) := by
      unfold writeE at he ⊢
      split at he
      · exact absurd rfl he
      · rename_i hc; rw [if_neg hc]
    have HW := hide hw
    clear he hw
    go_enter Try.func4, Try.ntmps4
    go_wp2_with fail
    refine C0.mono ?_
    rintro e w1 ⟨rfl, hE1⟩
    have C1 := HB.out bound ids A1 n1 c1 w1 hE1 hbd hn1 hc1 (by omega) (H1.out.later hE1)
    rw [HW.out] at C1
    clear C0
    go_wp2_with fail
    refine C1.mono ?_
    rintro e w2 ⟨v2, rfl, hO2, hE2⟩
    have hF2 := hE1.trans hE2
    obtain ⟨Ab, cb, rfl, _, _, _⟩ := hO2.form
    clear C1 hO2
    dsimp only at *
    go_wp2
    go_ret
    exact ⟨rfl, hF2⟩
end Go.Proofs.Ytdpeidijaohgcaa

namespace Go.Proofs.Ytdpeidijaohgcaa
open Go.RowKit Num Ef

/-- What was told stays so, where what is told is carried over into an older block of the call's own. -/
theorem AllPTo.form {W w' : World} {k n : Nat} {P : List Int × Nat × Int} {e : Ending} (h : AllPTo W k n P e w') :
    ∃ (kk : Int) (B1 : Option Addr) (m1 d1 : Nat) (B2 : Option Addr) (m2 d2 : Nat) (l : Int), e = .returned (.tuple #[.agg #[.int .i64 kk, .slice B1 m1 d1, .slice B2 m2 d2], .int .i64 l, .int .i64 P.2.2]) ∧ Ext W w' ∧
      ∀ (W0 wm w9 : World) (R : Nat), Ext W0 w9 → W0.heap.size ≤ W.heap.size → R < W.heap.size → Ext w' wm → wm.grownBy w9 (some R) →
        AllPTo W0 k n P (.returned (.tuple #[.agg #[.int .i64 kk, .slice B1 m1 d1, .slice B2 m2 d2], .int .i64 l, .int .i64 P.2.2])) w9 := by
  obtain ⟨hE, hyes, hno⟩ := h
  by_cases h0 : P.2.2 = 0
  · obtain ⟨A1, c1, A2, c2, rfl, hV, hl, l1, l2⟩ := hyes h0
    refine ⟨(k : Int), A1, n, c1, A2, n, c2, (P.2.1 : Int), by rw [h0], hE, fun W0 wm w9 R h9 hs hR hm hG => ⟨h9, fun _ => ⟨A1, c1, A2, c2, by rw [h0], ?_, hl, fun b o e => Nat.le_trans hs (l1 b o e), fun b o e => Nat.le_trans hs (l2 b o e)⟩, fun h => absurd h0 h⟩⟩
    obtain ⟨L, H, i1, i2, hP⟩ := (hV.ext hm).ex
    exact ⟨L, H, (i1.off hG (fun b o e => by have := l1 b o e; omega)).wide hG.size, (i2.off hG (fun b o e => by have := l2 b o e; omega)).wide hG.size, hP⟩
  · have := hno h0
    subst this
    exact ⟨0, none, 0, 0, none, 0, 0, 0, rfl, hE, fun W0 wm w9 R h9 _ _ _ _ => ⟨h9, fun h => absurd h h0, fun _ => rfl⟩⟩
theorem AllPTo.same {W w' : World} {k n : Nat} {P P' : List Int × Nat × Int} {e : Ending} (h : AllPTo W k n P e w') (e' : P = P') : AllPTo W k n P' e w' := e' ▸ h

set_option maxHeartbeats 4000000 in
set_option maxRecDepth 10000 in
theorem readParts_any (A : Option Addr) (N c : Nat) (b : List UInt8) (bd n : Nat) (w0 : World) (hc : N ≤ c) (hNb : N ≤ 100000) (hB : Bytes w0 w0.heap.size A N b) (hb : bd ≤ 20000) (hn : n ≤ 20000) :
    Calls Try.prog 35 #[.int .i64 (bd : Int), .int .i64 (n : Int), .slice A N c] w0 (AllPTo w0 (widE (bd : Int) n) n (readP b (bd : Int) n)) := by
  have CM := fun W => efMost_any bd n W hb hn
  have hE1 := extNew w0 (.cells #[.int .i64 0, .slice none 0 0, .slice none 0 0] 51)
  have hR1 := Whole.new w0 51 #[.int .i64 0, .slice none 0 0, .slice none 0 0]
  obtain ⟨w1, hw1⟩ : ∃ W, W = w0.alloc (.cells #[.int .i64 0, .slice none 0 0, .slice none 0 0] 51) := ⟨_, rfl⟩
  obtain ⟨g, hg⟩ : ∃ g, g = w0.heap.size := ⟨_, rfl⟩
  rw [← hw1, ← hg] at hR1
  rw [← hw1] at hE1
  have HW1 := hide hw1
  have HG := hide hg
  have HE1 := hide hE1
  have HR1 := hide hR1
  have HB := hide hB
  clear hw1 hg hE1 hR1 hB
  go_enter Try.func35, Try.ntmps35
  go_wp2_with fail
  rw [← HW1.out, ← HG.out]
  refine (CM _).mono ?_
  rintro e w2 ⟨⟨m, hm, rfl⟩, hQ2⟩
  have hE2 := HE1.out.trans hQ2.ext
  have hR2 := HR1.out.ext hQ2.ext
  have HgR := hide hR2.lt
  have HE2 := hide hE2
  have HR2 := hide hR2
  have hgw : w0.heap.size ≤ g := by rw [HG.out]; exact Nat.le_refl _
  clear CM hQ2 hE2 hR2 HE1 HR1
  have CA := fun W (hE : Ext w2 W) => readAll_any A N c b bd n W hc hNb (HB.out.below (C := w0.heap.size) (HE2.out.trans hE) (Nat.le_refl _) |>.mono (HE2.out.trans hE).le) hb hn
  by_cases hlt : m < N
  · have hltI : (m : Int) < (N : Int) := by omega
    have kc := fun W => run_headB W A N c .i64 (m : Int) (by omega) (by omega)
    have C1 := readAll_any (cutAt A c 0) m c (b.take m) bd n w2 (by omega) (by omega) (bytes_head ((HB.out.below (C := w0.heap.size) HE2.out (Nat.le_refl _)).mono HE2.out.le) (by omega) hc) hb hn
    have HT := hide (fun h => readP_take (l := b) (m := m) (n := n) (bound := (bd : Int)) (by omega) h)
    generalize readP (b.take m) (bd : Int) n = P1 at *
    simp only [Int.toNat_natCast] at kc
    go_wp2_with fail
    refine C1.mono ?_
    rintro e w3 h3
    obtain ⟨kk, B1, m1, d1, B2, m2, d2, l, rfl, hE3, hF3⟩ := h3.form
    have HF3 := hide hF3
    have hR3 := HR2.out.ext hE3
    clear C1 hF3 h3 kc
    obtain ⟨E1, hE1⟩ : ∃ E, E = P1.2.2 := ⟨_, rfl⟩
    rw [← hE1] at HF3 ⊢
    have HEE := hide hE1
    clear hE1
    have hW3 := Whole.new w3 51 #[.int .i64 0, .slice none 0 0, .slice none 0 0]
    have hX3 := extNew w3 (.cells #[.int .i64 0, .slice none 0 0, .slice none 0 0] 51)
    have hRx := hR3.ext hX3
    have hg3 := hR3.lt
    obtain ⟨g3, hgg⟩ : ∃ x, x = w3.heap.size := ⟨_, rfl⟩
    rw [← hgg] at hW3 hg3
    have HGG := hide hgg
    have HX3 := hide hX3
    have HE3 := hide hE3
    clear hgg hR3 hX3 hE3
    by_cases h1 : E1 = 1
    case neg =>
      have hb1 : (E1 != 1) = true := by rw [bne_iff_ne]; exact h1
      have HP := hide (HT.out (by rw [← HEE.out]; exact h1))
      clear h1 HT CA
      go_wp2_with (first
        | (refine wpList_storeW rfl 51 (.tmp 10) (.tmp 27) rfl (by rw [HGG.out]; rfl) rfl hW3 rfl parts_info (parts_one ..) ?_; intro w5 hW5 hG5 hS5; clear hS5; have hR5 := hRx.grown hG5 (by omega); have hX5 := hide (show Ext w3 w5 from Below.grown HX3.out hG5 HX3.out.le (fun k hk => by cases hk; rw [HGG.out]; exact Nat.le_refl _)); clear hW3 hG5 hRx)
        | (refine wpList_load_row rfl 51 (.tmp 10) rfl g3 (by rw [HGG.out]; rfl) _ _ _ _ hW5 Try.underlying51 rfl parts_info ?_)
        | (refine wpList_storeW rfl 51 (.tmp 6) (.tmp 32) rfl rfl rfl hR5 rfl parts_info (parts_one ..) ?_; intro w9 hW9 hG9 hS9; clear hS9))
      refine bodyPost_ret (results_row3 rfl _ rfl rfl rfl (run_loadVar_row _ _ _ _ _ _ _ hW9 Try.underlying51 rfl parts_info)) rfl ?_
      have hEs := (HE2.out.trans HE3.out).trans hX5.out
      rw [HP.out]
      exact HF3.out w0 w5 w9 g (Below.grown hEs hG9 hEs.le (fun k hk => by cases hk; exact hgw)) HE2.out.le HgR.out hX5.out hG9
    subst h1
    clear HT HF3 HEE
    go_wp2_with (refine wpList_storeW rfl 51 (.tmp 10) (.tmp 27) rfl (by rw [HGG.out]; rfl) rfl hW3 rfl parts_info (parts_one ..) ?_; intro w5 hW5 hG5 hS5; clear hS5; have hR5 := hRx.grown hG5 (by omega); have hX5 := hide (show Ext w3 w5 from Below.grown HX3.out hG5 HX3.out.le (fun k hk => by cases hk; rw [HGG.out]; exact Nat.le_refl _)); clear hW3 hG5 hRx)
    refine (CA _ (HE3.out.trans hX5.out)).mono ?_
    rintro e w6 h6
    clear CA
    obtain ⟨kk2, B3, m3, d3, B4, m4, d4, l2, rfl, hE6, hF6⟩ := h6.form
    have HF6 := hide hF6
    have hR6 := hR5.ext hE6
    have HE6 := hide hE6
    clear hF6 h6 hR5 hE6
    go_wp2_with (refine wpList_storeW rfl 51 (.tmp 6) (.tmp 39) rfl rfl rfl hR6 rfl parts_info (parts_one ..) ?_; intro w9 hW9 hG9 hS9; clear hS9)
    refine bodyPost_ret (results_row3 rfl _ rfl rfl rfl (run_loadVar_row _ _ _ _ _ _ _ hW9 Try.underlying51 rfl parts_info)) rfl ?_
    have hEs := ((HE2.out.trans HE3.out).trans hX5.out).trans HE6.out
    exact HF6.out w0 w6 w9 g (Below.grown hEs hG9 hEs.le (fun k hk => by cases hk; exact hgw)) ((HE2.out.trans HE3.out).trans hX5.out).le (Nat.lt_of_lt_of_le HgR.out (HE3.out.trans hX5.out).le) (Ext.refl _) hG9
  · have hltI : ¬ (m : Int) < (N : Int) := by omega
    have C6 := CA w2 (Ext.refl _)
    clear CA
    go_wp2_with fail
    refine C6.mono ?_
    rintro e w6 h6
    clear C6
    obtain ⟨kk2, B3, m3, d3, B4, m4, d4, l2, rfl, hE6, hF6⟩ := h6.form
    have HF6 := hide hF6
    have hR6 := HR2.out.ext hE6
    have HE6 := hide hE6
    clear hF6 h6 hE6
    go_wp2_with (refine wpList_storeW rfl 51 (.tmp 6) (.tmp 39) rfl rfl rfl hR6 rfl parts_info (parts_one ..) ?_; intro w9 hW9 hG9 hS9; clear hS9)
    refine bodyPost_ret (results_row3 rfl _ rfl rfl rfl (run_loadVar_row _ _ _ _ _ _ _ hW9 Try.underlying51 rfl parts_info)) rfl ?_
    have hEs := HE2.out.trans HE6.out
    exact HF6.out w0 w6 w9 g (Below.grown hEs hG9 hEs.le (fun k hk => by cases hk; exact hgw)) HE2.out.le HgR.out (Ext.refl _) hG9
end Go.Proofs.Ytdpeidijaohgcaa

namespace Go.Proofs.Ytdpeidijaohgcaa
open Go.RowKit

theorem madeZeros (n : Nat) : (madeCells (Value.int .u8 0).cells n).toList = (List.replicate n (0 : UInt8)).map byteV := by
  have : madeCells (Value.int .u8 0).cells n = ((List.replicate n (0 : UInt8)).map byteV).toArray := by
    apply Array.ext
    · simp [size_madeCells]
    · intro i h1 h2
      simp [madeCells, Value.cells, byteV, Nat.mod_one]
  rw [this]
theorem fix_step (j k x : Nat) (h : j < k) : (Num.fix j x ++ List.replicate (k - j) (0 : UInt8)).set j (UInt8.ofNat (x / 256 ^ j % 256)) = Num.fix (j + 1) x ++ List.replicate (k - (j + 1)) 0 := by
  rw [Num.fix_snoc, List.set_append, if_neg (by rw [Num.fix_len]; omega), Num.fix_len, Nat.sub_self, show k - j = (k - (j + 1)) + 1 by omega, List.replicate_succ, List.set_cons_zero, List.append_assoc]
  rfl

end Go.Proofs.Ytdpeidijaohgcaa

namespace Go.Proofs.Ytdpeidijaohgcaa
open Go.RowKit

end Go.Proofs.Ytdpeidijaohgcaa

namespace Go.Proofs.Ytdpeidijaohgcaa
open Go.RowKit

/-- n bytes that lie in block r, which is not block g. -/
def RowIn (w : World) (g r : Nat) (A : Option Addr) (n : Nat) (l : List UInt8) : Prop :=
  l.length = n ∧ (n = 0 ∨ r ≠ g ∧ ∃ off, A = some ⟨r, off, none⟩ ∧ ∀ i, i < n → w.cell? ⟨r, off + i, none⟩ = some (.int .u8 ((l.getD i 0).toNat : Int)))
section
variable {w w' : World} {g r n c q p : Nat} {A : Option Addr} {l b : List UInt8} {e : Int} {ob : Option Nat}
theorem RowIn.bytes (h : RowIn w g r A n l) : Bytes w w.heap.size A n l := by
  refine ⟨h.1, ?_⟩
  rcases h.2 with h0 | ⟨_, off, rfl, hc⟩
  · exact .inl h0
  · rcases Nat.eq_zero_or_pos n with h0 | h0
    · exact .inl h0
    · exact .inr ⟨r, off, rfl, World.block_lt_of_cell? w ⟨r, off + 0, none⟩ (hc 0 h0), hc⟩
theorem RowIn.at (h : RowIn w g r A n l) (hb : w'.heap[r]? = w.heap[r]?) : RowIn w' g r A n l := by
  refine ⟨h.1, ?_⟩
  rcases h.2 with h0 | ⟨hg, off, rfl, hc⟩
  · exact .inl h0
  · exact .inr ⟨hg, off, rfl, fun i hi => by rw [World.cell?_of_block (a := ⟨r, off + i, none⟩) hb]; exact hc i hi⟩
theorem RowIn.mod (h : RowIn w g r A n l) (hM : Mod w w' g ob) (hr : r < w.heap.size) (ho : ob ≠ some r) : RowIn w' g r A n l := by
  by_cases hg : r = g
  · refine ⟨h.1, ?_⟩
    rcases h.2 with h0 | ⟨hn, _⟩
    · exact .inl h0
    · exact absurd hg hn
  · exact h.at (hM.block r hr hg (fun e => ho e.symm))
theorem RowIn.take (h : RowIn w g r A n l) {k : Nat} (hk : k ≤ n) : RowIn w g r A k (l.take k) := by
  refine ⟨by rw [List.length_take, h.1]; omega, ?_⟩
  rcases h.2 with h0 | ⟨hg, off, hA, hc⟩
  · exact .inl (by omega)
  · refine .inr ⟨hg, off, hA, fun i hi => ?_⟩
    rw [hc i (by omega)]
    simp [List.getD_eq_getElem?_getD, hi]
theorem RowIn.drop (h : RowIn w g r A n l) {k : Nat} (hk : k ≤ n) (hc : n ≤ c) : RowIn w g r (cutAt A c k) (n - k) (l.drop k) := by
  refine ⟨by rw [List.length_drop, h.1], ?_⟩
  by_cases hkn : k = n
  · exact .inl (by omega)
  rcases h.2 with h0 | ⟨hg, off, rfl, hcell⟩
  · exact .inl (by omega)
  · refine .inr ⟨hg, off + k, ?_, fun i hi => ?_⟩
    · simp [cutAt, show ¬ c = k by omega, Addr.add]
    · rw [Nat.add_assoc, hcell (k + i) (by omega)]
      simp [List.getD_eq_getElem?_getD]

/-- Block g is the program's cursor over the bytes b (its row lies in block r), at the place q, with the error e. -/
def PC (w : World) (g r : Nat) (b : List UInt8) (q : Nat) (e : Int) : Prop :=
  ∃ A c, Whole w g 80 #[.slice A (b.length - q) c, .int .i64 (q : Int), .int .i64 e] ∧ b.length - q ≤ c ∧ RowIn w g r A (b.length - q) (b.drop q) ∧ r < w.heap.size ∧ q ≤ b.length ∧ b.length ≤ 1000000
theorem PC.lt (h : PC w g r b q e) : g < w.heap.size := by obtain ⟨_, _, h, _⟩ := h; exact h.lt
theorem PC.rlt (h : PC w g r b q e) : r < w.heap.size := by obtain ⟨_, _, _, _, _, h, _⟩ := h; exact h
theorem PC.bounds (h : PC w g r b q e) : q ≤ b.length ∧ b.length ≤ 1000000 := by obtain ⟨_, _, _, _, _, _, h⟩ := h; exact h
theorem PC.ext (h : PC w g r b q e) (hE : Ext w w') : PC w' g r b q e := by
  obtain ⟨A, c, hW, hc, hR, hr, h⟩ := h
  exact ⟨A, c, hW.ext hE, hc, hR.at (hE.block r hr), Nat.lt_of_lt_of_le hr hE.le, h⟩
theorem PC.cells (h : PC w g r b q e) : ∃ A c, w.cell? ⟨g, 0, none⟩ = some (.slice A (b.length - q) c) ∧ w.cell? ⟨g, 1, none⟩ = some (.int .i64 (q : Int)) ∧ w.cell? ⟨g, 2, none⟩ = some (.int .i64 e) ∧
    w.frozen? ⟨g, 0, none⟩ = false ∧ w.frozen? ⟨g, 1, none⟩ = false ∧ w.frozen? ⟨g, 2, none⟩ = false ∧ b.length - q ≤ c ∧ RowIn w g r A (b.length - q) (b.drop q) := by
  obtain ⟨A, c, hW, hc, hR, _⟩ := h
  exact ⟨A, c, hW.cell 0, hW.cell 1, hW.cell 2, hW.frozen 0, hW.frozen 1, hW.frozen 2, hc, hR⟩
/-- The error is stored. -/
theorem PC.setErr {e' : Int} (h : PC w g r b q e) : PC (w.setCell ⟨g, 2, none⟩ (.int .i64 e')) g r b q e' := by
  obtain ⟨A, c, hW, hc, hR, hr, h⟩ := h
  exact ⟨A, c, hW.set 2 _, hc, hR.mod (ob := none) (Mod.ofRow (grown_setCell w g 2 _)) hr (by simp), by simpa using hr, h⟩
end

/-- A function that has a body is entered, whatever value holds it. -/
def Entered (K : Nat) : Prop := ∀ (args : Array Value) (W : World), (callFunc K args).run Try.prog W = .ok (.enter K args) W
theorem entered_of {K : Nat} {fn : Func} {c : Code} (hf : Try.prog.funcs[K]? = some fn) (hname : (fn.name == "runtime.NumGoroutine") = false) (hb : fn.body = some c) : Entered K := by
  intro args W
  have h1 : fn.name ≠ "runtime.NumGoroutine" := by simpa using hname
  simp [callFunc, hf, h1, hb]

/-- The cursor's calls go on, if there is no error so far. -/
theorem read_any {w : World} {g r q K : Nat} {b : List UInt8} {cap : Array Value} (hK : Entered K) (h : PC w g r b q 0) {R : Int → World → Prop}
    (hC : Calls Try.prog K cap w fun e' w' => ∃ er q', e' = .returned (.int .i64 er) ∧ PC w' g r b q' 0 ∧ R er w') :
    Calls Try.prog 47 #[.pointer (some ⟨g, 0, none⟩), .func (.func K) #[] cap] w fun e' w' => e' = .returned (.tuple #[]) ∧ ∃ er q' w2, PC w2 g r b q' 0 ∧ R er w2 ∧ w' = w2.setCell ⟨g, 2, none⟩ (.int .i64 er) := by
  obtain ⟨A, c, c0, c1, c2, f0, f1, f2, hc, hR⟩ := h.cells
  have hE := fun W => hK cap W
  clear h c0 c1 f0 f1 f2 hc hR
  go_enter Try.func47, Try.ntmps47
  go_wp2_with fail
  refine hC.mono ?_
  rintro e' w2 ⟨er, q', rfl, hP, hr⟩
  obtain ⟨_, _, _, _, d2, _, _, k2, _, _⟩ := hP.cells
  go_wp2
  go_end0
  exact ⟨rfl, er, q', w2, hP, hr, rfl⟩

/-- There is an error: nothing goes on. -/
theorem read_stuck {w : World} {g r q K : Nat} {b : List UInt8} {cap : Array Value} {e : Int} (h : PC w g r b q e) (he : e ≠ 0) :
    Calls Try.prog 47 #[.pointer (some ⟨g, 0, none⟩), .func (.func K) #[] cap] w fun e' w' => e' = .returned (.tuple #[]) ∧ w = w' := by
  obtain ⟨A, c, c0, c1, c2, f0, f1, f2, hc, hR⟩ := h.cells
  have he' : (e != 0) = true := by simpa using he
  clear h c0 c1 f0 f1 f2 hc hR he
  go_enter Try.func47, Try.ntmps47
  go_wp2
  refine bodyPost_ret (results_none rfl _ _ _) rfl ?_
  exact ⟨rfl, rfl⟩

/-- There is no cursor: nothing goes on. -/
theorem read_nil {w : World} {K : Nat} {cap : Array Value} :
    Calls Try.prog 47 #[.pointer none, .func (.func K) #[] cap] w fun e' w' => e' = .returned (.tuple #[]) ∧ w = w' := by
  go_enter Try.func47, Try.ntmps47
  go_wp2
  refine bodyPost_ret (results_none rfl _ _ _) rfl ?_
  exact ⟨rfl, rfl⟩
end Go.Proofs.Ytdpeidijaohgcaa

namespace Go.Proofs.Ytdpeidijaohgcaa
open Go.RowKit

/-- Behind a closure that goes on: block t holds what it told, the cursor stands at q. -/
def Told (w : World) (g r t : Nat) (T : TypeId) (b : List UInt8) (v : Value) (q : Nat) (w' : World) : Prop := PC w' g r b q 0 ∧ Whole w' t T #[v] ∧ Mod w w' g (some t)
theorem Told.refl {w : World} {g r t q : Nat} {T : TypeId} {b : List UInt8} {v : Value} (h : PC w g r b q 0) (ht : Whole w t T #[v]) : Told w g r t T b v q w := ⟨h, ht, Mod.refl _ _ _⟩
theorem Told.from {w w' w'' : World} {g r t q : Nat} {T : TypeId} {b : List UInt8} {v : Value} (hE : Ext w w') (h : Told w' g r t T b v q w'') : Told w g r t T b v q w'' := ⟨h.1, h.2.1, (Mod.ofExt hE).trans h.2.2 (.inl rfl)⟩

/-- What is told is stored: the cursor stays. -/
theorem PC.told {w w' : World} {g r t q : Nat} {b : List UInt8} {e : Int} (h : PC w g r b q e) (hM : Mod w w' g (some t)) (hG : w'.heap[g]? = w.heap[g]?) (htr : t ≠ r) : PC w' g r b q e := by
  obtain ⟨A, c, hW, hc, hR, hr, h⟩ := h
  exact ⟨A, c, hG.trans hW, hc, hR.mod hM hr (by simpa using htr), Nat.lt_of_lt_of_le hr hM.size, h⟩

/-- The bytes ahead are taken. -/
theorem PC.moved {w : World} {g r q p c : Nat} {b : List UInt8} {e z : Int} {A : Option Addr} (h : PC w g r b q e) (hR : RowIn w g r A (b.length - p) (b.drop p)) (hc : b.length - p ≤ c) (hp : p ≤ b.length) (hz : z = (p : Int)) :
    PC ((w.setCell ⟨g, 1, none⟩ (.int .i64 z)).setCell ⟨g, 0, none⟩ (.slice A (b.length - p) c)) g r b p e := by
  obtain ⟨A0, c0, hW, _, _, hr, _, hl⟩ := h
  subst hz
  refine ⟨A, c, (hW.set 1 _).set 0 _, hc, ?_, by simpa using hr, hp, hl⟩
  have h1 := hR.mod (ob := none) (Mod.ofRow (grown_setCell w g 1 (.int .i64 (p : Int)))) hr (by simp)
  exact h1.mod (ob := none) (Mod.ofRow (grown_setCell _ g 0 _)) (by simpa using hr) (by simp)
theorem PC.movedMod {w : World} {g r q : Nat} {b : List UInt8} {e : Int} (_h : PC w g r b q e) (u v : Value) {ob : Option Nat} : Mod w ((w.setCell ⟨g, 1, none⟩ u).setCell ⟨g, 0, none⟩ v) g ob :=
  (Mod.ofRow (ob := ob) (grown_setCell w g 1 u)).trans (Mod.ofRow (grown_setCell _ g 0 v)) (.inl rfl)
theorem PC.wholeFar {w : World} {g r q t : Nat} {b : List UInt8} {e : Int} (_h : PC w g r b q e) {T : TypeId} {cs : Array Value} (hW : Whole w t T cs) (htg : t ≠ g) {u v : Value} : Whole ((w.setCell ⟨g, 1, none⟩ u).setCell ⟨g, 0, none⟩ v) t T cs :=
  (hW.far htg 1 u).far htg 0 v

theorem takerInt_any (g t : Nat) (w : World) :
    Calls Try.prog 50 #[.pointer (some ⟨g, 0, none⟩), .pointer (some ⟨t, 0, none⟩)] w fun e w' =>
      ∃ Bt Bc, e = .returned (.func (.func 58) #[] #[.pointer (some ⟨Bt, 0, none⟩), .pointer (some ⟨Bc, 0, none⟩)]) ∧ w.heap.size ≤ Bt ∧ w.heap.size ≤ Bc ∧
        w'.cell? ⟨Bt, 0, none⟩ = some (.pointer (some ⟨t, 0, none⟩)) ∧ w'.cell? ⟨Bc, 0, none⟩ = some (.pointer (some ⟨g, 0, none⟩)) ∧ Ext w w' := by
  go_enter Try.func50, Try.ntmps50
  go_wp2
  go_ret
  have h1 := cellNew (w.alloc (.cells #[.pointer (some ⟨g, 0, none⟩)] 60)) #[.pointer (some ⟨t, 0, none⟩)] 85 (0, 0) 0
  rw [World.size_alloc] at h1
  exact ⟨w.heap.size + 1, w.heap.size, rfl, by omega, by omega, h1, ((extNew _ _).cell (i := 0) (by simp)).trans (cellNew w _ _ _ 0), (extNew w _).trans (extNew _ _)⟩

set_option maxHeartbeats 2000000 in
set_option maxRecDepth 100000 in
theorem tellInt_any {w : World} {g r t Bt Bc q p c : Nat} {b : List UInt8} {A : Option Addr} {v0 : Value} {x : Int} (h : PC w g r b q 0) (hqp : q ≤ p) (hp : p ≤ b.length) (hBt : w.cell? ⟨Bt, 0, none⟩ = some (.pointer (some ⟨t, 0, none⟩))) (hBc : w.cell? ⟨Bc, 0, none⟩ = some (.pointer (some ⟨g, 0, none⟩)))
    (ht : Whole w t 3 #[v0]) (htg : t ≠ g) (htr : t ≠ r) (hct : Bc ≠ t) (hcg : Bc ≠ g) (hR : RowIn w g r A (b.length - p) (b.drop p)) (hc : b.length - p ≤ c) :
    Calls Try.prog 58 #[.int .i64 x, .slice A (b.length - p) c, .pointer (some ⟨Bt, 0, none⟩), .pointer (some ⟨Bc, 0, none⟩)] w fun e w' => e = .returned (.int .i64 0) ∧ Told w g r t 3 b (.int .i64 x) p w' := by
  obtain ⟨A0, c0, d0, d1, d2, f0, f1, f2, hc0, hR0⟩ := h.cells
  obtain ⟨hq, hl⟩ := h.bounds
  have htlt := ht.lt
  have hrlt := h.rlt
  have hglt := h.lt
  go_enter Try.func58, Try.ntmps58
  go_wp2_with (refine wpList_storeC rfl 3 (.tmp 9) (.tmp 8) rfl #[.int .i64 x] rfl rfl ht (by simp) (by kernel_rfl) rfl rfl rfl ?_; intro w1 hW1 hG1; have hM1 : Mod w w1 g (some t) := Mod.ofOwn hG1; have hP1 := h.told hM1 (hG1.block g hglt (by simpa using fun e => htg e.symm)) htr; obtain ⟨A1, c1, e0, e1, e2, k0, k1, k2, hc1, hR1⟩ := hP1.cells; have hBc1 := (hM1.cell (x := Bc) (i := 0) (World.block_lt_of_cell? w ⟨Bc, 0, none⟩ hBc) hcg (by simpa using fun e => hct e.symm)).trans hBc)
  go_still_tail 13, (by kernel_rfl)
  change wpList _ _ _ _ _ w1.drew
  have hE2 : Ext w1 w1.drew := (Ext.refl w1).drew
  have hP2 := hP1.ext hE2
  have hW2 := hW1.ext hE2
  have hM2 : Mod w w1.drew g (some t) := hM1.trans (Mod.ofExt hE2) (.inl rfl)
  have hBc2 := (hE2.cell (i := 0) (World.block_lt_of_cell? w1 ⟨Bc, 0, none⟩ hBc1)).trans hBc1
  clear hBc1 hG1 e0 e1 e2 k0 k1 k2
  generalize w1.drew = w2 at *
  obtain ⟨A2, c2, e0, e1, e2, k0, k1, k2, hc2, hR2⟩ := hP2.cells
  clear hR1 hR2 hR0 d0 d1 d2 f0 f1 f2
  go_wp2_with fail
  go_ret
  have hR2 := hR.mod hM2 hrlt (by simpa using htr)
  exact ⟨rfl, hP2.moved hR2 hc hp (by omega), hP2.wholeFar hW2 htg, hM2.trans (hP2.movedMod _ _) (.inl rfl)⟩
end Go.Proofs.Ytdpeidijaohgcaa

namespace Go.Proofs.Ytdpeidijaohgcaa
open Go.RowKit

theorem Num.or_seven (X i : Nat) (c : UInt8) (hX : X < 128 ^ i) (hi : i ≤ 9) (h9 : i = 9 → c.toNat = 1) :
    bits .or .u64 (X : Int) (IntKind.u64.wrap (IntKind.u64.wrap (bits .andNot .u8 (c.toNat : Int) 128) * 2 ^ (7 * i))) = ((X + c.toNat % 128 * 128 ^ i : Nat) : Int) := by
  have hc := c.toNat_lt
  have e1 : bits .andNot .u8 (c.toNat : Int) 128 = ((c.toNat % 128 : Nat) : Int) := by
    rw [show (128 : Int) = ((128 : Nat) : Int) from rfl, u8_andNot_nat _ _ hc (by decide), show (255 - 128 : Nat) = 2 ^ 7 - 1 from rfl, Nat.and_two_pow_sub_one_eq_mod]
  have hp : (128 : Nat) ^ i = 2 ^ (7 * i) := by rw [Nat.pow_mul]
  have hlt : c.toNat % 128 * 2 ^ (7 * i) < 2 ^ 64 := by
    rcases Nat.lt_or_ge i 9 with h | h
    · have h1 : c.toNat % 128 < 128 := Nat.mod_lt _ (by decide)
      have h2 : 2 ^ (7 * i) ≤ 2 ^ 56 := Nat.pow_le_pow_right (by decide) (by omega)
      have h3 : c.toNat % 128 * 2 ^ (7 * i) ≤ 127 * 2 ^ 56 := Nat.mul_le_mul (by omega) h2
      omega
    · obtain rfl : i = 9 := by omega
      rw [h9 rfl]
      decide
  have e2 : IntKind.u64.wrap (((c.toNat % 128 : Nat) : Int) * 2 ^ (7 * i)) = ((c.toNat % 128 * 2 ^ (7 * i) : Nat) : Int) := by
    have : ((c.toNat % 128 : Nat) : Int) * 2 ^ (7 * i) = ((c.toNat % 128 * 2 ^ (7 * i) : Nat) : Int) := by simp only [Int.natCast_mul, Int.natCast_pow]; rfl
    rw [this, IntKind.wrap_u64]
    omega
  have hX' : X < 2 ^ 64 := Nat.lt_of_lt_of_le hX (by rw [hp]; exact Nat.pow_le_pow_right (by decide) (by omega))
  have e3 : IntKind.u64.wrap ((c.toNat % 128 : Nat) : Int) = ((c.toNat % 128 : Nat) : Int) := by rw [IntKind.wrap_u64]; omega
  rw [e1, e3, e2, u64_or_nat _ _ hX' hlt, hp, Nat.mul_comm (c.toNat % 128), Nat.or_comm, ← Nat.two_pow_add_eq_or_of_lt (by rw [← hp]; exact hX), Nat.add_comm]

/-- 'r[l:]' of a row. -/
theorem run_cutR (W : World) (a : Option Addr) (n c : Nat) (k : IntKind) (l : Int) (h0 : 0 ≤ l) (h1 : l ≤ n) :
    (Instr.slice 78 (.slice a n c) (some (.int k l)) none none).run Try.prog W = .ok (.slice (cutAt a c l.toNat) (n - l.toNat) (c - l.toNat)) W := by
  rw [run_slice_l (P := Try.prog) (w := W) 78 a n c (by kernel_rfl) k l h0 h1]
  have hs : (sizeOf (Try.prog.elem 78)).run Try.prog W = .ok 1 W := by kernel_rfl
  rw [hs]
  simp [Result.andThen, sliced, cutAt]
attribute [local go_sem ↓] run_cutR

set_option maxHeartbeats 2000000 in
set_option maxRecDepth 100000 in
theorem curNumber_any {w : World} {A : Option Addr} {c K : Nat} {l : List UInt8} {cap : Array Value} {R : Ending → World → Prop} (hK : Entered K) (hb : Bytes w w.heap.size A l.length l) (hl : l.length ≤ 1000000) (hc : l.length ≤ c)
    (hR : ∀ e w', R e w' → ∃ er, e = .returned (.int .i64 er))
    (hok : (Num.scan l 0).2.2 = 0 → Calls Try.prog K (#[.int .u64 (((Num.scan l 0).1 : Nat) : Int), .slice (cutAt A c (Num.scan l 0).2.1) (l.length - (Num.scan l 0).2.1) (c - (Num.scan l 0).2.1)] ++ cap) w R)
    (hbad : (Num.scan l 0).2.2 ≠ 0 → R (.returned (.int .i64 (Num.scan l 0).2.2)) w) :
    Calls Try.prog 56 #[.slice A l.length c, .func (.func K) #[] cap] w R := by
  have hE := fun args W => hK args W
  obtain ⟨_, hb⟩ := hb
  rcases hb with h0 | ⟨blk, off, rfl, hB, hcell⟩
  · obtain rfl := List.eq_nil_of_length_eq_zero h0
    have hbad' := hide (hbad (by decide))
    clear hok hbad
    go_enter Try.func56, Try.ntmps56
    go_wp2
    go_loop [5, 10] (fun x i => x = .int .u64 0 ∧ i = .int .i64 0) (fun _ _ => 0)
    case atStart => exact ⟨rfl, rfl⟩
    case round =>
      obtain ⟨rfl, rfl⟩ := hrel
      go_wp2
      exact hbad'.out
  · go_enter Try.func56, Try.ntmps56
    go_wp2
    go_loop [5, 10] (fun x i => ∃ (X j : Nat), x = .int .u64 (X : Int) ∧ i = .int .i64 (j : Int) ∧ X < 128 ^ j ∧ j ≤ 9 ∧ j ≤ l.length ∧ Num.scanF l 0 (10 - j) j X = Num.scan l 0) (fun _ i => l.length - (intOf i).toNat)
    case atStart => exact ⟨0, 0, rfl, rfl, by decide, by omega, by omega, rfl⟩
    case round =>
      obtain ⟨X, j, rfl, rfl, hX, hj, hjl, hs⟩ := hrel
      obtain ⟨f, hf⟩ : ∃ f, 10 - j = f + 1 := ⟨9 - j, by omega⟩
      rw [hf, Num.scanF, Nat.zero_add] at hs
      by_cases hlt : j < l.length
      · rw [if_neg (by omega)] at hs
        have hcj := hcell j hlt
        generalize l.getD j 0 = bt at *
        have hbt := bt.toNat_lt
        clear hcell
        by_cases h2 : (j = 9 ∧ bt.toNat ≠ 1) ∨ (0 < j ∧ bt.toNat = 0)
        · rw [if_pos h2] at hs
          rw [← hs] at hbad hok
          have hbad' := hide (hbad (by decide))
          clear hbad hok hs hX hf
          rcases h2 with ⟨h9, h1⟩ | ⟨h0, h1⟩
          · subst h9
            have h1' : ((bt.toNat : Int) != 1) = true := by simp; omega
            clear h1
            go_wp2_with fail
            exact hbad'.out
          · rw [h1] at hcj
            by_cases h9 : j = 9
            · subst h9
              go_wp2_with fail
              exact hbad'.out
            · have h9' : ((j : Int) == 9) = false := by simp; omega
              have h0' : (0 : Int) < (j : Int) := by omega
              clear h1
              go_wp2_with fail
              exact hbad'.out
        · rw [if_neg h2] at hs
          have HO := Num.or_seven X j bt hX hj (fun h => by omega)
          have hw7 : IntKind.i64.wrap (7 * (j : Int)) = ((7 * j : Nat) : Int) := by rw [IntKind.wrap_i64]; omega
          have hcases : (((j : Int) == 9) = true ∧ ((bt.toNat : Int) != 1) = false ∧ (0 < (j : Int)) ∧ ((bt.toNat : Int) == 0) = false) ∨ (((j : Int) == 9) = false ∧ 0 < (j : Int) ∧ ((bt.toNat : Int) == 0) = false) ∨ (((j : Int) == 9) = false ∧ ¬ (0 < (j : Int))) := by
            simp only [beq_iff_eq, beq_eq_false_iff_ne, bne_eq_false_iff_eq, ne_eq]
            omega
          have hNX := Num.part_lt (c := bt.toNat) hX
          clear h2
          by_cases h128 : bt.toNat < 128
          · rw [if_pos h128] at hs
            rw [← hs] at hok
            have hok' := hide (hok rfl)
            clear hok hbad hs hf hNX hX
            generalize X + bt.toNat % 128 * 128 ^ j = NX at *
            have h128' : (bt.toNat : Int) < 128 := by omega
            have i0 : (0 : Int) ≤ (j : Int) + 1 := by omega
            have i1 : (j : Int) + 1 ≤ (l.length : Int) := by omega
            have i2 : ((j : Int) + 1).toNat = j + 1 := by omega
            clear h128
            rcases hcases with ⟨a1, a2, a3, a4⟩ | ⟨a1, a3, a4⟩ | ⟨a1, a3⟩
            all_goals (
              go_wp2_with fail
              refine hok'.out.mono ?_
              intro e w2 hr
              obtain ⟨er, rfl⟩ := hR _ _ hr
              go_wp2
              exact hr)
          · rw [if_neg h128] at hs
            have hs' := hide hs
            have hf' := hide (show 10 - (j + 1) = f by omega)
            have hj8 : j + 1 ≤ 9 := by
              rcases hcases with ⟨a1, a2, _⟩ | ⟨a1, _⟩ | ⟨a1, _⟩
              · simp only [bne_eq_false_iff_eq] at a2
                omega
              · simp only [beq_eq_false_iff_ne, ne_eq] at a1
                omega
              · simp only [beq_eq_false_iff_ne, ne_eq] at a1
                omega
            clear hs hf hok hbad
            generalize X + bt.toNat % 128 * 128 ^ j = NX at *
            have hNX' := hide hNX
            have h128' : ¬ ((bt.toNat : Int) < 128) := by omega
            clear h128 hX hNX
            rcases hcases with ⟨a1, a2, a3, a4⟩ | ⟨a1, a3, a4⟩ | ⟨a1, a3⟩
            all_goals (
              go_wp2_with fail
              go_round
              case rel => exact ⟨NX, j + 1, rfl, by go_num, hNX'.out, hj8, by omega, by rw [hf'.out]; exact hs'.out⟩
              case measure => simp [intOf]; omega)
      · obtain rfl : j = l.length := by omega
        rw [if_pos (by omega)] at hs
        rw [← hs] at hbad hok
        have hbad' := hide (hbad (by decide))
        clear hbad hok hs hX hf
        go_wp2
        exact hbad'.out
end Go.Proofs.Ytdpeidijaohgcaa

namespace Go.Proofs.Ytdpeidijaohgcaa
open Go.RowKit
attribute [local go_sem ↓] run_cutR

/-- 'r[:h]' of a row. -/
theorem run_headR (W : World) (a : Option Addr) (n c : Nat) (k : IntKind) (h : Int) (h0 : 0 ≤ h) (h1 : h ≤ c) :
    (Instr.slice 78 (.slice a n c) none (some (.int k h)) none).run Try.prog W = .ok (.slice (cutAt a c 0) h.toNat c) W := by
  rw [run_slice_h (P := Try.prog) (w := W) 78 a n c (by kernel_rfl) k h h0 h1]
  have hs : (sizeOf (Try.prog.elem 78)).run Try.prog W = .ok 1 W := by kernel_rfl
  rw [hs]
  simp [Result.andThen, sliced, cutAt]
attribute [local go_sem ↓] run_headR

theorem entered_count1 : Entered 57 := entered_of Try.func57 (by kernel_rfl) rfl
set_option maxHeartbeats 2000000 in
set_option maxRecDepth 100000 in
theorem count1_any {w : World} {A : Option Addr} {m c K x Bm Bk : Nat} {most : Int} {cap : Array Value} {R : Ending → World → Prop} (hK : Entered K) (hm : most ≤ 9223372036854775807) (hx : x < 18446744073709551616)
    (hBm : w.cell? ⟨Bm, 0, none⟩ = some (.int .i64 most)) (hBk : w.cell? ⟨Bk, 0, none⟩ = some (.func (.func K) #[] cap))
    (hR : ∀ e w', R e w' → ∃ er, e = .returned (.int .i64 er))
    (hbig : most < (x : Int) → R (.returned (.int .i64 6)) w)
    (hok : (x : Int) ≤ most → Calls Try.prog K (#[.int .i64 (x : Int), .slice A m c] ++ cap) w R) :
    Calls Try.prog 57 #[.int .u64 (x : Int), .slice A m c, .pointer (some ⟨Bm, 0, none⟩), .pointer (some ⟨Bk, 0, none⟩)] w R := by
  have hE := fun args W => hK args W
  by_cases h0 : most < 0
  · have H := hide (hbig (by omega))
    clear hbig hok hx
    go_enter Try.func57, Try.ntmps57
    go_wp2
    exact H.out
  · obtain ⟨k, rfl⟩ := Int.eq_ofNat_of_zero_le (show 0 ≤ most by omega)
    have hwk : IntKind.u64.wrap (k : Int) = (k : Int) := by rw [IntKind.wrap_u64]; omega
    by_cases h1 : (k : Int) < (x : Int)
    · have H := hide (hbig h1)
      clear hbig hok hx h0
      go_enter Try.func57, Try.ntmps57
      go_wp2
      exact H.out
    · have H := hide (hok (by omega))
      have hwx : IntKind.i64.wrap (x : Int) = (x : Int) := by rw [IntKind.wrap_i64]; omega
      clear hbig hok h0
      go_enter Try.func57, Try.ntmps57
      go_wp2_with fail
      refine H.out.mono ?_
      intro e w2 hr
      obtain ⟨er, rfl⟩ := hR _ _ hr
      go_wp2
      exact hr
end Go.Proofs.Ytdpeidijaohgcaa

namespace Go.Proofs.Ytdpeidijaohgcaa
open Go.RowKit
attribute [local go_sem ↓] run_cutR

theorem Num.scan_lt (l : List UInt8) (q : Nat) : (Num.scan l q).1 < 18446744073709551616 := (Num.scan_facts l q).1

set_option maxHeartbeats 2000000 in
set_option maxRecDepth 100000 in
theorem count_any {w : World} {A : Option Addr} {c K : Nat} {l : List UInt8} {most : Int} {cap : Array Value} {R : Ending → World → Prop} (hK : Entered K) (hm : most ≤ 9223372036854775807) (hb : Bytes w w.heap.size A l.length l) (hl : l.length ≤ 1000000) (hc : l.length ≤ c)
    (hR : ∀ e w', R e w' → ∃ er, e = .returned (.int .i64 er))
    (hbad : ∀ er w', Ext w w' → (Num.scan l 0).2.2 = er ∧ er ≠ 0 ∨ (Num.scan l 0).2.2 = 0 ∧ most < ((Num.scan l 0).1 : Int) ∧ er = 6 → R (.returned (.int .i64 er)) w')
    (hok : (Num.scan l 0).2.2 = 0 → ((Num.scan l 0).1 : Int) ≤ most → ∀ w', Ext w w' →
      Calls Try.prog K (#[.int .i64 (((Num.scan l 0).1 : Nat) : Int), .slice (cutAt A c (Num.scan l 0).2.1) (l.length - (Num.scan l 0).2.1) (c - (Num.scan l 0).2.1)] ++ cap) w' R) :
    Calls Try.prog 49 #[.slice A l.length c, .int .i64 most, .func (.func K) #[] cap] w R := by
  have hE1 := extNew w (.cells #[.int .i64 most] 3)
  have hE2 := extNew (w.alloc (.cells #[.int .i64 most] 3)) (.cells #[.func (.func K) #[] cap] 83)
  have hE := hE1.trans hE2
  have hBm : ((w.alloc (.cells #[.int .i64 most] 3)).alloc (.cells #[.func (.func K) #[] cap] 83)).cell? ⟨w.heap.size, 0, none⟩ = some (.int .i64 most) := (hE2.cell (by simp)).trans (cellNew w _ _ _ 0)
  have hBk : ((w.alloc (.cells #[.int .i64 most] 3)).alloc (.cells #[.func (.func K) #[] cap] 83)).cell? ⟨w.heap.size + 1, 0, none⟩ = some (.func (.func K) #[] cap) := by
    have := cellNew (w.alloc (.cells #[.int .i64 most] 3)) #[.func (.func K) #[] cap] 83 (0, 0) 0
    rwa [World.size_alloc] at this
  have H := hide (curNumber_any (K := 57) (cap := #[.pointer (some ⟨w.heap.size, 0, none⟩), .pointer (some ⟨w.heap.size + 1, 0, none⟩)]) (R := R) entered_count1 (hE.bytes hb) hl hc hR
    (fun h0 => count1_any hK hm (Num.scan_lt l 0) hBm hBk hR (fun h6 => hbad 6 _ hE (.inr ⟨h0, h6, rfl⟩)) (fun hle => hok h0 hle _ hE))
    (fun h0 => hbad _ _ hE (.inl ⟨rfl, h0⟩)))
  clear hbad hok hE1 hE2 hE hBm hBk hb
  go_enter Try.func49, Try.ntmps49
  go_wp2_with fail
  refine H.out.mono ?_
  intro e w2 hr
  obtain ⟨er, rfl⟩ := hR _ _ hr
  go_wp2
  exact hr

theorem Num.low_snoc (l : List UInt8) (c : UInt8) : Num.low (l ++ [c]) = Num.low l + c.toNat * 256 ^ l.length := by
  induction l with
  | nil => simp [Num.low]
  | cons d l ih => rw [List.cons_append, Num.low, Num.low, ih, List.length_cons, Nat.pow_succ, Nat.mul_add, Nat.mul_comm 256 (c.toNat * 256 ^ l.length), Nat.mul_assoc, Nat.add_assoc]
theorem Num.low_take (l : List UInt8) (k : Nat) (h : k < l.length) : Num.low (l.take (k + 1)) = Num.low (l.take k) + (l.getD k 0).toNat * 256 ^ k := by
  rw [List.take_succ_eq_append_getElem h, Num.low_snoc, List.length_take, Nat.min_eq_left (by omega), List.getD_eq_getElem?_getD, List.getElem?_eq_getElem h]
  rfl
theorem Num.or_eight (X i : Nat) (c : UInt8) (hX : X < 256 ^ i) (hi : i < 8) :
    bits .or .u64 (X : Int) (IntKind.u64.wrap ((c.toNat : Int) * 2 ^ (8 * i))) = ((X + c.toNat * 256 ^ i : Nat) : Int) := by
  have hc := c.toNat_lt
  have hp : (256 : Nat) ^ i = 2 ^ (8 * i) := by rw [Nat.pow_mul]
  have hlt : c.toNat * 2 ^ (8 * i) < 2 ^ 64 := by
    have h2 : 2 ^ (8 * i) ≤ 2 ^ 56 := Nat.pow_le_pow_right (by decide) (by omega)
    have h3 : c.toNat * 2 ^ (8 * i) ≤ 255 * 2 ^ 56 := Nat.mul_le_mul (by omega) h2
    omega
  have e2 : IntKind.u64.wrap ((c.toNat : Int) * 2 ^ (8 * i)) = ((c.toNat * 2 ^ (8 * i) : Nat) : Int) := by
    have : (c.toNat : Int) * 2 ^ (8 * i) = ((c.toNat * 2 ^ (8 * i) : Nat) : Int) := by simp only [Int.natCast_mul, Int.natCast_pow]; rfl
    rw [this, IntKind.wrap_u64]
    omega
  have hX' : X < 2 ^ 64 := Nat.lt_of_lt_of_le hX (by rw [hp]; exact Nat.pow_le_pow_right (by decide) (by omega))
  rw [e2, u64_or_nat _ _ hX' hlt, hp, Nat.mul_comm c.toNat, Nat.or_comm, ← Nat.two_pow_add_eq_or_of_lt (by rw [← hp]; exact hX), Nat.add_comm]

end Go.Proofs.Ytdpeidijaohgcaa

namespace Go.Proofs.Ytdpeidijaohgcaa
open Go.RowKit

theorem Num.scanF_drop (b : List UInt8) (q : Nat) : ∀ (f i x : Nat), Num.scanF b q f i x = ((Num.scanF (b.drop q) 0 f i x).1, q + (Num.scanF (b.drop q) 0 f i x).2.1, (Num.scanF (b.drop q) 0 f i x).2.2)
  | 0, _, _ => by simp [Num.scanF]
  | f + 1, i, x => by
    have hg : (b.drop q).getD (0 + i) 0 = b.getD (q + i) 0 := by simp [List.getD_eq_getElem?_getD]
    rw [Num.scanF, Num.scanF, hg, List.length_drop]
    by_cases h1 : b.length ≤ q + i
    · have h1' : b.length - q ≤ 0 + i := by omega
      simp only [if_pos h1, if_pos h1']; simp
    · have h1' : ¬ (b.length - q ≤ 0 + i) := by omega
      simp only [if_neg h1, if_neg h1']
      by_cases h2 : (i = 9 ∧ (b.getD (q + i) 0).toNat ≠ 1) ∨ (0 < i ∧ (b.getD (q + i) 0).toNat = 0)
      · simp only [if_pos h2]; simp
      · simp only [if_neg h2]
        by_cases h3 : (b.getD (q + i) 0).toNat < 128
        · simp only [if_pos h3]; simp; omega
        · simp only [if_neg h3]
          exact Num.scanF_drop b q f (i + 1) _
theorem Num.scan_drop (b : List UInt8) (q : Nat) : Num.scan b q = ((Num.scan (b.drop q) 0).1, q + (Num.scan (b.drop q) 0).2.1, (Num.scan (b.drop q) 0).2.2) := Num.scanF_drop b q 10 0 0

end Go.Proofs.Ytdpeidijaohgcaa

namespace Go.Proofs.Ytdpeidijaohgcaa
open Go.RowKit

/-- Behind a call of the program's cursor. -/
def PcTo (w : World) (g r : Nat) (b : List UInt8) (q : Nat) (e : Int) (w' : World) : Prop := PC w' g r b q e ∧ Mod w w' g none
theorem PcTo.refl {w : World} {g r q : Nat} {b : List UInt8} {e : Int} (h : PC w g r b q e) : PcTo w g r b q e w := ⟨h, Mod.refl _ _ _⟩
theorem PcTo.ext {w w' : World} {g r q : Nat} {b : List UInt8} {e : Int} (h : PC w g r b q e) (hE : Ext w w') : PcTo w g r b q e w' := ⟨h.ext hE, Mod.ofExt hE⟩
theorem PcTo.then {w w' w'' : World} {g r q' q'' : Nat} {b : List UInt8} {e' e'' : Int} (h : PcTo w g r b q' e' w') (k : PcTo w' g r b q'' e'' w'') : PcTo w g r b q'' e'' w'' := ⟨k.1, h.2.trans k.2 (.inl rfl)⟩
/-- The result stands in a cell. -/
theorem results_cell_one {fn : Func} {p : Tmp} {ty : TypeId} (h : fn.results = #[.cell p ty]) (tmps : Array Value) {w : World} {t : Nat} {v : Value} (hp : tmps.getD p undef = .pointer (some ⟨t, 0, none⟩)) (hv : ∀ W : World, W.cell? ⟨t, 0, none⟩ = some v → (loadVar ty ⟨t, 0, none⟩).run Try.prog W = .ok v W)
    (hc : w.cell? ⟨t, 0, none⟩ = some v) : (results fn tmps).run Try.prog w = .ok v w := by
  have hp' : tmps[p]?.getD undef = .pointer (some ⟨t, 0, none⟩) := by simpa using hp
  simp [results, h, hp', asAddr, hv w hc]

theorem load_u64 (t : Nat) (v : Value) (W : World) (h : W.cell? ⟨t, 0, none⟩ = some v) : (loadVar 49 ⟨t, 0, none⟩).run Try.prog W = .ok v W := by
  go_simp
theorem load_int (t : Nat) (v : Value) (W : World) (h : W.cell? ⟨t, 0, none⟩ = some v) : (loadVar 3 ⟨t, 0, none⟩).run Try.prog W = .ok v W := by
  go_simp
/-- What is told is stored once more, at the end. -/
theorem PC.atEnd {w : World} {g r t q : Nat} {b : List UInt8} {e : Int} (h : PC w g r b q e) (htg : t ≠ g) (htr : t ≠ r) (v : Value) : PC (w.setCell ⟨t, 0, none⟩ v) g r b q e :=
  h.told (Mod.ofOwn (grown_setCell w t 0 v)) ((grown_setCell w t 0 v).block g h.lt (by simpa using fun e => htg e.symm)) htr
theorem Mod.atEnd {w w1 w2 : World} {g t : Nat} (hE : Ext w w1) (hM : Mod w1 w2 g (some t)) (ht : w.heap.size ≤ t) (v : Value) : Mod w (w2.setCell ⟨t, 0, none⟩ v) g none :=
  (Mod.ofExt hE).trans (hM.trans (Mod.ofOwn (grown_setCell w2 t 0 v)) (.inl rfl)) (.inr ⟨t, rfl, ht⟩)

theorem read_told {w : World} {g r t q q' K : Nat} {T : TypeId} {b : List UInt8} {v : Value} {er : Int} {cap : Array Value} (hK : Entered K) (h : PC w g r b q 0) (htg : t ≠ g)
    (hC : Calls Try.prog K cap w fun e' w' => e' = .returned (.int .i64 er) ∧ Told w g r t T b v q' w') :
    Calls Try.prog 47 #[.pointer (some ⟨g, 0, none⟩), .func (.func K) #[] cap] w fun e' w' => e' = .returned (.tuple #[]) ∧ PC w' g r b q' er ∧ Whole w' t T #[v] ∧ Mod w w' g (some t) := by
  refine (read_any (R := fun er' w' => er' = er ∧ Told w g r t T b v q' w') hK h (hC.mono ?_)).mono ?_
  · rintro e' w' ⟨rfl, hT⟩
    exact ⟨er, q', rfl, hT.1, rfl, hT⟩
  · rintro e' w' ⟨rfl, er', _, w2, _, ⟨rfl, hT⟩, rfl⟩
    exact ⟨rfl, hT.1.setErr, hT.2.1.far htg 2 _, hT.2.2.trans (Mod.ofRow (grown_setCell w2 g 2 _)) (.inl rfl)⟩

end Go.Proofs.Ytdpeidijaohgcaa

namespace Go.Proofs.Ytdpeidijaohgcaa
open Go.RowKit

/-- A cursor is made of bytes of the call's own. -/
theorem PC.new {w : World} {base : Nat} {v : Value} {b : List UInt8} (h : OwnB w base v b) (hl : b.length ≤ 1000000) :
    ∃ r, PC (w.alloc (.cells #[v, .int .i64 0, .int .i64 0] 80)) w.heap.size r b 0 0 := by
  have hO := h.ext (extNew w (.cells #[v, .int .i64 0, .int .i64 0] 80))
  have hW := Whole.new w 80 #[v, .int .i64 0, .int .i64 0]
  rcases h.2 with ⟨rfl, h0⟩ | ⟨x, cap, cur, rfl, hb, hx, hn, _⟩
  · have hnil := List.eq_nil_of_length_eq_zero h0
    subst hnil
    exact ⟨w.heap.size, none, 0, hW, by simp, ⟨rfl, .inl rfl⟩, by simp, by simp, by simp⟩
  · have hxl := (Array.getElem?_eq_some_iff.1 hx).1
    refine ⟨x, some ⟨x, 0, none⟩, cap, hW, by simpa using hn, ⟨by simp, ?_⟩, by simp; omega, by simp, hl⟩
    refine .inr ⟨by omega, 0, rfl, fun i hi => ?_⟩
    rw [Nat.zero_add, List.drop_zero]
    exact (hO.cell (by simpa using hi)).1

theorem pcNew_any (A : Option Addr) (n c : Nat) (b : List UInt8) (w : World) (hc : n ≤ c) (hn : n ≤ 1000000) (hb : Bytes w w.heap.size A n b) :
    Calls Try.prog 32 #[.slice A n c] w fun e w' => ∃ g r, e = .returned (.pointer (some ⟨g, 0, none⟩)) ∧ w.heap.size ≤ g ∧ PC w' g r b 0 0 ∧ Ext w w' := by
  have hll := hb.1
  subst hll
  have C := slicesClone_any A b.length c b w hc (by omega) hb
  go_enter Try.func32, Try.ntmps32
  go_wp2_with fail
  refine C.mono ?_
  rintro e w1 ⟨v, rfl, hO, hE⟩
  obtain ⟨r, hP⟩ := PC.new hO hn
  have hB := hE.le
  obtain ⟨A1, n1, c1, rfl, _⟩ := hO.form'
  go_wp2
  go_ret
  exact ⟨w1.heap.size, r, rfl, hB, hP, hE.trans (extNew w1 _)⟩

theorem pcAt_any {w : World} {g r q : Nat} {b : List UInt8} {e : Int} (h : PC w g r b q e) :
    Calls Try.prog 36 #[.pointer (some ⟨g, 0, none⟩)] w fun e' w' => e' = .returned (.int .i64 (q : Int)) ∧ w = w' := by
  obtain ⟨A, c, c0, c1, _, _, _, _, hc, hR⟩ := h.cells
  clear hR h
  go_enter Try.func36, Try.ntmps36
  go_wp2
  go_ret
  exact ⟨rfl, rfl⟩
theorem pcErr_any {w : World} {g r q : Nat} {b : List UInt8} {e : Int} (h : PC w g r b q e) :
    Calls Try.prog 34 #[.pointer (some ⟨g, 0, none⟩)] w fun e' w' => e' = .returned (.int .i64 e) ∧ w = w' := by
  obtain ⟨A, c, c0, c1, c2, _, _, _, hc, hR⟩ := h.cells
  clear hR h
  go_enter Try.func34, Try.ntmps34
  go_wp2
  go_ret
  exact ⟨rfl, rfl⟩
theorem pcAt_nil (w : World) : Calls Try.prog 36 #[.pointer none] w fun e' w' => e' = .returned (.int .i64 0) ∧ w = w' := by
  go_enter Try.func36, Try.ntmps36
  go_wp2
  go_ret
  exact ⟨rfl, rfl⟩
theorem pcErr_nil (w : World) : Calls Try.prog 34 #[.pointer none] w fun e' w' => e' = .returned (.int .i64 13) ∧ w = w' := by
  go_enter Try.func34, Try.ntmps34
  go_wp2
  go_ret
  exact ⟨rfl, rfl⟩

end Go.Proofs.Ytdpeidijaohgcaa

