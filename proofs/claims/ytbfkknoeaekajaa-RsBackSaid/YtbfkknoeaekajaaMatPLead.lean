/- Contracts of the program's working copies: scale, swap. Contract of the program's lead: one row more leads, by this column. -/
import Derived.Test.YtbfkknoeaekajaaMatPAdd
import Derived.Test.YtbfkknoeaekajaaMatGauss
import Derived.Test.YtbfkknoeaekajaaClone8
import Derived.Test.YtbfkknoeaekajaaGfCalc
import Derived.Test.YtbfkknoeaekajaaMatCauchy
namespace Go.Proofs.Ytbfkknoeaekajaa
open Go.RowKit

theorem OwnB.bytesAt {w : World} {base n k : Nat} {A : Option Addr} {l : List UInt8} (h : OwnB w base (.slice A n k) l) : Bytes w w.heap.size A n l := by
  obtain ⟨A', n', k', hv, _, _, h3⟩ := h.form'
  simp only [Value.slice.injEq] at hv
  obtain ⟨rfl, rfl, rfl⟩ := hv
  exact h3
theorem u8_ofNat_xor (x y : Nat) : UInt8.ofNat (x ^^^ y) = UInt8.ofNat x ^^^ UInt8.ofNat y := by
  apply Mat.ext8
  rw [UInt8.toNat_xor, UInt8.toNat_ofNat', UInt8.toNat_ofNat', UInt8.toNat_ofNat', Nat.xor_mod_two_pow (n := 8)]
theorem fm_less (x : Nat) (y : UInt8) : y ^^^ Mat.fm (UInt8.ofNat (x ^^^ 1)) y = Mat.fm (UInt8.ofNat x) y := by
  rw [u8_ofNat_xor, Mat.xor_fm, show UInt8.ofNat 1 = 1 from rfl, Mat.one_fm, UInt8.xor_comm, UInt8.xor_assoc, UInt8.xor_self, UInt8.xor_zero]

set_option maxHeartbeats 2000000 in
set_option maxRecDepth 100000 in
theorem wscale_any {base g r c k i x : Nat} {F : Mat.M} {w : World} (hr : r ≤ 255) (hc : c ≤ 510) (hi : i < r) (hx : x < 256) (hM : OwnM w base g r c k F) :
    Calls Try.prog 73 #[ownV g r c k, .int .i64 (i : Int), .int .u8 (x : Int)] w fun e w' => e = .returned (.tuple #[]) ∧ OwnM w' base g r c k (fun a b => if a = i then Mat.fm (UInt8.ofNat x) (F a b) else F a b) ∧ w.grownBy w' (some g) := by
  have hE1 := extNew w (.cells #[.int .i64 r, .int .i64 c, .slice (some ⟨g, 0, none⟩) (r * c) k] 73)
  have hW1 := Whole.new w 73 #[.int .i64 r, .int .i64 c, .slice (some ⟨g, 0, none⟩) (r * c) k]
  have CR := fun W => row_any' r i c k (r * c) (some ⟨g, 0, none⟩) (by omega) hc (Nat.le_trans (Nat.mul_le_mul_right _ hi) hM.2.2.2) W
  have hx1 : x ^^^ 1 < 256 := Nat.xor_lt_two_pow (n := 8) hx (by omega)
  have CA := fun W hM hB => wadd_any (w := W) (base := base) (g := g) (r := r) (c := c) (k := k) (i := i) (x := x ^^^ 1) (F := F) (A := cutAt (some ⟨g, 0, none⟩) k (i * c)) (ks := k - i * c) (f := F i) hr hc hi hx1 hM hB
  have hxor : bits .xor .u8 (x : Int) 1 = ((x ^^^ 1 : Nat) : Int) := u8_xor_nat x 1 hx (by omega)
  have HX := hide (show (fun a b => if a = i then F a b ^^^ Mat.fm (UInt8.ofNat (x ^^^ 1)) (F i b) else F a b) = fun a b => if a = i then Mat.fm (UInt8.ofNat x) (F a b) else F a b by
    funext a b
    by_cases h : a = i
    · rw [if_pos h, if_pos h, h, fm_less]
    · rw [if_neg h, if_neg h])
  rw [HX.out] at CA
  generalize x ^^^ 1 = y at *
  have HM := hide hM
  clear hM
  unfold ownV matV at CA ⊢
  unfold matV at CR
  obtain ⟨wb, hwb⟩ : ∃ wb, wb = w.alloc (.cells #[.int .i64 r, .int .i64 c, .slice (some ⟨g, 0, none⟩) (r * c) k] 73) := ⟨_, rfl⟩
  obtain ⟨gb, hgb⟩ : ∃ gb, gb = w.heap.size := ⟨_, rfl⟩
  go_enter Try.func73, Try.ntmps73
  go_wp2_with fail
  rw [← hwb] at hE1 hW1 ⊢
  rw [← hgb] at hW1 ⊢
  clear hwb hgb
  refine wp_region_T (fun W => Ext wb W) 8 9 #[false, false, false, false, false, false, false, false, false] (by kernel_rfl) rfl rfl (Ext.refl wb).drew ?_
  intro hS0
  refine wpAnyT_take 0 (some 6) (.agg #[.int .i64 (r : Int), .int .i64 (c : Int), .slice (some ⟨g, 0, none⟩) (r * c) k]) #[true, false, false, false, false, false, false, false, false] rfl rfl rfl (by kernel_rfl) (fun _ _ _ h => h) hS0 (by rfl) (fun W hX => by have s0 := (hW1.ext hX).at 0 (u := .int .i64 (r : Int)) rfl; have s1 := (hW1.ext hX).at 1 (u := .int .i64 (c : Int)) rfl; have s2 := (hW1.ext hX).at 2 (u := .slice (some ⟨g, 0, none⟩) (r * c) k) rfl; go_simp) ?_
  simp only [Act.put, List.setIfInBounds_toArray, List.set_cons_zero, List.set_cons_succ]
  refine wpAnyT_take 1 (some 7) (.int .i64 (i : Int)) #[true, true, false, false, false, false, false, false, false] rfl rfl rfl (by kernel_rfl) (fun _ _ _ h => h) hS0 (by rfl) (fun W hX => by go_simp) ?_
  simp only [Act.put, List.setIfInBounds_toArray, List.set_cons_zero, List.set_cons_succ]
  refine wpAnyT_take 2 (some 8) (.int .u8 (x : Int)) #[true, true, true, false, false, false, false, false, false] rfl rfl rfl (by kernel_rfl) (fun _ _ _ h => h) hS0 (by rfl) (fun W hX => by go_simp) ?_
  simp only [Act.put, List.setIfInBounds_toArray, List.set_cons_zero, List.set_cons_succ]
  refine wpAnyT_take 3 (some 9) (.int .u8 (y : Int)) #[true, true, true, true, false, false, false, false, false] rfl rfl rfl (by kernel_rfl) (fun _ _ _ h => h) hS0 (by rfl) (fun W hX => by go_simp) ?_
  simp only [Act.put, List.setIfInBounds_toArray, List.set_cons_zero, List.set_cons_succ]
  refine wpAnyT_take 4 (some 10) (.pointer (some ⟨gb, 0, none⟩)) #[true, true, true, true, true, false, false, false, false] rfl rfl rfl (by kernel_rfl) (fun _ _ _ h => h) hS0 (by rfl) (fun W hX => by go_simp) ?_
  simp only [Act.put, List.setIfInBounds_toArray, List.set_cons_zero, List.set_cons_succ]
  refine wpAnyT_take 5 (some 11) (.agg #[.int .i64 (r : Int), .int .i64 (c : Int), .slice (some ⟨g, 0, none⟩) (r * c) k]) #[true, true, true, true, true, true, false, false, false] rfl rfl rfl (by kernel_rfl) (fun _ _ _ h => h) hS0 (by rfl) (fun W hX => by have s0 := (hW1.ext hX).at 0 (u := .int .i64 (r : Int)) rfl; have s1 := (hW1.ext hX).at 1 (u := .int .i64 (c : Int)) rfl; have s2 := (hW1.ext hX).at 2 (u := .slice (some ⟨g, 0, none⟩) (r * c) k) rfl; go_simp) ?_
  simp only [Act.put, List.setIfInBounds_toArray, List.set_cons_zero, List.set_cons_succ]
  refine wpAnyT_take 6 (some 12) (.int .i64 (i : Int)) #[true, true, true, true, true, true, true, false, false] rfl rfl rfl (by kernel_rfl) (fun _ _ _ h => h) hS0 (by rfl) (fun W hX => by go_simp) ?_
  simp only [Act.put, List.setIfInBounds_toArray, List.set_cons_zero, List.set_cons_succ]
  refine wpAnyT_only 7 #[true, true, true, true, true, true, true, true, false] (by kernel_rfl) rfl rfl (by rfl) (fun K0 hK0 => ?_)
  go_simp
  go_at_call 53
  refine (CR _).mono ?_
  rintro e wc0 ⟨rfl, hC0⟩
  have hX0 := hS0.trans hC0
  refine hK0 _ _ (fun _ => hX0) ?_
  clear hK0 K0
  refine wpAnyT_only 8 #[true, true, true, true, true, true, true, true, true] (by kernel_rfl) rfl rfl (by rfl) (fun K1 hK1 => ?_)
  go_simp
  go_at_call 56
  refine (CA _ (HM.out.ext (hE1.trans hX0)) (ownRow (HM.out.ext (hE1.trans hX0)).1 rfl HM.out.2.2.2 hi)).mono ?_
  rintro e w8 ⟨rfl, hM8, hG8⟩
  refine hK1 _ _ (fun h => absurd h (by decide)) (wpAnyT_done (by kernel_rfl) ?_ _)
  clear hK1 K1
  go_wp2
  refine bodyPost_end (results_none rfl _ _ _) rfl ⟨rfl, hM8, ((hE1.trans hX0).grown _).trans hG8⟩

set_option maxHeartbeats 2000000 in
set_option maxRecDepth 100000 in
theorem wswap_any {base g r c k i j : Nat} {F : Mat.M} {w : World} (hr : r ≤ 255) (hc : c ≤ 510) (hi : i < r) (hj : j < r) (hM : OwnM w base g r c k F) :
    Calls Try.prog 72 #[ownV g r c k, .int .i64 (i : Int), .int .i64 (j : Int)] w fun e w' => e = .returned (.tuple #[]) ∧ OwnM w' base g r c k (fun a b => F (Mat.sw i j a) b) ∧ w.grownBy w' (some g) := by
  have hE1 := extNew w (.cells #[.int .i64 r, .int .i64 c, .slice (some ⟨g, 0, none⟩) (r * c) k] 73)
  have hW1 := Whole.new w 73 #[.int .i64 r, .int .i64 c, .slice (some ⟨g, 0, none⟩) (r * c) k]
  have CRi := fun W => row_any' r i c k (r * c) (some ⟨g, 0, none⟩) (by omega) hc (Nat.le_trans (Nat.mul_le_mul_right _ hi) hM.2.2.2) W
  have CRj := fun W => row_any' r j c k (r * c) (some ⟨g, 0, none⟩) (by omega) hc (Nat.le_trans (Nat.mul_le_mul_right _ hj) hM.2.2.2) W
  have hle : i * c + c ≤ k := by
    have : (i + 1) * c ≤ r * c := Nat.mul_le_mul_right _ hi
    rw [Nat.add_mul, Nat.one_mul] at this
    exact Nat.le_trans this hM.2.2.2
  have CC := fun W hB => sliceClone8_any (cutAt (some ⟨g, 0, none⟩) k (i * c)) c (k - i * c) (rowB c (F i)) W (by omega) (by omega) hB
  have HM := hide hM
  have HMj := hide hM
  clear hM hle
  unfold ownV matV
  unfold matV at CRi CRj
  go_enter Try.func72, Try.ntmps72
  go_wp2_with (refine wpList_load_row rfl 42 (.tmp 7) rfl _ rfl _ _ _ _ hW1 Try.underlying42 rfl mat_info ?_)
  refine (CRi _).mono ?_
  rintro e w2 ⟨rfl, hE2⟩
  have hE12 := hE1.trans hE2
  have hW2 := hW1.ext hE2
  go_wp2_with fail
  refine (CC _ (ownRow (HM.out.ext hE12).1 rfl HM.out.2.2.2 hi)).mono ?_
  rintro e w3 ⟨v, rfl, hO3, hE3⟩
  obtain ⟨A3, n3, k3, rfl, hk3, hn3, hB3⟩ := hO3.form'
  have hn : n3 = c := by have := hB3.1; rw [rowB_len] at this; exact this.symm
  subst hn
  have hE13 := hE12.trans hE3
  have hW3 := hW2.ext hE3
  have hg3 := (HM.out.ext hE12).2.2.1
  have hne3 : ∀ b, (Value.slice A3 n3 k3).ownBlock = some b → b ≠ g := fun b hk e => by
    have := (hO3.lt b hk).1
    omega
  obtain ⟨gb, hgb⟩ : ∃ gb, gb = w.heap.size := ⟨_, rfl⟩
  have hgbg : gb ≠ g := by have := HM.out.2.2.1; omega
  go_wp2_with fail
  rw [← hgb] at hW3 ⊢
  clear hgb
  refine wp_region_T (fun W => Ext w3 W) 8 9 #[false, false, false, false, false, false, false, false, false] (by kernel_rfl) rfl rfl (Ext.refl w3).drew ?_
  intro hS0
  refine wpAnyT_take 0 (some 12) (.pointer (some ⟨gb, 0, none⟩)) #[true, false, false, false, false, false, false, false, false] rfl rfl rfl (by kernel_rfl) (fun _ _ _ h => h) hS0 (by rfl) (fun W hX => by go_simp) ?_
  simp only [Act.put, List.setIfInBounds_toArray, List.set_cons_zero, List.set_cons_succ]
  refine wpAnyT_take 1 (some 13) (.agg #[.int .i64 (r : Int), .int .i64 (n3 : Int), .slice (some ⟨g, 0, none⟩) (r * n3) k]) #[true, true, false, false, false, false, false, false, false] rfl rfl rfl (by kernel_rfl) (fun _ _ _ h => h) hS0 (by rfl) (fun W hX => by have s0 := (hW3.ext hX).at 0 (u := .int .i64 (r : Int)) rfl; have s1 := (hW3.ext hX).at 1 (u := .int .i64 (n3 : Int)) rfl; have s2 := (hW3.ext hX).at 2 (u := .slice (some ⟨g, 0, none⟩) (r * n3) k) rfl; go_simp) ?_
  simp only [Act.put, List.setIfInBounds_toArray, List.set_cons_zero, List.set_cons_succ]
  refine wpAnyT_take 2 (some 14) (.int .i64 (i : Int)) #[true, true, true, false, false, false, false, false, false] rfl rfl rfl (by kernel_rfl) (fun _ _ _ h => h) hS0 (by rfl) (fun W hX => by go_simp) ?_
  simp only [Act.put, List.setIfInBounds_toArray, List.set_cons_zero, List.set_cons_succ]
  refine wpAnyT_take 4 (some 16) (.pointer (some ⟨gb, 0, none⟩)) #[true, true, true, false, true, false, false, false, false] rfl rfl rfl (by kernel_rfl) (fun _ _ _ h => h) hS0 (by rfl) (fun W hX => by go_simp) ?_
  simp only [Act.put, List.setIfInBounds_toArray, List.set_cons_zero, List.set_cons_succ]
  refine wpAnyT_take 5 (some 17) (.agg #[.int .i64 (r : Int), .int .i64 (n3 : Int), .slice (some ⟨g, 0, none⟩) (r * n3) k]) #[true, true, true, false, true, true, false, false, false] rfl rfl rfl (by kernel_rfl) (fun _ _ _ h => h) hS0 (by rfl) (fun W hX => by have s0 := (hW3.ext hX).at 0 (u := .int .i64 (r : Int)) rfl; have s1 := (hW3.ext hX).at 1 (u := .int .i64 (n3 : Int)) rfl; have s2 := (hW3.ext hX).at 2 (u := .slice (some ⟨g, 0, none⟩) (r * n3) k) rfl; go_simp) ?_
  simp only [Act.put, List.setIfInBounds_toArray, List.set_cons_zero, List.set_cons_succ]
  refine wpAnyT_take 6 (some 18) (.int .i64 (j : Int)) #[true, true, true, false, true, true, true, false, false] rfl rfl rfl (by kernel_rfl) (fun _ _ _ h => h) hS0 (by rfl) (fun W hX => by go_simp) ?_
  simp only [Act.put, List.setIfInBounds_toArray, List.set_cons_zero, List.set_cons_succ]
  refine wpAnyT_only 3 #[true, true, true, true, true, true, true, false, false] (by kernel_rfl) rfl rfl (by rfl) (fun K0 hK0 => ?_)
  go_simp
  go_at_call 53
  refine (CRi _).mono ?_
  rintro e w6 ⟨rfl, hE6⟩
  have hX6 := hS0.trans hE6
  refine hK0 _ _ (fun _ => hX6) ?_
  clear hK0 K0
  refine wpAnyT_only 7 #[true, true, true, true, true, true, true, true, false] (by kernel_rfl) rfl rfl (by rfl) (fun K1 hK1 => ?_)
  go_simp
  go_at_call 53
  refine (CRj _).mono ?_
  rintro e w7 ⟨rfl, hE7⟩
  have hX7 := hX6.trans hE7
  refine hK1 _ _ (fun _ => hX7) ?_
  clear hK1 K1
  refine wpAnyT_only 8 #[true, true, true, true, true, true, true, true, true] (by kernel_rfl) rfl rfl (by rfl) (fun K4 hK4 => ?_)
  refine wp_copyM (.tmp 15) (.tmp 19) rfl rfl rfl (HM.out.ext (hE13.trans hX7)).1 (ownRow (HM.out.ext (hE13.trans hX7)).1 rfl HM.out.2.2.2 hj) rfl HM.out.2.2.2 hi (Nat.le_refl _) rfl ?_
  intro w8 hO8 hG8 hS8
  refine hK4 _ _ (fun h => absurd h (by decide)) (wpAnyT_done (by kernel_rfl) ?_ _)
  clear hK4 K4 hE6 hE7 hX6
  have hW8 := (hW3.ext hX7).grown hG8 hgbg
  have hB8 : Bytes w8 w8.heap.size A3 n3 (rowB n3 (F i)) := ((Mod.ofRow (ob := none) hG8).own (hO3.ext hX7) (fun e => hne3 g e rfl) (by simp [Classical.em])).bytesAt
  go_wp2_with (refine wpList_load_row rfl 42 (.tmp 21) rfl _ rfl _ _ _ _ hW8 Try.underlying42 rfl mat_info ?_)
  refine (CRj _).mono ?_
  rintro e w9 ⟨rfl, hE9⟩
  go_wp2_with (refine wpList_copyM rfl (.tmp 24) (.tmp 25) rfl rfl rfl (hO8.ext hE9) (hE9.bytes hB8) rfl HM.out.2.2.2 hj (Nat.le_refl _) rfl ?_; intro w10 hO10 hG10 hS10)
  have hM10 : OwnM w10 base g r n3 k _ := ⟨hO10, HM.out.2.1, by have := HM.out.2.2.1; have := (hE13.trans hX7).le; have := hE9.le; omega, HM.out.2.2.2⟩
  refine bodyPost_end (results_none rfl _ _ _) rfl ⟨rfl, hM10.congr fun a b _ hb => ?_, ((((hE13.trans hX7).grown _).trans hG8).trans (hE9.grown _)).trans hG10⟩
  unfold Mat.sw
  by_cases h1 : a = j
  · rw [if_pos ⟨h1, hb⟩]
    by_cases h2 : a = i
    · rw [if_pos h2, ← h1, h2]
    · rw [if_neg h2, if_pos h1]
  · rw [if_neg (fun e => h1 e.1)]
    by_cases h2 : a = i
    · rw [if_pos ⟨h2, hb⟩, if_pos h2]
    · rw [if_neg (fun e => h2 e.1), if_neg h2, if_neg h1]
end Go.Proofs.Ytbfkknoeaekajaa

namespace Go.Proofs.Ytbfkknoeaekajaa
open Go.RowKit

/-- Row p stands at place l, scaled so that it has 1 in the column. -/
def leadS (l p col : Nat) (F : Mat.M) : Mat.M := fun a b => if a = l then Mat.fm (Mat.fi (F p col)) (F (Mat.sw l p a) b) else F (Mat.sw l p a) b
/-- The rows above i, but row l, are cleared in the column. -/
def clearTo (l col i : Nat) (F : Mat.M) : Mat.M := fun a b => if a < i ∧ a ≠ l then F a b ^^^ Mat.fm (F a col) (F l b) else F a b
theorem clearTo_none (l col : Nat) (F : Mat.M) : clearTo l col 0 F = F := by
  funext a b
  unfold clearTo
  rw [if_neg (by omega)]
theorem clearTo_at {l col i : Nat} {F : Mat.M} : clearTo l col i F i = F i := by
  funext b
  unfold clearTo
  rw [if_neg (by omega)]
theorem clearTo_lead {l col i : Nat} {F : Mat.M} : clearTo l col i F l = F l := by
  funext b
  unfold clearTo
  rw [if_neg (by omega)]
theorem clearTo_step {l col i : Nat} {F : Mat.M} (h : i ≠ l) : (fun a b => if a = i then clearTo l col i F a b ^^^ Mat.fm (F i col) (F l b) else clearTo l col i F a b) = clearTo l col (i + 1) F := by
  funext a b
  unfold clearTo
  by_cases h1 : a = i
  · rw [if_pos h1, if_neg (by omega), if_pos ⟨by omega, by omega⟩, h1]
  · rw [if_neg h1]
    by_cases h2 : a < i ∧ a ≠ l
    · rw [if_pos h2, if_pos ⟨by omega, h2.2⟩]
    · rw [if_neg h2, if_neg (by omega)]
theorem clearTo_same {l col : Nat} {F : Mat.M} : clearTo l col l F = clearTo l col (l + 1) F := by
  funext a b
  unfold clearTo
  by_cases h2 : a < l ∧ a ≠ l
  · rw [if_pos h2, if_pos ⟨by omega, h2.2⟩]
  · rw [if_neg h2, if_neg (by omega)]
/-- Behind a call of lead. -/
def Led (w : World) (gr g base r c k l col : Nat) (F : Mat.M) (e : Ending) (w' : World) : Prop :=
  (e = .returned (.bool false) ∧ (∀ q, l ≤ q → q < r → F q col = 0) ∧ Ext w w') ∨
  (e = .returned (.bool true) ∧ ∃ p, l ≤ p ∧ p < r ∧ (∀ q, l ≤ q → q < p → F q col = 0) ∧ F p col ≠ 0 ∧ Red w' gr g base r c k (l + 1) (clearTo l col r (leadS l p col F)) ∧ Mod w w' g (some gr))

set_option maxHeartbeats 4000000 in
set_option maxRecDepth 100000 in
theorem lead_any {gr g base r c k l col : Nat} {F : Mat.M} {w : World} (hr : r ≤ 255) (hc : c ≤ 510) (hcol : col < c) (hl : l ≤ r) (h : Red w gr g base r c k l F) :
    Calls Try.prog 67 #[.pointer (some ⟨gr, 0, none⟩), .int .i64 (col : Int)] w (Led w gr g base r c k l col F) := by
  have CF := rfind_any hr hc hcol hl h
  have HR := hide h
  clear h
  go_enter Try.func67, Try.ntmps67
  go_wp2_with fail
  refine CF.mono ?_
  rintro e w2 ⟨p, rfl, hlp, hpr, hz, hnz, hE2⟩
  have hW2 := HR.out.1.ext hE2
  have d0 := hW2.at 0 (u := .int .i64 (r : Int)) rfl
  by_cases hp : p = r
  · subst hp
    have hpp : ((p : Int) == (p : Int)) = true := by simp
    have HZ := hide hz
    clear CF hz hnz
    go_wp2
    go_ret
    exact .inl ⟨rfl, HZ.out, hE2⟩
  · have hpp : ((p : Int) == (r : Int)) = false := by simp; omega
    have hpr' : p < r := by omega
    have hlr : l < r := by omega
    have HZ := hide hz
    have hne := hnz hpr'
    have HNZ := hide hne
    clear CF hz hnz
    go_wp2_with fail
    have hgr := HR.out.2.2.2
    have hkk := HR.out.2.1.2.2.2
    have CS := fun W (hM : OwnM W base g r c k F) => wswap_any hr hc hlr hpr' hM
    unfold ownV matV at CS
    clear d0
    refine wp_region_T (fun W => Ext w2 W) 9 10 #[false, false, false, false, false, false, false, false, false, false] (by kernel_rfl) rfl rfl (Ext.refl w2).drew ?_
    intro hS0
    refine wpAnyT_take 0 (some 21) (.pointer (some ⟨gr, 0, none⟩)) #[true, false, false, false, false, false, false, false, false, false] rfl rfl rfl (by kernel_rfl) (fun _ _ _ h => h) hS0 (by rfl) (fun W hX => by go_simp) ?_
    simp only [Act.put, List.setIfInBounds_toArray, List.set_cons_zero, List.set_cons_succ]
    refine wpAnyT_take 1 (some 22) (.pointer (some ⟨gr, 0, none⟩)) #[true, true, false, false, false, false, false, false, false, false] rfl rfl rfl (by kernel_rfl) (fun _ _ _ h => h) hS0 (by rfl) (fun W hX => by go_simp) ?_
    simp only [Act.put, List.setIfInBounds_toArray, List.set_cons_zero, List.set_cons_succ]
    refine wpAnyT_take 2 (some 23) (.pointer (some ⟨gr, 0, none⟩)) #[true, true, true, false, false, false, false, false, false, false] rfl rfl rfl (by kernel_rfl) (fun _ _ _ h => h) hS0 (by rfl) (fun W hX => by go_simp) ?_
    simp only [Act.put, List.setIfInBounds_toArray, List.set_cons_zero, List.set_cons_succ]
    refine wpAnyT_take 3 (some 24) (.agg #[.int .i64 (r : Int), .int .i64 (c : Int), .slice (some ⟨g, 0, none⟩) (r * c) k]) #[true, true, true, true, false, false, false, false, false, false] rfl rfl rfl (by kernel_rfl) (fun _ _ _ h => h) hS0 (by rfl) (fun W hX => by have s0 := (hW2.ext hX).at 0 (u := .int .i64 (r : Int)) rfl; have s1 := (hW2.ext hX).at 1 (u := .int .i64 (c : Int)) rfl; have s2 := (hW2.ext hX).at 2 (u := .slice (some ⟨g, 0, none⟩) (r * c) k) rfl; have s3 := (hW2.ext hX).at 3 (u := .int .i64 (l : Int)) rfl; go_simp) ?_
    simp only [Act.put, List.setIfInBounds_toArray, List.set_cons_zero, List.set_cons_succ]
    refine wpAnyT_take 4 (some 25) (.pointer (some ⟨gr, 0, none⟩)) #[true, true, true, true, true, false, false, false, false, false] rfl rfl rfl (by kernel_rfl) (fun _ _ _ h => h) hS0 (by rfl) (fun W hX => by go_simp) ?_
    simp only [Act.put, List.setIfInBounds_toArray, List.set_cons_zero, List.set_cons_succ]
    refine wpAnyT_take 5 (some 26) (.pointer (some ⟨gr, 0, none⟩)) #[true, true, true, true, true, true, false, false, false, false] rfl rfl rfl (by kernel_rfl) (fun _ _ _ h => h) hS0 (by rfl) (fun W hX => by go_simp) ?_
    simp only [Act.put, List.setIfInBounds_toArray, List.set_cons_zero, List.set_cons_succ]
    refine wpAnyT_take 6 (some 27) (.pointer (some ⟨gr, 3, none⟩)) #[true, true, true, true, true, true, true, false, false, false] rfl rfl rfl (by kernel_rfl) (fun _ _ _ h => h) hS0 (by rfl) (fun W hX => by go_simp) ?_
    simp only [Act.put, List.setIfInBounds_toArray, List.set_cons_zero, List.set_cons_succ]
    refine wpAnyT_take 7 (some 28) (.int .i64 (l : Int)) #[true, true, true, true, true, true, true, true, false, false] rfl rfl rfl (by kernel_rfl) (fun _ _ _ h => h) hS0 (by rfl) (fun W hX => by have s0 := (hW2.ext hX).at 0 (u := .int .i64 (r : Int)) rfl; have s1 := (hW2.ext hX).at 1 (u := .int .i64 (c : Int)) rfl; have s2 := (hW2.ext hX).at 2 (u := .slice (some ⟨g, 0, none⟩) (r * c) k) rfl; have s3 := (hW2.ext hX).at 3 (u := .int .i64 (l : Int)) rfl; go_simp) ?_
    simp only [Act.put, List.setIfInBounds_toArray, List.set_cons_zero, List.set_cons_succ]
    refine wpAnyT_take 8 (some 29) (.int .i64 (p : Int)) #[true, true, true, true, true, true, true, true, true, false] rfl rfl rfl (by kernel_rfl) (fun _ _ _ h => h) hS0 (by rfl) (fun W hX => by go_simp) ?_
    simp only [Act.put, List.setIfInBounds_toArray, List.set_cons_zero, List.set_cons_succ]
    refine wpAnyT_only 9 #[true, true, true, true, true, true, true, true, true, true] (by kernel_rfl) rfl rfl (by rfl) (fun K0 hK0 => ?_)
    go_simp
    go_at_call 72
    refine (CS _ (HR.out.2.1.ext (hE2.trans hS0))).mono ?_
    rintro e w3 ⟨rfl, hM3, hG3⟩
    refine hK0 _ _ (fun h => absurd h (by decide)) (wpAnyT_done (by kernel_rfl) ?_ _)
    clear hK0 K0
    have hW3 := (hW2.ext hS0).grown hG3 hgr
    have hF3 : Mod w w3 g (some gr) := (Mod.ofExt (hE2.trans hS0)).trans (Mod.ofRow (ob := some gr) hG3) (NewOb.same _ _)
    have CR := fun W => row_any' r l c k (r * c) (some ⟨g, 0, none⟩) (by omega) hc (Nat.le_trans (Nat.mul_le_mul_right _ hlr) hkk) W
    unfold matV at CR
    clear hS0 hG3 CS hW2
    go_wp2_with fail
    refine wp_region_T (fun W => Ext w3 W) 10 11 #[false, false, false, false, false, false, false, false, false, false, false] (by kernel_rfl) rfl rfl (Ext.refl w3).drew ?_
    intro hS0
    refine wpAnyT_take 0 (some 31) (.pointer (some ⟨gr, 0, none⟩)) #[true, false, false, false, false, false, false, false, false, false, false] rfl rfl rfl (by kernel_rfl) (fun _ _ _ h => h) hS0 (by rfl) (fun W hX => by go_simp) ?_
    simp only [Act.put, List.setIfInBounds_toArray, List.set_cons_zero, List.set_cons_succ]
    refine wpAnyT_take 1 (some 32) (.pointer (some ⟨gr, 0, none⟩)) #[true, true, false, false, false, false, false, false, false, false, false] rfl rfl rfl (by kernel_rfl) (fun _ _ _ h => h) hS0 (by rfl) (fun W hX => by go_simp) ?_
    simp only [Act.put, List.setIfInBounds_toArray, List.set_cons_zero, List.set_cons_succ]
    refine wpAnyT_take 2 (some 33) (.pointer (some ⟨gr, 0, none⟩)) #[true, true, true, false, false, false, false, false, false, false, false] rfl rfl rfl (by kernel_rfl) (fun _ _ _ h => h) hS0 (by rfl) (fun W hX => by go_simp) ?_
    simp only [Act.put, List.setIfInBounds_toArray, List.set_cons_zero, List.set_cons_succ]
    refine wpAnyT_take 3 (some 34) (.pointer (some ⟨gr, 0, none⟩)) #[true, true, true, true, false, false, false, false, false, false, false] rfl rfl rfl (by kernel_rfl) (fun _ _ _ h => h) hS0 (by rfl) (fun W hX => by go_simp) ?_
    simp only [Act.put, List.setIfInBounds_toArray, List.set_cons_zero, List.set_cons_succ]
    refine wpAnyT_take 4 (some 35) (.agg #[.int .i64 (r : Int), .int .i64 (c : Int), .slice (some ⟨g, 0, none⟩) (r * c) k]) #[true, true, true, true, true, false, false, false, false, false, false] rfl rfl rfl (by kernel_rfl) (fun _ _ _ h => h) hS0 (by rfl) (fun W hX => by have s0 := (hW3.ext hX).at 0 (u := .int .i64 (r : Int)) rfl; have s1 := (hW3.ext hX).at 1 (u := .int .i64 (c : Int)) rfl; have s2 := (hW3.ext hX).at 2 (u := .slice (some ⟨g, 0, none⟩) (r * c) k) rfl; have s3 := (hW3.ext hX).at 3 (u := .int .i64 (l : Int)) rfl; go_simp) ?_
    simp only [Act.put, List.setIfInBounds_toArray, List.set_cons_zero, List.set_cons_succ]
    refine wpAnyT_take 5 (some 36) (.pointer (some ⟨gr, 0, none⟩)) #[true, true, true, true, true, true, false, false, false, false, false] rfl rfl rfl (by kernel_rfl) (fun _ _ _ h => h) hS0 (by rfl) (fun W hX => by go_simp) ?_
    simp only [Act.put, List.setIfInBounds_toArray, List.set_cons_zero, List.set_cons_succ]
    refine wpAnyT_take 6 (some 37) (.pointer (some ⟨gr, 0, none⟩)) #[true, true, true, true, true, true, true, false, false, false, false] rfl rfl rfl (by kernel_rfl) (fun _ _ _ h => h) hS0 (by rfl) (fun W hX => by go_simp) ?_
    simp only [Act.put, List.setIfInBounds_toArray, List.set_cons_zero, List.set_cons_succ]
    refine wpAnyT_take 7 (some 38) (.pointer (some ⟨gr, 3, none⟩)) #[true, true, true, true, true, true, true, true, false, false, false] rfl rfl rfl (by kernel_rfl) (fun _ _ _ h => h) hS0 (by rfl) (fun W hX => by go_simp) ?_
    simp only [Act.put, List.setIfInBounds_toArray, List.set_cons_zero, List.set_cons_succ]
    refine wpAnyT_take 8 (some 39) (.int .i64 (l : Int)) #[true, true, true, true, true, true, true, true, true, false, false] rfl rfl rfl (by kernel_rfl) (fun _ _ _ h => h) hS0 (by rfl) (fun W hX => by have s0 := (hW3.ext hX).at 0 (u := .int .i64 (r : Int)) rfl; have s1 := (hW3.ext hX).at 1 (u := .int .i64 (c : Int)) rfl; have s2 := (hW3.ext hX).at 2 (u := .slice (some ⟨g, 0, none⟩) (r * c) k) rfl; have s3 := (hW3.ext hX).at 3 (u := .int .i64 (l : Int)) rfl; go_simp) ?_
    simp only [Act.put, List.setIfInBounds_toArray, List.set_cons_zero, List.set_cons_succ]
    refine wpAnyT_only 9 #[true, true, true, true, true, true, true, true, true, true, false] (by kernel_rfl) rfl rfl (by rfl) (fun K0 hK0 => ?_)
    go_simp
    go_at_call 53
    refine (CR _).mono ?_
    rintro e wc0 ⟨rfl, hC0⟩
    have hX0 := hS0.trans hC0
    refine hK0 _ _ (fun _ => hX0) ?_
    clear hK0 K0
    refine wpAnyT_only 10 #[true, true, true, true, true, true, true, true, true, true, true] (by kernel_rfl) rfl rfl (by rfl) (fun K1 hK1 => ?_)
    go_simp
    refine hK1 _ _ (fun h => absurd h (by decide)) (wpAnyT_done (by kernel_rfl) ?_ _)
    clear hK1 K1
    have hW4 := hW3.ext hX0
    have hM4 := hM3.ext hX0
    have hF4 := hF3.trans (Mod.ofExt (g := g) (ob := some gr) hX0) (NewOb.same _ _)
    obtain ⟨p1, p2'⟩ := row_place hlr (by omega : 0 < c)
    have p2 : k ≠ l * c := by omega
    rw [cutAt_zero p2] at *
    have k1 := (hM4.1.cell (i := l * c + col) (by rw [cellsOf_len]; omega)).1
    rw [cells_at hcol (by omega), show Mat.sw l p l = p from if_pos rfl] at k1
    have CI := fun W => inv_any (F p col).toNat W (Mat.lt _)
    rw [inv_byte hne] at CI
    have CC := fun W (hM : OwnM W base g r c k fun a b => F (Mat.sw l p a) b) => wscale_any hr hc hlr (Mat.lt (Mat.fi (F p col))) hM
    have HL := hide (show (fun a b => if a = l then Mat.fm (UInt8.ofNat (Mat.fi (F p col)).toNat) (F (Mat.sw l p a) b) else F (Mat.sw l p a) b) = leadS l p col F by rw [UInt8.ofNat_toNat]; rfl)
    rw [HL.out] at CC
    clear HL hne CR
    have hic : (0 : Int) ≤ (col : Int) := by omega
    have hic2 : (col : Int) < (c : Int) := by omega
    unfold ownV matV at CC
    generalize (Mat.fi (F p col)).toNat = xi at *
    generalize (F p col).toNat = xp at *
    obtain ⟨F2, hF2⟩ : ∃ F2, F2 = leadS l p col F := ⟨_, rfl⟩
    rw [← hF2] at CC
    have HF2 := hide hF2
    clear hF2
    go_wp2_with fail
    refine (CI _).mono ?_
    rintro e w5 ⟨rfl, hE5⟩
    have hW5 := hW4.ext hE5
    have hM5 := hM4.ext hE5
    have hF5 := hF4.trans (Mod.ofExt (g := g) (ob := some gr) hE5) (NewOb.same _ _)
    clear hE5 hX0 k1
    go_wp2_with fail
    refine wp_region_T (fun W => Ext w5 W) 9 10 #[false, false, false, false, false, false, false, false, false, false] (by kernel_rfl) rfl rfl (Ext.refl w5).drew ?_
    intro hS0
    refine wpAnyT_take 0 (some 49) (.pointer (some ⟨gr, 0, none⟩)) #[true, false, false, false, false, false, false, false, false, false] rfl rfl rfl (by kernel_rfl) (fun _ _ _ h => h) hS0 (by rfl) (fun W hX => by go_simp) ?_
    simp only [Act.put, List.setIfInBounds_toArray, List.set_cons_zero, List.set_cons_succ]
    refine wpAnyT_take 1 (some 50) (.pointer (some ⟨gr, 0, none⟩)) #[true, true, false, false, false, false, false, false, false, false] rfl rfl rfl (by kernel_rfl) (fun _ _ _ h => h) hS0 (by rfl) (fun W hX => by go_simp) ?_
    simp only [Act.put, List.setIfInBounds_toArray, List.set_cons_zero, List.set_cons_succ]
    refine wpAnyT_take 2 (some 51) (.pointer (some ⟨gr, 0, none⟩)) #[true, true, true, false, false, false, false, false, false, false] rfl rfl rfl (by kernel_rfl) (fun _ _ _ h => h) hS0 (by rfl) (fun W hX => by go_simp) ?_
    simp only [Act.put, List.setIfInBounds_toArray, List.set_cons_zero, List.set_cons_succ]
    refine wpAnyT_take 3 (some 52) (.agg #[.int .i64 (r : Int), .int .i64 (c : Int), .slice (some ⟨g, 0, none⟩) (r * c) k]) #[true, true, true, true, false, false, false, false, false, false] rfl rfl rfl (by kernel_rfl) (fun _ _ _ h => h) hS0 (by rfl) (fun W hX => by have s0 := (hW5.ext hX).at 0 (u := .int .i64 (r : Int)) rfl; have s1 := (hW5.ext hX).at 1 (u := .int .i64 (c : Int)) rfl; have s2 := (hW5.ext hX).at 2 (u := .slice (some ⟨g, 0, none⟩) (r * c) k) rfl; have s3 := (hW5.ext hX).at 3 (u := .int .i64 (l : Int)) rfl; go_simp) ?_
    simp only [Act.put, List.setIfInBounds_toArray, List.set_cons_zero, List.set_cons_succ]
    refine wpAnyT_take 4 (some 53) (.pointer (some ⟨gr, 0, none⟩)) #[true, true, true, true, true, false, false, false, false, false] rfl rfl rfl (by kernel_rfl) (fun _ _ _ h => h) hS0 (by rfl) (fun W hX => by go_simp) ?_
    simp only [Act.put, List.setIfInBounds_toArray, List.set_cons_zero, List.set_cons_succ]
    refine wpAnyT_take 5 (some 54) (.pointer (some ⟨gr, 0, none⟩)) #[true, true, true, true, true, true, false, false, false, false] rfl rfl rfl (by kernel_rfl) (fun _ _ _ h => h) hS0 (by rfl) (fun W hX => by go_simp) ?_
    simp only [Act.put, List.setIfInBounds_toArray, List.set_cons_zero, List.set_cons_succ]
    refine wpAnyT_take 6 (some 55) (.pointer (some ⟨gr, 3, none⟩)) #[true, true, true, true, true, true, true, false, false, false] rfl rfl rfl (by kernel_rfl) (fun _ _ _ h => h) hS0 (by rfl) (fun W hX => by go_simp) ?_
    simp only [Act.put, List.setIfInBounds_toArray, List.set_cons_zero, List.set_cons_succ]
    refine wpAnyT_take 7 (some 56) (.int .i64 (l : Int)) #[true, true, true, true, true, true, true, true, false, false] rfl rfl rfl (by kernel_rfl) (fun _ _ _ h => h) hS0 (by rfl) (fun W hX => by have s0 := (hW5.ext hX).at 0 (u := .int .i64 (r : Int)) rfl; have s1 := (hW5.ext hX).at 1 (u := .int .i64 (c : Int)) rfl; have s2 := (hW5.ext hX).at 2 (u := .slice (some ⟨g, 0, none⟩) (r * c) k) rfl; have s3 := (hW5.ext hX).at 3 (u := .int .i64 (l : Int)) rfl; go_simp) ?_
    simp only [Act.put, List.setIfInBounds_toArray, List.set_cons_zero, List.set_cons_succ]
    refine wpAnyT_take 8 (some 57) (.int .u8 (xi : Int)) #[true, true, true, true, true, true, true, true, true, false] rfl rfl rfl (by kernel_rfl) (fun _ _ _ h => h) hS0 (by rfl) (fun W hX => by go_simp) ?_
    simp only [Act.put, List.setIfInBounds_toArray, List.set_cons_zero, List.set_cons_succ]
    refine wpAnyT_only 9 #[true, true, true, true, true, true, true, true, true, true] (by kernel_rfl) rfl rfl (by rfl) (fun K0 hK0 => ?_)
    go_simp
    go_at_call 73
    refine (CC _ (hM5.ext hS0)).mono ?_
    rintro e w6 ⟨rfl, hM6, hG6⟩
    refine hK0 _ _ (fun h => absurd h (by decide)) (wpAnyT_done (by kernel_rfl) ?_ _)
    clear hK0 K0
    have hW6 := (hW5.ext hS0).grown hG6 hgr
    have hF6 := (hF5.trans (Mod.ofExt (g := g) (ob := some gr) hS0) (NewOb.same _ _)).trans (Mod.ofRow (ob := some gr) hG6) (NewOb.same _ _)
    have d0 := hW6.at 0 (u := .int .i64 (r : Int)) rfl
    have hp2 : k ≠ l * c := p2
    clear hS0 hG6 CC CI hW5 hM5 hF5 hW4 hM4 hF4 hW3 hM3 hF3
    go_wp2_with fail
    go_loopw [65] (fun x wq => ∃ j : Nat, j ≤ r ∧ x = .int .i64 (j : Int) ∧ OwnM wq base g r c k (clearTo l col j F2) ∧ Whole wq gr 91 #[.int .i64 (r : Int), .int .i64 (c : Int), .slice (some ⟨g, 0, none⟩) (r * c) k, .int .i64 (l : Int)] ∧ Mod w wq g (some gr)) (fun x _ => r - (intOf x).toNat)
    case atStart => exact ⟨0, by omega, rfl, by rw [clearTo_none]; exact hM6, hW6, hF6⟩
    case round =>
      obtain ⟨i, hi, rfl, hMi, hWi, hFi⟩ := hrel
      have d0 := hWi.at 0 (u := .int .i64 (r : Int)) rfl
      have d3 := hWi.at 3 (u := .int .i64 (l : Int)) rfl
      by_cases hlt : i < r
      · by_cases hil : i = l
        · subst hil
          have hne1 : ((i : Int) != (i : Int)) = false := by simp
          go_wp2
          go_roundw
          case rel => exact ⟨i + 1, by omega, by go_num, by rw [← clearTo_same]; exact hMi, hWi, hFi⟩
          case measure => simp [intOf]; omega
        · have hne1 : ((i : Int) != (l : Int)) = true := by simp; omega
          have CR := fun W => row_any' r i c k (r * c) (some ⟨g, 0, none⟩) (by omega) hc (Nat.le_trans (Nat.mul_le_mul_right _ hlt) hkk) W
          obtain ⟨q1, q2⟩ := row_place hlt (by omega : 0 < c)
          rw [cutAt_zero (by omega)] at CR
          unfold matV at CR
          have KC := hide (show ∀ W, Ext wr W → W.cell? ⟨g, i * c + col, none⟩ = some (.int .u8 ((F2 i col).toNat : Int)) from fun W hX => by
            have := ((hMi.ext hX).1.cell (i := i * c + col) (by rw [cellsOf_len]; omega)).1
            rw [cells_at hcol (by omega), clearTo_at] at this
            exact this)
          have CA := fun W hM hB => wadd_any (w := W) (base := base) (g := g) (r := r) (c := c) (k := k) (i := i) (x := (F2 i col).toNat) (F := clearTo l col i F2) (A := some ⟨g, l * c, none⟩) (ks := k - l * c) (f := F2 l) hr hc hlt (Mat.lt _) hM hB
          rw [UInt8.ofNat_toNat, clearTo_step hil] at CA
          unfold ownV matV at CA
          have KB := hide (show ∀ W, Ext wr W → Bytes W W.heap.size (some ⟨g, l * c, none⟩) c (rowB c (F2 l)) from fun W hX => by
            have := ownRow (hMi.ext hX).1 rfl hkk hlr
            rw [cutAt_zero hp2, clearTo_lead] at this
            exact this)
          generalize F2 i col = bt at *
          clear d0
          go_wp2_with fail
          refine wp_region_T (fun W => Ext wr W) 16 17 #[false, false, false, false, false, false, false, false, false, false, false, false, false, false, false, false, false] (by kernel_rfl) rfl rfl (Ext.refl wr).drew ?_
          intro hS0
          refine wpAnyT_take 0 (some 74) (.pointer (some ⟨gr, 0, none⟩)) #[true, false, false, false, false, false, false, false, false, false, false, false, false, false, false, false, false] rfl rfl rfl (by kernel_rfl) (fun _ _ _ h => h) hS0 (by rfl) (fun W hX => by go_simp) ?_
          simp only [Act.put, List.setIfInBounds_toArray, List.set_cons_zero, List.set_cons_succ]
          refine wpAnyT_take 1 (some 75) (.pointer (some ⟨gr, 0, none⟩)) #[true, true, false, false, false, false, false, false, false, false, false, false, false, false, false, false, false] rfl rfl rfl (by kernel_rfl) (fun _ _ _ h => h) hS0 (by rfl) (fun W hX => by go_simp) ?_
          simp only [Act.put, List.setIfInBounds_toArray, List.set_cons_zero, List.set_cons_succ]
          refine wpAnyT_take 2 (some 76) (.pointer (some ⟨gr, 0, none⟩)) #[true, true, true, false, false, false, false, false, false, false, false, false, false, false, false, false, false] rfl rfl rfl (by kernel_rfl) (fun _ _ _ h => h) hS0 (by rfl) (fun W hX => by go_simp) ?_
          simp only [Act.put, List.setIfInBounds_toArray, List.set_cons_zero, List.set_cons_succ]
          refine wpAnyT_take 3 (some 77) (.agg #[.int .i64 (r : Int), .int .i64 (c : Int), .slice (some ⟨g, 0, none⟩) (r * c) k]) #[true, true, true, true, false, false, false, false, false, false, false, false, false, false, false, false, false] rfl rfl rfl (by kernel_rfl) (fun _ _ _ h => h) hS0 (by rfl) (fun W hX => by have s0 := (hWi.ext hX).at 0 (u := .int .i64 (r : Int)) rfl; have s1 := (hWi.ext hX).at 1 (u := .int .i64 (c : Int)) rfl; have s2 := (hWi.ext hX).at 2 (u := .slice (some ⟨g, 0, none⟩) (r * c) k) rfl; have s3 := (hWi.ext hX).at 3 (u := .int .i64 (l : Int)) rfl; go_simp) ?_
          simp only [Act.put, List.setIfInBounds_toArray, List.set_cons_zero, List.set_cons_succ]
          refine wpAnyT_take 4 (some 78) (.int .i64 (i : Int)) #[true, true, true, true, true, false, false, false, false, false, false, false, false, false, false, false, false] rfl rfl rfl (by kernel_rfl) (fun _ _ _ h => h) hS0 (by rfl) (fun W hX => by go_simp) ?_
          simp only [Act.put, List.setIfInBounds_toArray, List.set_cons_zero, List.set_cons_succ]
          refine wpAnyT_take 5 (some 79) (.pointer (some ⟨gr, 0, none⟩)) #[true, true, true, true, true, true, false, false, false, false, false, false, false, false, false, false, false] rfl rfl rfl (by kernel_rfl) (fun _ _ _ h => h) hS0 (by rfl) (fun W hX => by go_simp) ?_
          simp only [Act.put, List.setIfInBounds_toArray, List.set_cons_zero, List.set_cons_succ]
          refine wpAnyT_take 6 (some 80) (.pointer (some ⟨gr, 0, none⟩)) #[true, true, true, true, true, true, true, false, false, false, false, false, false, false, false, false, false] rfl rfl rfl (by kernel_rfl) (fun _ _ _ h => h) hS0 (by rfl) (fun W hX => by go_simp) ?_
          simp only [Act.put, List.setIfInBounds_toArray, List.set_cons_zero, List.set_cons_succ]
          refine wpAnyT_take 7 (some 81) (.pointer (some ⟨gr, 0, none⟩)) #[true, true, true, true, true, true, true, true, false, false, false, false, false, false, false, false, false] rfl rfl rfl (by kernel_rfl) (fun _ _ _ h => h) hS0 (by rfl) (fun W hX => by go_simp) ?_
          simp only [Act.put, List.setIfInBounds_toArray, List.set_cons_zero, List.set_cons_succ]
          refine wpAnyT_take 8 (some 82) (.pointer (some ⟨gr, 0, none⟩)) #[true, true, true, true, true, true, true, true, true, false, false, false, false, false, false, false, false] rfl rfl rfl (by kernel_rfl) (fun _ _ _ h => h) hS0 (by rfl) (fun W hX => by go_simp) ?_
          simp only [Act.put, List.setIfInBounds_toArray, List.set_cons_zero, List.set_cons_succ]
          refine wpAnyT_take 9 (some 83) (.agg #[.int .i64 (r : Int), .int .i64 (c : Int), .slice (some ⟨g, 0, none⟩) (r * c) k]) #[true, true, true, true, true, true, true, true, true, true, false, false, false, false, false, false, false] rfl rfl rfl (by kernel_rfl) (fun _ _ _ h => h) hS0 (by rfl) (fun W hX => by have s0 := (hWi.ext hX).at 0 (u := .int .i64 (r : Int)) rfl; have s1 := (hWi.ext hX).at 1 (u := .int .i64 (c : Int)) rfl; have s2 := (hWi.ext hX).at 2 (u := .slice (some ⟨g, 0, none⟩) (r * c) k) rfl; have s3 := (hWi.ext hX).at 3 (u := .int .i64 (l : Int)) rfl; go_simp) ?_
          simp only [Act.put, List.setIfInBounds_toArray, List.set_cons_zero, List.set_cons_succ]
          refine wpAnyT_take 10 (some 84) (.int .i64 (i : Int)) #[true, true, true, true, true, true, true, true, true, true, true, false, false, false, false, false, false] rfl rfl rfl (by kernel_rfl) (fun _ _ _ h => h) hS0 (by rfl) (fun W hX => by go_simp) ?_
          simp only [Act.put, List.setIfInBounds_toArray, List.set_cons_zero, List.set_cons_succ]
          refine wpAnyT_take 12 (some 86) (.int .i64 (col : Int)) #[true, true, true, true, true, true, true, true, true, true, true, false, true, false, false, false, false] rfl rfl rfl (by kernel_rfl) (fun _ _ _ h => h) hS0 (by rfl) (fun W hX => by go_simp) ?_
          simp only [Act.put, List.setIfInBounds_toArray, List.set_cons_zero, List.set_cons_succ]
          refine wpAnyT_take 15 (some 89) (.slice (some ⟨g, l * c, none⟩) c (k - l * c)) #[true, true, true, true, true, true, true, true, true, true, true, false, true, false, false, true, false] rfl rfl rfl (by kernel_rfl) (fun _ _ _ h => h) hS0 (by rfl) (fun W hX => by go_simp) ?_
          simp only [Act.put, List.setIfInBounds_toArray, List.set_cons_zero, List.set_cons_succ]
          refine wpAnyT_only 11 #[true, true, true, true, true, true, true, true, true, true, true, true, true, false, false, true, false] (by kernel_rfl) rfl rfl (by rfl) (fun K0 hK0 => ?_)
          go_simp
          go_at_call 53
          refine (CR _).mono ?_
          rintro e wc0 ⟨rfl, hC0⟩
          have hX0 := hS0.trans hC0
          refine hK0 _ _ (fun _ => hX0) ?_
          clear hK0 K0
          refine wpAnyT_take 13 (some 87) (.pointer (some ⟨g, i * c + col, none⟩)) #[true, true, true, true, true, true, true, true, true, true, true, true, true, true, false, true, false] rfl rfl rfl (by kernel_rfl) (fun _ _ _ h => h) hX0 (by rfl) (fun W hX => by go_simp) ?_
          simp only [Act.put, List.setIfInBounds_toArray, List.set_cons_zero, List.set_cons_succ]
          refine wpAnyT_take 14 (some 88) (.int .u8 (bt.toNat : Int)) #[true, true, true, true, true, true, true, true, true, true, true, true, true, true, true, true, false] rfl rfl rfl (by kernel_rfl) (fun _ _ _ h => h) hX0 (by rfl) (fun W hX => by have s0 := KC.out W hX; go_simp) ?_
          simp only [Act.put, List.setIfInBounds_toArray, List.set_cons_zero, List.set_cons_succ]
          refine wpAnyT_only 16 #[true, true, true, true, true, true, true, true, true, true, true, true, true, true, true, true, true] (by kernel_rfl) rfl rfl (by rfl) (fun K1 hK1 => ?_)
          go_simp
          go_at_call 56
          refine (CA _ (hMi.ext hX0) (KB.out _ hX0)).mono ?_
          rintro e w8 ⟨rfl, hM8, hG8⟩
          refine hK1 _ _ (fun h => absurd h (by decide)) (wpAnyT_done (by kernel_rfl) ?_ _)
          clear hK1 K1
          have hW8 := (hWi.ext hX0).grown hG8 hgr
          have hF8 := (hFi.trans (Mod.ofExt (g := g) (ob := some gr) hX0) (NewOb.same _ _)).trans (Mod.ofRow (ob := some gr) hG8) (NewOb.same _ _)
          go_wp2
          go_roundw
          case rel => exact ⟨i + 1, by omega, by go_num, hM8, hW8, hF8⟩
          case measure => simp [intOf]; omega
      · obtain rfl : i = r := by omega
        have hl1 : (l : Int) ≤ 255 := by omega
        go_wp2_with (refine wpList_storeC rfl 3 (.tmp 98) (.tmp 96) rfl #[.int .i64 (i : Int), .int .i64 (c : Int), .slice (some ⟨g, 0, none⟩) (i * c) k, .int .i64 ((l : Int) + 1)] rfl rfl hWi (by simp) (by kernel_rfl) rfl rfl rfl ?_; intro w9 hW9 hG9)
        go_ret
        have hF9 := hFi.trans (Mod.ofOwn (g := g) hG9) (NewOb.same _ _)
        have hM9 : OwnM w9 base g i c k (clearTo l col i F2) := ⟨(Mod.ofRow (ob := none) hG9).own hMi.1 (by simp [Value.ownBlock]; exact fun e => hgr e.symm) (by simp [Classical.em]), hMi.2.1, Nat.lt_of_lt_of_le hMi.2.2.1 hG9.size, hkk⟩
        rw [HF2.out] at hM9
        exact .inr ⟨rfl, p, hlp, hpr', HZ.out, HNZ.out, ⟨hW9, hM9, HR.out.2.2⟩, hF9⟩
end Go.Proofs.Ytbfkknoeaekajaa
