/- Contracts of the program's working copies: scale, swap. -/
import Derived.Test.YtpgdmdcooddgdaaMatPAdd
import Derived.Test.YtpgdmdcooddgdaaMatGauss
import Derived.Test.YtpgdmdcooddgdaaClone8
namespace Go.Proofs.Ytpgdmdcooddgdaa
open Go.RowKit

theorem OwnB.bytesAt {w : World} {base n k : Nat} {A : Option Addr} {l : List UInt8} (h : OwnB w base (.slice A n k) l) : Bytes w w.heap.size A n l := by
  obtain ⟨A', n', k', hv, _, _, h3⟩ := h.form'
  simp only [Value.slice.injEq] at hv
  obtain ⟨rfl, rfl, rfl⟩ := hv
  exact h3
theorem u8_ofNat_xor (x y : Nat) : UInt8.ofNat (x ^^^ y) = UInt8.ofNat x ^^^ UInt8.ofNat y := by
  apply Mat.ext8
  rw [UInt8.toNat_xor, UInt8.toNat_ofNat', UInt8.toNat_ofNat', UInt8.toNat_ofNat', Nat.xor_mod_two_pow (n := 8)]
theorem fm_less (x : Nat) (y : UInt8) : y ^^^ Mat.fm (UInt8.ofNat (x ^^^ 1)) y = Mat.fm (UInt8.ofNat x) y := by
  rw [u8_ofNat_xor, Mat.xor_fm, show UInt8.ofNat 1 = 1 from rfl, Mat.one_fm, UInt8.xor_comm, UInt8.xor_assoc, UInt8.xor_self, UInt8.xor_zero]

set_option maxHeartbeats 2000000 in
set_option maxRecDepth 100000 in
theorem wscale_any {base g r c k i x : Nat} {F : Mat.M} {w : World} (hr : r ≤ 255) (hc : c ≤ 510) (hi : i < r) (hx : x < 256) (hM : OwnM w base g r c k F) :
    Calls Try.prog 50 #[ownV g r c k, .int .i64 (i : Int), .int .u8 (x : Int)] w fun e w' => e = .returned (.tuple #[]) ∧ OwnM w' base g r c k (fun a b => if a = i then Mat.fm (UInt8.ofNat x) (F a b) else F a b) ∧ w.grownBy w' (some g) := by
  have hE1 := extNew w (.cells #[.int .i64 r, .int .i64 c, .slice (some ⟨g, 0, none⟩) (r * c) k] 54)
  have hW1 := Whole.new w 54 #[.int .i64 r, .int .i64 c, .slice (some ⟨g, 0, none⟩) (r * c) k]
  have CR := fun W => row_any' r i c k (r * c) (some ⟨g, 0, none⟩) (by omega) hc (Nat.le_trans (Nat.mul_le_mul_right _ hi) hM.2.2.2) W
  have hx1 : x ^^^ 1 < 256 := Nat.xor_lt_two_pow (n := 8) hx (by omega)
  have CA := fun W hM hB => wadd_any (w := W) (base := base) (g := g) (r := r) (c := c) (k := k) (i := i) (x := x ^^^ 1) (F := F) (A := cutAt (some ⟨g, 0, none⟩) k (i * c)) (ks := k - i * c) (f := F i) hr hc hi hx1 hM hB
  have hxor : bits .xor .u8 (x : Int) 1 = ((x ^^^ 1 : Nat) : Int) := u8_xor_nat x 1 hx (by omega)
  have HX := hide (show (fun a b => if a = i then F a b ^^^ Mat.fm (UInt8.ofNat (x ^^^ 1)) (F i b) else F a b) = fun a b => if a = i then Mat.fm (UInt8.ofNat x) (F a b) else F a b by
    funext a b
    by_cases h : a = i
    · rw [if_pos h, if_pos h, h, fm_less]
    · rw [if_neg h, if_neg h])
  rw [HX.out] at CA
  generalize x ^^^ 1 = y at *
  have HM := hide hM
  clear hM
  unfold ownV matV at CA ⊢
  unfold matV at CR
  obtain ⟨wb, hwb⟩ : ∃ wb, wb = w.alloc (.cells #[.int .i64 r, .int .i64 c, .slice (some ⟨g, 0, none⟩) (r * c) k] 54) := ⟨_, rfl⟩
  obtain ⟨gb, hgb⟩ : ∃ gb, gb = w.heap.size := ⟨_, rfl⟩
  go_enter Try.func50, Try.ntmps50
  go_wp2_with fail
  rw [← hwb] at hE1 hW1 ⊢
  rw [← hgb] at hW1 ⊢
  clear hwb hgb
  refine wp_region_T (fun W => Ext wb W) 8 9 #[false, false, false, false, false, false, false, false, false] (by kernel_rfl) rfl rfl (Ext.refl wb).drew ?_
  intro hS0
  refine wpAnyT_take 0 (some 6) (.agg #[.int .i64 (r : Int), .int .i64 (c : Int), .slice (some ⟨g, 0, none⟩) (r * c) k]) #[true, false, false, false, false, false, false, false, false] rfl rfl rfl (by kernel_rfl) (fun _ _ _ h => h) hS0 (by rfl) (fun W hX => by have s0 := (hW1.ext hX).at 0 (u := .int .i64 (r : Int)) rfl; have s1 := (hW1.ext hX).at 1 (u := .int .i64 (c : Int)) rfl; have s2 := (hW1.ext hX).at 2 (u := .slice (some ⟨g, 0, none⟩) (r * c) k) rfl; go_simp) ?_
  simp only [Act.put, List.setIfInBounds_toArray, List.set_cons_zero, List.set_cons_succ]
  refine wpAnyT_take 1 (some 7) (.int .i64 (i : Int)) #[true, true, false, false, false, false, false, false, false] rfl rfl rfl (by kernel_rfl) (fun _ _ _ h => h) hS0 (by rfl) (fun W hX => by go_simp) ?_
  simp only [Act.put, List.setIfInBounds_toArray, List.set_cons_zero, List.set_cons_succ]
  refine wpAnyT_take 2 (some 8) (.int .u8 (x : Int)) #[true, true, true, false, false, false, false, false, false] rfl rfl rfl (by kernel_rfl) (fun _ _ _ h => h) hS0 (by rfl) (fun W hX => by go_simp) ?_
  simp only [Act.put, List.setIfInBounds_toArray, List.set_cons_zero, List.set_cons_succ]
  refine wpAnyT_take 3 (some 9) (.int .u8 (y : Int)) #[true, true, true, true, false, false, false, false, false] rfl rfl rfl (by kernel_rfl) (fun _ _ _ h => h) hS0 (by rfl) (fun W hX => by go_simp) ?_
  simp only [Act.put, List.setIfInBounds_toArray, List.set_cons_zero, List.set_cons_succ]
  refine wpAnyT_take 4 (some 10) (.pointer (some ⟨gb, 0, none⟩)) #[true, true, true, true, true, false, false, false, false] rfl rfl rfl (by kernel_rfl) (fun _ _ _ h => h) hS0 (by rfl) (fun W hX => by go_simp) ?_
  simp only [Act.put, List.setIfInBounds_toArray, List.set_cons_zero, List.set_cons_succ]
  refine wpAnyT_take 5 (some 11) (.agg #[.int .i64 (r : Int), .int .i64 (c : Int), .slice (some ⟨g, 0, none⟩) (r * c) k]) #[true, true, true, true, true, true, false, false, false] rfl rfl rfl (by kernel_rfl) (fun _ _ _ h => h) hS0 (by rfl) (fun W hX => by have s0 := (hW1.ext hX).at 0 (u := .int .i64 (r : Int)) rfl; have s1 := (hW1.ext hX).at 1 (u := .int .i64 (c : Int)) rfl; have s2 := (hW1.ext hX).at 2 (u := .slice (some ⟨g, 0, none⟩) (r * c) k) rfl; go_simp) ?_
  simp only [Act.put, List.setIfInBounds_toArray, List.set_cons_zero, List.set_cons_succ]
  refine wpAnyT_take 6 (some 12) (.int .i64 (i : Int)) #[true, true, true, true, true, true, true, false, false] rfl rfl rfl (by kernel_rfl) (fun _ _ _ h => h) hS0 (by rfl) (fun W hX => by go_simp) ?_
  simp only [Act.put, List.setIfInBounds_toArray, List.set_cons_zero, List.set_cons_succ]
  refine wpAnyT_only 7 #[true, true, true, true, true, true, true, true, false] (by kernel_rfl) rfl rfl (by rfl) (fun K0 hK0 => ?_)
  go_simp
  go_at_call 35
  refine (CR _).mono ?_
  rintro e wc0 ⟨rfl, hC0⟩
  have hX0 := hS0.trans hC0
  refine hK0 _ _ (fun _ => hX0) ?_
  clear hK0 K0
  refine wpAnyT_only 8 #[true, true, true, true, true, true, true, true, true] (by kernel_rfl) rfl rfl (by rfl) (fun K1 hK1 => ?_)
  go_simp
  go_at_call 38
  refine (CA _ (HM.out.ext (hE1.trans hX0)) (ownRow (HM.out.ext (hE1.trans hX0)).1 rfl HM.out.2.2.2 hi)).mono ?_
  rintro e w8 ⟨rfl, hM8, hG8⟩
  refine hK1 _ _ (fun h => absurd h (by decide)) (wpAnyT_done (by kernel_rfl) ?_ _)
  clear hK1 K1
  go_wp2
  refine bodyPost_end (results_none rfl _ _ _) rfl ⟨rfl, hM8, ((hE1.trans hX0).grown _).trans hG8⟩

set_option maxHeartbeats 2000000 in
set_option maxRecDepth 100000 in
theorem wswap_any {base g r c k i j : Nat} {F : Mat.M} {w : World} (hr : r ≤ 255) (hc : c ≤ 510) (hi : i < r) (hj : j < r) (hM : OwnM w base g r c k F) :
    Calls Try.prog 49 #[ownV g r c k, .int .i64 (i : Int), .int .i64 (j : Int)] w fun e w' => e = .returned (.tuple #[]) ∧ OwnM w' base g r c k (fun a b => F (Mat.sw i j a) b) ∧ w.grownBy w' (some g) := by
  have hE1 := extNew w (.cells #[.int .i64 r, .int .i64 c, .slice (some ⟨g, 0, none⟩) (r * c) k] 54)
  have hW1 := Whole.new w 54 #[.int .i64 r, .int .i64 c, .slice (some ⟨g, 0, none⟩) (r * c) k]
  have CRi := fun W => row_any' r i c k (r * c) (some ⟨g, 0, none⟩) (by omega) hc (Nat.le_trans (Nat.mul_le_mul_right _ hi) hM.2.2.2) W
  have CRj := fun W => row_any' r j c k (r * c) (some ⟨g, 0, none⟩) (by omega) hc (Nat.le_trans (Nat.mul_le_mul_right _ hj) hM.2.2.2) W
  have hle : i * c + c ≤ k := by
    have : (i + 1) * c ≤ r * c := Nat.mul_le_mul_right _ hi
    rw [Nat.add_mul, Nat.one_mul] at this
    exact Nat.le_trans this hM.2.2.2
  have CC := fun W hB => sliceClone8_any (cutAt (some ⟨g, 0, none⟩) k (i * c)) c (k - i * c) (rowB c (F i)) W (by omega) (by omega) hB
  have HM := hide hM
  have HMj := hide hM
  clear hM hle
  unfold ownV matV
  unfold matV at CRi CRj
  go_enter Try.func49, Try.ntmps49
  go_wp2_with (refine wpList_load_row rfl 24 (.tmp 7) rfl _ rfl _ _ _ _ hW1 Try.underlying24 rfl mat_info ?_)
  refine (CRi _).mono ?_
  rintro e w2 ⟨rfl, hE2⟩
  have hE12 := hE1.trans hE2
  have hW2 := hW1.ext hE2
  go_wp2_with fail
  refine (CC _ (ownRow (HM.out.ext hE12).1 rfl HM.out.2.2.2 hi)).mono ?_
  rintro e w3 ⟨v, rfl, hO3, hE3⟩
  obtain ⟨A3, n3, k3, rfl, hk3, hn3, hB3⟩ := hO3.form'
  have hn : n3 = c := by have := hB3.1; rw [rowB_len] at this; exact this.symm
  subst hn
  have hE13 := hE12.trans hE3
  have hW3 := hW2.ext hE3
  have hg3 := (HM.out.ext hE12).2.2.1
  have hne3 : ∀ b, (Value.slice A3 n3 k3).ownBlock = some b → b ≠ g := fun b hk e => by
    have := (hO3.lt b hk).1
    omega
  obtain ⟨gb, hgb⟩ : ∃ gb, gb = w.heap.size := ⟨_, rfl⟩
  have hgbg : gb ≠ g := by have := HM.out.2.2.1; omega
  go_wp2_with fail
  rw [← hgb] at hW3 ⊢
  clear hgb
  refine wp_region_T (fun W => Ext w3 W) 8 9 #[false, false, false, false, false, false, false, false, false] (by kernel_rfl) rfl rfl (Ext.refl w3).drew ?_
  intro hS0
  refine wpAnyT_take 0 (some 12) (.pointer (some ⟨gb, 0, none⟩)) #[true, false, false, false, false, false, false, false, false] rfl rfl rfl (by kernel_rfl) (fun _ _ _ h => h) hS0 (by rfl) (fun W hX => by go_simp) ?_
  simp only [Act.put, List.setIfInBounds_toArray, List.set_cons_zero, List.set_cons_succ]
  refine wpAnyT_take 1 (some 13) (.agg #[.int .i64 (r : Int), .int .i64 (n3 : Int), .slice (some ⟨g, 0, none⟩) (r * n3) k]) #[true, true, false, false, false, false, false, false, false] rfl rfl rfl (by kernel_rfl) (fun _ _ _ h => h) hS0 (by rfl) (fun W hX => by have s0 := (hW3.ext hX).at 0 (u := .int .i64 (r : Int)) rfl; have s1 := (hW3.ext hX).at 1 (u := .int .i64 (n3 : Int)) rfl; have s2 := (hW3.ext hX).at 2 (u := .slice (some ⟨g, 0, none⟩) (r * n3) k) rfl; go_simp) ?_
  simp only [Act.put, List.setIfInBounds_toArray, List.set_cons_zero, List.set_cons_succ]
  refine wpAnyT_take 2 (some 14) (.int .i64 (i : Int)) #[true, true, true, false, false, false, false, false, false] rfl rfl rfl (by kernel_rfl) (fun _ _ _ h => h) hS0 (by rfl) (fun W hX => by go_simp) ?_
  simp only [Act.put, List.setIfInBounds_toArray, List.set_cons_zero, List.set_cons_succ]
  refine wpAnyT_take 4 (some 16) (.pointer (some ⟨gb, 0, none⟩)) #[true, true, true, false, true, false, false, false, false] rfl rfl rfl (by kernel_rfl) (fun _ _ _ h => h) hS0 (by rfl) (fun W hX => by go_simp) ?_
  simp only [Act.put, List.setIfInBounds_toArray, List.set_cons_zero, List.set_cons_succ]
  refine wpAnyT_take 5 (some 17) (.agg #[.int .i64 (r : Int), .int .i64 (n3 : Int), .slice (some ⟨g, 0, none⟩) (r * n3) k]) #[true, true, true, false, true, true, false, false, false] rfl rfl rfl (by kernel_rfl) (fun _ _ _ h => h) hS0 (by rfl) (fun W hX => by have s0 := (hW3.ext hX).at 0 (u := .int .i64 (r : Int)) rfl; have s1 := (hW3.ext hX).at 1 (u := .int .i64 (n3 : Int)) rfl; have s2 := (hW3.ext hX).at 2 (u := .slice (some ⟨g, 0, none⟩) (r * n3) k) rfl; go_simp) ?_
  simp only [Act.put, List.setIfInBounds_toArray, List.set_cons_zero, List.set_cons_succ]
  refine wpAnyT_take 6 (some 18) (.int .i64 (j : Int)) #[true, true, true, false, true, true, true, false, false] rfl rfl rfl (by kernel_rfl) (fun _ _ _ h => h) hS0 (by rfl) (fun W hX => by go_simp) ?_
  simp only [Act.put, List.setIfInBounds_toArray, List.set_cons_zero, List.set_cons_succ]
  refine wpAnyT_only 3 #[true, true, true, true, true, true, true, false, false] (by kernel_rfl) rfl rfl (by rfl) (fun K0 hK0 => ?_)
  go_simp
  go_at_call 35
  refine (CRi _).mono ?_
  rintro e w6 ⟨rfl, hE6⟩
  have hX6 := hS0.trans hE6
  refine hK0 _ _ (fun _ => hX6) ?_
  clear hK0 K0
  refine wpAnyT_only 7 #[true, true, true, true, true, true, true, true, false] (by kernel_rfl) rfl rfl (by rfl) (fun K1 hK1 => ?_)
  go_simp
  go_at_call 35
  refine (CRj _).mono ?_
  rintro e w7 ⟨rfl, hE7⟩
  have hX7 := hX6.trans hE7
  refine hK1 _ _ (fun _ => hX7) ?_
  clear hK1 K1
  refine wpAnyT_only 8 #[true, true, true, true, true, true, true, true, true] (by kernel_rfl) rfl rfl (by rfl) (fun K4 hK4 => ?_)
  refine wp_copyM (.tmp 15) (.tmp 19) rfl rfl rfl (HM.out.ext (hE13.trans hX7)).1 (ownRow (HM.out.ext (hE13.trans hX7)).1 rfl HM.out.2.2.2 hj) rfl HM.out.2.2.2 hi (Nat.le_refl _) rfl ?_
  intro w8 hO8 hG8 hS8
  refine hK4 _ _ (fun h => absurd h (by decide)) (wpAnyT_done (by kernel_rfl) ?_ _)
  clear hK4 K4 hE6 hE7 hX6
  have hW8 := (hW3.ext hX7).grown hG8 hgbg
  have hB8 : Bytes w8 w8.heap.size A3 n3 (rowB n3 (F i)) := ((Mod.ofRow (ob := none) hG8).own (hO3.ext hX7) (fun e => hne3 g e rfl) (by simp [Classical.em])).bytesAt
  go_wp2_with (refine wpList_load_row rfl 24 (.tmp 21) rfl _ rfl _ _ _ _ hW8 Try.underlying24 rfl mat_info ?_)
  refine (CRj _).mono ?_
  rintro e w9 ⟨rfl, hE9⟩
  go_wp2_with (refine wpList_copyM rfl (.tmp 24) (.tmp 25) rfl rfl rfl (hO8.ext hE9) (hE9.bytes hB8) rfl HM.out.2.2.2 hj (Nat.le_refl _) rfl ?_; intro w10 hO10 hG10 hS10)
  have hM10 : OwnM w10 base g r n3 k _ := ⟨hO10, HM.out.2.1, by have := HM.out.2.2.1; have := (hE13.trans hX7).le; have := hE9.le; omega, HM.out.2.2.2⟩
  refine bodyPost_end (results_none rfl _ _ _) rfl ⟨rfl, hM10.congr fun a b _ hb => ?_, ((((hE13.trans hX7).grown _).trans hG8).trans (hE9.grown _)).trans hG10⟩
  unfold Mat.sw
  by_cases h1 : a = j
  · rw [if_pos ⟨h1, hb⟩]
    by_cases h2 : a = i
    · rw [if_pos h2, ← h1, h2]
    · rw [if_neg h2, if_pos h1]
  · rw [if_neg (fun e => h1 e.1)]
    by_cases h2 : a = i
    · rw [if_pos ⟨h2, hb⟩, if_pos h2]
    · rw [if_neg (fun e => h2 e.1), if_neg h2, if_neg h1]
end Go.Proofs.Ytpgdmdcooddgdaa
