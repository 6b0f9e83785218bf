/- The document's Cauchy. -/
import Derived.Test.YtbfkknoeaekajaaMatDef
import Derived.Test.YtbfkknoeaekajaaMatPick
namespace Go.Proofs.Ytbfkknoeaekajaa
open Go.RowKit

def cauchyF (k : Nat) : Mat.M := fun i j => Mat.fi (UInt8.ofNat (k + i) ^^^ UInt8.ofNat j)
def cauchyE (k m : Int) : MV × Int := if 0 ≤ k ∧ 0 ≤ m ∧ k + m ≤ 255 then (⟨m, k, cellsOf k.toNat (cauchyF k.toNat) (m.toNat * k.toNat)⟩, 0) else (MV.zero, 13)
theorem inv_byte {a : UInt8} (h : a ≠ 0) : Gf.invR a.toNat = ((Mat.fi a).toNat, 0) := by
  have h0 : a.toNat ≠ 0 := fun e => h (Mat.ext8 e)
  unfold Gf.invR Mat.fi
  rw [if_neg h0, UInt8.toNat_ofNat', Nat.mod_eq_of_lt (Gf.inv_lt (Mat.lt a) h0)]

set_option maxHeartbeats 4000000 in
set_option maxRecDepth 100000 in
theorem refCauchy_any (k m : Int) (w : World) :
    Calls Try.prog 34 #[.int .i64 k, .int .i64 m] w
      (if 0 ≤ k ∧ 0 ≤ m ∧ k + m ≤ 255 then MadeM w ⟨m, k, cellsOf k.toNat (cauchyF k.toNat) (m.toNat * k.toNat)⟩ 0 else MadeM w MV.zero 13) := by
  have hE1 := extNew w (.cells #[.int .i64 0, .int .i64 0, .slice none 0 0] 42)
  have hW1 := Whole.new w 42 #[.int .i64 0, .int .i64 0, .slice none 0 0]
  by_cases hr : 0 ≤ k ∧ 0 ≤ m ∧ k + m ≤ 255
  · rw [if_pos hr]
    obtain ⟨k, rfl⟩ := Int.eq_ofNat_of_zero_le hr.1
    obtain ⟨m, rfl⟩ := Int.eq_ofNat_of_zero_le hr.2.1
    simp only [Int.toNat_natCast]
    have hkm : k + m ≤ 255 := by omega
    have hE2 := extNew (w.alloc (.cells #[.int .i64 0, .int .i64 0, .slice none 0 0] 42)) (.cells #[.int .i64 m, .int .i64 k, .slice none 0 0] 42)
    have hW2 := Whole.new (w.alloc (.cells #[.int .i64 0, .int .i64 0, .slice none 0 0] 42)) 42 #[.int .i64 m, .int .i64 k, .slice none 0 0]
    rw [World.size_alloc] at hW2
    have s1 : ¬ ((k : Int) < 0) := by omega
    have s2 : ¬ ((m : Int) < 0) := by omega
    have s3 : ¬ ((255 : Int) < (k : Int)) := by omega
    have s4 : ¬ ((255 : Int) < (m : Int)) := by omega
    have s5 : ¬ ((255 : Int) < (k : Int) + (m : Int)) := by omega
    have hmk : m * k ≤ 255 * 255 := Nat.mul_le_mul (by omega) (by omega)
    clear hr
    go_enter Try.func34, Try.ntmps34
    go_wp2_with fail
    go_loopw [7] (fun i wr => ∃ j : Nat, j ≤ m ∧ i = .int .i64 (j : Int) ∧ Made wr (w.heap.size + 2) (w.heap.size + 1) m k (cellsOf k (cauchyF k) (j * k)) ∧ Whole wr w.heap.size 42 #[.int .i64 0, .int .i64 0, .slice none 0 0] ∧ Ext w wr) (fun i _ => m - (intOf i).toNat)
    case atStart => exact ⟨0, by omega, rfl, ⟨_, hW2, by rw [Nat.zero_mul]; exact OwnB.nil _ _⟩, hW1.ext hE2, hE1.trans hE2⟩
    case round =>
      obtain ⟨i, hi, rfl, hMd, hWr, hE⟩ := hrel
      by_cases hlt : i < m
      · go_wp2_with fail
        go_loopw [8] (fun x wr => ∃ j : Nat, j ≤ k ∧ x = .int .i64 (j : Int) ∧ Made wr (w.heap.size + 2) (w.heap.size + 1) m k (cellsOf k (cauchyF k) (i * k + j)) ∧ Whole wr w.heap.size 42 #[.int .i64 0, .int .i64 0, .slice none 0 0] ∧ Ext w wr) (fun x _ => k - (intOf x).toNat)
        case atStart => exact ⟨0, by omega, rfl, by rw [Nat.add_zero]; exact hMd, hWr, hE⟩
        case round =>
          obtain ⟨j, hj, rfl, ⟨v, hWv, hO⟩, hWr2, hE2'⟩ := hrel
          by_cases hjt : j < k
          · have hx0 : UInt8.ofNat (k + i) ^^^ UInt8.ofNat j ≠ 0 := fun e => by
              have := Mat.ofNat_inj (by omega) (by omega) (Mat.xor_eq_zero e)
              omega
            have hxb : bits .xor .u8 ((k + i : Nat) : Int) (j : Int) = ((UInt8.ofNat (k + i) ^^^ UInt8.ofNat j).toNat : Int) := by
              rw [u8_xor_nat _ _ (by omega) (by omega), UInt8.toNat_xor, UInt8.toNat_ofNat', UInt8.toNat_ofNat', Nat.mod_eq_of_lt (by omega), Nat.mod_eq_of_lt (by omega)]
            have hxb' : bits .xor .u8 ((k : Int) + (i : Int)) (j : Int) = ((UInt8.ofNat (k + i) ^^^ UInt8.ofNat j).toNat : Int) := by rw [← hxb]; rfl
            have hS := cellsOf_succ k (cauchyF k) (i * k + j)
            have hdiv : (i * k + j) / k = i := by
              rw [Nat.mul_comm, Nat.mul_add_div (by omega), Nat.div_eq_of_lt hjt, Nat.add_zero]
            have hmod : (i * k + j) % k = j := by
              rw [Nat.mul_comm, Nat.mul_add_mod, Nat.mod_eq_of_lt hjt]
            rw [hdiv, hmod] at hS
            have hcell : cauchyF k i j = Mat.fi (UInt8.ofNat (k + i) ^^^ UInt8.ofNat j) := rfl
            rw [hcell] at hS
            have hib : i * k + j < m * k := by
              have : (i + 1) * k ≤ m * k := Nat.mul_le_mul_right _ hlt
              rw [Nat.add_mul, Nat.one_mul] at this
              omega
            have hlen := cellsOf_len k (cauchyF k) (i * k + j)
            have hfit : (cellsOf k (cauchyF k) (i * k + j)).length + 1 ≤ 140737488355328 := by omega
            have C := fun W => refInv_any (UInt8.ofNat (k + i) ^^^ UInt8.ofNat j).toNat W (Mat.lt _)
            rw [inv_byte hx0] at C
            have HS := hide hS
            generalize Mat.fi (UInt8.ofNat (k + i) ^^^ UInt8.ofNat j) = bt at *
            generalize UInt8.ofNat (k + i) ^^^ UInt8.ofNat j = xx at *
            have hb1 := bytesNew wr [bt] #[.int .u8 (bt.toNat : Int)] 5 (0, 0) rfl 1 rfl
            have hE4 := extNew wr (.cells #[.int .u8 (bt.toNat : Int)] 5)
            have hO1 := hO.ext hE4
            have hW4 := hWv.ext hE4
            have hlt2 := hWv.lt
            have hB1 : w.heap.size + 2 ≤ (wr.alloc (.cells #[.int .u8 (bt.toNat : Int)] 5)).heap.size := by
              have := hE4.le
              omega
            have c2 := hWv.at 2 rfl
            have b1 : ((k : Int) + (i : Int)) ≤ 255 := by omega
            have b2 : (j : Int) ≤ 255 := by omega
            have b0 : (0 : Int) ≤ (k : Int) + (i : Int) := by omega
            clear hS hdiv hmod hcell hlen hMd hxb hx0
            go_wp2_with (first
              | (go_at_call 55; refine (C _).mono ?_; rintro e w3 ⟨rfl, rfl⟩)
              | (at_builtin; refine wpList_appAt rfl (.tmp 57) (.tmp 59) rfl rfl hO1 rfl hb1 hfit hB1 ?_; intro v4 w4 hO4 hG4 hN4; have hne4 : v.ownBlock ≠ some (w.heap.size + 1) := (fun e => (by (have := (hO1.lt _ e).1; omega))); have hW5 := hW4.ownGrown hG4 hne4; have o1 := hO4.one; have o2 := hO4.cells1)
              | (refine wpList_storeC rfl 35 (.tmp 61) (.tmp 60) rfl #[.int .i64 m, .int .i64 k, v4] rfl rfl hW5 (by simp) (by kernel_rfl) o1 o2 rfl ?_; intro w5 hW6 hG5))
            go_roundw
            case rel =>
              have hne5 : v4.ownBlock ≠ some (w.heap.size + 1) := fun e => by
                have := (hO4.lt _ e).1
                omega
              have hF4 : Ext w w4 := Below.grown (hE2'.trans hE4) hG4 (hE2'.trans hE4).le (fun k hk => by have := (hO1.lt k hk).1; omega)
              have hF5 : Ext w w5 := Below.grown hF4 hG5 hF4.le (fun k hk => by cases hk; omega)
              have hWr4 : Whole w4 w.heap.size 42 #[.int .i64 0, .int .i64 0, .slice none 0 0] := (hWr2.ext hE4).ownGrown hG4 (fun e => by have := (hO1.lt _ e).1; omega)
              exact ⟨j + 1, by omega, by go_num, ⟨v4, hW6, by rw [← Nat.add_assoc, HS.out]; exact (Mod.ofRow (ob := none) hG5).own hO4 hne5 (by simp [Classical.em])⟩, hWr4.ownGrown hG5 (by simp), hF5⟩
            case measure => simp [intOf]; omega
          · obtain rfl : j = k := by omega
            go_wp2
            go_roundw
            case rel => exact ⟨i + 1, by omega, by go_num, ⟨v, hWv, by rw [Nat.add_mul, Nat.one_mul]; exact hO⟩, hWr2, hE2'⟩
            case measure => simp [intOf]; omega
      · obtain rfl : i = m := by omega
        obtain ⟨v, hWv, hO⟩ := hMd
        have o1 := hO.one
        go_wp2_with (first
          | (refine wpList_load_row rfl 42 (.tmp 6) rfl _ rfl _ _ _ _ hWv Try.underlying42 rfl mat_info ?_)
          | (refine wpList_storeW rfl 42 (.tmp 4) (.tmp 62) rfl rfl rfl hWr rfl mat_info (mat_one o1) ?_; intro w5 hW5 hG5 _))
        refine bodyPost_ret (results_mat rfl _ rfl rfl hW5 rfl) rfl ?_
        exact made_end hE hG5 hO (by omega)
  · rw [if_neg hr]
    by_cases h1 : k < 0
    · clear hr
      go_enter Try.func34, Try.ntmps34
      go_wp2
      refine bodyPost_ret (results_mat rfl _ rfl rfl hW1 rfl) rfl ?_
      exact MadeM.zero 13 hE1
    by_cases h2 : m < 0
    · clear hr
      go_enter Try.func34, Try.ntmps34
      go_wp2
      refine bodyPost_ret (results_mat rfl _ rfl rfl hW1 rfl) rfl ?_
      exact MadeM.zero 13 hE1
    by_cases h3 : (255 : Int) < k
    · clear hr
      go_enter Try.func34, Try.ntmps34
      go_wp2
      refine bodyPost_ret (results_mat rfl _ rfl rfl hW1 rfl) rfl ?_
      exact MadeM.zero 13 hE1
    by_cases h4 : (255 : Int) < m
    · clear hr
      go_enter Try.func34, Try.ntmps34
      go_wp2
      refine bodyPost_ret (results_mat rfl _ rfl rfl hW1 rfl) rfl ?_
      exact MadeM.zero 13 hE1
    have h5 : (255 : Int) < k + m := by omega
    clear hr
    go_enter Try.func34, Try.ntmps34
    go_wp2
    refine bodyPost_ret (results_mat rfl _ rfl rfl hW1 rfl) rfl ?_
    exact MadeM.zero 13 hE1
end Go.Proofs.Ytbfkknoeaekajaa
