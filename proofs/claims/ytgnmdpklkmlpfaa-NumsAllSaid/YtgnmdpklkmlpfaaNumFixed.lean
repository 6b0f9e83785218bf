/- The contract of the program's Fixed. -/
import Derived.Test.YtgnmdpklkmlpfaaNumOwn
namespace Go.Proofs.Ytgnmdpklkmlpfaa
open Go.RowKit

theorem madeZeros (n : Nat) : (madeCells (Value.int .u8 0).cells n).toList = (List.replicate n (0 : UInt8)).map byteV := by
  have : madeCells (Value.int .u8 0).cells n = ((List.replicate n (0 : UInt8)).map byteV).toArray := by
    apply Array.ext
    · simp [size_madeCells]
    · intro i h1 h2
      simp [madeCells, Value.cells, byteV, Nat.mod_one]
  rw [this]
theorem fix_step (j k x : Nat) (h : j < k) : (Num.fix j x ++ List.replicate (k - j) (0 : UInt8)).set j (UInt8.ofNat (x / 256 ^ j % 256)) = Num.fix (j + 1) x ++ List.replicate (k - (j + 1)) 0 := by
  rw [Num.fix_snoc, List.set_append, if_neg (by rw [Num.fix_len]; omega), Num.fix_len, Nat.sub_self, show k - j = (k - (j + 1)) + 1 by omega, List.replicate_succ, List.set_cons_zero, List.append_assoc]
  rfl

set_option maxHeartbeats 1000000 in
set_option maxRecDepth 100000 in
theorem ownFixed_any (x : Nat) (n : Int) (w : World) (_hx : x < 18446744073709551616) : Calls Try.prog 11 #[.int .u64 x, .int .i64 n] w (MadeE w (Num.fixBytes x n) (Num.fixErr x n)) := by
  by_cases hr : 1 ≤ n ∧ n ≤ 8
  · obtain ⟨h1, h8⟩ := hr
    obtain ⟨k, rfl⟩ := Int.eq_ofNat_of_zero_le (show 0 ≤ n by omega)
    have hw8 : IntKind.i64.wrap (8 * (k : Int)) = ((8 * k : Nat) : Int) := by rw [IntKind.wrap_i64]; omega
    have hpw : (256 : Nat) ^ k = 2 ^ (8 * k) := by rw [Nat.pow_mul]
    by_cases hxl : x < 256 ^ k
    · have HB := hide (show Num.fixErr x (k : Int) = 0 ∧ Num.fixBytes x (k : Int) = Num.fix k x by unfold Num.fixErr Num.fixBytes; rw [if_pos ⟨h1, h8, by simpa using hxl⟩, if_pos ⟨h1, h8, by simpa using hxl⟩]; simp)
      have hz' : ((x : Int) / 2 ^ (8 * k) != 0) = false := by
        have : (x : Int) / 2 ^ (8 * k) = ((x / 2 ^ (8 * k) : Nat) : Int) := by simp only [Int.natCast_ediv, Int.natCast_pow]; rfl
        rw [this, Nat.div_eq_of_lt (by rw [← hpw]; exact hxl)]; rfl
      obtain ⟨i, hi, hz, hs, hby⟩ := info_parts byte_info
      have hi4 : k ≤ maxLen := by unfold maxLen; omega
      have hi5 : i.bytes * k ≤ 281474976710656 := by rw [hby]; omega
      clear hxl hpw
      go_enter Try.func11, Try.ntmps11
      go_wp2_with (at_make; refine wpList_make_full _ rfl _ _ _ rfl w.heap.size 5 i _ 1 Try.underlying24 hi hz hs _ _ _ _ k rfl rfl rfl rfl hi5 hi4 (Nat.le_refl _) ?_; intro w1 hO1 hG1)
      have hO : OwnB w1 w.heap.size (.slice (some ⟨w.heap.size, 0, none⟩) k k) (List.replicate k 0) := by
        unfold OwnB
        rw [Nat.mul_one, madeZeros] at hO1
        rw [List.length_replicate]
        exact hO1
      have hE1 : Ext w w1 := ⟨hG1.os, hG1.tape, hG1.output, hG1.size, fun b hb => hG1.block b hb (by simp)⟩
      clear hO1 hi hz hs hby hi4 hi5 hG1 hz'
      go_loopw [25] (fun i wr => ∃ j : Nat, j ≤ k ∧ i = .int .i64 (j : Int) ∧ OwnB wr w.heap.size (.slice (some ⟨w.heap.size, 0, none⟩) k k) (Num.fix j x ++ List.replicate (k - j) 0) ∧ Ext w wr) (fun i _ => k - (intOf i).toNat)
      case atStart => exact ⟨0, by omega, rfl, by simpa [Num.fix] using hO, hE1⟩
      case round =>
        obtain ⟨j, hj, rfl, hO2, hE2⟩ := hrel
        by_cases hlt : j < k
        · have HS := hide (fix_step j k x hlt)
          have hlen : (Num.fix j x ++ List.replicate (k - j) (0 : UInt8)).length = k := by rw [List.length_append, Num.fix_len, List.length_replicate]; omega
          obtain ⟨hc, hf⟩ := hO2.cell (i := j) (by omega)
          have hw8j : IntKind.i64.wrap (8 * (j : Int)) = ((8 * j : Nat) : Int) := by rw [IntKind.wrap_i64]; omega
          obtain ⟨bt, hbt⟩ : ∃ bt : UInt8, bt = UInt8.ofNat (x / 256 ^ j % 256) := ⟨_, rfl⟩
          have hbn : bt.toNat = x / 256 ^ j % 256 := by rw [hbt]; exact Num.ofNat_low _ (by omega)
          rw [← hbt] at HS
          have hbyte : (x : Int) / 2 ^ (8 * j) % 256 = (bt.toNat : Int) := by
            rw [hbn, show (256 : Nat) ^ j = 2 ^ (8 * j) by rw [Nat.pow_mul]]
            simp only [Int.natCast_emod, Int.natCast_ediv, Int.natCast_pow]
            rfl
          have hO3 := hO2.set j bt
          rw [HS.out] at hO3
          have hE3 : Ext w (wr.setCell ⟨w.heap.size, j, none⟩ (.int .u8 (bt.toNat : Int))) := hE2.setCell (Nat.le_refl _) _
          clear hbt hbn hO2 hlen
          go_wp2
          go_roundw
          case rel => exact ⟨j + 1, by omega, by go_num, hO3, hE3⟩
          case measure => simp [intOf]; omega
        · obtain rfl : j = k := by omega
          rw [Nat.sub_self, List.replicate_zero, List.append_nil] at hO2
          go_wp2
          go_ret2
          exact ⟨_, ret_verr' HB.out.1.symm, by rw [HB.out.2]; exact hO2, hE2⟩
    · have HB := hide (show Num.fixErr x (k : Int) = 13 ∧ Num.fixBytes x (k : Int) = [] by unfold Num.fixErr Num.fixBytes; rw [if_neg (fun h => hxl (by simpa using h.2.2)), if_neg (fun h => hxl (by simpa using h.2.2))]; simp)
      have hz' : ((x : Int) / 2 ^ (8 * k) != 0) = true := by
        have : (x : Int) / 2 ^ (8 * k) = ((x / 2 ^ (8 * k) : Nat) : Int) := by simp only [Int.natCast_ediv, Int.natCast_pow]; rfl
        rw [this]
        have h0 : x / 2 ^ (8 * k) ≠ 0 := by
          rw [← hpw]
          intro h
          rcases Nat.div_eq_zero_iff.1 h with h | h
          · have : 0 < 256 ^ k := Nat.pow_pos (by decide)
            omega
          · exact hxl h
        simpa using fun h => h0 (by exact_mod_cast h)
      clear hxl hpw
      go_enter Try.func11, Try.ntmps11
      go_wp2
      go_ret2
      exact ⟨_, ret_verr' HB.out.1.symm, by rw [HB.out.2]; exact OwnB.nil _ _, Ext.refl _⟩
  · have HB := hide (show Num.fixErr x n = 13 ∧ Num.fixBytes x n = [] by unfold Num.fixErr Num.fixBytes; rw [if_neg (fun h => hr ⟨h.1, h.2.1⟩), if_neg (fun h => hr ⟨h.1, h.2.1⟩)]; simp)
    by_cases h1 : n < 1
    · clear hr
      go_enter Try.func11, Try.ntmps11
      go_wp2
      go_ret2
      exact ⟨_, ret_verr' HB.out.1.symm, by rw [HB.out.2]; exact OwnB.nil _ _, Ext.refl _⟩
    · have h8 : 8 < n := by omega
      clear hr
      go_enter Try.func11, Try.ntmps11
      go_wp2
      go_ret2
      exact ⟨_, ret_verr' HB.out.1.symm, by rw [HB.out.2]; exact OwnB.nil _ _, Ext.refl _⟩
end Go.Proofs.Ytgnmdpklkmlpfaa
