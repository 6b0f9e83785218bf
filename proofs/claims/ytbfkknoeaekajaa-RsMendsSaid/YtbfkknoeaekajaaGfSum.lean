/- Contracts of the program's Add and Dot. -/
import Derived.Test.YtbfkknoeaekajaaGfRow
import Derived.Test.YtbfkknoeaekajaaMod
import Derived.Laws.OwnMore
namespace Go.Proofs.Ytbfkknoeaekajaa
open Go.RowKit

theorem gfZeros (n : Nat) : (madeCells (Value.int .u8 0).cells n).toList = (List.replicate n (0 : UInt8)).map byteV := by
  have : madeCells (Value.int .u8 0).cells n = ((List.replicate n (0 : UInt8)).map byteV).toArray := by
    apply Array.ext
    · simp [size_madeCells]
    · intro i h1 h2
      simp [madeCells, Value.cells, byteV, Nat.mod_one]
  rw [this]
theorem add_step (to b : List UInt8) (c j n : Nat) (h : j < n) : (Gf.addN to c b j ++ List.replicate (n - j) (0 : UInt8)).set j (to.getD j 0 ^^^ UInt8.ofNat (Gf.mul c (b.getD j 0).toNat)) = Gf.addN to c b (j + 1) ++ List.replicate (n - (j + 1)) 0 := by
  rw [Gf.addN, List.set_append, if_neg (by rw [Gf.addN_len]; omega), Gf.addN_len, Nat.sub_self, show n - j = (n - (j + 1)) + 1 by omega, List.replicate_succ, List.set_cons_zero, List.append_assoc]
  rfl

set_option maxHeartbeats 2000000 in
set_option maxRecDepth 100000 in
theorem add_any (A1 A2 : Option Addr) (c1 c2 c : Nat) (to b : List UInt8) (w : World) (hc : c < 256) (hl : to.length ≤ 1000000)
    (h1 : Bytes w w.heap.size A1 to.length to) (h2 : Bytes w w.heap.size A2 b.length b) : Calls Try.prog 61 #[.slice A1 to.length c1, .int .u8 (c : Int), .slice A2 b.length c2] w (MadeR w (Gf.addR to c b)) := by
  have HR := hide (show Gf.addR to c b = if to.length = b.length then (Gf.addN to c b b.length, 0) else ([], 13) from rfl)
  by_cases hne : to.length = b.length
  · have HN := hide (show Gf.addR to c b = (Gf.addN to c b b.length, 0) by rw [HR.out, if_pos hne])
    have hne' : ((to.length : Int) != (b.length : Int)) = false := by simp; omega
    have CR := fun W => row_any c W hc
    have HV := hide (Gf.rowV_size c)
    have HVat := hide (fun i (hi : i < 256) => Gf.rowV_at c hi)
    have hone := Gf.rowV_one c
    have hinf : (Try.prog.info? 69).map (·.size) = some (Gf.rowV c).size := by rw [HV.out]; exact row_info
    generalize Gf.rowV c = V at *
    obtain ⟨Z, hZ, hzero, _⟩ := row_zero'
    have hs : V.size = Z.size := by rw [HV.out, hZ]
    obtain ⟨i, hi, hz, hsz, hby⟩ := info_parts byte_info
    have hi4 : to.length ≤ maxLen := by unfold maxLen; omega
    have hi5 : i.bytes * to.length ≤ 281474976710656 := by rw [hby]; omega
    have HQ := hide hne
    clear hne hZ
    go_enter Try.func61, Try.ntmps61
    go_wp2_with fail
    refine (CR w).mono ?_
    rintro e w1 ⟨rfl, hE1⟩
    have hWz := Whole.new w1 69 Z
    have hE2 : Ext w (w1.alloc (.cells Z 69)) := hE1.alloc _
    go_wp2_with (first
      | (refine wpList_storeW rfl 69 (.tmp 8) (.tmp 17) rfl rfl rfl hWz hs hinf hone ?_; intro w3 hW3 hG3 hS3; clear hS3)
      | (at_make; refine wpList_make_full _ rfl _ _ _ rfl w3.heap.size 5 i _ 1 Try.underlying35 hi hz hsz _ _ _ _ to.length rfl rfl rfl rfl hi5 hi4 (Nat.le_refl _) ?_; intro w4 hO4 hG4))
    have hE3 : Ext w w3 := Below.grown hE2 hG3 hE2.le (fun k hk => by cases hk; exact hE1.le)
    have hlt3 := hW3.lt
    have hF4 : Ext w3 w4 := ⟨hG4.os, hG4.tape, hG4.output, hG4.size, fun b hb => hG4.block b hb (by simp)⟩
    have hE4 := hE3.trans hF4
    have hW4 := hW3.ext hF4
    have hO : OwnB w4 w3.heap.size (.slice (some ⟨w3.heap.size, 0, none⟩) to.length to.length) (Gf.addN to c b 0 ++ List.replicate (to.length - 0) 0) := by
      unfold OwnB
      rw [Nat.mul_one, gfZeros] at hO4
      simpa [Gf.addN] using hO4
    clear hO4 hi hz hsz hby hi4 hi5 hG4 hWz hG3 hs hinf hone hzero CR hF4 hW3 hE2
    go_loopw [23] (fun i wr => ∃ j : Nat, j ≤ to.length ∧ i = .int .i64 (j : Int) ∧ OwnB wr w3.heap.size (.slice (some ⟨w3.heap.size, 0, none⟩) to.length to.length) (Gf.addN to c b j ++ List.replicate (to.length - j) 0) ∧ Whole wr w1.heap.size 69 V ∧ Ext w wr) (fun i _ => to.length - (intOf i).toNat)
    case atStart => exact ⟨0, by omega, rfl, hO, hW4, hE4⟩
    case round =>
      obtain ⟨j, hj, rfl, hO2, hW, hE⟩ := hrel
      by_cases hlt : j < to.length
      · have HS := hide (add_step to b c j to.length hlt)
        have hlen : (Gf.addN to c b j ++ List.replicate (to.length - j) (0 : UInt8)).length = to.length := by rw [List.length_append, Gf.addN_len, List.length_replicate]; omega
        rcases h1.2 with h0 | ⟨b1, o1, rfl, hB1, hcell1⟩
        · omega
        rcases h2.2 with h0 | ⟨b2, o2, rfl, hB2, hcell2⟩
        · have := HQ.out; omega
        have k1 := (hE.cell (i := o1 + j) hB1).trans (hcell1 j hlt)
        have k2 := (hE.cell (i := o2 + j) hB2).trans (hcell2 j (by have := HQ.out; omega))
        obtain ⟨hc5, hf5⟩ := hO2.cell (i := j) (by omega)
        clear hcell1 hcell2 h1 h2
        generalize to.getD j 0 = x at *
        generalize b.getD j 0 = y at *
        have hy := UInt8.toNat_lt y
        have k3 := hW.at y.toNat (HVat.out y.toNat hy)
        have hy' : (y.toNat : Int) < 256 := by omega
        have hml := Gf.mul_lt hc hy
        have hxor := u8_xor_byteN x (Gf.mul c y.toNat) hml
        generalize Gf.mul c y.toNat = m at *
        obtain ⟨bt, hbt⟩ : ∃ bt, bt = x ^^^ UInt8.ofNat m := ⟨_, rfl⟩
        rw [← hbt] at hxor HS
        have hO3 := hO2.set j bt
        rw [HS.out] at hO3
        have hE5 : Ext w (wr.setCell ⟨w3.heap.size, j, none⟩ (.int .u8 (bt.toNat : Int))) := hE.setCell hE3.le _
        have hW5 : Whole (wr.setCell ⟨w3.heap.size, j, none⟩ (.int .u8 (bt.toNat : Int))) w1.heap.size 69 V := hW.far (by omega) _ _
        have hj2 : (j : Int) < (b.length : Int) := by have := HQ.out; omega
        clear hbt hO2 hlen hml HVat
        go_wp2
        go_roundw
        case rel => exact ⟨j + 1, by omega, by go_num, hO3, hW5, hE5⟩
        case measure => simp [intOf]; omega
      · obtain rfl : j = to.length := by omega
        rw [Nat.sub_self, List.replicate_zero, List.append_nil] at hO2
        have HO := hide hO2
        clear h1 h2 hO2
        go_wp2
        go_ret2
        exact ⟨_, ret_verr2 (by rw [HN.out]), by rw [HN.out]; have := HO.out.mono hE3.le; rw [HQ.out] at this ⊢; exact this, hE⟩
  · have HN := hide (show Gf.addR to c b = ([], 13) by rw [HR.out, if_neg hne])
    have hne' : ((to.length : Int) != (b.length : Int)) = true := by simp; omega
    clear hne h1 h2
    go_enter Try.func61, Try.ntmps61
    go_wp2
    go_ret2
    exact ⟨_, ret_verr2 (by rw [HN.out]), by rw [HN.out]; exact OwnB.nil _ _, Ext.refl _⟩
end Go.Proofs.Ytbfkknoeaekajaa
