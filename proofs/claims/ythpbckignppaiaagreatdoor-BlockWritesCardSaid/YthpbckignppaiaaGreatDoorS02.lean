/- The program's frames: the bytes of a frame. Tokens: slices of them that came in, and of the call's own. Tokens of bytes, and bytes of tokens, as values: the longest, the nearest; there and back. Plain mathematics of chapter 10. Pieces of tokens, there and back. Plain mathematics of chapter 11. Packages that are merged: why the lengths that they say cost least. Plain mathematics of chapter 7. The lengths that packages say: full, and none cost less. The document's lengths as a value, and what follows of them. Right lengths and their words, as values; no word begins another one. Plain mathematics of chapter 8. Bits of bytes, numbers of bits, runs of bits 0: plain mathematics. Contracts of the row of bits: widen, add, number, zerosFrom. The contract of the library's slices.Clone at bytes. Contracts of the writer: Put, Unary, Len, Bytes. Contracts of the library's LeadingZeros8 and of the row's zerosFrom. Contracts of the reader: NewReader, Left, Get, Skip, Peek, Unary, Pad. Lengths as bits, as values: what is written is read. Plain mathematics of chapter 8. Symbols by words, as values: what was put is got. Plain mathematics of chapter 9. -/
import Derived.Test.YthpbckignppaiaaGreatDoorS01
import Derived.Deep.RegionHeld3
import Derived.Deep.RegionWith
import Derived.Deep.Slices
import Derived.Deep.Strs
import Derived.Laws.OwnMore
import Derived.Maps.AppendAt
import Derived.Test.YthpbckignppaiaaGreatDoorRows
import Derived.Deep.RegionLaw
import Derived.Deep.QuietTactic
import Derived.BigQuiet
import Derived.Lib.SliceRun
import Derived.Lib.BitFns
import Derived.Laws.Tables
namespace Go.Proofs.YthpbckignppaiaaGreatDoor
open Go.RowKit Num
def frameV (way many : Nat) (A : Option Addr) (n c : Nat) : Value := .agg #[.int .i64 (way : Int), .int .i64 (many : Int), .slice A n c]
theorem Blk.parts4 {w w0 : World} {g n0 n1 n2 n3 c0 c1 c2 c3 : Nat} {A0 A1 A2 A3 : Option Addr} {l0 l1 l2 l3 : List UInt8} (hE : Ext w0 w) (hg : Laid w g [.slice A0 n0 c0, .slice A1 n1 c1, .slice A2 n2 c2, .slice A3 n3 c3])
    (m0 : n0 ≤ maxLen) (m1 : n1 ≤ maxLen) (m2 : n2 ≤ maxLen) (m3 : n3 ≤ maxLen) (b0 : Bytes w0 w0.heap.size A0 n0 l0) (b1 : Bytes w0 w0.heap.size A1 n1 l1) (b2 : Bytes w0 w0.heap.size A2 n2 l2) (b3 : Bytes w0 w0.heap.size A3 n3 l3) :
    Parts w w.heap.size (some ⟨g, 0, none⟩) 4 [l0, l1, l2, l3] :=
  parts_at hE rfl rfl hg fun i hi => by
    rcases (by omega : i = 0 ∨ i = 1 ∨ i = 2 ∨ i = 3) with rfl | rfl | rfl | rfl
    · exact ⟨A0, n0, c0, rfl, m0, b0⟩
    · exact ⟨A1, n1, c1, rfl, m1, b1⟩
    · exact ⟨A2, n2, c2, rfl, m2, b2⟩
    · exact ⟨A3, n3, c3, rfl, m3, b3⟩
set_option maxHeartbeats 4000000 in
set_option maxRecDepth 100000 in
theorem fbytes_any (way many : Nat) (A : Option Addr) (n c : Nat) (l : List UInt8) (w : World) (hw : way ≤ 1) (hm : many ≤ 32768) (hn : n ≤ 100000) (ht : Tab w) (h : Bytes w w.heap.size A n l) :
    Calls Tryz.prog 10 #[frameV way many A n c] w (MadeB w (Crc.put (UInt8.ofNat way :: (enc many ++ enc n) ++ l))) := by
  have h0 := ht.pos
  have hWh := Whole.new w 32 #[.int .i64 (way : Int), .int .i64 (many : Int), .slice A n c]
  have hEb := extNew w (.cells #[.int .i64 (way : Int), .int .i64 (many : Int), .slice A n c] 32)
  have hwr : IntKind.u8.wrap (way : Int) = (way : Int) := by rw [IntKind.wrap_u8]; omega
  have hwm : IntKind.u64.wrap (many : Int) = (many : Int) := by rw [IntKind.wrap_u64]; omega
  have hwn : IntKind.u64.wrap (n : Int) = (n : Int) := by rw [IntKind.wrap_u64]; omega
  have hwb : (#[.int .u8 (way : Int)] : Array Value) = byteCells [UInt8.ofNat way] := by
    unfold byteCells
    rw [List.map_cons, List.map_nil, ofNat_low way (by omega)]
  have HF := hide (show [[UInt8.ofNat way], enc many, enc n, l].flatten = UInt8.ofNat way :: (enc many ++ enc n) ++ l by simp)
  have hel := enc_len many
  have hel2 := enc_len n
  have hll := h.1
  have hlen : (UInt8.ofNat way :: (enc many ++ enc n) ++ l).length ≤ 200000 := by simp; omega
  generalize UInt8.ofNat way :: (enc many ++ enc n) ++ l = F at *
  have HB := hide h
  have HT := hide ht
  have HW := hide hwb
  clear h ht hwb
  unfold frameV
  go_enter Tryz.func10, Tryz.ntmps10
  go_wp2_with fail
  obtain ⟨w1, hw1⟩ : ∃ W, W = w.alloc (.cells #[.int .i64 (way : Int), .int .i64 (many : Int), .slice A n c] 32) := ⟨_, rfl⟩
  rw [← hw1] at hWh hEb ⊢
  have hfr : w.heap.size < w1.heap.size := hWh.lt
  clear hw1
  generalize w.heap.size = g at hWh hfr ⊢
  refine wp_region_T (fun W => Ext w1 W) 18 19 #[false, false, false, false, false, false, false, false, false, false, false, false, false, false, false, false, false, false, false] (by kernel_rfl) rfl rfl ((Ext.refl w1).drew) ?_
  intro hS0
  refine wpAnyT_take 0 (some 3) (.pointer (some ⟨g, 0, none⟩)) #[true, false, false, false, false, false, false, false, false, false, false, false, false, false, false, false, false, false, false] rfl rfl rfl (by kernel_rfl) (fun _ _ _ h => h) hS0 (by rfl) (fun W hX => by have s0 := (hWh.ext hX).cell 0; have s1 := (hWh.ext hX).cell 1; have s2 := (hWh.ext hX).cell 2; go_simp) ?_
  simp only [Act.put, List.setIfInBounds_toArray, List.set_cons_zero, List.set_cons_succ]
  refine wpAnyT_take 1 (some 4) (.int .i64 (way : Int)) #[true, true, false, false, false, false, false, false, false, false, false, false, false, false, false, false, false, false, false] rfl rfl rfl (by kernel_rfl) (fun _ _ _ h => h) hS0 (by rfl) (fun W hX => by have s0 := (hWh.ext hX).cell 0; have s1 := (hWh.ext hX).cell 1; have s2 := (hWh.ext hX).cell 2; go_simp) ?_
  simp only [Act.put, List.setIfInBounds_toArray, List.set_cons_zero, List.set_cons_succ]
  refine wpAnyT_take 2 (some 5) (.int .u8 (way : Int)) #[true, true, true, false, false, false, false, false, false, false, false, false, false, false, false, false, false, false, false] rfl rfl rfl (by kernel_rfl) (fun _ _ _ h => h) hS0 (by rfl) (fun W hX => by have s0 := (hWh.ext hX).cell 0; have s1 := (hWh.ext hX).cell 1; have s2 := (hWh.ext hX).cell 2; go_simp) ?_
  simp only [Act.put, List.setIfInBounds_toArray, List.set_cons_zero, List.set_cons_succ]
  refine wpAnyT_take 4 (some 7) (.pointer (some ⟨g, 1, none⟩)) #[true, true, true, false, true, false, false, false, false, false, false, false, false, false, false, false, false, false, false] rfl rfl rfl (by kernel_rfl) (fun _ _ _ h => h) hS0 (by rfl) (fun W hX => by have s0 := (hWh.ext hX).cell 0; have s1 := (hWh.ext hX).cell 1; have s2 := (hWh.ext hX).cell 2; go_simp) ?_
  simp only [Act.put, List.setIfInBounds_toArray, List.set_cons_zero, List.set_cons_succ]
  refine wpAnyT_take 5 (some 8) (.int .i64 (many : Int)) #[true, true, true, false, true, true, false, false, false, false, false, false, false, false, false, false, false, false, false] rfl rfl rfl (by kernel_rfl) (fun _ _ _ h => h) hS0 (by rfl) (fun W hX => by have s0 := (hWh.ext hX).cell 0; have s1 := (hWh.ext hX).cell 1; have s2 := (hWh.ext hX).cell 2; go_simp) ?_
  simp only [Act.put, List.setIfInBounds_toArray, List.set_cons_zero, List.set_cons_succ]
  refine wpAnyT_take 6 (some 9) (.int .u64 (many : Int)) #[true, true, true, false, true, true, true, false, false, false, false, false, false, false, false, false, false, false, false] rfl rfl rfl (by kernel_rfl) (fun _ _ _ h => h) hS0 (by rfl) (fun W hX => by have s0 := (hWh.ext hX).cell 0; have s1 := (hWh.ext hX).cell 1; have s2 := (hWh.ext hX).cell 2; go_simp) ?_
  simp only [Act.put, List.setIfInBounds_toArray, List.set_cons_zero, List.set_cons_succ]
  refine wpAnyT_take 8 (some 11) (.pointer (some ⟨g, 2, none⟩)) #[true, true, true, false, true, true, true, false, true, false, false, false, false, false, false, false, false, false, false] rfl rfl rfl (by kernel_rfl) (fun _ _ _ h => h) hS0 (by rfl) (fun W hX => by have s0 := (hWh.ext hX).cell 0; have s1 := (hWh.ext hX).cell 1; have s2 := (hWh.ext hX).cell 2; go_simp) ?_
  simp only [Act.put, List.setIfInBounds_toArray, List.set_cons_zero, List.set_cons_succ]
  refine wpAnyT_take 9 (some 12) (.slice A n c) #[true, true, true, false, true, true, true, false, true, true, false, false, false, false, false, false, false, false, false] rfl rfl rfl (by kernel_rfl) (fun _ _ _ h => h) hS0 (by rfl) (fun W hX => by have s0 := (hWh.ext hX).cell 0; have s1 := (hWh.ext hX).cell 1; have s2 := (hWh.ext hX).cell 2; go_simp) ?_
  simp only [Act.put, List.setIfInBounds_toArray, List.set_cons_zero, List.set_cons_succ]
  refine wpAnyT_take 10 (some 13) (.int .i64 (n : Int)) #[true, true, true, false, true, true, true, false, true, true, true, false, false, false, false, false, false, false, false] rfl rfl rfl (by kernel_rfl) (fun _ _ _ h => h) hS0 (by rfl) (fun W hX => by have s0 := (hWh.ext hX).cell 0; have s1 := (hWh.ext hX).cell 1; have s2 := (hWh.ext hX).cell 2; go_simp) ?_
  simp only [Act.put, List.setIfInBounds_toArray, List.set_cons_zero, List.set_cons_succ]
  refine wpAnyT_take 11 (some 14) (.int .u64 (n : Int)) #[true, true, true, false, true, true, true, false, true, true, true, true, false, false, false, false, false, false, false] rfl rfl rfl (by kernel_rfl) (fun _ _ _ h => h) hS0 (by rfl) (fun W hX => by have s0 := (hWh.ext hX).cell 0; have s1 := (hWh.ext hX).cell 1; have s2 := (hWh.ext hX).cell 2; go_simp) ?_
  simp only [Act.put, List.setIfInBounds_toArray, List.set_cons_zero, List.set_cons_succ]
  refine wpAnyT_take 13 (some 16) (.pointer (some ⟨g, 2, none⟩)) #[true, true, true, false, true, true, true, false, true, true, true, true, false, true, false, false, false, false, false] rfl rfl rfl (by kernel_rfl) (fun _ _ _ h => h) hS0 (by rfl) (fun W hX => by have s0 := (hWh.ext hX).cell 0; have s1 := (hWh.ext hX).cell 1; have s2 := (hWh.ext hX).cell 2; go_simp) ?_
  simp only [Act.put, List.setIfInBounds_toArray, List.set_cons_zero, List.set_cons_succ]
  refine wpAnyT_take 14 (some 17) (.slice A n c) #[true, true, true, false, true, true, true, false, true, true, true, true, false, true, true, false, false, false, false] rfl rfl rfl (by kernel_rfl) (fun _ _ _ h => h) hS0 (by rfl) (fun W hX => by have s0 := (hWh.ext hX).cell 0; have s1 := (hWh.ext hX).cell 1; have s2 := (hWh.ext hX).cell 2; go_simp) ?_
  simp only [Act.put, List.setIfInBounds_toArray, List.set_cons_zero, List.set_cons_succ]
  generalize w1.drew = wa at *
  refine wpAnyT_two 3 7 #[true, true, true, true, true, true, true, false, true, true, true, true, false, true, true, false, false, false, false] #[true, true, true, false, true, true, true, true, true, true, true, true, false, true, true, false, false, false, false] (by kernel_rfl) rfl rfl rfl rfl (by rfl) (by rfl) (fun K0 hK0 => ?_) (fun K0 hK0 => ?_)
  · go_simp
    have hb3 := bytesNew wa [UInt8.ofNat way] #[.int .u8 (way : Int)] 5 (0, 0) HW.out 1 rfl
    have hE0 := extNew wa (.cells #[.int .u8 (way : Int)] 5)
    generalize wa.alloc (.cells #[.int .u8 (way : Int)] 5) = u0 at *
    generalize (some ⟨wa.heap.size, 0, none⟩ : Option Addr) = A3 at *
    have hX0 := hS0.trans hE0
    refine hK0 _ _ (fun _ => hX0) ?_
    clear hK0 K0
    refine wpAnyT_only 7 #[true, true, true, true, true, true, true, true, true, true, true, true, false, true, true, false, false, false, false] (by kernel_rfl) rfl rfl (by rfl) (fun K1 hK1 => ?_)
    go_simp
    go_at_call 19
    refine (ownNum_any many _ (by omega)).mono ?_
    rintro e u1 ⟨v7, rfl, hO7, hE1⟩
    obtain ⟨A7, c7, rfl, -, hm7, hb7⟩ := hO7.form
    have hX1 := hX0.trans hE1
    replace hb3 := hE1.bytes hb3
    refine hK1 _ _ (fun _ => hX1) ?_
    clear hK1 K1
    refine wpAnyT_only 12 #[true, true, true, true, true, true, true, true, true, true, true, true, true, true, true, false, false, false, false] (by kernel_rfl) rfl rfl (by rfl) (fun K2 hK2 => ?_)
    go_simp
    go_at_call 19
    refine (ownNum_any n _ (by omega)).mono ?_
    rintro e u2 ⟨v12, rfl, hO12, hE2⟩
    obtain ⟨A12, c12, rfl, -, hm12, hb12⟩ := hO12.form
    have hX2 := hX1.trans hE2
    replace hb3 := hE2.bytes hb3
    replace hb7 := hE2.bytes hb7
    refine hK2 _ _ (fun _ => hX2) ?_
    clear hK2 K2
    refine wpAnyT_only 15 #[true, true, true, true, true, true, true, true, true, true, true, true, true, true, true, true, false, false, false] (by kernel_rfl) rfl rfl (by rfl) (fun K3 hK3 => ?_)
    go_simp
    have hLd := Laid.new u2 [.slice A3 1 1, .slice A7 (enc many).length c7, .slice A12 (enc n).length c12, .slice A n c] 22
    have hE3 := extNew u2 (.cells #[.slice A3 1 1, .slice A7 (enc many).length c7, .slice A12 (enc n).length c12, .slice A n c] 22)
    have hP := Blk.parts4 hE3 hLd (by unfold maxLen; omega) (by unfold maxLen; omega) (by unfold maxLen; omega) (by unfold maxLen; omega) hb3 hb7 hb12 ((hEb.trans hX2).bytes HB.out)
    have hX3 := hX2.trans hE3
    refine hK3 _ _ (fun _ => hX3) ?_
    clear hK3 K3 hLd hE3
    generalize u2.alloc (.cells #[.slice A3 1 1, .slice A7 (enc many).length c7, .slice A12 (enc n).length c12, .slice A n c] 22) = u3 at *
    generalize u2.heap.size = g4 at *
    refine wpAnyT_only 16 #[true, true, true, true, true, true, true, true, true, true, true, true, true, true, true, true, true, false, false] (by kernel_rfl) rfl rfl (by rfl) (fun K4 hK4 => ?_)
    go_simp
    go_at_call 18
    refine (all_any _ 4 [[UInt8.ofNat way], enc many, enc n, l] u3 hP (by simp) (by simp; omega)).mono ?_
    rintro e u4 ⟨v4, rfl, hO4, hE4⟩
    rw [HF.out] at hO4
    obtain ⟨A16, c16, rfl, -, hm16, hb16⟩ := hO4.form
    have hX4 := hX3.trans hE4
    refine hK4 _ _ (fun _ => hX4) ?_
    clear hK4 K4
    refine wpAnyT_only 17 #[true, true, true, true, true, true, true, true, true, true, true, true, true, true, true, true, true, true, false] (by kernel_rfl) rfl rfl (by rfl) (fun K5 hK5 => ?_)
    go_simp
    go_at_call 17
    have hF := hEb.trans hX4
    refine (crcPut_any A16 F.length c16 F u4 (by omega) (hF.tab HT.out h0) (Nat.lt_of_lt_of_le h0 hF.le) hb16).mono ?_
    rintro e u5 ⟨v5, rfl, hO5, hE5⟩
    have hX5 := hX4.trans hE5
    refine hK5 _ _ (fun _ => hX5) ?_
    clear hK5 K5
    refine wpAnyT_only 18 #[true, true, true, true, true, true, true, true, true, true, true, true, true, true, true, true, true, true, true] (by kernel_rfl) rfl rfl (by rfl) (fun K6 hK6 => ?_)
    go_simp
    refine hK6 _ _ (fun h => absurd h (by decide)) (wpAnyT_done (by kernel_rfl) ?_ _)
    clear hK6 K6
    go_wp2
    go_ret
    exact ⟨v5, rfl, hO5.mono hF.le, hF.trans hE5⟩
  · go_simp
    go_at_call 19
    refine (ownNum_any many _ (by omega)).mono ?_
    rintro e u0 ⟨v7, rfl, hO7, hE0⟩
    obtain ⟨A7, c7, rfl, -, hm7, hb7⟩ := hO7.form
    have hX0 := hS0.trans hE0
    refine hK0 _ _ (fun _ => hX0) ?_
    clear hK0 K0
    refine wpAnyT_two 3 12 #[true, true, true, true, true, true, true, true, true, true, true, true, false, true, true, false, false, false, false] #[true, true, true, false, true, true, true, true, true, true, true, true, true, true, true, false, false, false, false] (by kernel_rfl) rfl rfl rfl rfl (by rfl) (by rfl) (fun K1 hK1 => ?_) (fun K1 hK1 => ?_)
    · go_simp
      have hb3 := bytesNew u0 [UInt8.ofNat way] #[.int .u8 (way : Int)] 5 (0, 0) HW.out 1 rfl
      have hE1 := extNew u0 (.cells #[.int .u8 (way : Int)] 5)
      generalize u0.alloc (.cells #[.int .u8 (way : Int)] 5) = u1 at *
      generalize (some ⟨u0.heap.size, 0, none⟩ : Option Addr) = A3 at *
      have hX1 := hX0.trans hE1
      replace hb7 := hE1.bytes hb7
      refine hK1 _ _ (fun _ => hX1) ?_
      clear hK1 K1
      refine wpAnyT_only 12 #[true, true, true, true, true, true, true, true, true, true, true, true, true, true, true, false, false, false, false] (by kernel_rfl) rfl rfl (by rfl) (fun K2 hK2 => ?_)
      go_simp
      go_at_call 19
      refine (ownNum_any n _ (by omega)).mono ?_
      rintro e u2 ⟨v12, rfl, hO12, hE2⟩
      obtain ⟨A12, c12, rfl, -, hm12, hb12⟩ := hO12.form
      have hX2 := hX1.trans hE2
      replace hb7 := hE2.bytes hb7
      replace hb3 := hE2.bytes hb3
      refine hK2 _ _ (fun _ => hX2) ?_
      clear hK2 K2
      refine wpAnyT_only 15 #[true, true, true, true, true, true, true, true, true, true, true, true, true, true, true, true, false, false, false] (by kernel_rfl) rfl rfl (by rfl) (fun K3 hK3 => ?_)
      go_simp
      have hLd := Laid.new u2 [.slice A3 1 1, .slice A7 (enc many).length c7, .slice A12 (enc n).length c12, .slice A n c] 22
      have hE3 := extNew u2 (.cells #[.slice A3 1 1, .slice A7 (enc many).length c7, .slice A12 (enc n).length c12, .slice A n c] 22)
      have hP := Blk.parts4 hE3 hLd (by unfold maxLen; omega) (by unfold maxLen; omega) (by unfold maxLen; omega) (by unfold maxLen; omega) hb3 hb7 hb12 ((hEb.trans hX2).bytes HB.out)
      have hX3 := hX2.trans hE3
      refine hK3 _ _ (fun _ => hX3) ?_
      clear hK3 K3 hLd hE3
      generalize u2.alloc (.cells #[.slice A3 1 1, .slice A7 (enc many).length c7, .slice A12 (enc n).length c12, .slice A n c] 22) = u3 at *
      generalize u2.heap.size = g4 at *
      refine wpAnyT_only 16 #[true, true, true, true, true, true, true, true, true, true, true, true, true, true, true, true, true, false, false] (by kernel_rfl) rfl rfl (by rfl) (fun K4 hK4 => ?_)
      go_simp
      go_at_call 18
      refine (all_any _ 4 [[UInt8.ofNat way], enc many, enc n, l] u3 hP (by simp) (by simp; omega)).mono ?_
      rintro e u4 ⟨v4, rfl, hO4, hE4⟩
      rw [HF.out] at hO4
      obtain ⟨A16, c16, rfl, -, hm16, hb16⟩ := hO4.form
      have hX4 := hX3.trans hE4
      refine hK4 _ _ (fun _ => hX4) ?_
      clear hK4 K4
      refine wpAnyT_only 17 #[true, true, true, true, true, true, true, true, true, true, true, true, true, true, true, true, true, true, false] (by kernel_rfl) rfl rfl (by rfl) (fun K5 hK5 => ?_)
      go_simp
      go_at_call 17
      have hF := hEb.trans hX4
      refine (crcPut_any A16 F.length c16 F u4 (by omega) (hF.tab HT.out h0) (Nat.lt_of_lt_of_le h0 hF.le) hb16).mono ?_
      rintro e u5 ⟨v5, rfl, hO5, hE5⟩
      have hX5 := hX4.trans hE5
      refine hK5 _ _ (fun _ => hX5) ?_
      clear hK5 K5
      refine wpAnyT_only 18 #[true, true, true, true, true, true, true, true, true, true, true, true, true, true, true, true, true, true, true] (by kernel_rfl) rfl rfl (by rfl) (fun K6 hK6 => ?_)
      go_simp
      refine hK6 _ _ (fun h => absurd h (by decide)) (wpAnyT_done (by kernel_rfl) ?_ _)
      clear hK6 K6
      go_wp2
      go_ret
      exact ⟨v5, rfl, hO5.mono hF.le, hF.trans hE5⟩
    · go_simp
      go_at_call 19
      refine (ownNum_any n _ (by omega)).mono ?_
      rintro e u1 ⟨v12, rfl, hO12, hE1⟩
      obtain ⟨A12, c12, rfl, -, hm12, hb12⟩ := hO12.form
      have hX1 := hX0.trans hE1
      replace hb7 := hE1.bytes hb7
      refine hK1 _ _ (fun _ => hX1) ?_
      clear hK1 K1
      refine wpAnyT_only 3 #[true, true, true, true, true, true, true, true, true, true, true, true, true, true, true, false, false, false, false] (by kernel_rfl) rfl rfl (by rfl) (fun K2 hK2 => ?_)
      go_simp
      have hb3 := bytesNew u1 [UInt8.ofNat way] #[.int .u8 (way : Int)] 5 (0, 0) HW.out 1 rfl
      have hE2 := extNew u1 (.cells #[.int .u8 (way : Int)] 5)
      generalize u1.alloc (.cells #[.int .u8 (way : Int)] 5) = u2 at *
      generalize (some ⟨u1.heap.size, 0, none⟩ : Option Addr) = A3 at *
      have hX2 := hX1.trans hE2
      replace hb7 := hE2.bytes hb7
      replace hb12 := hE2.bytes hb12
      refine hK2 _ _ (fun _ => hX2) ?_
      clear hK2 K2
      refine wpAnyT_only 15 #[true, true, true, true, true, true, true, true, true, true, true, true, true, true, true, true, false, false, false] (by kernel_rfl) rfl rfl (by rfl) (fun K3 hK3 => ?_)
      go_simp
      have hLd := Laid.new u2 [.slice A3 1 1, .slice A7 (enc many).length c7, .slice A12 (enc n).length c12, .slice A n c] 22
      have hE3 := extNew u2 (.cells #[.slice A3 1 1, .slice A7 (enc many).length c7, .slice A12 (enc n).length c12, .slice A n c] 22)
      have hP := Blk.parts4 hE3 hLd (by unfold maxLen; omega) (by unfold maxLen; omega) (by unfold maxLen; omega) (by unfold maxLen; omega) hb3 hb7 hb12 ((hEb.trans hX2).bytes HB.out)
      have hX3 := hX2.trans hE3
      refine hK3 _ _ (fun _ => hX3) ?_
      clear hK3 K3 hLd hE3
      generalize u2.alloc (.cells #[.slice A3 1 1, .slice A7 (enc many).length c7, .slice A12 (enc n).length c12, .slice A n c] 22) = u3 at *
      generalize u2.heap.size = g4 at *
      refine wpAnyT_only 16 #[true, true, true, true, true, true, true, true, true, true, true, true, true, true, true, true, true, false, false] (by kernel_rfl) rfl rfl (by rfl) (fun K4 hK4 => ?_)
      go_simp
      go_at_call 18
      refine (all_any _ 4 [[UInt8.ofNat way], enc many, enc n, l] u3 hP (by simp) (by simp; omega)).mono ?_
      rintro e u4 ⟨v4, rfl, hO4, hE4⟩
      rw [HF.out] at hO4
      obtain ⟨A16, c16, rfl, -, hm16, hb16⟩ := hO4.form
      have hX4 := hX3.trans hE4
      refine hK4 _ _ (fun _ => hX4) ?_
      clear hK4 K4
      refine wpAnyT_only 17 #[true, true, true, true, true, true, true, true, true, true, true, true, true, true, true, true, true, true, false] (by kernel_rfl) rfl rfl (by rfl) (fun K5 hK5 => ?_)
      go_simp
      go_at_call 17
      have hF := hEb.trans hX4
      refine (crcPut_any A16 F.length c16 F u4 (by omega) (hF.tab HT.out h0) (Nat.lt_of_lt_of_le h0 hF.le) hb16).mono ?_
      rintro e u5 ⟨v5, rfl, hO5, hE5⟩
      have hX5 := hX4.trans hE5
      refine hK5 _ _ (fun _ => hX5) ?_
      clear hK5 K5
      refine wpAnyT_only 18 #[true, true, true, true, true, true, true, true, true, true, true, true, true, true, true, true, true, true, true] (by kernel_rfl) rfl rfl (by rfl) (fun K6 hK6 => ?_)
      go_simp
      refine hK6 _ _ (fun h => absurd h (by decide)) (wpAnyT_done (by kernel_rfl) ?_ _)
      clear hK6 K6
      go_wp2
      go_ret
      exact ⟨v5, rfl, hO5.mono hF.le, hF.trans hE5⟩
end Go.Proofs.YthpbckignppaiaaGreatDoor

namespace Go.Proofs.YthpbckignppaiaaGreatDoor
open Go.ChangeShapes Go.WideShapes Go.ChangeAt Go.WideMaps Go.WideElems Go.RowKit
theorem addr_addT (b off i : Nat) : (⟨b, off, none⟩ : Addr).add i = ⟨b, off + i, none⟩ := by unfold Addr.add; split <;> simp_all
structure TokV where
  lit : UInt8
  len : Int
  dist : Int
deriving DecidableEq
instance : Inhabited TokV := ⟨⟨0, 0, 0⟩⟩
def TokAt (w : World) (b o : Nat) (v : TokV) : Prop :=
  w.cell? ⟨b, o, none⟩ = some (.int .u8 (v.lit.toNat : Int)) ∧ w.cell? ⟨b, o + 1, none⟩ = some (.int .i64 v.len) ∧ w.cell? ⟨b, o + 2, none⟩ = some (.int .i64 v.dist)
def TokV.ok (v : TokV) : Prop := -9223372036854775808 ≤ v.len ∧ v.len ≤ 9223372036854775807 ∧ -9223372036854775808 ≤ v.dist ∧ v.dist ≤ 9223372036854775807
def ToksAt (w : World) (B : Nat) (A : Option Addr) (n : Nat) (L : List TokV) : Prop :=
  L.length = n ∧ (n = 0 ∨ ∃ b off, A = some ⟨b, off, none⟩ ∧ b < B ∧ ∀ i, i < n → TokAt w b (off + i * 3) (L.getD i default) ∧ (L.getD i default).ok)
theorem TokAt.below {w w' : World} {b o B : Nat} {v : TokV} (h : TokAt w b o v) (hb : Below B w w') (hB : b < B) : TokAt w' b o v :=
  ⟨(hb.cell (p := ⟨b, o, none⟩) hB).trans h.1, (hb.cell (p := ⟨b, o + 1, none⟩) hB).trans h.2.1, (hb.cell (p := ⟨b, o + 2, none⟩) hB).trans h.2.2⟩
theorem ToksAt.below {w w' : World} {B C n : Nat} {A : Option Addr} {L : List TokV} (h : ToksAt w B A n L) (hb : Below C w w') (hC : B ≤ C) : ToksAt w' B A n L := by
  refine ⟨h.1, ?_⟩
  rcases h.2 with h0 | ⟨b, off, hA, hB, hc⟩
  · exact .inl h0
  · exact .inr ⟨b, off, hA, hB, fun i hi => ⟨(hc i hi).1.below hb (by omega), (hc i hi).2⟩⟩
def tokCells (v : TokV) : List Value := [.int .u8 (v.lit.toNat : Int), .int .i64 v.len, .int .i64 v.dist]
def OwnTk (w : World) (base : Nat) (v : Value) (L : List TokV) : Prop := w.ownsRow base 60 3 v L.length (L.flatMap tokCells)
theorem tok_info : (Tryz.prog.info? 60).map (fun i => (i.zero, i.size, i.bytes)) = some (some (.agg #[.int .u8 0, .int .i64 0, .int .i64 0]), 3, 24) := by kernel_rfl
theorem OwnTk.nil (w : World) (base : Nat) : OwnTk w base (.slice none 0 0) [] := World.ownsRow_nil w base _ _
theorem OwnTk.ext {w w' : World} {base : Nat} {v : Value} {L : List TokV} (h : OwnTk w base v L) (hE : Ext w w') : OwnTk w' base v L :=
  World.ownsRow.kept h (hE.grown none) (by cases hv : v.ownBlock <;> simp)
theorem OwnTk.lt {w : World} {base : Nat} {v : Value} {L : List TokV} (h : OwnTk w base v L) : ∀ k, v.ownBlock = some k → base ≤ k ∧ k < w.heap.size := World.ownsRow.lt h
theorem tokCells_get : ∀ (L : List TokV) (i j : Nat), i < L.length → j < 3 → (L.flatMap tokCells)[i * 3 + j]? = (tokCells (L.getD i default))[j]?
  | o :: L, 0, j, _, hj => by
    rw [List.flatMap_cons, Nat.zero_mul, Nat.zero_add, List.getElem?_append_left (by simp [tokCells]; omega)]
    rfl
  | o :: L, i + 1, j, h, hj => by
    rw [List.flatMap_cons, List.getElem?_append_right (by simp [tokCells]; omega)]
    have := tokCells_get L i j (by simpa using h) hj
    rw [show (i + 1) * 3 + j - (tokCells o).length = i * 3 + j by simp [tokCells]; omega, this]
    simp
theorem OwnTk.form {w : World} {base : Nat} {v : Value} {L : List TokV} (h : OwnTk w base v L) : ∃ A c, v = .slice A L.length c ∧ (L.length = 0 ∨ ∃ g, A = some ⟨g, 0, none⟩ ∧ ∀ i, i < L.length → TokAt w g (0 + i * 3) (L.getD i default)) := by
  rcases h.2 with ⟨rfl, h0⟩ | ⟨g, cap, cur, rfl, hb, hgg, hn, hc, hs, ht⟩
  · exact ⟨none, 0, by rw [h0], .inl h0⟩
  · refine ⟨_, cap, rfl, .inr ⟨g, rfl, fun i hi => ?_⟩⟩
    have hcell : ∀ j, j < 3 → w.cell? ⟨g, i * 3 + j, none⟩ = (tokCells (L.getD i default))[j]? := fun j hj => by
      rw [cell_of_row w g (i * 3 + j) cur _ _ hgg, ← tokCells_get L i j hi hj, ← ht, List.getElem?_take, if_pos (by omega)]
      simp
    rw [Nat.zero_add]
    exact ⟨by have := hcell 0 (by omega); simpa [tokCells] using this, by have := hcell 1 (by omega); simpa [tokCells] using this, by have := hcell 2 (by omega); simpa [tokCells] using this⟩
section
variable {o : Oper} {a : Act} {K : Act → World → Prop} {Q : Exit → Act → World → Prop} {w : World} {base : Nat} {v : Value} {L : List TokV}
theorem wpList_appTkB {ops : Array Oper} {rest : List Oper} (hgd : o.guard = none) (s x : Operand) (ho : o.op = .call { callee := .builtin .append, args := #[s, x], argTypes := #[35, 35] }) (hs : a.eval s = v) (p : TokV) (hown : OwnTk (w.alloc (.cells #[.int .u8 (p.lit.toNat : Int), .int .i64 p.len, .int .i64 p.dist] 60)) base v L)
    {c : Nat} (hx : a.eval x = .slice (some ⟨w.heap.size, 0, none⟩) 1 c) (hlen : L.length ≤ 1000000) (hbase : base ≤ w.heap.size)
    (h : ∀ v' w', OwnTk w' base v' (L ++ [p]) → (w.alloc (.cells #[.int .u8 (p.lit.toNat : Int), .int .i64 p.len, .int .i64 p.dist] 60)).grownBy w' v.ownBlock → NewOb (w.alloc (.cells #[.int .u8 (p.lit.toNat : Int), .int .i64 p.len, .int .i64 p.dist] 60)) v.ownBlock v'.ownBlock → wpList Tryz.prog ops Q rest (a.put o.dst v') w') :
    wpList Tryz.prog ops Q (o :: rest) a (w.alloc (.cells #[.int .u8 (p.lit.toNat : Int), .int .i64 p.len, .int .i64 p.dist] 60)) := by
  obtain ⟨i, hi, hz, hsz, hby⟩ := info_parts tok_info
  refine wpList_append_own_at _ hgd s x 35 ho base 60 i _ 3 24 Tryz.underlying35 hi hz hsz hby rfl (by omega) v L.length (L.flatMap tokCells) hs hown ⟨w.heap.size, 0, none⟩ 1 c (tokCells p) hx rfl (by
    intro j u hu
    rw [addr_addT, Nat.zero_add, cellNew]
    match j, hu with
    | 0, hu => simpa [tokCells] using hu
    | 1, hu => simpa [tokCells] using hu
    | 2, hu => simpa [tokCells] using hu
    | j + 3, hu => simp [tokCells] at hu) (by
    intro u hu
    simp [tokCells] at hu
    rcases hu with rfl | rfl | rfl <;> rfl) (by unfold maxLen; omega) (by omega) (by simp; omega) ?_
  intro v' w' h2 h3 _ h5
  refine h v' w' ?_ h3 (h5.imp id fun h => ⟨_, h, Nat.le_refl _⟩)
  unfold OwnTk
  rw [List.length_append, List.flatMap_append]
  simpa using h2
end
end Go.Proofs.YthpbckignppaiaaGreatDoor

namespace Go.Proofs.YthpbckignppaiaaGreatDoor.Lz
def runF (b : List UInt8) (p d : Nat) : Nat → Nat → Nat
  | 0, k => k
  | f + 1, k => if p + k < b.length ∧ b.getD (p + k - d) 0 = b.getD (p + k) 0 then runF b p d f (k + 1) else k
def run (b : List UInt8) (p d : Nat) : Nat := runF b p d 257 0
theorem runF_ge (b : List UInt8) (p d : Nat) : ∀ f k, k ≤ runF b p d f k ∧ runF b p d f k ≤ k + f
  | 0, k => by rw [runF]; omega
  | f + 1, k => by
    have := runF_ge b p d f (k + 1)
    rw [runF]
    split <;> omega
theorem runF_same (b : List UInt8) (p d : Nat) : ∀ f k j, k ≤ j → j < runF b p d f k → p + j < b.length ∧ b.getD (p + j - d) 0 = b.getD (p + j) 0
  | 0, k, j, h1, h2 => by rw [runF] at h2; omega
  | f + 1, k, j, h1, h2 => by
    rw [runF] at h2
    split at h2
    · rename_i h
      by_cases e : j = k
      · rw [e]; exact h
      · exact runF_same b p d f (k + 1) j (by omega) h2
    · omega
theorem runF_stop (b : List UInt8) (p d : Nat) : ∀ f k, runF b p d f k < k + f → ¬ (p + runF b p d f k < b.length ∧ b.getD (p + runF b p d f k - d) 0 = b.getD (p + runF b p d f k) 0)
  | 0, k, h => by rw [runF] at h; omega
  | f + 1, k, h => by
    rw [runF] at h ⊢
    split at h
    · rename_i hc
      rw [if_pos hc]
      exact runF_stop b p d f (k + 1) (by omega)
    · rename_i hc
      rw [if_neg hc]
      exact hc
section
variable {b : List UInt8} {p d : Nat}
theorem run_le : run b p d ≤ 257 := by have := runF_ge b p d 257 0; unfold run; omega
theorem run_same {j : Nat} (h : j < run b p d) : p + j < b.length ∧ b.getD (p + j - d) 0 = b.getD (p + j) 0 := runF_same b p d 257 0 j (by omega) h
theorem run_end (h : 0 < run b p d) : p + run b p d ≤ b.length := by
  have := (run_same (b := b) (p := p) (d := d) (j := run b p d - 1) (by omega)).1
  omega
theorem run_all {n : Nat} (hn : n ≤ 257) (h : ∀ j, j < n → p + j < b.length ∧ b.getD (p + j - d) 0 = b.getD (p + j) 0) : n ≤ run b p d := by
  refine Classical.byContradiction fun hc => ?_
  have := runF_stop b p d 257 0 (by have : run b p d < n := by omega
                                    unfold run at this; omega)
  exact this (h (runF b p d 257 0) (by have : run b p d < n := by omega
                                       exact this))
end
def best (b : List UInt8) (p : Nat) : Nat → Nat × Nat
  | 0 => (0, 0)
  | m + 1 => if (best b p m).1 < run b p (m + 1) then (run b p (m + 1), m + 1) else best b p m
theorem best_is (b : List UInt8) (p : Nat) : ∀ m, 0 < (best b p m).1 → 1 ≤ (best b p m).2 ∧ (best b p m).2 ≤ m ∧ (best b p m).1 = run b p (best b p m).2
  | 0, h => by rw [best] at h; simp at h
  | m + 1, h => by
    rw [best] at h ⊢
    split
    · exact ⟨by dsimp only; omega, by dsimp only; omega, rfl⟩
    · rename_i hc
      rw [if_neg hc] at h
      obtain ⟨h1, h2, h3⟩ := best_is b p m h
      exact ⟨h1, by omega, h3⟩
theorem best_le (b : List UInt8) (p m : Nat) : (best b p m).1 ≤ 257 ∧ (best b p m).2 ≤ m := by
  by_cases h : 0 < (best b p m).1
  · obtain ⟨_, h2, h3⟩ := best_is b p m h
    exact ⟨by rw [h3]; exact run_le, h2⟩
  · refine ⟨by omega, ?_⟩
    clear h
    induction m with
    | zero => rw [best]; simp
    | succ m ih =>
      rw [best]
      split
      · simp
      · omega
def bestAt (b : List UInt8) (p : Nat) : Nat × Nat := best b p (min 4095 p)
def tokAt (b : List UInt8) (p : Nat) : TokV := if 3 ≤ (bestAt b p).1 then ⟨0, (bestAt b p).1, (bestAt b p).2⟩ else ⟨b.getD p 0, 0, 0⟩
def stepAt (b : List UInt8) (p : Nat) : Nat := if 3 ≤ (bestAt b p).1 then (bestAt b p).1 else 1
theorem step_pos (b : List UInt8) (p : Nat) : 1 ≤ stepAt b p := by unfold stepAt; split <;> omega
def toks (b : List UInt8) (p : Nat) : List TokV := if p < b.length then tokAt b p :: toks b (p + stepAt b p) else []
termination_by b.length - p
decreasing_by have := step_pos b p; omega
theorem toks_end {b : List UInt8} {p : Nat} (h : ¬ p < b.length) : toks b p = [] := by rw [toks, if_neg h]
theorem toks_next {b : List UInt8} {p : Nat} (h : p < b.length) : toks b p = tokAt b p :: toks b (p + stepAt b p) := by rw [toks, if_pos h]
theorem step_in {b : List UInt8} {p : Nat} (h : p < b.length) : p + stepAt b p ≤ b.length := by
  unfold stepAt
  split
  · rename_i h3
    obtain ⟨_, _, e⟩ := best_is b p (min 4095 p) (by unfold bestAt at h3; omega)
    unfold bestAt at h3 ⊢
    rw [e] at h3 ⊢
    exact run_end (by omega)
  · omega
def may (t : TokV) : Bool := if t.len = 0 then decide (t.dist = 0) else decide (t.lit = 0 ∧ 3 ≤ t.len ∧ t.len ≤ 257 ∧ 1 ≤ t.dist ∧ t.dist ≤ 4095)
theorem tok_may (b : List UInt8) (p : Nat) : may (tokAt b p) = true := by
  unfold tokAt
  split
  · rename_i h3
    have h := best_is b p (min 4095 p) (by unfold bestAt at h3; omega)
    have h2 := best_le b p (min 4095 p)
    unfold bestAt at h3 ⊢
    unfold may
    rw [if_neg (by dsimp only; omega)]
    exact decide_eq_true ⟨rfl, by dsimp only; omega, by dsimp only; omega, by dsimp only; omega, by dsimp only; omega⟩
  · unfold may
    rw [if_pos rfl]
    exact decide_eq_true rfl
theorem toks_may (b : List UInt8) (p : Nat) : ∀ t, t ∈ toks b p → may t = true := by
  intro t ht
  by_cases h : p < b.length
  · rw [toks_next h] at ht
    rcases List.mem_cons.1 ht with rfl | ht
    · exact tok_may b p
    · exact toks_may b (p + stepAt b p) t ht
  · rw [toks_end h] at ht
    cases ht
termination_by b.length - p
decreasing_by have := step_pos b p; omega
theorem toks_len (b : List UInt8) (p : Nat) : (toks b p).length ≤ b.length - p := by
  by_cases h : p < b.length
  · have h1 := toks_len b (p + stepAt b p)
    have h2 := step_pos b p
    rw [toks_next h, List.length_cons]
    have := step_in h
    omega
  · rw [toks_end h]
    exact Nat.zero_le _
termination_by b.length - p
decreasing_by have := step_pos b p; omega
def copy (d : Nat) : Nat → List UInt8 → List UInt8
  | 0, out => out
  | k + 1, out => copy d k (out ++ [out.getD (out.length - d) 0])
def sizeT (t : TokV) : Nat := if t.len = 0 then 1 else t.len.toNat
def playT (out : List UInt8) (t : TokV) : List UInt8 := if t.len = 0 then out ++ [t.lit] else copy t.dist.toNat t.len.toNat out
theorem take_snoc {b : List UInt8} {p : Nat} (h : p < b.length) : b.take p ++ [b.getD p 0] = b.take (p + 1) := by
  rw [List.take_add_one, List.getD_eq_getElem?_getD, List.getElem?_eq_getElem h]
  rfl
theorem copy_take {b : List UInt8} {d : Nat} (hd : 1 ≤ d) : ∀ (k p : Nat), d ≤ p → p + k ≤ b.length → (∀ j, j < k → b.getD (p + j - d) 0 = b.getD (p + j) 0) → copy d k (b.take p) = b.take (p + k)
  | 0, p, _, _, _ => rfl
  | k + 1, p, h1, h2, h3 => by
    have hl : (b.take p).length = p := by rw [List.length_take]; omega
    have e : (b.take p).getD ((b.take p).length - d) 0 = b.getD p 0 := by
      have := h3 0 (by omega)
      rw [Nat.add_zero] at this
      rw [hl, ← this]
      simp only [List.getD_eq_getElem?_getD]
      rw [List.getElem?_take, if_pos (by omega)]
    rw [copy, e, take_snoc (by omega), copy_take hd k (p + 1) (by omega) (by omega) (fun j hj => by
      have := h3 (j + 1) (by omega)
      rwa [show p + (j + 1) = p + 1 + j by omega] at this), show p + 1 + k = p + (k + 1) by omega]
theorem play_tok {b : List UInt8} {p : Nat} (h : p < b.length) : playT (b.take p) (tokAt b p) = b.take (p + stepAt b p) ∧ sizeT (tokAt b p) = stepAt b p ∧ ¬ ((p : Int) < (tokAt b p).dist) := by
  unfold tokAt stepAt
  by_cases h3 : 3 ≤ (bestAt b p).1
  · rw [if_pos h3, if_pos h3]
    obtain ⟨e1, e2, e3⟩ := best_is b p (min 4095 p) (by unfold bestAt at h3; omega)
    unfold bestAt at h3 ⊢
    unfold playT sizeT
    refine ⟨?_, by dsimp only; rw [if_neg (by omega)]; omega, by dsimp only; omega⟩
    dsimp only
    rw [if_neg (by omega), Int.toNat_natCast, Int.toNat_natCast]
    rw [e3] at h3 ⊢
    exact copy_take e1 _ _ (by omega) (run_end (by omega)) (fun j hj => (run_same hj).2)
  · rw [if_neg h3, if_neg h3]
    unfold playT sizeT
    refine ⟨by rw [if_pos rfl]; exact take_snoc h, by rw [if_pos rfl], by dsimp only; omega⟩
end Go.Proofs.YthpbckignppaiaaGreatDoor.Lz

namespace Go.Proofs.YthpbckignppaiaaGreatDoor
structure PcV where
  sym : Int
  len : Int
  dist : Int
  far : Int
deriving DecidableEq
instance : Inhabited PcV := ⟨⟨0, 0, 0, 0⟩⟩
end Go.Proofs.YthpbckignppaiaaGreatDoor
namespace Go.Proofs.YthpbckignppaiaaGreatDoor.Tok
open Lz
theorem log_eq {v b : Nat} (h1 : 2 ^ b ≤ v) (h2 : v < 2 ^ (b + 1)) : Nat.log2 v = b := by
  have h0 : v ≠ 0 := by have := Nat.pow_pos (n := b) (show 0 < 2 by omega); omega
  exact (Nat.log2_eq_iff h0).2 ⟨h1, h2⟩
theorem log_le {v : Nat} (h : v ≠ 0) : 2 ^ Nat.log2 v ≤ v ∧ v < 2 ^ (Nat.log2 v + 1) := (Nat.log2_eq_iff h).1 rfl
theorem log_lt {v k : Nat} (h : v ≠ 0) (hk : v < 2 ^ k) : Nat.log2 v < k := by
  have := (log_le h).1
  exact (Nat.pow_lt_pow_iff_right (show 1 < 2 by omega)).1 (by omega)
def splitE (t : TokV) : PcV × Int :=
  if may t = false then (⟨0, 0, 0, 0⟩, 7)
  else if t.len = 0 then (⟨t.lit.toNat, 0, 0, 0⟩, 0)
  else (⟨257 + (Nat.log2 (t.len - 2).toNat : Nat), ((t.len - 2).toNat - 2 ^ Nat.log2 (t.len - 2).toNat : Nat), (Nat.log2 t.dist.toNat : Nat), (t.dist.toNat - 2 ^ Nat.log2 t.dist.toNat : Nat)⟩, 0)
theorem split_bad {t : TokV} (h : may t = false) : splitE t = (⟨0, 0, 0, 0⟩, 7) := if_pos h
theorem split_lit {t : TokV} (h : may t = true) (h0 : t.len = 0) : splitE t = (⟨t.lit.toNat, 0, 0, 0⟩, 0) := by unfold splitE; rw [if_neg (by rw [h]; simp), if_pos h0]
theorem may_facts {t : TokV} (h : may t = true) (h0 : t.len ≠ 0) : t.lit = 0 ∧ 3 ≤ t.len ∧ t.len ≤ 257 ∧ 1 ≤ t.dist ∧ t.dist ≤ 4095 := by
  unfold may at h
  rw [if_neg h0] at h
  exact of_decide_eq_true h
theorem split_match {t : TokV} (h : may t = true) (h0 : t.len ≠ 0) : ∃ k x c y : Nat, k ≤ 7 ∧ x < 2 ^ k ∧ c ≤ 11 ∧ y < 2 ^ c ∧ t.len = (2 ^ k : Nat) + x + 2 ∧ t.dist = (2 ^ c : Nat) + y ∧ splitE t = (⟨257 + (k : Int), x, c, y⟩, 0) := by
  obtain ⟨_, h1, h2, h3, h4⟩ := may_facts h h0
  have e1 := log_le (v := (t.len - 2).toNat) (by omega)
  have e2 := log_le (v := t.dist.toNat) (by omega)
  have l1 := log_lt (v := (t.len - 2).toNat) (k := 8) (by omega) (by omega)
  have l2 := log_lt (v := t.dist.toNat) (k := 12) (by omega) (by omega)
  rw [Nat.pow_succ] at e1 e2
  refine ⟨Nat.log2 (t.len - 2).toNat, (t.len - 2).toNat - 2 ^ Nat.log2 (t.len - 2).toNat, Nat.log2 t.dist.toNat, t.dist.toNat - 2 ^ Nat.log2 t.dist.toNat, by omega, by omega, by omega, by omega, by omega, by omega, ?_⟩
  unfold splitE
  rw [if_neg (by rw [h]; simp), if_neg h0]
theorem pow_top {k m : Nat} (h : k ≤ m) : 2 ^ k ≤ 2 ^ m := Nat.pow_le_pow_right (by omega) h
end Go.Proofs.YthpbckignppaiaaGreatDoor.Tok

namespace Go.Proofs.YthpbckignppaiaaGreatDoor.Len
def sumN : Nat → (Nat → Nat) → Nat
  | 0, _ => 0
  | n + 1, f => sumN n f + f n
theorem sumN_congr : ∀ {n : Nat} {f g : Nat → Nat}, (∀ i, i < n → f i = g i) → sumN n f = sumN n g
  | 0, _, _, _ => rfl
  | n + 1, f, g, h => by rw [sumN, sumN, sumN_congr (fun i hi => h i (by omega)), h n (by omega)]
theorem sumN_le : ∀ {n : Nat} {f g : Nat → Nat}, (∀ i, i < n → f i ≤ g i) → sumN n f ≤ sumN n g
  | 0, _, _, _ => Nat.le_refl _
  | n + 1, f, g, h => by
    rw [sumN, sumN]
    have := sumN_le (n := n) (f := f) (g := g) (fun i hi => h i (by omega))
    have := h n (by omega)
    omega
theorem sumN_add : ∀ (n : Nat) (f g : Nat → Nat), sumN n (fun i => f i + g i) = sumN n f + sumN n g
  | 0, _, _ => rfl
  | n + 1, f, g => by rw [sumN, sumN, sumN, sumN_add n f g]; omega
theorem sumN_mul (c : Nat) : ∀ (n : Nat) (f : Nat → Nat), sumN n (fun i => c * f i) = c * sumN n f
  | 0, _ => rfl
  | n + 1, f => by rw [sumN, sumN, sumN_mul c n f, Nat.mul_add]
theorem sumN_zero : ∀ (n : Nat) {f : Nat → Nat}, (∀ i, i < n → f i = 0) → sumN n f = 0
  | 0, _, _ => rfl
  | n + 1, f, h => by rw [sumN, sumN_zero n (fun i hi => h i (by omega)), h n (by omega)]
theorem sumN_const (c : Nat) : ∀ n : Nat, sumN n (fun _ => c) = n * c
  | 0 => by simp [sumN]
  | n + 1 => by rw [sumN, sumN_const c n, Nat.add_mul, Nat.one_mul]
theorem sumN_first (f : Nat → Nat) (a : Nat) : ∀ n : Nat, a ≤ n → sumN n (fun i => if i < a then f i else 0) = sumN a f
  | 0, h => by
    obtain rfl : a = 0 := by omega
    rfl
  | n + 1, h => by
    rw [sumN]
    by_cases e : a = n + 1
    · subst e
      rw [if_pos (by omega), sumN]
      congr 1
      exact sumN_congr fun i hi => if_pos (by omega)
    · rw [sumN_first f a n (by omega), if_neg (by omega), Nat.add_zero]
def cntN (p : Nat → Bool) : Nat → Nat
  | 0 => 0
  | n + 1 => cntN p n + (if p n then 1 else 0)
theorem cntN_le (p : Nat → Bool) : ∀ n, cntN p n ≤ n
  | 0 => Nat.le_refl _
  | n + 1 => by
    rw [cntN]
    have := cntN_le p n
    split <;> omega
theorem sumN_mono {f : Nat → Nat} : ∀ {m n : Nat}, m ≤ n → sumN m f ≤ sumN n f
  | m, 0, h => by
    obtain rfl : m = 0 := by omega
    exact Nat.le_refl _
  | m, n + 1, h => by
    by_cases e : m = n + 1
    · rw [e]; exact Nat.le_refl _
    · have := sumN_mono (f := f) (m := m) (n := n) (by omega)
      rw [sumN]
      omega
theorem firsts_le {w : Nat → Nat} (p : Nat → Bool) : ∀ n : Nat, (∀ i j, i ≤ j → j < n → w i ≤ w j) → sumN (cntN p n) w ≤ sumN n fun i => if p i then w i else 0
  | 0, _ => Nat.le_refl _
  | n + 1, hs => by
    have IH := firsts_le p n fun i j hij hj => hs i j hij (by omega)
    rw [cntN, sumN]
    by_cases h : p n = true
    · rw [if_pos h, if_pos h, sumN]
      have := hs (cntN p n) n (cntN_le p n) (by omega)
      omega
    · rw [if_neg h, if_neg h]
      omega
abbrev Item := Nat × List Nat
def wts (l : List Item) : Nat := (l.map Prod.fst).sum
def syms (l : List Item) : List Nat := l.flatMap Prod.snd
def Sorted (l : List Item) : Prop := l.Pairwise fun a b => a.1 ≤ b.1
def pairsOf : List Item → List Item
  | a :: b :: r => (a.1 + b.1, a.2 ++ b.2) :: pairsOf r
  | _ => []
def mergeI : List Item → List Item → List Item
  | [], ps => ps
  | ls, [] => ls
  | a :: ls, b :: ps => if a.1 ≤ b.1 then a :: mergeI ls (b :: ps) else b :: mergeI (a :: ls) ps
termination_by ls ps => ls.length + ps.length
theorem mergeI_nil (l : List Item) : mergeI l [] = l := by
  cases l <;> simp [mergeI]
theorem nil_mergeI (l : List Item) : mergeI [] l = l := by simp [mergeI]
theorem mergeI_cons (a b : Item) (ls ps : List Item) : mergeI (a :: ls) (b :: ps) = if a.1 ≤ b.1 then a :: mergeI ls (b :: ps) else b :: mergeI (a :: ls) ps := by rw [mergeI]
theorem mergeI_len : ∀ (ls ps : List Item), (mergeI ls ps).length = ls.length + ps.length
  | [], ps => by rw [nil_mergeI]; simp
  | a :: ls, [] => by rw [mergeI_nil]; simp
  | a :: ls, b :: ps => by
    rw [mergeI_cons]
    split
    · rw [List.length_cons, mergeI_len ls (b :: ps)]; simp; omega
    · rw [List.length_cons, mergeI_len (a :: ls) ps]; simp; omega
termination_by ls ps => ls.length + ps.length
theorem pairsOf_len : ∀ l : List Item, (pairsOf l).length = l.length / 2
  | [] => rfl
  | [_] => by simp [pairsOf]
  | a :: b :: r => by rw [pairsOf, List.length_cons, pairsOf_len r]; simp; omega
theorem wts_nil : wts [] = 0 := rfl
theorem wts_cons (a : Item) (l : List Item) : wts (a :: l) = a.1 + wts l := by simp [wts]
theorem wts_append (a b : List Item) : wts (a ++ b) = wts a + wts b := by simp [wts]
theorem syms_cons (a : Item) (l : List Item) : syms (a :: l) = a.2 ++ syms l := by simp [syms]
theorem merge_take : ∀ (ls ps : List Item) (m : Nat), m ≤ ls.length + ps.length → ∃ a, a ≤ m ∧ a ≤ ls.length ∧ m - a ≤ ps.length ∧ wts ((mergeI ls ps).take m) = wts (ls.take a) + wts (ps.take (m - a)) ∧
    ∀ s, (syms ((mergeI ls ps).take m)).count s = (syms (ls.take a)).count s + (syms (ps.take (m - a))).count s
  | ls, ps, 0, _ => ⟨0, by omega, by omega, by omega, by simp [wts], fun s => by simp [syms]⟩
  | [], ps, m + 1, h => ⟨0, by omega, by omega, by simpa using h, by rw [nil_mergeI]; simp [wts], fun s => by rw [nil_mergeI]; simp [syms]⟩
  | a :: ls, [], m + 1, h => ⟨m + 1, by omega, by simpa using h, by omega, by rw [mergeI_nil]; simp [wts], fun s => by rw [mergeI_nil]; simp [syms]⟩
  | a :: ls, b :: ps, m + 1, h => by
    rw [mergeI_cons]
    by_cases hab : a.1 ≤ b.1
    · rw [if_pos hab]
      obtain ⟨k, h1, h2, h3, h4, h5⟩ := merge_take ls (b :: ps) m (by simp at h ⊢; omega)
      refine ⟨k + 1, by omega, by simpa using h2, by rw [show m + 1 - (k + 1) = m - k by omega]; exact h3, ?_, fun s => ?_⟩
      · rw [List.take_succ_cons, List.take_succ_cons, wts_cons, wts_cons, h4, show m + 1 - (k + 1) = m - k by omega]
        omega
      · rw [List.take_succ_cons, List.take_succ_cons, syms_cons, syms_cons, List.count_append, List.count_append, h5 s, show m + 1 - (k + 1) = m - k by omega]
        omega
    · rw [if_neg hab]
      obtain ⟨k, h1, h2, h3, h4, h5⟩ := merge_take (a :: ls) ps m (by simp at h ⊢; omega)
      refine ⟨k, by omega, h2, by simp; omega, ?_, fun s => ?_⟩
      · rw [show m + 1 - k = (m - k) + 1 by omega, List.take_succ_cons, List.take_succ_cons, wts_cons, wts_cons, h4]
        omega
      · rw [show m + 1 - k = (m - k) + 1 by omega, List.take_succ_cons, List.take_succ_cons, syms_cons, syms_cons, List.count_append, List.count_append, h5 s]
        omega
termination_by ls ps => ls.length + ps.length
theorem wts_take_le (a : Item) (l : List Item) (h : ∀ x ∈ l, a.1 ≤ x.1) : ∀ {m : Nat}, m + 1 ≤ l.length → a.1 + wts (l.take m) ≤ wts (l.take (m + 1)) := by
  intro m hm
  have e : l.take (m + 1) = l.take m ++ [l[m]'(by omega)] := by rw [List.take_add_one, List.getElem?_eq_getElem (by omega)]; rfl
  rw [e, wts_append, wts_cons, wts_nil]
  have := h (l[m]'(by omega)) (List.getElem_mem _)
  omega
theorem merge_least : ∀ (ls ps : List Item) (m c : Nat), Sorted ls → Sorted ps → c ≤ m → c ≤ ls.length → m - c ≤ ps.length → wts ((mergeI ls ps).take m) ≤ wts (ls.take c) + wts (ps.take (m - c))
  | ls, ps, 0, _, _, _, _, _, _ => by simp [wts]
  | [], ps, m + 1, c, _, _, h1, h2, _ => by
    obtain rfl : c = 0 := by simpa using h2
    rw [nil_mergeI]
    simp [wts]
  | a :: ls, [], m + 1, c, _, _, h1, h2, h3 => by
    obtain rfl : c = m + 1 := by simp at h3; omega
    rw [mergeI_nil]
    simp [wts]
  | a :: ls, b :: ps, m + 1, c, hl, hp, h1, h2, h3 => by
    have hl1 := (List.pairwise_cons.1 hl).1
    have hl2 := (List.pairwise_cons.1 hl).2
    have hp1 := (List.pairwise_cons.1 hp).1
    have hp2 := (List.pairwise_cons.1 hp).2
    rw [mergeI_cons]
    simp only [List.length_cons] at h2 h3
    by_cases hab : a.1 ≤ b.1
    · rw [if_pos hab, List.take_succ_cons, wts_cons]
      cases c with
      | succ c =>
        have IH := merge_least ls (b :: ps) m c hl2 hp (by omega) (by omega) (by simp; omega)
        rw [List.take_succ_cons, wts_cons, show m + 1 - (c + 1) = m - c by omega]
        omega
      | zero =>
        have IH := merge_least ls (b :: ps) m 0 hl2 hp (by omega) (by omega) (by simp; omega)
        have h4 : a.1 + wts ((b :: ps).take m) ≤ wts ((b :: ps).take (m + 1)) := wts_take_le a (b :: ps) (fun x hx => by
          rcases List.mem_cons.1 hx with e | e
          · rw [e]; exact hab
          · have := hp1 x e; omega) (by simp; omega)
        rw [List.take_zero] at IH ⊢
        rw [Nat.sub_zero] at IH ⊢
        rw [wts_nil] at IH ⊢
        omega
    · rw [if_neg hab, List.take_succ_cons, wts_cons]
      by_cases hc : c = m + 1
      · subst hc
        have IH := merge_least (a :: ls) ps m m hl hp2 (by omega) (by simp; omega) (by omega)
        have h4 : b.1 + wts ((a :: ls).take m) ≤ wts ((a :: ls).take (m + 1)) := wts_take_le b (a :: ls) (fun x hx => by
          rcases List.mem_cons.1 hx with e | e
          · rw [e]; omega
          · have := hl1 x e; omega) (by simp; omega)
        rw [Nat.sub_self, List.take_zero, wts_nil] at IH ⊢
        omega
      · have IH := merge_least (a :: ls) ps m c hl hp2 (by omega) (by simp; omega) (by omega)
        rw [show m + 1 - c = (m - c) + 1 by omega, List.take_succ_cons, wts_cons]
        omega
termination_by ls ps => ls.length + ps.length
theorem merge_mem {ls ps : List Item} {x : Item} : x ∈ mergeI ls ps → x ∈ ls ∨ x ∈ ps := by
  match ls, ps with
  | [], ps => rw [nil_mergeI]; exact .inr
  | a :: ls, [] => rw [mergeI_nil]; exact .inl
  | a :: ls, b :: ps =>
    rw [mergeI_cons]
    split
    · intro h
      rcases List.mem_cons.1 h with e | e
      · exact .inl (by rw [e]; exact List.mem_cons_self)
      · rcases merge_mem e with h | h
        · exact .inl (List.mem_cons_of_mem _ h)
        · exact .inr h
    · intro h
      rcases List.mem_cons.1 h with e | e
      · exact .inr (by rw [e]; exact List.mem_cons_self)
      · rcases merge_mem e with h | h
        · exact .inl h
        · exact .inr (List.mem_cons_of_mem _ h)
termination_by ls.length + ps.length
theorem merge_sorted : ∀ {ls ps : List Item}, Sorted ls → Sorted ps → Sorted (mergeI ls ps)
  | [], ps, _, h => by rw [nil_mergeI]; exact h
  | a :: ls, [], h, _ => by rw [mergeI_nil]; exact h
  | a :: ls, b :: ps, hl, hp => by
    have hl1 := (List.pairwise_cons.1 hl).1
    have hp1 := (List.pairwise_cons.1 hp).1
    rw [mergeI_cons]
    by_cases hab : a.1 ≤ b.1
    · rw [if_pos hab]
      refine List.pairwise_cons.2 ⟨fun x hx => ?_, merge_sorted (List.pairwise_cons.1 hl).2 hp⟩
      rcases merge_mem hx with h | h
      · exact hl1 x h
      · rcases List.mem_cons.1 h with e | e
        · rw [e]; exact hab
        · have := hp1 x e; omega
    · rw [if_neg hab]
      refine List.pairwise_cons.2 ⟨fun x hx => ?_, merge_sorted hl (List.pairwise_cons.1 hp).2⟩
      rcases merge_mem hx with h | h
      · rcases List.mem_cons.1 h with e | e
        · rw [e]; omega
        · have := hl1 x e; omega
      · exact hp1 x h
termination_by ls ps => ls.length + ps.length
theorem pairs_ge : ∀ {l : List Item} {c : Nat}, (∀ x ∈ l, c ≤ x.1) → ∀ x ∈ pairsOf l, 2 * c ≤ x.1
  | [], _, _, x, h => by simp [pairsOf] at h
  | [_], _, _, x, h => by simp [pairsOf] at h
  | a :: b :: r, c, hl, x, h => by
    rw [pairsOf] at h
    rcases List.mem_cons.1 h with e | e
    · rw [e]
      have := hl a (by simp)
      have := hl b (by simp)
      simp only
      omega
    · exact pairs_ge (fun y hy => hl y (by simp [hy])) x e
theorem pairs_sorted : ∀ {l : List Item}, Sorted l → Sorted (pairsOf l)
  | [], _ => by simp [pairsOf, Sorted]
  | [_], _ => by simp [pairsOf, Sorted]
  | a :: b :: r, h => by
    have h1 := List.pairwise_cons.1 h
    have h2 := List.pairwise_cons.1 h1.2
    rw [pairsOf]
    refine List.pairwise_cons.2 ⟨fun x hx => ?_, pairs_sorted h2.2⟩
    have := pairs_ge (c := b.1) (fun y hy => h2.1 y hy) x hx
    have := h1.1 b (by simp)
    simp only
    omega
theorem pairs_take : ∀ (l : List Item) (k : Nat), 2 * k ≤ l.length → wts ((pairsOf l).take k) = wts (l.take (2 * k)) ∧ ∀ s, (syms ((pairsOf l).take k)).count s = (syms (l.take (2 * k))).count s
  | _, 0, _ => by simp [wts, syms]
  | [], k + 1, h => by simp at h
  | [_], k + 1, h => by simp at h; omega
  | a :: b :: r, k + 1, h => by
    obtain ⟨i1, i2⟩ := pairs_take r k (by simp at h; omega)
    rw [pairsOf, List.take_succ_cons, show 2 * (k + 1) = 2 * k + 1 + 1 by omega, List.take_succ_cons, List.take_succ_cons]
    refine ⟨?_, fun s => ?_⟩
    · rw [wts_cons, wts_cons, wts_cons, i1]
      simp only
      omega
    · rw [syms_cons, syms_cons, syms_cons, List.count_append, List.count_append, List.count_append, i2 s]
      simp only [List.count_append]
      omega
def leaves (n : Nat) (w s : Nat → Nat) : List Item := (List.range n).map fun i => (w i, [s i])
def row (lv : List Item) : Nat → List Item
  | 0 => lv
  | r + 1 => mergeI lv (pairsOf (row lv r))
section
variable {n : Nat} {w s : Nat → Nat}
theorem leaves_len : (leaves n w s).length = n := by simp [leaves]
theorem leaves_succ : leaves (n + 1) w s = leaves n w s ++ [(w n, [s n])] := by simp [leaves, List.range_succ]
theorem leaves_take {a : Nat} (h : a ≤ n) : (leaves n w s).take a = leaves a w s := by
  unfold leaves
  rw [← List.map_take, List.take_range, Nat.min_eq_left h]
theorem leaves_wts : ∀ n, wts (leaves n w s) = sumN n w
  | 0 => rfl
  | n + 1 => by rw [leaves_succ, sumN, ← leaves_wts n]; simp [wts]
theorem leaves_count (hs : ∀ i j, i < n → j < n → s i = s j → i = j) {i : Nat} (hi : i < n) : ∀ a, a ≤ n → (syms (leaves a w s)).count (s i) = if i < a then 1 else 0
  | 0, _ => by simp [leaves, syms]
  | a + 1, h => by
    have IH := leaves_count hs hi a (by omega)
    have e : syms (leaves (a + 1) w s) = syms (leaves a w s) ++ [s a] := by rw [leaves_succ]; simp [syms]
    rw [e, List.count_append, IH]
    by_cases hia : i = a
    · subst hia
      simp
    · have hne : s a ≠ s i := fun h2 => hia (hs a i (by omega) hi h2).symm
      have hb : (s a == s i) = false := beq_eq_false_iff_ne.2 hne
      rw [List.count_singleton, hb, if_neg Bool.false_ne_true, Nat.add_zero]
      by_cases h3 : i < a
      · rw [if_pos h3, if_pos (by omega)]
      · rw [if_neg h3, if_neg (by omega)]
theorem leaves_other {x : Nat} : ∀ {a : Nat}, (∀ i, i < a → s i ≠ x) → (syms (leaves a w s)).count x = 0
  | 0, _ => by simp [leaves, syms]
  | a + 1, h => by
    have e : syms (leaves (a + 1) w s) = syms (leaves a w s) ++ [s a] := by rw [leaves_succ]; simp [syms]
    rw [e, List.count_append, leaves_other (fun i hi => h i (by omega)), List.count_singleton, beq_eq_false_iff_ne.2 (h a (by omega)), if_neg Bool.false_ne_true]
theorem leaves_sorted (hw : ∀ i j, i ≤ j → j < n → w i ≤ w j) : Sorted (leaves n w s) := by
  unfold leaves Sorted
  rw [List.pairwise_map]
  exact (List.pairwise_lt_range (n := n)).imp_of_mem fun {a b} ha hb h => hw a b (Nat.le_of_lt h) (List.mem_range.1 hb)
theorem row_sorted {lv : List Item} (h : Sorted lv) : ∀ r, Sorted (row lv r)
  | 0 => h
  | r + 1 => merge_sorted h (pairs_sorted (row_sorted h r))
theorem row_len (lv : List Item) (r : Nat) : (row lv (r + 1)).length = lv.length + (row lv r).length / 2 := by rw [row, mergeI_len, pairsOf_len]
theorem row_says (hs : ∀ i j, i < n → j < n → s i = s j → i = j) : ∀ (r m : Nat), m ≤ (row (leaves n w s) r).length →
    ∃ c wd : Nat → Nat, (∀ i, i < n → (syms ((row (leaves n w s) r).take m)).count (s i) = c i) ∧ (∀ x, (∀ i, i < n → s i ≠ x) → (syms ((row (leaves n w s) r).take m)).count x = 0) ∧
      (∀ i, i < n → c i ≤ r + 1 ∧ wd i + 2 ^ (r + 1 - c i) ≤ 2 ^ (r + 1)) ∧ (∀ i j, i ≤ j → j < n → c j ≤ c i) ∧ sumN n wd = m * 2 ^ r ∧ wts ((row (leaves n w s) r).take m) = sumN n fun i => w i * c i
  | 0, m, h => by
    have hmn : m ≤ n := by rw [row, leaves_len] at h; exact h
    refine ⟨fun i => if i < m then 1 else 0, fun i => if i < m then 1 else 0, fun i hi => ?_, fun x hx => ?_, fun i _ => ?_, fun i j hij _ => ?_, ?_, ?_⟩
    · rw [row, leaves_take hmn, leaves_count hs hi m hmn]
    · rw [row, leaves_take hmn]
      exact leaves_other fun i hi => hx i (by omega)
    · dsimp only
      by_cases e : i < m
      · rw [if_pos e]; simp
      · rw [if_neg e]; simp
    · dsimp only
      by_cases e : j < m
      · rw [if_pos e, if_pos (by omega)]; exact Nat.le_refl _
      · rw [if_neg e]; omega
    · rw [sumN_first (fun _ => 1) m n hmn, sumN_const, Nat.pow_zero]
    · rw [row, leaves_take hmn, leaves_wts]
      rw [← sumN_first w m n hmn]
      refine sumN_congr fun i _ => ?_
      dsimp only
      by_cases e : i < m
      · rw [if_pos e, if_pos e, Nat.mul_one]
      · rw [if_neg e, if_neg e, Nat.mul_zero]
  | r + 1, m, h => by
    rw [row_len, leaves_len] at h
    obtain ⟨a, a1, a2, a3, a4, a5⟩ := merge_take (leaves n w s) (pairsOf (row (leaves n w s) r)) m (by rw [leaves_len, pairsOf_len]; exact h)
    rw [leaves_len] at a2
    rw [pairsOf_len] at a3
    obtain ⟨c, wd, h1, h2, h3, h4, h5, h6⟩ := row_says hs r (2 * (m - a)) (by omega)
    obtain ⟨p1, p2⟩ := pairs_take (row (leaves n w s) r) (m - a) (by omega)
    refine ⟨fun i => (if i < a then 1 else 0) + c i, fun i => (if i < a then 2 ^ (r + 1) else 0) + wd i, fun i hi => ?_, fun x hx => ?_, fun i hi => ?_, fun i j hij hj => ?_, ?_, ?_⟩
    · rw [row, a5 (s i), leaves_take a2, leaves_count hs hi a a2, p2 (s i), h1 i hi]
    · rw [row, a5 x, leaves_take a2, leaves_other (fun i hi => hx i (by omega)), p2 x, h2 x hx]
    · dsimp only
      obtain ⟨k1, k2⟩ := h3 i hi
      have e2 : 2 ^ (r + 1 + 1) = 2 * 2 ^ (r + 1) := by rw [Nat.pow_succ, Nat.mul_comm]
      by_cases e : i < a
      · rw [if_pos e, if_pos e, show r + 1 + 1 - (1 + c i) = r + 1 - c i by omega, e2]
        exact ⟨by omega, by omega⟩
      · rw [if_neg e, if_neg e, Nat.zero_add, Nat.zero_add, show r + 1 + 1 - c i = (r + 1 - c i) + 1 by omega, Nat.pow_succ, e2]
        have : 2 ^ (r + 1 - c i) ≤ 2 ^ (r + 1) := Nat.pow_le_pow_right (by omega) (by omega)
        exact ⟨by omega, by omega⟩
    · dsimp only
      have := h4 i j hij hj
      by_cases e : j < a
      · rw [if_pos e, if_pos (by omega)]; omega
      · rw [if_neg e]; split <;> omega
    · rw [sumN_add, sumN_first (fun _ => 2 ^ (r + 1)) a n a2, sumN_const, h5, Nat.pow_succ, Nat.mul_comm 2 (m - a), Nat.mul_assoc, ← Nat.mul_comm (2 ^ r) 2, ← Nat.add_mul]
      rw [show a + (m - a) = m by omega]
    · rw [row, a4, leaves_take a2, leaves_wts, p1, h6, ← sumN_first w a n a2, ← sumN_add]
      refine sumN_congr fun i _ => ?_
      dsimp only
      by_cases e : i < a
      · rw [if_pos e, if_pos e, Nat.mul_add, Nat.mul_one]
      · rw [if_neg e, if_neg e, Nat.mul_add, Nat.mul_zero]
theorem row_least (hw : ∀ i j, i ≤ j → j < n → w i ≤ w j) : ∀ (r m : Nat) (l : Nat → Nat), (∀ i, i < n → l i ≤ r + 1) → m * 2 ^ r ≤ sumN n (fun i => 2 ^ (r + 1) - 2 ^ (r + 1 - l i)) →
    m ≤ (row (leaves n w s) r).length ∧ wts ((row (leaves n w s) r).take m) ≤ sumN n fun i => w i * l i
  | 0, m, l, hl, h => by
    have e : sumN n (fun i => 2 ^ (0 + 1) - 2 ^ (0 + 1 - l i)) = cntN (fun i => decide (0 < l i)) n := by
      clear h hw
      induction n with
      | zero => rfl
      | succ n ih =>
        rw [sumN, cntN, ih fun i hi => hl i (by omega)]
        have := hl n (by omega)
        rcases Nat.eq_zero_or_pos (l n) with h0 | h0
        · rw [h0]; simp
        · have h1 : l n = 1 := by omega
          rw [h1]; simp
    rw [e, Nat.pow_zero, Nat.mul_one] at h
    have hcn := cntN_le (fun i => decide (0 < l i)) n
    refine ⟨by rw [row, leaves_len]; omega, ?_⟩
    rw [row, leaves_take (by omega), leaves_wts]
    refine Nat.le_trans (sumN_mono h) (Nat.le_trans (firsts_le _ n hw) (sumN_le fun i _ => ?_))
    by_cases h0 : 0 < l i
    · rw [if_pos (by simpa using h0)]
      exact Nat.le_mul_of_pos_right _ h0
    · rw [if_neg (by simpa using h0)]
      omega
  | r + 1, m, l, hl, h => by
    have hP : 0 < 2 ^ (r + 1) := Nat.pow_pos (by omega)
    have e : sumN n (fun i => 2 ^ (r + 1 + 1) - 2 ^ (r + 1 + 1 - l i)) = cntN (fun i => decide (0 < l i)) n * 2 ^ (r + 1) + sumN n (fun i => 2 ^ (r + 1) - 2 ^ (r + 1 - (l i - 1))) := by
      clear h hw
      induction n with
      | zero => rw [sumN, sumN, cntN]; omega
      | succ n ih =>
        rw [sumN, sumN, cntN, ih fun i hi => hl i (by omega), Nat.add_mul]
        have := hl n (by omega)
        have e2 : 2 ^ (r + 1 + 1) = 2 ^ (r + 1) + 2 ^ (r + 1) := by rw [Nat.pow_succ]; omega
        rcases Nat.eq_zero_or_pos (l n) with h0 | h0
        · rw [h0]
          simp
        · rw [if_pos (by simpa using h0), show r + 1 + 1 - l n = r + 1 - (l n - 1) by omega, Nat.one_mul, e2]
          have : 2 ^ (r + 1 - (l n - 1)) ≤ 2 ^ (r + 1) := Nat.pow_le_pow_right (by omega) (by omega)
          omega
    rw [e] at h
    have hcn := cntN_le (fun i => decide (0 < l i)) n
    have hcost : sumN n (fun i => w i * l i) = sumN n (fun i => if decide (0 < l i) then w i else 0) + sumN n fun i => w i * (l i - 1) := by
      rw [← sumN_add]
      refine sumN_congr fun i _ => ?_
      rcases Nat.eq_zero_or_pos (l i) with h0 | h0
      · rw [h0]; simp
      · rw [if_pos (by simpa using h0)]
        have : l i = (l i - 1) + 1 := by omega
        rw [show w i * l i = w i * ((l i - 1) + 1) by rw [← this], Nat.mul_add, Nat.mul_one]
        omega
    have hfl := firsts_le (w := w) (fun i => decide (0 < l i)) n hw
    have hls := leaves_sorted (s := s) hw
    have hps := pairs_sorted (row_sorted hls r)
    generalize cntN (fun i => decide (0 < l i)) n = c at *
    rw [row_len, leaves_len]
    by_cases hmc : m ≤ c
    · refine ⟨by omega, ?_⟩
      have := merge_least (leaves n w s) (pairsOf (row (leaves n w s) r)) m m hls hps (Nat.le_refl _) (by rw [leaves_len]; omega) (by omega)
      rw [Nat.sub_self, List.take_zero, wts_nil, leaves_take (by omega), leaves_wts] at this
      have := sumN_mono (f := w) hmc
      rw [row]
      omega
    · have hm2 : (m - c) * 2 ^ (r + 1) = m * 2 ^ (r + 1) - c * 2 ^ (r + 1) := Nat.sub_mul _ _ _
      have IH := row_least hw r (2 * (m - c)) (fun i => l i - 1) (fun i hi => by have := hl i hi; omega) (by
        rw [Nat.mul_comm 2 (m - c), Nat.mul_assoc, Nat.mul_comm 2 (2 ^ r), ← Nat.pow_succ, Nat.succ_eq_add_one, hm2]
        omega)
      obtain ⟨i1, i2⟩ := IH
      refine ⟨by omega, ?_⟩
      have h1 := merge_least (leaves n w s) (pairsOf (row (leaves n w s) r)) m c hls hps (by omega) (by rw [leaves_len]; exact hcn) (by rw [pairsOf_len]; omega)
      rw [leaves_take hcn, leaves_wts, (pairs_take (row (leaves n w s) r) (m - c) (by omega)).1] at h1
      rw [row]
      omega
end
end Go.Proofs.YthpbckignppaiaaGreatDoor.Len

namespace Go.Proofs.YthpbckignppaiaaGreatDoor.Len
theorem sumN_shift : ∀ (n : Nat) (f : Nat → Nat), sumN (n + 1) f = f 0 + sumN n fun i => f (i + 1)
  | 0, f => by simp [sumN]
  | n + 1, f => by
    rw [sumN, sumN_shift n f, sumN]
    omega
theorem sumN_sub {c : Nat} : ∀ (n : Nat) {g : Nat → Nat}, (∀ i, i < n → g i ≤ c) → sumN n (fun i => c - g i) + sumN n g = n * c
  | 0, _, _ => by simp [sumN]
  | n + 1, g, h => by
    rw [sumN, sumN, Nat.add_mul, Nat.one_mul]
    have := sumN_sub (c := c) n (g := g) fun i hi => h i (by omega)
    have := h n (by omega)
    omega
theorem pow_le_of {a b : Nat} (h : a ≤ b) : 2 ^ a ≤ 2 ^ b := Nat.pow_le_pow_right (by omega) h
section
variable {n r : Nat} {w s l : Nat → Nat}
theorem wide (hK : sumN n (fun i => 2 ^ (r + 1 - l i)) ≤ 2 ^ (r + 1)) : (2 * n - 2) * 2 ^ r ≤ sumN n fun i => 2 ^ (r + 1) - 2 ^ (r + 1 - l i) := by
  have h1 := sumN_sub (c := 2 ^ (r + 1)) n (g := fun i => 2 ^ (r + 1 - l i)) fun i _ => pow_le_of (by omega)
  have e : (2 * n - 2) * 2 ^ r = n * 2 ^ (r + 1) - 2 ^ (r + 1) := by
    rw [Nat.pow_succ, Nat.sub_mul]
    have : 2 * n * 2 ^ r = n * (2 ^ r * 2) := by rw [Nat.mul_comm 2 n, Nat.mul_assoc, Nat.mul_comm 2]
    omega
  omega
def says (n : Nat) (w s : Nat → Nat) (r i : Nat) : Nat := (syms ((row (leaves n w s) r).take (2 * n - 2))).count (s i)
structure Fine (n r : Nat) (w s : Nat → Nat) : Prop where
  enough : 2 * n - 2 ≤ (row (leaves n w s) r).length
  pos : ∀ i, i < n → 1 ≤ says n w s r i
  top : ∀ i, i < n → says n w s r i ≤ r + 1
  anti : ∀ i j, i ≤ j → j < n → says n w s r j ≤ says n w s r i
  full : sumN n (fun i => 2 ^ (r + 1 - says n w s r i)) = 2 ^ (r + 1)
  none : ∀ x, (∀ i, i < n → s i ≠ x) → (syms ((row (leaves n w s) r).take (2 * n - 2))).count x = 0
  best : ∀ l : Nat → Nat, (∀ i, i < n → l i ≤ r + 1) → sumN n (fun i => 2 ^ (r + 1 - l i)) ≤ 2 ^ (r + 1) → sumN n (fun i => w i * says n w s r i) ≤ sumN n fun i => w i * l i
theorem fine (hn : 2 ≤ n) (hnr : n ≤ 2 ^ (r + 1)) (hw : ∀ i j, i ≤ j → j < n → w i ≤ w j) (hw0 : 1 ≤ w 0) (hs : ∀ i j, i < n → j < n → s i = s j → i = j) : Fine n r w s := by
  have h0 := row_least (s := s) hw r (2 * n - 2) (fun _ => r + 1) (fun _ _ => Nat.le_refl _) (wide (by
    rw [sumN_congr (g := fun _ => 1) (fun i _ => by rw [Nat.sub_self, Nat.pow_zero]), sumN_const]
    omega))
  obtain ⟨c, wd, h1, h2, h3, h4, h5, h6⟩ := row_says (w := w) hs r (2 * n - 2) h0.1
  have hP : 0 < 2 ^ (r + 1) := Nat.pow_pos (by omega)
  have hbest : ∀ l : Nat → Nat, (∀ i, i < n → l i ≤ r + 1) → sumN n (fun i => 2 ^ (r + 1 - l i)) ≤ 2 ^ (r + 1) → sumN n (fun i => w i * c i) ≤ sumN n fun i => w i * l i := fun l hl hK => by
    rw [← h6]
    exact (row_least hw r (2 * n - 2) l hl (wide hK)).2
  -- the weight isn't too much
  have hle : sumN n (fun i => 2 ^ (r + 1 - c i)) ≤ 2 ^ (r + 1) := by
    have k1 : sumN n (fun i => wd i + 2 ^ (r + 1 - c i)) ≤ sumN n fun _ => 2 ^ (r + 1) := sumN_le fun i hi => (h3 i hi).2
    rw [sumN_add, h5, sumN_const] at k1
    have e : (2 * n - 2) * 2 ^ r = n * 2 ^ (r + 1) - 2 ^ (r + 1) := by
      rw [Nat.pow_succ, Nat.sub_mul]
      have : 2 * n * 2 ^ r = n * (2 ^ r * 2) := by rw [Nat.mul_comm 2 n, Nat.mul_assoc, Nat.mul_comm 2]
      omega
    have : 1 * 2 ^ (r + 1) ≤ n * 2 ^ (r + 1) := Nat.mul_le_mul_right _ (by omega)
    omega
  obtain ⟨k, rfl⟩ : ∃ k, n = k + 2 := ⟨n - 2, by omega⟩
  have hlast : 1 ≤ c (k + 1) := by
    rcases Nat.eq_zero_or_pos (c (k + 1)) with e | e
    · rw [sumN, e, Nat.sub_zero] at hle
      have : sumN (k + 1) (fun _ => 1) ≤ sumN (k + 1) fun i => 2 ^ (r + 1 - c i) := sumN_le fun i _ => Nat.pow_pos (by omega)
      rw [sumN_const] at this
      omega
    · exact e
  have hpos : ∀ i, i < k + 2 → 1 ≤ c i := fun i hi => Nat.le_trans hlast (h4 i (k + 1) (by omega) (by omega))
  have hfull : sumN (k + 2) (fun i => 2 ^ (r + 1 - c i)) = 2 ^ (r + 1) := by
    rcases Nat.lt_or_ge (sumN (k + 2) fun i => 2 ^ (r + 1 - c i)) (2 ^ (r + 1)) with hlt | hge
    · exfalso
      have hc0 := h3 0 (by omega)
      have hc1 := hpos 0 (by omega)
      by_cases h1' : c 0 = 1
      · have : sumN (k + 2) (fun _ => 2 ^ r) ≤ sumN (k + 2) fun i => 2 ^ (r + 1 - c i) := sumN_le fun i hi => by
          have := h4 0 i (by omega) hi
          exact pow_le_of (by omega)
        rw [sumN_const] at this
        have h2' : 2 * 2 ^ r ≤ (k + 2) * 2 ^ r := Nat.mul_le_mul_right _ (by omega)
        rw [Nat.pow_succ] at hlt
        omega
      · -- one bit less for the first symbol
        have hdiv : sumN (k + 2) (fun i => 2 ^ (r + 1 - c i)) = 2 ^ (r + 1 - c 0) * sumN (k + 2) fun i => 2 ^ (c 0 - c i) := by
          rw [← sumN_mul]
          refine sumN_congr fun i hi => ?_
          have := h4 0 i (by omega) hi
          rw [← Nat.pow_add]
          congr 1
          omega
        have hpw : 2 ^ (r + 1) = 2 ^ (r + 1 - c 0) * 2 ^ c 0 := by
          rw [← Nat.pow_add]
          congr 1
          omega
        have hroom : sumN (k + 2) (fun i => 2 ^ (r + 1 - c i)) + 2 ^ (r + 1 - c 0) ≤ 2 ^ (r + 1) := by
          rw [hdiv, hpw] at hlt ⊢
          have := Nat.lt_of_mul_lt_mul_left hlt
          rw [← Nat.mul_succ]
          exact Nat.mul_le_mul_left _ this
        have hlow := hbest (fun i => if i = 0 then c 0 - 1 else c i) (fun i hi => by
          have := (h3 i hi).1
          split <;> omega) (by
          rw [sumN_shift] at hroom ⊢
          simp only [if_false, if_true, Nat.add_one_ne_zero]
          have e : 2 ^ (r + 1 - (c 0 - 1)) = 2 ^ (r + 1 - c 0) + 2 ^ (r + 1 - c 0) := by
            rw [show r + 1 - (c 0 - 1) = (r + 1 - c 0) + 1 by omega, Nat.pow_succ]
            omega
          omega)
        rw [sumN_shift, sumN_shift (k + 1) fun i => w i * if i = 0 then c 0 - 1 else c i] at hlow
        simp only [Nat.add_one_ne_zero, if_false, if_true] at hlow
        have e : w 0 * c 0 = w 0 * (c 0 - 1) + w 0 := by
          rw [← Nat.mul_succ]
          congr 1
          omega
        omega
    · omega
  have hsay : ∀ i, i < k + 2 → says (k + 2) w s r i = c i := fun i hi => h1 i hi
  refine ⟨h0.1, fun i hi => by rw [hsay i hi]; exact hpos i hi, fun i hi => by rw [hsay i hi]; exact (h3 i hi).1, fun i j hij hj => by rw [hsay i (by omega), hsay j hj]; exact h4 i j hij hj, ?_, h2, fun l hl hK => ?_⟩
  · rw [sumN_congr (g := fun i => 2 ^ (r + 1 - c i)) (fun i hi => by rw [hsay i hi])]
    exact hfull
  · rw [sumN_congr (g := fun i => w i * c i) (fun i hi => by rw [hsay i hi])]
    exact hbest l hl hK
end
end Go.Proofs.YthpbckignppaiaaGreatDoor.Len

namespace Go.Proofs.YthpbckignppaiaaGreatDoor.Len
def insI (x : Item) : List Item → List Item
  | [] => [x]
  | a :: l => if a.1 ≤ x.1 then a :: insI x l else x :: a :: l
def usedTo (often : List Nat) : Nat → List Item
  | 0 => []
  | j + 1 => if often.getD j 0 = 0 then usedTo often j else insI (often.getD j 0, [j]) (usedTo often j)
def symOf (x : Item) : Nat := x.2.headD 0
def Lex (a b : Item) : Prop := a.1 < b.1 ∨ a.1 = b.1 ∧ symOf a < symOf b
theorem insI_mem {x y : Item} : ∀ {l : List Item}, y ∈ insI x l ↔ y = x ∨ y ∈ l
  | [] => by simp [insI]
  | a :: l => by
    rw [insI]
    split
    · rw [List.mem_cons, insI_mem, List.mem_cons]
      constructor
      · rintro (h | h | h)
        · exact .inr (.inl h)
        · exact .inl h
        · exact .inr (.inr h)
      · rintro (h | h | h)
        · exact .inr (.inl h)
        · exact .inl h
        · exact .inr (.inr h)
    · rw [List.mem_cons]
theorem insI_lex {x : Item} : ∀ {l : List Item}, l.Pairwise Lex → (∀ y ∈ l, symOf y < symOf x) → (insI x l).Pairwise Lex
  | [], _, _ => by simp [insI]
  | a :: l, h, hx => by
    have h1 := List.pairwise_cons.1 h
    rw [insI]
    by_cases ha : a.1 ≤ x.1
    · rw [if_pos ha]
      refine List.pairwise_cons.2 ⟨fun y hy => ?_, insI_lex h1.2 fun y hy => hx y (List.mem_cons_of_mem _ hy)⟩
      rcases insI_mem.1 hy with rfl | hy
      · have := hx a List.mem_cons_self
        rcases Nat.lt_or_eq_of_le ha with h | h
        · exact .inl h
        · exact .inr ⟨h, this⟩
      · exact h1.1 y hy
    · rw [if_neg ha]
      refine List.pairwise_cons.2 ⟨fun y hy => ?_, h⟩
      rcases List.mem_cons.1 hy with rfl | hy
      · exact .inl (by omega)
      · rcases h1.1 y hy with h | ⟨h, _⟩
        · exact .inl (by omega)
        · exact .inl (by omega)
theorem insI_sum (F : Item → Nat) (x : Item) : ∀ l : List Item, ((insI x l).map F).sum = F x + (l.map F).sum
  | [] => by simp [insI]
  | a :: l => by
    rw [insI]
    split
    · rw [List.map_cons, List.sum_cons, insI_sum F x l, List.map_cons, List.sum_cons]
      omega
    · simp
section
variable {often : List Nat}
theorem used_each : ∀ {j : Nat} {x : Item}, x ∈ usedTo often j → ∃ q, q < j ∧ often.getD q 0 ≠ 0 ∧ x = (often.getD q 0, [q])
  | 0, x, h => by simp [usedTo] at h
  | j + 1, x, h => by
    rw [usedTo] at h
    by_cases h0 : often.getD j 0 = 0
    · rw [if_pos h0] at h
      obtain ⟨q, h1, h2⟩ := used_each h
      exact ⟨q, by omega, h2⟩
    · rw [if_neg h0] at h
      rcases insI_mem.1 h with e | h
      · exact ⟨j, by omega, h0, e⟩
      · obtain ⟨q, h1, h2⟩ := used_each h
        exact ⟨q, by omega, h2⟩
theorem used_all : ∀ {j q : Nat}, q < j → often.getD q 0 ≠ 0 → (often.getD q 0, [q]) ∈ usedTo often j
  | j + 1, q, h, hq => by
    rw [usedTo]
    by_cases e : q = j
    · subst e
      rw [if_neg hq]
      exact insI_mem.2 (.inl rfl)
    · have := used_all (j := j) (q := q) (by omega) hq
      split
      · exact this
      · exact insI_mem.2 (.inr this)
theorem used_lex : ∀ j : Nat, (usedTo often j).Pairwise Lex
  | 0 => by simp [usedTo]
  | j + 1 => by
    rw [usedTo]
    split
    · exact used_lex j
    · refine insI_lex (used_lex j) fun y hy => ?_
      obtain ⟨q, h1, _, rfl⟩ := used_each hy
      exact h1
theorem used_sum (F : Nat → Nat) : ∀ j : Nat, ((usedTo often j).map fun x => F (symOf x)).sum = sumN j fun q => if often.getD q 0 = 0 then 0 else F q
  | 0 => rfl
  | j + 1 => by
    rw [usedTo, sumN, ← used_sum F j]
    split
    · simp
    · rw [insI_sum fun x => F (symOf x)]
      simp [symOf]
      omega
theorem used_len : ∀ j : Nat, (usedTo often j).length = sumN j fun q => if often.getD q 0 = 0 then 0 else 1 := fun j => by
  have := used_sum (often := often) (fun _ => 1) j
  rw [← this]
  generalize usedTo often j = X
  induction X with
  | nil => rfl
  | cons a X ih => rw [List.length_cons, ih, List.map_cons, List.sum_cons]; omega
theorem used_le (j : Nat) : (usedTo often j).length ≤ j := by
  rw [used_len]
  have : sumN j (fun q => if often.getD q 0 = 0 then 0 else 1) ≤ sumN j fun _ => 1 := sumN_le fun i _ => by split <;> omega
  rw [sumN_const] at this
  omega
end
def wOf (X : List Item) (i : Nat) : Nat := (X.getD i (0, [])).1
def sOf (X : List Item) (i : Nat) : Nat := symOf (X.getD i (0, []))
theorem sum_at (F : Nat → Nat) : ∀ X : List Item, (X.map fun x => F (symOf x)).sum = sumN X.length fun i => F (sOf X i)
  | [] => rfl
  | a :: X => by
    rw [List.map_cons, List.sum_cons, sum_at F X, List.length_cons, sumN_shift]
    rfl
section
variable {often : List Nat} {j : Nat}
theorem getD_mem {X : List Item} {i : Nat} (h : i < X.length) : X.getD i (0, []) ∈ X := by
  rw [List.getD_eq_getElem?_getD, List.getElem?_eq_getElem h]
  exact List.getElem_mem h
theorem used_at {i : Nat} (h : i < (usedTo often j).length) : sOf (usedTo often j) i < j ∧ often.getD (sOf (usedTo often j) i) 0 ≠ 0 ∧ wOf (usedTo often j) i = often.getD (sOf (usedTo often j) i) 0 ∧ (usedTo often j).getD i (0, []) = (wOf (usedTo often j) i, [sOf (usedTo often j) i]) := by
  obtain ⟨q, h1, h2, e⟩ := used_each (getD_mem h)
  unfold wOf sOf
  rw [e]
  exact ⟨h1, h2, rfl, rfl⟩
theorem used_leaves : usedTo often j = leaves (usedTo often j).length (wOf (usedTo often j)) (sOf (usedTo often j)) := by
  apply List.ext_getElem
  · rw [leaves_len]
  · intro i h1 h2
    have := (used_at h1).2.2.2
    rw [List.getD_eq_getElem?_getD, List.getElem?_eq_getElem h1] at this
    simp only [leaves, List.getElem_map, List.getElem_range]
    exact this
theorem used_rise {a b : Nat} (hab : a < b) (hb : b < (usedTo often j).length) : Lex ((usedTo often j).getD a (0, [])) ((usedTo often j).getD b (0, [])) := by
  have := List.pairwise_iff_getElem.1 (used_lex (often := often) j) a b (by omega) hb hab
  rw [List.getD_eq_getElem?_getD, List.getD_eq_getElem?_getD, List.getElem?_eq_getElem (by omega), List.getElem?_eq_getElem hb]
  exact this
theorem used_w : ∀ a b, a ≤ b → b < (usedTo often j).length → wOf (usedTo often j) a ≤ wOf (usedTo often j) b := fun a b hab hb => by
  rcases Nat.lt_or_eq_of_le hab with h | h
  · rcases used_rise h hb with h | ⟨h, _⟩
    · exact Nat.le_of_lt h
    · exact Nat.le_of_eq h
  · rw [h]
    exact Nat.le_refl _
theorem used_s : ∀ a b, a < (usedTo often j).length → b < (usedTo often j).length → sOf (usedTo often j) a = sOf (usedTo often j) b → a = b := fun a b ha hb e => by
  have wa := (used_at ha).2.2.1
  have wb := (used_at hb).2.2.1
  rcases Nat.lt_trichotomy a b with h | h | h
  · rcases used_rise h hb with h | ⟨_, h⟩
    · rw [e, ← wb] at wa
      exact absurd h (by unfold wOf at wa; omega)
    · unfold sOf at e; omega
  · exact h
  · rcases used_rise h ha with h | ⟨_, h⟩
    · rw [e, ← wb] at wa
      exact absurd h (by unfold wOf at wa; omega)
    · unfold sOf at e; omega
theorem used_place {q : Nat} (hq : q < j) (h0 : often.getD q 0 ≠ 0) : ∃ i, i < (usedTo often j).length ∧ sOf (usedTo often j) i = q := by
  obtain ⟨i, hi, e⟩ := List.mem_iff_getElem.1 (used_all hq h0)
  refine ⟨i, hi, ?_⟩
  unfold sOf
  rw [List.getD_eq_getElem?_getD, List.getElem?_eq_getElem hi]
  show symOf ((usedTo often j)[i]) = q
  rw [e]
  rfl
theorem sum_used (F : Nat → Nat) : (sumN j fun q => if often.getD q 0 = 0 then 0 else F q) = sumN (usedTo often j).length fun i => F (sOf (usedTo often j) i) := by
  rw [← used_sum, sum_at]
end
def lenN (often : List Nat) (L q : Nat) : Nat :=
  if (usedTo often often.length).length < 2 then (syms (usedTo often often.length)).count q
  else (syms ((row (usedTo often often.length) (L - 1)).take (2 * (usedTo often often.length).length - 2))).count q
section
variable {often : List Nat} {L : Nat}
theorem used_fine (h2 : 2 ≤ (usedTo often often.length).length) (hL : 1 ≤ L) (hn : (usedTo often often.length).length ≤ 2 ^ L) :
    Fine (usedTo often often.length).length (L - 1) (wOf (usedTo often often.length)) (sOf (usedTo often often.length)) :=
  fine h2 (by rw [show L - 1 + 1 = L by omega]; exact hn) used_w (by
    obtain ⟨_, h, e, _⟩ := used_at (often := often) (j := often.length) (i := 0) (by omega)
    omega) used_s
theorem lenN_at (h2 : 2 ≤ (usedTo often often.length).length) (i : Nat) :
    lenN often L (sOf (usedTo often often.length) i) = says (usedTo often often.length).length (wOf (usedTo often often.length)) (sOf (usedTo often often.length)) (L - 1) i := by
  unfold lenN says
  rw [if_neg (by omega), ← used_leaves]
theorem lenN_one (h1 : (usedTo often often.length).length = 1) (q : Nat) : lenN often L q = if q = sOf (usedTo often often.length) 0 then 1 else 0 := by
  have hS : syms (usedTo often often.length) = [sOf (usedTo often often.length) 0] := by
    have := congrArg syms (used_leaves (often := often) (j := often.length))
    rw [h1] at this
    exact this
  unfold lenN
  rw [if_pos (by omega), hS]
  rw [List.count_singleton]
  by_cases e : q = sOf (usedTo often often.length) 0
  · rw [if_pos e, e]; simp
  · have hb : (sOf (usedTo often often.length) 0 == q) = false := beq_eq_false_iff_ne.2 fun h => e h.symm
    rw [if_neg e, hb]
    rfl
theorem lenN_used {q : Nat} (hq : q < often.length) (h0 : often.getD q 0 ≠ 0) (hL : 1 ≤ L) (hn : (usedTo often often.length).length ≤ 2 ^ L) : 1 ≤ lenN often L q ∧ lenN often L q ≤ L := by
  obtain ⟨i, hi, rfl⟩ := used_place hq h0
  by_cases h2 : 2 ≤ (usedTo often often.length).length
  · have F := used_fine h2 hL hn
    rw [lenN_at h2]
    have := F.pos i hi
    have := F.top i hi
    omega
  · have h1 : (usedTo often often.length).length = 1 := by omega
    rw [lenN_one h1]
    obtain rfl : i = 0 := by omega
    rw [if_pos rfl]
    omega
theorem lenN_free {q : Nat} (h0 : often.getD q 0 = 0) (hL : 1 ≤ L) (hn : (usedTo often often.length).length ≤ 2 ^ L) : lenN often L q = 0 := by
  have hne : ∀ i, i < (usedTo often often.length).length → sOf (usedTo often often.length) i ≠ q := fun i hi e => (used_at hi).2.1 (by rw [e]; exact h0)
  by_cases h2 : 2 ≤ (usedTo often often.length).length
  · have := (used_fine h2 hL hn).none q hne
    rw [← used_leaves] at this
    unfold lenN
    rw [if_neg (by omega)]
    exact this
  · unfold lenN
    rw [if_pos (by omega), used_leaves]
    exact leaves_other hne
theorem lenN_full (hL : 1 ≤ L) (hL15 : L ≤ 15) (hn : (usedTo often often.length).length ≤ 2 ^ L) :
    (sumN often.length fun q => if often.getD q 0 = 0 then 0 else 2 ^ (15 - lenN often L q)) = if 2 ≤ (usedTo often often.length).length then 32768 else if (usedTo often often.length).length = 1 then 16384 else 0 := by
  rw [sum_used fun q => 2 ^ (15 - lenN often L q)]
  by_cases h2 : 2 ≤ (usedTo often often.length).length
  · rw [if_pos h2]
    have F := used_fine h2 hL hn
    have := F.full
    rw [show L - 1 + 1 = L by omega] at this
    rw [sumN_congr (g := fun i => 2 ^ (15 - L) * 2 ^ (L - says (usedTo often often.length).length (wOf (usedTo often often.length)) (sOf (usedTo often often.length)) (L - 1) i)) (fun i hi => by
      have := F.top i hi
      rw [lenN_at h2, ← Nat.pow_add]
      congr 1
      omega), sumN_mul, this, ← Nat.pow_add, show 15 - L + L = 15 by omega]
  · rw [if_neg h2]
    by_cases h1 : (usedTo often often.length).length = 1
    · rw [if_pos h1, h1]
      simp only [sumN]
      rw [lenN_one h1, if_pos rfl]
    · rw [if_neg h1, show (usedTo often often.length).length = 0 by omega]
      rfl
end
def lensL (often : List Nat) (L : Nat) : List UInt8 := (List.range often.length).map fun q => UInt8.ofNat (lenN often L q)
def lensE (often : List Nat) (limit : Int) : List UInt8 × Int :=
  if 300 < often.length ∨ limit < 1 ∨ 15 < limit then ([], 13)
  else if 2 ^ limit.toNat < (usedTo often often.length).length then ([], 6)
  else (lensL often limit.toNat, 0)
def kraftOf (l : List UInt8) (n : Nat) : Nat := sumN n fun i => if (l.getD i 0).toNat = 0 then 0 else 2 ^ (15 - (l.getD i 0).toNat)
def kraftE (l : List UInt8) : Nat × Int := if l.length ≤ 300 ∧ ∀ i, i < l.length → (l.getD i 0).toNat ≤ 15 then (kraftOf l l.length, 0) else (0, 13)
section
variable {often : List Nat} {L : Nat}
theorem lensL_len : (lensL often L).length = often.length := by simp [lensL]
theorem lenN_small {q : Nat} (hq : q < often.length) (hL : 1 ≤ L) (hL15 : L ≤ 15) (hn : (usedTo often often.length).length ≤ 2 ^ L) : lenN often L q ≤ L := by
  by_cases h0 : often.getD q 0 = 0
  · rw [lenN_free h0 hL hn]
    omega
  · exact (lenN_used hq h0 hL hn).2
theorem lensL_at {q : Nat} (hq : q < often.length) (hL : 1 ≤ L) (hL15 : L ≤ 15) (hn : (usedTo often often.length).length ≤ 2 ^ L) : ((lensL often L).getD q 0).toNat = lenN often L q := by
  have := lenN_small hq hL hL15 hn
  have e : (lensL often L).getD q 0 = UInt8.ofNat (lenN often L q) := by simp [lensL, List.getD_eq_getElem?_getD, hq]
  rw [e, UInt8.toNat_ofNat', Nat.mod_eq_of_lt (by omega)]
end
end Go.Proofs.YthpbckignppaiaaGreatDoor.Len

namespace Go.Proofs.YthpbckignppaiaaGreatDoor.Can
open Len
def lenAt (l : List UInt8) (i : Nat) : Nat := (l.getD i 0).toNat
def usedC (l : List UInt8) (n : Nat) : Nat := sumN n fun i => if lenAt l i = 0 then 0 else 1
def oneC (l : List UInt8) (n : Nat) : Nat := sumN n fun i => if lenAt l i = 1 then 1 else 0
def right (l : List UInt8) : Bool := decide ((kraftE l).2 = 0 ∧ (usedC l l.length = 0 ∨ usedC l l.length = 1 ∧ oneC l l.length = 1 ∨ (kraftE l).1 = 32768))
def checkE (l : List UInt8) : Int := if right l then 0 else 7
theorem check_right {l : List UInt8} (h : right l = true) : checkE l = 0 := by unfold checkE; rw [if_pos h]
theorem check_wrong {l : List UInt8} (h : right l = false) : checkE l = 7 := by unfold checkE; rw [h]; rfl
theorem sumN_pt (s c : Nat) : ∀ n, (sumN n fun t => if t = s then c else 0) = if s < n then c else 0
  | 0 => rfl
  | n + 1 => by
    rw [sumN, sumN_pt s c n]
    by_cases h : s < n
    · rw [if_pos h, if_neg (by omega), if_pos (by omega)]
      omega
    · by_cases e : n = s
      · rw [if_neg h, if_pos e, if_pos (by omega)]
        omega
      · rw [if_neg h, if_neg e, if_neg (by omega)]
def ahead (l : List UInt8) (k s t : Nat) : Nat := if lenAt l t ≠ 0 ∧ (lenAt l t < k ∨ lenAt l t = k ∧ t < s) then 2 ^ (15 - lenAt l t) else 0
def acc (l : List UInt8) (k s : Nat) : Nat := sumN l.length (ahead l k s)
theorem acc_start (l : List UInt8) : acc l 1 0 = 0 := sumN_zero _ fun i _ => by
  unfold ahead
  rw [if_neg]
  omega
theorem acc_turn (l : List UInt8) (k : Nat) : acc l (k + 1) 0 = acc l k l.length := sumN_congr fun i hi => by
  unfold ahead
  by_cases h : lenAt l i ≠ 0 ∧ (lenAt l i < k ∨ lenAt l i = k ∧ i < l.length)
  · rw [if_pos h, if_pos ⟨h.1, by omega⟩]
  · rw [if_neg h, if_neg (by omega)]
theorem acc_step (l : List UInt8) {k s : Nat} (hk : 1 ≤ k) (hs : s < l.length) : acc l k (s + 1) = acc l k s + if lenAt l s = k then 2 ^ (15 - k) else 0 := by
  have h1 : (if lenAt l s = k then 2 ^ (15 - k) else 0) = sumN l.length fun t => if t = s then (if lenAt l s = k then 2 ^ (15 - k) else 0) else 0 := by rw [sumN_pt, if_pos hs]
  rw [h1]
  unfold acc
  rw [← sumN_add]
  refine sumN_congr fun i hi => ?_
  unfold ahead
  by_cases e : i = s
  · subst e
    rw [if_pos rfl]
    by_cases hl : lenAt l i = k
    · rw [if_pos hl, if_pos ⟨by omega, by omega⟩, if_neg (by omega), hl]
      omega
    · rw [if_neg hl]
      by_cases h : lenAt l i ≠ 0 ∧ (lenAt l i < k ∨ lenAt l i = k ∧ i < i)
      · rw [if_pos h, if_pos ⟨h.1, by omega⟩]
        rfl
      · rw [if_neg h, if_neg (by omega)]
  · rw [if_neg e]
    by_cases h : lenAt l i ≠ 0 ∧ (lenAt l i < k ∨ lenAt l i = k ∧ i < s)
    · rw [if_pos h, if_pos ⟨h.1, by omega⟩]
      rfl
    · rw [if_neg h, if_neg (by omega)]
theorem acc_le (l : List UInt8) (k s : Nat) : acc l k s ≤ kraftOf l l.length := sumN_le fun i _ => by
  unfold ahead lenAt
  split
  · rename_i h
    rw [if_neg h.1]
    exact Nat.le_refl _
  · omega
def word (l : List UInt8) (s : Nat) : Nat := if lenAt l s = 0 then 0 else acc l (lenAt l s) s / 2 ^ (15 - lenAt l s)
def codesL (l : List UInt8) : List Nat := (List.range l.length).map (word l)
def codesE (l : List UInt8) : List Nat × Int := if right l then (codesL l, 0) else ([], 7)
theorem kraft_ok {l : List UInt8} (h : (kraftE l).2 = 0) : l.length ≤ 300 ∧ (∀ i, i < l.length → lenAt l i ≤ 15) ∧ (kraftE l).1 = kraftOf l l.length := by
  unfold kraftE at *
  split at h
  · rename_i h2
    rw [if_pos h2]
    exact ⟨h2.1, h2.2, rfl⟩
  · simp at h
theorem used_kraft {l : List UInt8} : ∀ n, n ≤ l.length → kraftOf l n ≤ 16384 * usedC l n
  | 0, _ => by simp [kraftOf, usedC, sumN]
  | n + 1, h => by
    have := used_kraft (l := l) n (by omega)
    unfold kraftOf usedC at *
    rw [sumN, sumN]
    unfold lenAt at *
    by_cases h0 : (l.getD n 0).toNat = 0
    · rw [if_pos h0, if_pos h0]
      omega
    · rw [if_neg h0, if_neg h0]
      have : 2 ^ (15 - (l.getD n 0).toNat) ≤ 2 ^ 14 := Nat.pow_le_pow_right (by omega) (by omega)
      omega
theorem right_facts {l : List UInt8} (h : right l = true) : l.length ≤ 300 ∧ (∀ i, i < l.length → lenAt l i ≤ 15) ∧ kraftOf l l.length ≤ 32768 := by
  have h1 := of_decide_eq_true h
  obtain ⟨k1, k2, k3⟩ := kraft_ok h1.1
  refine ⟨k1, k2, ?_⟩
  have hu := used_kraft (l := l) l.length (Nat.le_refl _)
  rcases h1.2 with h2 | h2 | h2
  · rw [h2] at hu; omega
  · rw [h2.1] at hu; omega
  · omega
section
variable {l : List UInt8}
theorem sumN_dvd {n c : Nat} {f : Nat → Nat} (h : ∀ i, i < n → c ∣ f i) : c ∣ sumN n f := by
  induction n with
  | zero => exact ⟨0, by simp [sumN]⟩
  | succ n ih =>
    rw [sumN]
    exact Nat.dvd_add (ih fun i hi => h i (by omega)) (h n (by omega))
theorem acc_dvd (k s : Nat) : 2 ^ (15 - k) ∣ acc l k s := sumN_dvd fun i _ => by
  unfold ahead
  split
  · exact Nat.pow_dvd_pow 2 (by omega)
  · exact ⟨0, by simp⟩
theorem word_mul {s : Nat} (h0 : lenAt l s ≠ 0) : word l s * 2 ^ (15 - lenAt l s) = acc l (lenAt l s) s := by
  unfold word
  rw [if_neg h0]
  exact Nat.div_mul_cancel (acc_dvd _ _)
theorem word_lt (hr : right l = true) {s : Nat} (hs : s < l.length) : word l s < 2 ^ 15 := by
  by_cases h0 : lenAt l s = 0
  · unfold word
    rw [if_pos h0]
    decide
  · obtain ⟨_, h15, hk⟩ := right_facts hr
    have h1 := acc_le l (lenAt l s) (s + 1)
    rw [acc_step l (by omega) hs, if_pos rfl, ← word_mul h0] at h1
    have h2 : 0 < 2 ^ (15 - lenAt l s) := Nat.pow_pos (by omega)
    have h3 : word l s * 1 ≤ word l s * 2 ^ (15 - lenAt l s) := Nat.mul_le_mul_left _ h2
    omega
end
end Go.Proofs.YthpbckignppaiaaGreatDoor.Can

namespace Go.Proofs.YthpbckignppaiaaGreatDoor
open Go.RowKit
namespace Bit
def at_ (l : List UInt8) (i : Nat) : Bool := (l.getD (i / 8) 0).toNat.testBit (7 - i % 8)
def val (f : Nat → Bool) : Nat → Nat
  | 0 => 0
  | n + 1 => 2 * val f n + (f n).toNat
def num (x n : Nat) : List Bool := (List.range n).map fun i => x.testBit (n - 1 - i)
theorem val_lt (f : Nat → Bool) : ∀ n, val f n < 2 ^ n
  | 0 => by simp [val]
  | n + 1 => by
    have := val_lt f n
    have hb : (f n).toNat ≤ 1 := by cases f n <;> simp
    rw [val, Nat.pow_succ]
    omega
theorem testBit_toNat (x i : Nat) : (x.testBit i).toNat = x / 2 ^ i % 2 := by
  rw [Nat.testBit_eq_decide_div_mod_eq]
  have : x / 2 ^ i % 2 < 2 := Nat.mod_lt _ (by omega)
  rcases (by omega : x / 2 ^ i % 2 = 0 ∨ x / 2 ^ i % 2 = 1) with h | h <;> simp [h]
theorem num_length (x n : Nat) : (num x n).length = n := by simp [num]
theorem num_getD (x n i : Nat) (h : i < n) : (num x n).getD i false = x.testBit (n - 1 - i) := by simp [num, List.getD_eq_getElem?_getD, h]
theorem testBit_high {x n i : Nat} (h : x < 2 ^ n) (hi : n ≤ i) : x.testBit i = false := Nat.testBit_lt_two_pow (Nat.lt_of_lt_of_le h (Nat.pow_le_pow_right (by omega) hi))
def Packs (l : List UInt8) (B : List Bool) : Prop := l.length = (B.length + 7) / 8 ∧ ∀ i, i < 8 * l.length → at_ l i = B.getD i false
theorem u8_ext {a b : UInt8} (h : ∀ j, j < 8 → a.toNat.testBit j = b.toNat.testBit j) : a = b := by
  apply UInt8.toNat_inj.1
  apply Nat.eq_of_testBit_eq
  intro j
  by_cases hj : j < 8
  · exact h j hj
  · rw [testBit_high (n := 8) a.toNat_lt (by omega), testBit_high (n := 8) b.toNat_lt (by omega)]
theorem getD_ext {a b : List UInt8} (h : a.length = b.length) (hx : ∀ i, i < a.length → a.getD i 0 = b.getD i 0) : a = b := by
  apply List.ext_getElem h
  intro i h1 h2
  have := hx i h1
  simpa [List.getD_eq_getElem?_getD, h1, h2] using this
theorem Packs.uniq {a b : List UInt8} {B : List Bool} (ha : Packs a B) (hb : Packs b B) : a = b := by
  have hl : a.length = b.length := ha.1.trans hb.1.symm
  refine getD_ext hl fun i hi => u8_ext fun j hj => ?_
  have h1 := ha.2 (8 * i + (7 - j)) (by omega)
  have h2 := hb.2 (8 * i + (7 - j)) (by omega)
  unfold at_ at h1 h2
  rw [show (8 * i + (7 - j)) / 8 = i by omega, show 7 - (8 * i + (7 - j)) % 8 = j by omega] at h1 h2
  rw [h1, h2]
theorem Packs.nil : Packs [] [] := ⟨by simp, fun i hi => by simp at hi⟩
theorem at_zeros (l : List UInt8) (k i : Nat) : at_ (l ++ List.replicate k 0) i = (if i < 8 * l.length then at_ l i else false) := by
  unfold at_
  by_cases h : i < 8 * l.length
  · have h1 : i / 8 < l.length := by omega
    rw [if_pos h, List.getD_eq_getElem?_getD, List.getElem?_append_left h1, List.getD_eq_getElem?_getD]
  · have h1 : l.length ≤ i / 8 := by omega
    rw [if_neg h, List.getD_eq_getElem?_getD, List.getElem?_append_right h1, List.getElem?_replicate]
    split <;> simp
theorem getD_app_right (B C : List Bool) (i : Nat) (h : B.length ≤ i) : (B ++ C).getD i false = C.getD (i - B.length) false := by
  simp only [List.getD_eq_getElem?_getD]
  rw [List.getElem?_append_right h]
theorem getD_app_left (B C : List Bool) (i : Nat) (h : i < B.length) : (B ++ C).getD i false = B.getD i false := by
  simp only [List.getD_eq_getElem?_getD]
  rw [List.getElem?_append_left h]
theorem getD_far (B : List Bool) (i : Nat) (h : B.length ≤ i) : B.getD i false = false := by
  simp only [List.getD_eq_getElem?_getD]
  rw [List.getElem?_eq_none h]; rfl
theorem getD_falses (B : List Bool) (n i : Nat) : (B ++ List.replicate n false).getD i false = B.getD i false := by
  by_cases h : i < B.length
  · exact getD_app_left _ _ _ h
  · rw [getD_app_right _ _ _ (by omega), getD_far B i (by omega), List.getD_eq_getElem?_getD, List.getElem?_replicate]
    split <;> rfl
theorem Packs.widen {l : List UInt8} {B : List Bool} (h : Packs l B) (n : Nat) : Packs (l ++ List.replicate ((B.length + n + 7) / 8 - l.length) 0) (B ++ List.replicate n false) := by
  have h1 := h.1
  refine ⟨by simp; omega, fun i hi => ?_⟩
  rw [at_zeros, getD_falses]
  by_cases hx : i < 8 * l.length
  · rw [if_pos hx]; exact h.2 i hx
  · rw [if_neg hx, getD_far B i (by omega)]
def Adds (B : List Bool) (x n : Nat) (l : List UInt8) (p : Nat) : Prop :=
  l.length = (B.length + n + 7) / 8 ∧ B.length ≤ p ∧ p ≤ B.length + n ∧ (p = B.length ∨ p % 8 = 0 ∨ p = B.length + n) ∧
  ∀ i, i < 8 * l.length → at_ l i = (if i < B.length then B.getD i false else (decide (i < p) && x.testBit (B.length + n - 1 - i)))
theorem Adds.start {l : List UInt8} {B : List Bool} (h : Packs l B) (x n : Nat) : Adds B x n (l ++ List.replicate ((B.length + n + 7) / 8 - l.length) 0) B.length := by
  have h2 := h.widen n
  have h1 := h.1
  refine ⟨by simp; omega, Nat.le_refl _, by omega, .inl rfl, fun i hi => ?_⟩
  rw [h2.2 i hi, getD_falses]
  by_cases hx : i < B.length
  · rw [if_pos hx]
  · rw [if_neg hx, getD_far B i (by omega), decide_eq_false hx]; rfl
theorem Adds.done {l : List UInt8} {B : List Bool} {x n : Nat} (h : Adds B x n l (B.length + n)) : Packs l (B ++ num x n) := by
  refine ⟨by rw [h.1, List.length_append, num_length], fun i hi => ?_⟩
  rw [h.2.2.2.2 i hi]
  by_cases h1 : i < B.length
  · rw [if_pos h1, getD_app_left _ _ _ h1]
  · rw [if_neg h1, getD_app_right _ _ _ (by omega)]
    by_cases h2 : i < B.length + n
    · rw [decide_eq_true h2, Bool.true_and, num_getD _ _ _ (by omega)]
      congr 1
      omega
    · rw [decide_eq_false h2, getD_far _ _ (by rw [num_length]; omega)]; rfl
theorem at_set (l : List UInt8) (j i : Nat) (c : UInt8) (hj : j < l.length) : at_ (l.set j c) i = (if i / 8 = j then c.toNat.testBit (7 - i % 8) else at_ l i) := by
  unfold at_
  simp only [List.getD_eq_getElem?_getD, List.getElem?_set]
  by_cases h : i / 8 = j
  · rw [if_pos h, if_pos h.symm, if_pos hj]; rfl
  · rw [if_neg h, if_neg (fun e => h e.symm)]
def mix (c : UInt8) (x s t : Nat) : UInt8 := c ||| UInt8.ofNat ((x >>> s) % 256 * 2 ^ t)
theorem mix_bit (c : UInt8) (x s t j : Nat) (hj : j < 8) : (mix c x s t).toNat.testBit j = (c.toNat.testBit j || (decide (t ≤ j) && x.testBit (s + (j - t)))) := by
  unfold mix
  rw [UInt8.toNat_or, Nat.testBit_or, UInt8.toNat_ofNat', Nat.testBit_mod_two_pow, decide_eq_true hj, Bool.true_and, Nat.testBit_mul_two_pow]
  by_cases h : t ≤ j
  · rw [decide_eq_true h, Bool.true_and, Bool.true_and, show (256 : Nat) = 2 ^ 8 from rfl, Nat.testBit_mod_two_pow, decide_eq_true (show j - t < 8 by omega), Bool.true_and, Nat.testBit_shiftRight]
  · rw [decide_eq_false h]
    simp
theorem Adds.step {l : List UInt8} {B : List Bool} {x n p k : Nat} (h : Adds B x n l p) (hx : x < 2 ^ n) (hk : k = min (B.length + n - p) (8 - p % 8)) (hp : p < B.length + n) :
    Adds B x n (l.set (p / 8) (mix (l.getD (p / 8) 0) x (B.length + n - p - k) (8 - p % 8 - k))) (p + k) := by
  obtain ⟨h1, h2, h3, h4, h5⟩ := h
  have hj : p / 8 < l.length := by omega
  refine ⟨by rw [List.length_set]; exact h1, by omega, by omega, by omega, fun i hi => ?_⟩
  rw [List.length_set] at hi
  have h5i := h5 i hi
  rw [at_set _ _ _ _ hj]
  by_cases hb : i / 8 = p / 8
  · rw [if_pos hb, mix_bit _ _ _ _ _ (by omega)]
    have hat : (l.getD (p / 8) 0).toNat.testBit (7 - i % 8) = at_ l i := by unfold at_; rw [hb]
    rw [hat, h5i]
    by_cases hi1 : i < B.length
    · rw [if_pos hi1, if_pos hi1]
      by_cases ht : 8 - p % 8 - k ≤ 7 - i % 8
      · rw [testBit_high hx (by omega)]; simp
      · simp [ht]
    · rw [if_neg hi1, if_neg hi1]
      by_cases hip : i < p
      · rw [decide_eq_true hip, decide_eq_true (show i < p + k by omega)]
        omega
      · rw [decide_eq_false hip, Bool.false_and, Bool.false_or]
        by_cases hik : i < p + k
        · rw [decide_eq_true hik, decide_eq_true (show 8 - p % 8 - k ≤ 7 - i % 8 by omega)]
          congr 2
          omega
        · rw [decide_eq_false hik, decide_eq_false (show ¬ 8 - p % 8 - k ≤ 7 - i % 8 by omega)]
          rfl
  · rw [if_neg hb, h5i]
    by_cases hi1 : i < B.length
    · rw [if_pos hi1, if_pos hi1]
    · rw [if_neg hi1, if_neg hi1]
      by_cases hip : i < p
      · rw [decide_eq_true hip, decide_eq_true (show i < p + k by omega)]
      · rw [decide_eq_false hip, decide_eq_false (show ¬ i < p + k by omega)]
end Bit
end Go.Proofs.YthpbckignppaiaaGreatDoor

namespace Go.Proofs.YthpbckignppaiaaGreatDoor
open Go.RowKit
def WRowX (t : TypeId) (R : List Value) (w : World) (base g : Nat) (v : Value) (l : List UInt8) (n : Nat) : Prop :=
  Whole w g t (v :: .int .i64 n :: R).toArray ∧ OwnB w base v l ∧ v.ownBlock ≠ some g ∧ base ≤ g
theorem row_at0 (a b : Value) (R : List Value) : (a :: b :: R).toArray[0]? = some a := by simp
theorem row_at1 (a b : Value) (R : List Value) : (a :: b :: R).toArray[1]? = some b := by simp
theorem row_lt1 (a b : Value) (R : List Value) : 1 < (a :: b :: R).toArray.size := by
  rw [List.size_toArray, List.length_cons, List.length_cons]
  omega
theorem row_set1 (a b u : Value) (R : List Value) : (a :: b :: R).toArray.setIfInBounds 1 u = (a :: u :: R).toArray := by simp
theorem Whole.set0 {w : World} {g : Nat} {t : TypeId} {a : Value} {R : List Value} (h : Whole w g t (a :: R).toArray) (u : Value) : Whole (w.setCell ⟨g, 0, none⟩ u) g t (u :: R).toArray := by
  have := h.set 0 u
  simpa using this
theorem WRowX.bound {t : TypeId} {R : List Value} {w : World} {base g n : Nat} {v : Value} {l : List UInt8} (h : WRowX t R w base g v l n) : base ≤ w.heap.size := Nat.le_trans h.2.2.2 (Nat.le_of_lt h.1.lt)
def WTurned (t : TypeId) (R : List Value) (w : World) (base g : Nat) (v : Value) (l : List UInt8) (n : Nat) (w' : World) : Prop := ∃ v', WRowX t R w' base g v' l n ∧ NewOb w v.ownBlock v'.ownBlock ∧ Mod w w' g v.ownBlock
theorem wrapI64 (x : Int) (h0 : 0 ≤ x) (h1 : x ≤ 9223372036854775807) : IntKind.i64.wrap x = x := by rw [IntKind.wrap_i64]; omega
set_option maxHeartbeats 1000000 in
theorem widen_any {t : TypeId} {R : List Value} {w : World} {base g S : Nat} {v : Value} {l : List UInt8} (n : Nat) (h : WRowX t R w base g v l S) (hn : S + n ≤ 1000000000) (hl : l.length ≤ (S + n + 7) / 8) :
    Calls Tryz.prog 81 #[.pointer (some ⟨g, 0, none⟩), .int .i64 n] w fun e w' => e = .returned (.tuple #[]) ∧ WTurned t R w base g v (l ++ List.replicate ((S + n + 7) / 8 - l.length) 0) (S + n) w' := by
  obtain ⟨hW, hO, hne, hb⟩ := h
  have c1 : w.cell? ⟨g, 1, none⟩ = some (.int .i64 S) := hW.at 1 (row_at1 ..)
  obtain ⟨k, hk⟩ : ∃ k, k = (S + n + 7) / 8 - l.length := ⟨_, rfl⟩
  have hd : IntKind.i64.wrap (((S : Int) + n + 8 - 1) / 8 - l.length) = (k : Int) := by rw [wrapI64 _ (by omega) (by omega)]; omega
  rw [← hk]
  obtain ⟨A, c, rfl, _, _, _⟩ := hO.form
  have hfit : l.length + k ≤ 140737488355328 := by omega
  clear hk
  go_enter Tryz.func81, Tryz.ntmps81
  go_wp2_with (refine wpList_storeC rfl 3 (.tmp 12) (.tmp 10) rfl (.slice A l.length c :: .int .i64 ((S : Int) + n) :: R).toArray rfl rfl hW (row_lt1 ..) (by kernel_rfl) rfl rfl (row_set1 ..) ?_; intro w1 hW1 hG1; have d0 : w1.cell? ⟨g, 0, none⟩ = some (.slice A l.length c) := hW1.at 0 (row_at0 ..); have d1 : w1.cell? ⟨g, 1, none⟩ = some (.int .i64 ((S : Int) + n)) := hW1.at 1 (row_at1 ..); have f0 := hW1.frozen 0; clear c1)
  have hO1 : OwnB w1.drew base (.slice A l.length c) l := ((Mod.ofRow (ob := none) hG1).own hO hne (by simp [Classical.em])).ext (Ext.refl _).drew
  have hB1 := Nat.le_trans (Nat.le_trans hb (Nat.le_of_lt hW.lt)) hG1.size
  have hW1' : Whole w1.drew g t (.slice A l.length c :: .int .i64 ((S : Int) + n) :: R).toArray := hW1
  go_region_law (refine step_zerosAt rfl (.tmp 24) (.tmp 31) rfl rfl hO1 k rfl hfit hB1 ?_; intro v2 w2 hO2 hG2' hN2'; have hG2 : w1.drew.grownBy w2 (Value.slice A l.length c).ownBlock := hG2'; have hN2 : NewOb w1 (Value.slice A l.length c).ownBlock v2.ownBlock := hN2'; clear hG2' hN2'; have hW2 := hW1'.ownGrown hG2 hne; obtain ⟨A2, c2, hv2, _, _, _⟩ := hO2.form; simp only [List.length_append, List.length_replicate] at hv2; subst hv2; have e0 := hW2.at 0 (row_at0 ..); have f2 := hW2.frozen 0)
  all_goals (
    go_end0
    refine ⟨rfl, _, ⟨hW2.set0 _, hO2.far (hN2.ne (g := g) hW1.lt hne) 0 _, hN2.ne (g := g) hW1.lt hne, hb⟩, ?_, ?_⟩
    · exact (NewOb.same w _).trans hG1.size hN2
    · exact ((Mod.ofRow (ob := (Value.slice A l.length c).ownBlock) hG1).trans ((Mod.ofExt (Ext.refl w1).drew).trans (Mod.ofOwn hG2) (.inl rfl)) (.inl rfl)).trans (Mod.ofRow (ob := (Value.slice A l.length c).ownBlock) (grown_setCell w2 g 0 _)) (.inl rfl))
theorem or_byte (c : UInt8) (x s t : Nat) : bits .or .u8 (c.toNat : Int) ((x : Int) / 2 ^ s % 256 * 2 ^ t % 256) = ((Bit.mix c x s t).toNat : Int) := by
  have e : ((x : Int) / 2 ^ s % 256 * 2 ^ t % 256) = (((x >>> s) % 256 * 2 ^ t % 256 : Nat) : Int) := by
    simp only [Nat.shiftRight_eq_div_pow, Int.natCast_emod, Int.natCast_mul, Int.natCast_ediv, Int.natCast_pow]
    rfl
  have hc := c.toNat_lt
  rw [e, u8_or_nat _ _ hc (Nat.mod_lt _ (by decide))]
  unfold Bit.mix
  rw [UInt8.toNat_or, UInt8.toNat_ofNat']
set_option maxHeartbeats 1000000 in
theorem add_any {t : TypeId} {R : List Value} {w : World} {base g S : Nat} {v : Value} {l : List UInt8} {B : List Bool} (x n : Nat) (h : WRowX t R w base g v l S) (hP : Bit.Packs l B) (hS : B.length = S) (hx : x < 2 ^ n) (hn : n ≤ 64) (hfit : S ≤ 900000000) :
    Calls Tryz.prog 65 #[.pointer (some ⟨g, 0, none⟩), .int .u64 x, .int .i64 n] w fun e w' => e = .returned (.tuple #[]) ∧ ∃ l', Bit.Packs l' (B ++ Bit.num x n) ∧ WTurned t R w base g v l' (S + n) w' := by
  have hW := h.1
  have c1 : w.cell? ⟨g, 1, none⟩ = some (.int .i64 S) := hW.at 1 (row_at1 ..)
  have C1 := widen_any n h (by omega) (by have := hP.1; omega)
  have hA0 := Bit.Adds.start hP x n
  rw [hS] at hA0
  go_enter Tryz.func65, Tryz.ntmps65
  go_wp2_with (go_at_call 81; refine C1.mono ?_; rintro e w1 ⟨rfl, hT1⟩)
  go_loopw [2, 6] (fun m p wr => ∃ (q : Nat) (l1 : List UInt8), m = .int .i64 ((S + n - q : Nat) : Int) ∧ p = .int .i64 q ∧ q ≤ S + n ∧ Bit.Adds B x n l1 q ∧ WTurned t R w base g v l1 (S + n) wr) (fun m _ _ => (intOf m).toNat)
  case atStart => exact ⟨S, _, by simp, rfl, by omega, hA0, hT1⟩
  case round =>
    obtain ⟨q, l1, rfl, rfl, hq, hA, hT⟩ := hrel
    by_cases hlt : q < S + n
    · obtain ⟨v1, ⟨hW1, hO1, hne1, hb1⟩, hN1, hM1⟩ := hT
      have hl1 := hA.1
      obtain ⟨gb, cb, rfl, hgb, hcb⟩ := hO1.formG (by omega)
      have hcell := hO1.cell (i := q / 8) (by omega)
      obtain ⟨hc, hf⟩ := hcell
      have d0 : wr.cell? ⟨g, 0, none⟩ = some (.slice (some ⟨gb, 0, none⟩) l1.length cb) := hW1.at 0 (row_at0 ..)
      obtain ⟨m, hm⟩ : ∃ m, m = S + n - q := ⟨_, rfl⟩
      obtain ⟨k, hk⟩ : ∃ k, k = min m (8 - q % 8) := ⟨_, rfl⟩
      have hmin : (if (8 - (q : Int) % 8) < (m : Int) then (8 - (q : Int) % 8) else (m : Int)) = (k : Int) := by split <;> omega
      rw [← hm]
      have hm64 : m ≤ 64 := by have := hA.2.1; omega
      have hm0 : 0 < m := by omega
      have hkm : k ≤ m := by omega
      have hk8 : k ≤ 8 := by omega
      have hqL : (q : Int) / 8 < (l1.length : Int) := by omega
      have Hm := hide hm
      have Hk := hide hk
      clear hm hk
      go_wp2_with (refine wpList_min rfl (.tmp 21) (.tmp 22) rfl rfl rfl hmin ?_)
      have hor := or_byte (l1.getD (q / 8) 0) x (m - k) (8 - q % 8 - k)
      have HB := hide (hA.step hx (k := k) (by rw [hS, ← Hm.out]; exact Hk.out) (by omega))
      rw [hS, show S + n - q - k = m - k by rw [← Hm.out]] at HB
      generalize Bit.mix (l1.getD (q / 8) 0) x (m - k) (8 - q % 8 - k) = y at *
      simp only [List.getD_eq_getElem?_getD] at hor
      have HL := hide hl1
      clear hl1
      go_region
      go_wp2
      go_roundw
      case rel =>
        refine ⟨q + k, l1.set (q / 8) y, ?_, by go_num, by have := Hm.out; omega, HB.out, _, ⟨hW1.far ?_ _ _, ?_, hne1, hb1⟩, ?_, ?_⟩
        · rw [show ((m : Int) - k) = ((S + n - (q + k) : Nat) : Int) by have := Hm.out; omega]
        · exact fun e => hne1 (by simp [Value.ownBlock, e])
        · exact (hO1.set (q / 8) y).ext (Ext.refl _).drew
        · exact hN1
        · exact hM1.trans ((Mod.ofOwn (ob := some gb) (grown_setCell wr gb _ _)).trans (Mod.drew _) (.inl rfl)) hN1
      case measure => simp [intOf]; omega
    · obtain rfl : q = S + n := by omega
      have HB := hide (Bit.Adds.done (B := B) (x := x) (n := n) (l := l1) (by rw [hS]; exact hA))
      go_wp2
      go_end0
      exact ⟨rfl, l1, HB.out, hT⟩
end Go.Proofs.YthpbckignppaiaaGreatDoor

namespace Go.Proofs.YthpbckignppaiaaGreatDoor
open Go.RowKit
set_option maxHeartbeats 1000000 in
theorem slicesClone_any (A : Option Addr) (n c : Nat) (l : List UInt8) (w : World) (hc : n ≤ c) (hn : n ≤ 140737488355328) (hb : Bytes w w.heap.size A n l) :
    Calls Tryz.prog 54 #[.slice A n c] w (MadeB w l) := by
  have hnil := fun (W : World) (a : Option Addr) (n c n' c' : Nat) => Lib.run_eql_slice_nil (P := Tryz.prog) W 22 5 a n c n' c' Tryz.underlying22
  rcases A with _ | ad
  · have hl : l = [] := by
      rcases hb.2 with h0 | ⟨_, _, h, _⟩
      · exact List.eq_nil_of_length_eq_zero (by rw [hb.1, h0])
      · cases h
    subst hl
    have hn0 : n = 0 := hb.1.symm
    subst hn0
    go_enter Tryz.func54, Tryz.ntmps54
    go_wp2
    go_ret
    exact ⟨_, rfl, OwnB.nil _ _, Ext.refl _⟩
  · have ho := OwnB.empty w (Nat.le_refl _)
    have hb' := (extNew w (.cells #[] 5)).bytes hb
    have hB : w.heap.size ≤ (w.alloc (.cells #[] 5)).heap.size := by simp
    have hl0 : ([] : List UInt8).length + n ≤ 140737488355328 := by simpa using hn
    have hE := extNew w (.cells #[] 5)
    go_enter Tryz.func54, Tryz.ntmps54
    go_wp2_with (at_builtin; refine wpList_app rfl (.tmp 5) (.tmp 6) rfl rfl ho rfl hb' hl0 hB ?_; intro v1 w1 hown1 hg1)
    go_ret
    exact ⟨v1, rfl, hown1, ho.below hE hg1 hB⟩
end Go.Proofs.YthpbckignppaiaaGreatDoor

namespace Go.Proofs.YthpbckignppaiaaGreatDoor
open Go.RowKit
namespace Bit
def fits (x : Nat) (n : Int) : Bool := decide (0 ≤ n ∧ n ≤ 64 ∧ x < 2 ^ n.toNat)
def putBits (x : Nat) (n : Int) : List Bool := if fits x n then num x n.toNat else []
def putErr (x : Nat) (n : Int) : Int := if fits x n then 0 else 13
theorem put_bad {x : Nat} {n : Int} (h : fits x n = false) : putErr x n = 13 ∧ putBits x n = [] := by simp [putErr, putBits, h]
theorem put_good {x : Nat} {n : Int} (h : fits x n = true) : putErr x n = 0 ∧ putBits x n = num x n.toNat := by simp [putErr, putBits, h]
end Bit
def WrtX (t : TypeId) (R : List Value) (w : World) (base g : Nat) (ob : Option Nat) (B : List Bool) : Prop := ∃ v l, WRowX t R w base g v l B.length ∧ Bit.Packs l B ∧ v.ownBlock = ob
def PutsX (t : TypeId) (R : List Value) (w : World) (base g : Nat) (ob : Option Nat) (B : List Bool) (err : Int) (e : Ending) (w' : World) : Prop :=
  e = .returned (.int .i64 err) ∧ ∃ ob', WrtX t R w' base g ob' B ∧ NewOb w ob ob' ∧ Mod w w' g ob
theorem WrtX.bound {t : TypeId} {R : List Value} {w : World} {base g : Nat} {ob : Option Nat} {B : List Bool} (h : WrtX t R w base g ob B) : base ≤ w.heap.size := by obtain ⟨v, l, h, _⟩ := h; exact h.bound
theorem WrtX.lt {t : TypeId} {R : List Value} {w : World} {base g : Nat} {ob : Option Nat} {B : List Bool} (h : WrtX t R w base g ob B) : g < w.heap.size := by obtain ⟨v, l, h, _⟩ := h; exact h.1.lt
theorem WrtX.le {t : TypeId} {R : List Value} {w : World} {base g : Nat} {ob : Option Nat} {B : List Bool} (h : WrtX t R w base g ob B) : base ≤ g := by obtain ⟨v, l, h, _⟩ := h; exact h.2.2.2
theorem WrtX.ne {t : TypeId} {R : List Value} {w : World} {base g : Nat} {ob : Option Nat} {B : List Bool} (h : WrtX t R w base g ob B) : ob ≠ some g := by obtain ⟨v, l, h, _, rfl⟩ := h; exact h.2.2.1
theorem WrtX.ob {t : TypeId} {R : List Value} {w : World} {base g : Nat} {ob : Option Nat} {B : List Bool} (h : WrtX t R w base g ob B) : ∀ k, ob = some k → base ≤ k ∧ k < w.heap.size := by obtain ⟨v, l, h, _, rfl⟩ := h; exact h.2.1.lt
theorem WrtX.ext {t : TypeId} {R : List Value} {w w' : World} {base g : Nat} {ob : Option Nat} {B : List Bool} (h : WrtX t R w base g ob B) (hE : Ext w w') : WrtX t R w' base g ob B := by
  obtain ⟨v, l, ⟨hW, hO, hne, hb⟩, hP, ho⟩ := h
  exact ⟨v, l, ⟨hW.ext hE, hO.ext hE, hne, hb⟩, hP, ho⟩
set_option maxHeartbeats 1000000 in
theorem put_any {t : TypeId} {R : List Value} {w : World} {base g : Nat} {ob : Option Nat} {B : List Bool} (h : WrtX t R w base g ob B) (x : Nat) (n : Int) (hfit : B.length ≤ 900000000) :
    Calls Tryz.prog 52 #[.pointer (some ⟨g, 0, none⟩), .int .u64 x, .int .i64 n] w (PutsX t R w base g ob (B ++ Bit.putBits x n) (Bit.putErr x n)) := by
  by_cases hbad : Bit.fits x n = false
  · have HE := hide (Bit.put_bad hbad)
    have HF := hide h
    by_cases h0 : n < 0
    · go_enter Tryz.func52, Tryz.ntmps52
      go_wp2
      go_ret
      refine ⟨ret_i64 HE.out.1.symm, ob, by rw [HE.out.2, List.append_nil]; exact HF.out, .inl rfl, Mod.refl _ _ _⟩
    · by_cases h1 : 64 < n
      · go_enter Tryz.func52, Tryz.ntmps52
        go_wp2
        go_ret
        refine ⟨ret_i64 HE.out.1.symm, ob, by rw [HE.out.2, List.append_nil]; exact HF.out, .inl rfl, Mod.refl _ _ _⟩
      · obtain ⟨k, rfl⟩ := Int.eq_ofNat_of_zero_le (show 0 ≤ n by omega)
        have hk : k ≤ 64 := by omega
        have hx : 2 ^ k ≤ x := by
          rcases Nat.lt_or_ge x (2 ^ k) with h | h
          · exfalso
            have : Bit.fits x (k : Int) = true := decide_eq_true ⟨by omega, by omega, by simpa using h⟩
            rw [this] at hbad; cases hbad
          · exact h
        have hx0 : ((x : Int) / 2 ^ k != 0) = true := by
          have h1 : 0 < x / 2 ^ k := Nat.div_pos hx (Nat.two_pow_pos k)
          have e : (x : Int) / 2 ^ k = ((x / 2 ^ k : Nat) : Int) := by simp only [Int.natCast_ediv, Int.natCast_pow]; rfl
          rw [e]; simp; omega
        clear hx hbad
        go_enter Tryz.func52, Tryz.ntmps52
        go_wp2
        go_ret
        refine ⟨ret_i64 HE.out.1.symm, ob, by rw [HE.out.2, List.append_nil]; exact HF.out, .inl rfl, Mod.refl _ _ _⟩
  · have hgood : Bit.fits x n = true := by simpa using hbad
    have HE := hide (Bit.put_good hgood)
    obtain ⟨h0, h1, hx⟩ := of_decide_eq_true hgood
    obtain ⟨k, rfl⟩ := Int.eq_ofNat_of_zero_le h0
    have hk : k ≤ 64 := by omega
    have hx' : x < 2 ^ k := by simpa using hx
    have hx0 : ((x : Int) / 2 ^ k != 0) = false := by
      have e : (x : Int) / 2 ^ k = ((x / 2 ^ k : Nat) : Int) := by simp only [Int.natCast_ediv, Int.natCast_pow]; rfl
      rw [e, Nat.div_eq_of_lt hx']; rfl
    obtain ⟨v, l, hR, hP, rfl⟩ := h
    have C := add_any x k hR hP rfl hx' hk (by omega)
    clear hx hx' hbad hgood
    go_enter Tryz.func52, Tryz.ntmps52
    go_wp2_with (go_at_call 65; refine C.mono ?_; rintro e w2 ⟨rfl, l2, hP2, v2, hR2, hN2, hM2⟩)
    go_ret
    refine ⟨ret_i64 HE.out.1.symm, v2.ownBlock, ⟨v2, l2, ?_, ?_, rfl⟩, hN2, hM2⟩
    · rw [HE.out.2, List.length_append, Bit.num_length]; exact hR2
    · rw [HE.out.2]; exact hP2
theorem wbytes_any {t : TypeId} {R : List Value} {w : World} {base g : Nat} {ob : Option Nat} {B : List Bool} (h : WrtX t R w base g ob B) (hB : B.length ≤ 1000000000) :
    Calls Tryz.prog 34 #[.pointer (some ⟨g, 0, none⟩)] w fun e w' => ∃ l, Bit.Packs l B ∧ MadeB w l e w' := by
  obtain ⟨v, l, hR, hP, rfl⟩ := h
  obtain ⟨hW, hO, _, _⟩ := hR
  obtain ⟨A, c, rfl, hc, _, hb⟩ := hO.form
  have c0 : w.cell? ⟨g, 0, none⟩ = some (.slice A l.length c) := hW.at 0 (row_at0 ..)
  have hl := hP.1
  have C := slicesClone_any A l.length c l w hc (by omega) hb
  have HP := hide hP
  clear hl hP
  go_enter Tryz.func34, Tryz.ntmps34
  go_wp2_with (go_at_call 54; refine C.mono ?_; rintro e w2 ⟨v2, rfl, hown2, hE2⟩)
  go_ret
  exact ⟨l, HP.out, v2, rfl, hown2, hE2⟩
end Go.Proofs.YthpbckignppaiaaGreatDoor

namespace Go.Proofs.YthpbckignppaiaaGreatDoor
open Go.RowKit
theorem bitLen_log2 : ∀ n : Fin 256, n.val ≠ 0 → Lib.bitLen n.val = n.val.log2 + 1 := by decide +kernel
end Go.Proofs.YthpbckignppaiaaGreatDoor

namespace Go.Proofs.YthpbckignppaiaaGreatDoor
open Go.RowKit
namespace Bit
def rest (l : List UInt8) (q : Nat) : Nat → Bool := fun i => at_ l (q + i)
end Bit
end Go.Proofs.YthpbckignppaiaaGreatDoor

namespace Go.Proofs.YthpbckignppaiaaGreatDoor.Can
open Len
def zrun : Nat → List UInt8 → Nat
  | 0, _ => 0
  | _ + 1, [] => 0
  | f + 1, x :: r => if x = 0 then zrun f r + 1 else 0
theorem zrun_le : ∀ (f : Nat) (r : List UInt8), zrun f r ≤ f ∧ zrun f r ≤ r.length
  | 0, _ => by simp [zrun]
  | _ + 1, [] => by simp [zrun]
  | f + 1, x :: r => by
    have := zrun_le f r
    rw [zrun]
    split
    · simp; omega
    · simp
theorem zrun_zero : ∀ (f : Nat) (r : List UInt8), r.take (zrun f r) = List.replicate (zrun f r) 0
  | 0, _ => by simp [zrun]
  | _ + 1, [] => by simp [zrun]
  | f + 1, x :: r => by
    rw [zrun]
    split
    · rename_i h
      rw [List.take_succ_cons, zrun_zero f r, h, List.replicate_succ]
    · simp
theorem zrun_stop : ∀ (f : Nat) (r : List UInt8), zrun f r < f → ∀ y, (r.drop (zrun f r)).head? = some y → y ≠ 0
  | 0, _, h => by simp [zrun] at h
  | _ + 1, [], _ => by simp [zrun]
  | f + 1, x :: r, h => by
    rw [zrun] at h ⊢
    split at h
    · rename_i h0
      rw [if_pos h0, List.drop_succ_cons]
      exact zrun_stop f r (by omega)
    · rename_i h0
      rw [if_neg h0]
      intro y hy
      simp at hy
      rw [← hy]
      exact h0
def wbits : List UInt8 → List Bool
  | [] => []
  | x :: r => if x = 0 then Bit.num 0 4 ++ (Bit.num (zrun 63 r) 6 ++ wbits (r.drop (zrun 63 r))) else Bit.num x.toNat 4 ++ wbits r
termination_by l => l.length
decreasing_by all_goals (simp; try omega)
theorem wbits_nil : wbits [] = [] := by rw [wbits]
theorem wbits_used {x : UInt8} (r : List UInt8) (h : x ≠ 0) : wbits (x :: r) = Bit.num x.toNat 4 ++ wbits r := by rw [wbits, if_neg h]
theorem wbits_zero (r : List UInt8) : wbits (0 :: r) = Bit.num 0 4 ++ (Bit.num (zrun 63 r) 6 ++ wbits (r.drop (zrun 63 r))) := by rw [wbits, if_pos rfl]
theorem wbits_len : ∀ l : List UInt8, (wbits l).length ≤ 10 * l.length
  | [] => by rw [wbits_nil]; simp
  | x :: r => by
    by_cases h : x = 0
    · subst h
      have := wbits_len (r.drop (zrun 63 r))
      rw [wbits_zero, List.length_append, List.length_append, Bit.num_length, Bit.num_length]
      rw [List.length_drop] at this
      simp only [List.length_cons]
      omega
    · have := wbits_len r
      rw [wbits_used r h, List.length_append, Bit.num_length]
      simp only [List.length_cons]
      omega
termination_by l => l.length
decreasing_by all_goals (simp; try omega)
end Go.Proofs.YthpbckignppaiaaGreatDoor.Can

namespace Go.Proofs.YthpbckignppaiaaGreatDoor.Huf
open Len Can
section
variable {l : List UInt8}
theorem word_fits (hr : right l = true) {s : Nat} (hs : s < l.length) (h0 : lenAt l s ≠ 0) : word l s < 2 ^ lenAt l s := by
  obtain ⟨_, h15, hk⟩ := right_facts hr
  have h1 := acc_le l (lenAt l s) (s + 1)
  rw [acc_step l (by omega) hs, if_pos rfl, ← word_mul h0] at h1
  have h2 := h15 s hs
  have e : (2 : Nat) ^ 15 = 2 ^ lenAt l s * 2 ^ (15 - lenAt l s) := by rw [← Nat.pow_add]; congr 1; omega
  have h3 : (word l s + 1) * 2 ^ (15 - lenAt l s) ≤ 2 ^ lenAt l s * 2 ^ (15 - lenAt l s) := by
    rw [← e, Nat.add_mul, Nat.one_mul]
    omega
  exact Nat.le_of_mul_le_mul_right h3 (Nat.pow_pos (by omega))
end
def fine (l : List UInt8) (s : Int) : Bool := decide (0 ≤ s ∧ s < l.length ∧ lenAt l s.toNat ≠ 0)
def putB (l : List UInt8) (s : Int) : List Bool := Bit.num (word l s.toNat) (lenAt l s.toNat)
def putE (l : List UInt8) (s : Int) : Int := if fine l s then 0 else 13
end Go.Proofs.YthpbckignppaiaaGreatDoor.Huf

