/- What the laws of chapter 8 ask of Write; the law CanonWrites. -/
import Derived.Test.YtabhemmmefefgaaCanLaw
import Derived.Test.YtabhemmmefefgaaCanRefW
import Derived.Test.YtabhemmmefefgaaBitBoth
import Derived.Test.YtabhemmmefefgaaStrs
import Derived.Test.YtabhemmmefefgaaRegTail
namespace Go.Proofs.Ytabhemmmefefgaa
open Go.RowKit Len Can

/-- From world w on, the program's Write writes what the document's writes. -/
def WriteC (w : World) : Prop := ∀ (l : List UInt8) (A : Option Addr) (n c : Nat) (W : World) (base g : Nat) (ob : Option Nat) (B : List Bool), Below w.heap.size w W → n ≤ c → c ≤ maxLen → Bytes W base A n l → Wrt W base g ob B → B.length ≤ 100000 →
  Calls Try.prog 17 #[.pointer (some ⟨g, 0, none⟩), .slice A n c] W (Puts W base g ob (B ++ if right l then wbits l else []) (checkE l))
def WriteNilC (w : World) : Prop := ∀ (A : Option Addr) (n c : Nat) (l : List UInt8) (W : World), Below w.heap.size w W → n ≤ c → c ≤ maxLen → Bytes W W.heap.size A n l →
  Calls Try.prog 17 #[.pointer none, .slice A n c] W fun e w' => e = .returned (.int .i64 13) ∧ Ext W w'

theorem Can.written_le {l : List UInt8} (h : l.length ≤ 400) : (if right l then wbits l else []).length ≤ 4000 := by
  have := wbits_len l
  split
  · omega
  · simp

set_option maxHeartbeats 1000000 in
set_option maxRecDepth 100000 in
theorem canonWrites_walk0 (x : Int) (A : Option Addr) (n c : Nat) (l : List UInt8) (w : World) (hL : CodesC w) (hW : WriteC w) (hZ : WriteNilC w) (hx0 : 0 ≤ x) (hx1 : x ≤ 255) (hn : n ≤ c) (hc : c ≤ maxLen) (hb : Bytes w w.heap.size A n l) :
    Calls Try.prog 7 #[.int .u8 x, .slice A n c] w fun e w' => e = .returned (.bool true) ∧ Below w.heap.size w w' := by
  obtain ⟨x, rfl⟩ := Int.eq_ofNat_of_zero_le hx0
  have C0 := alive8_any hL (Ext.refl w)
  have hlen := hb.1
  by_cases hbig : 400 < n
  · have hbI : (400 : Int) < (n : Int) := by omega
    go_enter Try.func7, Try.ntmps7
    go_wp2_with fail
    refine C0.mono ?_
    rintro e w1 ⟨rfl, hE1⟩
    go_wp2
    go_ret
    exact ⟨rfl, hE1⟩
  · have hbI : ¬ (400 : Int) < (n : Int) := by omega
    have hwl := written_le (l := l) (by omega)
    have CW := fun W base g ob B => hW l A n c W base g ob B
    have CV := fun (W : World) (base g : Nat) (ob : Option Nat) (R : List UInt8) (h : RefW W base g ob R) (hR : R.length ≤ 800000000) (hB : Bytes W base A n l) => refWrite_any h hR A n c l hB
    have CZ := hide (fun (W : World) (hX : Below w.heap.size w W) => hZ A n c l W hX hn hc ((hb.below hX (Nat.le_refl _)).mono hX.size))
    have HB := hide hb
    generalize checkE l = E at *
    generalize (if right l = true then wbits l else []) = wb at *
    clear hb hlen hZ hW
    go_enter Try.func7, Try.ntmps7
    go_wp2_with fail
    refine C0.mono ?_
    rintro e w1 ⟨rfl, hE1⟩
    clear C0
    have hB0 := Both.start w1 hE1.le
    have hEB : Below w.heap.size w ((w1.alloc (.cells #[.slice none 0 0, .int .i64 0] 35)).alloc (.cells #[.slice none 0 0] 37)) := Ext.alloc (Ext.alloc hE1 _) _
    have P1 := put_any hB0.1 x 8 (by simp)
    obtain ⟨g2, hg2⟩ : ∃ g2, g2 = w1.heap.size + 1 := ⟨_, rfl⟩
    have P2 := fun (W : World) (ob1 ob2 : Option Nat) (B : List Bool) (h : Both W w.heap.size w1.heap.size g2 ob1 ob2 B []) => refPut_any h.2.1 x 8 (by omega) (by simp)
    rw [← hg2] at hB0
    have Hg2 := hide hg2
    clear hg2
    go_wp2_with fail
    refine P1.mono ?_
    rintro e w2 hp
    obtain ⟨rfl, ob1, hB1, hE2⟩ := hB0.first hp
    have hF2 := hEB.trans hE2
    have Q1 := P2 _ _ _ _ hB1
    clear hp P1 P2 hB0 hEB hE2
    rw [← Hg2.out]
    generalize Bit.putErr (↑x) 8 = E1 at *
    go_wp2_with fail
    refine Q1.mono ?_
    rintro e w3 hp
    obtain ⟨rfl, ob2, hB2, hE3⟩ := hB1.second hp
    have hF3 := hF2.trans hE3
    clear Q1 hp hB1 hE3
    have hx64 := Bit.putBits_le x 8
    rw [List.nil_append] at hB2
    generalize Bit.putBits (↑x) 8 = X at *
    generalize w1.heap.size = g1 at *
    have C1 := CW w3 w.heap.size g1 ob1 X hF3 hn hc (HB.out.below hF3 (Nat.le_refl _)) hB2.1 (by omega)
    clear CW
    go_wp2_with fail
    refine C1.mono ?_
    rintro e w4 hp
    obtain ⟨rfl, ob3, hB3, hE4⟩ := hB2.first hp
    have hF4 := hF3.trans hE4
    have C2 := CV w4 w.heap.size g2 ob2 _ hB3.2.1 (by simp; omega) (HB.out.below hF4 (Nat.le_refl _))
    clear C1 CV hp hB2 hE4
    go_wp2_with fail
    refine C2.mono ?_
    rintro e wq hp
    obtain ⟨rfl, ob4, hB4, hE5⟩ := hB3.second hp
    have hF5 := hF4.trans hE5
    rw [List.nil_append, map_app] at hB4
    clear C2 hp hB3 hE5
    have hlen : (X ++ wb).length ≤ 5000 := by rw [List.length_append]; omega
    generalize X ++ wb = B at *
    obtain ⟨A2, cc, d0⟩ := hB4.2.1.cellLen
    have CL := fun (W : World) (hX : Ext wq W) => wlen_any (hB4.1.ext hX)
    have CB := fun (W : World) (hX : Ext wq W) => wbytes_any (hB4.1.ext hX) (by omega)
    have CR := fun (W : World) (hX : Ext wq W) => refBytes_any (hB4.2.1.ext hX) (by omega)
    have CN := fun (W : World) (hX : Ext wq W) => CZ.out W (hF5.trans (Below.mono hX hF5.size))
    have HD := hide (fun (W : World) (hX : Ext wq W) => (hX.cell hB4.2.1.lt).trans d0)
    have HF5 := hide hF5
    obtain ⟨BN, hBN⟩ : ∃ BN, BN = B.length := ⟨_, rfl⟩
    rw [← hBN] at HD CL
    clear hB4 hBN hF2 hF3 hF4 hF5 d0 CZ
    go_wp2_with fail
    refine wp_region_T (fun W => Ext wq W) 20 21 #[false, false, false, false, false, false, false, false, false, false, false, false, false, false, false, false, false, false, false, false, false] (by kernel_rfl) rfl rfl (Ext.refl wq).drew ?_
    intro hS0
    refine wpAnyT_take 0 (some 24) (.int .i64 E) #[true, false, false, false, false, false, false, false, false, false, false, false, false, false, false, false, false, false, false, false, false] rfl rfl rfl (by kernel_rfl) (fun _ _ _ h => h) hS0 (by rfl) (fun W hX => by go_simp) ?_
    simp only [Act.put, List.setIfInBounds_toArray, List.set_cons_zero, List.set_cons_succ]
    refine wpAnyT_take 1 (some 25) (.int .i64 E) #[true, true, false, false, false, false, false, false, false, false, false, false, false, false, false, false, false, false, false, false, false] rfl rfl rfl (by kernel_rfl) (fun _ _ _ h => h) hS0 (by rfl) (fun W hX => by go_simp) ?_
    simp only [Act.put, List.setIfInBounds_toArray, List.set_cons_zero, List.set_cons_succ]
    refine wpAnyT_take 2 (some 26) (.bool true) #[true, true, true, false, false, false, false, false, false, false, false, false, false, false, false, false, false, false, false, false, false] rfl rfl rfl (by kernel_rfl) (fun _ _ _ h => h) hS0 (by rfl) (fun W hX => by go_simp) ?_
    simp only [Act.put, List.setIfInBounds_toArray, List.set_cons_zero, List.set_cons_succ]
    refine wpAnyT_take 3 (some 27) (.bool true) #[true, true, true, true, false, false, false, false, false, false, false, false, false, false, false, false, false, false, false, false, false] rfl rfl rfl (by kernel_rfl) (fun _ _ _ h => h) hS0 (by rfl) (fun W hX => by go_simp) ?_
    simp only [Act.put, List.setIfInBounds_toArray, List.set_cons_zero, List.set_cons_succ]
    refine wpAnyT_take 5 (some 29) (.pointer (some ⟨g2, 0, none⟩)) #[true, true, true, true, false, true, false, false, false, false, false, false, false, false, false, false, false, false, false, false, false] rfl rfl rfl (by kernel_rfl) (fun _ _ _ h => h) hS0 (by rfl) (fun W hX => by go_simp) ?_
    simp only [Act.put, List.setIfInBounds_toArray, List.set_cons_zero, List.set_cons_succ]
    refine wpAnyT_take 6 (some 30) (.slice A2 BN cc) #[true, true, true, true, false, true, true, false, false, false, false, false, false, false, false, false, false, false, false, false, false] rfl rfl rfl (by kernel_rfl) (fun _ _ _ h => h) hS0 (by rfl) (fun W hX => by have s0 := HD.out W hX; go_simp) ?_
    simp only [Act.put, List.setIfInBounds_toArray, List.set_cons_zero, List.set_cons_succ]
    refine wpAnyT_take 7 (some 31) (.int .i64 (BN : Int)) #[true, true, true, true, false, true, true, true, false, false, false, false, false, false, false, false, false, false, false, false, false] rfl rfl rfl (by kernel_rfl) (fun _ _ _ h => h) hS0 (by rfl) (fun W hX => by go_simp) ?_
    simp only [Act.put, List.setIfInBounds_toArray, List.set_cons_zero, List.set_cons_succ]
    refine wpAnyT_only 4 #[true, true, true, true, true, true, true, true, false, false, false, false, false, false, false, false, false, false, false, false, false] (by kernel_rfl) rfl rfl (by rfl) (fun K0 hK0 => ?_)
    go_simp
    go_at_call 19
    refine (CL _ hS0).mono ?_
    rintro e wc0 ⟨rfl, rfl⟩
    have hX0 := hS0
    refine hK0 _ _ (fun _ => hX0) ?_
    clear hK0 K0
    refine wpAnyT_take 8 (some 32) (.bool true) #[true, true, true, true, true, true, true, true, true, false, false, false, false, false, false, false, false, false, false, false, false] rfl rfl rfl (by kernel_rfl) (fun _ _ _ h => h) hX0 (by rfl) (fun W hX => by go_simp) ?_
    simp only [Act.put, List.setIfInBounds_toArray, List.set_cons_zero, List.set_cons_succ]
    refine wpAnyT_take 9 (some 33) (.bool true) #[true, true, true, true, true, true, true, true, true, true, false, false, false, false, false, false, false, false, false, false, false] rfl rfl rfl (by kernel_rfl) (fun _ _ _ h => h) hX0 (by rfl) (fun W hX => by go_simp) ?_
    simp only [Act.put, List.setIfInBounds_toArray, List.set_cons_zero, List.set_cons_succ]
    refine wpAnyT_take 10 (some 34) (.bool true) #[true, true, true, true, true, true, true, true, true, true, true, false, false, false, false, false, false, false, false, false, false] rfl rfl rfl (by kernel_rfl) (fun _ _ _ h => h) hX0 (by rfl) (fun W hX => by go_simp) ?_
    simp only [Act.put, List.setIfInBounds_toArray, List.set_cons_zero, List.set_cons_succ]
    refine wpAnyT_only 11 #[true, true, true, true, true, true, true, true, true, true, true, true, false, false, false, false, false, false, false, false, false] (by kernel_rfl) rfl rfl (by rfl) (fun K1 hK1 => ?_)
    go_simp
    go_at_call 21
    refine (CB _ hX0).mono ?_
    rintro e wc1 ⟨l3, hP3, v3, rfl, hO3, hC1⟩
    obtain ⟨A3, n3, c3, rfl, _, _, hb3⟩ := hO3.form'
    have hX1 := hX0.trans hC1
    refine hK1 _ _ (fun _ => hX1) ?_
    clear hK1 K1
    refine wpAnyT_only 12 #[true, true, true, true, true, true, true, true, true, true, true, true, true, false, false, false, false, false, false, false, false] (by kernel_rfl) rfl rfl (by rfl) (fun K2 hK2 => ?_)
    go_simp
    go_at_call 22
    refine (CR _ hX1).mono ?_
    rintro e wc2 ⟨l4, hP4, v4, rfl, hO4, hC2⟩
    obtain rfl := hP3.uniq hP4
    obtain ⟨A4, n4, c4, rfl, _, _, hb4⟩ := hO4.form'
    have hb3b := hC2.bytes hb3
    have hX2 := hX1.trans hC2
    refine hK2 _ _ (fun _ => hX2) ?_
    clear hK2 K2
    refine wpAnyT_only 13 #[true, true, true, true, true, true, true, true, true, true, true, true, true, true, false, false, false, false, false, false, false] (by kernel_rfl) rfl rfl (by rfl) (fun K3 hK3 => ?_)
    go_simp
    go_at_call 20
    refine (same_any _ _ _ _ _ _ l3 l3 _ hb3b hb4).mono ?_
    rintro e wc3 ⟨rfl, hC3⟩
    rw [sameB_true rfl]
    have hX3 := hX2.trans hC3
    refine hK3 _ _ (fun _ => hX3) ?_
    clear hK3 K3
    refine wpAnyT_take 14 (some 38) (.bool true) #[true, true, true, true, true, true, true, true, true, true, true, true, true, true, true, false, false, false, false, false, false] rfl rfl rfl (by kernel_rfl) (fun _ _ _ h => h) hX3 (by rfl) (fun W hX => by go_simp) ?_
    simp only [Act.put, List.setIfInBounds_toArray, List.set_cons_zero, List.set_cons_succ]
    refine wpAnyT_take 15 (some 39) (.bool true) #[true, true, true, true, true, true, true, true, true, true, true, true, true, true, true, true, false, false, false, false, false] rfl rfl rfl (by kernel_rfl) (fun _ _ _ h => h) hX3 (by rfl) (fun W hX => by go_simp) ?_
    simp only [Act.put, List.setIfInBounds_toArray, List.set_cons_zero, List.set_cons_succ]
    refine wpAnyT_take 16 (some 40) (.slice A n c) #[true, true, true, true, true, true, true, true, true, true, true, true, true, true, true, true, true, false, false, false, false] rfl rfl rfl (by kernel_rfl) (fun _ _ _ h => h) hX3 (by rfl) (fun W hX => by go_simp) ?_
    simp only [Act.put, List.setIfInBounds_toArray, List.set_cons_zero, List.set_cons_succ]
    refine wpAnyT_only 17 #[true, true, true, true, true, true, true, true, true, true, true, true, true, true, true, true, true, true, false, false, false] (by kernel_rfl) rfl rfl (by rfl) (fun K4 hK4 => ?_)
    go_simp
    go_at_call 17
    refine (CN _ hX3).mono ?_
    rintro e wc4 ⟨rfl, hC4⟩
    have hX4 := hX3.trans hC4
    refine hK4 _ _ (fun _ => hX4) ?_
    clear hK4 K4
    refine wpAnyT_take 18 (some 42) (.bool true) #[true, true, true, true, true, true, true, true, true, true, true, true, true, true, true, true, true, true, true, false, false] rfl rfl rfl (by kernel_rfl) (fun _ _ _ h => h) hX4 (by rfl) (fun W hX => by go_simp) ?_
    simp only [Act.put, List.setIfInBounds_toArray, List.set_cons_zero, List.set_cons_succ]
    refine wpAnyT_take 19 (some 43) (.bool true) #[true, true, true, true, true, true, true, true, true, true, true, true, true, true, true, true, true, true, true, true, false] rfl rfl rfl (by kernel_rfl) (fun _ _ _ h => h) hX4 (by rfl) (fun W hX => by go_simp) ?_
    simp only [Act.put, List.setIfInBounds_toArray, List.set_cons_zero, List.set_cons_succ]
    refine wpAnyT_only 20 #[true, true, true, true, true, true, true, true, true, true, true, true, true, true, true, true, true, true, true, true, true] (by kernel_rfl) rfl rfl (by rfl) (fun K5 hK5 => ?_)
    go_simp
    refine hK5 _ _ (fun h => absurd h (by decide)) (wpAnyT_done (by kernel_rfl) ?_ _)
    clear hK5 K5
    go_wp2
    go_ret
    exact ⟨rfl, HF5.out.trans (Below.mono hX4 HF5.out.size)⟩
end Go.Proofs.Ytabhemmmefefgaa
