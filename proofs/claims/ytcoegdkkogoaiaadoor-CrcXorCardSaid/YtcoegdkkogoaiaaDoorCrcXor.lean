/- The law CrcXor. -/
import Derived.Test.YtcoegdkkogoaiaaDoorCrcTurnMath
import Derived.Test.YtcoegdkkogoaiaaDoorLaid
import Derived.Deep.RegionHeld3
namespace Go.Proofs.YtcoegdkkogoaiaaDoor
open Go.RowKit

def Crc.xors (a b : List UInt8) : List UInt8 := List.zipWith (· ^^^ ·) a b
theorem Crc.xors_length {a b : List UInt8} (h : a.length = b.length) : (Crc.xors a b).length = a.length := by simp [Crc.xors, h]
theorem Crc.xors_get {a b : List UInt8} (k : Nat) (ha : k < a.length) (hb : k < b.length) : (Crc.xors a b).getD k 0 = a.getD k 0 ^^^ b.getD k 0 := by
  simp [Crc.xors, List.getD_eq_getElem?_getD, List.getElem?_zipWith, ha, hb]
theorem Crc.num_xors : ∀ (a b : List UInt8), a.length = b.length → Crc.num (Crc.xors a b) = Crc.num a ^^^ Crc.num b := by
  intro a
  induction a with
  | nil => intro b h; cases b with
    | nil => rfl
    | cons x b => simp at h
  | cons x a ih =>
    intro b h
    cases b with
    | nil => simp at h
    | cons y b =>
      have e : Crc.xors (x :: a) (y :: b) = (x ^^^ y) :: Crc.xors a b := rfl
      rw [e, Crc.num_cons, Crc.num_cons, Crc.num_cons, ih b (by simpa using h), Crc.mul_xor, UInt8.toNat_xor]
      ac_rfl
theorem Crc.sum_eq (l : List UInt8) : Crc.sum l = 4294967295 ^^^ Crc.run (8 * l.length) 4294967295 ^^^ Crc.run (8 * l.length) (Crc.num l) := by
  have h := Crc.fold_lt l 4294967295 (by omega)
  unfold Crc.sum
  rw [← Crc.not_xor _ h, Crc.fold_eq, Crc.run_xor, Nat.xor_assoc]
theorem Crc.sum_xors (a b c : List UInt8) (hb : a.length = b.length) (hc : a.length = c.length) : Crc.sum (Crc.xors (Crc.xors a b) c) = Crc.sum a ^^^ Crc.sum b ^^^ Crc.sum c := by
  have h1 := Crc.xors_length hb
  have h2 : (Crc.xors (Crc.xors a b) c).length = a.length := by rw [Crc.xors_length (by omega), h1]
  simp only [Crc.sum_eq, h2, Crc.num_xors _ c (by rw [h1, hc]), Crc.num_xors a b hb, ← hb, ← hc, Crc.run_xor]
  generalize Crc.run (8 * a.length) 4294967295 = I
  generalize Crc.run (8 * a.length) (Crc.num a) = x
  generalize Crc.run (8 * a.length) (Crc.num b) = y
  generalize Crc.run (8 * a.length) (Crc.num c) = z
  have : 4294967295 ^^^ I ^^^ x ^^^ (4294967295 ^^^ I ^^^ y) ^^^ (4294967295 ^^^ I ^^^ z) = (4294967295 ^^^ 4294967295) ^^^ (I ^^^ I) ^^^ (4294967295 ^^^ I ^^^ (x ^^^ y ^^^ z)) := by ac_rfl
  rw [this]; simp
theorem u8_xor_byte (x y : UInt8) : bits .xor .u8 (x.toNat : Int) (y.toNat : Int) = (((x ^^^ y).toNat : Nat) : Int) := by
  rw [u8_xor_nat _ _ x.toNat_lt y.toNat_lt, UInt8.toNat_xor]
theorem take_snoc (l : List UInt8) (k : Nat) (h : k < l.length) : l.take (k + 1) = l.take k ++ [l.getD k 0] := by
  rw [List.take_succ_eq_append_getElem h, List.getD_eq_getElem?_getD, List.getElem?_eq_getElem h]
  rfl

set_option maxHeartbeats 2000000 in
theorem crcXor_walk (A1 : Option Addr) (n1 c1 : Nat) (l1 : List UInt8) (A2 : Option Addr) (n2 c2 : Nat) (l2 : List UInt8) (A3 : Option Addr) (n3 c3 : Nat) (l3 : List UInt8) (w : World)
    (hn1 : n1 ≤ c1) (_hc1 : c1 ≤ maxLen) (hb1 : Bytes w w.heap.size A1 n1 l1) (hn2 : n2 ≤ c2) (_hc2 : c2 ≤ maxLen) (hb2 : Bytes w w.heap.size A2 n2 l2) (hn3 : n3 ≤ c3) (_hc3 : c3 ≤ maxLen) (hb3 : Bytes w w.heap.size A3 n3 l3) (ht : Tab w) :
    Calls Tryd.prog 7 #[.slice A1 n1 c1, .slice A2 n2 c2, .slice A3 n3 c3] w fun e w' => e = .returned (.bool true) ∧ Below w.heap.size w w' := by
  have h0 := ht.pos
  have C0 := alive_gives h0 ht
  by_cases hbig : n1 > 3000
  · go_enter Tryd.func7, Tryd.ntmps7
    go_wp2_with (go_at_call 10; refine (C0 _ (Ext.refl _)).mono ?_; rintro e w1 ⟨rfl, hE1, _⟩)
    go_ret
    exact ⟨rfl, hE1⟩
  by_cases h12 : ¬ n1 = n2
  · have hne : ((n1 : Int) != (n2 : Int)) = true := by simpa using fun h => h12 (by omega)
    go_enter Tryd.func7, Tryd.ntmps7
    go_wp2_with (go_at_call 10; refine (C0 _ (Ext.refl _)).mono ?_; rintro e w1 ⟨rfl, hE1, _⟩)
    go_ret
    exact ⟨rfl, hE1⟩
  obtain rfl := Decidable.of_not_not h12
  have heq : ((n1 : Int) != (n1 : Int)) = false := by simp
  by_cases h13 : ¬ n1 = n3
  · have hne : ((n1 : Int) != (n3 : Int)) = true := by simpa using fun h => h13 (by omega)
    go_enter Tryd.func7, Tryd.ntmps7
    go_wp2_with (go_at_call 10; refine (C0 _ (Ext.refl _)).mono ?_; rintro e w1 ⟨rfl, hE1, _⟩)
    go_ret
    exact ⟨rfl, hE1⟩
  obtain rfl := Decidable.of_not_not h13
  obtain ⟨n, hn⟩ : ∃ n, n = n1 := ⟨_, rfl⟩
  subst hn
  have hl1 := hb1.1
  have hl2 := hb2.1
  have hl3 := hb3.1
  have hX : (Crc.xors (Crc.xors l1 l2) l3).length = n := by rw [Crc.xors_length (by rw [Crc.xors_length (by omega)]; omega), Crc.xors_length (by omega), hl1]
  have HXG := hide (fun k (hk : k < n) => (show (Crc.xors (Crc.xors l1 l2) l3).getD k 0 = l1.getD k 0 ^^^ l2.getD k 0 ^^^ l3.getD k 0 by
    rw [Crc.xors_get k (by rw [Crc.xors_length (by omega)]; omega) (by omega), Crc.xors_get k (by omega) (by omega)]))
  have HXT := hide (fun k (hk : k < n) => take_snoc (Crc.xors (Crc.xors l1 l2) l3) k (by omega))
  have HSX := hide (Crc.sum_xors l1 l2 l3 (by omega) (by omega))
  have HX := hide hX
  have HB1 := hide hb1
  have HB2 := hide hb2
  have HB3 := hide hb3
  have hlx : (Crc.xors (Crc.xors l1 l2) l3).length ≤ 3000 := by omega
  generalize Crc.xors (Crc.xors l1 l2) l3 = X at *
  clear hb1 hb2 hb3 hX hl1 hl2 hl3
  go_enter Tryd.func7, Tryd.ntmps7
  go_wp2_with (go_at_call 10; refine (C0 _ (Ext.refl _)).mono ?_; rintro e w1 ⟨rfl, hE1, _⟩)
  go_loopw [7, 8] (fun v i wr => ∃ k : Nat, k ≤ n ∧ i = .int .i64 k ∧ OwnB wr w.heap.size v (X.take k) ∧ Ext w wr) (fun _ i _ => n - (intOf i).toNat)
  case atStart => exact ⟨0, by omega, rfl, OwnB.nil _ _, hE1⟩
  case round =>
    obtain ⟨k, hk, rfl, hown, hE⟩ := hrel
    by_cases hlt : k < n
    · rcases HB1.out.2 with h00 | ⟨g1, o1, rfl, hg1, hcell1⟩
      · omega
      rcases HB2.out.2 with h00 | ⟨g2, o2, rfl, hg2, hcell2⟩
      · omega
      rcases HB3.out.2 with h00 | ⟨g3, o3, rfl, hg3, hcell3⟩
      · omega
      have HC3 := hide (fun W (hW : Ext w W) => (show W.cell? ⟨g1, o1 + k, none⟩ = some (.int .u8 ((l1.getD k 0).toNat : Int)) ∧ W.cell? ⟨g2, o2 + k, none⟩ = some (.int .u8 ((l2.getD k 0).toNat : Int)) ∧ W.cell? ⟨g3, o3 + k, none⟩ = some (.int .u8 ((l3.getD k 0).toNat : Int)) from
        ⟨by rw [hW.cell hg1]; exact hcell1 k hlt, by rw [hW.cell hg2]; exact hcell2 k hlt, by rw [hW.cell hg3]; exact hcell3 k hlt⟩))
      have HT := hide (HXT.out k hlt)
      rw [HXG.out k hlt] at HT
      clear hcell1 hcell2 hcell3
      have q1 := u8_xor_byte (l1.getD k 0) (l2.getD k 0)
      have q2 := u8_xor_byte (l1.getD k 0 ^^^ l2.getD k 0) (l3.getD k 0)
      have hlk : (X.take k).length + 1 ≤ 140737488355328 := by rw [List.length_take]; omega
      generalize l1.getD k 0 ^^^ l2.getD k 0 ^^^ l3.getD k 0 = t at *
      generalize l1.getD k 0 ^^^ l2.getD k 0 = u at *
      generalize l1.getD k 0 = x at *
      generalize l2.getD k 0 = y at *
      generalize l3.getD k 0 = z at *
      have hk0 : (0 : Int) ≤ k := by omega
      have hk1 : (k : Int) < n := by omega
      have hEa : Ext wr (wr.alloc (.cells #[.int .u8 (t.toNat : Int)] 5)).drew := (extNew wr _).drew
      have hEb : Ext w (wr.alloc (.cells #[.int .u8 (t.toNat : Int)] 5)).drew := hE.trans hEa
      have hoa := hown.ext hEa
      have hba : Bytes (wr.alloc (.cells #[.int .u8 (t.toNat : Int)] 5)).drew (wr.alloc (.cells #[.int .u8 (t.toNat : Int)] 5)).drew.heap.size (some ⟨wr.heap.size, 0, none⟩) 1 [t] := bytesNew wr [t] _ 5 (0, 0) rfl 1 rfl
      go_wp2
      go_region_held3 (fun W => W.cell? ⟨g1, o1 + k, none⟩ = some (.int .u8 (x.toNat : Int)) ∧ W.cell? ⟨g2, o2 + k, none⟩ = some (.int .u8 (y.toNat : Int)) ∧ W.cell? ⟨g3, o3 + k, none⟩ = some (.int .u8 (z.toNat : Int)))
        (first | exact HC3.out _ hE.drew | exact HC3.out _ hEb | exact HC3.out _ (hoa.below hEb hg5 hEb.le))
        ((refine step_app rfl (.tmp 34) (.tmp 49) rfl rfl hoa rfl hba hlk hEb.le ?_; intro v5 w5 hown5 hg5))
      have hE5 : Ext w w5 := hoa.below hEb hg5 hEb.le
      rw [← HT.out] at hown5
      go_wp2
      go_roundw
      case rel => exact ⟨k + 1, by omega, by go_num, hown5, hE5⟩
      case measure => simp [intOf]; omega
    · obtain rfl : k = n := by omega
      rw [List.take_of_length_le (by rw [HX.out]; omega)] at hown
      obtain ⟨Ax, nx, cx, rfl, _, hnx, hbx⟩ := hown.form'
      have htr := hE.tab ht h0
      have C1 := sum_gives c1 (by unfold maxLen; omega) htr.pos htr (hE.bytes HB1.out)
      have C2 := sum_gives c2 (by unfold maxLen; omega) htr.pos htr (hE.bytes HB2.out)
      have C3 := sum_gives c3 (by unfold maxLen; omega) htr.pos htr (hE.bytes HB3.out)
      have C4 := sum_gives cx (by unfold maxLen; omega) htr.pos htr hbx
      rw [HSX.out] at C4
      have s1 := Crc.sum_le l1
      have s2 := Crc.sum_le l2
      have s3 := Crc.sum_le l3
      generalize Crc.sum l1 = S1 at *
      generalize Crc.sum l2 = S2 at *
      generalize Crc.sum l3 = S3 at *
      have x1 := u32_xor_nat S1 S2 (by omega) (by omega)
      have x2 := u32_xor_nat (S1 ^^^ S2) S3 (Nat.xor_lt_two_pow (n := 32) (by omega) (by omega)) (by omega)
      generalize S1 ^^^ S2 ^^^ S3 = T at *
      clear hown htr
      go_wp2_with fail
      refine (C4 _ (Ext.refl _)).mono ?_
      rintro e w3 ⟨rfl, hE3, _⟩
      go_wp2_with fail
      refine (C1 _ hE3).mono ?_
      rintro e w4 ⟨rfl, hE4, _⟩
      go_wp2_with fail
      refine (C2 _ hE4).mono ?_
      rintro e w5 ⟨rfl, hE5, _⟩
      go_wp2_with fail
      refine (C3 _ hE5).mono ?_
      rintro e w6 ⟨rfl, hE6, _⟩
      go_wp2
      go_ret
      exact ⟨rfl, hE.trans hE6⟩
end Go.Proofs.YtcoegdkkogoaiaaDoor
