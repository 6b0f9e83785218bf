/- Contracts of the document's reader: Get, Skip, Unary, Pad. -/
import Derived.Test.YtolahdofglmanaaBitRefR
namespace Go.Proofs.Ytolahdofglmanaa
open Go.RowKit

theorem Bit.getNum_peek (l : List UInt8) (q k : Nat) (hk : k ≤ 64) (hs : k ≤ 8 * l.length - q) : Bit.getNum l q (k : Int) = Bit.peekNum l q (k : Int) := by
  have h1 : Bit.getErr (8 * l.length - q) (k : Int) = 0 := by unfold Bit.getErr; rw [if_pos ⟨by omega, by omega⟩, if_pos (by omega)]
  unfold Bit.getNum Bit.peekNum
  rw [h1, if_pos rfl, if_pos ⟨by omega, by omega⟩, Int.toNat_natCast, Nat.min_eq_left hs, Nat.sub_self, Nat.pow_zero, Nat.mul_one]

set_option maxHeartbeats 1000000 in
theorem refGet_any {w : World} {base g q : Nat} {l : List UInt8} (h : RefR w base g l q) (n : Int) :
    Calls Try.prog 20 #[.pointer (some ⟨g, 0, none⟩), .int .i64 n] w fun e w' =>
      e = .returned (.tuple #[.int .u64 ((Bit.getNum l q n : Nat) : Int), .int .i64 (Bit.getErr (8 * l.length - q) n)]) ∧ RefR w' base g l (Bit.getTo (8 * l.length - q) q n) ∧ Mod w w' g none := by
  by_cases hbad : 0 ≤ n ∧ n ≤ 64
  · obtain ⟨h0, h1⟩ := hbad
    obtain ⟨k, rfl⟩ := Int.eq_ofNat_of_zero_le h0
    have hk : k ≤ 64 := by omega
    by_cases hs : k ≤ 8 * l.length - q
    · have HE := hide (show Bit.getErr (8 * l.length - q) (k : Int) = 0 by unfold Bit.getErr; rw [if_pos ⟨h0, h1⟩, if_pos (by omega)])
      have HN := hide (Bit.getNum_peek l q k hk hs)
      have HT := hide (show Bit.getTo (8 * l.length - q) q (k : Int) = q + k by unfold Bit.getTo; rw [HE.out]; simp)
      go_enter Try.func20, Try.ntmps20
      go_wp2_with fail
      refine (refLeft_any h).mono ?_
      rintro e w2 ⟨rfl, hQ2⟩
      have hR2 := h.ext hQ2.ext
      clear h
      go_wp2_with fail
      refine (refPeek_any hR2 (k : Int)).mono ?_
      rintro e w3 ⟨rfl, hQ3⟩
      have hR3 := hR2.ext hQ3.ext
      obtain ⟨A, c, c0, c1, f1, hq, hl, _⟩ := hR3.cells
      have HR := hide hR3
      clear hR2 hR3 c0
      generalize Bit.peekNum l q (k : Int) = X at *
      generalize Bit.peekThere (8 * l.length - q) (k : Int) = T at *
      go_wp2
      go_ret2
      have hM := HR.out.moved (q' := q + k) (x := (q : Int) + k) (by omega) (by omega)
      exact ⟨ret_nverr (by rw [HN.out]) HE.out.symm, by rw [HT.out]; exact hM.1, (Mod.ofExt (hQ2.trans hQ3).ext).trans hM.2 (.inl rfl)⟩
    · have HE := hide (show Bit.getErr (8 * l.length - q) (k : Int) = 1 by unfold Bit.getErr; rw [if_pos ⟨h0, h1⟩, if_neg (by omega)])
      have HN := hide (show Bit.getNum l q (k : Int) = 0 by unfold Bit.getNum; rw [HE.out]; simp)
      have HT := hide (show Bit.getTo (8 * l.length - q) q (k : Int) = q by unfold Bit.getTo; rw [HE.out]; simp)
      have HR := hide h
      have hs' : ¬ ((k : Int) ≤ ((8 * l.length - q : Nat) : Int)) := by omega
      go_enter Try.func20, Try.ntmps20
      go_wp2_with fail
      refine (refLeft_any h).mono ?_
      rintro e w2 ⟨rfl, hQ2⟩
      go_wp2
      go_ret2
      exact ⟨ret_nverr (by rw [HN.out]; rfl) HE.out.symm, by rw [HT.out]; exact HR.out.ext hQ2.ext, Mod.ofExt hQ2.ext⟩
  · have HE := hide (show Bit.getErr (8 * l.length - q) n = 13 by unfold Bit.getErr; rw [if_neg hbad])
    have HN := hide (show Bit.getNum l q n = 0 by unfold Bit.getNum; rw [HE.out]; simp)
    have HT := hide (show Bit.getTo (8 * l.length - q) q n = q by unfold Bit.getTo; rw [HE.out]; simp)
    have HR := hide h
    by_cases h0 : n < 0
    · clear hbad
      go_enter Try.func20, Try.ntmps20
      go_wp2
      go_ret2
      exact ⟨ret_nverr (by rw [HN.out]; rfl) HE.out.symm, by rw [HT.out]; exact HR.out, Mod.refl _ _ _⟩
    · have h1 : 64 < n := by omega
      clear hbad
      go_enter Try.func20, Try.ntmps20
      go_wp2
      go_ret2
      exact ⟨ret_nverr (by rw [HN.out]; rfl) HE.out.symm, by rw [HT.out]; exact HR.out, Mod.refl _ _ _⟩

set_option maxHeartbeats 1000000 in
theorem refSkip_any {w : World} {base g q : Nat} {l : List UInt8} (h : RefR w base g l q) (n : Int) :
    Calls Try.prog 24 #[.pointer (some ⟨g, 0, none⟩), .int .i64 n] w fun e w' =>
      e = .returned (.int .i64 (Bit.skipErr (8 * l.length - q) n)) ∧ RefR w' base g l (Bit.skipTo (8 * l.length - q) q n) ∧ Mod w w' g none := by
  by_cases h0 : 0 ≤ n
  · obtain ⟨k, rfl⟩ := Int.eq_ofNat_of_zero_le h0
    by_cases hs : k ≤ 8 * l.length - q
    · have HE := hide (show Bit.skipErr (8 * l.length - q) (k : Int) = 0 by unfold Bit.skipErr; rw [if_pos h0, if_pos (by omega)])
      have HT := hide (show Bit.skipTo (8 * l.length - q) q (k : Int) = q + k by unfold Bit.skipTo; rw [HE.out]; simp)
      go_enter Try.func24, Try.ntmps24
      go_wp2_with fail
      refine (refLeft_any h).mono ?_
      rintro e w2 ⟨rfl, hQ2⟩
      have hR := h.ext hQ2.ext
      obtain ⟨A, c, c0, c1, f1, hq, hl, _⟩ := hR.cells
      have HR := hide hR
      clear h hR c0
      go_wp2
      go_ret
      have hM := HR.out.moved (q' := q + k) (x := (q : Int) + k) (by omega) (by omega)
      refine ⟨ret_i64 HE.out.symm, by rw [HT.out]; exact hM.1, ?_⟩
      exact (Mod.ofExt hQ2.ext).trans hM.2 (.inl rfl)
    · have HE := hide (show Bit.skipErr (8 * l.length - q) (k : Int) = 1 by unfold Bit.skipErr; rw [if_pos h0, if_neg (by omega)])
      have HT := hide (show Bit.skipTo (8 * l.length - q) q (k : Int) = q by unfold Bit.skipTo; rw [HE.out]; simp)
      have HR := hide h
      have hs' : ¬ ((k : Int) ≤ ((8 * l.length - q : Nat) : Int)) := by omega
      go_enter Try.func24, Try.ntmps24
      go_wp2_with fail
      refine (refLeft_any h).mono ?_
      rintro e w2 ⟨rfl, hQ2⟩
      go_wp2
      go_ret
      exact ⟨ret_i64 HE.out.symm, by rw [HT.out]; exact HR.out.ext hQ2.ext, Mod.ofExt hQ2.ext⟩
  · have HE := hide (show Bit.skipErr (8 * l.length - q) n = 13 by unfold Bit.skipErr; rw [if_neg h0])
    have HT := hide (show Bit.skipTo (8 * l.length - q) q n = q by unfold Bit.skipTo; rw [HE.out]; simp)
    have HR := hide h
    go_enter Try.func24, Try.ntmps24
    go_wp2
    go_ret
    exact ⟨ret_i64 HE.out.symm, by rw [HT.out]; exact HR.out, Mod.refl _ _ _⟩

set_option maxHeartbeats 1000000 in
theorem refUnaryR_any {w : World} {base g q : Nat} {l : List UInt8} (h : RefR w base g l q) :
    Calls Try.prog 22 #[.pointer (some ⟨g, 0, none⟩)] w fun e w' =>
      e = .returned (.tuple #[.int .i64 ((Bit.unNum l q : Nat) : Int), .int .i64 (Bit.unErr l q)]) ∧ RefR w' base g l (Bit.unTo l q) ∧ Mod w w' g none := by
  go_enter Try.func22, Try.ntmps22
  go_wp2
  go_loopw [4] (fun i wr => ∃ j : Nat, q + j ≤ 8 * l.length ∧ i = .int .i64 (j : Int) ∧ (∀ t, t < j → Bit.at_ l (q + t) = false) ∧ Qt w wr) (fun i _ => 8 * l.length - (intOf i).toNat)
  case atStart =>
    obtain ⟨A, c, _, _, _, hq, _⟩ := h.cells
    exact ⟨0, by omega, rfl, fun t ht => by omega, Qt.refl _⟩
  case round =>
    obtain ⟨j, hj, rfl, hz, hQ⟩ := hrel
    have hR := h.ext hQ.ext
    obtain ⟨A, c, c0, c1, f1, hq, hl, hbb⟩ := hR.cells
    have HR := hide hR
    have hLb : ((8 * l.length : Nat) : Int) ≤ 8000000 := by omega
    clear hR h
    by_cases hlt : q + j < 8 * l.length
    · obtain ⟨b, off, rfl, _, hc⟩ := spread_cell (i := q + j) hbb hlt
      have hix : (q : Int) + j < ((8 * l.length : Nat) : Int) := by omega
      clear hbb
      by_cases hbit : Bit.at_ l (q + j) = true
      · have hZ : Bit.zs l q = j := Bit.zeros_eq (by omega) hz (fun _ => hbit)
        have hne : Bit.zs l q ≠ 8 * l.length - q := by omega
        have HN := hide (show Bit.unNum l q = j by unfold Bit.unNum; rw [if_neg hne, hZ])
        have HE := hide (show Bit.unErr l q = 0 by unfold Bit.unErr; rw [if_neg hne])
        have HT := hide (show Bit.unTo l q = q + j + 1 by unfold Bit.unTo; rw [if_neg hne, hZ])
        have hq1 : q + j + 1 ≤ 8 * l.length := by omega
        have HQ1 := hide hq1
        rw [hbit] at hc
        have HQ := hide hQ
        clear hz hbit hne hZ hq1 hj hQ
        generalize hLL : 8 * l.length = LL at *
        have HLL := hide hLL
        clear hLL
        go_wp2
        go_quiet (fail)
        go_wp2
        go_quiet (fail)
        go_wp2
        go_ret2
        have hM := HR.out.moved (q' := q + j + 1) (x := (q : Int) + j + 1) (by rw [HLL.out]; exact HQ1.out) (by omega)
        exact ⟨ret_nverr (by rw [HN.out]) HE.out.symm, by rw [HT.out]; exact hM.1.ext ((Ext.refl _).drewN _), (Mod.ofExt HQ.out.ext).trans (hM.2.trans (Mod.ofExt ((Ext.refl _).drewN _)) (.inl rfl)) (.inl rfl)⟩
      · have hbit' : Bit.at_ l (q + j) = false := by simpa using hbit
        rw [hbit'] at hc
        have HZ := hide (show ∀ t, t < j + 1 → Bit.at_ l (q + t) = false from fun t ht => by
          rcases Nat.lt_or_ge t j with h | h
          · exact hz t h
          · obtain rfl : t = j := by omega
            exact hbit')
        clear hz hbit hbit'
        generalize hLL : 8 * l.length = LL at *
        have HLL := hide hLL
        clear hLL
        go_wp2
        go_quiet (fail)
        go_wp2
        go_quiet (fail)
        go_wp2
        go_roundw
        case rel => exact ⟨j + 1, by omega, by go_num, HZ.out, hQ.drewN _⟩
        case measure => simp [intOf]; omega
    · have hZ : Bit.zs l q = 8 * l.length - q := Bit.zeros_eq (by omega) (fun t ht => hz t (by omega)) (fun h => by omega)
      have HN := hide (show Bit.unNum l q = 0 by unfold Bit.unNum; rw [if_pos hZ])
      have HE := hide (show Bit.unErr l q = 1 by unfold Bit.unErr; rw [if_pos hZ])
      have HT := hide (show Bit.unTo l q = q by unfold Bit.unTo; rw [if_pos hZ])
      have hix : ¬ ((q : Int) + j < ((8 * l.length : Nat) : Int)) := by omega
      clear hz hZ hbb
      generalize hLL : 8 * l.length = LL at *
      have HLL := hide hLL
      clear hLL
      go_wp2
      go_quiet (fail)
      go_wp2
      go_ret2
      exact ⟨ret_nverr (by rw [HN.out]; rfl) HE.out.symm, by rw [HT.out]; exact HR.out.ext ((Ext.refl wr).drewN _), Mod.ofExt (hQ.drewN _).ext⟩

set_option maxHeartbeats 1000000 in
theorem refPad_any {w : World} {base g q : Nat} {l : List UInt8} (h : RefR w base g l q) :
    Calls Try.prog 28 #[.pointer (some ⟨g, 0, none⟩)] w fun e w' => e = .returned (.int .i64 (Bit.padErr l q)) ∧ Qt w w' := by
  by_cases h8 : 8 * l.length - q < 8
  · have h8' : ¬ (8 ≤ ((8 * l.length - q : Nat) : Int)) := by omega
    go_enter Try.func28, Try.ntmps28
    go_wp2_with fail
    refine (refLeft_any h).mono ?_
    rintro e w2 ⟨rfl, hQ2⟩
    have hR := h.ext hQ2.ext
    obtain ⟨A, c, c0, c1, f1, hq, hl, hbb⟩ := hR.cells
    go_wp2
    go_loop [3] (fun i => ∃ j : Nat, q + j ≤ 8 * l.length ∧ i = .int .i64 ((q + j : Nat) : Int) ∧ (∀ t, t < j → Bit.at_ l (q + t) = false)) (fun i => 8 * l.length - (intOf i).toNat)
    case atStart => exact ⟨0, by omega, rfl, fun t ht => by omega⟩
    case round =>
      obtain ⟨j, hj, rfl, hz⟩ := hrel
      have hLb : ((8 * l.length : Nat) : Int) ≤ 8000000 := by omega
      by_cases hlt : q + j < 8 * l.length
      · obtain ⟨b, off, rfl, _, hc⟩ := spread_cell (i := q + j) hbb hlt
        have hix : ((q + j : Nat) : Int) < ((8 * l.length : Nat) : Int) := by omega
        clear hbb hR h
        by_cases hbit : Bit.at_ l (q + j) = true
        · have hZ : Bit.zs l q = j := Bit.zeros_eq (by omega) hz (fun _ => hbit)
          have HE := hide (show Bit.padErr l q = 2 by unfold Bit.padErr; rw [if_neg (fun h => by omega)])
          rw [hbit] at hc
          clear hz hbit hZ
          generalize q + j = qj at *
          generalize hLL : 8 * l.length = LL at *
          clear hLL
          go_wp2
          go_ret
          exact ⟨ret_i64 HE.out.symm, hQ2⟩
        · have hbit' : Bit.at_ l (q + j) = false := by simpa using hbit
          rw [hbit'] at hc
          have HZ := hide (show ∀ t, t < j + 1 → Bit.at_ l (q + t) = false from fun t ht => by
            rcases Nat.lt_or_ge t j with h | h
            · exact hz t h
            · obtain rfl : t = j := by omega
              exact hbit')
          clear hz hbit hbit'
          generalize hLL : 8 * l.length = LL at *
          have HLL := hide hLL
          clear hLL
          go_wp2
          go_round
          case rel => exact ⟨j + 1, by have := HLL.out; omega, by go_num, HZ.out⟩
          case measure => have := HLL.out; simp [intOf]; omega
      · have hZ : Bit.zs l q = 8 * l.length - q := Bit.zeros_eq (by omega) (fun t ht => hz t (by omega)) (fun h => by omega)
        have HE := hide (show Bit.padErr l q = 0 by unfold Bit.padErr; rw [if_pos ⟨h8, hZ⟩])
        have hix : ¬ (((q + j : Nat) : Int) < ((8 * l.length : Nat) : Int)) := by omega
        clear hz hZ hbb hR h
        go_wp2
        go_ret
        exact ⟨ret_i64 HE.out.symm, hQ2⟩
  · have HE := hide (show Bit.padErr l q = 2 by unfold Bit.padErr; rw [if_neg (fun h => h8 h.1)])
    have h8' : 8 ≤ ((8 * l.length - q : Nat) : Int) := by omega
    clear h8
    go_enter Try.func28, Try.ntmps28
    go_wp2_with fail
    refine (refLeft_any h).mono ?_
    rintro e w2 ⟨rfl, hQ2⟩
    go_wp2
    go_ret
    exact ⟨ret_i64 HE.out.symm, hQ2⟩
end Go.Proofs.Ytolahdofglmanaa
