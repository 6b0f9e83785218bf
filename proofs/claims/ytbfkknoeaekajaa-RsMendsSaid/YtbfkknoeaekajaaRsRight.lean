/- The document's product of a matrix and parts. The document's Parity. The document's Right. -/
import Derived.Test.YtbfkknoeaekajaaRsVal
import Derived.Test.YtbfkknoeaekajaaMatTbl
import Derived.Test.YtbfkknoeaekajaaMatDef
import Derived.Test.YtbfkknoeaekajaaMatCauM
namespace Go.Proofs.Ytbfkknoeaekajaa
open Go.RowKit

/-- One place of one sum. -/
def cellL (c : Nat) (f : Mat.M) (ls : List (List UInt8)) (i n : Nat) : UInt8 := Mat.sum c fun j => Mat.fm (f i j) ((ls.getD j []).getD n 0)
def timesL (r c : Nat) (f : Mat.M) (ls : List (List UInt8)) : List (List UInt8) := (List.range r).map fun i => rowB (ls.getD 0 []).length (cellL c f ls i)
theorem timesL_succ (r c : Nat) (f : Mat.M) (ls : List (List UInt8)) : timesL (r + 1) c f ls = timesL r c f ls ++ [rowB (ls.getD 0 []).length (cellL c f ls r)] := by simp [timesL, List.range_succ]
theorem timesL_len (r c : Nat) (f : Mat.M) (ls : List (List UInt8)) : (timesL r c f ls).length = r := by simp [timesL]
/-- Behind a call that makes rows, in new memory. -/
def MadeN (w : World) (ls : List (List UInt8)) (e : Ending) (w' : World) : Prop := ∃ v, e = .returned v ∧ OwnN w' w.heap.size v ls ∧ Ext w w'
/-- Behind a call that makes rows. -/
def MadeP (w : World) (ls : List (List UInt8)) (e : Ending) (w' : World) : Prop := ∃ v, e = .returned v ∧ OwnP w' w.heap.size v ls ∧ Ext w w'

set_option maxHeartbeats 4000000 in
set_option maxRecDepth 100000 in
theorem refTimes_any (m : MV) (A1 A2 : Option Addr) (k1 k2 : Nat) (ls : List (List UInt8)) (w : World) (hm : m.may = true) (h1 : Bytes w w.heap.size A1 m.l.length m.l) (h2 : RowsAt w w.heap.size A2 ls.length ls)
    (hc : m.c.toNat ≤ ls.length) (h0 : 0 < ls.length) (hal : alike ls) (hl0 : (ls.getD 0 []).length ≤ 1000000) :
    Calls Try.prog 45 #[.agg #[.int .i64 m.r, .int .i64 m.c, .slice A1 m.l.length k1], .slice A2 ls.length k2] w (MadeN w (timesL m.r.toNat m.c.toNat m.at ls)) := by
  obtain ⟨q1, q2, q3, q4, q5⟩ := MV.may_iff.1 hm
  have HA := hide (show ∀ i j, m.at i j = m.l.getD (i * m.c.toNat + j) 0 from fun _ _ => rfl)
  have hE := extNew w (.cells #[.int .i64 m.r, .int .i64 m.c, .slice A1 m.l.length k1] 42)
  have hWm := Whole.new w 42 #[.int .i64 m.r, .int .i64 m.c, .slice A1 m.l.length k1]
  generalize m.at = f at *
  obtain ⟨r, c, l⟩ := m
  dsimp only at *
  obtain ⟨r, rfl⟩ := Int.eq_ofNat_of_zero_le q1
  obtain ⟨c, rfl⟩ := Int.eq_ofNat_of_zero_le q3
  simp only [Int.toNat_natCast] at *
  have l5 : l.length = r * c := by omega
  have hr255 : r ≤ 255 := by omega
  have hc255 : c ≤ 255 := by omega
  have HL := hide l5
  have HAL := hide hal
  clear q1 q2 q3 q4 q5 l5 hm hal
  obtain ⟨N, hN⟩ : ∃ N, N = (ls.getD 0 []).length := ⟨_, rfl⟩
  rw [← hN] at hl0
  have HN := hide hN
  clear hN
  go_enter Try.func45, Try.ntmps45
  go_wp2_with fail
  go_loopw [5, 6] (fun v i wr => ∃ j : Nat, j ≤ r ∧ i = .int .i64 (j : Int) ∧ OwnN wr (w.heap.size + 1) v (timesL j c f ls) ∧ Ext (w.alloc (.cells #[.int .i64 r, .int .i64 c, .slice A1 l.length k1] 42)) wr) (fun _ i _ => r - (intOf i).toNat)
  case atStart => exact ⟨0, by omega, rfl, OwnN.nil _ _, Ext.refl _⟩
  case round =>
    obtain ⟨i, hi, rfl, hO, hEr⟩ := hrel
    have d0 := (hWm.ext hEr).at 0 rfl
    by_cases hlt : i < r
    · obtain ⟨wa, rfl⟩ : ∃ W, W = wr := ⟨_, rfl⟩
      go_wp2_with fail
      go_loopw [7, 8] (fun v n wr => ∃ j : Nat, j ≤ N ∧ n = .int .i64 (j : Int) ∧ OwnB wr wa.heap.size v (rowB j (cellL c f ls i)) ∧ Ext wa wr) (fun _ n _ => N - (intOf n).toNat)
      case atStart => exact ⟨0, by omega, rfl, OwnB.nil _ _, Ext.refl _⟩
      case round =>
        obtain ⟨n, hn, rfl, hOs, hEs⟩ := hrel
        rcases (h2.ext ((hE.trans hEr).trans hEs)).2 with h00 | ⟨b, o, rfl, hB, hcell⟩
        · omega
        obtain ⟨x0, c0, Ax0, kx0, hx0, _, _, _⟩ := hcell 0 h0
        rw [Nat.add_zero] at c0
        subst hx0
        rw [← HN.out] at c0
        have hls0 : (0 : Int) < (ls.length : Int) := by omega
        have HCL := hide hcell
        clear hcell
        by_cases hnt : n < N
        · obtain ⟨wb, rfl⟩ : ∃ W, W = wr := ⟨_, rfl⟩
          have hnt' : (n : Int) < (N : Int) := by omega
          go_wp2_with fail
          go_loopw [9, 10] (fun x j wq => ∃ q : Nat, q ≤ c ∧ j = .int .i64 (q : Int) ∧ x = .int .u8 ((cellL q f ls i n).toNat : Int) ∧ Ext wb wq) (fun _ j _ => c - (intOf j).toNat)
          case atStart => exact ⟨0, by omega, rfl, rfl, Ext.refl _⟩
          case round =>
            obtain ⟨q, hq, rfl, rfl, hEq⟩ := hrel
            have hWq := hWm.ext ((hEr.trans hEs).trans hEq)
            have d1 := hWq.at 1 rfl
            have d2 := hWq.at 2 rfl
            by_cases hqt : q < c
            · obtain ⟨x, kx, Ax, kkx, hx, _, _, hx4⟩ := HCL.out q (by omega)
              subst hx
              have kx' := (hEq.cell (i := o + q) hB).trans kx
              have hlen : (ls.getD q []).length = N := by rw [HAL.out q (by omega), ← HN.out]
              rw [hlen] at kx'
              rcases hx4.2 with h00 | ⟨bx, ox, rfl, hBx, hcx⟩
              · omega
              have kn := (hEq.cell (i := ox + n) hBx).trans (hcx n (by omega))
              have hia : i * c + q < r * c := by
                have : (i + 1) * c ≤ r * c := Nat.mul_le_mul_right _ hlt
                rw [Nat.add_mul, Nat.one_mul] at this
                omega
              have hrc : r * c ≤ 65025 := Nat.mul_le_mul hr255 hc255
              have hEall := (hE.trans hEr).trans (hEs.trans hEq)
              obtain ⟨_, h1'⟩ := hEall.bytes h1
              rcases h1' with h00 | ⟨g1, o1, hA1, _, hc1⟩
              · have := HL.out; omega
              subst hA1
              have m1 := hc1 (i * c + q) (by have := HL.out; omega)
              rw [← HA.out] at m1
              have C := fun m => refMul_any (f i q).toNat ((ls.getD q []).getD n 0).toNat (wr.drewN m) (Mat.lt _) (Mat.lt _)
              have HS := hide (show cellL (q + 1) f ls i n = cellL q f ls i n ^^^ Mat.fm (f i q) ((ls.getD q []).getD n 0) from rfl)
              have hxor := u8_xor_byte8 (cellL q f ls i n) (Mat.fm (f i q) ((ls.getD q []).getD n 0))
              rw [Mat.fm_toNat] at hxor
              have hP1 : i * c ≤ 65025 := by omega
              have hm1 : IntKind.i64.wrap ((i : Int) * (c : Int)) = ((i * c : Nat) : Int) := by rw [(Int.natCast_mul i c).symm, IntKind.wrap_i64]; omega
              have hla : (l.length : Int) = ((r * c : Nat) : Int) := by rw [HL.out]
              generalize i * c = P at *
              have g1a : ((P : Int) + (q : Int)) < (l.length : Int) := by omega
              have g1b : (0 : Int) ≤ ((P : Int) + (q : Int)) := by omega
              have hq0 : (0 : Int) ≤ (q : Int) := by omega
              have hql : (q : Int) < (ls.length : Int) := by omega
              have hn0 : (0 : Int) ≤ (n : Int) := by omega
              clear hla hc1 hcx hia hrc hlen hx4 kx c0 h1 h2 hO hOs
              generalize Gf.mul (f i q).toNat ((ls.getD q []).getD n 0).toNat = y at *
              generalize cellL q f ls i n = S at *
              generalize (ls.getD q []).getD n 0 = xb at *
              generalize f i q = xa at *
              generalize Mat.fm xa xb = z at *
              generalize S ^^^ z = T at *
              go_wp2_with fail
              go_quiet (first | (go_at_call 57; exact Calls.quiet_of ((C _).mono fun _ _ ⟨he, hw⟩ => ⟨he, 0, hw.symm⟩)))
              go_wp2
              go_roundw
              case rel => exact ⟨q + 1, by omega, by go_num, by rw [HS.out], hEq.drewN _⟩
              case measure => simp [intOf]; omega
            · obtain rfl : c = q := by omega
              have HB := hide (rowB_succ n (cellL c f ls i))
              have hfit : (rowB n (cellL c f ls i)).length + 1 ≤ 140737488355328 := by rw [rowB_len]; omega
              obtain ⟨bt, hbt⟩ : ∃ bt, bt = cellL c f ls i n := ⟨_, rfl⟩
              rw [← hbt] at HB ⊢
              have hb1 := bytesNew wr [bt] #[.int .u8 (bt.toNat : Int)] 5 (0, 0) rfl 1 rfl
              have hE4 := extNew wr (.cells #[.int .u8 (bt.toNat : Int)] 5)
              have hO1 := (hOs.ext hEq).ext hE4
              have hB1 : wa.heap.size ≤ (wr.alloc (.cells #[.int .u8 (bt.toNat : Int)] 5)).heap.size := ((hEs.trans hEq).trans hE4).le
              clear hbt h1 h2 hO
              go_wp2_with (at_builtin; refine wpList_appAt rfl (.tmp 51) (.tmp 53) rfl rfl hO1 rfl hb1 hfit hB1 ?_; intro v4 w4 hO4 hG4 hN4)
              go_roundw
              case rel => exact ⟨n + 1, by omega, by go_num, by rw [HB.out]; exact hO4, Below.grown ((hEs.trans hEq).trans hE4) hG4 ((hEs.trans hEq).trans hE4).le (fun k hk => (hO1.lt k hk).1)⟩
              case measure => simp [intOf]; omega
        · obtain rfl : N = n := by omega
          have hnt' : ¬ ((N : Int) < (N : Int)) := by omega
          obtain ⟨A7, k7, hv7, hk7, hm7, hB7⟩ := hOs.form
          rw [rowB_len] at hv7 hk7
          subst hv7
          have hrow := hOs.row
          have hOe := hO.ext hEs
          have hcl : Clear u5 (.slice A7 N k7) := Clear.own hOs (fun k hk => (hO.lt k hk).2)
          have hnw : NewX (w.heap.size + 1) (.slice A7 N k7) := (NewX.own hOs).mono (by have := hEr.le; rwa [World.size_alloc] at this)
          have hbase : w.heap.size + 1 ≤ wr.heap.size := by
            have := (hEr.trans hEs).le
            simpa using this
          have hln : (timesL i c f ls).length ≤ 1000 := by rw [timesL_len]; omega
          have hE4 := extNew wr (.cells #[.slice A7 N k7] 35)
          clear h1 h2
          go_wp2_with (at_builtin; refine wpList_appN rfl (.tmp 55) (.tmp 57) rfl rfl hOe hrow hcl hnw rfl hln hbase ?_; intro v4 w4 hO4 hG4)
          go_roundw
          case rel => exact ⟨i + 1, by omega, by go_num, by rw [timesL_succ, ← HN.out]; exact hO4, Below.grown ((hEr.trans hEs).trans hE4) hG4 ((hEr.trans hEs).trans hE4).le (fun k hk => by have := (hO.lt k hk).1; simpa using this)⟩
          case measure => simp [intOf]; omega
    · obtain rfl : r = i := by omega
      clear h1 h2
      go_wp2_with fail
      go_ret
      exact ⟨_, rfl, hO.mono (by omega), hE.trans hEr⟩
end Go.Proofs.Ytbfkknoeaekajaa

namespace Go.Proofs.Ytbfkknoeaekajaa
open Go.RowKit

theorem timesL_congr {r c : Nat} {f g : Mat.M} (ls : List (List UInt8)) (h : ∀ i j, i < r → j < c → f i j = g i j) : timesL r c f ls = timesL r c g ls := by
  refine List.map_congr_left fun i hi => rowB_congr fun n _ => Mat.sum_congr fun j hj => ?_
  rw [h i j (List.mem_range.1 hi) hj]
/-- Behind a call that makes rows and tells an error. -/
def MadePE (w : World) (ls : List (List UInt8)) (err : Int) (e : Ending) (w' : World) : Prop := ∃ v, e = .returned (.tuple #[v, .int .i64 err]) ∧ OwnP w' w.heap.size v ls ∧ Ext w w'
/-- The same, the rows in new memory. -/
def MadeNE (w : World) (ls : List (List UInt8)) (err : Int) (e : Ending) (w' : World) : Prop := ∃ v, e = .returned (.tuple #[v, .int .i64 err]) ∧ OwnN w' w.heap.size v ls ∧ Ext w w'
def parityE (m : Int) (data : List (List UInt8)) : List (List UInt8) × Int := if mayK data.length m = true ∧ alike data then (timesL m.toNat data.length (cauchyF data.length) data, 0) else ([], 13)
theorem mayK_iff {k m : Int} : mayK k m = true ↔ 1 ≤ k ∧ 0 ≤ m ∧ k ≤ 255 ∧ m ≤ 255 - k := by simp [mayK]
theorem cauchyE_of {k m : Nat} (h : k + m ≤ 255) : cauchyE k m = (⟨m, k, cellsOf k (cauchyF k) (m * k)⟩, 0) := by
  unfold cauchyE
  rw [if_pos ⟨by omega, by omega, by omega⟩]
  simp

set_option maxHeartbeats 4000000 in
set_option maxRecDepth 100000 in
theorem refParityN_any (m : Int) (A : Option Addr) (k : Nat) (data : List (List UInt8)) (w : World) (h : RowsAt w w.heap.size A data.length data) (hl : data.length ≤ 1000000) (h0 : (data.getD 0 []).length ≤ 1000000) :
    Calls Try.prog 19 #[.int .i64 m, .slice A data.length k] w (MadeNE w (parityE m data).1 (parityE m data).2) := by
  have M1 := fun W => refMayK_any (data.length : Int) m W (by omega)
  have L1 := fun W h => refAlike_any A k data W h hl
  have HP := hide (show parityE m data = if mayK data.length m = true ∧ alike data then (timesL m.toNat data.length (cauchyF data.length) data, 0) else ([], 13) from rfl)
  by_cases hm : mayK data.length m = true
  · rw [hm] at M1
    by_cases ha : alike data
    · have HR := hide (show parityE m data = (timesL m.toNat data.length (cauchyF data.length) data, 0) by rw [HP.out, if_pos ⟨hm, ha⟩])
      obtain ⟨q1, q2, q3, q4⟩ := mayK_iff.1 hm
      obtain ⟨m, rfl⟩ := Int.eq_ofNat_of_zero_le q2
      have C1 := fun W => refCauchy_E (data.length : Int) (m : Int) W
      rw [cauchyE_of (show data.length + m ≤ 255 by omega)] at C1
      have hX := rect_may (r := m) (c := data.length) (cauchyF data.length) (by omega) (by omega)
      have hT := timesL_congr (r := m) (c := data.length) (f := (⟨m, data.length, cellsOf data.length (cauchyF data.length) (m * data.length)⟩ : MV).at) (g := cauchyF data.length) data (fun i j hi hj => at_cells hi hj)
      have T1 := fun A' k' W hb hr => refTimes_any ⟨m, data.length, cellsOf data.length (cauchyF data.length) (m * data.length)⟩ A' A k' k data W hX hb hr (by simp) (by omega) ha h0
      simp only [Int.toNat_natCast] at T1 HR
      rw [hT] at T1
      simp only [decide_eq_true ha] at L1
      generalize timesL m data.length (cauchyF data.length) data = res at *
      generalize cellsOf data.length (cauchyF data.length) (m * data.length) = cl at *
      clear HP hm ha hX hT q1 q2 q3 q4
      go_enter Try.func19, Try.ntmps19
      go_wp2_with fail
      refine (M1 _).mono ?_
      rintro e w1 ⟨rfl, rfl⟩
      go_wp2_with fail
      refine (L1 _ h).mono ?_
      rintro e w2 ⟨rfl, hE2⟩
      go_wp2_with fail
      refine (C1 _).mono ?_
      rintro e w3 ⟨v, rfl, hO3, hE3⟩
      obtain ⟨A3, n3, c3, rfl, _, _, hB3⟩ := hO3.form'
      have hn3 := hB3.1
      subst hn3
      have hA3 := Whole.new w3 42 #[.int .i64 0, .int .i64 0, .slice none 0 0]
      have k3 := hE2.trans hE3
      dsimp only [matV]
      clear M1 L1 C1 hO3
      go_wp2_with (first
        | (refine wpList_storeW rfl 42 (.tmp 6) (.tmp 23) rfl rfl rfl hA3 rfl mat_info (mat_one rfl) ?_; intro w4 hW4 hG4 hS4; have hE4 : Ext w3 w4 := Below.grown (extNew w3 (.cells #[.int .i64 0, .int .i64 0, .slice none 0 0] 42)) hG4 (extNew w3 (.cells #[.int .i64 0, .int .i64 0, .slice none 0 0] 42)).le (fun k hk => (by cases hk; exact Nat.le_refl _)); clear hS4)
        | (refine wpList_load_row rfl 42 (.tmp 6) rfl _ rfl _ _ _ _ hW4 Try.underlying42 rfl mat_info ?_))
      refine (T1 A3 c3 w4 (hE4.bytes hB3) (h.ext (k3.trans hE4))).mono ?_
      rintro e w5 ⟨v5, rfl, hO5, hE5⟩
      go_wp2
      go_ret2
      rw [HR.out]
      exact ⟨_, rfl, hO5.mono (k3.trans hE4).le, (k3.trans hE4).trans hE5⟩
    · have HR := hide (show parityE m data = ([], 13) by rw [HP.out, if_neg]; rintro ⟨_, h⟩; exact ha h)
      simp only [decide_eq_false ha] at L1
      clear HP hm ha
      go_enter Try.func19, Try.ntmps19
      go_wp2_with fail
      refine (M1 _).mono ?_
      rintro e w1 ⟨rfl, rfl⟩
      go_wp2_with fail
      refine (L1 _ h).mono ?_
      rintro e w2 ⟨rfl, hE2⟩
      go_wp2
      go_ret2
      rw [HR.out]
      exact ⟨_, rfl, OwnN.nil _ _, hE2⟩
  · have HR := hide (show parityE m data = ([], 13) by rw [HP.out, if_neg]; rintro ⟨h, _⟩; exact hm h)
    rw [Bool.not_eq_true] at hm
    rw [hm] at M1
    clear HP hm
    go_enter Try.func19, Try.ntmps19
    go_wp2_with fail
    refine (M1 _).mono ?_
    rintro e w1 ⟨rfl, rfl⟩
    go_wp2
    go_ret2
    rw [HR.out]
    exact ⟨_, rfl, OwnN.nil _ _, Ext.refl _⟩
theorem refParity_any (m : Int) (A : Option Addr) (k : Nat) (data : List (List UInt8)) (w : World) (h : RowsAt w w.heap.size A data.length data) (hl : data.length ≤ 1000000) (h0 : (data.getD 0 []).length ≤ 1000000) :
    Calls Try.prog 19 #[.int .i64 m, .slice A data.length k] w (MadePE w (parityE m data).1 (parityE m data).2) :=
  (refParityN_any m A k data w h hl h0).mono fun _ _ ⟨v, he, hO, hE⟩ => ⟨v, he, hO.toP, hE⟩
end Go.Proofs.Ytbfkknoeaekajaa

namespace Go.Proofs.Ytbfkknoeaekajaa
open Go.RowKit

theorem RowsAt.head {w : World} {B n k c : Nat} {A : Option Addr} {ls : List (List UInt8)} (h : RowsAt w B A n ls) (hk : k ≤ n) : RowsAt w B (cutAt A c 0) k (ls.take k) := by
  refine ⟨by rw [List.length_take, h.1]; omega, ?_⟩
  rcases h.2 with h0 | ⟨b, off, rfl, hb, hc⟩
  · exact .inl (by omega)
  · refine .inr ⟨b, off, by simp [cutAt, Addr.add], hb, fun i hi => ?_⟩
    have e : (ls.take k).getD i [] = ls.getD i [] := by simp [List.getD_eq_getElem?_getD, hi]
    rw [e]
    exact hc i (by omega)
theorem RowsAt.tail {w : World} {B n k c : Nat} {A : Option Addr} {ls : List (List UInt8)} (h : RowsAt w B A n ls) (hk : k ≤ n) (hn : n ≤ c) : RowsAt w B (cutAt A c k) (n - k) (ls.drop k) := by
  refine ⟨by rw [List.length_drop, h.1], ?_⟩
  by_cases hkn : k = n
  · exact .inl (by omega)
  rcases h.2 with h0 | ⟨b, off, rfl, hb, hc⟩
  · exact .inl (by omega)
  · refine .inr ⟨b, off + k, by simp [cutAt, show ¬ c = k by omega, Addr.add], hb, fun i hi => ?_⟩
    have e : (ls.drop k).getD i [] = ls.getD (k + i) [] := by simp [List.getD_eq_getElem?_getD]
    rw [e, Nat.add_assoc]
    exact hc (k + i) (by omega)
theorem run_cutP (W : World) (a : Option Addr) (n c : Nat) (k : IntKind) (l : Int) (h0 : 0 ≤ l) (h1 : l ≤ n) :
    (Instr.slice 22 (.slice a n c) (some (.int k l)) none none).run Try.prog W = .ok (.slice (cutAt a c l.toNat) (n - l.toNat) (c - l.toNat)) W := by
  rw [run_slice_l (P := Try.prog) (w := W) 22 a n c (by kernel_rfl) k l h0 h1]
  have hs : (sizeOf (Try.prog.elem 22)).run Try.prog W = .ok 1 W := by kernel_rfl
  rw [hs]
  simp [Result.andThen, sliced, cutAt]
theorem run_headP (W : World) (a : Option Addr) (n c : Nat) (k : IntKind) (h : Int) (h0 : 0 ≤ h) (h1 : h ≤ c) :
    (Instr.slice 22 (.slice a n c) none (some (.int k h)) none).run Try.prog W = .ok (.slice (cutAt a c 0) h.toNat c) W := by
  rw [run_slice_h (P := Try.prog) (w := W) 22 a n c (by kernel_rfl) k h h0 h1]
  have hs : (sizeOf (Try.prog.elem 22)).run Try.prog W = .ok 1 W := by kernel_rfl
  rw [hs]
  simp [Result.andThen, sliced, cutAt]
def rightR (k m : Int) (parts : List (List UInt8)) : Bool := decide (mayK k m = true ∧ (parts.length : Int) = k + m ∧ alike parts ∧ (parityE m (parts.take k.toNat)).1 = parts.drop k.toNat)

attribute [local go_sem ↓] run_cutP run_headP
set_option maxHeartbeats 4000000 in
set_option maxRecDepth 100000 in
theorem refRight_any (k m : Int) (A : Option Addr) (kc : Nat) (parts : List (List UInt8)) (w : World) (hk64 : k ≤ 9223372036854775807) (h : RowsAt w w.heap.size A parts.length parts) (hcap : parts.length ≤ kc) (hl : parts.length ≤ 1000000) (h0 : (parts.getD 0 []).length ≤ 1000000) :
    Calls Try.prog 25 #[.int .i64 k, .int .i64 m, .slice A parts.length kc] w fun e w' => e = .returned (.bool (rightR k m parts)) ∧ Ext w w' := by
  have M1 := fun W => refMayK_any k m W hk64
  have L1 := fun W h => refAlike_any A kc parts W h hl
  have HP := hide (show rightR k m parts = decide (mayK k m = true ∧ (parts.length : Int) = k + m ∧ alike parts ∧ (parityE m (parts.take k.toNat)).1 = parts.drop k.toNat) from rfl)
  by_cases hm : mayK k m = true
  · rw [hm] at M1
    obtain ⟨q1, q2, q3, q4⟩ := mayK_iff.1 hm
    obtain ⟨k, rfl⟩ := Int.eq_ofNat_of_zero_le (show 0 ≤ k by omega)
    obtain ⟨m, rfl⟩ := Int.eq_ofNat_of_zero_le q2
    simp only [Int.toNat_natCast] at HP
    have hsum : IntKind.i64.wrap ((k : Int) + (m : Int)) = (k : Int) + (m : Int) := by rw [IntKind.wrap_i64]; omega
    by_cases hlen : (parts.length : Int) = (k : Int) + (m : Int)
    · have hlen' : ((parts.length : Int) != (k : Int) + (m : Int)) = false := by simpa using hlen
      by_cases ha : alike parts
      · simp only [decide_eq_true ha] at L1
        have hkp : k ≤ parts.length := by omega
        have P1 := fun W hr => refParity_any (m : Int) (cutAt A kc 0) kc (parts.take k) W hr (by rw [List.length_take]; omega) (by
          have e : (parts.take k).getD 0 [] = parts.getD 0 [] := by simp [List.getD_eq_getElem?_getD, show 0 < k by omega]
          rw [e]; exact h0)
        have hlt : (parts.take k).length = k := by rw [List.length_take]; omega
        rw [hlt] at P1
        have hkc : (k : Int) ≤ (kc : Int) := by omega
        have hk0 : (0 : Int) ≤ (k : Int) := by omega
        have hkl : (k : Int) ≤ (parts.length : Int) := by omega
        have HPr := hide (show rightR k m parts = decide ((parityE m (parts.take k)).1 = parts.drop k) by rw [HP.out, Bool.eq_iff_iff]; simp only [decide_eq_true_eq]; exact ⟨fun h => h.2.2.2, fun h => ⟨hm, hlen, ha, h⟩⟩)
        have hpl : (parityE m (parts.take k)).1.length ≤ 1000000 := by
          unfold parityE
          split
          · rw [timesL_len]; simp; omega
          · simp
        have hdl : (parts.drop k).length = parts.length - k := by rw [List.length_drop]
        clear HP
        generalize (parityE m (parts.take k)).1 = pr at *
        generalize (parityE m (parts.take k)).2 = pe at *
        clear hm ha hlen q1 q2 q3 q4
        go_enter Try.func25, Try.ntmps25
        go_wp2_with fail
        refine (M1 _).mono ?_
        rintro e w1 ⟨rfl, rfl⟩
        go_wp2_with fail
        refine (L1 _ h).mono ?_
        rintro e w2 ⟨rfl, hE2⟩
        go_wp2_with fail
        refine (P1 w2 ((h.ext hE2).head hkp)).mono ?_
        rintro e w3 ⟨v, rfl, hO3, hE3⟩
        obtain ⟨A3, c3, rfl, _, _, hR3⟩ := hO3.form
        go_wp2_with fail
        have S1 := refSameP_any A3 (cutAt A kc k) c3 (kc - k) pr (parts.drop k) w3 hR3 (by rw [hdl]; exact (h.ext (hE2.trans hE3)).tail hkp hcap) hpl
        rw [hdl] at S1
        refine S1.mono ?_
        rintro e w4 ⟨rfl, hE4⟩
        go_wp2
        go_ret
        exact ⟨ret_bool HPr.out.symm, (hE2.trans hE3).trans hE4⟩
      · simp only [decide_eq_false ha] at L1
        have HN := hide (show rightR k m parts = false by rw [HP.out]; exact decide_eq_false fun h => ha h.2.2.1)
        clear HP hm ha hlen
        go_enter Try.func25, Try.ntmps25
        go_wp2_with fail
        refine (M1 _).mono ?_
        rintro e w1 ⟨rfl, rfl⟩
        go_wp2_with fail
        refine (L1 _ h).mono ?_
        rintro e w2 ⟨rfl, hE2⟩
        go_wp2
        go_ret
        exact ⟨ret_bool HN.out.symm, hE2⟩
    · have hlen' : ((parts.length : Int) != (k : Int) + (m : Int)) = true := by simpa using hlen
      have HN := hide (show rightR k m parts = false by rw [HP.out]; exact decide_eq_false fun h => hlen h.2.1)
      clear HP hm hlen
      go_enter Try.func25, Try.ntmps25
      go_wp2_with fail
      refine (M1 _).mono ?_
      rintro e w1 ⟨rfl, rfl⟩
      go_wp2
      go_ret
      exact ⟨ret_bool HN.out.symm, Ext.refl _⟩
  · have HN := hide (show rightR k m parts = false by rw [HP.out]; exact decide_eq_false fun h => hm h.1)
    rw [Bool.not_eq_true] at hm
    rw [hm] at M1
    clear HP hm
    go_enter Try.func25, Try.ntmps25
    go_wp2_with fail
    refine (M1 _).mono ?_
    rintro e w1 ⟨rfl, rfl⟩
    go_wp2
    go_ret
    exact ⟨ret_bool HN.out.symm, Ext.refl _⟩
end Go.Proofs.Ytbfkknoeaekajaa
