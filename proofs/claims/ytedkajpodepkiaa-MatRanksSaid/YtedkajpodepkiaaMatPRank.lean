/- Contract of the program's Rank. -/
import Derived.Test.YtedkajpodepkiaaMatRkM
import Derived.Test.YtedkajpodepkiaaMatRankR
namespace Go.Proofs.Ytedkajpodepkiaa
open Go.RowKit

theorem red_info4 : (Try.prog.info? 60).map (·.size) = some 4 := by kernel_rfl
theorem red_one4 {r c l : Int} {v : Value} (h : v.oneCell' = true) : (#[.int .i64 r, .int .i64 c, v, .int .i64 l] : Array Value).all (·.oneCell') = true := by
  simp [h]
  exact ⟨rfl, rfl, rfl⟩
/-- A list of r rows of c cells, told by its cells. -/
theorem cells_of {c n : Nat} {l : List UInt8} {F : Mat.M} (hl : l.length = n) (hF : ∀ i j, F i j = l.getD (i * c + j) 0) : l = cellsOf c F n := by
  apply List.ext_getElem
  · rw [cellsOf_len, hl]
  · intro p h1 h2
    simp only [cellsOf, List.getElem_map, List.getElem_range, hF]
    rw [Nat.mul_comm, Nat.div_add_mod]
    simp [List.getD_eq_getElem?_getD, h1]

set_option maxHeartbeats 2000000 in
set_option maxRecDepth 100000 in
theorem copyOf_any {r c : Int} {A : Option Addr} {k : Nat} {l : List UInt8} {w : World} (hk : l.length ≤ k) (hn : l.length ≤ 140737488355328) (hB : Bytes w w.heap.size A l.length l) :
    Calls Try.prog 43 #[.agg #[.int .i64 r, .int .i64 c, .slice A l.length k]] w fun e w' => ∃ v, e = .returned (.agg #[.int .i64 r, .int .i64 c, v]) ∧ OwnB w' w.heap.size v l ∧ Ext w w' := by
  have hE1 := extNew w (.cells #[.int .i64 r, .int .i64 c, .slice A l.length k] 24)
  have hE2 := extNew (w.alloc (.cells #[.int .i64 r, .int .i64 c, .slice A l.length k] 24)) (.cells #[.int .i64 0, .int .i64 0, .slice none 0 0] 55)
  have hWa := (Whole.new w 24 #[.int .i64 r, .int .i64 c, .slice A l.length k]).ext hE2
  have hWr := Whole.new (w.alloc (.cells #[.int .i64 r, .int .i64 c, .slice A l.length k] 24)) 55 #[.int .i64 0, .int .i64 0, .slice none 0 0]
  have hE := hE1.trans hE2
  rw [World.size_alloc] at hWr
  clear hE1 hE2
  have CC := fun W (hX : Ext w W) => sliceClone8_any A l.length k l W hk hn (hX.bytes hB)
  clear hk hn hB
  go_enter Try.func43, Try.ntmps43
  go_wp2_with fail
  refine (CC _ hE).mono ?_
  rintro e w3 ⟨v, rfl, hO3, hE3⟩
  have hE03 := hE.trans hE3
  have hWa3 := hWa.ext hE3
  have hWr3 := hWr.ext hE3
  have o1 := hO3.one
  have o2 := hO3.cells1
  have hlt : w.heap.size + 1 < w3.heap.size := by have := hWr3.lt; omega
  have hb0 : w.heap.size + 2 ≤ (((w.alloc (.cells #[.int .i64 r, .int .i64 c, .slice A l.length k] 24)).alloc (.cells #[.int .i64 0, .int .i64 0, .slice none 0 0] 55))).heap.size := by rw [World.size_alloc, World.size_alloc]; omega
  have hO3' := hO3.mono hb0
  clear hO3 hWa hWr CC hb0
  have hne : ∀ b, b < w.heap.size + 2 → v.ownBlock ≠ some b := fun b hb e => by
    have := (hO3'.lt _ e).1
    omega
  go_wp2_with (first
    | (refine wpList_storeC rfl 22 (.tmp 6) (.tmp 5) rfl #[.int .i64 r, .int .i64 c, v] rfl rfl hWa3 (by simp) (by kernel_rfl) o1 o2 rfl ?_; intro w4 hW4 hG4; have hWr4 := hWr3.grown hG4 (by omega))
    | (refine wpList_load_row rfl 24 (.tmp 1) rfl _ rfl _ _ _ _ hW4 Try.underlying24 rfl mat_info ?_)
    | (refine wpList_storeW rfl 55 (.tmp 2) (.tmp 8) rfl rfl rfl hWr4 rfl work_info (mat_one o1) ?_; intro w5 hW5 hG5 _))
  have hO4 := (Mod.ofRow (ob := none) hG4).own hO3' (hne _ (by omega)) (by simp [Classical.em])
  have hO5 := (Mod.ofRow (ob := none) hG5).own hO4 (hne _ (by omega)) (by simp [Classical.em])
  have hE4 : Ext w w4 := Below.grown hE03 hG4 hE03.le (fun k hk => by cases hk; omega)
  have hE5 : Ext w w5 := Below.grown hE4 hG5 hE4.le (fun k hk => by cases hk; omega)
  refine bodyPost_ret (results_work rfl _ rfl hW5 rfl) rfl ⟨v, rfl, hO5.mono (by omega), hE5⟩

set_option maxHeartbeats 2000000 in
set_option maxRecDepth 100000 in
theorem rfind0_any {gr : Nat} {c col : Int} {v : Value} {w : World} (h : Whole w gr 60 #[.int .i64 0, .int .i64 c, v, .int .i64 0]) :
    Calls Try.prog 48 #[.pointer (some ⟨gr, 0, none⟩), .int .i64 col] w fun e w' => e = .returned (.int .i64 0) ∧ Ext w w' := by
  have c3 := h.at 3 (u := .int .i64 0) rfl
  go_enter Try.func48, Try.ntmps48
  go_wp2_with fail
  go_loopw [5] (fun x wr => x = .int .i64 0 ∧ Ext w wr) (fun _ _ => 0)
  case atStart => exact ⟨rfl, Ext.refl w⟩
  case round =>
    obtain ⟨rfl, hE⟩ := hrel
    have d0 := (h.ext hE).at 0 (u := .int .i64 0) rfl
    go_wp2
    go_ret
    exact ⟨rfl, hE⟩

set_option maxHeartbeats 2000000 in
set_option maxRecDepth 100000 in
theorem lead0_any {gr : Nat} {c col : Int} {v : Value} {w : World} (h : Whole w gr 60 #[.int .i64 0, .int .i64 c, v, .int .i64 0]) :
    Calls Try.prog 41 #[.pointer (some ⟨gr, 0, none⟩), .int .i64 col] w fun e w' => e = .returned (.bool false) ∧ Ext w w' := by
  have CF := rfind0_any (col := col) h
  go_enter Try.func41, Try.ntmps41
  go_wp2_with fail
  refine CF.mono ?_
  rintro e w2 ⟨rfl, hE2⟩
  have d0 := (h.ext hE2).at 0 (u := .int .i64 0) rfl
  go_wp2
  go_ret
  exact ⟨rfl, hE2⟩

set_option maxHeartbeats 4000000 in
set_option maxRecDepth 100000 in
theorem matRank_any (m : MV) (A : Option Addr) (k : Nat) (w : World) (hm : m.lies w A k) :
    Calls Try.prog 31 #[m.arg A k] w fun e w' => e = .returned (.tuple #[.int .i64 ((m.rankE.1 : Nat) : Int), .int .i64 m.rankE.2]) ∧ Ext w w' := by
  have M1 := fun W => matMay_any m A k W hm.2.1
  have hE := extNew w (.cells #[.int .i64 m.r, .int .i64 m.c, .slice A m.l.length k] 24)
  have hWa := Whole.new w 24 #[.int .i64 m.r, .int .i64 m.c, .slice A m.l.length k]
  have HE := hide (show m.rankE = if m.may = true then (Mat.rankOf m.r.toNat m.c.toNat m.at, 0) else (0, 13) from rfl)
  unfold MV.arg at M1 ⊢
  by_cases hmay : m.may = true
  · have HN := hide (show m.rankE = (Mat.rankOf m.r.toNat m.c.toNat m.at, 0) by rw [HE.out, if_pos hmay])
    rw [hmay] at M1
    obtain ⟨q1, q2, q3, q4, q5⟩ := MV.may_iff.1 hmay
    have HF := hide (show ∀ i j, m.at i j = m.l.getD (i * m.c.toNat + j) 0 from fun _ _ => rfl)
    generalize m.rankE = res at *
    generalize m.at = fa at *
    clear hmay HE
    obtain ⟨mr, mc, ml⟩ := m
    dsimp only at *
    obtain ⟨r, rfl⟩ := Int.eq_ofNat_of_zero_le q1
    obtain ⟨c, rfl⟩ := Int.eq_ofNat_of_zero_le q3
    simp only [Int.toNat_natCast] at *
    have hr : r ≤ 255 := by omega
    have hc : c ≤ 255 := by omega
    have ml5 : ml.length = r * c := by omega
    have hrc : r * c ≤ 255 * 255 := Nat.mul_le_mul hr hc
    have CC := fun W (hX : Ext w W) => copyOf_any (r := r) (c := c) (A := A) (k := k) (l := ml) (w := W) hm.2.2 (by omega) (hX.bytes hm.1)
    have HL := hide (show ml = cellsOf c fa (r * c) from cells_of ml5 HF.out)
    have HML := hide ml5
    clear q1 q2 q3 q4 q5 ml5 hm HF hrc
    go_enter Try.func31, Try.ntmps31
    go_wp2_with (refine wpList_load_row rfl 24 (.tmp 6) rfl _ rfl _ _ _ _ hWa Try.underlying24 rfl mat_info ?_)
    refine (M1 _).mono ?_
    rintro e w2 ⟨rfl, hF2⟩
    have hE2 := hE.trans hF2
    have hWa2 := hWa.ext hF2
    clear M1 hF2 hWa hE
    go_wp2_with (refine wpList_load_row rfl 24 (.tmp 1) rfl _ rfl _ _ _ _ hWa2 Try.underlying24 rfl mat_info ?_)
    refine (CC _ hE2).mono ?_
    rintro e w3 ⟨v, rfl, hO3, hF3⟩
    have hE3 := hE2.trans hF3
    have hW2 := Whole.new w3 60 #[.int .i64 0, .int .i64 0, .slice none 0 0, .int .i64 0]
    have hE4 := extNew w3 (.cells #[.int .i64 0, .int .i64 0, .slice none 0 0, .int .i64 0] 60)
    have o1 := hO3.one
    by_cases hz : r * c = 0
    · obtain ⟨A3, n3, k3, rfl, _, _, _⟩ := hO3.form'
      have HZ := hide (show res = (0, 0) by rw [HN.out, Mat.rankOf_none fa hz])
      have hor : r = 0 ∨ c = 0 := Nat.mul_eq_zero.1 hz
      clear hz HN
      go_wp2_with (refine wpList_storeW rfl 60 (.tmp 4) (.tmp 11) rfl rfl rfl hW2 rfl red_info4 (red_one4 o1) ?_; intro w5 hW5 hG5 _; have hWa5 := (((hWa2.ext hF3).ext hE4).grown hG5 (by have := (hWa2.ext hF3).lt; omega)); have d15 := hWa5.at 1 (u := .int .i64 (c : Int)) rfl)
      have hE5 : Ext w w5 := Below.grown (hE3.trans hE4) hG5 (hE3.trans hE4).le (fun k hk => by cases hk; exact hE3.le)
      obtain ⟨gr, hgr⟩ : ∃ gr, gr = w3.heap.size := ⟨_, rfl⟩
      rw [← hgr] at hW5 ⊢
      clear hgr hG5 hE4 hW2 hF3 hE3 hWa2 CC d15 hWa5
      go_loopw [14] (fun x wr => ∃ j : Nat, j ≤ c ∧ x = .int .i64 (j : Int) ∧ Whole wr gr 60 #[.int .i64 r, .int .i64 c, .slice A3 n3 k3, .int .i64 0] ∧ Ext w wr) (fun x _ => c - (intOf x).toNat)
      case atStart => exact ⟨0, by omega, rfl, hW5, hE5⟩
      case round =>
        obtain ⟨j, hj, rfl, hWg, hEr⟩ := hrel
        by_cases hlt : j < c
        · have hr0 : r = 0 := by omega
          have CL := lead0_any (c := (c : Int)) (v := .slice A3 n3 k3) (col := (j : Int)) (w := wr) (gr := gr) (by rw [hr0] at hWg; exact hWg)
          clear hr0
          go_wp2_with fail
          refine CL.mono ?_
          rintro e w6 ⟨rfl, hE6⟩
          have hWg6 := hWg.ext hE6
          have hE06 := hEr.trans hE6
          go_wp2
          go_roundw
          case rel => exact ⟨j + 1, by omega, by go_num, hWg6, hE06⟩
          case measure => simp [intOf]; omega
        · obtain rfl : j = c := by omega
          have d3 := hWg.at 3 (u := .int .i64 0) rfl
          go_wp2
          go_ret2
          exact ⟨by rw [HZ.out]; rfl, hEr⟩
    · obtain ⟨g, k3, rfl, hg, hk3⟩ := hO3.formG (by rw [HML.out]; omega)
      rw [HML.out] at hO3 hk3 ⊢
      have hcpos : 0 < c := by
        rcases Nat.eq_zero_or_pos c with h | h
        · rw [h, Nat.mul_zero] at hz; omega
        · exact h
      have hg3 := (hO3.lt g rfl).2
      rw [HL.out] at hO3
      clear hz
      go_wp2_with (refine wpList_storeW rfl 60 (.tmp 4) (.tmp 11) rfl rfl rfl hW2 rfl red_info4 (red_one4 o1) ?_; intro w5 hW5 hG5 _; have hWa5 := (((hWa2.ext hF3).ext hE4).grown hG5 (by have := (hWa2.ext hF3).lt; omega)); have d15 := hWa5.at 1 (u := .int .i64 (c : Int)) rfl)
      have hE5 : Ext w w5 := Below.grown (hE3.trans hE4) hG5 (hE3.trans hE4).le (fun k hk => by cases hk; exact hE3.le)
      have hM5 : OwnM w5 w2.heap.size g r c k3 fa := ⟨(Mod.ofRow (ob := none) hG5).own (hO3.ext hE4) (by simp [Value.ownBlock]; omega) (by simp [Classical.em]), hg, by have := hE4.le; have := hG5.size; omega, hk3⟩
      obtain ⟨gr, hgr⟩ : ∃ gr, gr = w3.heap.size := ⟨_, rfl⟩
      rw [← hgr] at hW5 ⊢
      have hgrg : gr ≠ g := by omega
      have hgrb : w2.heap.size ≤ gr := by have := hF3.le; omega
      have hbase := hE2.le
      have hR5 : Red w5 gr g w2.heap.size r c k3 0 fa := ⟨hW5, hM5, hgrb, hgrg⟩
      clear hgr hG5 hE4 hW2 hO3 hF3 hE3 hWa2 CC hM5 hW5 d15 hWa5 o1
      go_loopw [14] (fun x wr => ∃ j : Nat, j ≤ c ∧ x = .int .i64 (j : Int) ∧ (∃ F l piv, Red wr gr g w2.heap.size r c k3 l F ∧ Mat.Rk r c j fa F l piv) ∧ Ext w wr) (fun x _ => c - (intOf x).toNat)
      case atStart => exact ⟨0, by omega, rfl, ⟨_, _, _, hR5, Mat.Rk.start r c fa⟩, hE5⟩
      case round =>
        obtain ⟨j, hj, rfl, ⟨F, l, piv, hR, hK⟩, hEr⟩ := hrel
        by_cases hlt : j < c
        · have CL := lead_any (l := l) hr (by omega) (col := j) hlt hK.le hR
          have HK := hide hK
          have HR := hide hR
          clear hK hR
          go_wp2_with fail
          refine CL.mono ?_
          rintro e w6 (⟨rfl, hz, hE6⟩ | ⟨rfl, p, hp1, hp2, hz, hp0, hR6, hM6⟩)
          · have HK6 := hide (HK.out.stay hz)
            have HR6 := hide (HR.out.ext hE6)
            have hE06 := hEr.trans hE6
            clear hz CL
            go_wp2
            go_roundw
            case rel => exact ⟨j + 1, by omega, by go_num, ⟨_, _, _, HR6.out, HK6.out⟩, hE06⟩
            case measure => simp [intOf]; omega
          · have HK6 := hide (HK.out.step hp1 hp2 hp0)
            have HR6 := hide hR6
            have hgb := HR.out.2.1.2.1
            have hE6 : Ext w w6 := Below.trans hEr (hM6.below hEr.le (by omega) (fun k hk => by cases hk; omega))
            clear hz hp0 CL hM6 hR6
            go_wp2
            go_roundw
            case rel => exact ⟨j + 1, by omega, by go_num, ⟨_, _, _, HR6.out, HK6.out⟩, hE6⟩
            case measure => simp [intOf]; omega
        · obtain rfl : j = c := by omega
          have d3 := hR.1.at 3 (u := .int .i64 (l : Int)) rfl
          have HX := hide (show res = (l, 0) by rw [HN.out, Mat.rankOf_of hK.done])
          clear hK hR
          go_wp2
          go_ret2
          exact ⟨by rw [HX.out]; rfl, hEr⟩
  · have HN := hide (show m.rankE = (0, 13) by rw [HE.out, if_neg hmay])
    rw [Bool.not_eq_true] at hmay
    rw [hmay] at M1
    clear hmay
    go_enter Try.func31, Try.ntmps31
    go_wp2_with (refine wpList_load_row rfl 24 (.tmp 6) rfl _ rfl _ _ _ _ hWa Try.underlying24 rfl mat_info ?_)
    refine (M1 _).mono ?_
    rintro e w2 ⟨rfl, hF2⟩
    go_wp2
    go_ret2
    exact ⟨by rw [HN.out]; rfl, hE.trans hF2⟩
end Go.Proofs.Ytedkajpodepkiaa
