/- The program's read and Read of chapter 16. -/
import Derived.Test.YtcphapdjimeoaaaGreatB41
namespace Go.Proofs.YtcphapdjimeoaaaGreat
open Go.RowKit Num Wrd Dic

/-- What read tells. -/
def RedTo (w : World) (gr gd : Nat) (A : Option Addr) (c : Nat) (b : List UInt8) (size : Nat) (r : List (List UInt8) × Nat × Int) (e : Ending) (W' : World) : Prop :=
  (r.2.2 = 0 → e = .returned (.int .i64 0) ∧ ∃ F vT vF, RdrD w W' gr gd A c b size r.2.1 r.1 F vT vF ∧ FirstsOf size r.1 F ∧ r.1.length ≤ b.length) ∧
  (r.2.2 ≠ 0 → e = .returned (.int .i64 r.2.2) ∧ Ext w W')
set_option maxHeartbeats 4000000 in
set_option maxRecDepth 10000 in
theorem dRead1_any {w W : World} {gr gd c size : Nat} {A : Option Addr} {b : List UInt8} {vT vF : Value} (h : RdrD w W gr gd A c b size 0 [] [] vT vF) (hB : Bytes w w.heap.size A b.length b) (hc : b.length ≤ c) (hl : b.length ≤ 800000) (hs1 : 1 ≤ size) (hs2 : size ≤ 64) :
    Calls Tryz.prog 31 #[.pointer (some ⟨gr, 0, none⟩)] W (RedTo w gr gd A c b size (readR b size)) := by
  have CC1 := dCounts_any h hB hc (by omega) 1 1048576 (by omega) (by omega)
  have HB := hide hB
  have HC := hide hc
  have HH := hide h
  rw [show ((1048576 : Nat) : Int) = 1048576 from rfl] at CC1
  obtain ⟨vs1, q1, e1, h1⟩ : ∃ vs q e, numsR b 1048576 1 0 = (vs, q, e) := ⟨_, _, _, rfl⟩
  have hlong := nums_long (b := b) (most := 1048576) 1 0
  by_cases he1 : e1 = 0
  case neg =>
    have HR := hide (read_first (size := size) (by rw [h1]) he1)
    rw [h1] at CC1
    have he1b : (e1 != 0) = true := by rw [bne_iff_ne]; exact he1
    generalize readR b size = res at *
    have HE1 := hide he1
    clear h hB hc h1 hlong he1
    go_enter Tryz.func31, Tryz.ntmps31
    go_wp2_with fail
    refine CC1.mono ?_
    rintro e w2 hC
    obtain ⟨rfl, hX⟩ := hC.2 HE1.out
    have HX := hide hX
    clear CC1 hC hX
    go_wp2
    go_ret
    rw [HR.out]
    exact ⟨fun h => absurd h HE1.out, fun _ => ⟨rfl, HX.out⟩⟩
  subst he1
  rw [h1] at hlong
  obtain ⟨g1, g2, g3, g4⟩ := hlong rfl (Nat.zero_le _)
  dsimp only at g1 g2 g3 g4
  obtain ⟨n, rfl⟩ : ∃ n, vs1 = [n] := by
    match vs1, g3 with
    | [n], _ => exact ⟨n, rfl⟩
  have hn := g4 n (by simp)
  rw [h1] at CC1
  have HR := hide (read_then (size := size) h1)
  obtain ⟨m, hm⟩ : ∃ m, m = bucketsN size n := ⟨_, rfl⟩
  have hmn : m ≤ 1048640 := by
    rw [hm]
    unfold bucketsN
    refine Nat.le_trans (Nat.div_le_self _ _) ?_
    omega
  have CC2 := fun W2 (hR : RdrD w W2 gr gd A c b size q1 [] [] vT vF) => dCounts_any hR hB hc (by omega) m 2000 (by omega) (by omega)
  rw [show ((2000 : Nat) : Int) = 2000 from rfl] at CC2
  rw [← hm] at HR
  have HM := hide hm
  obtain ⟨zs, q2, e3v, h3⟩ : ∃ vs q e, numsR b 2000 m q1 = (vs, q, e) := ⟨_, _, _, rfl⟩
  have hlong2 := nums_long (b := b) (most := 2000) m q1
  rw [h3] at CC2 HR hlong2
  dsimp only at HR hlong2
  have HL2 := hide hlong2
  have HR0 := hide HR.out
  generalize readR b size = res at *
  have hq1 : q1 ≤ b.length := g2
  -- the numbers of the quotient
  obtain ⟨n1, hn1⟩ : ∃ x, x = n + size := ⟨_, rfl⟩
  obtain ⟨n2, hn2⟩ : ∃ x, x = n + size - 1 := ⟨_, rfl⟩
  have q1I : (n : Int) + (size : Int) = (n1 : Int) := by omega
  have q2I : (n1 : Int) - 1 = (n2 : Int) := by omega
  have q1W : IntKind.i64.wrap (n1 : Int) = (n1 : Int) := by rw [IntKind.wrap_i64]; omega
  have q2W : IntKind.i64.wrap (n2 : Int) = (n2 : Int) := by rw [IntKind.wrap_i64]; omega
  have q3I : (n2 : Int) / (size : Int) = (m : Int) := by rw [hn2, hm]; unfold bucketsN; rfl
  have q3T : Int.tdiv (n2 : Int) (size : Int) = (m : Int) := by rw [← q3I]; exact Int.tdiv_eq_ediv_of_nonneg (by omega)
  have q3W : IntKind.i64.wrap (m : Int) = (m : Int) := by rw [IntKind.wrap_i64]; omega
  have hs0 : ((size : Int) == 0) = false := by rw [beq_eq_false_iff_ne]; omega
  have hs0' : ¬ (size : Int) = 0 := by omega
  have hsN : ¬ size = 0 := by omega
  obtain ⟨AT, cT, hvT, -, -, -⟩ := h.two.1.form
  obtain ⟨nT, hnT⟩ : ∃ x, x = ([] : List (List UInt8)).length := ⟨_, rfl⟩
  rw [← hnT] at hvT
  subst hvT
  obtain ⟨bl, hbl⟩ : ∃ x, x = b.length := ⟨_, rfl⟩
  have HBL := hide hbl
  clear h hB hc h1 hlong g1 g3 g4 g2 HR h3 hlong2 hn1 hn2 hm hnT hbl
  go_enter Tryz.func31, Tryz.ntmps31
  go_wp2_with fail
  refine CC1.mono ?_
  rintro e w2 hC
  obtain ⟨A2, c2, rfl, hI2, hc2, hR2⟩ := hC.1 rfl
  dsimp only at hR2
  obtain ⟨A5, c5, hv5, -, hI5⟩ := hI2.form
  simp only [Value.slice.injEq, List.map_cons, List.map_nil, List.length_cons, List.length_nil] at hv5
  obtain ⟨rfl, -, rfl⟩ := hv5
  have hcell : ∃ bx ox, A2 = some ⟨bx, ox, none⟩ ∧ w2.cell? ⟨bx, ox, none⟩ = some (.int .i64 (n : Int)) := by
    rcases hI5.2 with h0 | ⟨bx, ox, h2, _, h4⟩
    · simp at h0
    · exact ⟨bx, ox, h2, by have := h4 0 (by simp); simpa using this⟩
  obtain ⟨bx, ox, rfl, hcx⟩ := hcell
  clear CC1 hC hI2 hI5 hc2
  go_wp2_with fail
  have hS := And.intro (hR2.rd.ext (Ext.refl w2).drew) (hR2.dc.ext (Ext.refl w2).drew)
  rw [← HBL.out] at hS
  by_cases hE3 : e3v = 0
  case neg =>
    have he3b : (e3v != 0) = true := by rw [bne_iff_ne]; exact hE3
    have HRb := hide (show res = ([], 0, e3v) by rw [HR0.out, if_pos hE3])
    have HE3 := hide hE3
    clear HR0 hcx
    refine wp_region_T (fun W => Whole W gr 72 #[.pointer (some ⟨gd, 0, none⟩), .slice A bl c, .int .i64 (q1 : Int)] ∧ Whole W gd 70 #[.slice AT nT cT, .int .i64 (size : Int), vF]) 19 25 #[false, false, false, false, false, false, false, false, false, false, false, false, false, false, false, false, false, false, false, false, false, false, false, false, false] (by kernel_rfl) rfl rfl hS ?_
    intro hS0
    refine wpAnyT_take 0 (some 22) (.pointer (some ⟨gr, 0, none⟩)) #[true, false, false, false, false, false, false, false, false, false, false, false, false, false, false, false, false, false, false, false, false, false, false, false, false] rfl rfl rfl (by kernel_rfl) (fun _ _ _ h => h) hS0 (by rfl) (fun W hX => by have s0 := hX.1.at 0 (u := .pointer (some ⟨gd, 0, none⟩)) rfl; have d0 := hX.2.at 0 (u := .slice AT nT cT) rfl; have d1 := hX.2.at 1 (u := .int .i64 (size : Int)) rfl; go_simp) ?_
    simp only [Act.put, List.setIfInBounds_toArray, List.set_cons_zero, List.set_cons_succ]
    refine wpAnyT_take 1 (some 23) (.int .i64 (n : Int)) #[true, true, false, false, false, false, false, false, false, false, false, false, false, false, false, false, false, false, false, false, false, false, false, false, false] rfl rfl rfl (by kernel_rfl) (fun _ _ _ h => h) hS0 (by rfl) (fun W hX => by have s0 := hX.1.at 0 (u := .pointer (some ⟨gd, 0, none⟩)) rfl; have d0 := hX.2.at 0 (u := .slice AT nT cT) rfl; have d1 := hX.2.at 1 (u := .int .i64 (size : Int)) rfl; go_simp) ?_
    simp only [Act.put, List.setIfInBounds_toArray, List.set_cons_zero, List.set_cons_succ]
    refine wpAnyT_take 2 (some 24) (.pointer (some ⟨gr, 0, none⟩)) #[true, true, true, false, false, false, false, false, false, false, false, false, false, false, false, false, false, false, false, false, false, false, false, false, false] rfl rfl rfl (by kernel_rfl) (fun _ _ _ h => h) hS0 (by rfl) (fun W hX => by have s0 := hX.1.at 0 (u := .pointer (some ⟨gd, 0, none⟩)) rfl; have d0 := hX.2.at 0 (u := .slice AT nT cT) rfl; have d1 := hX.2.at 1 (u := .int .i64 (size : Int)) rfl; go_simp) ?_
    simp only [Act.put, List.setIfInBounds_toArray, List.set_cons_zero, List.set_cons_succ]
    refine wpAnyT_take 3 (some 25) (.pointer (some ⟨gr, 0, none⟩)) #[true, true, true, true, false, false, false, false, false, false, false, false, false, false, false, false, false, false, false, false, false, false, false, false, false] rfl rfl rfl (by kernel_rfl) (fun _ _ _ h => h) hS0 (by rfl) (fun W hX => by have s0 := hX.1.at 0 (u := .pointer (some ⟨gd, 0, none⟩)) rfl; have d0 := hX.2.at 0 (u := .slice AT nT cT) rfl; have d1 := hX.2.at 1 (u := .int .i64 (size : Int)) rfl; go_simp) ?_
    simp only [Act.put, List.setIfInBounds_toArray, List.set_cons_zero, List.set_cons_succ]
    refine wpAnyT_take 4 (some 26) (.pointer (some ⟨gr, 0, none⟩)) #[true, true, true, true, true, false, false, false, false, false, false, false, false, false, false, false, false, false, false, false, false, false, false, false, false] rfl rfl rfl (by kernel_rfl) (fun _ _ _ h => h) hS0 (by rfl) (fun W hX => by have s0 := hX.1.at 0 (u := .pointer (some ⟨gd, 0, none⟩)) rfl; have d0 := hX.2.at 0 (u := .slice AT nT cT) rfl; have d1 := hX.2.at 1 (u := .int .i64 (size : Int)) rfl; go_simp) ?_
    simp only [Act.put, List.setIfInBounds_toArray, List.set_cons_zero, List.set_cons_succ]
    refine wpAnyT_take 5 (some 27) (.pointer (some ⟨gd, 0, none⟩)) #[true, true, true, true, true, true, false, false, false, false, false, false, false, false, false, false, false, false, false, false, false, false, false, false, false] rfl rfl rfl (by kernel_rfl) (fun _ _ _ h => h) hS0 (by rfl) (fun W hX => by have s0 := hX.1.at 0 (u := .pointer (some ⟨gd, 0, none⟩)) rfl; have d0 := hX.2.at 0 (u := .slice AT nT cT) rfl; have d1 := hX.2.at 1 (u := .int .i64 (size : Int)) rfl; go_simp) ?_
    simp only [Act.put, List.setIfInBounds_toArray, List.set_cons_zero, List.set_cons_succ]
    refine wpAnyT_take 6 (some 28) (.pointer (some ⟨gd, 0, none⟩)) #[true, true, true, true, true, true, true, false, false, false, false, false, false, false, false, false, false, false, false, false, false, false, false, false, false] rfl rfl rfl (by kernel_rfl) (fun _ _ _ h => h) hS0 (by rfl) (fun W hX => by have s0 := hX.1.at 0 (u := .pointer (some ⟨gd, 0, none⟩)) rfl; have d0 := hX.2.at 0 (u := .slice AT nT cT) rfl; have d1 := hX.2.at 1 (u := .int .i64 (size : Int)) rfl; go_simp) ?_
    simp only [Act.put, List.setIfInBounds_toArray, List.set_cons_zero, List.set_cons_succ]
    refine wpAnyT_take 7 (some 29) (.pointer (some ⟨gd, 1, none⟩)) #[true, true, true, true, true, true, true, true, false, false, false, false, false, false, false, false, false, false, false, false, false, false, false, false, false] rfl rfl rfl (by kernel_rfl) (fun _ _ _ h => h) hS0 (by rfl) (fun W hX => by have s0 := hX.1.at 0 (u := .pointer (some ⟨gd, 0, none⟩)) rfl; have d0 := hX.2.at 0 (u := .slice AT nT cT) rfl; have d1 := hX.2.at 1 (u := .int .i64 (size : Int)) rfl; go_simp) ?_
    simp only [Act.put, List.setIfInBounds_toArray, List.set_cons_zero, List.set_cons_succ]
    refine wpAnyT_take 8 (some 30) (.int .i64 (size : Int)) #[true, true, true, true, true, true, true, true, true, false, false, false, false, false, false, false, false, false, false, false, false, false, false, false, false] rfl rfl rfl (by kernel_rfl) (fun _ _ _ h => h) hS0 (by rfl) (fun W hX => by have s0 := hX.1.at 0 (u := .pointer (some ⟨gd, 0, none⟩)) rfl; have d0 := hX.2.at 0 (u := .slice AT nT cT) rfl; have d1 := hX.2.at 1 (u := .int .i64 (size : Int)) rfl; go_simp) ?_
    simp only [Act.put, List.setIfInBounds_toArray, List.set_cons_zero, List.set_cons_succ]
    refine wpAnyT_take 9 (some 31) (.int .i64 (n1 : Int)) #[true, true, true, true, true, true, true, true, true, true, false, false, false, false, false, false, false, false, false, false, false, false, false, false, false] rfl rfl rfl (by kernel_rfl) (fun _ _ _ h => h) hS0 (by rfl) (fun W hX => by have s0 := hX.1.at 0 (u := .pointer (some ⟨gd, 0, none⟩)) rfl; have d0 := hX.2.at 0 (u := .slice AT nT cT) rfl; have d1 := hX.2.at 1 (u := .int .i64 (size : Int)) rfl; go_simp) ?_
    simp only [Act.put, List.setIfInBounds_toArray, List.set_cons_zero, List.set_cons_succ]
    refine wpAnyT_take 10 (some 32) (.int .i64 (n2 : Int)) #[true, true, true, true, true, true, true, true, true, true, true, false, false, false, false, false, false, false, false, false, false, false, false, false, false] rfl rfl rfl (by kernel_rfl) (fun _ _ _ h => h) hS0 (by rfl) (fun W hX => by have s0 := hX.1.at 0 (u := .pointer (some ⟨gd, 0, none⟩)) rfl; have d0 := hX.2.at 0 (u := .slice AT nT cT) rfl; have d1 := hX.2.at 1 (u := .int .i64 (size : Int)) rfl; go_simp) ?_
    simp only [Act.put, List.setIfInBounds_toArray, List.set_cons_zero, List.set_cons_succ]
    refine wpAnyT_take 11 (some 33) (.pointer (some ⟨gr, 0, none⟩)) #[true, true, true, true, true, true, true, true, true, true, true, true, false, false, false, false, false, false, false, false, false, false, false, false, false] rfl rfl rfl (by kernel_rfl) (fun _ _ _ h => h) hS0 (by rfl) (fun W hX => by have s0 := hX.1.at 0 (u := .pointer (some ⟨gd, 0, none⟩)) rfl; have d0 := hX.2.at 0 (u := .slice AT nT cT) rfl; have d1 := hX.2.at 1 (u := .int .i64 (size : Int)) rfl; go_simp) ?_
    simp only [Act.put, List.setIfInBounds_toArray, List.set_cons_zero, List.set_cons_succ]
    refine wpAnyT_take 12 (some 34) (.pointer (some ⟨gr, 0, none⟩)) #[true, true, true, true, true, true, true, true, true, true, true, true, true, false, false, false, false, false, false, false, false, false, false, false, false] rfl rfl rfl (by kernel_rfl) (fun _ _ _ h => h) hS0 (by rfl) (fun W hX => by have s0 := hX.1.at 0 (u := .pointer (some ⟨gd, 0, none⟩)) rfl; have d0 := hX.2.at 0 (u := .slice AT nT cT) rfl; have d1 := hX.2.at 1 (u := .int .i64 (size : Int)) rfl; go_simp) ?_
    simp only [Act.put, List.setIfInBounds_toArray, List.set_cons_zero, List.set_cons_succ]
    refine wpAnyT_take 13 (some 35) (.pointer (some ⟨gr, 0, none⟩)) #[true, true, true, true, true, true, true, true, true, true, true, true, true, true, false, false, false, false, false, false, false, false, false, false, false] rfl rfl rfl (by kernel_rfl) (fun _ _ _ h => h) hS0 (by rfl) (fun W hX => by have s0 := hX.1.at 0 (u := .pointer (some ⟨gd, 0, none⟩)) rfl; have d0 := hX.2.at 0 (u := .slice AT nT cT) rfl; have d1 := hX.2.at 1 (u := .int .i64 (size : Int)) rfl; go_simp) ?_
    simp only [Act.put, List.setIfInBounds_toArray, List.set_cons_zero, List.set_cons_succ]
    refine wpAnyT_take 14 (some 36) (.pointer (some ⟨gd, 0, none⟩)) #[true, true, true, true, true, true, true, true, true, true, true, true, true, true, true, false, false, false, false, false, false, false, false, false, false] rfl rfl rfl (by kernel_rfl) (fun _ _ _ h => h) hS0 (by rfl) (fun W hX => by have s0 := hX.1.at 0 (u := .pointer (some ⟨gd, 0, none⟩)) rfl; have d0 := hX.2.at 0 (u := .slice AT nT cT) rfl; have d1 := hX.2.at 1 (u := .int .i64 (size : Int)) rfl; go_simp) ?_
    simp only [Act.put, List.setIfInBounds_toArray, List.set_cons_zero, List.set_cons_succ]
    refine wpAnyT_take 15 (some 37) (.pointer (some ⟨gd, 0, none⟩)) #[true, true, true, true, true, true, true, true, true, true, true, true, true, true, true, true, false, false, false, false, false, false, false, false, false] rfl rfl rfl (by kernel_rfl) (fun _ _ _ h => h) hS0 (by rfl) (fun W hX => by have s0 := hX.1.at 0 (u := .pointer (some ⟨gd, 0, none⟩)) rfl; have d0 := hX.2.at 0 (u := .slice AT nT cT) rfl; have d1 := hX.2.at 1 (u := .int .i64 (size : Int)) rfl; go_simp) ?_
    simp only [Act.put, List.setIfInBounds_toArray, List.set_cons_zero, List.set_cons_succ]
    refine wpAnyT_take 16 (some 38) (.pointer (some ⟨gd, 1, none⟩)) #[true, true, true, true, true, true, true, true, true, true, true, true, true, true, true, true, true, false, false, false, false, false, false, false, false] rfl rfl rfl (by kernel_rfl) (fun _ _ _ h => h) hS0 (by rfl) (fun W hX => by have s0 := hX.1.at 0 (u := .pointer (some ⟨gd, 0, none⟩)) rfl; have d0 := hX.2.at 0 (u := .slice AT nT cT) rfl; have d1 := hX.2.at 1 (u := .int .i64 (size : Int)) rfl; go_simp) ?_
    simp only [Act.put, List.setIfInBounds_toArray, List.set_cons_zero, List.set_cons_succ]
    refine wpAnyT_take 17 (some 39) (.int .i64 (size : Int)) #[true, true, true, true, true, true, true, true, true, true, true, true, true, true, true, true, true, true, false, false, false, false, false, false, false] rfl rfl rfl (by kernel_rfl) (fun _ _ _ h => h) hS0 (by rfl) (fun W hX => by have s0 := hX.1.at 0 (u := .pointer (some ⟨gd, 0, none⟩)) rfl; have d0 := hX.2.at 0 (u := .slice AT nT cT) rfl; have d1 := hX.2.at 1 (u := .int .i64 (size : Int)) rfl; go_simp) ?_
    simp only [Act.put, List.setIfInBounds_toArray, List.set_cons_zero, List.set_cons_succ]
    refine wpAnyT_take 18 (some 40) (.int .i64 (m : Int)) #[true, true, true, true, true, true, true, true, true, true, true, true, true, true, true, true, true, true, true, false, false, false, false, false, false] rfl rfl rfl (by kernel_rfl) (fun _ _ _ h => h) hS0 (by rfl) (fun W hX => by have s0 := hX.1.at 0 (u := .pointer (some ⟨gd, 0, none⟩)) rfl; have d0 := hX.2.at 0 (u := .slice AT nT cT) rfl; have d1 := hX.2.at 1 (u := .int .i64 (size : Int)) rfl; go_simp) ?_
    simp only [Act.put, List.setIfInBounds_toArray, List.set_cons_zero, List.set_cons_succ]
    refine wpAnyT_only 19 #[true, true, true, true, true, true, true, true, true, true, true, true, true, true, true, true, true, true, true, true, false, false, false, false, false] (by kernel_rfl) rfl rfl (by rfl) (fun K0 hK0 => ?_)
    go_simp
    refine (CC2 w2.drew (hR2.later (Ext.refl w2).drew)).mono ?_
    rintro e3 w3 hC3
    obtain ⟨rfl, hX3⟩ := hC3.2 hE3
    refine hK0 _ _ (fun h => absurd h (by decide)) ?_
    clear hK0 K0
    refine wpAnyT_pure 20 (some 21) (.tuple #[.slice none 0 0, .int .i64 e3v]) #[true, true, true, true, true, true, true, true, true, true, true, true, true, true, true, true, true, true, true, true, true, false, false, false, false] rfl rfl rfl (by kernel_rfl) (fun _ _ _ h => h) (fun h => absurd h (by decide)) (by rfl) (fun W => by go_simp) ?_
    simp only [Act.put, List.setIfInBounds_toArray, List.set_cons_zero, List.set_cons_succ]
    refine wpAnyT_pure 21 (some 42) (.slice none 0 0) #[true, true, true, true, true, true, true, true, true, true, true, true, true, true, true, true, true, true, true, true, true, true, false, false, false] rfl rfl rfl (by kernel_rfl) (fun _ _ _ h => h) (fun h => absurd h (by decide)) (by rfl) (fun W => by go_simp) ?_
    simp only [Act.put, List.setIfInBounds_toArray, List.set_cons_zero, List.set_cons_succ]
    refine wpAnyT_pure 22 (some 43) (.int .i64 e3v) #[true, true, true, true, true, true, true, true, true, true, true, true, true, true, true, true, true, true, true, true, true, true, true, false, false] rfl rfl rfl (by kernel_rfl) (fun _ _ _ h => h) (fun h => absurd h (by decide)) (by rfl) (fun W => by go_simp) ?_
    simp only [Act.put, List.setIfInBounds_toArray, List.set_cons_zero, List.set_cons_succ]
    refine wpAnyT_only 23 #[true, true, true, true, true, true, true, true, true, true, true, true, true, true, true, true, true, true, true, true, true, true, true, true, false] (by kernel_rfl) rfl rfl (by rfl) (fun K1 hK1 => ?_)
    go_simp
    refine hK1 _ _ (fun h => absurd h (by decide)) ?_
    clear hK1 K1
    refine wpAnyT_only 24 #[true, true, true, true, true, true, true, true, true, true, true, true, true, true, true, true, true, true, true, true, true, true, true, true, true] (by kernel_rfl) rfl rfl (by rfl) (fun K2 hK2 => ?_)
    go_simp
    refine hK2 _ _ (fun h => absurd h (by decide)) (wpAnyT_done (by kernel_rfl) ?_ _)
    clear hK2 K2
    have HX := hide hX3
    clear hX3 hC3 hE3 hS hS0 CC2 hR2 q1I q2I q1W q2W q3I q3T q3W hs0 hs0' hsN
    go_wp2
    go_ret
    rw [HRb.out]
    exact ⟨fun h => absurd h HE3.out, fun _ => ⟨rfl, HX.out⟩⟩
  have HRg := hide (show res = partsR b size zs n [] q2 by rw [HR0.out, if_neg (by simp [hE3])])
  have hL2 := HL2.out hE3 hq1
  clear HR0 HL2 hcx
  refine wp_region_T (fun W => Whole W gr 72 #[.pointer (some ⟨gd, 0, none⟩), .slice A bl c, .int .i64 (q1 : Int)] ∧ Whole W gd 70 #[.slice AT nT cT, .int .i64 (size : Int), vF]) 19 25 #[false, false, false, false, false, false, false, false, false, false, false, false, false, false, false, false, false, false, false, false, false, false, false, false, false] (by kernel_rfl) rfl rfl hS ?_
  intro hS0
  refine wpAnyT_take 0 (some 22) (.pointer (some ⟨gr, 0, none⟩)) #[true, false, false, false, false, false, false, false, false, false, false, false, false, false, false, false, false, false, false, false, false, false, false, false, false] rfl rfl rfl (by kernel_rfl) (fun _ _ _ h => h) hS0 (by rfl) (fun W hX => by have s0 := hX.1.at 0 (u := .pointer (some ⟨gd, 0, none⟩)) rfl; have d0 := hX.2.at 0 (u := .slice AT nT cT) rfl; have d1 := hX.2.at 1 (u := .int .i64 (size : Int)) rfl; go_simp) ?_
  simp only [Act.put, List.setIfInBounds_toArray, List.set_cons_zero, List.set_cons_succ]
  refine wpAnyT_take 1 (some 23) (.int .i64 (n : Int)) #[true, true, false, false, false, false, false, false, false, false, false, false, false, false, false, false, false, false, false, false, false, false, false, false, false] rfl rfl rfl (by kernel_rfl) (fun _ _ _ h => h) hS0 (by rfl) (fun W hX => by have s0 := hX.1.at 0 (u := .pointer (some ⟨gd, 0, none⟩)) rfl; have d0 := hX.2.at 0 (u := .slice AT nT cT) rfl; have d1 := hX.2.at 1 (u := .int .i64 (size : Int)) rfl; go_simp) ?_
  simp only [Act.put, List.setIfInBounds_toArray, List.set_cons_zero, List.set_cons_succ]
  refine wpAnyT_take 2 (some 24) (.pointer (some ⟨gr, 0, none⟩)) #[true, true, true, false, false, false, false, false, false, false, false, false, false, false, false, false, false, false, false, false, false, false, false, false, false] rfl rfl rfl (by kernel_rfl) (fun _ _ _ h => h) hS0 (by rfl) (fun W hX => by have s0 := hX.1.at 0 (u := .pointer (some ⟨gd, 0, none⟩)) rfl; have d0 := hX.2.at 0 (u := .slice AT nT cT) rfl; have d1 := hX.2.at 1 (u := .int .i64 (size : Int)) rfl; go_simp) ?_
  simp only [Act.put, List.setIfInBounds_toArray, List.set_cons_zero, List.set_cons_succ]
  refine wpAnyT_take 3 (some 25) (.pointer (some ⟨gr, 0, none⟩)) #[true, true, true, true, false, false, false, false, false, false, false, false, false, false, false, false, false, false, false, false, false, false, false, false, false] rfl rfl rfl (by kernel_rfl) (fun _ _ _ h => h) hS0 (by rfl) (fun W hX => by have s0 := hX.1.at 0 (u := .pointer (some ⟨gd, 0, none⟩)) rfl; have d0 := hX.2.at 0 (u := .slice AT nT cT) rfl; have d1 := hX.2.at 1 (u := .int .i64 (size : Int)) rfl; go_simp) ?_
  simp only [Act.put, List.setIfInBounds_toArray, List.set_cons_zero, List.set_cons_succ]
  refine wpAnyT_take 4 (some 26) (.pointer (some ⟨gr, 0, none⟩)) #[true, true, true, true, true, false, false, false, false, false, false, false, false, false, false, false, false, false, false, false, false, false, false, false, false] rfl rfl rfl (by kernel_rfl) (fun _ _ _ h => h) hS0 (by rfl) (fun W hX => by have s0 := hX.1.at 0 (u := .pointer (some ⟨gd, 0, none⟩)) rfl; have d0 := hX.2.at 0 (u := .slice AT nT cT) rfl; have d1 := hX.2.at 1 (u := .int .i64 (size : Int)) rfl; go_simp) ?_
  simp only [Act.put, List.setIfInBounds_toArray, List.set_cons_zero, List.set_cons_succ]
  refine wpAnyT_take 5 (some 27) (.pointer (some ⟨gd, 0, none⟩)) #[true, true, true, true, true, true, false, false, false, false, false, false, false, false, false, false, false, false, false, false, false, false, false, false, false] rfl rfl rfl (by kernel_rfl) (fun _ _ _ h => h) hS0 (by rfl) (fun W hX => by have s0 := hX.1.at 0 (u := .pointer (some ⟨gd, 0, none⟩)) rfl; have d0 := hX.2.at 0 (u := .slice AT nT cT) rfl; have d1 := hX.2.at 1 (u := .int .i64 (size : Int)) rfl; go_simp) ?_
  simp only [Act.put, List.setIfInBounds_toArray, List.set_cons_zero, List.set_cons_succ]
  refine wpAnyT_take 6 (some 28) (.pointer (some ⟨gd, 0, none⟩)) #[true, true, true, true, true, true, true, false, false, false, false, false, false, false, false, false, false, false, false, false, false, false, false, false, false] rfl rfl rfl (by kernel_rfl) (fun _ _ _ h => h) hS0 (by rfl) (fun W hX => by have s0 := hX.1.at 0 (u := .pointer (some ⟨gd, 0, none⟩)) rfl; have d0 := hX.2.at 0 (u := .slice AT nT cT) rfl; have d1 := hX.2.at 1 (u := .int .i64 (size : Int)) rfl; go_simp) ?_
  simp only [Act.put, List.setIfInBounds_toArray, List.set_cons_zero, List.set_cons_succ]
  refine wpAnyT_take 7 (some 29) (.pointer (some ⟨gd, 1, none⟩)) #[true, true, true, true, true, true, true, true, false, false, false, false, false, false, false, false, false, false, false, false, false, false, false, false, false] rfl rfl rfl (by kernel_rfl) (fun _ _ _ h => h) hS0 (by rfl) (fun W hX => by have s0 := hX.1.at 0 (u := .pointer (some ⟨gd, 0, none⟩)) rfl; have d0 := hX.2.at 0 (u := .slice AT nT cT) rfl; have d1 := hX.2.at 1 (u := .int .i64 (size : Int)) rfl; go_simp) ?_
  simp only [Act.put, List.setIfInBounds_toArray, List.set_cons_zero, List.set_cons_succ]
  refine wpAnyT_take 8 (some 30) (.int .i64 (size : Int)) #[true, true, true, true, true, true, true, true, true, false, false, false, false, false, false, false, false, false, false, false, false, false, false, false, false] rfl rfl rfl (by kernel_rfl) (fun _ _ _ h => h) hS0 (by rfl) (fun W hX => by have s0 := hX.1.at 0 (u := .pointer (some ⟨gd, 0, none⟩)) rfl; have d0 := hX.2.at 0 (u := .slice AT nT cT) rfl; have d1 := hX.2.at 1 (u := .int .i64 (size : Int)) rfl; go_simp) ?_
  simp only [Act.put, List.setIfInBounds_toArray, List.set_cons_zero, List.set_cons_succ]
  refine wpAnyT_take 9 (some 31) (.int .i64 (n1 : Int)) #[true, true, true, true, true, true, true, true, true, true, false, false, false, false, false, false, false, false, false, false, false, false, false, false, false] rfl rfl rfl (by kernel_rfl) (fun _ _ _ h => h) hS0 (by rfl) (fun W hX => by have s0 := hX.1.at 0 (u := .pointer (some ⟨gd, 0, none⟩)) rfl; have d0 := hX.2.at 0 (u := .slice AT nT cT) rfl; have d1 := hX.2.at 1 (u := .int .i64 (size : Int)) rfl; go_simp) ?_
  simp only [Act.put, List.setIfInBounds_toArray, List.set_cons_zero, List.set_cons_succ]
  refine wpAnyT_take 10 (some 32) (.int .i64 (n2 : Int)) #[true, true, true, true, true, true, true, true, true, true, true, false, false, false, false, false, false, false, false, false, false, false, false, false, false] rfl rfl rfl (by kernel_rfl) (fun _ _ _ h => h) hS0 (by rfl) (fun W hX => by have s0 := hX.1.at 0 (u := .pointer (some ⟨gd, 0, none⟩)) rfl; have d0 := hX.2.at 0 (u := .slice AT nT cT) rfl; have d1 := hX.2.at 1 (u := .int .i64 (size : Int)) rfl; go_simp) ?_
  simp only [Act.put, List.setIfInBounds_toArray, List.set_cons_zero, List.set_cons_succ]
  refine wpAnyT_take 11 (some 33) (.pointer (some ⟨gr, 0, none⟩)) #[true, true, true, true, true, true, true, true, true, true, true, true, false, false, false, false, false, false, false, false, false, false, false, false, false] rfl rfl rfl (by kernel_rfl) (fun _ _ _ h => h) hS0 (by rfl) (fun W hX => by have s0 := hX.1.at 0 (u := .pointer (some ⟨gd, 0, none⟩)) rfl; have d0 := hX.2.at 0 (u := .slice AT nT cT) rfl; have d1 := hX.2.at 1 (u := .int .i64 (size : Int)) rfl; go_simp) ?_
  simp only [Act.put, List.setIfInBounds_toArray, List.set_cons_zero, List.set_cons_succ]
  refine wpAnyT_take 12 (some 34) (.pointer (some ⟨gr, 0, none⟩)) #[true, true, true, true, true, true, true, true, true, true, true, true, true, false, false, false, false, false, false, false, false, false, false, false, false] rfl rfl rfl (by kernel_rfl) (fun _ _ _ h => h) hS0 (by rfl) (fun W hX => by have s0 := hX.1.at 0 (u := .pointer (some ⟨gd, 0, none⟩)) rfl; have d0 := hX.2.at 0 (u := .slice AT nT cT) rfl; have d1 := hX.2.at 1 (u := .int .i64 (size : Int)) rfl; go_simp) ?_
  simp only [Act.put, List.setIfInBounds_toArray, List.set_cons_zero, List.set_cons_succ]
  refine wpAnyT_take 13 (some 35) (.pointer (some ⟨gr, 0, none⟩)) #[true, true, true, true, true, true, true, true, true, true, true, true, true, true, false, false, false, false, false, false, false, false, false, false, false] rfl rfl rfl (by kernel_rfl) (fun _ _ _ h => h) hS0 (by rfl) (fun W hX => by have s0 := hX.1.at 0 (u := .pointer (some ⟨gd, 0, none⟩)) rfl; have d0 := hX.2.at 0 (u := .slice AT nT cT) rfl; have d1 := hX.2.at 1 (u := .int .i64 (size : Int)) rfl; go_simp) ?_
  simp only [Act.put, List.setIfInBounds_toArray, List.set_cons_zero, List.set_cons_succ]
  refine wpAnyT_take 14 (some 36) (.pointer (some ⟨gd, 0, none⟩)) #[true, true, true, true, true, true, true, true, true, true, true, true, true, true, true, false, false, false, false, false, false, false, false, false, false] rfl rfl rfl (by kernel_rfl) (fun _ _ _ h => h) hS0 (by rfl) (fun W hX => by have s0 := hX.1.at 0 (u := .pointer (some ⟨gd, 0, none⟩)) rfl; have d0 := hX.2.at 0 (u := .slice AT nT cT) rfl; have d1 := hX.2.at 1 (u := .int .i64 (size : Int)) rfl; go_simp) ?_
  simp only [Act.put, List.setIfInBounds_toArray, List.set_cons_zero, List.set_cons_succ]
  refine wpAnyT_take 15 (some 37) (.pointer (some ⟨gd, 0, none⟩)) #[true, true, true, true, true, true, true, true, true, true, true, true, true, true, true, true, false, false, false, false, false, false, false, false, false] rfl rfl rfl (by kernel_rfl) (fun _ _ _ h => h) hS0 (by rfl) (fun W hX => by have s0 := hX.1.at 0 (u := .pointer (some ⟨gd, 0, none⟩)) rfl; have d0 := hX.2.at 0 (u := .slice AT nT cT) rfl; have d1 := hX.2.at 1 (u := .int .i64 (size : Int)) rfl; go_simp) ?_
  simp only [Act.put, List.setIfInBounds_toArray, List.set_cons_zero, List.set_cons_succ]
  refine wpAnyT_take 16 (some 38) (.pointer (some ⟨gd, 1, none⟩)) #[true, true, true, true, true, true, true, true, true, true, true, true, true, true, true, true, true, false, false, false, false, false, false, false, false] rfl rfl rfl (by kernel_rfl) (fun _ _ _ h => h) hS0 (by rfl) (fun W hX => by have s0 := hX.1.at 0 (u := .pointer (some ⟨gd, 0, none⟩)) rfl; have d0 := hX.2.at 0 (u := .slice AT nT cT) rfl; have d1 := hX.2.at 1 (u := .int .i64 (size : Int)) rfl; go_simp) ?_
  simp only [Act.put, List.setIfInBounds_toArray, List.set_cons_zero, List.set_cons_succ]
  refine wpAnyT_take 17 (some 39) (.int .i64 (size : Int)) #[true, true, true, true, true, true, true, true, true, true, true, true, true, true, true, true, true, true, false, false, false, false, false, false, false] rfl rfl rfl (by kernel_rfl) (fun _ _ _ h => h) hS0 (by rfl) (fun W hX => by have s0 := hX.1.at 0 (u := .pointer (some ⟨gd, 0, none⟩)) rfl; have d0 := hX.2.at 0 (u := .slice AT nT cT) rfl; have d1 := hX.2.at 1 (u := .int .i64 (size : Int)) rfl; go_simp) ?_
  simp only [Act.put, List.setIfInBounds_toArray, List.set_cons_zero, List.set_cons_succ]
  refine wpAnyT_take 18 (some 40) (.int .i64 (m : Int)) #[true, true, true, true, true, true, true, true, true, true, true, true, true, true, true, true, true, true, true, false, false, false, false, false, false] rfl rfl rfl (by kernel_rfl) (fun _ _ _ h => h) hS0 (by rfl) (fun W hX => by have s0 := hX.1.at 0 (u := .pointer (some ⟨gd, 0, none⟩)) rfl; have d0 := hX.2.at 0 (u := .slice AT nT cT) rfl; have d1 := hX.2.at 1 (u := .int .i64 (size : Int)) rfl; go_simp) ?_
  simp only [Act.put, List.setIfInBounds_toArray, List.set_cons_zero, List.set_cons_succ]
  refine wpAnyT_only 19 #[true, true, true, true, true, true, true, true, true, true, true, true, true, true, true, true, true, true, true, true, false, false, false, false, false] (by kernel_rfl) rfl rfl (by rfl) (fun K0 hK0 => ?_)
  go_simp
  refine (CC2 w2.drew (hR2.later (Ext.refl w2).drew)).mono ?_
  rintro e3 w3 hC3
  obtain ⟨A3, c3, rfl, hI3, hc3, hR3⟩ := hC3.1 hE3
  refine hK0 _ _ (fun h => absurd h (by decide)) ?_
  clear hK0 K0
  refine wpAnyT_pure 20 (some 21) (.tuple #[.slice A3 m c3, .int .i64 0]) #[true, true, true, true, true, true, true, true, true, true, true, true, true, true, true, true, true, true, true, true, true, false, false, false, false] rfl rfl rfl (by kernel_rfl) (fun _ _ _ h => h) (fun h => absurd h (by decide)) (by rfl) (fun W => by go_simp) ?_
  simp only [Act.put, List.setIfInBounds_toArray, List.set_cons_zero, List.set_cons_succ]
  refine wpAnyT_pure 21 (some 42) (.slice A3 m c3) #[true, true, true, true, true, true, true, true, true, true, true, true, true, true, true, true, true, true, true, true, true, true, false, false, false] rfl rfl rfl (by kernel_rfl) (fun _ _ _ h => h) (fun h => absurd h (by decide)) (by rfl) (fun W => by go_simp) ?_
  simp only [Act.put, List.setIfInBounds_toArray, List.set_cons_zero, List.set_cons_succ]
  refine wpAnyT_pure 22 (some 43) (.int .i64 0) #[true, true, true, true, true, true, true, true, true, true, true, true, true, true, true, true, true, true, true, true, true, true, true, false, false] rfl rfl rfl (by kernel_rfl) (fun _ _ _ h => h) (fun h => absurd h (by decide)) (by rfl) (fun W => by go_simp) ?_
  simp only [Act.put, List.setIfInBounds_toArray, List.set_cons_zero, List.set_cons_succ]
  refine wpAnyT_only 23 #[true, true, true, true, true, true, true, true, true, true, true, true, true, true, true, true, true, true, true, true, true, true, true, true, false] (by kernel_rfl) rfl rfl (by rfl) (fun K1 hK1 => ?_)
  go_simp
  refine hK1 _ _ (fun h => absurd h (by decide)) ?_
  clear hK1 K1
  refine wpAnyT_only 24 #[true, true, true, true, true, true, true, true, true, true, true, true, true, true, true, true, true, true, true, true, true, true, true, true, true] (by kernel_rfl) rfl rfl (by rfl) (fun K2 hK2 => ?_)
  go_simp
  refine hK2 _ _ (fun h => absurd h (by decide)) (wpAnyT_done (by kernel_rfl) ?_ _)
  clear hK2 K2
  dsimp only at hI3 hR3
  have hml := hL2.1
  have hmb : m ≤ 800000 := by have := hL2.2.1; omega
  have HZl := hide hL2.2.2.1
  have HZm := hide hL2.2.2.2
  have HA0 := hide (among_start (b := b) (size := size) (n := n) (q0 := q2) (zs := zs) (by rw [HZl.out]; exact HM.out))
  have HI3 := hide hI3
  have HR3 := hide hR3
  clear hC3 hI3 hR3 hS hS0 CC2 hR2 q1I q2I q1W q2W q3I q3T q3W hL2 hc3 hE3 hmn
  go_wp2
  go_loopw [49] (fun x wr => ∃ (j : Nat) (T F : List (List UInt8)) (q : Nat) (vT vF : Value), j ≤ m ∧ x = .int .i64 (j : Int) ∧ RdrD w wr gr gd A c b size q T F vT vF ∧ OwnI wr w.heap.size (.slice A3 m c3) (zs.map Int.ofNat) ∧ Among b size n q2 zs j T F q) (fun x _ => m - (intOf x).toNat)
  case atStart => exact ⟨0, [], [], q2, _, _, by omega, rfl, HR3.out, HI3.out, HA0.out⟩
  case round =>
    clear HR3 HI3 HA0
    obtain ⟨j, T, F, q, vT, vF, hj, rfl, hR, hI, hAm⟩ := hrel
    by_cases hlt : j < m
    · have hjI : (j : Int) < (m : Int) := by omega
      have hjz : j < zs.length := by rw [HZl.out]; exact hlt
      obtain ⟨z, hz⟩ : ∃ z, z = zs.getD j 0 := ⟨_, rfl⟩
      have hz2 : z ≤ 2000 := by
        have := HZm.out z (by rw [hz, List.getD_eq_getElem?_getD, List.getElem?_eq_getElem hjz]; exact List.getElem_mem _)
        omega
      obtain ⟨A5, c5, hv5, -, hI5⟩ := hI.form
      simp only [Value.slice.injEq] at hv5
      obtain ⟨rfl, -, rfl⟩ := hv5
      have hcell : ∃ bx ox, A3 = some ⟨bx, ox, none⟩ ∧ wr.cell? ⟨bx, ox + j, none⟩ = some (.int .i64 (z : Int)) := by
        rcases hI5.2 with h0 | ⟨bx, ox, h2, _, h4⟩
        · rw [List.length_map, HZl.out] at h0; omega
        · refine ⟨bx, ox, h2, ?_⟩
          rw [h4 j (by rw [List.length_map, HZl.out]; exact hlt), hz]
          simp [List.getD_eq_getElem?_getD, hjz]
      obtain ⟨bx, ox, rfl, hcx⟩ := hcell
      obtain ⟨hmore, hTj⟩ := among_more hs1 hAm hjz
      obtain ⟨AT, cT, hvT, -, -, -⟩ := hR.two.1.form
      obtain ⟨nT, hnT⟩ : ∃ x, x = T.length := ⟨_, rfl⟩
      obtain ⟨lf, hlf⟩ : ∃ x, x = n - T.length := ⟨_, rfl⟩
      obtain ⟨k, hk⟩ : ∃ x, x = min size (n - T.length) := ⟨_, rfl⟩
      have hTq : T.length ≤ 800000 := by have := hAm.few; have := hR.fits; omega
      have hFj : F.length ≤ 800000 := by rw [hAm.firsts]; omega
      have HMin := hide (show (if (lf : Int) < (size : Int) then (lf : Int) else (size : Int)) = (k : Int) by
        rw [hk, hlf]
        split <;> omega)
      have hk1 : 1 ≤ k ∧ k ≤ 64 := by omega
      have hsub : (n : Int) - (nT : Int) = (lf : Int) := by omega
      have hwl : IntKind.i64.wrap (lf : Int) = (lf : Int) := by rw [IntKind.wrap_i64]; omega
      have CB := fun W5 (hR5 : RdrD w W5 gr gd A c b size q T F vT vF) => dBkt_any hR5 HB.out HC.out (by omega) k z hk1.1 hk1.2 hz2 (by omega) (by omega)
      have HAm := hide hAm
      have HNx := hide (fun cc => among_next (c := cc) hs1 hAm hjz)
      have HBd := hide (among_bad hAm hjz)
      rw [← hz, ← hk] at HNx HBd
      obtain ⟨cc, e5, h5⟩ : ∃ cc e, bktR b q z k (T.getLastD []) = (cc, e) := ⟨_, _, rfl⟩
      rw [h5] at CB HNx HBd
      dsimp only at HBd
      rw [← hnT] at hvT
      subst hvT
      have HRr := hide hR
      have HI := hide hI
      have hS := And.intro (hR.rd.ext (Ext.refl wr).drew) (hR.dc.ext (Ext.refl wr).drew)
      rw [← HBL.out] at hS
      have HNT := hide hnT
      clear hR hI hAm hI5 hz hnT hlf hk hmore hTj hTq hFj h5 hjz
      by_cases hE5 : e5 = 0
      · subst hE5
        have HN := hide (HNx.out cc rfl)
        clear HNx HBd
        go_wp2_with fail
        refine wp_region_T (fun W => Whole W gr 72 #[.pointer (some ⟨gd, 0, none⟩), .slice A bl c, .int .i64 (q : Int)] ∧ Whole W gd 70 #[.slice AT nT cT, .int .i64 (size : Int), vF]) 20 22 #[false, false, false, false, false, false, false, false, false, false, false, false, false, false, false, false, false, false, false, false, false, false] (by kernel_rfl) rfl rfl hS ?_
        intro hS0
        refine wpAnyT_take 0 (some 53) (.pointer (some ⟨gr, 0, none⟩)) #[true, false, false, false, false, false, false, false, false, false, false, false, false, false, false, false, false, false, false, false, false, false] rfl rfl rfl (by kernel_rfl) (fun _ _ _ h => h) hS0 (by rfl) (fun W hX => by have s0 := hX.1.at 0 (u := .pointer (some ⟨gd, 0, none⟩)) rfl; have d0 := hX.2.at 0 (u := .slice AT nT cT) rfl; have d1 := hX.2.at 1 (u := .int .i64 (size : Int)) rfl; go_simp) ?_
        simp only [Act.put, List.setIfInBounds_toArray, List.set_cons_zero, List.set_cons_succ]
        refine wpAnyT_take 1 (some 54) (.pointer (some ⟨gr, 0, none⟩)) #[true, true, false, false, false, false, false, false, false, false, false, false, false, false, false, false, false, false, false, false, false, false] rfl rfl rfl (by kernel_rfl) (fun _ _ _ h => h) hS0 (by rfl) (fun W hX => by have s0 := hX.1.at 0 (u := .pointer (some ⟨gd, 0, none⟩)) rfl; have d0 := hX.2.at 0 (u := .slice AT nT cT) rfl; have d1 := hX.2.at 1 (u := .int .i64 (size : Int)) rfl; go_simp) ?_
        simp only [Act.put, List.setIfInBounds_toArray, List.set_cons_zero, List.set_cons_succ]
        refine wpAnyT_take 2 (some 55) (.pointer (some ⟨gr, 0, none⟩)) #[true, true, true, false, false, false, false, false, false, false, false, false, false, false, false, false, false, false, false, false, false, false] rfl rfl rfl (by kernel_rfl) (fun _ _ _ h => h) hS0 (by rfl) (fun W hX => by have s0 := hX.1.at 0 (u := .pointer (some ⟨gd, 0, none⟩)) rfl; have d0 := hX.2.at 0 (u := .slice AT nT cT) rfl; have d1 := hX.2.at 1 (u := .int .i64 (size : Int)) rfl; go_simp) ?_
        simp only [Act.put, List.setIfInBounds_toArray, List.set_cons_zero, List.set_cons_succ]
        refine wpAnyT_take 3 (some 56) (.pointer (some ⟨gr, 0, none⟩)) #[true, true, true, true, false, false, false, false, false, false, false, false, false, false, false, false, false, false, false, false, false, false] rfl rfl rfl (by kernel_rfl) (fun _ _ _ h => h) hS0 (by rfl) (fun W hX => by have s0 := hX.1.at 0 (u := .pointer (some ⟨gd, 0, none⟩)) rfl; have d0 := hX.2.at 0 (u := .slice AT nT cT) rfl; have d1 := hX.2.at 1 (u := .int .i64 (size : Int)) rfl; go_simp) ?_
        simp only [Act.put, List.setIfInBounds_toArray, List.set_cons_zero, List.set_cons_succ]
        refine wpAnyT_take 4 (some 57) (.pointer (some ⟨gd, 0, none⟩)) #[true, true, true, true, true, false, false, false, false, false, false, false, false, false, false, false, false, false, false, false, false, false] rfl rfl rfl (by kernel_rfl) (fun _ _ _ h => h) hS0 (by rfl) (fun W hX => by have s0 := hX.1.at 0 (u := .pointer (some ⟨gd, 0, none⟩)) rfl; have d0 := hX.2.at 0 (u := .slice AT nT cT) rfl; have d1 := hX.2.at 1 (u := .int .i64 (size : Int)) rfl; go_simp) ?_
        simp only [Act.put, List.setIfInBounds_toArray, List.set_cons_zero, List.set_cons_succ]
        refine wpAnyT_take 5 (some 58) (.pointer (some ⟨gd, 0, none⟩)) #[true, true, true, true, true, true, false, false, false, false, false, false, false, false, false, false, false, false, false, false, false, false] rfl rfl rfl (by kernel_rfl) (fun _ _ _ h => h) hS0 (by rfl) (fun W hX => by have s0 := hX.1.at 0 (u := .pointer (some ⟨gd, 0, none⟩)) rfl; have d0 := hX.2.at 0 (u := .slice AT nT cT) rfl; have d1 := hX.2.at 1 (u := .int .i64 (size : Int)) rfl; go_simp) ?_
        simp only [Act.put, List.setIfInBounds_toArray, List.set_cons_zero, List.set_cons_succ]
        refine wpAnyT_take 6 (some 59) (.pointer (some ⟨gd, 1, none⟩)) #[true, true, true, true, true, true, true, false, false, false, false, false, false, false, false, false, false, false, false, false, false, false] rfl rfl rfl (by kernel_rfl) (fun _ _ _ h => h) hS0 (by rfl) (fun W hX => by have s0 := hX.1.at 0 (u := .pointer (some ⟨gd, 0, none⟩)) rfl; have d0 := hX.2.at 0 (u := .slice AT nT cT) rfl; have d1 := hX.2.at 1 (u := .int .i64 (size : Int)) rfl; go_simp) ?_
        simp only [Act.put, List.setIfInBounds_toArray, List.set_cons_zero, List.set_cons_succ]
        refine wpAnyT_take 7 (some 60) (.int .i64 (size : Int)) #[true, true, true, true, true, true, true, true, false, false, false, false, false, false, false, false, false, false, false, false, false, false] rfl rfl rfl (by kernel_rfl) (fun _ _ _ h => h) hS0 (by rfl) (fun W hX => by have s0 := hX.1.at 0 (u := .pointer (some ⟨gd, 0, none⟩)) rfl; have d0 := hX.2.at 0 (u := .slice AT nT cT) rfl; have d1 := hX.2.at 1 (u := .int .i64 (size : Int)) rfl; go_simp) ?_
        simp only [Act.put, List.setIfInBounds_toArray, List.set_cons_zero, List.set_cons_succ]
        refine wpAnyT_take 8 (some 61) (.int .i64 (n : Int)) #[true, true, true, true, true, true, true, true, true, false, false, false, false, false, false, false, false, false, false, false, false, false] rfl rfl rfl (by kernel_rfl) (fun _ _ _ h => h) hS0 (by rfl) (fun W hX => by have s0 := hX.1.at 0 (u := .pointer (some ⟨gd, 0, none⟩)) rfl; have d0 := hX.2.at 0 (u := .slice AT nT cT) rfl; have d1 := hX.2.at 1 (u := .int .i64 (size : Int)) rfl; go_simp) ?_
        simp only [Act.put, List.setIfInBounds_toArray, List.set_cons_zero, List.set_cons_succ]
        refine wpAnyT_take 9 (some 62) (.pointer (some ⟨gr, 0, none⟩)) #[true, true, true, true, true, true, true, true, true, true, false, false, false, false, false, false, false, false, false, false, false, false] rfl rfl rfl (by kernel_rfl) (fun _ _ _ h => h) hS0 (by rfl) (fun W hX => by have s0 := hX.1.at 0 (u := .pointer (some ⟨gd, 0, none⟩)) rfl; have d0 := hX.2.at 0 (u := .slice AT nT cT) rfl; have d1 := hX.2.at 1 (u := .int .i64 (size : Int)) rfl; go_simp) ?_
        simp only [Act.put, List.setIfInBounds_toArray, List.set_cons_zero, List.set_cons_succ]
        refine wpAnyT_take 10 (some 63) (.pointer (some ⟨gr, 0, none⟩)) #[true, true, true, true, true, true, true, true, true, true, true, false, false, false, false, false, false, false, false, false, false, false] rfl rfl rfl (by kernel_rfl) (fun _ _ _ h => h) hS0 (by rfl) (fun W hX => by have s0 := hX.1.at 0 (u := .pointer (some ⟨gd, 0, none⟩)) rfl; have d0 := hX.2.at 0 (u := .slice AT nT cT) rfl; have d1 := hX.2.at 1 (u := .int .i64 (size : Int)) rfl; go_simp) ?_
        simp only [Act.put, List.setIfInBounds_toArray, List.set_cons_zero, List.set_cons_succ]
        refine wpAnyT_take 11 (some 64) (.pointer (some ⟨gr, 0, none⟩)) #[true, true, true, true, true, true, true, true, true, true, true, true, false, false, false, false, false, false, false, false, false, false] rfl rfl rfl (by kernel_rfl) (fun _ _ _ h => h) hS0 (by rfl) (fun W hX => by have s0 := hX.1.at 0 (u := .pointer (some ⟨gd, 0, none⟩)) rfl; have d0 := hX.2.at 0 (u := .slice AT nT cT) rfl; have d1 := hX.2.at 1 (u := .int .i64 (size : Int)) rfl; go_simp) ?_
        simp only [Act.put, List.setIfInBounds_toArray, List.set_cons_zero, List.set_cons_succ]
        refine wpAnyT_take 12 (some 65) (.pointer (some ⟨gd, 0, none⟩)) #[true, true, true, true, true, true, true, true, true, true, true, true, true, false, false, false, false, false, false, false, false, false] rfl rfl rfl (by kernel_rfl) (fun _ _ _ h => h) hS0 (by rfl) (fun W hX => by have s0 := hX.1.at 0 (u := .pointer (some ⟨gd, 0, none⟩)) rfl; have d0 := hX.2.at 0 (u := .slice AT nT cT) rfl; have d1 := hX.2.at 1 (u := .int .i64 (size : Int)) rfl; go_simp) ?_
        simp only [Act.put, List.setIfInBounds_toArray, List.set_cons_zero, List.set_cons_succ]
        refine wpAnyT_take 13 (some 66) (.pointer (some ⟨gd, 0, none⟩)) #[true, true, true, true, true, true, true, true, true, true, true, true, true, true, false, false, false, false, false, false, false, false] rfl rfl rfl (by kernel_rfl) (fun _ _ _ h => h) hS0 (by rfl) (fun W hX => by have s0 := hX.1.at 0 (u := .pointer (some ⟨gd, 0, none⟩)) rfl; have d0 := hX.2.at 0 (u := .slice AT nT cT) rfl; have d1 := hX.2.at 1 (u := .int .i64 (size : Int)) rfl; go_simp) ?_
        simp only [Act.put, List.setIfInBounds_toArray, List.set_cons_zero, List.set_cons_succ]
        refine wpAnyT_take 14 (some 67) (.pointer (some ⟨gd, 0, none⟩)) #[true, true, true, true, true, true, true, true, true, true, true, true, true, true, true, false, false, false, false, false, false, false] rfl rfl rfl (by kernel_rfl) (fun _ _ _ h => h) hS0 (by rfl) (fun W hX => by have s0 := hX.1.at 0 (u := .pointer (some ⟨gd, 0, none⟩)) rfl; have d0 := hX.2.at 0 (u := .slice AT nT cT) rfl; have d1 := hX.2.at 1 (u := .int .i64 (size : Int)) rfl; go_simp) ?_
        simp only [Act.put, List.setIfInBounds_toArray, List.set_cons_zero, List.set_cons_succ]
        refine wpAnyT_take 15 (some 68) (.slice AT nT cT) #[true, true, true, true, true, true, true, true, true, true, true, true, true, true, true, true, false, false, false, false, false, false] rfl rfl rfl (by kernel_rfl) (fun _ _ _ h => h) hS0 (by rfl) (fun W hX => by have s0 := hX.1.at 0 (u := .pointer (some ⟨gd, 0, none⟩)) rfl; have d0 := hX.2.at 0 (u := .slice AT nT cT) rfl; have d1 := hX.2.at 1 (u := .int .i64 (size : Int)) rfl; go_simp) ?_
        simp only [Act.put, List.setIfInBounds_toArray, List.set_cons_zero, List.set_cons_succ]
        refine wpAnyT_take 16 (some 69) (.int .i64 (nT : Int)) #[true, true, true, true, true, true, true, true, true, true, true, true, true, true, true, true, true, false, false, false, false, false] rfl rfl rfl (by kernel_rfl) (fun _ _ _ h => h) hS0 (by rfl) (fun W hX => by have s0 := hX.1.at 0 (u := .pointer (some ⟨gd, 0, none⟩)) rfl; have d0 := hX.2.at 0 (u := .slice AT nT cT) rfl; have d1 := hX.2.at 1 (u := .int .i64 (size : Int)) rfl; go_simp) ?_
        simp only [Act.put, List.setIfInBounds_toArray, List.set_cons_zero, List.set_cons_succ]
        refine wpAnyT_take 17 (some 70) (.int .i64 (lf : Int)) #[true, true, true, true, true, true, true, true, true, true, true, true, true, true, true, true, true, true, false, false, false, false] rfl rfl rfl (by kernel_rfl) (fun _ _ _ h => h) hS0 (by rfl) (fun W hX => by have s0 := hX.1.at 0 (u := .pointer (some ⟨gd, 0, none⟩)) rfl; have d0 := hX.2.at 0 (u := .slice AT nT cT) rfl; have d1 := hX.2.at 1 (u := .int .i64 (size : Int)) rfl; go_simp) ?_
        simp only [Act.put, List.setIfInBounds_toArray, List.set_cons_zero, List.set_cons_succ]
        refine wpAnyT_take 18 (some 71) (.int .i64 (k : Int)) #[true, true, true, true, true, true, true, true, true, true, true, true, true, true, true, true, true, true, true, false, false, false] rfl rfl rfl (by kernel_rfl) (fun _ _ _ h => h) hS0 (by rfl) (fun W hX => by go_simp; first | exact HMin.out | (have h := HMin.out; split at h <;> omega)) ?_
        simp only [Act.put, List.setIfInBounds_toArray, List.set_cons_zero, List.set_cons_succ]
        refine wpAnyT_take 19 (some 72) (.int .i64 (z : Int)) #[true, true, true, true, true, true, true, true, true, true, true, true, true, true, true, true, true, true, true, true, false, false] rfl rfl rfl (by kernel_rfl) (fun _ _ _ h => h) hS0 (by rfl) (fun W hX => by have s0 := hX.1.at 0 (u := .pointer (some ⟨gd, 0, none⟩)) rfl; have d0 := hX.2.at 0 (u := .slice AT nT cT) rfl; have d1 := hX.2.at 1 (u := .int .i64 (size : Int)) rfl; go_simp) ?_
        simp only [Act.put, List.setIfInBounds_toArray, List.set_cons_zero, List.set_cons_succ]
        refine wpAnyT_only 20 #[true, true, true, true, true, true, true, true, true, true, true, true, true, true, true, true, true, true, true, true, true, false] (by kernel_rfl) rfl rfl (by rfl) (fun K0 hK0 => ?_)
        go_simp
        refine (CB wr.drew (HRr.out.later (Ext.refl wr).drew)).mono ?_
        rintro e3 w5 hC5
        obtain ⟨rfl, ⟨vT5, vF5, hR5⟩, hOff5⟩ := hC5.1 rfl
        refine hK0 _ _ (fun h => absurd h (by decide)) ?_
        clear hK0 K0
        refine wpAnyT_only 21 #[true, true, true, true, true, true, true, true, true, true, true, true, true, true, true, true, true, true, true, true, true, true] (by kernel_rfl) rfl rfl (by rfl) (fun K1 hK1 => ?_)
        go_simp
        refine hK1 _ _ (fun h => absurd h (by decide)) (wpAnyT_done (by kernel_rfl) ?_ _)
        clear hK1 K1
        have HR5 := hide hR5
        have HI5 := hide ((HI.out.ext (Ext.refl wr).drew).off hOff5)
        clear hR5 hOff5 hC5 hS hS0 CB HRr HI hsub hwl hcx
        go_wp2
        go_roundw
        case rel => exact ⟨j + 1, T ++ cc, F ++ [cc.getD 0 []], q + z, vT5, vF5, by omega, by go_num, HR5.out, HI5.out, HN.out⟩
        case measure => simp [intOf]; omega
      · have he5b : (e5 != 0) = true := by rw [bne_iff_ne]; exact hE5
        have HB5 := hide (HBd.out hE5)
        have HE5 := hide hE5
        clear HNx HBd
        go_wp2_with fail
        refine wp_region_T (fun W => Whole W gr 72 #[.pointer (some ⟨gd, 0, none⟩), .slice A bl c, .int .i64 (q : Int)] ∧ Whole W gd 70 #[.slice AT nT cT, .int .i64 (size : Int), vF]) 20 22 #[false, false, false, false, false, false, false, false, false, false, false, false, false, false, false, false, false, false, false, false, false, false] (by kernel_rfl) rfl rfl hS ?_
        intro hS0
        refine wpAnyT_take 0 (some 53) (.pointer (some ⟨gr, 0, none⟩)) #[true, false, false, false, false, false, false, false, false, false, false, false, false, false, false, false, false, false, false, false, false, false] rfl rfl rfl (by kernel_rfl) (fun _ _ _ h => h) hS0 (by rfl) (fun W hX => by have s0 := hX.1.at 0 (u := .pointer (some ⟨gd, 0, none⟩)) rfl; have d0 := hX.2.at 0 (u := .slice AT nT cT) rfl; have d1 := hX.2.at 1 (u := .int .i64 (size : Int)) rfl; go_simp) ?_
        simp only [Act.put, List.setIfInBounds_toArray, List.set_cons_zero, List.set_cons_succ]
        refine wpAnyT_take 1 (some 54) (.pointer (some ⟨gr, 0, none⟩)) #[true, true, false, false, false, false, false, false, false, false, false, false, false, false, false, false, false, false, false, false, false, false] rfl rfl rfl (by kernel_rfl) (fun _ _ _ h => h) hS0 (by rfl) (fun W hX => by have s0 := hX.1.at 0 (u := .pointer (some ⟨gd, 0, none⟩)) rfl; have d0 := hX.2.at 0 (u := .slice AT nT cT) rfl; have d1 := hX.2.at 1 (u := .int .i64 (size : Int)) rfl; go_simp) ?_
        simp only [Act.put, List.setIfInBounds_toArray, List.set_cons_zero, List.set_cons_succ]
        refine wpAnyT_take 2 (some 55) (.pointer (some ⟨gr, 0, none⟩)) #[true, true, true, false, false, false, false, false, false, false, false, false, false, false, false, false, false, false, false, false, false, false] rfl rfl rfl (by kernel_rfl) (fun _ _ _ h => h) hS0 (by rfl) (fun W hX => by have s0 := hX.1.at 0 (u := .pointer (some ⟨gd, 0, none⟩)) rfl; have d0 := hX.2.at 0 (u := .slice AT nT cT) rfl; have d1 := hX.2.at 1 (u := .int .i64 (size : Int)) rfl; go_simp) ?_
        simp only [Act.put, List.setIfInBounds_toArray, List.set_cons_zero, List.set_cons_succ]
        refine wpAnyT_take 3 (some 56) (.pointer (some ⟨gr, 0, none⟩)) #[true, true, true, true, false, false, false, false, false, false, false, false, false, false, false, false, false, false, false, false, false, false] rfl rfl rfl (by kernel_rfl) (fun _ _ _ h => h) hS0 (by rfl) (fun W hX => by have s0 := hX.1.at 0 (u := .pointer (some ⟨gd, 0, none⟩)) rfl; have d0 := hX.2.at 0 (u := .slice AT nT cT) rfl; have d1 := hX.2.at 1 (u := .int .i64 (size : Int)) rfl; go_simp) ?_
        simp only [Act.put, List.setIfInBounds_toArray, List.set_cons_zero, List.set_cons_succ]
        refine wpAnyT_take 4 (some 57) (.pointer (some ⟨gd, 0, none⟩)) #[true, true, true, true, true, false, false, false, false, false, false, false, false, false, false, false, false, false, false, false, false, false] rfl rfl rfl (by kernel_rfl) (fun _ _ _ h => h) hS0 (by rfl) (fun W hX => by have s0 := hX.1.at 0 (u := .pointer (some ⟨gd, 0, none⟩)) rfl; have d0 := hX.2.at 0 (u := .slice AT nT cT) rfl; have d1 := hX.2.at 1 (u := .int .i64 (size : Int)) rfl; go_simp) ?_
        simp only [Act.put, List.setIfInBounds_toArray, List.set_cons_zero, List.set_cons_succ]
        refine wpAnyT_take 5 (some 58) (.pointer (some ⟨gd, 0, none⟩)) #[true, true, true, true, true, true, false, false, false, false, false, false, false, false, false, false, false, false, false, false, false, false] rfl rfl rfl (by kernel_rfl) (fun _ _ _ h => h) hS0 (by rfl) (fun W hX => by have s0 := hX.1.at 0 (u := .pointer (some ⟨gd, 0, none⟩)) rfl; have d0 := hX.2.at 0 (u := .slice AT nT cT) rfl; have d1 := hX.2.at 1 (u := .int .i64 (size : Int)) rfl; go_simp) ?_
        simp only [Act.put, List.setIfInBounds_toArray, List.set_cons_zero, List.set_cons_succ]
        refine wpAnyT_take 6 (some 59) (.pointer (some ⟨gd, 1, none⟩)) #[true, true, true, true, true, true, true, false, false, false, false, false, false, false, false, false, false, false, false, false, false, false] rfl rfl rfl (by kernel_rfl) (fun _ _ _ h => h) hS0 (by rfl) (fun W hX => by have s0 := hX.1.at 0 (u := .pointer (some ⟨gd, 0, none⟩)) rfl; have d0 := hX.2.at 0 (u := .slice AT nT cT) rfl; have d1 := hX.2.at 1 (u := .int .i64 (size : Int)) rfl; go_simp) ?_
        simp only [Act.put, List.setIfInBounds_toArray, List.set_cons_zero, List.set_cons_succ]
        refine wpAnyT_take 7 (some 60) (.int .i64 (size : Int)) #[true, true, true, true, true, true, true, true, false, false, false, false, false, false, false, false, false, false, false, false, false, false] rfl rfl rfl (by kernel_rfl) (fun _ _ _ h => h) hS0 (by rfl) (fun W hX => by have s0 := hX.1.at 0 (u := .pointer (some ⟨gd, 0, none⟩)) rfl; have d0 := hX.2.at 0 (u := .slice AT nT cT) rfl; have d1 := hX.2.at 1 (u := .int .i64 (size : Int)) rfl; go_simp) ?_
        simp only [Act.put, List.setIfInBounds_toArray, List.set_cons_zero, List.set_cons_succ]
        refine wpAnyT_take 8 (some 61) (.int .i64 (n : Int)) #[true, true, true, true, true, true, true, true, true, false, false, false, false, false, false, false, false, false, false, false, false, false] rfl rfl rfl (by kernel_rfl) (fun _ _ _ h => h) hS0 (by rfl) (fun W hX => by have s0 := hX.1.at 0 (u := .pointer (some ⟨gd, 0, none⟩)) rfl; have d0 := hX.2.at 0 (u := .slice AT nT cT) rfl; have d1 := hX.2.at 1 (u := .int .i64 (size : Int)) rfl; go_simp) ?_
        simp only [Act.put, List.setIfInBounds_toArray, List.set_cons_zero, List.set_cons_succ]
        refine wpAnyT_take 9 (some 62) (.pointer (some ⟨gr, 0, none⟩)) #[true, true, true, true, true, true, true, true, true, true, false, false, false, false, false, false, false, false, false, false, false, false] rfl rfl rfl (by kernel_rfl) (fun _ _ _ h => h) hS0 (by rfl) (fun W hX => by have s0 := hX.1.at 0 (u := .pointer (some ⟨gd, 0, none⟩)) rfl; have d0 := hX.2.at 0 (u := .slice AT nT cT) rfl; have d1 := hX.2.at 1 (u := .int .i64 (size : Int)) rfl; go_simp) ?_
        simp only [Act.put, List.setIfInBounds_toArray, List.set_cons_zero, List.set_cons_succ]
        refine wpAnyT_take 10 (some 63) (.pointer (some ⟨gr, 0, none⟩)) #[true, true, true, true, true, true, true, true, true, true, true, false, false, false, false, false, false, false, false, false, false, false] rfl rfl rfl (by kernel_rfl) (fun _ _ _ h => h) hS0 (by rfl) (fun W hX => by have s0 := hX.1.at 0 (u := .pointer (some ⟨gd, 0, none⟩)) rfl; have d0 := hX.2.at 0 (u := .slice AT nT cT) rfl; have d1 := hX.2.at 1 (u := .int .i64 (size : Int)) rfl; go_simp) ?_
        simp only [Act.put, List.setIfInBounds_toArray, List.set_cons_zero, List.set_cons_succ]
        refine wpAnyT_take 11 (some 64) (.pointer (some ⟨gr, 0, none⟩)) #[true, true, true, true, true, true, true, true, true, true, true, true, false, false, false, false, false, false, false, false, false, false] rfl rfl rfl (by kernel_rfl) (fun _ _ _ h => h) hS0 (by rfl) (fun W hX => by have s0 := hX.1.at 0 (u := .pointer (some ⟨gd, 0, none⟩)) rfl; have d0 := hX.2.at 0 (u := .slice AT nT cT) rfl; have d1 := hX.2.at 1 (u := .int .i64 (size : Int)) rfl; go_simp) ?_
        simp only [Act.put, List.setIfInBounds_toArray, List.set_cons_zero, List.set_cons_succ]
        refine wpAnyT_take 12 (some 65) (.pointer (some ⟨gd, 0, none⟩)) #[true, true, true, true, true, true, true, true, true, true, true, true, true, false, false, false, false, false, false, false, false, false] rfl rfl rfl (by kernel_rfl) (fun _ _ _ h => h) hS0 (by rfl) (fun W hX => by have s0 := hX.1.at 0 (u := .pointer (some ⟨gd, 0, none⟩)) rfl; have d0 := hX.2.at 0 (u := .slice AT nT cT) rfl; have d1 := hX.2.at 1 (u := .int .i64 (size : Int)) rfl; go_simp) ?_
        simp only [Act.put, List.setIfInBounds_toArray, List.set_cons_zero, List.set_cons_succ]
        refine wpAnyT_take 13 (some 66) (.pointer (some ⟨gd, 0, none⟩)) #[true, true, true, true, true, true, true, true, true, true, true, true, true, true, false, false, false, false, false, false, false, false] rfl rfl rfl (by kernel_rfl) (fun _ _ _ h => h) hS0 (by rfl) (fun W hX => by have s0 := hX.1.at 0 (u := .pointer (some ⟨gd, 0, none⟩)) rfl; have d0 := hX.2.at 0 (u := .slice AT nT cT) rfl; have d1 := hX.2.at 1 (u := .int .i64 (size : Int)) rfl; go_simp) ?_
        simp only [Act.put, List.setIfInBounds_toArray, List.set_cons_zero, List.set_cons_succ]
        refine wpAnyT_take 14 (some 67) (.pointer (some ⟨gd, 0, none⟩)) #[true, true, true, true, true, true, true, true, true, true, true, true, true, true, true, false, false, false, false, false, false, false] rfl rfl rfl (by kernel_rfl) (fun _ _ _ h => h) hS0 (by rfl) (fun W hX => by have s0 := hX.1.at 0 (u := .pointer (some ⟨gd, 0, none⟩)) rfl; have d0 := hX.2.at 0 (u := .slice AT nT cT) rfl; have d1 := hX.2.at 1 (u := .int .i64 (size : Int)) rfl; go_simp) ?_
        simp only [Act.put, List.setIfInBounds_toArray, List.set_cons_zero, List.set_cons_succ]
        refine wpAnyT_take 15 (some 68) (.slice AT nT cT) #[true, true, true, true, true, true, true, true, true, true, true, true, true, true, true, true, false, false, false, false, false, false] rfl rfl rfl (by kernel_rfl) (fun _ _ _ h => h) hS0 (by rfl) (fun W hX => by have s0 := hX.1.at 0 (u := .pointer (some ⟨gd, 0, none⟩)) rfl; have d0 := hX.2.at 0 (u := .slice AT nT cT) rfl; have d1 := hX.2.at 1 (u := .int .i64 (size : Int)) rfl; go_simp) ?_
        simp only [Act.put, List.setIfInBounds_toArray, List.set_cons_zero, List.set_cons_succ]
        refine wpAnyT_take 16 (some 69) (.int .i64 (nT : Int)) #[true, true, true, true, true, true, true, true, true, true, true, true, true, true, true, true, true, false, false, false, false, false] rfl rfl rfl (by kernel_rfl) (fun _ _ _ h => h) hS0 (by rfl) (fun W hX => by have s0 := hX.1.at 0 (u := .pointer (some ⟨gd, 0, none⟩)) rfl; have d0 := hX.2.at 0 (u := .slice AT nT cT) rfl; have d1 := hX.2.at 1 (u := .int .i64 (size : Int)) rfl; go_simp) ?_
        simp only [Act.put, List.setIfInBounds_toArray, List.set_cons_zero, List.set_cons_succ]
        refine wpAnyT_take 17 (some 70) (.int .i64 (lf : Int)) #[true, true, true, true, true, true, true, true, true, true, true, true, true, true, true, true, true, true, false, false, false, false] rfl rfl rfl (by kernel_rfl) (fun _ _ _ h => h) hS0 (by rfl) (fun W hX => by have s0 := hX.1.at 0 (u := .pointer (some ⟨gd, 0, none⟩)) rfl; have d0 := hX.2.at 0 (u := .slice AT nT cT) rfl; have d1 := hX.2.at 1 (u := .int .i64 (size : Int)) rfl; go_simp) ?_
        simp only [Act.put, List.setIfInBounds_toArray, List.set_cons_zero, List.set_cons_succ]
        refine wpAnyT_take 18 (some 71) (.int .i64 (k : Int)) #[true, true, true, true, true, true, true, true, true, true, true, true, true, true, true, true, true, true, true, false, false, false] rfl rfl rfl (by kernel_rfl) (fun _ _ _ h => h) hS0 (by rfl) (fun W hX => by go_simp; first | exact HMin.out | (have h := HMin.out; split at h <;> omega)) ?_
        simp only [Act.put, List.setIfInBounds_toArray, List.set_cons_zero, List.set_cons_succ]
        refine wpAnyT_take 19 (some 72) (.int .i64 (z : Int)) #[true, true, true, true, true, true, true, true, true, true, true, true, true, true, true, true, true, true, true, true, false, false] rfl rfl rfl (by kernel_rfl) (fun _ _ _ h => h) hS0 (by rfl) (fun W hX => by have s0 := hX.1.at 0 (u := .pointer (some ⟨gd, 0, none⟩)) rfl; have d0 := hX.2.at 0 (u := .slice AT nT cT) rfl; have d1 := hX.2.at 1 (u := .int .i64 (size : Int)) rfl; go_simp) ?_
        simp only [Act.put, List.setIfInBounds_toArray, List.set_cons_zero, List.set_cons_succ]
        refine wpAnyT_only 20 #[true, true, true, true, true, true, true, true, true, true, true, true, true, true, true, true, true, true, true, true, true, false] (by kernel_rfl) rfl rfl (by rfl) (fun K0 hK0 => ?_)
        go_simp
        refine (CB wr.drew (HRr.out.later (Ext.refl wr).drew)).mono ?_
        rintro e3 w5 hC5
        obtain ⟨rfl, hX5⟩ := hC5.2 hE5
        refine hK0 _ _ (fun h => absurd h (by decide)) ?_
        clear hK0 K0
        refine wpAnyT_only 21 #[true, true, true, true, true, true, true, true, true, true, true, true, true, true, true, true, true, true, true, true, true, true] (by kernel_rfl) rfl rfl (by rfl) (fun K1 hK1 => ?_)
        go_simp
        refine hK1 _ _ (fun h => absurd h (by decide)) (wpAnyT_done (by kernel_rfl) ?_ _)
        clear hK1 K1
        have HX := hide hX5
        clear hX5 hC5 hE5 hS hS0 CB HRr HI hsub hwl hcx
        go_wp2
        go_ret
        have hr2 : res.2.2 = e5 := by rw [HRg.out]; exact HB5.out
        exact ⟨fun h => absurd (hr2.symm.trans h) HE5.out, fun _ => ⟨by rw [hr2]; rfl, HX.out⟩⟩
    · have hjI : ¬ (j : Int) < (m : Int) := by omega
      obtain rfl : j = m := by omega
      have hEnd := among_end hs1 (by rw [HZl.out]; exact hAm) (by rw [HZl.out]; exact HM.out)
      have HE := hide hEnd.1
      have HF := hide hEnd.2
      have HRr := hide hR
      have HTl := hide (show T.length ≤ b.length by have := hAm.few; have := hR.fits; omega)
      clear hEnd hR hI hAm hlt
      go_wp2
      go_ret
      rw [HRg.out, HE.out]
      exact ⟨fun _ => ⟨rfl, F, vT, vF, HRr.out, HF.out, HTl.out⟩, fun h => absurd rfl h⟩

theorem Dic.firsts_rise {size : Nat} {l F : List (List UInt8)} (hs : 1 ≤ size) (h : Rising l) (hF : FirstsOf size l F) : Rising F := by
  refine List.pairwise_iff_getElem.2 fun i j hi hj hij => ?_
  have h1 := hF.2 i hi
  have h2 := hF.2 j hj
  have h3 := buckets_in hs (show j < bucketsN size l.length by rw [← hF.1]; exact hj)
  have h4 := rise_lt h (Nat.mul_lt_mul_of_pos_right hij (by omega : 0 < size)) h3
  rw [← h1, ← h2] at h4
  simpa [List.getD_eq_getElem?_getD, hi, hj] using h4
set_option maxHeartbeats 2000000 in
set_option maxRecDepth 10000 in
theorem dReadSize_any (size : Int) (A : Option Addr) (n c : Nat) (w : World) (hs : sizeD size = false) :
    Calls Tryz.prog 15 #[.int .i64 size, .slice A n c] w fun e w' => e = .returned (.tuple #[.pointer none, .int .i64 0, .int .i64 13]) ∧ Ext w w' := by
  have CS := dSize_any size w
  rw [hs] at CS
  clear hs
  go_enter Tryz.func15, Tryz.ntmps15
  go_wp2_with fail
  refine CS.mono ?_
  rintro e w' ⟨rfl, rfl⟩
  clear CS
  go_wp2
  go_ret3
  exact ⟨rfl, Ext.refl _⟩
/-- What Read tells. -/
def ReaTo (w : World) (r : List (List UInt8) × Nat × Int) (e : Ending) (w' : World) : Prop :=
  Ext w w' ∧ (r.2.2 = 0 → ∃ g, e = .returned (.tuple #[.pointer (some ⟨g, 0, none⟩), .int .i64 (r.2.1 : Int), .int .i64 0]) ∧ DicLst w' g r.1) ∧ (r.2.2 ≠ 0 → e = .returned (.tuple #[.pointer none, .int .i64 0, .int .i64 r.2.2]))
set_option maxHeartbeats 2000000 in
set_option maxRecDepth 10000 in
theorem dReadGood_any (size : Nat) (b : List UInt8) (A : Option Addr) (c : Nat) (w : World) (hs1 : 1 ≤ size) (hs2 : size ≤ 64) (hc : b.length ≤ c) (hl : b.length ≤ 800000) (hB : Bytes w w.heap.size A b.length b) :
    Calls Tryz.prog 15 #[.int .i64 (size : Int), .slice A b.length c] w (ReaTo w (readR b size)) := by
  have CS := dSize_any (size : Int) w
  rw [show sizeD (size : Int) = true from decide_eq_true (by omega)] at CS
  have hE1 := extNew w (.cells #[.slice none 0 0, .int .i64 (size : Int), .slice none 0 0] 70)
  have hE2 := extNew (w.alloc (.cells #[.slice none 0 0, .int .i64 (size : Int), .slice none 0 0] 70)) (.cells #[.pointer (some ⟨w.heap.size, 0, none⟩), .slice A b.length c, .int .i64 0] 72)
  have hR : RdrD w ((w.alloc (.cells #[.slice none 0 0, .int .i64 (size : Int), .slice none 0 0] 70)).alloc (.cells #[.pointer (some ⟨w.heap.size, 0, none⟩), .slice A b.length c, .int .i64 0] 72)) (w.heap.size + 1) w.heap.size A c b size 0 [] [] (.slice none 0 0) (.slice none 0 0) := by
    refine ⟨?_, (Whole.new w _ _).alloc _, (TwoTx.nil _ _), hE1.trans hE2, by omega, Nat.zero_le _⟩
    have := Whole.new (w.alloc (.cells #[.slice none 0 0, .int .i64 (size : Int), .slice none 0 0] 70)) 72 #[.pointer (some ⟨w.heap.size, 0, none⟩), .slice A b.length c, .int .i64 0]
    rwa [World.size_alloc] at this
  have CR := dRead1_any hR hB hc hl hs1 hs2
  have HOne := hide (fun l n => read_one (b := b) (size := size) (l := l) (n := n) hs1)
  generalize readR b size = res at *
  have HL8 := hide hl
  obtain ⟨bl, hbl⟩ : ∃ x, x = b.length := ⟨_, rfl⟩
  rw [← hbl] at CR hl ⊢
  clear hE1 hE2 hR hB hc hbl
  go_enter Tryz.func15, Tryz.ntmps15
  go_wp2_with fail
  refine CS.mono ?_
  rintro e w' ⟨rfl, rfl⟩
  clear CS
  go_wp2_with fail
  generalize (w.alloc (.cells #[.slice none 0 0, .int .i64 (size : Int), .slice none 0 0] 70)).alloc (.cells #[.pointer (some ⟨w.heap.size, 0, none⟩), .slice A bl c, .int .i64 0] 72) = w2 at *
  generalize w.heap.size = gd at *
  refine CR.mono ?_
  rintro e w3 hC
  obtain ⟨l, q, e3, rfl⟩ : ∃ l q e, res = (l, q, e) := ⟨_, _, _, rfl⟩
  by_cases he : e3 = 0
  · subst he
    obtain ⟨rfl, F, vT, vF, hR, hF, hll⟩ := hC.1 rfl
    try dsimp only at hR hF hll
    have hmay := (HOne.out l q rfl).1
    have hrise := (may_facts hmay).2.2
    obtain ⟨AT, cT, rfl, h1, h2, h3⟩ := hR.two.1.form
    obtain ⟨AF, cF, rfl, h4, h5, h6⟩ := hR.two.2.1.form
    have HD := hide (show DicAt w3 gd size AT cT F AF cF l from ⟨hR.dc, h3, h6, hF, hrise, firsts_rise hs1 hrise hF, hs1, hs2, by have := HL8.out; omega, h1, h2⟩)
    have c0 := hR.rd.at 0 (u := .pointer (some ⟨gd, 0, none⟩)) rfl
    have c2 := hR.rd.at 2 (u := .int .i64 (q : Int)) rfl
    have HE := hide hR.ext
    clear hR hF hll hmay hrise h1 h2 h3 h4 h5 h6 hC CR HOne
    go_wp2_with fail
    go_quiet (fail)
    go_wp2
    go_ret3
    exact ⟨HE.out.drewN _, fun _ => ⟨gd, rfl, size, AT, cT, F, AF, cF, HD.out.ext ((Ext.refl w3).drewN _)⟩, fun h => absurd rfl h⟩
  · obtain ⟨rfl, hX⟩ := hC.2 he
    have heb : (e3 != 0) = true := by rw [bne_iff_ne]; exact he
    have HX := hide hX
    have HNe := hide he
    clear hC CR HOne hX he
    go_wp2
    go_ret3
    exact ⟨HX.out, fun h => absurd h HNe.out, fun _ => rfl⟩
end Go.Proofs.YtcphapdjimeoaaaGreat

