/- The program's read and Read of chapter 16. Writing a dictionary step by step, as plain mathematics: bucket by bucket, text by text. The program's bytes of a bucket. A loop over an iterator that is never left early: what comes in round k is known; the loop's own invariant tells how many rounds are over. The library's slices.Chunk at texts: what comes, round by round. What the call owns lies in no block of another kind. Blocks of the call's own and blocks known whole are left as they are by a loop's own records. Slices of slices of bytes. The contracts of the library's slices.Concat at bytes (with its Grow of nothing), and of the program's All. -/
import Derived.Test.YtmaddohfkfnnhaaB01
import Derived.Test.YtmaddohfkfnnhaaB02
import Derived.Test.YtmaddohfkfnnhaaB03
import Derived.Test.YtmaddohfkfnnhaaB05
import Derived.RangeFuncNested
import Derived.RangeFuncBox
import Derived.RangeFuncLeaves
import Derived.OwnWalkIn
import Derived.TacticsInMore
import Derived.LoopNIn
import Derived.LoopIn
import Derived.Lib.SliceRun
namespace Go.Proofs.Ytmaddohfkfnnhaa
open Go.RowKit Num Wrd Dic

/-- What read tells. -/
def RedTo (w : World) (gr gd : Nat) (A : Option Addr) (c : Nat) (b : List UInt8) (size : Nat) (r : List (List UInt8) × Nat × Int) (e : Ending) (W' : World) : Prop :=
  (r.2.2 = 0 → e = .returned (.int .i64 0) ∧ ∃ F vT vF, RdrD w W' gr gd A c b size r.2.1 r.1 F vT vF ∧ FirstsOf size r.1 F ∧ r.1.length ≤ b.length) ∧
  (r.2.2 ≠ 0 → e = .returned (.int .i64 r.2.2) ∧ Ext w W')
set_option maxHeartbeats 4000000 in
set_option maxRecDepth 10000 in
theorem dRead1_any {w W : World} {gr gd c size : Nat} {A : Option Addr} {b : List UInt8} {vT vF : Value} (h : RdrD w W gr gd A c b size 0 [] [] vT vF) (hB : Bytes w w.heap.size A b.length b) (hc : b.length ≤ c) (hl : b.length ≤ 800000) (hs1 : 1 ≤ size) (hs2 : size ≤ 64) :
    Calls Try.prog 34 #[.pointer (some ⟨gr, 0, none⟩)] W (RedTo w gr gd A c b size (readR b size)) := by
  have CC1 := dCounts_any h hB hc (by omega) 1 1048576 (by omega) (by omega)
  have HB := hide hB
  have HC := hide hc
  have HH := hide h
  rw [show ((1048576 : Nat) : Int) = 1048576 from rfl] at CC1
  obtain ⟨vs1, q1, e1, h1⟩ : ∃ vs q e, numsR b 1048576 1 0 = (vs, q, e) := ⟨_, _, _, rfl⟩
  have hlong := nums_long (b := b) (most := 1048576) 1 0
  by_cases he1 : e1 = 0
  case neg =>
    have HR := hide (read_first (size := size) (by rw [h1]) he1)
    rw [h1] at CC1
    have he1b : (e1 != 0) = true := by rw [bne_iff_ne]; exact he1
    generalize readR b size = res at *
    have HE1 := hide he1
    clear h hB hc h1 hlong he1
    go_enter Try.func34, Try.ntmps34
    go_wp2_with fail
    refine CC1.mono ?_
    rintro e w2 hC
    obtain ⟨rfl, hX⟩ := hC.2 HE1.out
    have HX := hide hX
    clear CC1 hC hX
    go_wp2
    go_ret
    rw [HR.out]
    exact ⟨fun h => absurd h HE1.out, fun _ => ⟨rfl, HX.out⟩⟩
  subst he1
  rw [h1] at hlong
  obtain ⟨g1, g2, g3, g4⟩ := hlong rfl (Nat.zero_le _)
  dsimp only at g1 g2 g3 g4
  obtain ⟨n, rfl⟩ : ∃ n, vs1 = [n] := by
    match vs1, g3 with
    | [n], _ => exact ⟨n, rfl⟩
  have hn := g4 n (by simp)
  rw [h1] at CC1
  have HR := hide (read_then (size := size) h1)
  obtain ⟨m, hm⟩ : ∃ m, m = bucketsN size n := ⟨_, rfl⟩
  have hmn : m ≤ 1048640 := by
    rw [hm]
    unfold bucketsN
    refine Nat.le_trans (Nat.div_le_self _ _) ?_
    omega
  have CC2 := fun W2 (hR : RdrD w W2 gr gd A c b size q1 [] [] vT vF) => dCounts_any hR hB hc (by omega) m 2000 (by omega) (by omega)
  rw [show ((2000 : Nat) : Int) = 2000 from rfl] at CC2
  rw [← hm] at HR
  have HM := hide hm
  obtain ⟨zs, q2, e3v, h3⟩ : ∃ vs q e, numsR b 2000 m q1 = (vs, q, e) := ⟨_, _, _, rfl⟩
  have hlong2 := nums_long (b := b) (most := 2000) m q1
  rw [h3] at CC2 HR hlong2
  dsimp only at HR hlong2
  have HL2 := hide hlong2
  have HR0 := hide HR.out
  generalize readR b size = res at *
  have hq1 : q1 ≤ b.length := g2
  -- the numbers of the quotient
  obtain ⟨n1, hn1⟩ : ∃ x, x = n + size := ⟨_, rfl⟩
  obtain ⟨n2, hn2⟩ : ∃ x, x = n + size - 1 := ⟨_, rfl⟩
  have q1I : (n : Int) + (size : Int) = (n1 : Int) := by omega
  have q2I : (n1 : Int) - 1 = (n2 : Int) := by omega
  have q1W : IntKind.i64.wrap (n1 : Int) = (n1 : Int) := by rw [IntKind.wrap_i64]; omega
  have q2W : IntKind.i64.wrap (n2 : Int) = (n2 : Int) := by rw [IntKind.wrap_i64]; omega
  have q3I : (n2 : Int) / (size : Int) = (m : Int) := by rw [hn2, hm]; unfold bucketsN; rfl
  have q3T : Int.tdiv (n2 : Int) (size : Int) = (m : Int) := by rw [← q3I]; exact Int.tdiv_eq_ediv_of_nonneg (by omega)
  have q3W : IntKind.i64.wrap (m : Int) = (m : Int) := by rw [IntKind.wrap_i64]; omega
  have hs0 : ((size : Int) == 0) = false := by rw [beq_eq_false_iff_ne]; omega
  have hs0' : ¬ (size : Int) = 0 := by omega
  have hsN : ¬ size = 0 := by omega
  obtain ⟨AT, cT, hvT, -, -, -⟩ := h.two.1.form
  obtain ⟨nT, hnT⟩ : ∃ x, x = ([] : List (List UInt8)).length := ⟨_, rfl⟩
  rw [← hnT] at hvT
  subst hvT
  obtain ⟨bl, hbl⟩ : ∃ x, x = b.length := ⟨_, rfl⟩
  have HBL := hide hbl
  clear h hB hc h1 hlong g1 g3 g4 g2 HR h3 hlong2 hn1 hn2 hm hnT hbl
  go_enter Try.func34, Try.ntmps34
  go_wp2_with fail
  refine CC1.mono ?_
  rintro e w2 hC
  obtain ⟨A2, c2, rfl, hI2, hc2, hR2⟩ := hC.1 rfl
  dsimp only at hR2
  obtain ⟨A5, c5, hv5, -, hI5⟩ := hI2.form
  simp only [Value.slice.injEq, List.map_cons, List.map_nil, List.length_cons, List.length_nil] at hv5
  obtain ⟨rfl, -, rfl⟩ := hv5
  have hcell : ∃ bx ox, A2 = some ⟨bx, ox, none⟩ ∧ w2.cell? ⟨bx, ox, none⟩ = some (.int .i64 (n : Int)) := by
    rcases hI5.2 with h0 | ⟨bx, ox, h2, _, h4⟩
    · simp at h0
    · exact ⟨bx, ox, h2, by have := h4 0 (by simp); simpa using this⟩
  obtain ⟨bx, ox, rfl, hcx⟩ := hcell
  clear CC1 hC hI2 hI5 hc2
  go_wp2_with fail
  have hS := And.intro (hR2.rd.ext (Ext.refl w2).drew) (hR2.dc.ext (Ext.refl w2).drew)
  rw [← HBL.out] at hS
  by_cases hE3 : e3v = 0
  case neg =>
    have he3b : (e3v != 0) = true := by rw [bne_iff_ne]; exact hE3
    have HRb := hide (show res = ([], 0, e3v) by rw [HR0.out, if_pos hE3])
    have HE3 := hide hE3
    clear HR0 hcx
    refine wp_region_T (fun W => Whole W gr 68 #[.pointer (some ⟨gd, 0, none⟩), .slice A bl c, .int .i64 (q1 : Int)] ∧ Whole W gd 66 #[.slice AT nT cT, .int .i64 (size : Int), vF]) 19 25 #[false, false, false, false, false, false, false, false, false, false, false, false, false, false, false, false, false, false, false, false, false, false, false, false, false] (by kernel_rfl) rfl rfl hS ?_
    intro hS0
    refine wpAnyT_take 0 (some 22) (.pointer (some ⟨gr, 0, none⟩)) #[true, false, false, false, false, false, false, false, false, false, false, false, false, false, false, false, false, false, false, false, false, false, false, false, false] rfl rfl rfl (by kernel_rfl) (fun _ _ _ h => h) hS0 (by rfl) (fun W hX => by have s0 := hX.1.at 0 (u := .pointer (some ⟨gd, 0, none⟩)) rfl; have d0 := hX.2.at 0 (u := .slice AT nT cT) rfl; have d1 := hX.2.at 1 (u := .int .i64 (size : Int)) rfl; go_simp) ?_
    simp only [Act.put, List.setIfInBounds_toArray, List.set_cons_zero, List.set_cons_succ]
    refine wpAnyT_take 1 (some 23) (.int .i64 (n : Int)) #[true, true, false, false, false, false, false, false, false, false, false, false, false, false, false, false, false, false, false, false, false, false, false, false, false] rfl rfl rfl (by kernel_rfl) (fun _ _ _ h => h) hS0 (by rfl) (fun W hX => by have s0 := hX.1.at 0 (u := .pointer (some ⟨gd, 0, none⟩)) rfl; have d0 := hX.2.at 0 (u := .slice AT nT cT) rfl; have d1 := hX.2.at 1 (u := .int .i64 (size : Int)) rfl; go_simp) ?_
    simp only [Act.put, List.setIfInBounds_toArray, List.set_cons_zero, List.set_cons_succ]
    refine wpAnyT_take 2 (some 24) (.pointer (some ⟨gr, 0, none⟩)) #[true, true, true, false, false, false, false, false, false, false, false, false, false, false, false, false, false, false, false, false, false, false, false, false, false] rfl rfl rfl (by kernel_rfl) (fun _ _ _ h => h) hS0 (by rfl) (fun W hX => by have s0 := hX.1.at 0 (u := .pointer (some ⟨gd, 0, none⟩)) rfl; have d0 := hX.2.at 0 (u := .slice AT nT cT) rfl; have d1 := hX.2.at 1 (u := .int .i64 (size : Int)) rfl; go_simp) ?_
    simp only [Act.put, List.setIfInBounds_toArray, List.set_cons_zero, List.set_cons_succ]
    refine wpAnyT_take 3 (some 25) (.pointer (some ⟨gr, 0, none⟩)) #[true, true, true, true, false, false, false, false, false, false, false, false, false, false, false, false, false, false, false, false, false, false, false, false, false] rfl rfl rfl (by kernel_rfl) (fun _ _ _ h => h) hS0 (by rfl) (fun W hX => by have s0 := hX.1.at 0 (u := .pointer (some ⟨gd, 0, none⟩)) rfl; have d0 := hX.2.at 0 (u := .slice AT nT cT) rfl; have d1 := hX.2.at 1 (u := .int .i64 (size : Int)) rfl; go_simp) ?_
    simp only [Act.put, List.setIfInBounds_toArray, List.set_cons_zero, List.set_cons_succ]
    refine wpAnyT_take 4 (some 26) (.pointer (some ⟨gr, 0, none⟩)) #[true, true, true, true, true, false, false, false, false, false, false, false, false, false, false, false, false, false, false, false, false, false, false, false, false] rfl rfl rfl (by kernel_rfl) (fun _ _ _ h => h) hS0 (by rfl) (fun W hX => by have s0 := hX.1.at 0 (u := .pointer (some ⟨gd, 0, none⟩)) rfl; have d0 := hX.2.at 0 (u := .slice AT nT cT) rfl; have d1 := hX.2.at 1 (u := .int .i64 (size : Int)) rfl; go_simp) ?_
    simp only [Act.put, List.setIfInBounds_toArray, List.set_cons_zero, List.set_cons_succ]
    refine wpAnyT_take 5 (some 27) (.pointer (some ⟨gd, 0, none⟩)) #[true, true, true, true, true, true, false, false, false, false, false, false, false, false, false, false, false, false, false, false, false, false, false, false, false] rfl rfl rfl (by kernel_rfl) (fun _ _ _ h => h) hS0 (by rfl) (fun W hX => by have s0 := hX.1.at 0 (u := .pointer (some ⟨gd, 0, none⟩)) rfl; have d0 := hX.2.at 0 (u := .slice AT nT cT) rfl; have d1 := hX.2.at 1 (u := .int .i64 (size : Int)) rfl; go_simp) ?_
    simp only [Act.put, List.setIfInBounds_toArray, List.set_cons_zero, List.set_cons_succ]
    refine wpAnyT_take 6 (some 28) (.pointer (some ⟨gd, 0, none⟩)) #[true, true, true, true, true, true, true, false, false, false, false, false, false, false, false, false, false, false, false, false, false, false, false, false, false] rfl rfl rfl (by kernel_rfl) (fun _ _ _ h => h) hS0 (by rfl) (fun W hX => by have s0 := hX.1.at 0 (u := .pointer (some ⟨gd, 0, none⟩)) rfl; have d0 := hX.2.at 0 (u := .slice AT nT cT) rfl; have d1 := hX.2.at 1 (u := .int .i64 (size : Int)) rfl; go_simp) ?_
    simp only [Act.put, List.setIfInBounds_toArray, List.set_cons_zero, List.set_cons_succ]
    refine wpAnyT_take 7 (some 29) (.pointer (some ⟨gd, 1, none⟩)) #[true, true, true, true, true, true, true, true, false, false, false, false, false, false, false, false, false, false, false, false, false, false, false, false, false] rfl rfl rfl (by kernel_rfl) (fun _ _ _ h => h) hS0 (by rfl) (fun W hX => by have s0 := hX.1.at 0 (u := .pointer (some ⟨gd, 0, none⟩)) rfl; have d0 := hX.2.at 0 (u := .slice AT nT cT) rfl; have d1 := hX.2.at 1 (u := .int .i64 (size : Int)) rfl; go_simp) ?_
    simp only [Act.put, List.setIfInBounds_toArray, List.set_cons_zero, List.set_cons_succ]
    refine wpAnyT_take 8 (some 30) (.int .i64 (size : Int)) #[true, true, true, true, true, true, true, true, true, false, false, false, false, false, false, false, false, false, false, false, false, false, false, false, false] rfl rfl rfl (by kernel_rfl) (fun _ _ _ h => h) hS0 (by rfl) (fun W hX => by have s0 := hX.1.at 0 (u := .pointer (some ⟨gd, 0, none⟩)) rfl; have d0 := hX.2.at 0 (u := .slice AT nT cT) rfl; have d1 := hX.2.at 1 (u := .int .i64 (size : Int)) rfl; go_simp) ?_
    simp only [Act.put, List.setIfInBounds_toArray, List.set_cons_zero, List.set_cons_succ]
    refine wpAnyT_take 9 (some 31) (.int .i64 (n1 : Int)) #[true, true, true, true, true, true, true, true, true, true, false, false, false, false, false, false, false, false, false, false, false, false, false, false, false] rfl rfl rfl (by kernel_rfl) (fun _ _ _ h => h) hS0 (by rfl) (fun W hX => by have s0 := hX.1.at 0 (u := .pointer (some ⟨gd, 0, none⟩)) rfl; have d0 := hX.2.at 0 (u := .slice AT nT cT) rfl; have d1 := hX.2.at 1 (u := .int .i64 (size : Int)) rfl; go_simp) ?_
    simp only [Act.put, List.setIfInBounds_toArray, List.set_cons_zero, List.set_cons_succ]
    refine wpAnyT_take 10 (some 32) (.int .i64 (n2 : Int)) #[true, true, true, true, true, true, true, true, true, true, true, false, false, false, false, false, false, false, false, false, false, false, false, false, false] rfl rfl rfl (by kernel_rfl) (fun _ _ _ h => h) hS0 (by rfl) (fun W hX => by have s0 := hX.1.at 0 (u := .pointer (some ⟨gd, 0, none⟩)) rfl; have d0 := hX.2.at 0 (u := .slice AT nT cT) rfl; have d1 := hX.2.at 1 (u := .int .i64 (size : Int)) rfl; go_simp) ?_
    simp only [Act.put, List.setIfInBounds_toArray, List.set_cons_zero, List.set_cons_succ]
    refine wpAnyT_take 11 (some 33) (.pointer (some ⟨gr, 0, none⟩)) #[true, true, true, true, true, true, true, true, true, true, true, true, false, false, false, false, false, false, false, false, false, false, false, false, false] rfl rfl rfl (by kernel_rfl) (fun _ _ _ h => h) hS0 (by rfl) (fun W hX => by have s0 := hX.1.at 0 (u := .pointer (some ⟨gd, 0, none⟩)) rfl; have d0 := hX.2.at 0 (u := .slice AT nT cT) rfl; have d1 := hX.2.at 1 (u := .int .i64 (size : Int)) rfl; go_simp) ?_
    simp only [Act.put, List.setIfInBounds_toArray, List.set_cons_zero, List.set_cons_succ]
    refine wpAnyT_take 12 (some 34) (.pointer (some ⟨gr, 0, none⟩)) #[true, true, true, true, true, true, true, true, true, true, true, true, true, false, false, false, false, false, false, false, false, false, false, false, false] rfl rfl rfl (by kernel_rfl) (fun _ _ _ h => h) hS0 (by rfl) (fun W hX => by have s0 := hX.1.at 0 (u := .pointer (some ⟨gd, 0, none⟩)) rfl; have d0 := hX.2.at 0 (u := .slice AT nT cT) rfl; have d1 := hX.2.at 1 (u := .int .i64 (size : Int)) rfl; go_simp) ?_
    simp only [Act.put, List.setIfInBounds_toArray, List.set_cons_zero, List.set_cons_succ]
    refine wpAnyT_take 13 (some 35) (.pointer (some ⟨gr, 0, none⟩)) #[true, true, true, true, true, true, true, true, true, true, true, true, true, true, false, false, false, false, false, false, false, false, false, false, false] rfl rfl rfl (by kernel_rfl) (fun _ _ _ h => h) hS0 (by rfl) (fun W hX => by have s0 := hX.1.at 0 (u := .pointer (some ⟨gd, 0, none⟩)) rfl; have d0 := hX.2.at 0 (u := .slice AT nT cT) rfl; have d1 := hX.2.at 1 (u := .int .i64 (size : Int)) rfl; go_simp) ?_
    simp only [Act.put, List.setIfInBounds_toArray, List.set_cons_zero, List.set_cons_succ]
    refine wpAnyT_take 14 (some 36) (.pointer (some ⟨gd, 0, none⟩)) #[true, true, true, true, true, true, true, true, true, true, true, true, true, true, true, false, false, false, false, false, false, false, false, false, false] rfl rfl rfl (by kernel_rfl) (fun _ _ _ h => h) hS0 (by rfl) (fun W hX => by have s0 := hX.1.at 0 (u := .pointer (some ⟨gd, 0, none⟩)) rfl; have d0 := hX.2.at 0 (u := .slice AT nT cT) rfl; have d1 := hX.2.at 1 (u := .int .i64 (size : Int)) rfl; go_simp) ?_
    simp only [Act.put, List.setIfInBounds_toArray, List.set_cons_zero, List.set_cons_succ]
    refine wpAnyT_take 15 (some 37) (.pointer (some ⟨gd, 0, none⟩)) #[true, true, true, true, true, true, true, true, true, true, true, true, true, true, true, true, false, false, false, false, false, false, false, false, false] rfl rfl rfl (by kernel_rfl) (fun _ _ _ h => h) hS0 (by rfl) (fun W hX => by have s0 := hX.1.at 0 (u := .pointer (some ⟨gd, 0, none⟩)) rfl; have d0 := hX.2.at 0 (u := .slice AT nT cT) rfl; have d1 := hX.2.at 1 (u := .int .i64 (size : Int)) rfl; go_simp) ?_
    simp only [Act.put, List.setIfInBounds_toArray, List.set_cons_zero, List.set_cons_succ]
    refine wpAnyT_take 16 (some 38) (.pointer (some ⟨gd, 1, none⟩)) #[true, true, true, true, true, true, true, true, true, true, true, true, true, true, true, true, true, false, false, false, false, false, false, false, false] rfl rfl rfl (by kernel_rfl) (fun _ _ _ h => h) hS0 (by rfl) (fun W hX => by have s0 := hX.1.at 0 (u := .pointer (some ⟨gd, 0, none⟩)) rfl; have d0 := hX.2.at 0 (u := .slice AT nT cT) rfl; have d1 := hX.2.at 1 (u := .int .i64 (size : Int)) rfl; go_simp) ?_
    simp only [Act.put, List.setIfInBounds_toArray, List.set_cons_zero, List.set_cons_succ]
    refine wpAnyT_take 17 (some 39) (.int .i64 (size : Int)) #[true, true, true, true, true, true, true, true, true, true, true, true, true, true, true, true, true, true, false, false, false, false, false, false, false] rfl rfl rfl (by kernel_rfl) (fun _ _ _ h => h) hS0 (by rfl) (fun W hX => by have s0 := hX.1.at 0 (u := .pointer (some ⟨gd, 0, none⟩)) rfl; have d0 := hX.2.at 0 (u := .slice AT nT cT) rfl; have d1 := hX.2.at 1 (u := .int .i64 (size : Int)) rfl; go_simp) ?_
    simp only [Act.put, List.setIfInBounds_toArray, List.set_cons_zero, List.set_cons_succ]
    refine wpAnyT_take 18 (some 40) (.int .i64 (m : Int)) #[true, true, true, true, true, true, true, true, true, true, true, true, true, true, true, true, true, true, true, false, false, false, false, false, false] rfl rfl rfl (by kernel_rfl) (fun _ _ _ h => h) hS0 (by rfl) (fun W hX => by have s0 := hX.1.at 0 (u := .pointer (some ⟨gd, 0, none⟩)) rfl; have d0 := hX.2.at 0 (u := .slice AT nT cT) rfl; have d1 := hX.2.at 1 (u := .int .i64 (size : Int)) rfl; go_simp) ?_
    simp only [Act.put, List.setIfInBounds_toArray, List.set_cons_zero, List.set_cons_succ]
    refine wpAnyT_only 19 #[true, true, true, true, true, true, true, true, true, true, true, true, true, true, true, true, true, true, true, true, false, false, false, false, false] (by kernel_rfl) rfl rfl (by rfl) (fun K0 hK0 => ?_)
    go_simp
    refine (CC2 w2.drew (hR2.later (Ext.refl w2).drew)).mono ?_
    rintro e3 w3 hC3
    obtain ⟨rfl, hX3⟩ := hC3.2 hE3
    refine hK0 _ _ (fun h => absurd h (by decide)) ?_
    clear hK0 K0
    refine wpAnyT_pure 20 (some 21) (.tuple #[.slice none 0 0, .int .i64 e3v]) #[true, true, true, true, true, true, true, true, true, true, true, true, true, true, true, true, true, true, true, true, true, false, false, false, false] rfl rfl rfl (by kernel_rfl) (fun _ _ _ h => h) (fun h => absurd h (by decide)) (by rfl) (fun W => by go_simp) ?_
    simp only [Act.put, List.setIfInBounds_toArray, List.set_cons_zero, List.set_cons_succ]
    refine wpAnyT_pure 21 (some 42) (.slice none 0 0) #[true, true, true, true, true, true, true, true, true, true, true, true, true, true, true, true, true, true, true, true, true, true, false, false, false] rfl rfl rfl (by kernel_rfl) (fun _ _ _ h => h) (fun h => absurd h (by decide)) (by rfl) (fun W => by go_simp) ?_
    simp only [Act.put, List.setIfInBounds_toArray, List.set_cons_zero, List.set_cons_succ]
    refine wpAnyT_pure 22 (some 43) (.int .i64 e3v) #[true, true, true, true, true, true, true, true, true, true, true, true, true, true, true, true, true, true, true, true, true, true, true, false, false] rfl rfl rfl (by kernel_rfl) (fun _ _ _ h => h) (fun h => absurd h (by decide)) (by rfl) (fun W => by go_simp) ?_
    simp only [Act.put, List.setIfInBounds_toArray, List.set_cons_zero, List.set_cons_succ]
    refine wpAnyT_only 23 #[true, true, true, true, true, true, true, true, true, true, true, true, true, true, true, true, true, true, true, true, true, true, true, true, false] (by kernel_rfl) rfl rfl (by rfl) (fun K1 hK1 => ?_)
    go_simp
    refine hK1 _ _ (fun h => absurd h (by decide)) ?_
    clear hK1 K1
    refine wpAnyT_only 24 #[true, true, true, true, true, true, true, true, true, true, true, true, true, true, true, true, true, true, true, true, true, true, true, true, true] (by kernel_rfl) rfl rfl (by rfl) (fun K2 hK2 => ?_)
    go_simp
    refine hK2 _ _ (fun h => absurd h (by decide)) (wpAnyT_done (by kernel_rfl) ?_ _)
    clear hK2 K2
    have HX := hide hX3
    clear hX3 hC3 hE3 hS hS0 CC2 hR2 q1I q2I q1W q2W q3I q3T q3W hs0 hs0' hsN
    go_wp2
    go_ret
    rw [HRb.out]
    exact ⟨fun h => absurd h HE3.out, fun _ => ⟨rfl, HX.out⟩⟩
  have HRg := hide (show res = partsR b size zs n [] q2 by rw [HR0.out, if_neg (by simp [hE3])])
  have hL2 := HL2.out hE3 hq1
  clear HR0 HL2 hcx
  refine wp_region_T (fun W => Whole W gr 68 #[.pointer (some ⟨gd, 0, none⟩), .slice A bl c, .int .i64 (q1 : Int)] ∧ Whole W gd 66 #[.slice AT nT cT, .int .i64 (size : Int), vF]) 19 25 #[false, false, false, false, false, false, false, false, false, false, false, false, false, false, false, false, false, false, false, false, false, false, false, false, false] (by kernel_rfl) rfl rfl hS ?_
  intro hS0
  refine wpAnyT_take 0 (some 22) (.pointer (some ⟨gr, 0, none⟩)) #[true, false, false, false, false, false, false, false, false, false, false, false, false, false, false, false, false, false, false, false, false, false, false, false, false] rfl rfl rfl (by kernel_rfl) (fun _ _ _ h => h) hS0 (by rfl) (fun W hX => by have s0 := hX.1.at 0 (u := .pointer (some ⟨gd, 0, none⟩)) rfl; have d0 := hX.2.at 0 (u := .slice AT nT cT) rfl; have d1 := hX.2.at 1 (u := .int .i64 (size : Int)) rfl; go_simp) ?_
  simp only [Act.put, List.setIfInBounds_toArray, List.set_cons_zero, List.set_cons_succ]
  refine wpAnyT_take 1 (some 23) (.int .i64 (n : Int)) #[true, true, false, false, false, false, false, false, false, false, false, false, false, false, false, false, false, false, false, false, false, false, false, false, false] rfl rfl rfl (by kernel_rfl) (fun _ _ _ h => h) hS0 (by rfl) (fun W hX => by have s0 := hX.1.at 0 (u := .pointer (some ⟨gd, 0, none⟩)) rfl; have d0 := hX.2.at 0 (u := .slice AT nT cT) rfl; have d1 := hX.2.at 1 (u := .int .i64 (size : Int)) rfl; go_simp) ?_
  simp only [Act.put, List.setIfInBounds_toArray, List.set_cons_zero, List.set_cons_succ]
  refine wpAnyT_take 2 (some 24) (.pointer (some ⟨gr, 0, none⟩)) #[true, true, true, false, false, false, false, false, false, false, false, false, false, false, false, false, false, false, false, false, false, false, false, false, false] rfl rfl rfl (by kernel_rfl) (fun _ _ _ h => h) hS0 (by rfl) (fun W hX => by have s0 := hX.1.at 0 (u := .pointer (some ⟨gd, 0, none⟩)) rfl; have d0 := hX.2.at 0 (u := .slice AT nT cT) rfl; have d1 := hX.2.at 1 (u := .int .i64 (size : Int)) rfl; go_simp) ?_
  simp only [Act.put, List.setIfInBounds_toArray, List.set_cons_zero, List.set_cons_succ]
  refine wpAnyT_take 3 (some 25) (.pointer (some ⟨gr, 0, none⟩)) #[true, true, true, true, false, false, false, false, false, false, false, false, false, false, false, false, false, false, false, false, false, false, false, false, false] rfl rfl rfl (by kernel_rfl) (fun _ _ _ h => h) hS0 (by rfl) (fun W hX => by have s0 := hX.1.at 0 (u := .pointer (some ⟨gd, 0, none⟩)) rfl; have d0 := hX.2.at 0 (u := .slice AT nT cT) rfl; have d1 := hX.2.at 1 (u := .int .i64 (size : Int)) rfl; go_simp) ?_
  simp only [Act.put, List.setIfInBounds_toArray, List.set_cons_zero, List.set_cons_succ]
  refine wpAnyT_take 4 (some 26) (.pointer (some ⟨gr, 0, none⟩)) #[true, true, true, true, true, false, false, false, false, false, false, false, false, false, false, false, false, false, false, false, false, false, false, false, false] rfl rfl rfl (by kernel_rfl) (fun _ _ _ h => h) hS0 (by rfl) (fun W hX => by have s0 := hX.1.at 0 (u := .pointer (some ⟨gd, 0, none⟩)) rfl; have d0 := hX.2.at 0 (u := .slice AT nT cT) rfl; have d1 := hX.2.at 1 (u := .int .i64 (size : Int)) rfl; go_simp) ?_
  simp only [Act.put, List.setIfInBounds_toArray, List.set_cons_zero, List.set_cons_succ]
  refine wpAnyT_take 5 (some 27) (.pointer (some ⟨gd, 0, none⟩)) #[true, true, true, true, true, true, false, false, false, false, false, false, false, false, false, false, false, false, false, false, false, false, false, false, false] rfl rfl rfl (by kernel_rfl) (fun _ _ _ h => h) hS0 (by rfl) (fun W hX => by have s0 := hX.1.at 0 (u := .pointer (some ⟨gd, 0, none⟩)) rfl; have d0 := hX.2.at 0 (u := .slice AT nT cT) rfl; have d1 := hX.2.at 1 (u := .int .i64 (size : Int)) rfl; go_simp) ?_
  simp only [Act.put, List.setIfInBounds_toArray, List.set_cons_zero, List.set_cons_succ]
  refine wpAnyT_take 6 (some 28) (.pointer (some ⟨gd, 0, none⟩)) #[true, true, true, true, true, true, true, false, false, false, false, false, false, false, false, false, false, false, false, false, false, false, false, false, false] rfl rfl rfl (by kernel_rfl) (fun _ _ _ h => h) hS0 (by rfl) (fun W hX => by have s0 := hX.1.at 0 (u := .pointer (some ⟨gd, 0, none⟩)) rfl; have d0 := hX.2.at 0 (u := .slice AT nT cT) rfl; have d1 := hX.2.at 1 (u := .int .i64 (size : Int)) rfl; go_simp) ?_
  simp only [Act.put, List.setIfInBounds_toArray, List.set_cons_zero, List.set_cons_succ]
  refine wpAnyT_take 7 (some 29) (.pointer (some ⟨gd, 1, none⟩)) #[true, true, true, true, true, true, true, true, false, false, false, false, false, false, false, false, false, false, false, false, false, false, false, false, false] rfl rfl rfl (by kernel_rfl) (fun _ _ _ h => h) hS0 (by rfl) (fun W hX => by have s0 := hX.1.at 0 (u := .pointer (some ⟨gd, 0, none⟩)) rfl; have d0 := hX.2.at 0 (u := .slice AT nT cT) rfl; have d1 := hX.2.at 1 (u := .int .i64 (size : Int)) rfl; go_simp) ?_
  simp only [Act.put, List.setIfInBounds_toArray, List.set_cons_zero, List.set_cons_succ]
  refine wpAnyT_take 8 (some 30) (.int .i64 (size : Int)) #[true, true, true, true, true, true, true, true, true, false, false, false, false, false, false, false, false, false, false, false, false, false, false, false, false] rfl rfl rfl (by kernel_rfl) (fun _ _ _ h => h) hS0 (by rfl) (fun W hX => by have s0 := hX.1.at 0 (u := .pointer (some ⟨gd, 0, none⟩)) rfl; have d0 := hX.2.at 0 (u := .slice AT nT cT) rfl; have d1 := hX.2.at 1 (u := .int .i64 (size : Int)) rfl; go_simp) ?_
  simp only [Act.put, List.setIfInBounds_toArray, List.set_cons_zero, List.set_cons_succ]
  refine wpAnyT_take 9 (some 31) (.int .i64 (n1 : Int)) #[true, true, true, true, true, true, true, true, true, true, false, false, false, false, false, false, false, false, false, false, false, false, false, false, false] rfl rfl rfl (by kernel_rfl) (fun _ _ _ h => h) hS0 (by rfl) (fun W hX => by have s0 := hX.1.at 0 (u := .pointer (some ⟨gd, 0, none⟩)) rfl; have d0 := hX.2.at 0 (u := .slice AT nT cT) rfl; have d1 := hX.2.at 1 (u := .int .i64 (size : Int)) rfl; go_simp) ?_
  simp only [Act.put, List.setIfInBounds_toArray, List.set_cons_zero, List.set_cons_succ]
  refine wpAnyT_take 10 (some 32) (.int .i64 (n2 : Int)) #[true, true, true, true, true, true, true, true, true, true, true, false, false, false, false, false, false, false, false, false, false, false, false, false, false] rfl rfl rfl (by kernel_rfl) (fun _ _ _ h => h) hS0 (by rfl) (fun W hX => by have s0 := hX.1.at 0 (u := .pointer (some ⟨gd, 0, none⟩)) rfl; have d0 := hX.2.at 0 (u := .slice AT nT cT) rfl; have d1 := hX.2.at 1 (u := .int .i64 (size : Int)) rfl; go_simp) ?_
  simp only [Act.put, List.setIfInBounds_toArray, List.set_cons_zero, List.set_cons_succ]
  refine wpAnyT_take 11 (some 33) (.pointer (some ⟨gr, 0, none⟩)) #[true, true, true, true, true, true, true, true, true, true, true, true, false, false, false, false, false, false, false, false, false, false, false, false, false] rfl rfl rfl (by kernel_rfl) (fun _ _ _ h => h) hS0 (by rfl) (fun W hX => by have s0 := hX.1.at 0 (u := .pointer (some ⟨gd, 0, none⟩)) rfl; have d0 := hX.2.at 0 (u := .slice AT nT cT) rfl; have d1 := hX.2.at 1 (u := .int .i64 (size : Int)) rfl; go_simp) ?_
  simp only [Act.put, List.setIfInBounds_toArray, List.set_cons_zero, List.set_cons_succ]
  refine wpAnyT_take 12 (some 34) (.pointer (some ⟨gr, 0, none⟩)) #[true, true, true, true, true, true, true, true, true, true, true, true, true, false, false, false, false, false, false, false, false, false, false, false, false] rfl rfl rfl (by kernel_rfl) (fun _ _ _ h => h) hS0 (by rfl) (fun W hX => by have s0 := hX.1.at 0 (u := .pointer (some ⟨gd, 0, none⟩)) rfl; have d0 := hX.2.at 0 (u := .slice AT nT cT) rfl; have d1 := hX.2.at 1 (u := .int .i64 (size : Int)) rfl; go_simp) ?_
  simp only [Act.put, List.setIfInBounds_toArray, List.set_cons_zero, List.set_cons_succ]
  refine wpAnyT_take 13 (some 35) (.pointer (some ⟨gr, 0, none⟩)) #[true, true, true, true, true, true, true, true, true, true, true, true, true, true, false, false, false, false, false, false, false, false, false, false, false] rfl rfl rfl (by kernel_rfl) (fun _ _ _ h => h) hS0 (by rfl) (fun W hX => by have s0 := hX.1.at 0 (u := .pointer (some ⟨gd, 0, none⟩)) rfl; have d0 := hX.2.at 0 (u := .slice AT nT cT) rfl; have d1 := hX.2.at 1 (u := .int .i64 (size : Int)) rfl; go_simp) ?_
  simp only [Act.put, List.setIfInBounds_toArray, List.set_cons_zero, List.set_cons_succ]
  refine wpAnyT_take 14 (some 36) (.pointer (some ⟨gd, 0, none⟩)) #[true, true, true, true, true, true, true, true, true, true, true, true, true, true, true, false, false, false, false, false, false, false, false, false, false] rfl rfl rfl (by kernel_rfl) (fun _ _ _ h => h) hS0 (by rfl) (fun W hX => by have s0 := hX.1.at 0 (u := .pointer (some ⟨gd, 0, none⟩)) rfl; have d0 := hX.2.at 0 (u := .slice AT nT cT) rfl; have d1 := hX.2.at 1 (u := .int .i64 (size : Int)) rfl; go_simp) ?_
  simp only [Act.put, List.setIfInBounds_toArray, List.set_cons_zero, List.set_cons_succ]
  refine wpAnyT_take 15 (some 37) (.pointer (some ⟨gd, 0, none⟩)) #[true, true, true, true, true, true, true, true, true, true, true, true, true, true, true, true, false, false, false, false, false, false, false, false, false] rfl rfl rfl (by kernel_rfl) (fun _ _ _ h => h) hS0 (by rfl) (fun W hX => by have s0 := hX.1.at 0 (u := .pointer (some ⟨gd, 0, none⟩)) rfl; have d0 := hX.2.at 0 (u := .slice AT nT cT) rfl; have d1 := hX.2.at 1 (u := .int .i64 (size : Int)) rfl; go_simp) ?_
  simp only [Act.put, List.setIfInBounds_toArray, List.set_cons_zero, List.set_cons_succ]
  refine wpAnyT_take 16 (some 38) (.pointer (some ⟨gd, 1, none⟩)) #[true, true, true, true, true, true, true, true, true, true, true, true, true, true, true, true, true, false, false, false, false, false, false, false, false] rfl rfl rfl (by kernel_rfl) (fun _ _ _ h => h) hS0 (by rfl) (fun W hX => by have s0 := hX.1.at 0 (u := .pointer (some ⟨gd, 0, none⟩)) rfl; have d0 := hX.2.at 0 (u := .slice AT nT cT) rfl; have d1 := hX.2.at 1 (u := .int .i64 (size : Int)) rfl; go_simp) ?_
  simp only [Act.put, List.setIfInBounds_toArray, List.set_cons_zero, List.set_cons_succ]
  refine wpAnyT_take 17 (some 39) (.int .i64 (size : Int)) #[true, true, true, true, true, true, true, true, true, true, true, true, true, true, true, true, true, true, false, false, false, false, false, false, false] rfl rfl rfl (by kernel_rfl) (fun _ _ _ h => h) hS0 (by rfl) (fun W hX => by have s0 := hX.1.at 0 (u := .pointer (some ⟨gd, 0, none⟩)) rfl; have d0 := hX.2.at 0 (u := .slice AT nT cT) rfl; have d1 := hX.2.at 1 (u := .int .i64 (size : Int)) rfl; go_simp) ?_
  simp only [Act.put, List.setIfInBounds_toArray, List.set_cons_zero, List.set_cons_succ]
  refine wpAnyT_take 18 (some 40) (.int .i64 (m : Int)) #[true, true, true, true, true, true, true, true, true, true, true, true, true, true, true, true, true, true, true, false, false, false, false, false, false] rfl rfl rfl (by kernel_rfl) (fun _ _ _ h => h) hS0 (by rfl) (fun W hX => by have s0 := hX.1.at 0 (u := .pointer (some ⟨gd, 0, none⟩)) rfl; have d0 := hX.2.at 0 (u := .slice AT nT cT) rfl; have d1 := hX.2.at 1 (u := .int .i64 (size : Int)) rfl; go_simp) ?_
  simp only [Act.put, List.setIfInBounds_toArray, List.set_cons_zero, List.set_cons_succ]
  refine wpAnyT_only 19 #[true, true, true, true, true, true, true, true, true, true, true, true, true, true, true, true, true, true, true, true, false, false, false, false, false] (by kernel_rfl) rfl rfl (by rfl) (fun K0 hK0 => ?_)
  go_simp
  refine (CC2 w2.drew (hR2.later (Ext.refl w2).drew)).mono ?_
  rintro e3 w3 hC3
  obtain ⟨A3, c3, rfl, hI3, hc3, hR3⟩ := hC3.1 hE3
  refine hK0 _ _ (fun h => absurd h (by decide)) ?_
  clear hK0 K0
  refine wpAnyT_pure 20 (some 21) (.tuple #[.slice A3 m c3, .int .i64 0]) #[true, true, true, true, true, true, true, true, true, true, true, true, true, true, true, true, true, true, true, true, true, false, false, false, false] rfl rfl rfl (by kernel_rfl) (fun _ _ _ h => h) (fun h => absurd h (by decide)) (by rfl) (fun W => by go_simp) ?_
  simp only [Act.put, List.setIfInBounds_toArray, List.set_cons_zero, List.set_cons_succ]
  refine wpAnyT_pure 21 (some 42) (.slice A3 m c3) #[true, true, true, true, true, true, true, true, true, true, true, true, true, true, true, true, true, true, true, true, true, true, false, false, false] rfl rfl rfl (by kernel_rfl) (fun _ _ _ h => h) (fun h => absurd h (by decide)) (by rfl) (fun W => by go_simp) ?_
  simp only [Act.put, List.setIfInBounds_toArray, List.set_cons_zero, List.set_cons_succ]
  refine wpAnyT_pure 22 (some 43) (.int .i64 0) #[true, true, true, true, true, true, true, true, true, true, true, true, true, true, true, true, true, true, true, true, true, true, true, false, false] rfl rfl rfl (by kernel_rfl) (fun _ _ _ h => h) (fun h => absurd h (by decide)) (by rfl) (fun W => by go_simp) ?_
  simp only [Act.put, List.setIfInBounds_toArray, List.set_cons_zero, List.set_cons_succ]
  refine wpAnyT_only 23 #[true, true, true, true, true, true, true, true, true, true, true, true, true, true, true, true, true, true, true, true, true, true, true, true, false] (by kernel_rfl) rfl rfl (by rfl) (fun K1 hK1 => ?_)
  go_simp
  refine hK1 _ _ (fun h => absurd h (by decide)) ?_
  clear hK1 K1
  refine wpAnyT_only 24 #[true, true, true, true, true, true, true, true, true, true, true, true, true, true, true, true, true, true, true, true, true, true, true, true, true] (by kernel_rfl) rfl rfl (by rfl) (fun K2 hK2 => ?_)
  go_simp
  refine hK2 _ _ (fun h => absurd h (by decide)) (wpAnyT_done (by kernel_rfl) ?_ _)
  clear hK2 K2
  dsimp only at hI3 hR3
  have hml := hL2.1
  have hmb : m ≤ 800000 := by have := hL2.2.1; omega
  have HZl := hide hL2.2.2.1
  have HZm := hide hL2.2.2.2
  have HA0 := hide (among_start (b := b) (size := size) (n := n) (q0 := q2) (zs := zs) (by rw [HZl.out]; exact HM.out))
  have HI3 := hide hI3
  have HR3 := hide hR3
  clear hC3 hI3 hR3 hS hS0 CC2 hR2 q1I q2I q1W q2W q3I q3T q3W hL2 hc3 hE3 hmn
  go_wp2
  go_loopw [49] (fun x wr => ∃ (j : Nat) (T F : List (List UInt8)) (q : Nat) (vT vF : Value), j ≤ m ∧ x = .int .i64 (j : Int) ∧ RdrD w wr gr gd A c b size q T F vT vF ∧ OwnI wr w.heap.size (.slice A3 m c3) (zs.map Int.ofNat) ∧ Among b size n q2 zs j T F q) (fun x _ => m - (intOf x).toNat)
  case atStart => exact ⟨0, [], [], q2, _, _, by omega, rfl, HR3.out, HI3.out, HA0.out⟩
  case round =>
    clear HR3 HI3 HA0
    obtain ⟨j, T, F, q, vT, vF, hj, rfl, hR, hI, hAm⟩ := hrel
    by_cases hlt : j < m
    · have hjI : (j : Int) < (m : Int) := by omega
      have hjz : j < zs.length := by rw [HZl.out]; exact hlt
      obtain ⟨z, hz⟩ : ∃ z, z = zs.getD j 0 := ⟨_, rfl⟩
      have hz2 : z ≤ 2000 := by
        have := HZm.out z (by rw [hz, List.getD_eq_getElem?_getD, List.getElem?_eq_getElem hjz]; exact List.getElem_mem _)
        omega
      obtain ⟨A5, c5, hv5, -, hI5⟩ := hI.form
      simp only [Value.slice.injEq] at hv5
      obtain ⟨rfl, -, rfl⟩ := hv5
      have hcell : ∃ bx ox, A3 = some ⟨bx, ox, none⟩ ∧ wr.cell? ⟨bx, ox + j, none⟩ = some (.int .i64 (z : Int)) := by
        rcases hI5.2 with h0 | ⟨bx, ox, h2, _, h4⟩
        · rw [List.length_map, HZl.out] at h0; omega
        · refine ⟨bx, ox, h2, ?_⟩
          rw [h4 j (by rw [List.length_map, HZl.out]; exact hlt), hz]
          simp [List.getD_eq_getElem?_getD, hjz]
      obtain ⟨bx, ox, rfl, hcx⟩ := hcell
      obtain ⟨hmore, hTj⟩ := among_more hs1 hAm hjz
      obtain ⟨AT, cT, hvT, -, -, -⟩ := hR.two.1.form
      obtain ⟨nT, hnT⟩ : ∃ x, x = T.length := ⟨_, rfl⟩
      obtain ⟨lf, hlf⟩ : ∃ x, x = n - T.length := ⟨_, rfl⟩
      obtain ⟨k, hk⟩ : ∃ x, x = min size (n - T.length) := ⟨_, rfl⟩
      have hTq : T.length ≤ 800000 := by have := hAm.few; have := hR.fits; omega
      have hFj : F.length ≤ 800000 := by rw [hAm.firsts]; omega
      have HMin := hide (show (if (lf : Int) < (size : Int) then (lf : Int) else (size : Int)) = (k : Int) by
        rw [hk, hlf]
        split <;> omega)
      have hk1 : 1 ≤ k ∧ k ≤ 64 := by omega
      have hsub : (n : Int) - (nT : Int) = (lf : Int) := by omega
      have hwl : IntKind.i64.wrap (lf : Int) = (lf : Int) := by rw [IntKind.wrap_i64]; omega
      have CB := fun W5 (hR5 : RdrD w W5 gr gd A c b size q T F vT vF) => dBkt_any hR5 HB.out HC.out (by omega) k z hk1.1 hk1.2 hz2 (by omega) (by omega)
      have HAm := hide hAm
      have HNx := hide (fun cc => among_next (c := cc) hs1 hAm hjz)
      have HBd := hide (among_bad hAm hjz)
      rw [← hz, ← hk] at HNx HBd
      obtain ⟨cc, e5, h5⟩ : ∃ cc e, bktR b q z k (T.getLastD []) = (cc, e) := ⟨_, _, rfl⟩
      rw [h5] at CB HNx HBd
      dsimp only at HBd
      rw [← hnT] at hvT
      subst hvT
      have HRr := hide hR
      have HI := hide hI
      have hS := And.intro (hR.rd.ext (Ext.refl wr).drew) (hR.dc.ext (Ext.refl wr).drew)
      rw [← HBL.out] at hS
      have HNT := hide hnT
      clear hR hI hAm hI5 hz hnT hlf hk hmore hTj hTq hFj h5 hjz
      by_cases hE5 : e5 = 0
      · subst hE5
        have HN := hide (HNx.out cc rfl)
        clear HNx HBd
        go_wp2_with fail
        refine wp_region_T (fun W => Whole W gr 68 #[.pointer (some ⟨gd, 0, none⟩), .slice A bl c, .int .i64 (q : Int)] ∧ Whole W gd 66 #[.slice AT nT cT, .int .i64 (size : Int), vF]) 20 22 #[false, false, false, false, false, false, false, false, false, false, false, false, false, false, false, false, false, false, false, false, false, false] (by kernel_rfl) rfl rfl hS ?_
        intro hS0
        refine wpAnyT_take 0 (some 53) (.pointer (some ⟨gr, 0, none⟩)) #[true, false, false, false, false, false, false, false, false, false, false, false, false, false, false, false, false, false, false, false, false, false] rfl rfl rfl (by kernel_rfl) (fun _ _ _ h => h) hS0 (by rfl) (fun W hX => by have s0 := hX.1.at 0 (u := .pointer (some ⟨gd, 0, none⟩)) rfl; have d0 := hX.2.at 0 (u := .slice AT nT cT) rfl; have d1 := hX.2.at 1 (u := .int .i64 (size : Int)) rfl; go_simp) ?_
        simp only [Act.put, List.setIfInBounds_toArray, List.set_cons_zero, List.set_cons_succ]
        refine wpAnyT_take 1 (some 54) (.pointer (some ⟨gr, 0, none⟩)) #[true, true, false, false, false, false, false, false, false, false, false, false, false, false, false, false, false, false, false, false, false, false] rfl rfl rfl (by kernel_rfl) (fun _ _ _ h => h) hS0 (by rfl) (fun W hX => by have s0 := hX.1.at 0 (u := .pointer (some ⟨gd, 0, none⟩)) rfl; have d0 := hX.2.at 0 (u := .slice AT nT cT) rfl; have d1 := hX.2.at 1 (u := .int .i64 (size : Int)) rfl; go_simp) ?_
        simp only [Act.put, List.setIfInBounds_toArray, List.set_cons_zero, List.set_cons_succ]
        refine wpAnyT_take 2 (some 55) (.pointer (some ⟨gr, 0, none⟩)) #[true, true, true, false, false, false, false, false, false, false, false, false, false, false, false, false, false, false, false, false, false, false] rfl rfl rfl (by kernel_rfl) (fun _ _ _ h => h) hS0 (by rfl) (fun W hX => by have s0 := hX.1.at 0 (u := .pointer (some ⟨gd, 0, none⟩)) rfl; have d0 := hX.2.at 0 (u := .slice AT nT cT) rfl; have d1 := hX.2.at 1 (u := .int .i64 (size : Int)) rfl; go_simp) ?_
        simp only [Act.put, List.setIfInBounds_toArray, List.set_cons_zero, List.set_cons_succ]
        refine wpAnyT_take 3 (some 56) (.pointer (some ⟨gr, 0, none⟩)) #[true, true, true, true, false, false, false, false, false, false, false, false, false, false, false, false, false, false, false, false, false, false] rfl rfl rfl (by kernel_rfl) (fun _ _ _ h => h) hS0 (by rfl) (fun W hX => by have s0 := hX.1.at 0 (u := .pointer (some ⟨gd, 0, none⟩)) rfl; have d0 := hX.2.at 0 (u := .slice AT nT cT) rfl; have d1 := hX.2.at 1 (u := .int .i64 (size : Int)) rfl; go_simp) ?_
        simp only [Act.put, List.setIfInBounds_toArray, List.set_cons_zero, List.set_cons_succ]
        refine wpAnyT_take 4 (some 57) (.pointer (some ⟨gd, 0, none⟩)) #[true, true, true, true, true, false, false, false, false, false, false, false, false, false, false, false, false, false, false, false, false, false] rfl rfl rfl (by kernel_rfl) (fun _ _ _ h => h) hS0 (by rfl) (fun W hX => by have s0 := hX.1.at 0 (u := .pointer (some ⟨gd, 0, none⟩)) rfl; have d0 := hX.2.at 0 (u := .slice AT nT cT) rfl; have d1 := hX.2.at 1 (u := .int .i64 (size : Int)) rfl; go_simp) ?_
        simp only [Act.put, List.setIfInBounds_toArray, List.set_cons_zero, List.set_cons_succ]
        refine wpAnyT_take 5 (some 58) (.pointer (some ⟨gd, 0, none⟩)) #[true, true, true, true, true, true, false, false, false, false, false, false, false, false, false, false, false, false, false, false, false, false] rfl rfl rfl (by kernel_rfl) (fun _ _ _ h => h) hS0 (by rfl) (fun W hX => by have s0 := hX.1.at 0 (u := .pointer (some ⟨gd, 0, none⟩)) rfl; have d0 := hX.2.at 0 (u := .slice AT nT cT) rfl; have d1 := hX.2.at 1 (u := .int .i64 (size : Int)) rfl; go_simp) ?_
        simp only [Act.put, List.setIfInBounds_toArray, List.set_cons_zero, List.set_cons_succ]
        refine wpAnyT_take 6 (some 59) (.pointer (some ⟨gd, 1, none⟩)) #[true, true, true, true, true, true, true, false, false, false, false, false, false, false, false, false, false, false, false, false, false, false] rfl rfl rfl (by kernel_rfl) (fun _ _ _ h => h) hS0 (by rfl) (fun W hX => by have s0 := hX.1.at 0 (u := .pointer (some ⟨gd, 0, none⟩)) rfl; have d0 := hX.2.at 0 (u := .slice AT nT cT) rfl; have d1 := hX.2.at 1 (u := .int .i64 (size : Int)) rfl; go_simp) ?_
        simp only [Act.put, List.setIfInBounds_toArray, List.set_cons_zero, List.set_cons_succ]
        refine wpAnyT_take 7 (some 60) (.int .i64 (size : Int)) #[true, true, true, true, true, true, true, true, false, false, false, false, false, false, false, false, false, false, false, false, false, false] rfl rfl rfl (by kernel_rfl) (fun _ _ _ h => h) hS0 (by rfl) (fun W hX => by have s0 := hX.1.at 0 (u := .pointer (some ⟨gd, 0, none⟩)) rfl; have d0 := hX.2.at 0 (u := .slice AT nT cT) rfl; have d1 := hX.2.at 1 (u := .int .i64 (size : Int)) rfl; go_simp) ?_
        simp only [Act.put, List.setIfInBounds_toArray, List.set_cons_zero, List.set_cons_succ]
        refine wpAnyT_take 8 (some 61) (.int .i64 (n : Int)) #[true, true, true, true, true, true, true, true, true, false, false, false, false, false, false, false, false, false, false, false, false, false] rfl rfl rfl (by kernel_rfl) (fun _ _ _ h => h) hS0 (by rfl) (fun W hX => by have s0 := hX.1.at 0 (u := .pointer (some ⟨gd, 0, none⟩)) rfl; have d0 := hX.2.at 0 (u := .slice AT nT cT) rfl; have d1 := hX.2.at 1 (u := .int .i64 (size : Int)) rfl; go_simp) ?_
        simp only [Act.put, List.setIfInBounds_toArray, List.set_cons_zero, List.set_cons_succ]
        refine wpAnyT_take 9 (some 62) (.pointer (some ⟨gr, 0, none⟩)) #[true, true, true, true, true, true, true, true, true, true, false, false, false, false, false, false, false, false, false, false, false, false] rfl rfl rfl (by kernel_rfl) (fun _ _ _ h => h) hS0 (by rfl) (fun W hX => by have s0 := hX.1.at 0 (u := .pointer (some ⟨gd, 0, none⟩)) rfl; have d0 := hX.2.at 0 (u := .slice AT nT cT) rfl; have d1 := hX.2.at 1 (u := .int .i64 (size : Int)) rfl; go_simp) ?_
        simp only [Act.put, List.setIfInBounds_toArray, List.set_cons_zero, List.set_cons_succ]
        refine wpAnyT_take 10 (some 63) (.pointer (some ⟨gr, 0, none⟩)) #[true, true, true, true, true, true, true, true, true, true, true, false, false, false, false, false, false, false, false, false, false, false] rfl rfl rfl (by kernel_rfl) (fun _ _ _ h => h) hS0 (by rfl) (fun W hX => by have s0 := hX.1.at 0 (u := .pointer (some ⟨gd, 0, none⟩)) rfl; have d0 := hX.2.at 0 (u := .slice AT nT cT) rfl; have d1 := hX.2.at 1 (u := .int .i64 (size : Int)) rfl; go_simp) ?_
        simp only [Act.put, List.setIfInBounds_toArray, List.set_cons_zero, List.set_cons_succ]
        refine wpAnyT_take 11 (some 64) (.pointer (some ⟨gr, 0, none⟩)) #[true, true, true, true, true, true, true, true, true, true, true, true, false, false, false, false, false, false, false, false, false, false] rfl rfl rfl (by kernel_rfl) (fun _ _ _ h => h) hS0 (by rfl) (fun W hX => by have s0 := hX.1.at 0 (u := .pointer (some ⟨gd, 0, none⟩)) rfl; have d0 := hX.2.at 0 (u := .slice AT nT cT) rfl; have d1 := hX.2.at 1 (u := .int .i64 (size : Int)) rfl; go_simp) ?_
        simp only [Act.put, List.setIfInBounds_toArray, List.set_cons_zero, List.set_cons_succ]
        refine wpAnyT_take 12 (some 65) (.pointer (some ⟨gd, 0, none⟩)) #[true, true, true, true, true, true, true, true, true, true, true, true, true, false, false, false, false, false, false, false, false, false] rfl rfl rfl (by kernel_rfl) (fun _ _ _ h => h) hS0 (by rfl) (fun W hX => by have s0 := hX.1.at 0 (u := .pointer (some ⟨gd, 0, none⟩)) rfl; have d0 := hX.2.at 0 (u := .slice AT nT cT) rfl; have d1 := hX.2.at 1 (u := .int .i64 (size : Int)) rfl; go_simp) ?_
        simp only [Act.put, List.setIfInBounds_toArray, List.set_cons_zero, List.set_cons_succ]
        refine wpAnyT_take 13 (some 66) (.pointer (some ⟨gd, 0, none⟩)) #[true, true, true, true, true, true, true, true, true, true, true, true, true, true, false, false, false, false, false, false, false, false] rfl rfl rfl (by kernel_rfl) (fun _ _ _ h => h) hS0 (by rfl) (fun W hX => by have s0 := hX.1.at 0 (u := .pointer (some ⟨gd, 0, none⟩)) rfl; have d0 := hX.2.at 0 (u := .slice AT nT cT) rfl; have d1 := hX.2.at 1 (u := .int .i64 (size : Int)) rfl; go_simp) ?_
        simp only [Act.put, List.setIfInBounds_toArray, List.set_cons_zero, List.set_cons_succ]
        refine wpAnyT_take 14 (some 67) (.pointer (some ⟨gd, 0, none⟩)) #[true, true, true, true, true, true, true, true, true, true, true, true, true, true, true, false, false, false, false, false, false, false] rfl rfl rfl (by kernel_rfl) (fun _ _ _ h => h) hS0 (by rfl) (fun W hX => by have s0 := hX.1.at 0 (u := .pointer (some ⟨gd, 0, none⟩)) rfl; have d0 := hX.2.at 0 (u := .slice AT nT cT) rfl; have d1 := hX.2.at 1 (u := .int .i64 (size : Int)) rfl; go_simp) ?_
        simp only [Act.put, List.setIfInBounds_toArray, List.set_cons_zero, List.set_cons_succ]
        refine wpAnyT_take 15 (some 68) (.slice AT nT cT) #[true, true, true, true, true, true, true, true, true, true, true, true, true, true, true, true, false, false, false, false, false, false] rfl rfl rfl (by kernel_rfl) (fun _ _ _ h => h) hS0 (by rfl) (fun W hX => by have s0 := hX.1.at 0 (u := .pointer (some ⟨gd, 0, none⟩)) rfl; have d0 := hX.2.at 0 (u := .slice AT nT cT) rfl; have d1 := hX.2.at 1 (u := .int .i64 (size : Int)) rfl; go_simp) ?_
        simp only [Act.put, List.setIfInBounds_toArray, List.set_cons_zero, List.set_cons_succ]
        refine wpAnyT_take 16 (some 69) (.int .i64 (nT : Int)) #[true, true, true, true, true, true, true, true, true, true, true, true, true, true, true, true, true, false, false, false, false, false] rfl rfl rfl (by kernel_rfl) (fun _ _ _ h => h) hS0 (by rfl) (fun W hX => by have s0 := hX.1.at 0 (u := .pointer (some ⟨gd, 0, none⟩)) rfl; have d0 := hX.2.at 0 (u := .slice AT nT cT) rfl; have d1 := hX.2.at 1 (u := .int .i64 (size : Int)) rfl; go_simp) ?_
        simp only [Act.put, List.setIfInBounds_toArray, List.set_cons_zero, List.set_cons_succ]
        refine wpAnyT_take 17 (some 70) (.int .i64 (lf : Int)) #[true, true, true, true, true, true, true, true, true, true, true, true, true, true, true, true, true, true, false, false, false, false] rfl rfl rfl (by kernel_rfl) (fun _ _ _ h => h) hS0 (by rfl) (fun W hX => by have s0 := hX.1.at 0 (u := .pointer (some ⟨gd, 0, none⟩)) rfl; have d0 := hX.2.at 0 (u := .slice AT nT cT) rfl; have d1 := hX.2.at 1 (u := .int .i64 (size : Int)) rfl; go_simp) ?_
        simp only [Act.put, List.setIfInBounds_toArray, List.set_cons_zero, List.set_cons_succ]
        refine wpAnyT_take 18 (some 71) (.int .i64 (k : Int)) #[true, true, true, true, true, true, true, true, true, true, true, true, true, true, true, true, true, true, true, false, false, false] rfl rfl rfl (by kernel_rfl) (fun _ _ _ h => h) hS0 (by rfl) (fun W hX => by go_simp; first | exact HMin.out | (have h := HMin.out; split at h <;> omega)) ?_
        simp only [Act.put, List.setIfInBounds_toArray, List.set_cons_zero, List.set_cons_succ]
        refine wpAnyT_take 19 (some 72) (.int .i64 (z : Int)) #[true, true, true, true, true, true, true, true, true, true, true, true, true, true, true, true, true, true, true, true, false, false] rfl rfl rfl (by kernel_rfl) (fun _ _ _ h => h) hS0 (by rfl) (fun W hX => by have s0 := hX.1.at 0 (u := .pointer (some ⟨gd, 0, none⟩)) rfl; have d0 := hX.2.at 0 (u := .slice AT nT cT) rfl; have d1 := hX.2.at 1 (u := .int .i64 (size : Int)) rfl; go_simp) ?_
        simp only [Act.put, List.setIfInBounds_toArray, List.set_cons_zero, List.set_cons_succ]
        refine wpAnyT_only 20 #[true, true, true, true, true, true, true, true, true, true, true, true, true, true, true, true, true, true, true, true, true, false] (by kernel_rfl) rfl rfl (by rfl) (fun K0 hK0 => ?_)
        go_simp
        refine (CB wr.drew (HRr.out.later (Ext.refl wr).drew)).mono ?_
        rintro e3 w5 hC5
        obtain ⟨rfl, ⟨vT5, vF5, hR5⟩, hOff5⟩ := hC5.1 rfl
        refine hK0 _ _ (fun h => absurd h (by decide)) ?_
        clear hK0 K0
        refine wpAnyT_only 21 #[true, true, true, true, true, true, true, true, true, true, true, true, true, true, true, true, true, true, true, true, true, true] (by kernel_rfl) rfl rfl (by rfl) (fun K1 hK1 => ?_)
        go_simp
        refine hK1 _ _ (fun h => absurd h (by decide)) (wpAnyT_done (by kernel_rfl) ?_ _)
        clear hK1 K1
        have HR5 := hide hR5
        have HI5 := hide ((HI.out.ext (Ext.refl wr).drew).off hOff5)
        clear hR5 hOff5 hC5 hS hS0 CB HRr HI hsub hwl hcx
        go_wp2
        go_roundw
        case rel => exact ⟨j + 1, T ++ cc, F ++ [cc.getD 0 []], q + z, vT5, vF5, by omega, by go_num, HR5.out, HI5.out, HN.out⟩
        case measure => simp [intOf]; omega
      · have he5b : (e5 != 0) = true := by rw [bne_iff_ne]; exact hE5
        have HB5 := hide (HBd.out hE5)
        have HE5 := hide hE5
        clear HNx HBd
        go_wp2_with fail
        refine wp_region_T (fun W => Whole W gr 68 #[.pointer (some ⟨gd, 0, none⟩), .slice A bl c, .int .i64 (q : Int)] ∧ Whole W gd 66 #[.slice AT nT cT, .int .i64 (size : Int), vF]) 20 22 #[false, false, false, false, false, false, false, false, false, false, false, false, false, false, false, false, false, false, false, false, false, false] (by kernel_rfl) rfl rfl hS ?_
        intro hS0
        refine wpAnyT_take 0 (some 53) (.pointer (some ⟨gr, 0, none⟩)) #[true, false, false, false, false, false, false, false, false, false, false, false, false, false, false, false, false, false, false, false, false, false] rfl rfl rfl (by kernel_rfl) (fun _ _ _ h => h) hS0 (by rfl) (fun W hX => by have s0 := hX.1.at 0 (u := .pointer (some ⟨gd, 0, none⟩)) rfl; have d0 := hX.2.at 0 (u := .slice AT nT cT) rfl; have d1 := hX.2.at 1 (u := .int .i64 (size : Int)) rfl; go_simp) ?_
        simp only [Act.put, List.setIfInBounds_toArray, List.set_cons_zero, List.set_cons_succ]
        refine wpAnyT_take 1 (some 54) (.pointer (some ⟨gr, 0, none⟩)) #[true, true, false, false, false, false, false, false, false, false, false, false, false, false, false, false, false, false, false, false, false, false] rfl rfl rfl (by kernel_rfl) (fun _ _ _ h => h) hS0 (by rfl) (fun W hX => by have s0 := hX.1.at 0 (u := .pointer (some ⟨gd, 0, none⟩)) rfl; have d0 := hX.2.at 0 (u := .slice AT nT cT) rfl; have d1 := hX.2.at 1 (u := .int .i64 (size : Int)) rfl; go_simp) ?_
        simp only [Act.put, List.setIfInBounds_toArray, List.set_cons_zero, List.set_cons_succ]
        refine wpAnyT_take 2 (some 55) (.pointer (some ⟨gr, 0, none⟩)) #[true, true, true, false, false, false, false, false, false, false, false, false, false, false, false, false, false, false, false, false, false, false] rfl rfl rfl (by kernel_rfl) (fun _ _ _ h => h) hS0 (by rfl) (fun W hX => by have s0 := hX.1.at 0 (u := .pointer (some ⟨gd, 0, none⟩)) rfl; have d0 := hX.2.at 0 (u := .slice AT nT cT) rfl; have d1 := hX.2.at 1 (u := .int .i64 (size : Int)) rfl; go_simp) ?_
        simp only [Act.put, List.setIfInBounds_toArray, List.set_cons_zero, List.set_cons_succ]
        refine wpAnyT_take 3 (some 56) (.pointer (some ⟨gr, 0, none⟩)) #[true, true, true, true, false, false, false, false, false, false, false, false, false, false, false, false, false, false, false, false, false, false] rfl rfl rfl (by kernel_rfl) (fun _ _ _ h => h) hS0 (by rfl) (fun W hX => by have s0 := hX.1.at 0 (u := .pointer (some ⟨gd, 0, none⟩)) rfl; have d0 := hX.2.at 0 (u := .slice AT nT cT) rfl; have d1 := hX.2.at 1 (u := .int .i64 (size : Int)) rfl; go_simp) ?_
        simp only [Act.put, List.setIfInBounds_toArray, List.set_cons_zero, List.set_cons_succ]
        refine wpAnyT_take 4 (some 57) (.pointer (some ⟨gd, 0, none⟩)) #[true, true, true, true, true, false, false, false, false, false, false, false, false, false, false, false, false, false, false, false, false, false] rfl rfl rfl (by kernel_rfl) (fun _ _ _ h => h) hS0 (by rfl) (fun W hX => by have s0 := hX.1.at 0 (u := .pointer (some ⟨gd, 0, none⟩)) rfl; have d0 := hX.2.at 0 (u := .slice AT nT cT) rfl; have d1 := hX.2.at 1 (u := .int .i64 (size : Int)) rfl; go_simp) ?_
        simp only [Act.put, List.setIfInBounds_toArray, List.set_cons_zero, List.set_cons_succ]
        refine wpAnyT_take 5 (some 58) (.pointer (some ⟨gd, 0, none⟩)) #[true, true, true, true, true, true, false, false, false, false, false, false, false, false, false, false, false, false, false, false, false, false] rfl rfl rfl (by kernel_rfl) (fun _ _ _ h => h) hS0 (by rfl) (fun W hX => by have s0 := hX.1.at 0 (u := .pointer (some ⟨gd, 0, none⟩)) rfl; have d0 := hX.2.at 0 (u := .slice AT nT cT) rfl; have d1 := hX.2.at 1 (u := .int .i64 (size : Int)) rfl; go_simp) ?_
        simp only [Act.put, List.setIfInBounds_toArray, List.set_cons_zero, List.set_cons_succ]
        refine wpAnyT_take 6 (some 59) (.pointer (some ⟨gd, 1, none⟩)) #[true, true, true, true, true, true, true, false, false, false, false, false, false, false, false, false, false, false, false, false, false, false] rfl rfl rfl (by kernel_rfl) (fun _ _ _ h => h) hS0 (by rfl) (fun W hX => by have s0 := hX.1.at 0 (u := .pointer (some ⟨gd, 0, none⟩)) rfl; have d0 := hX.2.at 0 (u := .slice AT nT cT) rfl; have d1 := hX.2.at 1 (u := .int .i64 (size : Int)) rfl; go_simp) ?_
        simp only [Act.put, List.setIfInBounds_toArray, List.set_cons_zero, List.set_cons_succ]
        refine wpAnyT_take 7 (some 60) (.int .i64 (size : Int)) #[true, true, true, true, true, true, true, true, false, false, false, false, false, false, false, false, false, false, false, false, false, false] rfl rfl rfl (by kernel_rfl) (fun _ _ _ h => h) hS0 (by rfl) (fun W hX => by have s0 := hX.1.at 0 (u := .pointer (some ⟨gd, 0, none⟩)) rfl; have d0 := hX.2.at 0 (u := .slice AT nT cT) rfl; have d1 := hX.2.at 1 (u := .int .i64 (size : Int)) rfl; go_simp) ?_
        simp only [Act.put, List.setIfInBounds_toArray, List.set_cons_zero, List.set_cons_succ]
        refine wpAnyT_take 8 (some 61) (.int .i64 (n : Int)) #[true, true, true, true, true, true, true, true, true, false, false, false, false, false, false, false, false, false, false, false, false, false] rfl rfl rfl (by kernel_rfl) (fun _ _ _ h => h) hS0 (by rfl) (fun W hX => by have s0 := hX.1.at 0 (u := .pointer (some ⟨gd, 0, none⟩)) rfl; have d0 := hX.2.at 0 (u := .slice AT nT cT) rfl; have d1 := hX.2.at 1 (u := .int .i64 (size : Int)) rfl; go_simp) ?_
        simp only [Act.put, List.setIfInBounds_toArray, List.set_cons_zero, List.set_cons_succ]
        refine wpAnyT_take 9 (some 62) (.pointer (some ⟨gr, 0, none⟩)) #[true, true, true, true, true, true, true, true, true, true, false, false, false, false, false, false, false, false, false, false, false, false] rfl rfl rfl (by kernel_rfl) (fun _ _ _ h => h) hS0 (by rfl) (fun W hX => by have s0 := hX.1.at 0 (u := .pointer (some ⟨gd, 0, none⟩)) rfl; have d0 := hX.2.at 0 (u := .slice AT nT cT) rfl; have d1 := hX.2.at 1 (u := .int .i64 (size : Int)) rfl; go_simp) ?_
        simp only [Act.put, List.setIfInBounds_toArray, List.set_cons_zero, List.set_cons_succ]
        refine wpAnyT_take 10 (some 63) (.pointer (some ⟨gr, 0, none⟩)) #[true, true, true, true, true, true, true, true, true, true, true, false, false, false, false, false, false, false, false, false, false, false] rfl rfl rfl (by kernel_rfl) (fun _ _ _ h => h) hS0 (by rfl) (fun W hX => by have s0 := hX.1.at 0 (u := .pointer (some ⟨gd, 0, none⟩)) rfl; have d0 := hX.2.at 0 (u := .slice AT nT cT) rfl; have d1 := hX.2.at 1 (u := .int .i64 (size : Int)) rfl; go_simp) ?_
        simp only [Act.put, List.setIfInBounds_toArray, List.set_cons_zero, List.set_cons_succ]
        refine wpAnyT_take 11 (some 64) (.pointer (some ⟨gr, 0, none⟩)) #[true, true, true, true, true, true, true, true, true, true, true, true, false, false, false, false, false, false, false, false, false, false] rfl rfl rfl (by kernel_rfl) (fun _ _ _ h => h) hS0 (by rfl) (fun W hX => by have s0 := hX.1.at 0 (u := .pointer (some ⟨gd, 0, none⟩)) rfl; have d0 := hX.2.at 0 (u := .slice AT nT cT) rfl; have d1 := hX.2.at 1 (u := .int .i64 (size : Int)) rfl; go_simp) ?_
        simp only [Act.put, List.setIfInBounds_toArray, List.set_cons_zero, List.set_cons_succ]
        refine wpAnyT_take 12 (some 65) (.pointer (some ⟨gd, 0, none⟩)) #[true, true, true, true, true, true, true, true, true, true, true, true, true, false, false, false, false, false, false, false, false, false] rfl rfl rfl (by kernel_rfl) (fun _ _ _ h => h) hS0 (by rfl) (fun W hX => by have s0 := hX.1.at 0 (u := .pointer (some ⟨gd, 0, none⟩)) rfl; have d0 := hX.2.at 0 (u := .slice AT nT cT) rfl; have d1 := hX.2.at 1 (u := .int .i64 (size : Int)) rfl; go_simp) ?_
        simp only [Act.put, List.setIfInBounds_toArray, List.set_cons_zero, List.set_cons_succ]
        refine wpAnyT_take 13 (some 66) (.pointer (some ⟨gd, 0, none⟩)) #[true, true, true, true, true, true, true, true, true, true, true, true, true, true, false, false, false, false, false, false, false, false] rfl rfl rfl (by kernel_rfl) (fun _ _ _ h => h) hS0 (by rfl) (fun W hX => by have s0 := hX.1.at 0 (u := .pointer (some ⟨gd, 0, none⟩)) rfl; have d0 := hX.2.at 0 (u := .slice AT nT cT) rfl; have d1 := hX.2.at 1 (u := .int .i64 (size : Int)) rfl; go_simp) ?_
        simp only [Act.put, List.setIfInBounds_toArray, List.set_cons_zero, List.set_cons_succ]
        refine wpAnyT_take 14 (some 67) (.pointer (some ⟨gd, 0, none⟩)) #[true, true, true, true, true, true, true, true, true, true, true, true, true, true, true, false, false, false, false, false, false, false] rfl rfl rfl (by kernel_rfl) (fun _ _ _ h => h) hS0 (by rfl) (fun W hX => by have s0 := hX.1.at 0 (u := .pointer (some ⟨gd, 0, none⟩)) rfl; have d0 := hX.2.at 0 (u := .slice AT nT cT) rfl; have d1 := hX.2.at 1 (u := .int .i64 (size : Int)) rfl; go_simp) ?_
        simp only [Act.put, List.setIfInBounds_toArray, List.set_cons_zero, List.set_cons_succ]
        refine wpAnyT_take 15 (some 68) (.slice AT nT cT) #[true, true, true, true, true, true, true, true, true, true, true, true, true, true, true, true, false, false, false, false, false, false] rfl rfl rfl (by kernel_rfl) (fun _ _ _ h => h) hS0 (by rfl) (fun W hX => by have s0 := hX.1.at 0 (u := .pointer (some ⟨gd, 0, none⟩)) rfl; have d0 := hX.2.at 0 (u := .slice AT nT cT) rfl; have d1 := hX.2.at 1 (u := .int .i64 (size : Int)) rfl; go_simp) ?_
        simp only [Act.put, List.setIfInBounds_toArray, List.set_cons_zero, List.set_cons_succ]
        refine wpAnyT_take 16 (some 69) (.int .i64 (nT : Int)) #[true, true, true, true, true, true, true, true, true, true, true, true, true, true, true, true, true, false, false, false, false, false] rfl rfl rfl (by kernel_rfl) (fun _ _ _ h => h) hS0 (by rfl) (fun W hX => by have s0 := hX.1.at 0 (u := .pointer (some ⟨gd, 0, none⟩)) rfl; have d0 := hX.2.at 0 (u := .slice AT nT cT) rfl; have d1 := hX.2.at 1 (u := .int .i64 (size : Int)) rfl; go_simp) ?_
        simp only [Act.put, List.setIfInBounds_toArray, List.set_cons_zero, List.set_cons_succ]
        refine wpAnyT_take 17 (some 70) (.int .i64 (lf : Int)) #[true, true, true, true, true, true, true, true, true, true, true, true, true, true, true, true, true, true, false, false, false, false] rfl rfl rfl (by kernel_rfl) (fun _ _ _ h => h) hS0 (by rfl) (fun W hX => by have s0 := hX.1.at 0 (u := .pointer (some ⟨gd, 0, none⟩)) rfl; have d0 := hX.2.at 0 (u := .slice AT nT cT) rfl; have d1 := hX.2.at 1 (u := .int .i64 (size : Int)) rfl; go_simp) ?_
        simp only [Act.put, List.setIfInBounds_toArray, List.set_cons_zero, List.set_cons_succ]
        refine wpAnyT_take 18 (some 71) (.int .i64 (k : Int)) #[true, true, true, true, true, true, true, true, true, true, true, true, true, true, true, true, true, true, true, false, false, false] rfl rfl rfl (by kernel_rfl) (fun _ _ _ h => h) hS0 (by rfl) (fun W hX => by go_simp; first | exact HMin.out | (have h := HMin.out; split at h <;> omega)) ?_
        simp only [Act.put, List.setIfInBounds_toArray, List.set_cons_zero, List.set_cons_succ]
        refine wpAnyT_take 19 (some 72) (.int .i64 (z : Int)) #[true, true, true, true, true, true, true, true, true, true, true, true, true, true, true, true, true, true, true, true, false, false] rfl rfl rfl (by kernel_rfl) (fun _ _ _ h => h) hS0 (by rfl) (fun W hX => by have s0 := hX.1.at 0 (u := .pointer (some ⟨gd, 0, none⟩)) rfl; have d0 := hX.2.at 0 (u := .slice AT nT cT) rfl; have d1 := hX.2.at 1 (u := .int .i64 (size : Int)) rfl; go_simp) ?_
        simp only [Act.put, List.setIfInBounds_toArray, List.set_cons_zero, List.set_cons_succ]
        refine wpAnyT_only 20 #[true, true, true, true, true, true, true, true, true, true, true, true, true, true, true, true, true, true, true, true, true, false] (by kernel_rfl) rfl rfl (by rfl) (fun K0 hK0 => ?_)
        go_simp
        refine (CB wr.drew (HRr.out.later (Ext.refl wr).drew)).mono ?_
        rintro e3 w5 hC5
        obtain ⟨rfl, hX5⟩ := hC5.2 hE5
        refine hK0 _ _ (fun h => absurd h (by decide)) ?_
        clear hK0 K0
        refine wpAnyT_only 21 #[true, true, true, true, true, true, true, true, true, true, true, true, true, true, true, true, true, true, true, true, true, true] (by kernel_rfl) rfl rfl (by rfl) (fun K1 hK1 => ?_)
        go_simp
        refine hK1 _ _ (fun h => absurd h (by decide)) (wpAnyT_done (by kernel_rfl) ?_ _)
        clear hK1 K1
        have HX := hide hX5
        clear hX5 hC5 hE5 hS hS0 CB HRr HI hsub hwl hcx
        go_wp2
        go_ret
        have hr2 : res.2.2 = e5 := by rw [HRg.out]; exact HB5.out
        exact ⟨fun h => absurd (hr2.symm.trans h) HE5.out, fun _ => ⟨by rw [hr2]; rfl, HX.out⟩⟩
    · have hjI : ¬ (j : Int) < (m : Int) := by omega
      obtain rfl : j = m := by omega
      have hEnd := among_end hs1 (by rw [HZl.out]; exact hAm) (by rw [HZl.out]; exact HM.out)
      have HE := hide hEnd.1
      have HF := hide hEnd.2
      have HRr := hide hR
      have HTl := hide (show T.length ≤ b.length by have := hAm.few; have := hR.fits; omega)
      clear hEnd hR hI hAm hlt
      go_wp2
      go_ret
      rw [HRg.out, HE.out]
      exact ⟨fun _ => ⟨rfl, F, vT, vF, HRr.out, HF.out, HTl.out⟩, fun h => absurd rfl h⟩

theorem Dic.firsts_rise {size : Nat} {l F : List (List UInt8)} (hs : 1 ≤ size) (h : Rising l) (hF : FirstsOf size l F) : Rising F := by
  refine List.pairwise_iff_getElem.2 fun i j hi hj hij => ?_
  have h1 := hF.2 i hi
  have h2 := hF.2 j hj
  have h3 := buckets_in hs (show j < bucketsN size l.length by rw [← hF.1]; exact hj)
  have h4 := rise_lt h (Nat.mul_lt_mul_of_pos_right hij (by omega : 0 < size)) h3
  rw [← h1, ← h2] at h4
  simpa [List.getD_eq_getElem?_getD, hi, hj] using h4
set_option maxHeartbeats 2000000 in
set_option maxRecDepth 10000 in
theorem dReadSize_any (size : Int) (A : Option Addr) (n c : Nat) (w : World) (hs : sizeD size = false) :
    Calls Try.prog 14 #[.int .i64 size, .slice A n c] w fun e w' => e = .returned (.tuple #[.pointer none, .int .i64 0, .int .i64 13]) ∧ Ext w w' := by
  have CS := dSize_any size w
  rw [hs] at CS
  clear hs
  go_enter Try.func14, Try.ntmps14
  go_wp2_with fail
  refine CS.mono ?_
  rintro e w' ⟨rfl, rfl⟩
  clear CS
  go_wp2
  go_ret3
  exact ⟨rfl, Ext.refl _⟩
/-- What Read tells. -/
def ReaTo (w : World) (r : List (List UInt8) × Nat × Int) (e : Ending) (w' : World) : Prop :=
  Ext w w' ∧ (r.2.2 = 0 → ∃ g, e = .returned (.tuple #[.pointer (some ⟨g, 0, none⟩), .int .i64 (r.2.1 : Int), .int .i64 0]) ∧ DicLst w' g r.1) ∧ (r.2.2 ≠ 0 → e = .returned (.tuple #[.pointer none, .int .i64 0, .int .i64 r.2.2]))
set_option maxHeartbeats 2000000 in
set_option maxRecDepth 10000 in
theorem dReadGood_any (size : Nat) (b : List UInt8) (A : Option Addr) (c : Nat) (w : World) (hs1 : 1 ≤ size) (hs2 : size ≤ 64) (hc : b.length ≤ c) (hl : b.length ≤ 800000) (hB : Bytes w w.heap.size A b.length b) :
    Calls Try.prog 14 #[.int .i64 (size : Int), .slice A b.length c] w (ReaTo w (readR b size)) := by
  have CS := dSize_any (size : Int) w
  rw [show sizeD (size : Int) = true from decide_eq_true (by omega)] at CS
  have hE1 := extNew w (.cells #[.slice none 0 0, .int .i64 (size : Int), .slice none 0 0] 66)
  have hE2 := extNew (w.alloc (.cells #[.slice none 0 0, .int .i64 (size : Int), .slice none 0 0] 66)) (.cells #[.pointer (some ⟨w.heap.size, 0, none⟩), .slice A b.length c, .int .i64 0] 68)
  have hR : RdrD w ((w.alloc (.cells #[.slice none 0 0, .int .i64 (size : Int), .slice none 0 0] 66)).alloc (.cells #[.pointer (some ⟨w.heap.size, 0, none⟩), .slice A b.length c, .int .i64 0] 68)) (w.heap.size + 1) w.heap.size A c b size 0 [] [] (.slice none 0 0) (.slice none 0 0) := by
    refine ⟨?_, (Whole.new w _ _).alloc _, (TwoTx.nil _ _), hE1.trans hE2, by omega, Nat.zero_le _⟩
    have := Whole.new (w.alloc (.cells #[.slice none 0 0, .int .i64 (size : Int), .slice none 0 0] 66)) 68 #[.pointer (some ⟨w.heap.size, 0, none⟩), .slice A b.length c, .int .i64 0]
    rwa [World.size_alloc] at this
  have CR := dRead1_any hR hB hc hl hs1 hs2
  have HOne := hide (fun l n => read_one (b := b) (size := size) (l := l) (n := n) hs1)
  generalize readR b size = res at *
  have HL8 := hide hl
  obtain ⟨bl, hbl⟩ : ∃ x, x = b.length := ⟨_, rfl⟩
  rw [← hbl] at CR hl ⊢
  clear hE1 hE2 hR hB hc hbl
  go_enter Try.func14, Try.ntmps14
  go_wp2_with fail
  refine CS.mono ?_
  rintro e w' ⟨rfl, rfl⟩
  clear CS
  go_wp2_with fail
  generalize (w.alloc (.cells #[.slice none 0 0, .int .i64 (size : Int), .slice none 0 0] 66)).alloc (.cells #[.pointer (some ⟨w.heap.size, 0, none⟩), .slice A bl c, .int .i64 0] 68) = w2 at *
  generalize w.heap.size = gd at *
  refine CR.mono ?_
  rintro e w3 hC
  obtain ⟨l, q, e3, rfl⟩ : ∃ l q e, res = (l, q, e) := ⟨_, _, _, rfl⟩
  by_cases he : e3 = 0
  · subst he
    obtain ⟨rfl, F, vT, vF, hR, hF, hll⟩ := hC.1 rfl
    try dsimp only at hR hF hll
    have hmay := (HOne.out l q rfl).1
    have hrise := (may_facts hmay).2.2
    obtain ⟨AT, cT, rfl, h1, h2, h3⟩ := hR.two.1.form
    obtain ⟨AF, cF, rfl, h4, h5, h6⟩ := hR.two.2.1.form
    have HD := hide (show DicAt w3 gd size AT cT F AF cF l from ⟨hR.dc, h3, h6, hF, hrise, firsts_rise hs1 hrise hF, hs1, hs2, by have := HL8.out; omega, h1, h2⟩)
    have c0 := hR.rd.at 0 (u := .pointer (some ⟨gd, 0, none⟩)) rfl
    have c2 := hR.rd.at 2 (u := .int .i64 (q : Int)) rfl
    have HE := hide hR.ext
    clear hR hF hll hmay hrise h1 h2 h3 h4 h5 h6 hC CR HOne
    go_wp2_with fail
    go_quiet (fail)
    go_wp2
    go_ret3
    exact ⟨HE.out.drewN _, fun _ => ⟨gd, rfl, size, AT, cT, F, AF, cF, HD.out.ext ((Ext.refl w3).drewN _)⟩, fun h => absurd rfl h⟩
  · obtain ⟨rfl, hX⟩ := hC.2 he
    have heb : (e3 != 0) = true := by rw [bne_iff_ne]; exact he
    have HX := hide hX
    have HNe := hide he
    clear hC CR HOne hX he
    go_wp2
    go_ret3
    exact ⟨HX.out, fun h => absurd h HNe.out, fun _ => rfl⟩
end Go.Proofs.Ytmaddohfkfnnhaa

namespace Go.Proofs.Ytmaddohfkfnnhaa
namespace Dic
open Num Wrd

theorem chunks_more {size : Nat} (hs : 1 ≤ size) : ∀ (f : Nat) (l : List (List UInt8)), l.length ≤ f → chunks size f l = chunks size l.length l
  | 0, l, h => by obtain rfl := List.eq_nil_of_length_eq_zero (by omega : l.length = 0); rfl
  | f + 1, [], _ => by simp [chunks]
  | f + 1, a :: t, h => by
    rw [chunks, if_neg (by simp), List.length_cons, chunks, if_neg (by simp)]
    have h1 : ((a :: t).drop size).length ≤ t.length := by rw [List.length_drop, List.length_cons]; omega
    rw [chunks_more hs f _ (by simp at h; omega), chunks_more hs t.length _ h1]
/-- The buckets from the place i on. -/
def bucketsAt (size : Nat) (l : List (List UInt8)) (i : Nat) : List (List (List UInt8)) := chunks size (l.length - i) (l.drop i)
theorem buckets_start (size : Nat) (l : List (List UInt8)) : bucketsOf size l = bucketsAt size l 0 := by simp [bucketsOf, bucketsAt]
theorem buckets_end {size : Nat} {l : List (List UInt8)} {i : Nat} (h : l.length ≤ i) : bucketsAt size l i = [] := by unfold bucketsAt; rw [show l.length - i = 0 by omega]; rfl
theorem buckets_step {size : Nat} (hs : 1 ≤ size) {l : List (List UInt8)} {i : Nat} (h : i < l.length) : bucketsAt size l i = (l.drop i).take size :: bucketsAt size l (i + size) := by
  unfold bucketsAt
  obtain ⟨f, hf⟩ : ∃ f, l.length - i = f + 1 := ⟨l.length - i - 1, by omega⟩
  rw [hf, chunks, if_neg (by intro e; have := congrArg List.length e; simp at this; omega), List.drop_drop]
  congr 1
  rw [chunks_more hs f _ (by rw [List.length_drop]; omega), List.length_drop]
theorem drop_is {l : List (List UInt8)} {i : Nat} (h : i < l.length) : l.drop i = l.getD i [] :: l.drop (i + 1) := by
  rw [List.drop_eq_getElem_cons h, List.getD_eq_getElem?_getD, List.getElem?_eq_getElem h]
  rfl
/-- What is left of a bucket, from the place k on, up to e. -/
def left (l : List (List UInt8)) (k e : Nat) : List (List UInt8) := (l.drop k).take (e - k)
theorem bucket_start {size : Nat} (hs : 1 ≤ size) {l : List (List UInt8)} {i : Nat} (h : i < l.length) : bucketB ((l.drop i).take size) = textB (l.getD i []) ++ tailB (l.getD i []) (left l (i + 1) (i + size)) := by
  obtain ⟨m, rfl⟩ : ∃ m, size = m + 1 := ⟨size - 1, by omega⟩
  rw [drop_is h, List.take_succ_cons, bucketB]
  unfold left
  rw [show i + (m + 1) - (i + 1) = m by omega]
theorem tail_step {l : List (List UInt8)} {k e : Nat} (h1 : k < e) (h2 : k < l.length) (was : List UInt8) : tailB was (left l k e) = itemB was (l.getD k []) ++ tailB (l.getD k []) (left l (k + 1) e) := by
  unfold left
  obtain ⟨m, hm⟩ : ∃ m, e - k = m + 1 := ⟨e - k - 1, by omega⟩
  rw [drop_is h2, hm, List.take_succ_cons, tailB, show e - (k + 1) = m by omega]
theorem tail_end {l : List (List UInt8)} {k e : Nat} (h : e ≤ k ∨ l.length ≤ k) (was : List UInt8) : tailB was (left l k e) = [] := by
  unfold left
  rcases h with h | h
  · rw [show e - k = 0 by omega]; rfl
  · rw [List.drop_eq_nil_of_le h]; simp [tailB]
theorem head_len : ∀ bs : List (List (List UInt8)), (headB bs).length ≤ 10 * bs.length
  | [] => by simp [headB]
  | c :: bs => by
    have h1 := head_len bs
    have h2 := enc_len (bucketB c).length
    unfold headB at h1 ⊢
    rw [List.flatMap_cons, List.length_append, List.length_cons]
    omega
theorem body_len : ∀ bs : List (List (List UInt8)), (∀ c, c ∈ bs → (bucketB c).length ≤ 2000) → (bodyB bs).length ≤ 2000 * bs.length
  | [], _ => by simp [bodyB]
  | c :: bs, h => by
    have h1 := body_len bs (fun c hc => h c (by simp [hc]))
    have h2 := h c (by simp)
    unfold bodyB at h1 ⊢
    rw [List.flatMap_cons, List.length_append, List.length_cons]
    omega
theorem chunks_few {size : Nat} (hs : 1 ≤ size) : ∀ (f : Nat) (l : List (List UInt8)), (chunks size f l).length ≤ f
  | 0, _ => by simp [chunks]
  | f + 1, l => by
    have := chunks_few hs f (l.drop size)
    rw [chunks]
    split <;> simp <;> omega
theorem chunks_body {size : Nat} : ∀ (f : Nat) (l : List (List UInt8)), (∀ s, s ∈ l → s.length ≤ 25) → (bodyB (chunks size f l)).length ≤ 27 * l.length
  | 0, _, _ => by simp [chunks, bodyB]
  | f + 1, l, h => by
    have h1 := chunks_body (size := size) f (l.drop size) (fun s hs => h s (List.mem_of_mem_drop hs))
    have h2 := bucket_len (c := l.take size) (fun s hs => h s (List.mem_of_mem_take hs))
    rw [chunks]
    split
    · simp [bodyB]
    · unfold bodyB at h1 ⊢
      rw [List.flatMap_cons, List.length_append]
      rw [List.length_drop] at h1
      rw [List.length_take] at h2
      omega
/-- No part of what is written is great. -/
theorem dict_len {size : Nat} (h1 : 1 ≤ size) (h2 : size ≤ 64) {l : List (List UInt8)} (hl : ∀ s, s ∈ l → s.length ≤ 25) : (enc l.length ++ headB (bucketsOf size l)).length ≤ 10 + 10 * l.length ∧ (bodyB (bucketsOf size l)).length ≤ 2000 * l.length ∧ ∀ c, c ∈ bucketsOf size l → (bucketB c).length ≤ 2000 := by
  have hf := chunks_fit h2 l.length l hl
  have hn := chunks_few h1 l.length l
  have ha := head_len (bucketsOf size l)
  have hb := body_len (bucketsOf size l) hf
  have hc := enc_len l.length
  unfold bucketsOf at ha hb hf ⊢
  refine ⟨?_, ?_, hf⟩
  · rw [List.length_append]; omega
  · exact Nat.le_trans hb (Nat.mul_le_mul_left _ hn)
theorem dict_small {size : Nat} (h1 : 1 ≤ size) (h2 : size ≤ 64) {l : List (List UInt8)} (hl : ∀ s, s ∈ l → s.length ≤ 25) : (dictB size l).length ≤ 10 + 37 * l.length := by
  have ha := (dict_len h1 h2 hl).1
  have hb := chunks_body (size := size) l.length l hl
  unfold dictB
  rw [List.length_append]
  unfold bucketsOf at ha ⊢
  omega
theorem bucket_in {size : Nat} (h1 : 1 ≤ size) (h2 : size ≤ 64) {l : List (List UInt8)} (hl : ∀ s, s ∈ l → s.length ≤ 25) (i : Nat) : (bucketB ((l.drop i).take size)).length ≤ 2000 := by
  have := bucket_len (c := (l.drop i).take size) (fun s hs => hl s (List.mem_of_mem_drop (List.mem_of_mem_take hs)))
  have h3 : ((l.drop i).take size).length ≤ 64 := by rw [List.length_take]; omega
  omega
end Dic
end Go.Proofs.Ytmaddohfkfnnhaa

namespace Go.Proofs.Ytmaddohfkfnnhaa
open Go.RowKit Num Wrd Dic

theorem dText_any (s : List UInt8) (w : World) (hs : s.length ≤ 1000000) : Calls Try.prog 42 #[.string ⟨s.toArray⟩] w (MadeB w (textB s)) := by
  have := ownText_any ⟨s.toArray⟩ w (by rw [txt_size]; exact hs)
  rw [txt_size] at this
  simpa [textB] using this
theorem wrap_u64 {n : Nat} (h : n ≤ 1000000000) : IntKind.u64.wrap (n : Int) = (n : Int) := by rw [IntKind.wrap_u64]; omega
theorem Dic.drop_next {l : List (List UInt8)} {i : Nat} (h : i + 1 < l.length) (was : List UInt8) : tailB was (l.drop (i + 1)) = itemB was (l.getD (i + 1) []) ++ tailB (l.getD (i + 1) []) (l.drop (i + 2)) := by rw [drop_is h, tailB]
attribute [local go_sem ↓] run_txtAt run_txtLen run_txtCut run_txtTop run_cutTx
set_option maxHeartbeats 4000000 in
set_option maxRecDepth 10000 in
theorem dBucket_any (A : Option Addr) (m c : Nat) (L : List (List UInt8)) (w : World) (h : TextsAt w w.heap.size A (m + 1) L) (hm : m ≤ 64) (hc : m + 1 ≤ c) (hs : ∀ s, s ∈ L → s.length ≤ 25) :
    Calls Try.prog 29 #[.slice A ((m + 1 : Nat)) c] w (MadeB w (bucketB L)) := by
  have hl := h.1
  have hA := h
  have HIn := hide (bucket_len hs)
  rw [hl] at HIn
  have HLe := hide (show ∀ i, i < m + 1 → (L.getD i []).length ≤ 25 from fun i hi => hs _ (by
    rw [List.getD_eq_getElem?_getD, List.getElem?_eq_getElem (by omega)]
    exact List.getElem_mem _))
  have HS := hide (show bucketB L = textB (L.getD 0 []) ++ tailB (L.getD 0 []) (L.drop 1) by
    have : L = L.getD 0 [] :: L.drop 1 := by have := drop_is (l := L) (i := 0) (by omega); rwa [List.drop_zero] at this
    conv => lhs; rw [this, bucketB])
  have HSt := hide (fun (i : Nat) (hi : i < m) (was : List UInt8) => drop_next (l := L) (i := i) (by omega) was)
  have HEnd := hide (show ∀ was, tailB was (L.drop (m + 1)) = [] from fun was => by rw [List.drop_of_length_le (by omega)]; rfl)
  obtain ⟨P, hP⟩ : ∃ P, P = bucketB L := ⟨_, rfl⟩
  rw [← hP] at HIn HS ⊢
  have hcell : ∃ b o, A = some ⟨b, o, none⟩ ∧ ∀ W, Ext w W → ∀ j, j < m + 1 → W.cell? ⟨b, o + j, none⟩ = some (.string ⟨(L.getD j []).toArray⟩) := by
    rcases hA.2 with h0 | ⟨b, o, rfl, hb, hc⟩
    · omega
    · exact ⟨b, o, rfl, fun W hW j hj => (hW.cell hb).trans (hc j hj)⟩
  obtain ⟨b, o, rfl, hcell⟩ := hcell
  have HC := hide hcell
  have c0 := hcell w (Ext.refl w) 0 (by omega)
  rw [Nat.add_zero] at c0
  have hm1 : ((m + 1 : Nat) : Int) = (m : Int) + 1 := by omega
  obtain ⟨d, rfl⟩ : ∃ d, c = d + 1 := ⟨c - 1, by omega⟩
  have hCut : ∀ W, (Instr.slice 22 (.slice (some ⟨b, o, none⟩) ((m + 1 : Nat)) (d + 1)) (some (.int .i64 1)) none none).run Try.prog W = .ok (.slice (cutAt (some ⟨b, o, none⟩) (d + 1) 1) m d) W := fun W => by
    have := run_cutTx W (some ⟨b, o, none⟩) (m + 1) (d + 1) .i64 1 (by omega) (by omega)
    simpa using this
  have hA1 : m = 0 ∨ cutAt (some ⟨b, o, none⟩) (d + 1) 1 = some ⟨b, o + 1, none⟩ := by
    rcases Nat.eq_zero_or_pos m with h0 | h0
    · exact .inl h0
    · exact .inr (by simp [cutAt, show ¬ d = 0 by omega, Addr.add])
  generalize cutAt (some ⟨b, o, none⟩) (d + 1) 1 = A1 at *
  have CT := fun W => dText_any (L.getD 0 []) W (by have := HLe.out 0 (by omega); omega)
  have HA1 := hide hA1
  have HCell0 := hide c0
  have HCu := hide hCut
  have hmI : (m : Int) ≤ 64 := by omega
  have hcu := hCut
  clear h hl hA hcell hs hP hA1 hCut hc
  obtain ⟨s0, hs0⟩ : ∃ s, s = L.getD 0 [] := ⟨_, rfl⟩
  rw [← hs0] at c0 CT
  have HS0 := hide hs0
  clear hs0
  go_enter Try.func29, Try.ntmps29
  go_wp2_with fail
  refine (CT w).mono ?_
  rintro e w2 ⟨v2, rfl, hO2, hE2⟩
  have HO2 := hide hO2
  have HE2 := hide hE2
  have c2 := HC.out w2 hE2 0 (by omega)
  rw [Nat.add_zero, ← HS0.out] at c2
  clear hO2 hE2 CT
  go_wp2
  go_loopw [14, 3] (fun x v wr => ∃ (j : Nat) (X : List UInt8), j ≤ m ∧ x = .int .i64 (j : Int) ∧ OwnB wr w.heap.size v X ∧ P = X ++ tailB (L.getD j []) (L.drop (j + 1)) ∧ Ext w wr) (fun x _ _ => m - (intOf x).toNat)
  case atStart => exact ⟨0, textB s0, by omega, rfl, HO2.out, by rw [HS.out, ← HS0.out], HE2.out⟩
  case round =>
    clear c0 c2 hcu HO2 HE2
    obtain ⟨j, X, hj, rfl, hO, hX, hE⟩ := hrel
    have HXl := hide (show X.length ≤ 2000 by have := HIn.out; rw [hX, List.length_append] at this; omega)
    by_cases hlt : j < m
    · have hjI : (j : Int) < (m : Int) := by omega
      rw [HSt.out j hlt] at hX
      rcases HA1.out with h0 | h0
      · omega
      subst h0
      have hc1 := HC.out wr hE (j + 1) (by omega)
      rw [show o + (j + 1) = o + 1 + j by omega] at hc1
      have hc0 := HC.out wr hE j (by omega)
      have HL0 := hide (HLe.out j (by omega))
      have HL1 := hide (HLe.out (j + 1) (by omega))
      have HXe := hide hX
      obtain ⟨t, ht⟩ : ∃ t, t = L.getD (j + 1) [] := ⟨_, rfl⟩
      obtain ⟨y, hy⟩ : ∃ y, y = L.getD j [] := ⟨_, rfl⟩
      rw [← ht] at hc1 HL1 HXe
      rw [← hy] at hc0 HL0 HXe
      have HT := hide ht
      have CA := fun W => dSame_any y t W (by have := HL0.out; omega) (by have := HL1.out; omega)
      have hal := (alike_le y t).2
      have HIt := hide (show itemB y t = enc (alike y t) ++ textB (t.drop (alike y t)) from rfl)
      generalize alike y t = a at *
      have haI : (a : Int) ≤ (t.length : Int) := by omega
      have ha25 : a ≤ 25 := by have := HL1.out; omega
      have hwa := wrap_u64 (n := a) (by omega)
      have CN := fun W => ownNum_any a W (by omega)
      have CX := fun W => dText_any (t.drop a) W (by have := HL1.out; rw [List.length_drop]; omega)
      have HO := hide hO
      have HE := hide hE
      clear hO hE hX ht hy hal
      go_wp2_with fail
      refine (CA _).mono ?_
      rintro e w3 ⟨rfl, hQ3⟩
      have HO3 := hide (HO.out.ext hQ3.ext)
      have HE3 := hide (HE.out.trans hQ3.ext)
      clear hQ3 CA
      go_wp2_with fail
      refine (CN _).mono ?_
      rintro e w5 ⟨v5, rfl, hO5, hE5⟩
      have HO5 := hide (HO3.out.ext hE5)
      have HE5 := hide (HE3.out.trans hE5)
      obtain ⟨A5, c5, hv5, -, -, q5⟩ := hO5.form
      obtain ⟨m5, hm5⟩ : ∃ m, m = (enc a).length := ⟨_, rfl⟩
      rw [← hm5] at hv5 q5
      have HM5 := hide hm5
      have HQ5 := hide q5
      subst hv5
      clear hO5 hE5 q5 hm5 hc0 hc1 CN
      go_wp2_with (at_builtin; refine wpList_appAt rfl (.tmp 25) (.tmp 28) rfl rfl HO5.out rfl HQ5.out (by have := HXl.out; have := HM5.out; have := enc_len a; omega) HE5.out.le ?_; intro v6 w6 hO6 hG6 hN6; have HO6 := hide hO6; have HE6 := hide (show Ext w w6 from Below.grown HE5.out hG6 HE5.out.le (fun k hk => (HO5.out.lt k hk).1)); clear hO6 hG6 hN6)
      refine (CX w6).mono ?_
      rintro e w7 ⟨v7, rfl, hO7, hE7⟩
      have HO7 := hide (HO6.out.ext hE7)
      have HE7 := hide (HE6.out.trans hE7)
      obtain ⟨Z, hZ⟩ : ∃ Z, Z = textB (t.drop a) := ⟨_, rfl⟩
      rw [← hZ] at hO7
      obtain ⟨A7, c7, hv7, -, -, q7⟩ := hO7.form
      obtain ⟨m7, hm7⟩ : ∃ m, m = Z.length := ⟨_, rfl⟩
      rw [← hm7] at hv7 q7
      have HM7 := hide hm7
      have HQ7 := hide q7
      have HZ := hide hZ
      have HZl := hide (show Z.length ≤ 40 by
        rw [hZ]
        unfold textB
        have := HL1.out
        have := enc_len (t.drop a).length
        rw [List.length_append, List.length_drop] at *
        omega)
      subst hv7
      clear hO7 hE7 q7 hm7 hZ CX
      go_wp2_with (at_builtin; refine wpList_appAt rfl (.tmp 30) (.tmp 34) rfl rfl HO7.out rfl HQ7.out (by have := HXl.out; have := enc_len a; have := HZl.out; have := HM7.out; rw [List.length_append]; omega) HE7.out.le ?_; intro v8 w8 hO8 hG8 hN8; have HO8 := hide hO8; have HE8 := hide (show Ext w w8 from Below.grown HE7.out hG8 HE7.out.le (fun k hk => (HO7.out.lt k hk).1)); clear hO8 hG8 hN8)
      go_roundw
      case rel => exact ⟨j + 1, X ++ enc a ++ Z, by omega, by go_num, HO8.out, by rw [HXe.out, HIt.out, ← HZ.out, ← HT.out]; simp only [List.append_assoc], HE8.out⟩
      case measure => simp [intOf]; omega
    · have hjI : ¬ (j : Int) < (m : Int) := by omega
      obtain rfl : j = m := by omega
      rw [HEnd.out, List.append_nil] at hX
      subst hX
      have HO := hide hO
      have HE := hide hE
      clear hO hE
      go_wp2
      go_ret
      exact ⟨_, rfl, HO.out, HE.out⟩
end Go.Proofs.Ytmaddohfkfnnhaa

namespace Go.Proofs.Ytmaddohfkfnnhaa
open Go.RowKit

/-- New blocks and draws leave it as it is. -/
def Calm (J : Nat → World → Prop) : Prop := ∀ k W W', J k W → W.grownBy W' none → J k W'
/-- What an iterator promises: N rounds, in round k what encs k says. -/
def RGives (n : Nat) (P : Program) (g : Nat) (lb : Array Value) (encs : Nat → Array Value) (N : Nat) (I : Nat → World → Prop) (w : World) : Prop :=
  ∀ (l : Nat) (J : Nat → World → Prop) (W : World), Ext w W → (∀ k W, J k W → I k W) → Calm J →
    (∀ k W, J k W → k < N → YieldAt Fence.wide (n - 1) P l (encs k) W fun e W' => e = .returned (.bool true) ∧ J (k + 1) W') → J 0 W →
    CallsIn Fence.wide n P g (#[.func (.yield l) #[] #[]] ++ lb) W fun e W' => (∃ v, e = .returned v) ∧ J N W'
/-- The end of a round. -/
def roundEnd (B : Nat) (I : World → Prop) (W : World) : Exit → Act → World → Prop
  | .normal, _, W' => KeepsFrom B W W' ∧ I W'
  | _, _, _ => False
theorem wpIn_rangeOwn {P : Program} {g : Operand} {ps : Array Tmp} {assign body : Code} {Q : Exit → Act → World → Prop} {a : Act} {w : World} {n : Nat}
    {gf : Nat} {lb : Array Value} (hg : a.eval g = .func (.func gf) #[] lb) (eg : ∀ args w, (callFunc gf args).run P w = .ok (.enter gf args) w)
    (N : Nat) (encs : Nat → Array Value) (hps : ∀ k, (encs k).size = ps.size) (I : Nat → World → Prop) (hI : OwnFrom w.heap.size I) (h0 : I 0 w) (hseq : RGives (n - 1) P gf lb encs N I w) (a₁ : Nat → Act)
    (hassign : ∀ (l k : Nat) (W : World) (K : Act → World → Prop), K (a₁ k) W →
      assign.wpIn (Fence.wide.inRound l) (n - 1 - 1) P (Exit.then K (fun _ _ _ => False)) { tmps := (ps.zip (encs k)).foldl (fun t (p, v) => t.setIfInBounds p v) a.tmps, defers := [] } W)
    (hbody : ∀ (l k : Nat) (W : World), I k W → k < N → body.wpIn (Fence.wide.inRound l) (n - 1 - 1) P (roundEnd w.heap.size (I (k + 1)) W) (a₁ k) W)
    (hdone : ∀ (D : Nat) (W : World), w.heap.size ≤ D → I N W → W.heap[D]? = some (.deferred (some [])) → Q .normal { a with defers := { target := .collected D, args := #[] } :: a.defers } W) :
    (Code.rangeFunc g ps assign body).wpIn Fence.wide n P Q a w := by
  refine wpIn_rangeFunc ?_
  intro fn hfn
  obtain ⟨rec, hrec⟩ : ∃ rec : LoopState → Loop, rec = fun st => { state := st, pending := none, fn, tmps := a.tmps, params := ps, assign, body, defers := w.heap.size } := ⟨_, rfl⟩
  have hs1 : ((w.alloc (.deferred (some []))).alloc (.loop (rec .ready))).heap.size = w.heap.size + 2 := by simp
  have hL : ((w.alloc (.deferred (some []))).alloc (.loop (rec .ready))).heap[w.heap.size + 1]? = some (.loop (rec .ready)) := by
    have := World.alloc_heap_new (w.alloc (.deferred (some []))) (.loop (rec .ready))
    rwa [World.size_alloc] at this
  have hD : ((w.alloc (.deferred (some []))).alloc (.loop (rec .ready))).heap[w.heap.size]? = some (.deferred (some [])) := (Below.heap_alloc _ _ _ (by simp)).trans (World.alloc_heap_new w _)
  have hI1 : I 0 ((w.alloc (.deferred (some []))).alloc (.loop (rec .ready))) := hI.alloc _ (hI.alloc _ h0)
  have hE1 : Ext w ((w.alloc (.deferred (some []))).alloc (.loop (rec .ready))) := (extNew w _).alloc _
  refine ⟨w.heap.size + 1, [{ target := .collected w.heap.size, args := #[] }], (w.alloc (.deferred (some []))).alloc (.loop (rec .ready)), { target := .fn (.func gf) lb, args := #[.func (.yield (w.heap.size + 1)) #[] #[]] }, (w.alloc (.deferred (some []))).alloc (.loop (rec .ready)), gf,
    #[.func (.yield (w.heap.size + 1)) #[] #[]] ++ lb, (w.alloc (.deferred (some []))).alloc (.loop (rec .ready)), ?_, ?_, fun _ _ => trivial, ?_, (fun h => by cases h), ?_⟩
  · rw [hrec]
    exact run_enterLoop_outer _ _ _ _ _
  · simp only [resolve, hg]
    simp [go_sem]
  · simp [invoke, go_sem, eg]
  · generalize (w.alloc (.deferred (some []))).alloc (.loop (rec .ready)) = W1 at hs1 hL hD hI1 hE1
    refine (hseq (w.heap.size + 1) (fun k W => I k W ∧ W.heap[w.heap.size + 1]? = some (.loop (rec .ready)) ∧ W.heap[w.heap.size]? = some (.deferred (some []))) W1 hE1 (fun _ _ h => h.1)
      (fun k A B ⟨h1, h2, h3⟩ hG => ⟨hI k A B none h1 hG (fun r e => by cases e), (hG.block _ (Array.getElem?_eq_some_iff.1 h2).1 (by simp)).trans h2, (hG.block _ (Array.getElem?_eq_some_iff.1 h3).1 (by simp)).trans h3⟩) ?_ ⟨hI1, hL, hD⟩).mono ?_
    · rintro k W ⟨hi, hl, hd⟩ hk
      have hlt : w.heap.size + 1 < W.heap.size := (Array.getElem?_eq_some_iff.1 hl).1
      have hy := run_yield (P := P) (args := encs k) hl (by rw [hrec]; exact hps k)
      rw [hrec] at hy
      have hb := hbody (w.heap.size + 1) k _ (hI.putObj (.loop { rec .ready with state := .busy }) hi (by omega) hl rfl) hk
      refine ⟨fn, _, assign, body, hy, roundIn_of_wpIn hfn (hassign _ k W _ ⟨_, run_beginRound hl (by rw [hrec]), wpIn_mono hb ?_⟩)⟩
      have hl2 : (W.putObj (w.heap.size + 1) (.loop { rec .ready with state := .busy })).heap[w.heap.size + 1]? = some (.loop { rec .ready with state := .busy }) := World.putObj_heap_same hlt
      have hd2 : (W.putObj (w.heap.size + 1) (.loop { rec .ready with state := .busy })).heap[w.heap.size]? = some (.deferred (some [])) := (World.putObj_heap_other (by omega)).trans hd
      intro e a3 W3 hp
      cases e with
      | normal =>
        obtain ⟨hk3, hi3⟩ := hp
        have hl3 := hk3.same _ _ (by omega) hl2 rfl
        have hd3 := hk3.same _ _ (Nat.le_refl _) hd2 rfl
        have hr := run_endRound (P := P) none hl3
        refine ⟨_, _, hr, rfl, hI.putObj _ hi3 (by omega) hl3 rfl, ?_, (World.putObj_heap_other (by omega)).trans hd3⟩
        rw [World.putObj_heap_same (Array.getElem?_eq_some_iff.1 hl3).1, hrec]
        rfl
      | ret => exact hp.elim
      | exit id => exact hp.elim
      | goto t => exact hp.elim
      | panic ch => exact hp.elim
      | outgrown => exact hp.elim
    · rintro e W2 ⟨⟨v, rfl⟩, hi, hl, hd⟩
      refine ⟨none, _, ?_, hdone _ _ (Nat.le_refl _) (hI.putObj (.loop { rec .ready with state := .exhausted }) hi (by omega) hl rfl) ((World.putObj_heap_other (by omega)).trans hd)⟩
      have := run_endLoop (P := P) hl (by rw [hrec]; simp)
      rw [hrec] at this ⊢
      exact this

/-! Operations of a round are carried out as everywhere. -/
theorem operRound {P : Program} {o : Oper} {a : Act} {w : World} {K : Act → World → Prop} {Q : Exit → Act → World → Prop} (l n : Nat) (hd : ∀ c, o.op ≠ .defer c) (h : o.wp P a w K Q) : o.wpIn (Fence.wide.inRound l) n P a w K Q := by
  refine ⟨fun _ _ => trivial, ?_⟩
  rw [Oper.semAt_plain (Fence.wide.inRound l) a.eval o hd]
  unfold Oper.wp at h
  generalize (execOp a.eval o).run P w = r at *
  cases r with
  | ok x w' =>
    cases x with
    | value v => exact h
    | skip => exact h
    | defer d => exact h
    | enter f args => exact ⟨(fun h => by cases h), CallsIn.inRound l (callsIn_wide.2 h)⟩
    | row row args =>
      refine ⟨(fun h => by cases h), fun c cs _ => ?_⟩
      obtain ⟨v, w2, h1, h2⟩ := h c cs
      exact ⟨v, w2, h1, (stepsIn_wide (P := P)).2 h2⟩
    | _ => exact h.elim
  | halt x w' => cases x <;> first | exact h | exact h.elim
def noDefer (ops : Array Oper) : Bool := ops.all fun o => match o.op with
  | .defer _ => false
  | _ => true
theorem noDefer_at {ops : Array Oper} (h : noDefer ops = true) {i : Nat} {o : Oper} (hi : ops[i]? = some o) : ∀ c, o.op ≠ .defer c := by
  intro c hc
  have hm : o ∈ ops := Array.mem_of_getElem? hi
  have := Array.all_eq_true_iff_forall_mem.1 h o hm
  rw [hc] at this
  cases this
theorem opsRound {P : Program} {ops : Array Oper} {Q : Exit → Act → World → Prop} (l n : Nat) (hd : noDefer ops = true) (hQ : ¬ LetsOut Q) : ∀ (is : List Nat) (a : Act) (w : World), wpOps P ops Q is a w → wpOpsIn (Fence.wide.inRound l) n P ops Q is a w
  | [], _, _, h => h
  | i :: is, a, w, h => by
    unfold wpOps at h
    unfold wpOpsIn
    cases hi : ops[i]? with
    | none =>
      rw [hi] at h
      exact opsRound l n hd hQ is a w h
    | some o =>
      rw [hi] at h
      simp only at h ⊢
      split
      · rename_i hw
        rw [if_pos hw] at h
        rcases h with h | h
        · exact operRound l n (noDefer_at hd hi) (Oper.wp_mono (fun a w => opsRound l n hd hQ is a w) h)
        · exact absurd h.2 hQ
      · rename_i hw
        rw [if_neg hw] at h
        exact ⟨fun _ _ => trivial, opsRound l n hd hQ is _ w h⟩
/-- A region of a round that draws its order. -/
theorem wpIn_region_T {P : Program} {ops : Array Oper} {Q : Exit → Act → World → Prop} {l k : Nat} {id : Nat} {a : Act} {w : World} (S : World → Prop) (n m : Nat) (listed : Array Bool) (hd : noDefer ops = true) (hQ : ¬ LetsOut Q) (hm : P.follows .mixedOrders = true) (hm' : ops.size = m) (hl : Array.replicate m false = listed) (hS : S w.drew)
    (h : S w.drew → wpAnyT P .any ops Q S n m listed a w.drew) : (Code.region id ops true).wpIn (Fence.wide.inRound l) k P Q a w :=
  wpIn_region_draw fun t => by
    simp only [Region.schedule, hm, Bool.true_or, if_true]
    refine opsRound l k hd hQ _ _ _ (wpAny_sound ops.size t _ a _ ?_)
    rw [hm', hl]
    exact wpAny_of_T _ _ _ _ (h hS)
end Go.Proofs.Ytmaddohfkfnnhaa

namespace Go.Proofs.Ytmaddohfkfnnhaa
open Go.RowKit Dic

attribute [local go_sem] Oper.semAt_some

/-- Where a part begins. -/
def partA (A : Option Addr) (p : Nat) : Option Addr := A.map fun a => ⟨a.block, a.off + p, none⟩
/-- A part of a list of texts with its room cut. -/
theorem run_midTx (W : World) (b o n c : Nat) (l h : Nat) (h1 : l < h) (h2 : h ≤ c) :
    (Instr.slice 22 (.slice (some ⟨b, o, none⟩) n c) (some (.int .i64 (l : Int))) (some (.int .i64 (h : Int))) (some (.int .i64 (h : Int)))).run Try.prog W = .ok (.slice (some ⟨b, o + l, none⟩) (h - l) (h - l)) W := by
  rw [run_slice_lhm (P := Try.prog) (w := W) 22 (some ⟨b, o, none⟩) n c (by kernel_rfl) .i64 .i64 .i64 (l : Int) (h : Int) (h : Int) (by omega) (by omega) (by omega) (by omega)]
  have hs : (sizeOf (Try.prog.elem 22)).run Try.prog W = .ok 1 W := by kernel_rfl
  rw [hs]
  simp [Result.andThen, sliced, show ¬ h = l by omega, Addr.add]
/-- How many stand in chunk k. -/
def chunkS (sz len k : Nat) : Nat := min sz (len - k * sz)

set_option maxHeartbeats 1000000 in
theorem chunkTx_in (n : Nat) (A : Option Addr) (m c sz : Nat) (hs : 1 ≤ sz) (w : World) :
    CallsIn Fence.wide n Try.prog 28 #[.slice A m c, .int .i64 (sz : Int)] w fun e w' => e = .returned (.func (.func 41) #[] #[.pointer (some ⟨w.heap.size, 0, none⟩), .pointer (some ⟨w.heap.size + 1, 0, none⟩)]) ∧ w' = (w.alloc (.cells #[.slice A m c] 22)).alloc (.cells #[.int .i64 (sz : Int)] 3) := by
  have hsI : ¬ (sz : Int) < 1 := by omega
  refine callsIn_of_wp Try.func28 rfl trivial ?_ rfl
  simp only [Try.ntmps28, List.size_toArray, List.length_cons, List.length_nil, Nat.reduceAdd, Nat.reduceSub, Array.replicate_succ, Array.replicate_zero, List.push_toArray, List.append_toArray, List.nil_append, List.cons_append]
  gi_wp2
  go_ret
  exact ⟨rfl, rfl⟩

set_option maxHeartbeats 2000000 in
set_option maxRecDepth 100000 in
theorem chunkTx_gives {n B1 B2 g off len c sz : Nat} {A : Option Addr} {I : Nat → World → Prop} {w : World} (hn : 2 ≤ n) (hN : len ≤ 1000000) (hc : len ≤ c) (_hcm : c ≤ maxLen) (hs : 1 ≤ sz) (hs2 : sz ≤ 64) (hA : len = 0 ∨ A = some ⟨g, off, none⟩)
    (hI : ∀ k W, I k W → W.cell? ⟨B1, 0, none⟩ = some (.slice A len c) ∧ W.cell? ⟨B2, 0, none⟩ = some (.int .i64 (sz : Int))) :
    RGives n Try.prog 41 #[.pointer (some ⟨B1, 0, none⟩), .pointer (some ⟨B2, 0, none⟩)] (fun k => #[.slice (partA A (k * sz)) (chunkS sz len k) (chunkS sz len k)]) (bucketsN sz len) I w := by
  unfold maxLen at _hcm
  intro l J W hE hJI hC hY h0
  have HI := hide (fun k W h => hI k W (hJI k W h))
  have HY := hide hY
  have HC := hide hC
  clear hI hY hC hJI
  refine callsIn_of_wp Try.func41 rfl trivial ?_ rfl
  simp only [Try.ntmps41, List.size_toArray, List.length_cons, List.length_nil, Nat.reduceAdd, Nat.reduceSub, Array.replicate_succ, Array.replicate_zero, List.push_toArray, List.append_toArray, List.nil_append, List.cons_append]
  gi_wp2
  gi_loopw [4] (fun i wr => ∃ (k p : Nat), i = .int .i64 (p : Int) ∧ p = k * sz ∧ k ≤ bucketsN sz len ∧ J k wr) (fun i _ => len + 64 - (intOf i).toNat)
  case atStart => exact ⟨0, 0, rfl, by simp, Nat.zero_le _, h0⟩
  case round =>
    obtain ⟨k, p, rfl, hp, hk, hJ⟩ := hrel
    have HP := hide hp
    obtain ⟨b1, b2⟩ := HI.out k wr hJ
    by_cases hkn : p < len
    · have hkN : k < bucketsN sz len := buckets_over hs (by rw [← hp]; exact hkn)
      have hYk := fun W hJ => HY.out k W hJ hkN
      rcases hA with h | h
      · omega
      subst h
      have hpA : partA (some ⟨g, off, none⟩) p = some ⟨g, off + p, none⟩ := rfl
      rw [← hp, hpA] at hYk
      obtain ⟨q, hq⟩ : ∃ q, q = len - p := ⟨_, rfl⟩
      obtain ⟨e, he⟩ : ∃ e, e = chunkS sz len k := ⟨_, rfl⟩
      have hRC := fun W => run_cutTx W (some ⟨g, off, none⟩) len c .i64 (p : Int) (by omega) (by omega)
      simp only [Int.toNat_natCast] at hRC
      rw [← hq] at hRC
      generalize cutAt (some ⟨g, off, none⟩) c p = A3 at hRC
      generalize c - p = d at hRC
      have HRC := hide hRC
      have he2 : e = min sz q := by rw [he, hq, hp]; rfl
      have HMin := hide (show (if (q : Int) < (sz : Int) then (q : Int) else (sz : Int)) = (e : Int) by
        rw [he2]
        by_cases h : (q : Int) < (sz : Int)
        · rw [if_pos h]; omega
        · rw [if_neg h]; omega)
      have heq : 1 ≤ e ∧ p + e ≤ len := by omega
      obtain ⟨he1, hpe⟩ := heq
      rw [← he] at hYk
      have HYk := hide hYk
      clear hYk
      have hRM : ∀ W, (Instr.slice 22 (.slice (some ⟨g, off, none⟩) len c) (some (.int .i64 (p : Int))) (some (.int .i64 ((p : Int) + (e : Int)))) (some (.int .i64 ((p : Int) + (e : Int))))).run Try.prog W = .ok (.slice (some ⟨g, off + p, none⟩) e e) W := fun W => by
        have := run_midTx W g off len c p (p + e) (by omega) (by omega)
        rw [Int.natCast_add, Nat.add_sub_cancel_left] at this
        exact this
      have HRM := hide hRM
      clear hRM
      clear hRC he he2 hq hp
      obtain ⟨wa, rfl⟩ : ∃ W, W = wr := ⟨_, rfl⟩
      gi_wp2
      refine wpIn_wide.2 ?_
      refine wp_region_T (fun W => W.cell? ⟨B1, 0, none⟩ = some (.slice (some ⟨g, off, none⟩) len c) ∧ W.cell? ⟨B2, 0, none⟩ = some (.int .i64 (sz : Int))) 6 7 #[false, false, false, false, false, false, false] (by kernel_rfl) rfl rfl ⟨b1, b2⟩ ?_
      intro hS0
      refine wpAnyT_take 0 (some 13) (.int .i64 (sz : Int)) #[true, false, false, false, false, false, false] rfl rfl rfl (by kernel_rfl) (fun _ _ _ h => h) hS0 (by rfl) (fun W hX => by obtain ⟨f1, f2⟩ := hX; go_simp) ?_
      simp only [Act.put, List.setIfInBounds_toArray, List.set_cons_zero, List.set_cons_succ]
      refine wpAnyT_take 1 (some 14) (.slice (some ⟨g, off, none⟩) len c) #[true, true, false, false, false, false, false] rfl rfl rfl (by kernel_rfl) (fun _ _ _ h => h) hS0 (by rfl) (fun W hX => by obtain ⟨f1, f2⟩ := hX; go_simp) ?_
      simp only [Act.put, List.setIfInBounds_toArray, List.set_cons_zero, List.set_cons_succ]
      refine wpAnyT_take 2 (some 15) (.int .i64 (p : Int)) #[true, true, true, false, false, false, false] rfl rfl rfl (by kernel_rfl) (fun _ _ _ h => h) hS0 (by rfl) (fun W hX => by go_simp) ?_
      simp only [Act.put, List.setIfInBounds_toArray, List.set_cons_zero, List.set_cons_succ]
      refine wpAnyT_take 3 (some 16) (.slice A3 q d) #[true, true, true, true, false, false, false] rfl rfl rfl (by kernel_rfl) (fun _ _ _ h => h) hS0 (by rfl) (fun W hX => by have hr := HRC.out W; go_simp) ?_
      simp only [Act.put, List.setIfInBounds_toArray, List.set_cons_zero, List.set_cons_succ]
      refine wpAnyT_take 4 (some 17) (.int .i64 (q : Int)) #[true, true, true, true, true, false, false] rfl rfl rfl (by kernel_rfl) (fun _ _ _ h => h) hS0 (by rfl) (fun W hX => by go_simp) ?_
      simp only [Act.put, List.setIfInBounds_toArray, List.set_cons_zero, List.set_cons_succ]
      refine wpAnyT_take 5 (some 18) (.int .i64 (e : Int)) #[true, true, true, true, true, true, false] rfl rfl rfl (by kernel_rfl) (fun _ _ _ h => h) hS0 (by rfl) (fun W hX => by go_simp; first | exact HMin.out | (have h := HMin.out; split at h <;> omega)) ?_
      simp only [Act.put, List.setIfInBounds_toArray, List.set_cons_zero, List.set_cons_succ]
      refine wpAnyT_only 6 #[true, true, true, true, true, true, true] (by kernel_rfl) rfl rfl (by rfl) (fun K1 hK1 => ?_)
      go_simp
      refine hK1 _ _ (fun h => absurd h (by decide)) (wpAnyT_done (by kernel_rfl) ?_ _)
      clear hK1 K1
      have hJ3 := HC.out k wa wa.drew hJ ⟨rfl, rfl, rfl, Nat.le_refl _, fun _ _ _ => rfl⟩
      obtain ⟨d1, d2⟩ := hS0
      generalize wa.drew = w3 at hJ3 d1 d2 ⊢
      obtain ⟨fn, tmps, assign, body, hy, hR⟩ := HYk.out w3 hJ3
      have hRM := HRM.out
      clear hJ b1 b2
      gi_wp2
      refine ⟨fun _ => by omega, hR.mono ?_⟩
      rintro e4 W4 ⟨rfl, hJ4⟩
      obtain ⟨f1, f2⟩ := HI.out (k + 1) W4 hJ4
      gi_wp2
      go_roundw
      case rel => exact ⟨k + 1, p + sz, by go_num, by rw [HP.out, Nat.add_mul, Nat.one_mul], hkN, hJ4⟩
      case measure => simp [intOf]; omega
    · have hpI : ¬ (p : Int) < (len : Int) := by omega
      have hkk : k = bucketsN sz len := by
        rcases Nat.lt_or_ge k (bucketsN sz len) with h | h
        · have := buckets_in hs h
          omega
        · omega
      rw [hkk] at hJ
      clear hp
      gi_wp2
      go_end0
      exact ⟨⟨_, rfl⟩, hJ⟩
end Go.Proofs.Ytmaddohfkfnnhaa

namespace Go.Proofs.Ytmaddohfkfnnhaa
open Go.RowKit

/-- Bytes of the call's own lie in no block of another kind. -/
theorem OwnB.notKind {w : World} {base b : Nat} {v : Value} {l : List UInt8} {t : TypeId} {cs : Array Value} (h : OwnB w base v l) (hb : Whole w b t cs) (ht : t ≠ 5) : v.ownBlock ≠ some b := by
  intro e
  rcases h.2 with ⟨rfl, _⟩ | ⟨g', cap, cur, rfl, _, hg, _⟩
  · simp [Value.ownBlock] at e
  · simp only [Value.ownBlock, Option.some.injEq] at e
    subst e
    unfold Whole at hb
    rw [hb] at hg
    simp only [Option.some.injEq, Obj.cells.injEq] at hg
    exact ht hg.2.1
end Go.Proofs.Ytmaddohfkfnnhaa

namespace Go.Proofs.Ytmaddohfkfnnhaa
open Go.RowKit

theorem Whole.turn {W W' : World} {g : Nat} {t : TypeId} {cs : Array Value} {row : Option Nat} (h : Whole W g t cs) (hg : W.grownBy W' row) (hr : ∀ r, row = some r → ∃ o : Obj, W.heap[r]? = some o ∧ o.isCells = false) : Whole W' g t cs :=
  (hg.block g h.lt fun e => by
    obtain ⟨o, h1, h2⟩ := hr g e.symm
    rw [show W.heap[g]? = _ from h] at h1
    cases h1
    cases h2).trans h
theorem OwnB.turn {W W' : World} {base : Nat} {v : Value} {l : List UInt8} {row : Option Nat} (h : OwnB W base v l) (hg : W.grownBy W' row) (hr : ∀ r, row = some r → ∃ o : Obj, W.heap[r]? = some o ∧ o.isCells = false) : OwnB W' base v l :=
  World.ownsRow.kept h hg (by
    rcases h.2 with ⟨rfl, _⟩ | ⟨g, cap, cur, rfl, _, hgg, _⟩
    · exact .inl rfl
    · refine .inr fun e => ?_
      obtain ⟨o, h1, h2⟩ := hr g e.symm
      rw [hgg] at h1
      cases h1
      cases h2)
end Go.Proofs.Ytmaddohfkfnnhaa

namespace Go.Proofs.Ytmaddohfkfnnhaa
open Go.RowKit

/-- A slice of slices that reads as these rows of bytes. -/
def Parts (w : World) (B : Nat) (A : Option Addr) (n : Nat) (ls : List (List UInt8)) : Prop :=
  ls.length = n ∧ (n = 0 ∨ ∃ b off, A = some ⟨b, off, none⟩ ∧ b < B ∧ ∀ i, i < n → ∃ A' n' c', w.cell? ⟨b, off + i, none⟩ = some (.slice A' n' c') ∧ n' ≤ maxLen ∧ Bytes w B A' n' (ls.getD i []))

end Go.Proofs.Ytmaddohfkfnnhaa

namespace Go.Proofs.Ytmaddohfkfnnhaa
open Go.RowKit

theorem wpList_zerosAt {o : Oper} {a : Act} {Q : Exit → Act → World → Prop} {w : World} {base : Nat} {v : Value} {l : List UInt8} {ops : Array Oper} {rest : List Oper} (hgd : o.guard = none) (s x : Operand) (ho : o.op = .call { callee := .builtin .append, args := #[s, x], argTypes := #[25, 3] }) (hs : a.eval s = v) (hown : OwnB w base v l)
    (n : Nat) (hx : a.eval x = .int .i64 n) (hlen : l.length + n ≤ 140737488355328) (hbase : base ≤ w.heap.size)
    (h : ∀ v' w', OwnB w' base v' (l ++ List.replicate n 0) → w.grownBy w' v.ownBlock → NewOb w v.ownBlock v'.ownBlock → wpList Try.prog ops Q rest (a.put o.dst v') w') : wpList Try.prog ops Q (o :: rest) a w :=
  wpList_plain hgd fun _ hK => wp_zerosAt s x ho hs hown n hx hlen hbase fun v' w' h2 h3 h4 => hK _ _ (h v' w' h2 h3 h4)
theorem OwnB.cut0 {w : World} {base g n c : Nat} {l : List UInt8} (h : OwnB w base (.slice (some ⟨g, 0, none⟩) n c) l) : OwnB w base (.slice (some ⟨g, 0, none⟩) 0 c) [] := by
  refine ⟨rfl, ?_⟩
  rcases h.2 with ⟨h0, _⟩ | ⟨x, cap, cur, hv, hb, hx, hn, hm, hs, _⟩
  · cases h0
  · simp only [Value.slice.injEq, Option.some.injEq, Addr.mk.injEq, and_true] at hv
    obtain ⟨rfl, _, rfl⟩ := hv
    exact .inr ⟨g, c, cur, rfl, hb, hx, by simp, hm, hs, by simp⟩

set_option maxHeartbeats 1000000 in
set_option maxRecDepth 100000 in
theorem growNil_any (n : Nat) (w : World) (hn : n ≤ 1000000000) : Calls Try.prog 49 #[.slice none 0 0, .int .i64 (n : Int)] w (MadeB w []) := by
  have hnil := OwnB.nil w w.heap.size
  have hfit : ([] : List UInt8).length + n ≤ 140737488355328 := by simp; omega
  by_cases h0 : n = 0
  · subst h0
    go_enter Try.func49, Try.ntmps49
    go_wp2
    go_ret
    exact ⟨_, rfl, hnil, Ext.refl _⟩
  · have h1 : (0 : Int) < (n : Int) := by omega
    have h2 : ¬ ((n : Int) < 0) := by omega
    clear h0
    go_enter Try.func49, Try.ntmps49
    go_wp2_with (at_builtin; refine wpList_zerosAt rfl (.tmp 20) (.tmp 21) rfl rfl hnil n rfl hfit (Nat.le_refl _) ?_; intro v2 w2 hO2 hG2 hN2; rw [List.nil_append] at hO2; obtain ⟨g, c, hv2, hg, hc⟩ := hO2.formG (by simp; omega); rw [List.length_replicate] at hv2 hc; subst hv2; have i1 : (0 : Int) ≤ (c : Int) := by omega)
    go_ret
    exact ⟨_, rfl, hO2.cut0, (Ext.refl w).grown' hG2⟩

theorem flat_take (ls : List (List UInt8)) (i : Nat) (h : i < ls.length) : (ls.take (i + 1)).flatten = (ls.take i).flatten ++ ls.getD i [] := by
  rw [List.take_succ_eq_append_getElem h, List.flatten_append, List.getD_eq_getElem?_getD, List.getElem?_eq_getElem h]
  simp
theorem flat_take_le (ls : List (List UInt8)) (i : Nat) : (ls.take i).flatten.length ≤ ls.flatten.length := by
  conv => rhs; rw [← List.take_append_drop i ls, List.flatten_append, List.length_append]
  omega

set_option maxHeartbeats 2000000 in
set_option maxRecDepth 100000 in
theorem concat_any (A : Option Addr) (c : Nat) (ls : List (List UInt8)) (w : World) (hb : Parts w w.heap.size A ls.length ls) (hm : ls.length ≤ 1000000000) (htot : ls.flatten.length ≤ 1000000000) :
    Calls Try.prog 44 #[.slice A ls.length c] w (MadeB w ls.flatten) := by
  obtain ⟨_, hb⟩ := hb
  rcases hb with h0 | ⟨blk, off, rfl, hB, hcs⟩
  · obtain rfl := List.eq_nil_of_length_eq_zero h0
    have C := growNil_any 0 w (by omega)
    go_enter Try.func44, Try.ntmps44
    go_wp2
    go_loop [3, 11] (fun s i => s = .int .i64 0 ∧ i = .int .i64 0) (fun _ _ => 0)
    case atStart => exact ⟨rfl, rfl⟩
    case round =>
      obtain ⟨rfl, rfl⟩ := hrel
      go_wp2_with fail
      refine C.mono ?_
      rintro e w2 ⟨v2, rfl, hO2, hE2⟩
      go_wp2
      go_loopw [6, 27] (fun v i wr => i = .int .i64 0 ∧ OwnB wr w.heap.size v [] ∧ Ext w wr) (fun _ _ _ => 0)
      case atStart => exact ⟨rfl, hO2, hE2⟩
      case round =>
        obtain ⟨rfl, hO3, hE3⟩ := hrel
        go_wp2
        go_ret
        exact ⟨_, rfl, hO3, hE3⟩
  · obtain ⟨T, hT⟩ : ∃ T, T = ls.flatten.length := ⟨_, rfl⟩
    have CG := fun W => growNil_any T W (by omega)
    have HC := hide hcs
    have HT := hide htot
    have HTe := hide hT
    clear hT htot
    clear hcs
    go_enter Try.func44, Try.ntmps44
    go_wp2
    go_loop [3, 11] (fun s i => ∃ j : Nat, j ≤ ls.length ∧ i = .int .i64 (j : Int) ∧ s = .int .i64 (((ls.take j).flatten.length : Nat) : Int)) (fun _ i => ls.length - (intOf i).toNat)
    case atStart => exact ⟨0, by omega, rfl, by simp⟩
    case round =>
      obtain ⟨j, hj, rfl, rfl⟩ := hrel
      by_cases hlt : j < ls.length
      · obtain ⟨A', n', c', hc1, _, hb1⟩ := HC.out j hlt
        have hf := flat_take ls j hlt
        have hle := flat_take_le ls (j + 1)
        have hn' := hb1.1
        rw [hf, List.length_append, hn'] at hle
        have ht := HT.out
        have HF := hide hf
        obtain ⟨s, hs⟩ : ∃ s, s = (ls.take j).flatten.length := ⟨_, rfl⟩
        rw [← hs] at hle ⊢
        have hw : IntKind.i64.wrap ((s : Int) + (n' : Int)) = ((s + n' : Nat) : Int) := by rw [IntKind.wrap_i64]; omega
        have hpos : ¬ (((s + n' : Nat) : Int) < 0) := by omega
        have HS := hide hs
        have HN := hide hn'
        clear hf hb1 hs hn' ht
        go_wp2
        go_round
        case rel => exact ⟨j + 1, by omega, by go_num, by rw [HF.out, List.length_append, HN.out, ← HS.out]; go_num⟩
        case measure => simp [intOf]; omega
      · obtain rfl : j = ls.length := by omega
        rw [List.take_length, ← HTe.out]
        go_wp2_with fail
        refine (CG _).mono ?_
        rintro e w2 ⟨v2, rfl, hO2, hE2⟩
        go_wp2
        go_loopw [6, 27] (fun v i wr => ∃ j : Nat, j ≤ ls.length ∧ i = .int .i64 (j : Int) ∧ OwnB wr w.heap.size v (ls.take j).flatten ∧ Ext w wr) (fun _ i _ => ls.length - (intOf i).toNat)
        case atStart => exact ⟨0, by omega, rfl, by simpa using hO2, hE2⟩
        case round =>
          obtain ⟨j, hj, rfl, hO3, hE3⟩ := hrel
          by_cases hlt : j < ls.length
          · obtain ⟨A', n', c', hc1, _, hb1⟩ := HC.out j hlt
            have hc2 := (hE3.cell (i := off + j) hB).trans hc1
            have hb2 := hE3.bytes hb1
            have hf := flat_take ls j hlt
            have hle := flat_take_le ls (j + 1)
            rw [hf, List.length_append, hb1.1] at hle
            have HF := hide hf
            have hfit : (ls.take j).flatten.length + n' ≤ 140737488355328 := by have := HT.out; omega
            have hB3 := hE3.le
            clear hf hb1 hle hc1
            go_wp2_with (at_builtin; refine wpList_appAt rfl (.tmp 31) (.tmp 32) rfl rfl hO3 rfl hb2 hfit hB3 ?_; intro v4 w4 hO4 hG4 _)
            go_roundw
            case rel => exact ⟨j + 1, by omega, by go_num, by rw [HF.out]; exact hO4, hO3.below hE3 hG4 hB3⟩
            case measure => simp [intOf]; omega
          · obtain rfl : j = ls.length := by omega
            rw [List.take_length] at hO3
            go_wp2
            go_ret
            exact ⟨_, rfl, hO3, hE3⟩

theorem all_any (A : Option Addr) (c : Nat) (ls : List (List UInt8)) (w : World) (hb : Parts w w.heap.size A ls.length ls) (hm : ls.length ≤ 1000000000) (htot : ls.flatten.length ≤ 1000000000) :
    Calls Try.prog 30 #[.slice A ls.length c] w (MadeB w ls.flatten) := by
  have C := concat_any A c ls w hb hm htot
  clear hb
  go_enter Try.func30, Try.ntmps30
  go_wp2_with fail
  refine C.mono ?_
  rintro e w2 ⟨v2, rfl, hO2, hE2⟩
  go_wp2
  go_ret
  exact ⟨_, rfl, hO2, hE2⟩
end Go.Proofs.Ytmaddohfkfnnhaa

