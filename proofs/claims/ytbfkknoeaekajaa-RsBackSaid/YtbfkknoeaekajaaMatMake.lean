/- The document's Identity and Cauchy. -/
import Derived.Test.YtbfkknoeaekajaaMatVal
import Derived.Test.YtbfkknoeaekajaaMatMath
import Derived.Test.YtbfkknoeaekajaaGfRefInv
namespace Go.Proofs.Ytbfkknoeaekajaa
open Go.RowKit

/-- A matrix that is being made, in block g: its cells so far. -/
def Made (w : World) (base g : Nat) (r c : Int) (l : List UInt8) : Prop := ∃ v, Whole w g 42 #[.int .i64 r, .int .i64 c, v] ∧ OwnB w base v l
theorem Made.ext {w w' : World} {base g : Nat} {r c : Int} {l : List UInt8} (h : Made w base g r c l) (hE : Ext w w') : Made w' base g r c l := by
  obtain ⟨v, h1, h2⟩ := h
  exact ⟨v, h1.ext hE, h2.ext hE⟩
theorem OwnB.one {w : World} {base : Nat} {v : Value} {l : List UInt8} (h : OwnB w base v l) : v.oneCell' = true := by
  obtain ⟨A, n, c, rfl, _⟩ := h.form'
  rfl
theorem OwnB.cells1 {w : World} {base : Nat} {v : Value} {l : List UInt8} (h : OwnB w base v l) : v.cells = #[v] := by
  obtain ⟨A, n, c, rfl, _⟩ := h.form'
  rfl
theorem mat_one {r c : Int} {v : Value} (h : v.oneCell' = true) : (#[.int .i64 r, .int .i64 c, v] : Array Value).all (·.oneCell') = true := by
  simp [h]
  exact ⟨rfl, rfl⟩
theorem MadeM.zero {w w' : World} (err : Int) (hE : Ext w w') : MadeM w MV.zero err (.returned (.tuple #[.agg #[.int .i64 0, .int .i64 0, .slice none 0 0], .int .i64 err])) w' := ⟨_, rfl, OwnB.nil _ _, hE⟩

/-- The matrix that was made stands in the result. -/
theorem made_end {w wr w5 : World} {base : Nat} {r c : Int} {v : Value} {l : List UInt8} (hE : Ext w wr) (hG : wr.grownBy w5 (some w.heap.size)) (hO : OwnB wr base v l) (hb : w.heap.size + 1 ≤ base) :
    MadeM w ⟨r, c, l⟩ 0 (.returned (.tuple #[.agg #[.int .i64 r, .int .i64 c, v], .int .i64 0])) w5 := by
  have hne : v.ownBlock ≠ some w.heap.size := fun e => by
    have := (hO.lt _ e).1
    omega
  exact ⟨v, rfl, ((Mod.ofRow (ob := none) hG).own hO hne (by simp [Classical.em])).mono (by omega), Below.grown hE hG hE.le (fun k hk => by cases hk; exact Nat.le_refl _)⟩

set_option maxHeartbeats 2000000 in
set_option maxRecDepth 100000 in
theorem refIdentity_any (n : Int) (w : World) :
    Calls Try.prog 31 #[.int .i64 n] w (if 0 ≤ n ∧ n ≤ 255 then MadeM w ⟨n, n, cellsOf n.toNat Mat.one (n.toNat * n.toNat)⟩ 0 else MadeM w MV.zero 13) := by
  have hE1 := extNew w (.cells #[.int .i64 0, .int .i64 0, .slice none 0 0] 42)
  have hW1 := Whole.new w 42 #[.int .i64 0, .int .i64 0, .slice none 0 0]
  by_cases hr : 0 ≤ n ∧ n ≤ 255
  · rw [if_pos hr]
    obtain ⟨n, rfl⟩ := Int.eq_ofNat_of_zero_le hr.1
    have hn : n ≤ 255 := by omega
    rw [Int.toNat_natCast]
    have hE2 := extNew (w.alloc (.cells #[.int .i64 0, .int .i64 0, .slice none 0 0] 42)) (.cells #[.int .i64 n, .int .i64 n, .slice none 0 0] 42)
    have hW2 := Whole.new (w.alloc (.cells #[.int .i64 0, .int .i64 0, .slice none 0 0] 42)) 42 #[.int .i64 n, .int .i64 n, .slice none 0 0]
    rw [World.size_alloc] at hW2
    have hb : ¬ ((n : Int) < 0) := by omega
    have hb2 : ¬ ((255 : Int) < (n : Int)) := by omega
    have hnn : n * n ≤ 255 * 255 := Nat.mul_le_mul hn hn
    have hmul : IntKind.i64.wrap ((n : Int) * (n : Int)) = ((n * n : Nat) : Int) := by rw [IntKind.wrap_i64]; rw [← Int.natCast_mul]; omega
    clear hr
    go_enter Try.func31, Try.ntmps31
    go_wp2_with fail
    go_loopw [5] (fun i wr => ∃ j : Nat, j ≤ n * n ∧ i = .int .i64 (j : Int) ∧ Made wr (w.heap.size + 2) (w.heap.size + 1) n n (cellsOf n Mat.one j) ∧ Whole wr w.heap.size 42 #[.int .i64 0, .int .i64 0, .slice none 0 0] ∧ Ext w wr) (fun i _ => n * n - (intOf i).toNat)
    case atStart => exact ⟨0, by omega, rfl, ⟨_, hW2, OwnB.nil _ _⟩, hW1.ext hE2, hE1.trans hE2⟩
    case round =>
      obtain ⟨j, hj, rfl, ⟨v, hWv, hO⟩, hWr, hE⟩ := hrel
      by_cases hlt : j < n * n
      · have hn0 : 0 < n := by
          rcases Nat.eq_zero_or_pos n with h | h
          · rw [h] at hlt; omega
          · exact h
        have HS := hide (cellsOf_succ n Mat.one j)
        have hone : Mat.one (j / n) (j % n) = if j / n = j % n then 1 else 0 := rfl
        have hone : Mat.one (j / n) (j % n) = if j / n = j % n then 1 else 0 := rfl
        rw [hone] at HS
        have hlen := cellsOf_len n Mat.one j
        have hjb : (j : Int) ≤ 65025 := by omega
        have hfit : (cellsOf n Mat.one j).length + 1 ≤ 140737488355328 := by omega
        have e1 : ((j : Int).tdiv (n : Int)) = ((j / n : Nat) : Int) := by simp [Int.tdiv_eq_ediv_of_nonneg]
        have e2 : ((j : Int).tmod (n : Int)) = ((j % n : Nat) : Int) := by simp [Int.tmod_eq_emod_of_nonneg]
        have hnz : ((n : Int) == 0) = false := by simp; omega
        have ha : ((j / n : Nat) : Int) ≤ 65025 := by
          have := Nat.div_le_self j n
          omega
        generalize j / n = a at *
        generalize j % n = b at *
        clear hone hlen hnn
        have c2 := hWv.at 2 rfl
        by_cases hab : a = b
        · have hab' : ((a : Int) == (b : Int)) = true := by simp; omega
          rw [if_pos hab] at HS
          clear hab
          go_wp2
          go_quiet (fail)
          have hEq : Ext wr (wr.drewN nq) := (Ext.refl wr).drewN nq
          generalize wr.drewN nq = wq at hEq ⊢
          have hEw := hE.trans hEq
          have hWq := hWv.ext hEq
          have hE3 := extNew wq (.cells #[.int .u8 1] 5)
          have hb1 := bytesNew wq [1] #[.int .u8 1] 5 (0, 0) rfl 1 rfl
          have hO1 := (hO.ext hEq).ext hE3
          have hW3 := hWq.ext hE3
          have hlt2 := hWq.lt
          have hB1 : w.heap.size + 2 ≤ (wq.alloc (.cells #[.int .u8 1] 5)).heap.size := by
            have := hE3.le
            omega
          have c2 := hWq.at 2 rfl
          clear hWv hO hWq
          go_wp2_with (first
            | (at_builtin; refine wpList_appAt rfl (.tmp 32) (.tmp 34) rfl rfl hO1 rfl hb1 hfit hB1 ?_; intro v4 w4 hO4 hG4 hN4; have hne : v.ownBlock ≠ some (w.heap.size + 1) := (fun e => (by (have := (hO1.lt _ e).1; omega))); have hW4 := hW3.ownGrown hG4 hne; have o1 := hO4.one; have o2 := hO4.cells1)
            | (refine wpList_storeC rfl 35 (.tmp 36) (.tmp 35) rfl #[.int .i64 n, .int .i64 n, v4] rfl rfl hW4 (by simp) (by kernel_rfl) o1 o2 rfl ?_; intro w5 hW5 hG5))
          go_roundw
          case rel =>
            have hne4 : v4.ownBlock ≠ some (w.heap.size + 1) := fun e => by
              have := (hO4.lt _ e).1
              omega
            have hE4 : Ext w w4 := Below.grown (hEw.trans hE3) hG4 (hEw.trans hE3).le (fun k hk => by have := (hO1.lt k hk).1; omega)
            have hE5 : Ext w w5 := Below.grown hE4 hG5 hE4.le (fun k hk => by cases hk; omega)
            have hWr4 : Whole w4 w.heap.size 42 #[.int .i64 0, .int .i64 0, .slice none 0 0] := (hWr.ext (hEq.trans hE3)).ownGrown hG4 (fun e => by have := (hO1.lt _ e).1; omega)
            exact ⟨j + 1, by omega, by go_num, ⟨v4, hW5, by rw [HS.out]; exact (Mod.ofRow (ob := none) hG5).own hO4 hne4 (by simp [Classical.em])⟩, hWr4.ownGrown hG5 (by simp), hE5⟩
          case measure => simp [intOf]; omega
        · have hab' : ((a : Int) == (b : Int)) = false := by simp; omega
          rw [if_neg hab] at HS
          clear hab
          go_wp2
          go_quiet (fail)
          have hEq : Ext wr (wr.drewN nq) := (Ext.refl wr).drewN nq
          generalize wr.drewN nq = wq at hEq ⊢
          have hEw := hE.trans hEq
          have hWq := hWv.ext hEq
          have hE3 := extNew wq (.cells #[.int .u8 0] 5)
          have hb1 := bytesNew wq [0] #[.int .u8 0] 5 (0, 0) rfl 1 rfl
          have hO1 := (hO.ext hEq).ext hE3
          have hW3 := hWq.ext hE3
          have hlt2 := hWq.lt
          have hB1 : w.heap.size + 2 ≤ (wq.alloc (.cells #[.int .u8 0] 5)).heap.size := by
            have := hE3.le
            omega
          have c2 := hWq.at 2 rfl
          clear hWv hO hWq
          go_wp2_with (first
            | (at_builtin; refine wpList_appAt rfl (.tmp 32) (.tmp 34) rfl rfl hO1 rfl hb1 hfit hB1 ?_; intro v4 w4 hO4 hG4 hN4; have hne : v.ownBlock ≠ some (w.heap.size + 1) := (fun e => (by (have := (hO1.lt _ e).1; omega))); have hW4 := hW3.ownGrown hG4 hne; have o1 := hO4.one; have o2 := hO4.cells1)
            | (refine wpList_storeC rfl 35 (.tmp 36) (.tmp 35) rfl #[.int .i64 n, .int .i64 n, v4] rfl rfl hW4 (by simp) (by kernel_rfl) o1 o2 rfl ?_; intro w5 hW5 hG5))
          go_roundw
          case rel =>
            have hne4 : v4.ownBlock ≠ some (w.heap.size + 1) := fun e => by
              have := (hO4.lt _ e).1
              omega
            have hE4 : Ext w w4 := Below.grown (hEw.trans hE3) hG4 (hEw.trans hE3).le (fun k hk => by have := (hO1.lt k hk).1; omega)
            have hE5 : Ext w w5 := Below.grown hE4 hG5 hE4.le (fun k hk => by cases hk; omega)
            have hWr4 : Whole w4 w.heap.size 42 #[.int .i64 0, .int .i64 0, .slice none 0 0] := (hWr.ext (hEq.trans hE3)).ownGrown hG4 (fun e => by have := (hO1.lt _ e).1; omega)
            exact ⟨j + 1, by omega, by go_num, ⟨v4, hW5, by rw [HS.out]; exact (Mod.ofRow (ob := none) hG5).own hO4 hne4 (by simp [Classical.em])⟩, hWr4.ownGrown hG5 (by simp), hE5⟩
          case measure => simp [intOf]; omega
      · obtain rfl : j = n * n := by omega
        have o1 := hO.one
        go_wp2_with (first
          | (refine wpList_load_row rfl 42 (.tmp 4) rfl _ rfl _ _ _ _ hWv Try.underlying42 rfl mat_info ?_)
          | (refine wpList_storeW rfl 42 (.tmp 2) (.tmp 37) rfl rfl rfl hWr rfl mat_info (mat_one o1) ?_; intro w5 hW5 hG5 _))
        refine bodyPost_ret (results_mat rfl _ rfl rfl hW5 rfl) rfl ?_
        exact made_end hE hG5 hO (by omega)
  · rw [if_neg hr]
    by_cases h0 : n < 0
    · clear hr
      go_enter Try.func31, Try.ntmps31
      go_wp2
      refine bodyPost_ret (results_mat rfl _ rfl rfl hW1 rfl) rfl ?_
      exact MadeM.zero 13 hE1
    · have h1 : (255 : Int) < n := by omega
      clear hr
      go_enter Try.func31, Try.ntmps31
      go_wp2
      refine bodyPost_ret (results_mat rfl _ rfl rfl hW1 rfl) rfl ?_
      exact MadeM.zero 13 hE1
end Go.Proofs.Ytbfkknoeaekajaa
