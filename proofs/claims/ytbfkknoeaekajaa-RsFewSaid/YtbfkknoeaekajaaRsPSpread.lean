/- Contract of the program's goodOnes. Contract of the program's spread. Contract of the program's columns. -/
import Derived.Test.YtbfkknoeaekajaaRsMend
import Derived.Test.YtbfkknoeaekajaaRsPTimes
import Derived.Test.YtbfkknoeaekajaaRsMath
import Derived.Test.YtbfkknoeaekajaaMatPAdd
namespace Go.Proofs.Ytbfkknoeaekajaa
open Go.RowKit

set_option maxHeartbeats 4000000 in
set_option maxRecDepth 100000 in
theorem goodOnes_any (A1 A2 : Option Addr) (c1 c2 : Nat) (parts : List (List UInt8)) (good : List Bool) (w : World) (h1 : RowsAt w w.heap.size A1 parts.length parts) (h2 : BoolsAt w w.heap.size A2 good.length good)
    (hgl : good.length = parts.length) (hp255 : parts.length ≤ 255) :
    Calls Try.prog 46 #[.slice A1 parts.length c1, .slice A2 good.length c2] w fun e w' => ∃ u v, e = .returned (.tuple #[u, v]) ∧ OwnI w' w.heap.size u (atTo good parts.length) ∧ OwnQ w' w.heap.size v (allTo parts good parts.length) ∧ Ext w w' := by
  have HGL := hide hgl
  clear hgl
  go_enter Try.func46, Try.ntmps46
  go_wp2_with fail
  go_loopw [4, 5, 10] (fun u v x wr => ∃ j : Nat, j ≤ parts.length ∧ x = .int .i64 (j : Int) ∧ OwnQ wr w.heap.size v (allTo parts good j) ∧ OwnI wr w.heap.size u (atTo good j) ∧ Apart v u ∧ Ext w wr) (fun _ _ x _ => parts.length - (intOf x).toNat)
  case atStart => exact ⟨0, by omega, rfl, OwnQ.nil _ _, OwnI.nil _ _, apart_nil _, Ext.refl _⟩
  case round =>
    obtain ⟨j, hj, rfl, hQ, hI, hA, hE⟩ := hrel
    by_cases hlt : j < parts.length
    · rcases h1.2 with h0 | ⟨b1, o1, rfl, hb1, hc1⟩
      · omega
      rcases h2.2 with h0 | ⟨b2, o2, rfl, hb2, hc2⟩
      · have := HGL.out; omega
      obtain ⟨x, kx, hx⟩ := hc1 j hlt
      have kx' := (hE.cell (i := o1 + j) hb1).trans kx
      have kg := (hE.cell (i := o2 + j) hb2).trans (hc2 j (by have := HGL.out; omega))
      have hx' := hx.below (Below.mono hE (Nat.le_refl _))
      obtain ⟨Ax, kkx, rfl, hxk⟩ := hx'
      have hrx : RowOf wr w.heap.size (.slice Ax (parts.getD j []).length kkx) (parts.getD j []) := ⟨Ax, kkx, rfl, hxk⟩
      have hj0 : (0 : Int) ≤ (j : Int) := by omega
      have hj1 : (j : Int) < (parts.length : Int) := by omega
      have hj2 : (j : Int) < (good.length : Int) := by have := HGL.out; omega
      clear hc1 hc2 hx hxk kx
      obtain ⟨bt, hbt⟩ : ∃ bt, bt = good.getD j false := ⟨_, rfl⟩
      rw [← hbt] at kg
      cases bt
      · have HY := hide (allTo_no (parts := parts) hbt.symm)
        have HZ := hide (atTo_no hbt.symm)
        clear hbt
        generalize parts.getD j [] = lx at *
        go_wp2_with fail
        go_roundw
        case rel => exact ⟨j + 1, by omega, by go_num, by rw [HY.out]; exact hQ, by rw [HZ.out]; exact hI, hA, hE⟩
        case measure => simp [intOf]; omega
      · have HY := hide (allTo_yes (parts := parts) hbt.symm)
        have HZ := hide (atTo_yes hbt.symm)
        have hl10 : (allTo parts good j).length ≤ 1000 := by have := allTo_len parts good j; omega
        have hl11 : (atTo good j).length ≤ 1000 := by have := atTo_len good j; omega
        have hbase := hE.le
        have hEa := extNew wr (.cells #[.int .i64 (j : Int)] 3)
        have hIa := hI.ext hEa
        have hQa := hQ.ext hEa hbase
        have hba : w.heap.size ≤ (wr.alloc (.cells #[.int .i64 (j : Int)] 3)).heap.size := by rw [World.size_alloc]; omega
        generalize parts.getD j [] = lx at *
        clear hbt
        go_wp2_with (first
          | (at_builtin; refine wpList_appI' rfl (.tmp 19) (.tmp 21) rfl rfl (j : Int) hIa rfl hl11 hbase ?_; intro v4 w4 hI4 hG4 hN4; have hQ4 := hQa.kept hG4 hba (fun k hk => (hI.lt k hk).1) hA.row; have hA4 := (hA.symm.next hN4 (fun k hk => Nat.lt_succ_of_lt (hQ.lt k hk).2)).symm; have hE4 : Ext w w4 := Below.grown (hE.trans hEa) hG4 (hE.trans hEa).le (fun k hk => (hI.lt k hk).1); have hbase4 := hE4.le; have hr4 : RowOf w4 w.heap.size (.slice Ax lx.length kkx) lx := hrx.below (Below.grown (Below.mono hEa hbase) hG4 hba (fun k hk => (hI.lt k hk).1)))
          | (at_builtin; refine wpList_appQ rfl (.tmp 23) (.tmp 25) rfl rfl hQ4 hr4 rfl hl10 hbase4 ?_; intro v5 w5 hQ5 hG5 hN5))
        have hEb := extNew w4 (.cells #[.slice Ax lx.length kkx] 35)
        have hI5 := (hI4.ext hEb).kept hG5 hA4.symm.row
        have hA5 := hA4.next hN5 (fun k hk => Nat.lt_succ_of_lt (hI4.lt k hk).2)
        have hE5 : Ext w w5 := Below.grown (hE4.trans hEb) hG5 (hE4.trans hEb).le (fun k hk => (hQ4.lt k hk).1)
        go_roundw
        case rel => exact ⟨j + 1, by omega, by go_num, by rw [HY.out]; exact hQ5, by rw [HZ.out]; exact hI5, hA5, hE5⟩
        case measure => simp [intOf]; omega
    · obtain rfl : j = parts.length := by omega
      clear h1 h2
      go_wp2
      go_ret2
      exact ⟨_, _, rfl, hI, hQ, hE⟩
end Go.Proofs.Ytbfkknoeaekajaa

namespace Go.Proofs.Ytbfkknoeaekajaa
open Go.RowKit

theorem cellsOf_one {n : Nat} {l : List UInt8} (hl : l.length = n) {F : Mat.M} (hF : ∀ j, j < n → F 0 j = l.getD j 0) : cellsOf n F n = l := by
  subst hl
  apply List.ext_getElem
  · rw [cellsOf_len]
  · intro i h1 h2
    simp only [cellsOf, List.getElem_map, List.getElem_range]
    rw [Nat.div_eq_of_lt h2, Nat.mod_eq_of_lt h2, hF i h2, List.getD_eq_getElem?_getD, List.getElem?_eq_getElem h2]
    rfl
/-- All bytes of a row of the call's own are put anew. -/
theorem wpList_copyAll {o : Oper} {a : Act} {w : World} {Q : Exit → Act → World → Prop} {ops : Array Oper} {rest : List Oper} (hgd : o.guard = none) (d s : Operand) (ho : o.op = .call { callee := .builtin .copy, args := #[d, s], argTypes := #[35, 35] }) {base g n kd ks B : Nat} {A : Option Addr} {l l2 : List UInt8}
    (hd : a.eval d = .slice (some ⟨g, 0, none⟩) n kd) (hs : a.eval s = .slice A n ks) (hO : OwnB w base (.slice (some ⟨g, 0, none⟩) n kd) l) (hB : Bytes w B A n l2) (hl : l.length = n) (hnk : n ≤ kd)
    (h : ∀ w', OwnB w' base (.slice (some ⟨g, 0, none⟩) n kd) l2 → w.grownBy w' (some g) → wpList Try.prog ops Q rest (a.put o.dst (goInt n)) w') :
    wpList Try.prog ops Q (o :: rest) a w := by
  have h2 := hB.1
  have hr : rowB n (fun j => l2.getD j 0) = l2 := by
    have := rowB_of l2
    rw [h2] at this
    exact this.symm
  refine wpList_copyM (r := 1) (c := n) (i := 0) (F := fun _ j => l.getD j 0) (f := fun j => l2.getD j 0) hgd d s ho hd hs (by rw [cellsOf_one hl (fun _ _ => rfl)]; exact hO) (by rw [hr]; exact hB) (by omega) hnk (by omega) (Nat.le_refl _) (by rw [Nat.zero_mul, cutAt_0]) fun w' h3 h4 _ => h w' ?_ h4
  rw [cellsOf_one h2 (fun j hj => if_pos ⟨rfl, hj⟩)] at h3
  exact h3
theorem OwnI.notLst {w : World} {base b2 g r : Nat} {R : Nat → Value} {u : Value} {L : List Int} (h : OwnI w base u L) (hL : Lst w b2 g r R) : u.ownBlock ≠ some g := by
  intro e
  rcases h.2 with ⟨rfl, _⟩ | ⟨g1, c1, cur1, rfl, _, h1, _⟩
  · cases e
  rcases hL.2 with ⟨e2, _⟩ | ⟨g2, c2, cur2, e2, _, hg, _⟩
  · cases e2
  simp only [Value.slice.injEq, Option.some.injEq, Addr.mk.injEq, and_true] at e2
  obtain ⟨rfl, _⟩ := e2
  simp only [Value.ownBlock, Option.some.injEq] at e
  subst e
  rw [h1] at hg
  simp only [Option.some.injEq, Obj.cells.injEq] at hg
  exact absurd hg.2.1 (by decide)
theorem OwnI.notBytes {w : World} {base b2 g n k : Nat} {u : Value} {L : List Int} {l : List UInt8} (h : OwnI w base u L) (hO : OwnB w b2 (.slice (some ⟨g, 0, none⟩) n k) l) : u.ownBlock ≠ some g := by
  intro e
  rcases h.2 with ⟨rfl, _⟩ | ⟨g1, c1, cur1, rfl, _, h1, _⟩
  · cases e
  rcases hO.2 with ⟨e2, _⟩ | ⟨g2, c2, cur2, e2, _, hg, _⟩
  · cases e2
  simp only [Value.slice.injEq, Option.some.injEq, Addr.mk.injEq, and_true] at e2
  obtain ⟨rfl, _⟩ := e2
  simp only [Value.ownBlock, Option.some.injEq] at e
  subst e
  rw [h1] at hg
  simp only [Option.some.injEq, Obj.cells.injEq] at hg
  exact absurd hg.2.1 (by decide)
set_option maxHeartbeats 8000000 in
set_option maxRecDepth 100000 in
theorem spread_any {k t N : Nat} {L : List Nat} {A1 A2 : Option Addr} {c1 c2 : Nat} {ch : List (List UInt8)} {w : World} (p : Plc k t L) (hk1 : 1 ≤ k) (hk : k ≤ 255) (h1 : IntsAt w w.heap.size A1 k (L.map Int.ofNat)) (h2 : RowsAt w w.heap.size A2 k ch) (hal : ∀ i, i < k → (ch.getD i []).length = N) (hN : N ≤ 1000) :
    Calls Try.prog 60 #[.int .i64 (k : Int), .slice A1 k c1, .slice A2 k c2] w fun e w' => ∃ gd u h R, e = .returned (.tuple #[.slice (some ⟨gd, 0, none⟩) k k, u]) ∧ Cut L h k ∧ h + (lostTo L k).length = k ∧ OwnI w' w.heap.size u ((lostTo L k).map Int.ofNat) ∧
      Lst w' w.heap.size gd k R ∧ RowsTo w' (gd + 1) w'.heap.size R (dataTo L ch N k) k ∧ Ext w w' := by
  obtain ⟨iR, hiR, hzR, hszR, hbyR⟩ := info_parts rw_info
  obtain ⟨iB, hiB, hzB, hszB, hbyB⟩ := info_parts byte_info
  have hi4 : k ≤ maxLen := by unfold maxLen; omega
  have hi5 : iR.bytes * k ≤ 281474976710656 := by rw [hbyR]; omega
  have hiB4 : N ≤ maxLen := by unfold maxLen; omega
  have hiB5 : iB.bytes * N ≤ 281474976710656 := by rw [hbyB]; omega
  have HAL := hide hal
  have HD := hide (show ∀ j, j < k → (dataTo L ch N k).getD j [] = if j ∈ L then ch.getD (L.idxOf j) [] else List.replicate N 0 from fun j hj => dataTo_at hj)
  generalize dataTo L ch N k = out at *
  have hk0 : 0 ≤ (k : Int) := by omega
  rcases h1.2 with h0 | ⟨b1, o1, rfl, hb1, hc1⟩
  · omega
  rcases h2.2 with h0 | ⟨b2, o2, rfl, hb2, hc2⟩
  · omega
  have HC1 := hide hc1
  have HC2 := hide hc2
  clear hc1 hc2 h1 h2 hal
  go_enter Try.func60, Try.ntmps60
  go_wp2_with (at_make; refine wpList_make_full _ rfl _ _ _ rfl w.heap.size 35 iR _ 1 Try.underlying22 hiR hzR hszR _ _ _ _ k rfl rfl rfl rfl hi5 hi4 (Nat.le_refl _) ?_; intro w3 hO3 hG3)
  have hE3 : Ext w w3 := ⟨hG3.os, hG3.tape, hG3.output, hG3.size, fun b hb => hG3.block b hb (by simp)⟩
  have hL3 : Lst w3 w.heap.size w.heap.size k (fun _ => .slice none 0 0) := by
    unfold Lst
    rw [Nat.mul_one, nil_cells] at hO3
    exact hO3
  obtain ⟨gd, hgd⟩ : ∃ g, g = w.heap.size := ⟨_, rfl⟩
  have hL3' : Lst w3 w.heap.size gd k (fun _ => .slice none 0 0) := by rw [hgd]; exact hL3
  have hgd1 : w.heap.size ≤ gd := by omega
  rw [← hgd]
  clear hO3 hG3 hL3 hi4 hi5 hiR hzR hszR hbyR hgd
  have hpl := p.len
  go_loopw [7, 8, 14] (fun u y x wr => ∃ j h : Nat, j ≤ k ∧ x = .int .i64 (j : Int) ∧ y = .int .i64 (h : Int) ∧ Cut L h j ∧ h + (lostTo L j).length = j ∧ OwnI wr w.heap.size u ((lostTo L j).map Int.ofNat) ∧ (∃ R, Lst wr w.heap.size gd k R ∧ RowsTo wr (gd + 1) wr.heap.size R out j ∧ ∀ a, a < j → Clear u (R a)) ∧ Ext w wr) (fun _ _ x _ => k - (intOf x).toNat)
  case atStart => exact ⟨0, 0, by omega, rfl, rfl, Cut.start L, rfl, OwnI.nil _ _, ⟨_, hL3', fun a ha => absurd ha (by omega), fun a ha => absurd ha (by omega)⟩, hE3⟩
  case round =>
    obtain ⟨j, h, hj, rfl, rfl, hC, hcnt, hI, ⟨R, hL, hR, hCl⟩, hE⟩ := hrel
    by_cases hlt : j < k
    · have hhj := hC.le_j p
      have hh : h < k := by omega
      obtain ⟨x0, k0, hx0⟩ := HC2.out 0 (by omega)
      obtain ⟨Ax, kx, rfl, _, _, _⟩ := hx0
      rw [HAL.out 0 (by omega), Nat.add_zero] at k0
      have k0' := (hE.cell hb2).trans k0
      have k1 := HC1.out h hh
      rw [getD_mapI (by omega)] at k1
      have hl11 : ((lostTo L j).map Int.ofNat).length ≤ 1000 := by rw [List.length_map]; omega
      have hu := hI.lt
      have hjk : (j : Int) < (k : Int) := by omega
      have hhk : (h : Int) < (k : Int) := by omega
      by_cases e : L.getD h 0 = j
      · obtain ⟨hC2, hm, hix⟩ := hC.yes p hh e
        rw [e] at k1
        have HT := hide (HD.out j hlt)
        rw [if_pos hm, hix] at HT
        have hlY := lostTo_yes hm
        have hcnt2 : h + 1 + (lostTo L (j + 1)).length = j + 1 := by rw [hlY]; omega
        obtain ⟨xh, kh, hxh⟩ := HC2.out h hh
        obtain ⟨Ah, kkh, rfl, _, _, hBh⟩ := hxh
        have hBh2 : (ch.getD h []).length = N := HAL.out h hh
        rw [hBh2] at kh hBh
        have HC2' := hide hC2
        have HLY := hide hlY
        have HCNT := hide hcnt2
        have HHO := hide hcnt
        clear e hC2 hlY hcnt2 hcnt hm hix
        go_wp2_with (first
          | (at_make; refine wpList_make_full _ rfl _ _ _ rfl w.heap.size 5 iB _ 1 Try.underlying35 hiB hzB hszB _ _ _ _ N rfl rfl rfl rfl hiB5 hiB4 hE.le ?_; intro w4 hO4 hG4; have hF4 : Ext wr w4 := ⟨hG4.os, hG4.tape, hG4.output, hG4.size, fun b hb => hG4.block b hb (by simp)⟩; obtain ⟨hc4, hf4⟩ := (hL.ext hF4).cell hlt; have hEs : Ext w (w4.setCell ⟨gd, j, none⟩ (.slice (some ⟨wr.heap.size, 0, none⟩) N N)) := (hE.trans hF4).setCell hgd1 _; have k1s := (hEs.cell (i := o1 + h) hb1).trans k1; have hGs := ((hL.ext hF4).set hlt (.slice (some ⟨wr.heap.size, 0, none⟩) N N)).2; have hIs := (hI.ext hF4).kept hGs (.inr ((hI.ext hF4).notLst (hL.ext hF4))))
          | (at_builtin; refine wpList_appI' rfl (.tmp 42) (.tmp 44) rfl rfl (j : Int) (hIs.ext (extNew _ _)) (c := 1) (by rw [World.size_setCell]; rfl) hl11 hEs.le ?_; intro v6 w6 hI6 hG6 hN6))
        have hgl := hL.lt
        obtain ⟨gt, hgt⟩ : ∃ g, g = wr.heap.size := ⟨_, rfl⟩
        have hgt1 : gd < gt := by omega
        have hO4' : OwnB w4 w.heap.size (.slice (some ⟨gt, 0, none⟩) N N) (List.replicate N 0) := by
          unfold OwnB
          rw [Nat.mul_one, zero_cells] at hO4
          rw [List.length_replicate, hgt]
          exact hO4
        rw [← hgt] at hEs k1s hGs hIs
        obtain ⟨hL5, _⟩ := (hL.ext hF4).set hlt (.slice (some ⟨gt, 0, none⟩) N N)
        have hO5 := hO4'.far (g := gd) (by simp [Value.ownBlock]; omega) j (.slice (some ⟨gt, 0, none⟩) N N)
        have hR5 : RowsTo (w4.setCell ⟨gd, j, none⟩ (.slice (some ⟨gt, 0, none⟩) N N)) (gd + 1) gt R out j := fun a ha => by
          obtain ⟨h1, h2⟩ := hR a ha
          rw [← hgt] at h1
          exact ⟨rowOf_far (h1.below (hF4.belowAt (by omega))) h2 (by omega), h2⟩
        have hClt : Clear u7 (.slice (some ⟨gt, 0, none⟩) N N) := (newX_slice (Nat.le_refl gt)).clear (fun k hk => by have := (hu k hk).2; omega)
        have hCl5 : ∀ a, a < j + 1 → Clear u7 (if a = j then .slice (some ⟨gt, 0, none⟩) N N else R a) := fun a ha => by
          by_cases e : a = j
          · rw [if_pos e]
            exact hClt
          · rw [if_neg e]
            exact hCl a (by omega)
        clear hO4 hG4 hc4 hf4 hO4' k1s
        obtain ⟨w5, hw5⟩ : ∃ W, W = w4.setCell ⟨gd, j, none⟩ (.slice (some ⟨gt, 0, none⟩) N N) := ⟨_, rfl⟩
        rw [← hgt, ← hw5]
        rw [← hw5] at hEs hIs hL5 hO5 hR5
        obtain ⟨k5, _⟩ := hL5.cell hlt
        rw [if_pos rfl] at k5
        have k6 := (hEs.cell hb2).trans kh
        have HG := hide hgt
        clear hw5 hgt hGs hF4 hR hL kh k1 k0'
        go_still_tail 8, (by kernel_rfl)
        change wpList _ _ _ _ _ w5.drew
        have hED := (Ext.refl w5).drew
        have hOd := hO5.ext hED
        have hBd := hBh.below (hEs.trans hED) (Nat.le_refl _)
        go_wp2_with (refine wpList_copyAll rfl (.tmp 34) (.tmp 38) rfl rfl rfl hOd hBd (List.length_replicate) (Nat.le_refl _) ?_; intro w7 hO7 hG7)
        have hL7 := (hL5.ext hED).mod (Mod.ofRow (ob := none) hG7) (by omega) (by simp)
        have hI7 := (hIs.ext hED).kept hG7 (.inr ((hIs.ext hED).notBytes hOd))
        have hlt7 := (hO7.lt gt rfl).2
        have hE7 : Ext w w7 := Below.grown (hEs.trans hED) hG7 (hEs.trans hED).le (fun k hk => by cases hk; omega)
        have hRd : RowsTo w7 (gd + 1) gt R out j := (hR5.ext hED (by have := (hO5.lt gt rfl).2; omega)).mid (Mod.ofRow (ob := some gd) hG7) (Nat.le_refl _) (by have := (hOd.lt gt rfl).2; omega) (by omega)
        have hR7 : RowsTo w7 (gd + 1) w7.heap.size _ out (j + 1) := (hRd.mono (Nat.le_of_lt hlt7)).put (x := .slice (some ⟨gt, 0, none⟩) N N) (by
          rw [HT.out]
          have := hO7.row
          exact this) (newX_slice (by omega))
        go_roundw
        case rel => exact ⟨j + 1, h + 1, by omega, by go_num, by go_num, HC2'.out, HCNT.out, by rw [HLY.out]; exact hI7, ⟨_, hL7, hR7, hCl5⟩, hE7⟩
        case measure => simp [intOf]; omega
      · obtain ⟨hC2, hm⟩ := hC.no p hh e
        have HT := hide (HD.out j hlt)
        rw [if_neg hm] at HT
        have hlN := lostTo_no hm
        have hcnt2 : h + (lostTo L (j + 1)).length = j + 1 := by rw [hlN, List.length_append, List.length_singleton]; omega
        have HC2' := hide hC2
        have HLN := hide hlN
        have HCNT := hide hcnt2
        have HHO := hide hcnt
        clear hC2 hlN hcnt2 hcnt hm
        generalize L.getD h 0 = q at *
        have hq : ((q : Int) == (j : Int)) = false := by simp only [beq_eq_false_iff_ne, ne_eq]; omega
        clear e
        go_wp2_with (first
          | (at_make; refine wpList_make_full _ rfl _ _ _ rfl w.heap.size 5 iB _ 1 Try.underlying35 hiB hzB hszB _ _ _ _ N rfl rfl rfl rfl hiB5 hiB4 hE.le ?_; intro w4 hO4 hG4; have hF4 : Ext wr w4 := ⟨hG4.os, hG4.tape, hG4.output, hG4.size, fun b hb => hG4.block b hb (by simp)⟩; obtain ⟨hc4, hf4⟩ := (hL.ext hF4).cell hlt; have hEs : Ext w (w4.setCell ⟨gd, j, none⟩ (.slice (some ⟨wr.heap.size, 0, none⟩) N N)) := (hE.trans hF4).setCell hgd1 _; have k1s := (hEs.cell (i := o1 + h) hb1).trans k1; have hGs := ((hL.ext hF4).set hlt (.slice (some ⟨wr.heap.size, 0, none⟩) N N)).2; have hIs := (hI.ext hF4).kept hGs (.inr ((hI.ext hF4).notLst (hL.ext hF4))))
          | (at_builtin; refine wpList_appI' rfl (.tmp 42) (.tmp 44) rfl rfl (j : Int) (hIs.ext (extNew _ _)) (c := 1) (by rw [World.size_setCell]; rfl) hl11 hEs.le ?_; intro v6 w6 hI6 hG6 hN6))
        have hgl := hL.lt
        obtain ⟨gt, hgt⟩ : ∃ g, g = wr.heap.size := ⟨_, rfl⟩
        have hgt1 : gd < gt := by omega
        have hO4' : OwnB w4 w.heap.size (.slice (some ⟨gt, 0, none⟩) N N) (List.replicate N 0) := by
          unfold OwnB
          rw [Nat.mul_one, zero_cells] at hO4
          rw [List.length_replicate, hgt]
          exact hO4
        rw [← hgt] at hEs k1s hGs hIs
        obtain ⟨hL5, _⟩ := (hL.ext hF4).set hlt (.slice (some ⟨gt, 0, none⟩) N N)
        have hO5 := hO4'.far (g := gd) (by simp [Value.ownBlock]; omega) j (.slice (some ⟨gt, 0, none⟩) N N)
        have hR5 : RowsTo (w4.setCell ⟨gd, j, none⟩ (.slice (some ⟨gt, 0, none⟩) N N)) (gd + 1) gt R out j := fun a ha => by
          obtain ⟨h1, h2⟩ := hR a ha
          rw [← hgt] at h1
          exact ⟨rowOf_far (h1.below (hF4.belowAt (by omega))) h2 (by omega), h2⟩
        have hClt : Clear u7 (.slice (some ⟨gt, 0, none⟩) N N) := (newX_slice (Nat.le_refl gt)).clear (fun k hk => by have := (hu k hk).2; omega)
        have hCl5 : ∀ a, a < j + 1 → Clear u7 (if a = j then .slice (some ⟨gt, 0, none⟩) N N else R a) := fun a ha => by
          by_cases e : a = j
          · rw [if_pos e]
            exact hClt
          · rw [if_neg e]
            exact hCl a (by omega)
        clear hO4 hG4 hc4 hf4 hO4' k1s hGs
        have hEa := extNew (w4.setCell ⟨gd, j, none⟩ (.slice (some ⟨gt, 0, none⟩) N N)) (.cells #[.int .i64 (j : Int)] 3)
        rw [← hgt] at hG6 hN6
        have hIa := hIs.ext hEa
        have hLa := hL5.ext hEa
        have hL6 := hLa.mod (Mod.ofOwn (g := gd + 1) hG6) (by omega) (hIa.notLst hLa)
        have hE6 : Ext w w6 := Below.grown (hEs.trans hEa) hG6 (hEs.trans hEa).le (fun k hk => (hu k hk).1)
        have hs4 : gt < (w4.setCell ⟨gd, j, none⟩ (.slice (some ⟨gt, 0, none⟩) N N)).heap.size := (hO5.lt gt rfl).2
        have hR5b : RowsTo (w4.setCell ⟨gd, j, none⟩ (.slice (some ⟨gt, 0, none⟩) N N)) (gd + 1) (w4.setCell ⟨gd, j, none⟩ (.slice (some ⟨gt, 0, none⟩) N N)).heap.size _ out (j + 1) := (hR5.mono (Nat.le_of_lt hs4)).put (x := .slice (some ⟨gt, 0, none⟩) N N) (by
          rw [HT.out]
          have := hO5.row
          exact this) (newX_slice (by omega))
        have hRa : RowsTo _ (gd + 1) _ _ out (j + 1) := hR5b.ext hEa (Nat.le_refl _)
        have hR6 : RowsTo w6 (gd + 1) w6.heap.size _ out (j + 1) := fun a ha => ⟨((hRa a ha).1.up hEa.le).grown (hCl5 a ha) hG6, (hRa a ha).2⟩
        have hCl6 : ∀ a, a < j + 1 → Clear v6 (if a = j then .slice (some ⟨gt, 0, none⟩) N N else R a) := fun a ha => (hCl5 a ha).later (hR5b a ha).1 (Nat.le_succ _) hN6
        have HG := hide hgt
        clear hgt hF4 hR hL k1 k0'
        go_roundw
        case rel => exact ⟨j + 1, h, by omega, by go_num, by go_num, HC2'.out, HCNT.out, by rw [HLN.out, List.map_append]; exact hI6, ⟨_, hL6, hR6, hCl6⟩, hE6⟩
        case measure => simp [intOf]; omega
    · obtain rfl : j = k := by omega
      go_wp2
      go_ret2
      exact ⟨gd, _, h, R, rfl, hC, hcnt, hI, hL, hR, hE⟩
end Go.Proofs.Ytbfkknoeaekajaa

namespace Go.Proofs.Ytbfkknoeaekajaa
open Go.RowKit

theorem cellsOf_next (c : Nat) (F : Mat.M) (i : Nat) {j : Nat} (hj : j < c) : cellsOf c F (i * c + (j + 1)) = cellsOf c F (i * c + j) ++ [F i j] := by
  have hd : (i * c + j) / c = i := by rw [Nat.mul_comm, Nat.mul_add_div (by omega), Nat.div_eq_of_lt hj, Nat.add_zero]
  have hm : (i * c + j) % c = j := by rw [Nat.mul_comm, Nat.mul_add_mod, Nat.mod_eq_of_lt hj]
  rw [← Nat.add_assoc, cellsOf_succ, hd, hm]

set_option maxHeartbeats 8000000 in
set_option maxRecDepth 100000 in
theorem columns_any (m : MV) (A1 A2 : Option Addr) (k1 c2 : Nat) (Z : List Nat) (w : World) (hm : m.may = true) (hl : m.lies w A1 k1) (h2 : IntsAt w w.heap.size A2 Z.length (Z.map Int.ofNat)) (hn : Z.length ≤ 255) (hz : ∀ b, b < Z.length → ((Z.getD b 0 : Nat) : Int) < m.c) :
    Calls Try.prog 63 #[m.arg A1 k1, .slice A2 Z.length c2] w fun e w' => ∃ v, e = .returned (matV m.r Z.length v) ∧ OwnB w' w.heap.size v (cellsOf Z.length (fun a b => m.at a (Z.getD b 0)) (m.r.toNat * Z.length)) ∧ Ext w w' := by
  obtain ⟨q1, q2, q3, q4, q5⟩ := MV.may_iff.1 hm
  have HA := hide (show ∀ i j, m.at i j = m.l.getD (i * m.c.toNat + j) 0 from fun _ _ => rfl)
  generalize m.at = f at *
  obtain ⟨h1, hml, hk1⟩ := hl
  obtain ⟨r, c, l⟩ := m
  unfold MV.arg
  dsimp only at *
  obtain ⟨r, rfl⟩ := Int.eq_ofNat_of_zero_le q1
  obtain ⟨c, rfl⟩ := Int.eq_ofNat_of_zero_le q3
  simp only [Int.toNat_natCast] at *
  have l5 : l.length = r * c := by omega
  have hr255 : r ≤ 255 := by omega
  have hc255 : c ≤ 255 := by omega
  have HL := hide l5
  have HZ := hide hz
  clear q1 q2 q3 q4 q5 l5 hm hz
  obtain ⟨n, hnZ⟩ : ∃ n, n = Z.length := ⟨_, rfl⟩
  rw [← hnZ] at h2 hn HZ ⊢
  have HF := hide (show ∀ i j, (fun a b => f a (Z.getD b 0) : Mat.M) i j = f i (Z.getD j 0) from fun _ _ => rfl)
  generalize (fun a b => f a (Z.getD b 0) : Mat.M) = F at *
  have HNZ := hide hnZ
  have hrn : r * n ≤ 255 * 255 := Nat.mul_le_mul hr255 hn
  have HRN := hide hrn
  clear hnZ hrn
  have hE3 : Ext w (((w.alloc (.cells #[.int .i64 (r : Int), .int .i64 (c : Int), .slice A1 l.length k1] 42)).alloc (.cells #[.int .i64 0, .int .i64 0, .slice none 0 0] 42)).alloc (.cells #[.int .i64 0, .int .i64 0, .slice none 0 0] 42)) := ((extNew w _).alloc _).alloc _
  have hWm := ((Whole.new w 42 #[.int .i64 (r : Int), .int .i64 (c : Int), .slice A1 l.length k1]).alloc (.cells #[.int .i64 0, .int .i64 0, .slice none 0 0] 42)).alloc (.cells #[.int .i64 0, .int .i64 0, .slice none 0 0] 42)
  have hWr := (Whole.new (w.alloc (.cells #[.int .i64 (r : Int), .int .i64 (c : Int), .slice A1 l.length k1] 42)) 42 #[.int .i64 0, .int .i64 0, .slice none 0 0]).alloc (.cells #[.int .i64 0, .int .i64 0, .slice none 0 0] 42)
  have hWg := Whole.new ((w.alloc (.cells #[.int .i64 (r : Int), .int .i64 (c : Int), .slice A1 l.length k1] 42)).alloc (.cells #[.int .i64 0, .int .i64 0, .slice none 0 0] 42)) 42 #[.int .i64 0, .int .i64 0, .slice none 0 0]
  rw [World.size_alloc] at hWr hWg
  rw [World.size_alloc] at hWg
  go_enter Try.func63, Try.ntmps63
  go_wp2_with (refine wpList_storeW rfl 42 (.tmp 5) (.tmp 13) rfl rfl rfl hWg rfl mat_info (mat_one rfl) ?_; intro w3 hW3 hG3 hS3; clear hS3; have c0 := (hWm.grown hG3 (by omega)).at 0 rfl)
  obtain ⟨gb, hgb⟩ : ∃ g, g = w.heap.size + 1 + 1 := ⟨_, rfl⟩
  have hWm3 := hWm.grown hG3 (by omega)
  have hWr3 := hWr.grown hG3 (by omega)
  have hE03 : Ext w w3 := Below.grown hE3 hG3 hE3.le (fun k hk => by cases hk; omega)
  rw [← hgb] at hW3 ⊢
  have hgb1 : w.heap.size + 1 < gb := by omega
  have hgl3 := hW3.lt
  clear hG3 hWm hWr hWg hE3 c0 hgb
  go_loopw [16] (fun x wr => ∃ i : Nat, i ≤ r ∧ x = .int .i64 (i : Int) ∧ Made wr (gb + 1) gb r n (cellsOf n F (i * n)) ∧ Whole wr w.heap.size 42 #[.int .i64 (r : Int), .int .i64 (c : Int), .slice A1 l.length k1] ∧ Whole wr (w.heap.size + 1) 42 #[.int .i64 0, .int .i64 0, .slice none 0 0] ∧ Ext w wr) (fun x _ => r - (intOf x).toNat)
  case atStart => exact ⟨0, by omega, rfl, ⟨_, hW3, by rw [Nat.zero_mul]; exact OwnB.nil _ _⟩, hWm3, hWr3, hE03⟩
  case round =>
    obtain ⟨i, hi, rfl, hMd, hWm, hWr, hE⟩ := hrel
    by_cases hlt : i < r
    · have hrow : (i + 1) * c ≤ k1 := by
        have : (i + 1) * c ≤ r * c := Nat.mul_le_mul_right _ hlt
        have := HL.out
        omega
      have CR := fun W => rsRow_any r i c k1 l.length A1 (by omega) (by omega) hrow W
      unfold matV at CR
      have hin : i * n + n ≤ 255 * 255 := by
        have : (i + 1) * n ≤ r * n := Nat.mul_le_mul_right _ hlt
        have := HRN.out
        rw [Nat.add_mul, Nat.one_mul] at *
        omega
      have HIN := hide hin
      clear hin
      obtain ⟨wa, rfl⟩ : ∃ W, W = wr := ⟨_, rfl⟩
      go_wp2_with fail
      go_loopw [21] (fun x wr => ∃ j : Nat, j ≤ n ∧ x = .int .i64 (j : Int) ∧ Made wr (gb + 1) gb r n (cellsOf n F (i * n + j)) ∧ Whole wr w.heap.size 42 #[.int .i64 (r : Int), .int .i64 (c : Int), .slice A1 l.length k1] ∧ Whole wr (w.heap.size + 1) 42 #[.int .i64 0, .int .i64 0, .slice none 0 0] ∧ Ext w wr) (fun x _ => n - (intOf x).toNat)
      case atStart => exact ⟨0, by omega, rfl, hMd, hWm, hWr, hE⟩
      case round =>
        obtain ⟨j, hj, rfl, ⟨v, hWv, hO⟩, hWm2, hWr2, hE2⟩ := hrel
        by_cases hjt : j < n
        · rcases h2.2 with h0 | ⟨b2, o2, rfl, hB2, hcell2⟩
          · omega
          have kz := (hE2.cell (i := o2 + j) hB2).trans (hcell2 j hjt)
          rw [getD_mapI (by have := HNZ.out; omega)] at kz
          have hzc := HZ.out j hjt
          have HX := hide (HF.out i j)
          have HS := hide (cellsOf_next n F i hjt)
          rw [HX.out] at HS
          have HAz := hide (HA.out i (Z.getD j 0))
          generalize Z.getD j 0 = z at *
          have hzc' : z < c := by omega
          obtain ⟨p1, p2⟩ := row_place hlt (by omega : 0 < c)
          have hll := HL.out
          rcases h1.2 with h0' | ⟨b1, o1, rfl, hB1, hcell1⟩
          · omega
          have hcut : cutAt (some ⟨b1, o1, none⟩) k1 (i * c) = some ⟨b1, o1 + i * c, none⟩ := by
            simp [cutAt, show ¬ k1 = i * c by omega, Addr.add]
          rw [hcut] at CR
          have hcl := hcell1 (i * c + z) (by omega)
          rw [← HAz.out, ← Nat.add_assoc] at hcl
          have KY := hide (show ∀ W, Ext w W → W.cell? ⟨b1, o1 + i * c + z, none⟩ = some (.int .u8 ((f i z).toNat : Int)) from fun W hX => (hX.cell hB1).trans hcl)
          have hfit : (cellsOf n F (i * n + j)).length + 1 ≤ 140737488355328 := by rw [cellsOf_len]; have := HIN.out; omega
          have hwv := hWv.lt
          obtain ⟨y, hy⟩ : ∃ y, y = f i z := ⟨_, rfl⟩
          rw [← hy] at KY HS
          have hW2v := hWv
          clear hcl hcell1 hcell2 hcut hll hy h1 h2 p1 p2
          go_wp2_with fail
          refine wp_region_T (fun W => Ext wr W) 9 12 #[false, false, false, false, false, false, false, false, false, false, false, false] (by kernel_rfl) rfl rfl (Ext.refl wr).drew ?_
          intro hS0
          refine wpAnyT_take 0 (some 25) (.pointer (some ⟨gb, 2, none⟩)) #[true, false, false, false, false, false, false, false, false, false, false, false] rfl rfl rfl (by kernel_rfl) (fun _ _ _ h => h) hS0 (by rfl) (fun W hX => by go_simp) ?_
          simp only [Act.put, List.setIfInBounds_toArray, List.set_cons_zero, List.set_cons_succ]
          refine wpAnyT_take 1 (some 26) (v) #[true, true, false, false, false, false, false, false, false, false, false, false] rfl rfl rfl (by kernel_rfl) (fun _ _ _ h => h) hS0 (by rfl) (fun W hX => by have s0 := (hWv.ext hX).at 2 (u := v) rfl; go_simp) ?_
          simp only [Act.put, List.setIfInBounds_toArray, List.set_cons_zero, List.set_cons_succ]
          refine wpAnyT_take 2 (some 27) (.agg #[.int .i64 (r : Int), .int .i64 (c : Int), .slice (some ⟨b1, o1, none⟩) l.length k1]) #[true, true, true, false, false, false, false, false, false, false, false, false] rfl rfl rfl (by kernel_rfl) (fun _ _ _ h => h) hS0 (by rfl) (fun W hX => by have s0 := (hWm2.ext hX).at 0 (u := .int .i64 (r : Int)) rfl; have s1 := (hWm2.ext hX).at 1 (u := .int .i64 (c : Int)) rfl; have s2 := (hWm2.ext hX).at 2 (u := .slice (some ⟨b1, o1, none⟩) l.length k1) rfl; go_simp) ?_
          simp only [Act.put, List.setIfInBounds_toArray, List.set_cons_zero, List.set_cons_succ]
          refine wpAnyT_take 3 (some 28) (.int .i64 (i : Int)) #[true, true, true, true, false, false, false, false, false, false, false, false] rfl rfl rfl (by kernel_rfl) (fun _ _ _ h => h) hS0 (by rfl) (fun W hX => by go_simp) ?_
          simp only [Act.put, List.setIfInBounds_toArray, List.set_cons_zero, List.set_cons_succ]
          refine wpAnyT_take 5 (some 30) (.int .i64 (z : Int)) #[true, true, true, true, false, true, false, false, false, false, false, false] rfl rfl rfl (by kernel_rfl) (fun _ _ _ h => h) hS0 (by rfl) (fun W hX => by go_simp) ?_
          simp only [Act.put, List.setIfInBounds_toArray, List.set_cons_zero, List.set_cons_succ]
          refine wpAnyT_only 4 #[true, true, true, true, true, true, false, false, false, false, false, false] (by kernel_rfl) rfl rfl (by rfl) (fun K0 hK0 => ?_)
          go_simp
          go_at_call 58
          refine (CR _).mono ?_
          rintro e w6 ⟨rfl, hE6⟩
          have hX6 := hS0.trans hE6
          refine hK0 _ _ (fun _ => hX6) ?_
          clear hK0 K0
          refine wpAnyT_take 6 (some 31) (.pointer (some ⟨b1, o1 + i * c + z, none⟩)) #[true, true, true, true, true, true, true, false, false, false, false, false] rfl rfl rfl (by kernel_rfl) (fun _ _ _ h => h) hX6 (by rfl) (fun W hX => by go_simp) ?_
          simp only [Act.put, List.setIfInBounds_toArray, List.set_cons_zero, List.set_cons_succ]
          refine wpAnyT_take 7 (some 32) (.int .u8 (y.toNat : Int)) #[true, true, true, true, true, true, true, true, false, false, false, false] rfl rfl rfl (by kernel_rfl) (fun _ _ _ h => h) hX6 (by rfl) (fun W hX => by have s0 := KY.out W (hE2.trans hX); go_simp) ?_
          simp only [Act.put, List.setIfInBounds_toArray, List.set_cons_zero, List.set_cons_succ]
          have hb1 := bytesNew w6 [y] #[.int .u8 (y.toNat : Int)] 5 (0, 0) rfl 1 rfl
          have hE7 := extNew w6 (.cells #[.int .u8 (y.toNat : Int)] 5)
          have hX7 := hX6.trans hE7
          have hO7 := hO.ext hX7
          have hB7 : gb + 1 ≤ (w6.alloc (.cells #[.int .u8 (y.toNat : Int)] 5)).heap.size := by have := hX7.le; omega
          have hW7 := hWv.ext hX7
          refine wpAnyT_only 8 #[true, true, true, true, true, true, true, true, true, false, false, false] (by kernel_rfl) rfl rfl (by rfl) (fun K1 hK1 => ?_)
          go_simp
          refine hK1 _ _ (fun _ => hX7) ?_
          clear hK1 K1
          refine wpAnyT_only 9 #[true, true, true, true, true, true, true, true, true, true, false, false] (by kernel_rfl) rfl rfl (by rfl) (fun K2 hK2 => ?_)
          refine wp_appAt (.tmp 26) (.tmp 33) rfl rfl hO7 rfl hb1 hfit hB7 ?_
          intro v4 w8 hO8 hG8 _
          have hne : v.ownBlock ≠ some gb := fun e => by have := (hO7.lt _ e).1; omega
          have hW8 := hW7.ownGrown hG8 hne
          have o1 := hO8.one
          have o2 := hO8.cells1
          refine hK2 _ _ (fun h => absurd h (by decide)) ?_
          clear hK2 K2
          refine wpAnyT_only 10 #[true, true, true, true, true, true, true, true, true, true, true, false] (by kernel_rfl) rfl rfl (by rfl) (fun K4 hK4 => ?_)
          go_simp
          refine hK4 _ _ (fun h => absurd h (by decide)) ?_
          clear hK4 K4
          refine wpAnyT_only 11 #[true, true, true, true, true, true, true, true, true, true, true, true] (by kernel_rfl) rfl rfl (by rfl) (fun K3 hK3 => ?_)
          refine wp_storeC 35 (.tmp 35) (.tmp 34) rfl #[.int .i64 (r : Int), .int .i64 (n : Int), v4] rfl rfl hW8 (by simp) (by kernel_rfl) o1 o2 rfl ?_
          intro w9 hW9 hG9
          refine hK3 _ _ (fun h => absurd h (by decide)) (wpAnyT_done (by kernel_rfl) ?_ _)
          clear hK3 K3
          have hne4 : v4.ownBlock ≠ some gb := fun e => by
            have := (hO8.lt _ e).1
            omega
          have hEx := hE2.trans hX7
          have hE8 : Ext w w8 := Below.grown hEx hG8 hEx.le (fun k hk => by have := (hO7.lt k hk).1; omega)
          have hE9 : Ext w w9 := Below.grown hE8 hG9 hE8.le (fun k hk => by cases hk; omega)
          have hO9 : OwnB w9 (gb + 1) v4 (cellsOf n F (i * n + (j + 1))) := by
            rw [HS.out]
            exact (Mod.ofRow (ob := none) hG9).own hO8 hne4 (by simp [Classical.em])
          have hWm9 := ((hWm2.ext hX7).ownGrown hG8 (fun e => by have := (hO7.lt _ e).1; omega)).grown hG9 (by omega)
          have hWr9 := ((hWr2.ext hX7).ownGrown hG8 (fun e => by have := (hO7.lt _ e).1; omega)).grown hG9 (by omega)
          clear hX6 hX7 hS0 hE6 hE7 hO hO7 hO8 hW7 hW8 hWv hW2v hWm2 hWr2
          go_wp2
          go_roundw
          case rel => exact ⟨j + 1, by omega, by go_num, ⟨v4, hW9, hO9⟩, hWm9, hWr9, hE9⟩
          case measure => simp [intOf]; omega
        · obtain rfl : j = n := by omega
          have hO2 : OwnB wr (gb + 1) v (cellsOf j F ((i + 1) * j)) := by
            rw [Nat.add_mul, Nat.one_mul]
            exact hO
          clear h1 h2
          go_wp2
          go_roundw
          case rel => exact ⟨i + 1, by omega, by go_num, ⟨v, hWv, hO2⟩, hWm2, hWr2, hE2⟩
          case measure => simp [intOf]; omega
    · obtain rfl : i = r := by omega
      obtain ⟨v, hWv, hO⟩ := hMd
      have ho1 := hO.one
      clear h1 h2
      go_wp2_with (first
        | (refine wpList_load_row rfl 42 (.tmp 5) rfl _ rfl _ _ _ _ hWv Try.underlying42 rfl mat_info ?_)
        | (refine wpList_storeW rfl 42 (.tmp 4) (.tmp 38) rfl rfl rfl hWr rfl mat_info (mat_one ho1) ?_; intro w5 hW5 hG5 _))
      refine bodyPost_ret (results_mat1 rfl _ rfl hW5 rfl) rfl ?_
      refine ⟨v, rfl, ((Mod.ofRow (ob := none) hG5).own hO (fun e => by have := (hO.lt _ e).1; omega) (by simp [Classical.em])).mono (by omega), Below.grown hE hG5 hE.le (fun k hk => by cases hk; omega)⟩
end Go.Proofs.Ytbfkknoeaekajaa
