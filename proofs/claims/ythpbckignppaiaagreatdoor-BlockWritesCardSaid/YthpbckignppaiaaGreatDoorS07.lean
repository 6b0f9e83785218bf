/- Contract of the program's merged: leaves and packages in one row. A loop over an iterator that is never left early: what comes in round k is known; the loop's own invariant tells how many rounds are over. The library's slices.Backward and slices.Chunk at rows of items: what comes, round by round. Contract of the program's pairsOf: each two items put together. Rows of rows of the program's items in the call's own memory; contract of the program's rowsOf. Contract of the program's count: from the last row back, what is taken of each row. Contracts of the program's Kraft and Cost of chapter 7. What the items of a row hold at most; pairs one by one; symbols counted one by one. Plain mathematics of chapter 7. Contract of the program's Lens: the document's lengths. -/
import Derived.Test.YthpbckignppaiaaGreatDoorS01
import Derived.Test.YthpbckignppaiaaGreatDoorS03
import Derived.Test.YthpbckignppaiaaGreatDoorS06
import Derived.Deep.QuietTactic
import Derived.BigQuiet
import Derived.RangeFuncNested
import Derived.RangeFuncBox
import Derived.RangeFuncLeaves
import Derived.OwnWalkIn
import Derived.TacticsInMore
import Derived.LoopNIn
import Derived.LoopIn
import Derived.Shelf.Abstract
namespace Go.Proofs.YthpbckignppaiaaGreatDoor
open Go.RowKit Len
theorem cmp_leaf {x y : PI} (hx : x.2 < 300) (hy : y.2 = 300) : (cmpPI x y < 0) ↔ x.1 ≤ y.1 := by
  unfold cmpPI orN
  have h1 : cmpN (x.1 : Int) (y.1 : Int) = if x.1 < y.1 then -1 else if y.1 < x.1 then 1 else 0 := by unfold cmpN; simp only [Int.ofNat_lt]
  have h2 : cmpN (x.2 : Int) (y.2 : Int) = -1 := by unfold cmpN; rw [if_pos (by omega)]
  rw [h1, h2]
  split <;> (repeat' split) <;> (try split at *) <;> simp_all <;> omega
theorem merge_put {R ls ps qs : List PI} {x y : PI} (hxy : x.1 ≤ y.1) (h : R ++ mergeP (x :: ls) (y :: ps) = qs) : (R ++ [x]) ++ mergeP ls (y :: ps) = qs := by
  rw [← h, mergeP_cons, if_pos hxy]
  simp
theorem merge_pass {R ls ps qs : List PI} {y : PI} (hx : ∀ x, ls.head? = some x → ¬ x.1 ≤ y.1) (h : R ++ mergeP ls (y :: ps) = qs) : (R ++ [y]) ++ mergeP ls ps = qs := by
  rw [← h]
  cases ls with
  | nil => rw [nil_mergeP, nil_mergeP]; simp
  | cons x ls => rw [mergeP_cons, if_neg (hx x rfl)]; simp
theorem drop_cons_get {L : List PI} {d : Nat} (h : d < L.length) : L.drop d = L.getD d (0, 0) :: L.drop (d + 1) := by
  rw [List.drop_eq_getElem_cons h]
  congr 1
  simp [List.getD_eq_getElem?_getD, h]
theorem wpList_makePI {ops : Array Oper} {rest : List Oper} {o : Oper} {a : Act} {Q : Exit → Act → World → Prop} {w : World} (hgd : o.guard = none) (c : Operand) (ho : o.op = .makeSlice 126 (.const (.int .i64 0)) c) {m : Nat} {C : Int} (hc : a.eval c = .int .i64 C) (hC : C = (m : Int)) (hm : m ≤ 1000)
    (h : ∀ w', OwnPI w' w.heap.size (.slice (some ⟨w.heap.size, 0, none⟩) 0 m) [] → Ext w w' → wpList Tryz.prog ops Q rest (a.put o.dst (.slice (some ⟨w.heap.size, 0, none⟩) 0 m)) w') : wpList Tryz.prog ops Q (o :: rest) a w := by
  obtain ⟨i, hi, hz, hsz, hby⟩ := info_parts pitem_info
  exact wpList_make_own w hgd (.const (.int .i64 0)) c 126 ho w.heap.size 121 i _ 2 Tryz.underlying126 hi hz hsz .i64 .i64 C m rfl hc hC (by rw [hby]; omega) (by unfold maxLen; omega) (Nat.le_refl _) fun w' h1 h2 => h w' h1 (Below.grown (Ext.refl w) h2 (Nat.le_refl _) fun k hk => by cases hk)
def sliceN : Value → Nat
  | .slice _ n _ => n
  | _ => 0
def LvAt (w : World) (v : Value) (n : Nat) (L : List PI) : Prop := ∃ A c, v = .slice A n c ∧ n ≤ c ∧ c ≤ maxLen ∧ PIAt w w.heap.size A n L
set_option maxHeartbeats 4000000 in
set_option maxRecDepth 100000 in
theorem merged_any {ls ps : List PI} {A1 A2 : Option Addr} {n1 n2 c1 c2 : Nat} {w : World} (hn1 : n1 ≤ 300) (hn2 : n2 ≤ 300) (hc1 : n1 ≤ c1) (hm1 : c1 ≤ maxLen) (h1 : PIAt w w.heap.size A1 n1 ls) (h2 : PIAt w w.heap.size A2 n2 ps)
    (hl : ∀ i, i < n1 → (ls.getD i (0, 0)).2 < 300) (hp : ∀ i, i < n2 → (ps.getD i (0, 0)).2 = 300) :
    Calls Tryz.prog 88 #[.slice A1 n1 c1, .slice A2 n2 c2, .func (.func 68) #[] #[]] w fun e w' => ∃ v, e = .returned v ∧ OwnPI w' w.heap.size v (mergeP ls ps) ∧ Ext w w' := by
  have HLs := hide hl
  have HPs := hide hp
  have HQl := hide (mergeP_len ls ps)
  have HQ0 := hide (show [] ++ mergeP (ls.drop 0) (ps.drop 0) = mergeP ls ps from rfl)
  have HP := hide h2
  obtain ⟨hln1, h1c⟩ := h1
  obtain ⟨hln2, h2c⟩ := h2
  have HL0 := hide (show LvAt w (.slice A1 n1 c1) n1 (ls.drop 0) from ⟨A1, c1, rfl, hc1, hm1, by rw [List.drop_zero]; exact ⟨hln1, h1c⟩⟩)
  have HN1 := hide hln1
  have HN2 := hide hln2
  generalize hqs : mergeP ls ps = qs at *
  clear hqs hl hp h1c h2c hln1 hln2
  unfold maxLen at hm1
  go_enter Tryz.func88, Tryz.ntmps88
  go_wp2_with (refine wpList_makePI (m := n1 + n2) rfl (.tmp 14) rfl rfl (by omega) (by omega) ?_; intro w1 hR1 hE1)
  go_loopw [0, 7, 18] (fun a r i wr => ∃ (d m k : Nat) (R : List PI), d + m = n1 ∧ k ≤ n2 ∧ i = .int .i64 (k : Int) ∧ LvAt w a m (ls.drop d) ∧ OwnPI wr w.heap.size r R ∧ R ++ mergeP (ls.drop d) (ps.drop k) = qs ∧ Ext w wr) (fun _ _ i _ => n2 - (intOf i).toNat)
  case atStart => exact ⟨0, n1, 0, [], by omega, by omega, rfl, HL0.out, hR1, HQ0.out, hE1⟩
  case round =>
    obtain ⟨d, m, k, R, hd, hk, rfl, hLv, hO, hq, hE⟩ := hrel
    have HD := hide hd
    clear hd
    by_cases hkn : k < n2
    · have HPk := hide (show (ps.getD k (0, 0)).2 = 300 from HPs.out k hkn)
      have hpk := drop_cons_get (L := ps) (d := k) (by rw [HN2.out]; exact hkn)
      have hcell : ∃ b o, A2 = some ⟨b, o, none⟩ ∧ wr.cell? ⟨b, o + k * 2, none⟩ = some (.int .u64 ((ps.getD k (0, 0)).1 : Int)) ∧ wr.cell? ⟨b, o + k * 2 + 1, none⟩ = some (.int .i64 ((ps.getD k (0, 0)).2 : Int)) := by
        rcases (HP.out.ext hE).2 with h0 | ⟨b, o, e, _, hc⟩
        · omega
        · exact ⟨b, o, e, hc k hkn⟩
      obtain ⟨b2, o2, rfl, j1, j2⟩ := hcell
      generalize ps.getD k (0, 0) = p at *
      rw [hpk] at hq
      have HQ := hide hq
      clear hq hpk
      obtain ⟨x, y⟩ := p
      dsimp only at j1 j2
      obtain ⟨wa, rfl⟩ : ∃ W, W = wr := ⟨_, rfl⟩
      go_wp2_with fail
      have hWb := Whole.new wa 121 #[.int .u64 (x : Int), .int .i64 (y : Int)]
      have hEb := extNew wa (.cells #[.int .u64 (x : Int), .int .i64 (y : Int)] 121)
      have hnb : u7.ownBlock ≠ some wa.heap.size := fun h => absurd (hO.lt _ h).2 (by omega)
      have hO2 := hO.ext hEb
      have hEw2 := hE.trans hEb
      generalize hw2 : wa.alloc (.cells #[.int .u64 (x : Int), .int .i64 (y : Int)] 121) = w2 at *
      have hbx2 : wa.heap.size < w2.heap.size := hWb.lt
      have hbxw := hE.le
      generalize wa.heap.size = bx at *
      clear hw2 j1 j2 hO
      go_loopw [0, 7] (fun a r wq => ∃ (d m : Nat) (R : List PI), d + m = n1 ∧ LvAt w a m (ls.drop d) ∧ OwnPI wq w.heap.size r R ∧ r.ownBlock ≠ some bx ∧ Whole wq bx 121 #[.int .u64 (x : Int), .int .i64 (y : Int)] ∧ R ++ mergeP (ls.drop d) ((x, y) :: ps.drop (k + 1)) = qs ∧ Ext w wq) (fun a _ _ => sliceN a)
      case atStart => exact ⟨d, m, R, HD.out, hLv, hO2, hnb, hWb, HQ.out, hEw2⟩
      case round =>
        clear HD HQ hLv hO2 hnb hWb hEw2
        obtain ⟨d, m, R, hd, hLv, hO, hnb, hWb, hq, hEw⟩ := hrel
        obtain ⟨A, c, rfl, hmc, hcm, hPA⟩ := hLv
        unfold maxLen at hcm
        have HPA := hide hPA
        have HNB := hide hnb
        have HWb := hide hWb
        clear hnb hWb
        have hRl : R.length ≤ 100000 := by
          have h1 := congrArg List.length hq
          rw [List.length_append, HQl.out, HN1.out, HN2.out] at h1
          omega
        have hbw := hEw.le
        by_cases hm0 : m = 0
        · subst hm0
          have hne : ls.drop d = [] := List.drop_eq_nil_of_le (by rw [HN1.out]; omega)
          have hq2 := merge_pass (by rw [hne]; intro x hx; cases hx) hq
          have HQ := hide hq2
          have HD := hide hd
          clear hq hne hd hPA
          have c9 := HWb.out.at 0 (u := .int .u64 (x : Int)) rfl
          have c10 := HWb.out.at 1 (u := .int .i64 (y : Int)) rfl
          obtain ⟨wb, rfl⟩ : ∃ W, W = wr := ⟨_, rfl⟩
          go_wp2_with fail
          go_quiet (fail)
          have hEq : Ext wb (wb.drewN nq) := (Ext.refl wb).drewN nq
          generalize wb.drewN nq = w3 at hEq ⊢
          have c3 := (HWb.out.ext hEq).at 0 (u := .int .u64 (x : Int)) rfl
          have c4 := (HWb.out.ext hEq).at 1 (u := .int .i64 (y : Int)) rfl
          have hO3 := hO.ext hEq
          have hX0 := hEq
          have HX := hide hX0
          have hEa := extNew w3 (.cells #[.int .u64 (x : Int), .int .i64 (y : Int)] 121)
          have hOa := hO3.ext hEa
          have hone := PIAt.one w3 (x, y)
          have hbb := Nat.le_trans hbw (hX0.trans hEa).le
          clear hX0
          go_wp2_with (at_builtin; refine wpList_appPI rfl (.tmp 42) (.tmp 44) rfl rfl hOa rfl hone hRl (by omega) hbb ?_; intro v5 w5 hO5 hG5 _)
          have hE5 : Ext w w5 := Below.grown (hEw.trans (HX.out.trans hEa)) hG5 (hEw.trans (HX.out.trans hEa)).le (fun k hk => (hO.lt k hk).1)
          go_roundw
          case rel => exact ⟨d, 0, k + 1, R ++ [(x, y)], HD.out, by omega, by go_num, ⟨_, c, rfl, hmc, by unfold maxLen; omega, HPA.out⟩, hO5, HQ.out, hE5⟩
          case measure => simp [intOf]; omega
        · have hl := drop_cons_get (L := ls) (d := d) (by rw [HN1.out]; omega)
          have hl300 : (ls.getD d (0, 0)).2 < 300 := HLs.out d (by omega)
          have hcell : ∃ b o, A = some ⟨b, o, none⟩ ∧ b < w.heap.size ∧ w.cell? ⟨b, o, none⟩ = some (.int .u64 ((ls.getD d (0, 0)).1 : Int)) ∧ w.cell? ⟨b, o + 1, none⟩ = some (.int .i64 ((ls.getD d (0, 0)).2 : Int)) := by
            rcases hPA.2 with h0 | ⟨b, o, e, hb, hc⟩
            · omega
            · have := hc 0 (by omega)
              rw [hl] at this
              exact ⟨b, o, e, hb, this.1, this.2⟩
          generalize ls.getD d (0, 0) = l at *
          obtain ⟨p, q⟩ := l
          obtain ⟨b, o, rfl, hb, i0, i1⟩ := hcell
          dsimp only at i0 i1 hl300
          have hCl : ∀ W, Ext wr W → W.cell? ⟨b, o, none⟩ = some (.int .u64 (p : Int)) ∧ W.cell? ⟨b, o + 1, none⟩ = some (.int .i64 (q : Int)) := fun W hW => ⟨((hEw.trans hW).cell hb).trans i0, ((hEw.trans hW).cell hb).trans i1⟩
          have HC := hide hCl
          have HBb := hide (fun W (hW : Ext wr W) => And.intro ((HWb.out.ext hW).at 0 (u := .int .u64 (x : Int)) rfl) ((HWb.out.ext hW).at 1 (u := .int .i64 (y : Int)) rfl))
          have hcmp := cmp_leaf (x := (p, q)) (y := (x, y)) hl300 HPk.out
          have CO := order_any (p, q) (x, y)
          dsimp only at CO
          generalize cmpPI (p, q) (x, y) = cv at *
          have hm1I : (0 : Int) < (m : Int) := by omega
          have hmd : decide ((0 : Int) < (m : Int)) = true := decide_eq_true hm1I
          have hmN : decide (0 < m) = true := decide_eq_true (by omega)
          have hPD := hPA.drop (k := 1) (by omega) hmc
          rw [List.drop_drop] at hPD
          have hRC := fun W => run_cutP W (some ⟨b, o, none⟩) m c .i64 1 (by omega) (by omega)
          rw [show (1 : Int).toNat = 1 from rfl] at hRC
          generalize cutAt (some ⟨b, o, none⟩) (c * 2) (1 * 2) = A3 at hPD hRC
          have HL := hide hl
          rw [hl] at hq
          have HQ := hide hq
          have HD := hide hd
          have HPD := hide hPD
          have HRC := hide hRC
          have HCO := hide CO
          clear hq hl hd hPA hCl i0 i1 hPD hRC CO
          obtain ⟨wb, rfl⟩ : ∃ W, W = wr := ⟨_, rfl⟩
          by_cases hle : p ≤ x
          · have hneg : cv < 0 := hcmp.2 hle
            have HLe := hide hle
            clear hcmp hle
            have hcd : decide (cv < 0) = true := decide_eq_true hneg
            go_wp2_with fail
            refine wp_region_T (fun W => Ext wb W) 11 12 #[false, false, false, false, false, false, false, false, false, false, false, false] (by kernel_rfl) rfl rfl (Ext.refl wb).drew ?_
            intro hS0
            refine wpAnyT_take 0 (some 22) (.slice (some ⟨b, o, none⟩) m c) #[true, false, false, false, false, false, false, false, false, false, false, false] rfl rfl rfl (by kernel_rfl) (fun _ _ _ h => h) hS0 (by rfl) (fun W hX => by go_simp) ?_
            simp only [Act.put, List.setIfInBounds_toArray, List.set_cons_zero, List.set_cons_succ]
            refine wpAnyT_take 1 (some 23) (.int .i64 (m : Int)) #[true, true, false, false, false, false, false, false, false, false, false, false] rfl rfl rfl (by kernel_rfl) (fun _ _ _ h => h) hS0 (by rfl) (fun W hX => by go_simp) ?_
            simp only [Act.put, List.setIfInBounds_toArray, List.set_cons_zero, List.set_cons_succ]
            refine wpAnyT_take 2 (some 24) (.bool true) #[true, true, true, false, false, false, false, false, false, false, false, false] rfl rfl rfl (by kernel_rfl) (fun _ _ _ h => h) hS0 (by rfl) (fun W hX => by go_simp) ?_
            simp only [Act.put, List.setIfInBounds_toArray, List.set_cons_zero, List.set_cons_succ]
            refine wpAnyT_take 3 (some 25) (.bool true) #[true, true, true, true, false, false, false, false, false, false, false, false] rfl rfl rfl (by kernel_rfl) (fun _ _ _ h => h) hS0 (by rfl) (fun W hX => by go_simp) ?_
            simp only [Act.put, List.setIfInBounds_toArray, List.set_cons_zero, List.set_cons_succ]
            refine wpAnyT_take 4 (some 26) (.func (.func 68) #[] #[]) #[true, true, true, true, true, false, false, false, false, false, false, false] rfl rfl rfl (by kernel_rfl) (fun _ _ _ h => h) hS0 (by rfl) (fun W hX => by go_simp) ?_
            simp only [Act.put, List.setIfInBounds_toArray, List.set_cons_zero, List.set_cons_succ]
            refine wpAnyT_take 5 (some 27) (.slice (some ⟨b, o, none⟩) m c) #[true, true, true, true, true, true, false, false, false, false, false, false] rfl rfl rfl (by kernel_rfl) (fun _ _ _ h => h) hS0 (by rfl) (fun W hX => by go_simp) ?_
            simp only [Act.put, List.setIfInBounds_toArray, List.set_cons_zero, List.set_cons_succ]
            refine wpAnyT_take 6 (some 28) (.pointer (some ⟨b, o, none⟩)) #[true, true, true, true, true, true, true, false, false, false, false, false] rfl rfl rfl (by kernel_rfl) (fun _ _ _ h => h) hS0 (by rfl) (fun W hX => by go_simp) ?_
            simp only [Act.put, List.setIfInBounds_toArray, List.set_cons_zero, List.set_cons_succ]
            refine wpAnyT_take 7 (some 29) (.agg #[.int .u64 (p : Int), .int .i64 (q : Int)]) #[true, true, true, true, true, true, true, true, false, false, false, false] rfl rfl rfl (by kernel_rfl) (fun _ _ _ h => h) hS0 (by rfl) (fun W hX => by obtain ⟨f0, f1⟩ := HC.out W hX; go_simp) ?_
            simp only [Act.put, List.setIfInBounds_toArray, List.set_cons_zero, List.set_cons_succ]
            refine wpAnyT_take 8 (some 30) (.agg #[.int .u64 (x : Int), .int .i64 (y : Int)]) #[true, true, true, true, true, true, true, true, true, false, false, false] rfl rfl rfl (by kernel_rfl) (fun _ _ _ h => h) hS0 (by rfl) (fun W hX => by obtain ⟨f0, f1⟩ := HBb.out W hX; go_simp) ?_
            simp only [Act.put, List.setIfInBounds_toArray, List.set_cons_zero, List.set_cons_succ]
            refine wpAnyT_only 9 #[true, true, true, true, true, true, true, true, true, true, false, false] (by kernel_rfl) rfl rfl (by rfl) (fun K0 hK0 => ?_)
            go_simp
            go_at_call 68
            refine (HCO.out _).mono ?_
            rintro e wc0 ⟨rfl, hC0⟩
            have hX0 := hS0.trans hC0.ext
            refine hK0 _ _ (fun _ => hX0) ?_
            clear hK0 K0 hC0
            refine wpAnyT_take 10 (some 32) (.bool true) #[true, true, true, true, true, true, true, true, true, true, true, false] rfl rfl rfl (by kernel_rfl) (fun _ _ _ h => h) hX0 (by rfl) (fun W hX => by go_simp) ?_
            simp only [Act.put, List.setIfInBounds_toArray, List.set_cons_zero, List.set_cons_succ]
            refine wpAnyT_only 11 #[true, true, true, true, true, true, true, true, true, true, true, true] (by kernel_rfl) rfl rfl (by rfl) (fun K1 hK1 => ?_)
            go_simp
            refine hK1 _ _ (fun h => absurd h (by decide)) (wpAnyT_done (by kernel_rfl) ?_ _)
            clear hK1 K1
            have hO3 := hO.ext hX0
            have HX := hide hX0
            obtain ⟨c3, c4⟩ := HC.out _ hX0
            have hRC := HRC.out
            have hEa := extNew wc0 (.cells #[.int .u64 (p : Int), .int .i64 (q : Int)] 121)
            have hOa := hO3.ext hEa
            have hone := PIAt.one wc0 (p, q)
            have hbb := Nat.le_trans hbw (hX0.trans hEa).le
            go_wp2_with (at_builtin; refine wpList_appPI rfl (.tmp 34) (.tmp 38) rfl rfl hOa rfl hone hRl (by omega) hbb ?_; intro v5 w5 hO5 hG5 hn5)
            have hE5 : Ext w w5 := Below.grown (hEw.trans (HX.out.trans hEa)) hG5 (hEw.trans (HX.out.trans hEa)).le (fun k hk => (hO.lt k hk).1)
            have hW5 := ((HWb.out.ext HX.out).ext hEa).ownGrown hG5 HNB.out
            have hbl := HWb.out.lt
            have hnb5 : v5.ownBlock ≠ some bx := by
              rcases hn5 with e | e
              · rw [e]; exact HNB.out
              · rw [e]
                intro e2
                have e3 : (wc0.alloc (.cells #[.int .u64 (p : Int), .int .i64 (q : Int)] 121)).heap.size = bx := by simpa using e2
                have e4 := (HX.out.trans hEa).le
                omega
            go_roundw
            case rel => exact ⟨d + 1, m - 1, R ++ [(p, q)], by have := HD.out; omega, ⟨A3, c - 1, rfl, by omega, by unfold maxLen; omega, HPD.out⟩, hO5, hnb5, hW5, merge_put HLe.out HQ.out, hE5⟩
            case measure => simp [sliceN]; omega
          · have hneg : ¬ cv < 0 := fun h => hle (hcmp.1 h)
            have HLe := hide hle
            clear hcmp hle
            have hcd : decide (cv < 0) = false := decide_eq_false hneg
            have hq2 := merge_pass (ls := (p, q) :: ls.drop (d + 1)) (y := (x, y)) (by intro z hz; cases hz; exact HLe.out) HQ.out
            have HQ2 := hide hq2
            clear hq2
            go_wp2_with fail
            refine wp_region_T (fun W => Ext wb W) 11 12 #[false, false, false, false, false, false, false, false, false, false, false, false] (by kernel_rfl) rfl rfl (Ext.refl wb).drew ?_
            intro hS0
            refine wpAnyT_take 0 (some 22) (.slice (some ⟨b, o, none⟩) m c) #[true, false, false, false, false, false, false, false, false, false, false, false] rfl rfl rfl (by kernel_rfl) (fun _ _ _ h => h) hS0 (by rfl) (fun W hX => by go_simp) ?_
            simp only [Act.put, List.setIfInBounds_toArray, List.set_cons_zero, List.set_cons_succ]
            refine wpAnyT_take 1 (some 23) (.int .i64 (m : Int)) #[true, true, false, false, false, false, false, false, false, false, false, false] rfl rfl rfl (by kernel_rfl) (fun _ _ _ h => h) hS0 (by rfl) (fun W hX => by go_simp) ?_
            simp only [Act.put, List.setIfInBounds_toArray, List.set_cons_zero, List.set_cons_succ]
            refine wpAnyT_take 2 (some 24) (.bool true) #[true, true, true, false, false, false, false, false, false, false, false, false] rfl rfl rfl (by kernel_rfl) (fun _ _ _ h => h) hS0 (by rfl) (fun W hX => by go_simp) ?_
            simp only [Act.put, List.setIfInBounds_toArray, List.set_cons_zero, List.set_cons_succ]
            refine wpAnyT_take 3 (some 25) (.bool true) #[true, true, true, true, false, false, false, false, false, false, false, false] rfl rfl rfl (by kernel_rfl) (fun _ _ _ h => h) hS0 (by rfl) (fun W hX => by go_simp) ?_
            simp only [Act.put, List.setIfInBounds_toArray, List.set_cons_zero, List.set_cons_succ]
            refine wpAnyT_take 4 (some 26) (.func (.func 68) #[] #[]) #[true, true, true, true, true, false, false, false, false, false, false, false] rfl rfl rfl (by kernel_rfl) (fun _ _ _ h => h) hS0 (by rfl) (fun W hX => by go_simp) ?_
            simp only [Act.put, List.setIfInBounds_toArray, List.set_cons_zero, List.set_cons_succ]
            refine wpAnyT_take 5 (some 27) (.slice (some ⟨b, o, none⟩) m c) #[true, true, true, true, true, true, false, false, false, false, false, false] rfl rfl rfl (by kernel_rfl) (fun _ _ _ h => h) hS0 (by rfl) (fun W hX => by go_simp) ?_
            simp only [Act.put, List.setIfInBounds_toArray, List.set_cons_zero, List.set_cons_succ]
            refine wpAnyT_take 6 (some 28) (.pointer (some ⟨b, o, none⟩)) #[true, true, true, true, true, true, true, false, false, false, false, false] rfl rfl rfl (by kernel_rfl) (fun _ _ _ h => h) hS0 (by rfl) (fun W hX => by go_simp) ?_
            simp only [Act.put, List.setIfInBounds_toArray, List.set_cons_zero, List.set_cons_succ]
            refine wpAnyT_take 7 (some 29) (.agg #[.int .u64 (p : Int), .int .i64 (q : Int)]) #[true, true, true, true, true, true, true, true, false, false, false, false] rfl rfl rfl (by kernel_rfl) (fun _ _ _ h => h) hS0 (by rfl) (fun W hX => by obtain ⟨f0, f1⟩ := HC.out W hX; go_simp) ?_
            simp only [Act.put, List.setIfInBounds_toArray, List.set_cons_zero, List.set_cons_succ]
            refine wpAnyT_take 8 (some 30) (.agg #[.int .u64 (x : Int), .int .i64 (y : Int)]) #[true, true, true, true, true, true, true, true, true, false, false, false] rfl rfl rfl (by kernel_rfl) (fun _ _ _ h => h) hS0 (by rfl) (fun W hX => by obtain ⟨f0, f1⟩ := HBb.out W hX; go_simp) ?_
            simp only [Act.put, List.setIfInBounds_toArray, List.set_cons_zero, List.set_cons_succ]
            refine wpAnyT_only 9 #[true, true, true, true, true, true, true, true, true, true, false, false] (by kernel_rfl) rfl rfl (by rfl) (fun K0 hK0 => ?_)
            go_simp
            go_at_call 68
            refine (HCO.out _).mono ?_
            rintro e wc0 ⟨rfl, hC0⟩
            have hX0 := hS0.trans hC0.ext
            refine hK0 _ _ (fun _ => hX0) ?_
            clear hK0 K0 hC0
            refine wpAnyT_take 10 (some 32) (.bool false) #[true, true, true, true, true, true, true, true, true, true, true, false] rfl rfl rfl (by kernel_rfl) (fun _ _ _ h => h) hX0 (by rfl) (fun W hX => by go_simp) ?_
            simp only [Act.put, List.setIfInBounds_toArray, List.set_cons_zero, List.set_cons_succ]
            refine wpAnyT_only 11 #[true, true, true, true, true, true, true, true, true, true, true, true] (by kernel_rfl) rfl rfl (by rfl) (fun K1 hK1 => ?_)
            go_simp
            refine hK1 _ _ (fun h => absurd h (by decide)) (wpAnyT_done (by kernel_rfl) ?_ _)
            clear hK1 K1
            have hO3 := hO.ext hX0
            have HX := hide hX0
            obtain ⟨c3, c4⟩ := HBb.out _ hX0
            have hX0 := HX.out
            generalize wc0 = w3 at *
            have hEa := extNew w3 (.cells #[.int .u64 (x : Int), .int .i64 (y : Int)] 121)
            have hOa := hO3.ext hEa
            have hone := PIAt.one w3 (x, y)
            have hbb := Nat.le_trans hbw (hX0.trans hEa).le
            clear hX0
            go_wp2_with (at_builtin; refine wpList_appPI rfl (.tmp 42) (.tmp 44) rfl rfl hOa rfl hone hRl (by omega) hbb ?_; intro v5 w5 hO5 hG5 _)
            have hE5 : Ext w w5 := Below.grown (hEw.trans (HX.out.trans hEa)) hG5 (hEw.trans (HX.out.trans hEa)).le (fun k hk => (hO.lt k hk).1)
            go_roundw
            case rel => exact ⟨d, m, k + 1, R ++ [(x, y)], HD.out, by omega, by go_num, ⟨_, c, rfl, hmc, by unfold maxLen; omega, HPA.out⟩, hO5, by rw [HL.out]; exact HQ2.out, hE5⟩
            case measure => simp [intOf]; omega
    · obtain rfl : n2 = k := by omega
      obtain ⟨A, c, rfl, hmc, hcm, hPA⟩ := hLv
      have hPw := hPA.ext hE
      have hd := HD.out
      have hRl : R.length ≤ 100000 := by
        have h1 := congrArg List.length hq
        rw [List.length_append, HQl.out, HN1.out, HN2.out] at h1
        omega
      have hq2 : R ++ ls.drop d = qs := by
        rw [← hq, show ps.drop n2 = [] from List.drop_eq_nil_of_le (by rw [HN2.out]; exact Nat.le_refl _), mergeP_nil]
      have HQ := hide hq2
      have hbw := hE.le
      have hm3 : m ≤ 100000 := by omega
      clear hq hq2 HD hd hPA
      go_wp2_with (at_builtin; refine wpList_appPI rfl (.tmp 47) (.tmp 48) rfl rfl hO rfl hPw hRl hm3 hbw ?_; intro v5 w5 hO5 hG5 _)
      have hE5 : Ext w w5 := Below.grown hE hG5 hE.le (fun k hk => (hO.lt k hk).1)
      rw [HQ.out] at hO5
      go_ret
      exact ⟨_, rfl, hO5, hE5⟩
end Go.Proofs.YthpbckignppaiaaGreatDoor

namespace Go.Proofs.YthpbckignppaiaaGreatDoor
open Go.RowKit
def Calm (J : Nat → World → Prop) : Prop := ∀ k W W', J k W → W.grownBy W' none → J k W'
def RGives (n : Nat) (P : Program) (g : Nat) (lb : Array Value) (encs : Nat → Array Value) (N : Nat) (I : Nat → World → Prop) (w : World) : Prop :=
  ∀ (l : Nat) (J : Nat → World → Prop) (W : World), Ext w W → (∀ k W, J k W → I k W) → Calm J →
    (∀ k W, J k W → k < N → YieldAt Fence.wide (n - 1) P l (encs k) W fun e W' => e = .returned (.bool true) ∧ J (k + 1) W') → J 0 W →
    CallsIn Fence.wide n P g (#[.func (.yield l) #[] #[]] ++ lb) W fun e W' => (∃ v, e = .returned v) ∧ J N W'
def roundEnd (B : Nat) (I : World → Prop) (W : World) : Exit → Act → World → Prop
  | .normal, _, W' => KeepsFrom B W W' ∧ I W'
  | _, _, _ => False
theorem wpIn_rangeOwn {P : Program} {g : Operand} {ps : Array Tmp} {assign body : Code} {Q : Exit → Act → World → Prop} {a : Act} {w : World} {n : Nat}
    {gf : Nat} {lb : Array Value} (hg : a.eval g = .func (.func gf) #[] lb) (eg : ∀ args w, (callFunc gf args).run P w = .ok (.enter gf args) w)
    (N : Nat) (encs : Nat → Array Value) (hps : ∀ k, (encs k).size = ps.size) (I : Nat → World → Prop) (hI : OwnFrom w.heap.size I) (h0 : I 0 w) (hseq : RGives (n - 1) P gf lb encs N I w) (a₁ : Nat → Act)
    (hassign : ∀ (l k : Nat) (W : World) (K : Act → World → Prop), K (a₁ k) W →
      assign.wpIn (Fence.wide.inRound l) (n - 1 - 1) P (Exit.then K (fun _ _ _ => False)) { tmps := (ps.zip (encs k)).foldl (fun t (p, v) => t.setIfInBounds p v) a.tmps, defers := [] } W)
    (hbody : ∀ (l k : Nat) (W : World), I k W → k < N → body.wpIn (Fence.wide.inRound l) (n - 1 - 1) P (roundEnd w.heap.size (I (k + 1)) W) (a₁ k) W)
    (hdone : ∀ (D : Nat) (W : World), w.heap.size ≤ D → I N W → W.heap[D]? = some (.deferred (some [])) → Q .normal { a with defers := { target := .collected D, args := #[] } :: a.defers } W) :
    (Code.rangeFunc g ps assign body).wpIn Fence.wide n P Q a w := by
  refine wpIn_rangeFunc ?_
  intro fn hfn
  obtain ⟨rec, hrec⟩ : ∃ rec : LoopState → Loop, rec = fun st => { state := st, pending := none, fn, tmps := a.tmps, params := ps, assign, body, defers := w.heap.size } := ⟨_, rfl⟩
  have hs1 : ((w.alloc (.deferred (some []))).alloc (.loop (rec .ready))).heap.size = w.heap.size + 2 := by simp
  have hL : ((w.alloc (.deferred (some []))).alloc (.loop (rec .ready))).heap[w.heap.size + 1]? = some (.loop (rec .ready)) := by
    have := World.alloc_heap_new (w.alloc (.deferred (some []))) (.loop (rec .ready))
    rwa [World.size_alloc] at this
  have hD : ((w.alloc (.deferred (some []))).alloc (.loop (rec .ready))).heap[w.heap.size]? = some (.deferred (some [])) := (Below.heap_alloc _ _ _ (by simp)).trans (World.alloc_heap_new w _)
  have hI1 : I 0 ((w.alloc (.deferred (some []))).alloc (.loop (rec .ready))) := hI.alloc _ (hI.alloc _ h0)
  have hE1 : Ext w ((w.alloc (.deferred (some []))).alloc (.loop (rec .ready))) := (extNew w _).alloc _
  refine ⟨w.heap.size + 1, [{ target := .collected w.heap.size, args := #[] }], (w.alloc (.deferred (some []))).alloc (.loop (rec .ready)), { target := .fn (.func gf) lb, args := #[.func (.yield (w.heap.size + 1)) #[] #[]] }, (w.alloc (.deferred (some []))).alloc (.loop (rec .ready)), gf,
    #[.func (.yield (w.heap.size + 1)) #[] #[]] ++ lb, (w.alloc (.deferred (some []))).alloc (.loop (rec .ready)), ?_, ?_, fun _ _ => trivial, ?_, (fun h => by cases h), ?_⟩
  · rw [hrec]
    exact run_enterLoop_outer _ _ _ _ _
  · simp only [resolve, hg]
    simp [go_sem]
  · simp [invoke, go_sem, eg]
  · generalize (w.alloc (.deferred (some []))).alloc (.loop (rec .ready)) = W1 at hs1 hL hD hI1 hE1
    refine (hseq (w.heap.size + 1) (fun k W => I k W ∧ W.heap[w.heap.size + 1]? = some (.loop (rec .ready)) ∧ W.heap[w.heap.size]? = some (.deferred (some []))) W1 hE1 (fun _ _ h => h.1)
      (fun k A B ⟨h1, h2, h3⟩ hG => ⟨hI k A B none h1 hG (fun r e => by cases e), (hG.block _ (Array.getElem?_eq_some_iff.1 h2).1 (by simp)).trans h2, (hG.block _ (Array.getElem?_eq_some_iff.1 h3).1 (by simp)).trans h3⟩) ?_ ⟨hI1, hL, hD⟩).mono ?_
    · rintro k W ⟨hi, hl, hd⟩ hk
      have hlt : w.heap.size + 1 < W.heap.size := (Array.getElem?_eq_some_iff.1 hl).1
      have hy := run_yield (P := P) (args := encs k) hl (by rw [hrec]; exact hps k)
      rw [hrec] at hy
      have hb := hbody (w.heap.size + 1) k _ (hI.putObj (.loop { rec .ready with state := .busy }) hi (by omega) hl rfl) hk
      refine ⟨fn, _, assign, body, hy, roundIn_of_wpIn hfn (hassign _ k W _ ⟨_, run_beginRound hl (by rw [hrec]), wpIn_mono hb ?_⟩)⟩
      have hl2 : (W.putObj (w.heap.size + 1) (.loop { rec .ready with state := .busy })).heap[w.heap.size + 1]? = some (.loop { rec .ready with state := .busy }) := World.putObj_heap_same hlt
      have hd2 : (W.putObj (w.heap.size + 1) (.loop { rec .ready with state := .busy })).heap[w.heap.size]? = some (.deferred (some [])) := (World.putObj_heap_other (by omega)).trans hd
      intro e a3 W3 hp
      cases e with
      | normal =>
        obtain ⟨hk3, hi3⟩ := hp
        have hl3 := hk3.same _ _ (by omega) hl2 rfl
        have hd3 := hk3.same _ _ (Nat.le_refl _) hd2 rfl
        have hr := run_endRound (P := P) none hl3
        refine ⟨_, _, hr, rfl, hI.putObj _ hi3 (by omega) hl3 rfl, ?_, (World.putObj_heap_other (by omega)).trans hd3⟩
        rw [World.putObj_heap_same (Array.getElem?_eq_some_iff.1 hl3).1, hrec]
        rfl
      | ret => exact hp.elim
      | exit id => exact hp.elim
      | goto t => exact hp.elim
      | panic ch => exact hp.elim
      | outgrown => exact hp.elim
    · rintro e W2 ⟨⟨v, rfl⟩, hi, hl, hd⟩
      refine ⟨none, _, ?_, hdone _ _ (Nat.le_refl _) (hI.putObj (.loop { rec .ready with state := .exhausted }) hi (by omega) hl rfl) ((World.putObj_heap_other (by omega)).trans hd)⟩
      have := run_endLoop (P := P) hl (by rw [hrec]; simp)
      rw [hrec] at this ⊢
      exact this
theorem operRound {P : Program} {o : Oper} {a : Act} {w : World} {K : Act → World → Prop} {Q : Exit → Act → World → Prop} (l n : Nat) (hd : ∀ c, o.op ≠ .defer c) (h : o.wp P a w K Q) : o.wpIn (Fence.wide.inRound l) n P a w K Q := by
  refine ⟨fun _ _ => trivial, ?_⟩
  rw [Oper.semAt_plain (Fence.wide.inRound l) a.eval o hd]
  unfold Oper.wp at h
  generalize (execOp a.eval o).run P w = r at *
  cases r with
  | ok x w' =>
    cases x with
    | value v => exact h
    | skip => exact h
    | defer d => exact h
    | enter f args => exact ⟨(fun h => by cases h), CallsIn.inRound l (callsIn_wide.2 h)⟩
    | row row args =>
      refine ⟨(fun h => by cases h), fun c cs _ => ?_⟩
      obtain ⟨v, w2, h1, h2⟩ := h c cs
      exact ⟨v, w2, h1, (stepsIn_wide (P := P)).2 h2⟩
    | _ => exact h.elim
  | halt x w' => cases x <;> first | exact h | exact h.elim
def noDefer (ops : Array Oper) : Bool := ops.all fun o => match o.op with
  | .defer _ => false
  | _ => true
theorem noDefer_at {ops : Array Oper} (h : noDefer ops = true) {i : Nat} {o : Oper} (hi : ops[i]? = some o) : ∀ c, o.op ≠ .defer c := by
  intro c hc
  have hm : o ∈ ops := Array.mem_of_getElem? hi
  have := Array.all_eq_true_iff_forall_mem.1 h o hm
  rw [hc] at this
  cases this
theorem opsRound {P : Program} {ops : Array Oper} {Q : Exit → Act → World → Prop} (l n : Nat) (hd : noDefer ops = true) (hQ : ¬ LetsOut Q) : ∀ (is : List Nat) (a : Act) (w : World), wpOps P ops Q is a w → wpOpsIn (Fence.wide.inRound l) n P ops Q is a w
  | [], _, _, h => h
  | i :: is, a, w, h => by
    unfold wpOps at h
    unfold wpOpsIn
    cases hi : ops[i]? with
    | none =>
      rw [hi] at h
      exact opsRound l n hd hQ is a w h
    | some o =>
      rw [hi] at h
      simp only at h ⊢
      split
      · rename_i hw
        rw [if_pos hw] at h
        rcases h with h | h
        · exact operRound l n (noDefer_at hd hi) (Oper.wp_mono (fun a w => opsRound l n hd hQ is a w) h)
        · exact absurd h.2 hQ
      · rename_i hw
        rw [if_neg hw] at h
        exact ⟨fun _ _ => trivial, opsRound l n hd hQ is _ w h⟩
theorem wpIn_region_T {P : Program} {ops : Array Oper} {Q : Exit → Act → World → Prop} {l k : Nat} {id : Nat} {a : Act} {w : World} (S : World → Prop) (n m : Nat) (listed : Array Bool) (hd : noDefer ops = true) (hQ : ¬ LetsOut Q) (hm : P.follows .mixedOrders = true) (hm' : ops.size = m) (hl : Array.replicate m false = listed) (hS : S w.drew)
    (h : S w.drew → wpAnyT P .any ops Q S n m listed a w.drew) : (Code.region id ops true).wpIn (Fence.wide.inRound l) k P Q a w :=
  wpIn_region_draw fun t => by
    simp only [Region.schedule, hm, Bool.true_or, if_true]
    refine opsRound l k hd hQ _ _ _ (wpAny_sound ops.size t _ a _ ?_)
    rw [hm', hl]
    exact wpAny_of_T _ _ _ _ (h hS)
end Go.Proofs.YthpbckignppaiaaGreatDoor

namespace Go.Proofs.YthpbckignppaiaaGreatDoor
open Go.RowKit Len
attribute [local go_sem] Oper.semAt_some
theorem run_midP (W : World) (b o n c : Nat) (l h : Nat) (h1 : l < h) (h2 : h ≤ c) :
    (Instr.slice 126 (.slice (some ⟨b, o, none⟩) n c) (some (.int .i64 (l : Int))) (some (.int .i64 (h : Int))) (some (.int .i64 (h : Int)))).run Tryz.prog W = .ok (.slice (some ⟨b, o + l * 2, none⟩) (h - l) (h - l)) W := by
  rw [run_slice_lhm (P := Tryz.prog) (w := W) 126 (some ⟨b, o, none⟩) n c (by kernel_rfl) .i64 .i64 .i64 (l : Int) (h : Int) (h : Int) (by omega) (by omega) (by omega) (by omega)]
  have hs : (sizeOf (Tryz.prog.elem 126)).run Tryz.prog W = .ok 2 W := by kernel_rfl
  rw [hs]
  simp [Result.andThen, sliced, show ¬ h = l by omega, Addr.add]
set_option maxHeartbeats 2000000 in
set_option maxRecDepth 100000 in
theorem backward_gives {n B g N c : Nat} {VA : Nat → Option Addr} {VN VC : Nat → Nat} {I : Nat → World → Prop} {w : World} (hn : 2 ≤ n) (hN : N ≤ 1000)
    (hI : ∀ k W, I k W → W.cell? ⟨B, 0, none⟩ = some (.slice (some ⟨g, 0, none⟩) N c) ∧ ∀ i, i < N → W.cell? ⟨g, i, none⟩ = some (.slice (VA i) (VN i) (VC i))) :
    RGives n Tryz.prog 93 #[.pointer (some ⟨B, 0, none⟩)] (fun k => #[.int .i64 ((N - 1 - k : Nat) : Int), .slice (VA (N - 1 - k)) (VN (N - 1 - k)) (VC (N - 1 - k))]) N I w := by
  intro l J W hE hJI hC hY h0
  have hb := (hI 0 W (hJI 0 W h0)).1
  have HI := hide (fun k W h => hI k W (hJI k W h))
  have HY := hide hY
  clear hI hY hC hJI
  refine callsIn_of_wp Tryz.func93 rfl trivial ?_ rfl
  simp only [Tryz.ntmps93, List.size_toArray, List.length_cons, List.length_nil, Nat.reduceAdd, Nat.reduceSub, Array.replicate_succ, Array.replicate_zero, List.push_toArray, List.append_toArray, List.nil_append, List.cons_append]
  gi_wp2
  gi_loopw [3] (fun i wr => ∃ (k : Nat) (z : Int), k ≤ N ∧ i = .int .i64 z ∧ z + k + 1 = N ∧ J k wr) (fun i _ => (intOf i + 1).toNat)
  case atStart => exact ⟨0, (N : Int) - 1, by omega, rfl, by omega, h0⟩
  case round =>
    obtain ⟨k, z, hk, rfl, hz, hJ⟩ := hrel
    by_cases hkn : k < N
    · obtain ⟨h1, h2⟩ := HI.out k wr hJ
      obtain ⟨fn, tmps, assign, body, hy, hR⟩ := HY.out k wr hJ hkn
      obtain ⟨m, hm⟩ : ∃ m, m = N - 1 - k := ⟨_, rfl⟩
      rw [← hm] at hy
      have h3 := h2 m (by omega)
      have hz2 : z = (m : Int) := by omega
      subst hz2
      have HM := hide hm
      have HZ := hide hz
      have hmN : m < N := by omega
      clear h2 hm hz
      generalize VA m = a1 at *
      generalize VN m = a2 at *
      generalize VC m = a3 at *
      gi_wp2
      refine ⟨fun _ => by omega, hR.mono ?_⟩
      rintro e W3 ⟨rfl, hJ3⟩
      gi_wp2
      go_roundw
      case rel => exact ⟨k + 1, (m : Int) - 1, by omega, by first | rfl | go_num, by have := HZ.out; omega, hJ3⟩
      case measure => simp [intOf]
    · obtain rfl : N = k := by omega
      have hz2 : z = -1 := by omega
      subst hz2
      clear hz
      gi_wp2
      go_end0
      exact ⟨⟨_, rfl⟩, hJ⟩
def chunkN (len k : Nat) : Nat := if 2 * k + 1 < len then 2 else 1
set_option maxHeartbeats 2000000 in
set_option maxRecDepth 100000 in
theorem chunk_gives {n B1 B2 g off len c : Nat} {I : Nat → World → Prop} {w : World} (hn : 2 ≤ n) (hN : len ≤ 1000) (hc : len ≤ c) (_hcm : c ≤ maxLen)
    (hI : ∀ k W, I k W → W.cell? ⟨B1, 0, none⟩ = some (.slice (some ⟨g, off, none⟩) len c) ∧ W.cell? ⟨B2, 0, none⟩ = some (.int .i64 2)) :
    RGives n Tryz.prog 105 #[.pointer (some ⟨B1, 0, none⟩), .pointer (some ⟨B2, 0, none⟩)] (fun k => #[.slice (some ⟨g, off + 2 * k * 2, none⟩) (chunkN len k) (chunkN len k)]) ((len + 1) / 2) I w := by
  unfold maxLen at _hcm
  intro l J W hE hJI hC hY h0
  have HI := hide (fun k W h => hI k W (hJI k W h))
  have HY := hide hY
  have HC := hide hC
  clear hI hY hC hJI
  refine callsIn_of_wp Tryz.func105 rfl trivial ?_ rfl
  simp only [Tryz.ntmps105, List.size_toArray, List.length_cons, List.length_nil, Nat.reduceAdd, Nat.reduceSub, Array.replicate_succ, Array.replicate_zero, List.push_toArray, List.append_toArray, List.nil_append, List.cons_append]
  gi_wp2
  gi_loopw [4] (fun i wr => ∃ (k p : Nat), i = .int .i64 (p : Int) ∧ p = 2 * k ∧ 2 * k ≤ len + 1 ∧ J k wr) (fun i _ => len + 2 - (intOf i).toNat)
  case atStart => exact ⟨0, 0, rfl, rfl, by omega, h0⟩
  case round =>
    obtain ⟨k, p, rfl, hp, hk, hJ⟩ := hrel
    have HP := hide hp
    obtain ⟨b1, b2⟩ := HI.out k wr hJ
    by_cases hkn : p < len
    · have hYk := fun W hJ => HY.out k W hJ (by omega)
      rw [← hp] at hYk
      obtain ⟨q, hq⟩ : ∃ q, q = len - p := ⟨_, rfl⟩
      obtain ⟨e, he⟩ : ∃ e, e = chunkN len k := ⟨_, rfl⟩
      have hRC := fun W => run_cutP W (some ⟨g, off, none⟩) len c .i64 (p : Int) (by omega) (by omega)
      simp only [Int.toNat_natCast] at hRC
      rw [← hq] at hRC
      generalize cutAt (some ⟨g, off, none⟩) (c * 2) (p * 2) = A3 at hRC
      generalize c - p = d at hRC
      have HRC := hide hRC
      have he2 : e = if 2 ≤ q then 2 else 1 := by
        rw [he]
        unfold chunkN
        have := HP.out
        by_cases h : 2 * k + 1 < len
        · rw [if_pos h, if_pos (by omega)]
        · rw [if_neg h, if_neg (by omega)]
      have HMin := hide (show (if (q : Int) < 2 then (q : Int) else 2) = (e : Int) by
        rw [he2]
        by_cases h : 2 ≤ q
        · rw [if_neg (by omega), if_pos h]; rfl
        · rw [if_pos (by omega), if_neg h]; omega)
      have heq : 1 ≤ e ∧ p + e ≤ len := by
        rw [he2]
        split <;> omega
      obtain ⟨he1, hpe⟩ := heq
      rw [← he] at hYk
      have HYk := hide hYk
      clear hYk
      have hRM : ∀ W, (Instr.slice 126 (.slice (some ⟨g, off, none⟩) len c) (some (.int .i64 (p : Int))) (some (.int .i64 ((p : Int) + (e : Int)))) (some (.int .i64 ((p : Int) + (e : Int))))).run Tryz.prog W = .ok (.slice (some ⟨g, off + p * 2, none⟩) e e) W := fun W => by
        have := run_midP W g off len c p (p + e) (by omega) (by omega)
        rw [Int.natCast_add, Nat.add_sub_cancel_left] at this
        exact this
      have HRM := hide hRM
      clear hRM
      clear hRC he he2 hq hp
      obtain ⟨wa, rfl⟩ : ∃ W, W = wr := ⟨_, rfl⟩
      gi_wp2
      refine wpIn_wide.2 ?_
      refine wp_region_T (fun W => W.cell? ⟨B1, 0, none⟩ = some (.slice (some ⟨g, off, none⟩) len c) ∧ W.cell? ⟨B2, 0, none⟩ = some (.int .i64 2)) 6 7 #[false, false, false, false, false, false, false] (by kernel_rfl) rfl rfl ⟨b1, b2⟩ ?_
      intro hS0
      refine wpAnyT_take 0 (some 13) (.int .i64 2) #[true, false, false, false, false, false, false] rfl rfl rfl (by kernel_rfl) (fun _ _ _ h => h) hS0 (by rfl) (fun W hX => by obtain ⟨f1, f2⟩ := hX; go_simp) ?_
      simp only [Act.put, List.setIfInBounds_toArray, List.set_cons_zero, List.set_cons_succ]
      refine wpAnyT_take 1 (some 14) (.slice (some ⟨g, off, none⟩) len c) #[true, true, false, false, false, false, false] rfl rfl rfl (by kernel_rfl) (fun _ _ _ h => h) hS0 (by rfl) (fun W hX => by obtain ⟨f1, f2⟩ := hX; go_simp) ?_
      simp only [Act.put, List.setIfInBounds_toArray, List.set_cons_zero, List.set_cons_succ]
      refine wpAnyT_take 2 (some 15) (.int .i64 (p : Int)) #[true, true, true, false, false, false, false] rfl rfl rfl (by kernel_rfl) (fun _ _ _ h => h) hS0 (by rfl) (fun W hX => by go_simp) ?_
      simp only [Act.put, List.setIfInBounds_toArray, List.set_cons_zero, List.set_cons_succ]
      refine wpAnyT_take 3 (some 16) (.slice A3 q d) #[true, true, true, true, false, false, false] rfl rfl rfl (by kernel_rfl) (fun _ _ _ h => h) hS0 (by rfl) (fun W hX => by have hr := HRC.out W; go_simp) ?_
      simp only [Act.put, List.setIfInBounds_toArray, List.set_cons_zero, List.set_cons_succ]
      refine wpAnyT_take 4 (some 17) (.int .i64 (q : Int)) #[true, true, true, true, true, false, false] rfl rfl rfl (by kernel_rfl) (fun _ _ _ h => h) hS0 (by rfl) (fun W hX => by go_simp) ?_
      simp only [Act.put, List.setIfInBounds_toArray, List.set_cons_zero, List.set_cons_succ]
      refine wpAnyT_take 5 (some 18) (.int .i64 (e : Int)) #[true, true, true, true, true, true, false] rfl rfl rfl (by kernel_rfl) (fun _ _ _ h => h) hS0 (by rfl) (fun W hX => by go_simp; first | exact HMin.out | (have h := HMin.out; split at h <;> omega)) ?_
      simp only [Act.put, List.setIfInBounds_toArray, List.set_cons_zero, List.set_cons_succ]
      refine wpAnyT_only 6 #[true, true, true, true, true, true, true] (by kernel_rfl) rfl rfl (by rfl) (fun K1 hK1 => ?_)
      go_simp
      refine hK1 _ _ (fun h => absurd h (by decide)) (wpAnyT_done (by kernel_rfl) ?_ _)
      clear hK1 K1
      have hJ3 := HC.out k wa wa.drew hJ ⟨rfl, rfl, rfl, Nat.le_refl _, fun _ _ _ => rfl⟩
      obtain ⟨d1, d2⟩ := hS0
      generalize wa.drew = w3 at hJ3 d1 d2 ⊢
      obtain ⟨fn, tmps, assign, body, hy, hR⟩ := HYk.out w3 hJ3
      have hRM := HRM.out
      clear hJ b1 b2
      gi_wp2
      refine ⟨fun _ => by omega, hR.mono ?_⟩
      rintro e4 W4 ⟨rfl, hJ4⟩
      obtain ⟨f1, f2⟩ := HI.out (k + 1) W4 hJ4
      gi_wp2
      go_roundw
      case rel => exact ⟨k + 1, p + 2, by go_num, by have := HP.out; omega, by have := HP.out; omega, hJ4⟩
      case measure => simp [intOf]; omega
    · have hpI : ¬ (p : Int) < (len : Int) := by omega
      have hkk : k = (len + 1) / 2 := by omega
      rw [hkk] at hJ
      clear hp
      gi_wp2
      go_end0
      exact ⟨⟨_, rfl⟩, hJ⟩
end Go.Proofs.YthpbckignppaiaaGreatDoor

namespace Go.Proofs.YthpbckignppaiaaGreatDoor
open Go.RowKit Go.Shelf Len
attribute [local go_sem] Oper.semAt_some
theorem wpListIn_makePI {F : Fence} {n : Nat} {ops : Array Oper} {rest : List Oper} {o : Oper} {a : Act} {Q : Exit → Act → World → Prop} {w : World} (hgd : o.guard = none) (c : Operand) (ho : o.op = .makeSlice 126 (.const (.int .i64 0)) c) {m : Nat} {C : Int} (hc : a.eval c = .int .i64 C) (hC : C = (m : Int)) (hm : m ≤ 1000)
    (h : ∀ w', OwnPI w' w.heap.size (.slice (some ⟨w.heap.size, 0, none⟩) 0 m) [] → Ext w w' → w.heap.size < w'.heap.size → wpListIn F n Tryz.prog ops Q rest (a.put o.dst (.slice (some ⟨w.heap.size, 0, none⟩) 0 m)) w') : wpListIn F n Tryz.prog ops Q (o :: rest) a w := by
  obtain ⟨i, hi, hz, hsz, hby⟩ := info_parts pitem_info
  exact wpListIn_make_own w hgd (.const (.int .i64 0)) c 126 ho w.heap.size 121 i _ 2 Tryz.underlying126 hi hz hsz .i64 .i64 C m rfl hc hC (by rw [hby]; omega) (by unfold maxLen; omega) (Nat.le_refl _) fun w' h1 h2 => h w' h1 (Below.grown (Ext.refl w) h2 (Nat.le_refl _) fun k hk => by cases hk) (h1.lt _ rfl).2
set_option maxHeartbeats 1000000 in
theorem chunk_in (n : Nat) (A : Option Addr) (m c : Nat) (w : World) :
    CallsIn Fence.wide n Tryz.prog 94 #[.slice A m c, .int .i64 2] w fun e w' => e = .returned (.func (.func 105) #[] #[.pointer (some ⟨w.heap.size, 0, none⟩), .pointer (some ⟨w.heap.size + 1, 0, none⟩)]) ∧ w' = (w.alloc (.cells #[.slice A m c] 126)).alloc (.cells #[.int .i64 2] 3) := by
  refine callsIn_of_wp Tryz.func94 rfl trivial ?_ rfl
  simp only [Tryz.ntmps94, List.size_toArray, List.length_cons, List.length_nil, Nat.reduceAdd, Nat.reduceSub, Array.replicate_succ, Array.replicate_zero, List.push_toArray, List.append_toArray, List.nil_append, List.cons_append]
  gi_wp2
  go_ret
  exact ⟨rfl, rfl⟩
structure PairsI (w : World) (s : Nat) (A : Option Addr) (len c : Nat) (L : List PI) (k : Nat) (W : World) : Prop where
  ex : ∃ v, Whole W s 126 #[v] ∧ OwnPI W w.heap.size v ((pairsP L).take k) ∧ ∀ x, v.ownBlock = some x → x < s ∨ s + 3 ≤ x
  b1 : Whole W (s + 1) 126 #[.slice A len c]
  b2 : Whole W (s + 1 + 1) 3 #[.int .i64 2]
  ext : Ext w W
theorem Whole.turn {W W' : World} {g : Nat} {t : TypeId} {cs : Array Value} {row : Option Nat} (h : Whole W g t cs) (hg : W.grownBy W' row) (hr : ∀ r, row = some r → ∃ o : Obj, W.heap[r]? = some o ∧ o.isCells = false) : Whole W' g t cs :=
  (hg.block g h.lt fun e => by
    obtain ⟨o, h1, h2⟩ := hr g e.symm
    rw [show W.heap[g]? = _ from h] at h1
    cases h1
    cases h2).trans h
theorem OwnPI.turn {W W' : World} {base : Nat} {v : Value} {L : List PI} {row : Option Nat} (h : OwnPI W base v L) (hg : W.grownBy W' row) (hr : ∀ r, row = some r → ∃ o : Obj, W.heap[r]? = some o ∧ o.isCells = false) : OwnPI W' base v L :=
  h.kept hg (by
    rcases h.2 with ⟨rfl, _⟩ | ⟨g, cap, cur, rfl, _, hgg, _⟩
    · exact .inl rfl
    · refine .inr fun e => ?_
      obtain ⟨o, h1, h2⟩ := hr g e.symm
      rw [hgg] at h1
      cases h1
      cases h2)
theorem PairsI.own {w : World} {s : Nat} {A : Option Addr} {len c B : Nat} {L : List PI} (hB : w.heap.size ≤ B) : OwnFrom B (PairsI w s A len c L) := fun k W W' row h hg hr => by
  have hr2 := fun r e => (hr r e).2
  obtain ⟨v, h1, h2, h3⟩ := h.ex
  exact ⟨⟨v, h1.turn hg hr2, h2.turn hg hr2, h3⟩, h.b1.turn hg hr2, h.b2.turn hg hr2, Below.grown h.ext hg h.ext.le fun r e => Nat.le_trans hB (hr r e).1⟩
set_option maxHeartbeats 4000000 in
set_option maxRecDepth 100000 in
theorem pairsOf_any {L : List PI} {g off len c : Nat} {w : World} (hn : len ≤ 1000) (hc : len ≤ c) (hcm : c ≤ maxLen) (h : PIAt w w.heap.size (some ⟨g, off, none⟩) len L) (hw : ∀ i, i < len → (L.getD i (0, 0)).1 < 9223372036854775808) :
    Calls Tryz.prog 87 #[.slice (some ⟨g, off, none⟩) len c] w fun e w' => ∃ v, e = .returned v ∧ OwnPI w' w.heap.size v (pairsP L) ∧ Ext w w' := by
  have HW := hide hw
  have HA := hide h
  have HC := hide hcm
  clear h hw hcm
  refine (callsIn_wide (n := 10)).1 ?_
  refine callsIn_of_wp_marks Tryz.func87 rfl trivial ?_ rfl
  simp only [Tryz.ntmps87, List.size_toArray, List.length_cons, List.length_nil, Nat.reduceAdd, Nat.reduceSub, Array.replicate_succ, Array.replicate_zero, List.push_toArray, List.append_toArray, List.nil_append, List.cons_append]
  gi_wp2_with (refine wpListIn_makePI (m := len / 2) rfl (.tmp 7) rfl rfl (by omega) (by omega) ?_; intro w1 hR1 hE1 hs1)
  refine ⟨trivial, (chunk_in _ _ _ _ _).mono ?_⟩
  rintro e w' ⟨rfl, rfl⟩
  gi_wp2
  have hI0 : PairsI w w1.heap.size (some ⟨g, off, none⟩) len c L 0 (((w1.alloc (.cells #[.slice (some ⟨w.heap.size, 0, none⟩) 0 (len / 2)] 126)).alloc (.cells #[.slice (some ⟨g, off, none⟩) len c] 126)).alloc (.cells #[.int .i64 2] 3)) := by
    refine ⟨⟨_, ((Whole.new w1 _ _).alloc _).alloc _, ((hR1.ext (extNew _ _)).ext (extNew _ _)).ext (extNew _ _), fun x hx => .inl ?_⟩, ?_, ?_, ((hE1.alloc _).alloc _).alloc _⟩
    · simp only [Value.ownBlock, Option.some.injEq] at hx
      omega
    · have := (Whole.new (w1.alloc (.cells #[.slice (some ⟨w.heap.size, 0, none⟩) 0 (len / 2)] 126)) 126 #[.slice (some ⟨g, off, none⟩) len c]).alloc (.cells #[.int .i64 2] 3)
      rwa [World.size_alloc] at this
    · have := Whole.new ((w1.alloc (.cells #[.slice (some ⟨w.heap.size, 0, none⟩) 0 (len / 2)] 126)).alloc (.cells #[.slice (some ⟨g, off, none⟩) len c] 126)) 3 #[.int .i64 2]
      rwa [World.size_alloc, World.size_alloc] at this
  have hB3 : w.heap.size ≤ (((w1.alloc (.cells #[.slice (some ⟨w.heap.size, 0, none⟩) 0 (len / 2)] 126)).alloc (.cells #[.slice (some ⟨g, off, none⟩) len c] 126)).alloc (.cells #[.int .i64 2] 3)).heap.size := hI0.ext.le
  have hs3 : w1.heap.size + 3 ≤ (((w1.alloc (.cells #[.slice (some ⟨w.heap.size, 0, none⟩) 0 (len / 2)] 126)).alloc (.cells #[.slice (some ⟨g, off, none⟩) len c] 126)).alloc (.cells #[.int .i64 2] 3)).heap.size := by simp
  generalize ((w1.alloc (.cells #[.slice (some ⟨w.heap.size, 0, none⟩) 0 (len / 2)] 126)).alloc (.cells #[.slice (some ⟨g, off, none⟩) len c] 126)).alloc (.cells #[.int .i64 2] 3) = w3 at hI0 hB3 hs3 ⊢
  have hsw := hE1.le
  clear hR1 hE1
  generalize w1.heap.size = s at *
  refine wpIn_rangeOwn (gf := 105) (lb := #[.pointer (some ⟨s + 1, 0, none⟩), .pointer (some ⟨s + 1 + 1, 0, none⟩)]) rfl (enters_of Tryz.func105 (by kernel_rfl) rfl) ((len + 1) / 2)
    (fun k => #[.slice (some ⟨g, off + 2 * k * 2, none⟩) (chunkN len k) (chunkN len k)]) (fun _ => rfl) (PairsI w s (some ⟨g, off, none⟩) len c L) (PairsI.own hB3) hI0
    (chunk_gives (by omega) hn hc HC.out fun k W h => ⟨h.b1.at 0 (u := .slice (some ⟨g, off, none⟩) len c) rfl, h.b2.at 0 (u := .int .i64 2) rfl⟩)
    (fun k => { tmps := #[.slice (some ⟨g, off, none⟩) len c, undef, .slice none 0 0, .pointer (some ⟨s, 0, none⟩), .slice (some ⟨g, off + 2 * k * 2, none⟩) (chunkN len k) (chunkN len k), .slice (some ⟨g, off, none⟩) len c, .int .i64 (len : Int), .int .i64 ((len : Int) / 2), .slice (some ⟨w.heap.size, 0, none⟩) 0 (len / 2), .slice (some ⟨g, off, none⟩) len c,
      .func (.func 105) #[] #[.pointer (some ⟨s + 1, 0, none⟩), .pointer (some ⟨s + 1 + 1, 0, none⟩)], .slice (some ⟨g, off + 2 * k * 2, none⟩) (chunkN len k) (chunkN len k), undef, undef, undef, undef, undef, undef, undef, undef, undef, undef, undef, undef, undef, undef, undef, undef, undef], defers := [] }) ?assign ?body ?done
  case assign =>
    intro l k W K hK
    generalize chunkN len k = e at *
    gi_wp2
    exact hK
  case body =>
    intro l k W hI hk
    obtain ⟨v, h1, h2, h3⟩ := hI.ex
    have c1 := h1.at 0 (u := v) rfl
    by_cases hk2 : 2 * k + 1 < len
    · have he : chunkN len k = 2 := if_pos hk2
      rw [he]
      have hcell : ∀ i, i < len → w.cell? ⟨g, off + i * 2, none⟩ = some (.int .u64 ((L.getD i (0, 0)).1 : Int)) := fun i hi => by
        rcases HA.out.2 with h0 | ⟨b, o, e, _, hc⟩
        · omega
        · simp only [Option.some.injEq, Addr.mk.injEq, and_true] at e
          obtain ⟨rfl, rfl⟩ := e
          exact (hc i hi).1
      have hgw : g < w.heap.size := World.block_lt_of_cell? w _ (hcell (2 * k) (by omega))
      have i1 := (hI.ext.cell (i := off + 2 * k * 2) hgw).trans (hcell (2 * k) (by omega))
      have i2 := (hI.ext.cell (i := off + (2 * k + 1) * 2) hgw).trans (hcell (2 * k + 1) (by omega))
      rw [show off + (2 * k + 1) * 2 = off + 2 * k * 2 + 2 by omega] at i2
      have b1 := HW.out (2 * k) (by omega)
      have b2 := HW.out (2 * k + 1) (by omega)
      have hpg := pairsP_get L k (by rw [HA.out.1]; exact hk2)
      have ht : (pairsP L).take (k + 1) = (pairsP L).take k ++ [((L.getD (2 * k) (0, 0)).1 + (L.getD (2 * k + 1) (0, 0)).1, 300)] := by
        have hl : k < (pairsP L).length := by rw [pairsP_len, HA.out.1]; omega
        rw [List.take_succ_eq_append_getElem hl, ← hpg]
        congr 2
        simp [List.getD_eq_getElem?_getD, hl]
      generalize (L.getD (2 * k) (0, 0)).1 = x at *
      generalize (L.getD (2 * k + 1) (0, 0)).1 = y at *
      have hwr : IntKind.u64.wrap ((x : Int) + (y : Int)) = ((x + y : Nat) : Int) := by
        simp [IntKind.wrap, IntKind.bits, IntKind.signed]
        omega
      have hrl : ((pairsP L).take k).length ≤ 100000 := by rw [List.length_take]; omega
      have HT := hide ht
      have H3 := hide h3
      have H1 := hide h1
      have H2 := hide h2
      have HX := hide hI
      have hlt := h1.lt
      obtain ⟨Av, cv, rfl, _, _, _⟩ := h2.form
      clear ht hpg he h1 h2 h3 hcell
      generalize (pairsP L).take k = T at *
      have hIw := hI.ext.le
      have hgW : g < W.heap.size := by omega
      have hEd : Ext W (W.alloc (.cells #[.int .u64 ((x : Int) + (y : Int)), .int .i64 300] 121)).drew := (extNew W _).drew
      have hsd : W.heap.size < (W.alloc (.cells #[.int .u64 ((x : Int) + (y : Int)), .int .i64 300] 121)).drew.heap.size := by
        show W.heap.size < (W.alloc _).heap.size
        rw [World.size_alloc]
        omega
      have hKo : KeepsOthers W (W.alloc (.cells #[.int .u64 ((x : Int) + (y : Int)), .int .i64 300] 121)).drew := (KeepsOthers.alloc W _).trans (KeepsOthers.of_grownBy (row := none) ⟨rfl, rfl, rfl, Nat.le_refl _, fun _ _ _ => rfl⟩ (fun _ _ h => by cases h))
      have hone0 : PIAt (W.alloc (.cells #[.int .u64 ((x : Int) + (y : Int)), .int .i64 300] 121)) (W.alloc (.cells #[.int .u64 ((x : Int) + (y : Int)), .int .i64 300] 121)).heap.size (some ⟨W.heap.size, 0, none⟩) 1 [(x + y, 300)] := PIAt.one W (x + y, 300)
      have hone := hone0.ext (Ext.refl _).drew
      clear hone0
      gi_wp2
      refine wpIn_region_T (fun X => Ext W X) 12 14 #[false, false, false, false, false, false, false, false, false, false, false, false, false, false] (by kernel_rfl) (fun ⟨_, _, h⟩ => h) (by kernel_rfl) rfl rfl (Ext.refl W).drew ?_
      intro hS0
      refine wpAnyT_take 0 (some 15) (.slice Av T.length cv) #[true, false, false, false, false, false, false, false, false, false, false, false, false, false] rfl rfl rfl (by kernel_rfl) (fun _ _ _ h => h) hS0 (by rfl) (fun X hX => by have f1 := (hX.cell (i := 0) hlt).trans c1; go_simp) ?_
      simp only [Act.put, List.setIfInBounds_toArray, List.set_cons_zero, List.set_cons_succ]
      refine wpAnyT_take 1 (some 16) (.slice (some ⟨g, off + 2 * k * 2, none⟩) 2 2) #[true, true, false, false, false, false, false, false, false, false, false, false, false, false] rfl rfl rfl (by kernel_rfl) (fun _ _ _ h => h) hS0 (by rfl) (fun X hX => by go_simp) ?_
      simp only [Act.put, List.setIfInBounds_toArray, List.set_cons_zero, List.set_cons_succ]
      refine wpAnyT_take 2 (some 17) (.pointer (some ⟨g, off + 2 * k * 2, none⟩)) #[true, true, true, false, false, false, false, false, false, false, false, false, false, false] rfl rfl rfl (by kernel_rfl) (fun _ _ _ h => h) hS0 (by rfl) (fun X hX => by go_simp) ?_
      simp only [Act.put, List.setIfInBounds_toArray, List.set_cons_zero, List.set_cons_succ]
      refine wpAnyT_take 3 (some 18) (.pointer (some ⟨g, off + 2 * k * 2, none⟩)) #[true, true, true, true, false, false, false, false, false, false, false, false, false, false] rfl rfl rfl (by kernel_rfl) (fun _ _ _ h => h) hS0 (by rfl) (fun X hX => by go_simp) ?_
      simp only [Act.put, List.setIfInBounds_toArray, List.set_cons_zero, List.set_cons_succ]
      refine wpAnyT_take 4 (some 19) (.int .u64 (x : Int)) #[true, true, true, true, true, false, false, false, false, false, false, false, false, false] rfl rfl rfl (by kernel_rfl) (fun _ _ _ h => h) hS0 (by rfl) (fun X hX => by have f1 := (hX.cell (i := off + 2 * k * 2) hgW).trans i1; go_simp) ?_
      simp only [Act.put, List.setIfInBounds_toArray, List.set_cons_zero, List.set_cons_succ]
      refine wpAnyT_take 5 (some 20) (.slice (some ⟨g, off + 2 * k * 2, none⟩) 2 2) #[true, true, true, true, true, true, false, false, false, false, false, false, false, false] rfl rfl rfl (by kernel_rfl) (fun _ _ _ h => h) hS0 (by rfl) (fun X hX => by go_simp) ?_
      simp only [Act.put, List.setIfInBounds_toArray, List.set_cons_zero, List.set_cons_succ]
      refine wpAnyT_take 6 (some 21) (.pointer (some ⟨g, off + 2 * k * 2 + 2, none⟩)) #[true, true, true, true, true, true, true, false, false, false, false, false, false, false] rfl rfl rfl (by kernel_rfl) (fun _ _ _ h => h) hS0 (by rfl) (fun X hX => by go_simp) ?_
      simp only [Act.put, List.setIfInBounds_toArray, List.set_cons_zero, List.set_cons_succ]
      refine wpAnyT_take 7 (some 22) (.pointer (some ⟨g, off + 2 * k * 2 + 2, none⟩)) #[true, true, true, true, true, true, true, true, false, false, false, false, false, false] rfl rfl rfl (by kernel_rfl) (fun _ _ _ h => h) hS0 (by rfl) (fun X hX => by go_simp) ?_
      simp only [Act.put, List.setIfInBounds_toArray, List.set_cons_zero, List.set_cons_succ]
      refine wpAnyT_take 8 (some 23) (.int .u64 (y : Int)) #[true, true, true, true, true, true, true, true, true, false, false, false, false, false] rfl rfl rfl (by kernel_rfl) (fun _ _ _ h => h) hS0 (by rfl) (fun X hX => by have f1 := (hX.cell (i := off + 2 * k * 2 + 2) hgW).trans i2; go_simp) ?_
      simp only [Act.put, List.setIfInBounds_toArray, List.set_cons_zero, List.set_cons_succ]
      refine wpAnyT_take 9 (some 24) (.int .u64 ((x + y : Nat) : Int)) #[true, true, true, true, true, true, true, true, true, true, false, false, false, false] rfl rfl rfl (by kernel_rfl) (fun _ _ _ h => h) hS0 (by rfl) (fun X hX => by go_simp) ?_
      simp only [Act.put, List.setIfInBounds_toArray, List.set_cons_zero, List.set_cons_succ]
      refine wpAnyT_take 10 (some 25) (.agg #[.int .u64 ((x + y : Nat) : Int), .int .i64 ((300 : Nat) : Int)]) #[true, true, true, true, true, true, true, true, true, true, true, false, false, false] rfl rfl rfl (by kernel_rfl) (fun _ _ _ h => h) hS0 (by rfl) (fun X hX => by go_simp) ?_
      simp only [Act.put, List.setIfInBounds_toArray, List.set_cons_zero, List.set_cons_succ]
      refine wpAnyT_only 11 #[true, true, true, true, true, true, true, true, true, true, true, true, false, false] (by kernel_rfl) rfl rfl (by rfl) (fun K0 hK0 => ?_)
      go_simp
      refine hK0 _ _ (fun _ => hEd) ?_
      clear hK0 K0
      generalize (W.alloc (.cells #[.int .u64 ((x : Int) + (y : Int)), .int .i64 300] 121)).drew = w5 at *
      refine wpAnyT_only 12 #[true, true, true, true, true, true, true, true, true, true, true, true, true, false] (by kernel_rfl) rfl rfl (by rfl) (fun K1 hK1 => ?_)
      refine wp_appPI (v := .slice Av T.length cv) (.tmp 15) (.tmp 26) rfl rfl (H2.out.ext hEd) rfl hone hrl (by omega) (Nat.le_trans hIw hEd.le) ?_
      intro v6 w6 hO6 hG6 hn6
      refine hK1 _ _ (fun h => absurd h (by decide)) ?_
      clear hK1 K1
      simp only [Act.put, List.setIfInBounds_toArray]
      have hne : ∀ j, s ≤ j → j < s + 3 → (Value.slice Av T.length cv).ownBlock ≠ some j := fun j h1 h2 h3 => by
        have := H3.out j h3
        omega
      have hs1w : s + 1 + 1 < W.heap.size := HX.out.b2.lt
      have hne6 : ∀ j, s ≤ j → j < s + 3 → v6.ownBlock ≠ some j := fun j h1 h2 h3 => by
        rcases hn6 with e | e
        · exact hne j h1 h2 (e ▸ h3)
        · rw [e] at h3
          simp only [Option.some.injEq] at h3
          omega
      have hW6 := (H1.out.ext hEd).ownGrown hG6 (hne s (Nat.le_refl _) (by omega))
      have hA6 := (HX.out.b1.ext hEd).ownGrown hG6 (hne (s + 1) (by omega) (by omega))
      have hB6 := (HX.out.b2.ext hEd).ownGrown hG6 (hne (s + 1 + 1) (by omega) (by omega))
      have hX6 : Ext w w6 := Below.grown (HX.out.ext.trans hEd) hG6 (HX.out.ext.trans hEd).le (fun r hr => (H2.out.lt r hr).1)
      have hK6 := hKo.trans (KeepsOthers.of_grownBy hG6 (fun j o hj ho => by
        rcases (H2.out.ext hEd).2 with ⟨h, _⟩ | ⟨g1, c1, u1, h, _, hg1, _⟩
        · rw [h] at hj; cases hj
        · rw [h] at hj
          simp only [Value.ownBlock, Option.some.injEq] at hj
          subst hj
          rw [hg1] at ho
          cases ho
          rfl))
      have d1 := hW6.at 0 (u := .slice Av T.length cv) rfl
      have d2 := hW6.frozen 0
      have HO6 := hide hO6
      have HN6 := hide hne6
      clear hne hne6 hn6
      generalize T ++ [(x + y, 300)] = T2 at *
      obtain ⟨A6, c6, rfl, _, _, _⟩ := hO6.form
      clear hO6
      refine wpAnyT_only 13 #[true, true, true, true, true, true, true, true, true, true, true, true, true, true] (by kernel_rfl) rfl rfl (by rfl) (fun K2 hK2 => ?_)
      go_simp
      refine hK2 _ _ (fun h => absurd h (by decide)) (wpAnyT_done (by kernel_rfl) ?_ _)
      clear hK2 K2
      have hG7 := grown_setCell w6 s 0 (.slice A6 T2.length c6)
      refine ⟨(hK6.trans (KeepsOthers.setCell _ _ _)).from _, ?_⟩
      refine ⟨⟨_, hW6.set 0 _, by rw [HT.out]; exact HO6.out.kept hG7 (.inr (HN6.out s (Nat.le_refl _) (by omega))), fun j hj => ?_⟩, hA6.far (by omega) _ _, hB6.far (by omega) _ _, hX6.setCell (by omega) _⟩
      rcases Nat.lt_or_ge j s with h | h
      · exact .inl h
      · refine .inr (Nat.le_of_not_lt fun h2 => HN6.out j h h2 hj)
    · have he : chunkN len k = 1 := if_neg hk2
      rw [he]
      have ht : (pairsP L).take (k + 1) = (pairsP L).take k := by
        rw [List.take_of_length_le (by rw [pairsP_len, HA.out.1]; omega), List.take_of_length_le (by rw [pairsP_len, HA.out.1]; omega)]
      have HI := hide (show PairsI w s (some ⟨g, off, none⟩) len c L (k + 1) W from ⟨⟨v, h1, by rw [ht]; exact h2, h3⟩, hI.b1, hI.b2, hI.ext⟩)
      clear ht h1 h2 h3 he
      gi_wp2
      exact ⟨KeepsFrom.refl _ _, HI.out⟩
  case done =>
    intro D W hD hI hK
    obtain ⟨v, h1, h2, h3⟩ := hI.ex
    rw [List.take_of_length_le (by rw [pairsP_len, HA.out.1]; omega)] at h2
    have c1 := h1.at 0 (u := v) rfl
    have hX := hI.ext
    have H2 := hide h2
    obtain ⟨Av, cv, rfl, _, _, _⟩ := h2.form
    clear h1 h3 h2
    gi_wp2
    refine ⟨by simp, .inl ⟨_, _, rfl, run_takeDeferred hK, ?_⟩⟩
    have hG := grownBy_putObj' W D (.deferred none)
    exact ⟨_, results_tmp rfl _ _ _, .slice Av _ cv, rfl, H2.out.turn hG (fun r e => by cases e; exact ⟨_, hK, rfl⟩), Below.grown hX hG hX.le (fun r e => by cases e; omega)⟩
end Go.Proofs.YthpbckignppaiaaGreatDoor

namespace Go.Proofs.YthpbckignppaiaaGreatDoor
open Go.RowKit Len
namespace Len
theorem mergeP_mem {ls ps : List PI} {x : PI} : x ∈ mergeP ls ps → x ∈ ls ∨ x ∈ ps := by
  match ls, ps with
  | [], ps => rw [nil_mergeP]; exact .inr
  | a :: ls, [] => rw [mergeP_nil]; exact .inl
  | a :: ls, b :: ps =>
    rw [mergeP_cons]
    split
    · intro h
      rcases List.mem_cons.1 h with e | e
      · exact .inl (by rw [e]; exact List.mem_cons_self)
      · rcases mergeP_mem e with h | h
        · exact .inl (List.mem_cons_of_mem _ h)
        · exact .inr h
    · intro h
      rcases List.mem_cons.1 h with e | e
      · exact .inr (by rw [e]; exact List.mem_cons_self)
      · rcases mergeP_mem e with h | h
        · exact .inl h
        · exact .inr (List.mem_cons_of_mem _ h)
termination_by ls.length + ps.length
theorem pairsP_mem : ∀ {l : List PI} {x : PI}, x ∈ pairsP l → x.2 = 300 ∧ ∃ a b, a ∈ l ∧ b ∈ l ∧ x.1 = a.1 + b.1
  | [], _, h => by simp [pairsP] at h
  | [_], _, h => by simp [pairsP] at h
  | a :: b :: r, x, h => by
    rw [pairsP] at h
    rcases List.mem_cons.1 h with e | e
    · rw [e]
      exact ⟨rfl, a, b, by simp, by simp, rfl⟩
    · obtain ⟨h1, c, d, hc, hd, e⟩ := pairsP_mem e
      exact ⟨h1, c, d, by simp [hc], by simp [hd], e⟩
theorem rowP_bound {lv : List PI} (h : ∀ x ∈ lv, x.1 < 4294967296) : ∀ r, ∀ x ∈ rowP lv r, x.1 < 4294967296 * 2 ^ r
  | 0, x, hx => by simpa [rowP] using h x hx
  | r + 1, x, hx => by
    rw [rowP] at hx
    have h2 : 4294967296 * 2 ^ (r + 1) = 4294967296 * 2 ^ r + 4294967296 * 2 ^ r := by rw [Nat.pow_succ]; omega
    rcases mergeP_mem hx with e | e
    · have := h x e
      have := Nat.pow_pos (a := 2) (n := r + 1) (by omega)
      have : 4294967296 * 1 ≤ 4294967296 * 2 ^ (r + 1) := Nat.mul_le_mul_left _ this
      omega
    · obtain ⟨_, a, b, ha, hb, e⟩ := pairsP_mem e
      have := rowP_bound h r a ha
      have := rowP_bound h r b hb
      omega
theorem rowP_small {lv : List PI} (h : ∀ x ∈ lv, x.1 < 4294967296) {r : Nat} (hr : r ≤ 15) : ∀ x ∈ rowP lv r, x.1 < 9223372036854775808 := fun x hx => by
  have h1 := rowP_bound h r x hx
  have h2 : 2 ^ r ≤ 2 ^ 15 := Nat.pow_le_pow_right (by omega) hr
  have : 4294967296 * 2 ^ r ≤ 4294967296 * 2 ^ 15 := Nat.mul_le_mul_left _ h2
  omega
theorem rowP_len (lv : List PI) (r : Nat) : (rowP lv (r + 1)).length = lv.length + (rowP lv r).length / 2 := by rw [rowP, mergeP_len, pairsP_len]
theorem rowP_le (lv : List PI) : ∀ r, (rowP lv r).length ≤ 2 * lv.length ∧ lv.length ≤ (rowP lv r).length
  | 0 => by rw [rowP]; omega
  | r + 1 => by
    have := rowP_le lv r
    rw [rowP_len]
    omega
end Len
def RowsP (w : World) (base : Nat) (v : Value) (R : List (List PI)) : Prop := ∃ Vs : List Value, w.ownsRow base 126 1 v R.length Vs ∧ ∀ i, i < R.length → OwnPI w 0 (Vs.getD i undef) (R.getD i [])
theorem prow_info : (Tryz.prog.info? 126).map (fun i => (i.zero, i.size, i.bytes)) = some (some (.slice none 0 0), 1, 24) := by kernel_rfl
section
variable {w w' : World} {base g : Nat} {v u : Value} {R : List (List PI)} {L : List PI} {Vs : List Value}
theorem OwnPI.notRows (h : OwnPI w base u L) {b2 n : Nat} (hY : w.ownsRow b2 126 1 v n Vs) (hg : v.ownBlock = some g) : u.ownBlock ≠ some g := by
  intro e
  rcases h.2 with ⟨rfl, _⟩ | ⟨g1, c1, cur1, rfl, _, h1, _⟩
  · cases e
  rcases hY.2 with ⟨rfl, _⟩ | ⟨g2, c2, cur2, rfl, _, h2, _⟩
  · cases hg
  simp only [Value.ownBlock, Option.some.injEq] at e hg
  subst e
  subst hg
  rw [h1] at h2
  simp only [Option.some.injEq, Obj.cells.injEq] at h2
  exact absurd h2.2.1 (by decide)
theorem RowsP.ext (h : RowsP w base v R) (hE : Ext w w') : RowsP w' base v R := by
  obtain ⟨Vs, h1, h2⟩ := h
  exact ⟨Vs, World.ownsRow.kept h1 (hE.grown none) (by cases hv : v.ownBlock <;> simp), fun i hi => (h2 i hi).ext hE⟩
theorem RowsP.lt (h : RowsP w base v R) : ∀ k, v.ownBlock = some k → base ≤ k ∧ k < w.heap.size := by
  obtain ⟨Vs, h1, _⟩ := h
  exact World.ownsRow.lt h1
theorem RowsP.form (h : RowsP w base v R) : ∃ A c, v = .slice A R.length c ∧ R.length ≤ c ∧ c ≤ maxLen ∧ (R.length = 0 ∨ ∃ g, A = some ⟨g, 0, none⟩ ∧ base ≤ g ∧ g < w.heap.size ∧ ∀ i, i < R.length → ∃ u, w.cell? ⟨g, i, none⟩ = some u ∧ OwnPI w 0 u (R.getD i [])) := by
  obtain ⟨Vs, h1, h2⟩ := h
  rcases h1.2 with ⟨rfl, h0⟩ | ⟨g, cap, cur, rfl, hb, hgg, hn, hc, hs, ht⟩
  · exact ⟨none, 0, by rw [h0], by omega, by unfold maxLen; omega, .inl h0⟩
  · refine ⟨_, cap, rfl, hn, hc, .inr ⟨g, rfl, hb, (Array.getElem?_eq_some_iff.1 hgg).1, fun i hi => ⟨_, ?_, h2 i hi⟩⟩⟩
    have := World.ownsRow.cellAt h1 i (by omega)
    have hl : i < Vs.length := by rw [h1.1]; omega
    rw [this, List.getD_eq_getElem?_getD, List.getElem?_eq_getElem hl]
    rfl
theorem RowsP.one (w : World) (u : Value) (L : List PI) (h : OwnPI w base u L) {b2 : Nat} (hb : b2 ≤ w.heap.size) : RowsP (w.alloc (.cells #[u] 126)) b2 (.slice (some ⟨w.heap.size, 0, none⟩) 1 1) [L] := by
  refine ⟨[u], World.ownsRow_lit (e := 126) (size := 1) w #[u] 1 hb (by unfold maxLen; omega) (by simp), fun i hi => ?_⟩
  obtain rfl : i = 0 := by simp at hi; exact hi
  exact (h.ext (extNew w _)).mono (Nat.zero_le _)
end
section
variable {o : Oper} {a : Act} {Q : Exit → Act → World → Prop} {w : World} {base b2 : Nat} {v u : Value} {R : List (List PI)} {L : List PI}
theorem wpList_appRow {ops : Array Oper} {rest : List Oper} (hgd : o.guard = none) (s x : Operand) (ho : o.op = .call { callee := .builtin .append, args := #[s, x], argTypes := #[129, 129] }) (hs : a.eval s = v) (hown : RowsP w base v R) (hu : OwnPI w b2 u L)
    {c : Nat} (hx : a.eval x = .slice (some ⟨w.heap.size, 0, none⟩) 1 c) (hlen : R.length ≤ 1000) (hbase : base ≤ w.heap.size)
    (h : ∀ v' w', RowsP w' base v' (R ++ [L]) → (w.alloc (.cells #[u] 126)).grownBy w' v.ownBlock → wpList Tryz.prog ops Q rest (a.put o.dst v') w') :
    wpList Tryz.prog ops Q (o :: rest) a (w.alloc (.cells #[u] 126)) := by
  obtain ⟨i, hi, hz, hsz, hby⟩ := info_parts prow_info
  obtain ⟨Vs, h1, h2⟩ := hown
  have hE := extNew w (.cells #[u] 126)
  have h1E : (w.alloc (.cells #[u] 126)).ownsRow base 126 1 v R.length Vs := World.ownsRow.kept h1 (hE.grown none) (by cases hv : v.ownBlock <;> simp)
  obtain ⟨Au, cu, hue, _, _, _⟩ := hu.form
  refine wpList_append_own_at _ hgd s x 129 ho base 126 i _ 1 24 Tryz.underlying129 hi hz hsz hby rfl (by omega) v R.length Vs hs h1E ⟨w.heap.size, 0, none⟩ 1 c [u] hx rfl (by
    intro j x hu
    match j, hu with
    | 0, hu =>
      have : (⟨w.heap.size, 0, none⟩ : Addr).add 0 = ⟨w.heap.size, 0, none⟩ := rfl
      rw [this, cellNew]
      simpa using hu
    | j + 1, hu => simp at hu) (by
    intro x hx
    simp at hx
    rw [hx, hue]
    rfl) (by unfold maxLen; omega) (by omega) (by simp; omega) ?_
  intro v' w' h4 h5 _ _
  have kept : ∀ {b : Nat} {x : Value} {M : List PI}, OwnPI w b x M → OwnPI w' 0 x M := fun {b x M} hM => ((hM.ext hE).kept h5 (by
    cases hb : v.ownBlock with
    | none => cases hx : x.ownBlock <;> simp
    | some g => exact .inr ((hM.ext hE).notRows h1E hb))).mono (Nat.zero_le _)
  refine h v' w' ⟨Vs ++ [u], ?_, fun j hj => ?_⟩ h5
  · rw [List.length_append]
    exact h4
  · have hvl : Vs.length = R.length := by have := h1.1; omega
    by_cases hjl : j < R.length
    · have e1 : (R ++ [L]).getD j [] = R.getD j [] := by simp [List.getD_eq_getElem?_getD, List.getElem?_append_left hjl]
      have e2 : (Vs ++ [u]).getD j undef = Vs.getD j undef := by simp [List.getD_eq_getElem?_getD, List.getElem?_append_left (by omega : j < Vs.length)]
      rw [e1, e2]
      exact kept (h2 j hjl)
    · obtain rfl : j = R.length := by simp at hj; omega
      have e1 : (R ++ [L]).getD R.length [] = L := by simp [List.getD_eq_getElem?_getD]
      have e2 : (Vs ++ [u]).getD R.length undef = u := by rw [← hvl]; simp [List.getD_eq_getElem?_getD]
      rw [e1, e2]
      exact kept hu
end
theorem mapRange_succ (f : Nat → List PI) (r : Nat) : (List.range (r + 1)).map f = (List.range r).map f ++ [f r] := by rw [List.range_succ, List.map_append]; rfl
theorem mapRange_get (f : Nat → List PI) {r i : Nat} (h : i < r) : ((List.range r).map f).getD i [] = f i := by simp [List.getD_eq_getElem?_getD, h]
set_option maxHeartbeats 2000000 in
set_option maxRecDepth 100000 in
theorem rowsOf_any {lv : List PI} {A : Option Addr} {n c L base : Nat} {w : World} (hn : lv.length = n) (hn1 : 1 ≤ n) (hn3 : n ≤ 300) (hL1 : 1 ≤ L) (hL : L ≤ 15) (h : OwnPI w base (.slice A n c) lv) (hw : ∀ x ∈ lv, x.1 < 4294967296) (hs : ∀ x ∈ lv, x.2 < 300) :
    Calls Tryz.prog 74 #[.slice A n c, .int .i64 (L : Int), .func (.func 68) #[] #[]] w fun e w' => ∃ v, e = .returned v ∧ RowsP w' w.heap.size v ((List.range L).map (rowP lv)) ∧ Ext w w' := by
  obtain ⟨Ax, cx, e, hnc, hcm, hP⟩ := h.form
  rw [hn] at e hP hnc
  simp only [Value.slice.injEq, true_and] at e
  obtain ⟨rfl, rfl⟩ := e
  have HSm := hide (fun r hr i hi => rowP_small (r := r) hw hr ((rowP lv r).getD i (0, 0)) (by rw [List.getD_eq_getElem?_getD, List.getElem?_eq_getElem hi]; exact List.getElem_mem hi))
  have HLe := hide (fun r => hn ▸ rowP_le lv r)
  have HS := hide (show ∀ i, i < n → (lv.getD i (0, 0)).2 < 300 from fun i hi => hs _ (by rw [List.getD_eq_getElem?_getD, List.getElem?_eq_getElem (by omega)]; exact List.getElem_mem _))
  have HT := hide (fun r i hi => (pairsP_mem (l := rowP lv r) (x := (pairsP (rowP lv r)).getD i (0, 0)) (by rw [List.getD_eq_getElem?_getD, List.getElem?_eq_getElem hi]; exact List.getElem_mem hi)).1)
  have HO := hide h
  have HP := hide hP
  have HM := hide hcm
  have HR := hide (mapRange_succ (rowP lv))
  have HG := hide (fun r i hi => mapRange_get (rowP lv) (r := r) (i := i) hi)
  have H0 := hide (show (List.range 1).map (rowP lv) = [lv] from rfl)
  have HN := hide hn
  have HRr := hide (fun r => show rowP lv (r + 1) = mergeP lv (pairsP (rowP lv r)) from rfl)
  have HPl := hide (fun r => pairsP_len (rowP lv r))
  have h1 := RowsP.one w (.slice A n c) lv h (Nat.le_refl w.heap.size)
  rw [← H0.out] at h1
  have hEa := extNew w (.cells #[.slice A n c] 126)
  have HW := hide hw
  clear hw hs hn h hP hcm
  generalize hrp : rowP lv = rp at *
  clear hrp
  go_enter Tryz.func74, Tryz.ntmps74
  go_wp2
  go_loopw [7] (fun a wr => ∃ r : Nat, 1 ≤ r ∧ r ≤ L ∧ RowsP wr w.heap.size a ((List.range r).map rp) ∧ Ext w wr) (fun a _ => L - sliceN a)
  case atStart => exact ⟨1, Nat.le_refl _, hL1, h1, hEa⟩
  case round =>
    clear h1 hEa
    obtain ⟨r, hr1, hrL, hR, hE⟩ := hrel
    obtain ⟨Ar, cr, rfl, hrc, hrm, hcell⟩ := hR.form
    have hlen : ((List.range r).map rp).length = r := by simp
    rw [hlen] at hrc hcell ⊢
    have HR1 := hide hR
    by_cases hrl : r < L
    · rcases hcell with h0 | ⟨g, rfl, hgb, hgl, hcell⟩
      · omega
      obtain ⟨u, hu, hOu⟩ := hcell (r - 1) (by omega)
      rw [HG.out r (r - 1) (by omega)] at hOu
      have hlr := HLe.out (r - 1)
      have hsm := HSm.out (r - 1) (by omega)
      have htm := HT.out (r - 1)
      have hpl := HPl.out (r - 1)
      have hrr := HRr.out (r - 1)
      rw [show r - 1 + 1 = r by omega] at hrr
      generalize rp (r - 1) = X at *
      obtain ⟨Ax, cx, rfl, hxc, hxm, hPx⟩ := hOu.form
      rcases hPx.2 with h0 | ⟨gx, ox, rfl, _, _⟩
      · omega
      have C1 := pairsOf_any (L := X) (by omega) hxc hxm hPx hsm
      have hri : ((r : Int) - 1) = ((r - 1 : Nat) : Int) := by omega
      have HX := hide hsm
      have HRr2 := hide hrr
      have HTm := hide htm
      have HPl2 := hide hpl
      clear hsm hcell hPx hOu htm hrr hpl hlen
      obtain ⟨m, hm⟩ : ∃ m, m = X.length := ⟨_, rfl⟩
      rw [← hm] at C1 hu hxc hlr
      have HMm := hide hm
      clear hm
      go_wp2_with fail
      refine C1.mono ?_
      rintro e w2 ⟨v2, rfl, hO2, hE2⟩
      have hE02 := hE.trans hE2
      obtain ⟨A2, c2, rfl, h2c, _, hP2⟩ := hO2.form
      have C2 := merged_any (ls := lv) (ps := pairsP X) (A1 := A) (A2 := A2) (n1 := n) (n2 := (pairsP X).length) (c1 := c) (c2 := c2) (w := w2) hn3 (by rw [HPl2.out, ← HMm.out]; omega) hnc HM.out (HP.out.ext hE02) hP2 HS.out HTm.out
      rw [← HRr2.out] at C2
      have hR2 := hR.ext hE2
      have HR2 := hide hR2
      clear hR2 hP2 hR
      generalize (pairsP X).length = n2 at *
      go_wp2_with fail
      refine C2.mono ?_
      rintro e w3 ⟨v3, rfl, hO3, hE3⟩
      have hE03 := hE02.trans hE3
      have hR3 := HR2.out.ext hE3
      obtain ⟨A3, c3, rfl, _, _, _⟩ := hO3.form
      have hbb := hE03.le
      have hl1 : ((List.range r).map rp).length ≤ 1000 := by simp; omega
      go_wp2_with (at_builtin; refine wpList_appRow (R := (List.range r).map rp) rfl (.tmp 22) (.tmp 27) rfl (by rw [List.length_map, List.length_range]; rfl) hR3 hO3 rfl hl1 hbb ?_; intro v5 w5 hR5 hG5)
      have hE5 : Ext w w5 := Below.grown (hE03.trans (extNew w3 _)) hG5 (hE03.trans (extNew w3 _)).le (fun k hk => (HR1.out.lt k (by simpa [Value.ownBlock] using hk)).1)
      rw [← HR.out r] at hR5
      obtain ⟨A5, c5, rfl, _, _, _⟩ := hR5.form
      go_roundw
      case rel => exact ⟨r + 1, by omega, by omega, hR5, hE5⟩
      case measure => simp [sliceN]; omega
    · obtain rfl : r = L := by omega
      clear hcell hlen
      go_wp2
      go_ret
      refine ⟨_, rfl, ?_, hE⟩
      have := HR1.out
      rwa [List.length_map, List.length_range] at this
end Go.Proofs.YthpbckignppaiaaGreatDoor

namespace Go.Proofs.YthpbckignppaiaaGreatDoor
open Go.RowKit Go.Shelf Len
attribute [local go_sem] Oper.semAt_some
namespace Len
def restP (lv : List PI) (q : Nat) : Nat → Nat → Nat
  | 0, _ => 0
  | r + 1, m => cntP lv q r m
theorem cntP_rest (lv : List PI) (q r m : Nat) : cntP lv q r m = (((rowP lv r).take m).countP fun x => x.2 == q) + restP lv q r (2 * packs ((rowP lv r).take m)) := by
  cases r with
  | zero => rw [cntP, restP]; rfl
  | succ r => rw [cntP, restP]
theorem drop_take_get {X : List PI} {m j : Nat} (hj : j < m) (hm : m ≤ X.length) : (X.take m).drop j = X.getD j (0, 0) :: (X.take m).drop (j + 1) := by
  have hl : j < (X.take m).length := by rw [List.length_take]; omega
  rw [List.drop_eq_getElem_cons hl]
  congr 1
  simp [List.getD_eq_getElem?_getD, show j < X.length by omega]
end Len
def sliceA : Value → Option Addr
  | .slice A _ _ => A
  | _ => none
def sliceC : Value → Nat
  | .slice _ _ c => c
  | _ => 0
theorem grown_from {w W W' : World} {g B : Nat} {row : Option Nat} (h : w.grownBy W (some g)) (hg : W.grownBy W' row) (hB : w.heap.size ≤ B) (hr : ∀ r, row = some r → B ≤ r) : w.grownBy W' (some g) :=
  ⟨hg.os.trans h.os, hg.tape.trans h.tape, hg.output.trans h.output, Nat.le_trans h.size hg.size, fun k hk hne => (hg.block k (Nat.lt_of_lt_of_le hk h.size) fun e => by have := hr k e.symm; omega).trans (h.block k hk hne)⟩
theorem OwnB.turn {W W' : World} {base : Nat} {v : Value} {l : List UInt8} {row : Option Nat} (h : OwnB W base v l) (hg : W.grownBy W' row) (hr : ∀ r, row = some r → ∃ o : Obj, W.heap[r]? = some o ∧ o.isCells = false) : OwnB W' base v l :=
  World.ownsRow.kept h hg (by
    rcases h.2 with ⟨rfl, _⟩ | ⟨g, cap, cur, rfl, _, hgg, _⟩
    · exact .inl rfl
    · refine .inr fun e => ?_
      obtain ⟨o, h1, h2⟩ := hr g e.symm
      rw [hgg] at h1
      cases h1
      cases h2)
theorem OwnB.cells {w : World} {base g n c : Nat} {l : List UInt8} (h : OwnB w base (.slice (some ⟨g, 0, none⟩) n c) l) : ∃ cur, w.heap[g]? = some (.cells cur 5 (0, 0)) := by
  rcases h.2 with ⟨h', _⟩ | ⟨g1, c1, cur, h', _, hg, _⟩
  · cases h'
  · simp only [Value.slice.injEq, Option.some.injEq, Addr.mk.injEq, and_true] at h'
    obtain ⟨rfl, _⟩ := h'
    exact ⟨cur, hg⟩
theorem OwnB.turnFar {w : World} {base gl n c g i : Nat} {l : List UInt8} {u : Value} (h : OwnB w base (.slice (some ⟨gl, 0, none⟩) n c) l) (hne : gl ≠ g) : OwnB (w.setCell ⟨g, i, none⟩ u) base (.slice (some ⟨gl, 0, none⟩) n c) l :=
  World.ownsRow.kept h (grown_setCell w g i u) (.inr (by simpa [Value.ownBlock] using hne))
structure CountI (w : World) (gl cl base N L gr cr : Nat) (lv : List PI) (tot : Nat → Nat) (k : Nat) (W : World) : Prop where
  ex : ∃ (O : List UInt8) (m : Nat), OwnB W base (.slice (some ⟨gl, 0, none⟩) N cl) O ∧ O.length = N ∧ Whole W (w.heap.size + 1) 3 #[.int .i64 (m : Int)] ∧ (∀ q, q < N → (O.getD q 0).toNat + restP lv q (L - k) m = tot q) ∧ (k < L → m ≤ (rowP lv (L - 1 - k)).length)
  b0 : Whole W w.heap.size 22 #[.slice (some ⟨gl, 0, none⟩) N cl]
  b2 : Whole W (w.heap.size + 1 + 1) 129 #[.slice (some ⟨gr, 0, none⟩) L cr]
  gb : w.grownBy W (some gl)
theorem CountI.own {w : World} {gl cl base N L gr cr B : Nat} {lv : List PI} {tot : Nat → Nat} (hB : w.heap.size ≤ B) : OwnFrom B (CountI w gl cl base N L gr cr lv tot) := fun k W W' row h hg hr => by
  have hr2 := fun r e => (hr r e).2
  obtain ⟨O, m, h1, h2, h3, h4, h5⟩ := h.ex
  exact ⟨⟨O, m, h1.turn hg hr2, h2, h3.turn hg hr2, h4, h5⟩, h.b0.turn hg hr2, h.b2.turn hg hr2, grown_from h.gb hg hB fun r e => (hr r e).1⟩
set_option maxHeartbeats 1000000 in
theorem backward_in (n : Nat) (A : Option Addr) (m c : Nat) (w : World) :
    CallsIn Fence.wide n Tryz.prog 86 #[.slice A m c] w fun e w' => e = .returned (.func (.func 93) #[] #[.pointer (some ⟨w.heap.size, 0, none⟩)]) ∧ w' = w.alloc (.cells #[.slice A m c] 129) := by
  refine callsIn_of_wp Tryz.func86 rfl trivial ?_ rfl
  simp only [Tryz.ntmps86, List.size_toArray, List.length_cons, List.length_nil, Nat.reduceAdd, Nat.reduceSub, Array.replicate_succ, Array.replicate_zero, List.push_toArray, List.append_toArray, List.nil_append, List.cons_append]
  gi_wp2
  go_ret
  exact ⟨rfl, rfl⟩
set_option maxHeartbeats 4000000 in
set_option maxRecDepth 100000 in
theorem lenCount_any {lv : List PI} {gl cl base N L F b3 : Nat} {v : Value} {O : List UInt8} {tot : Nat → Nat} {w : World} (hL1 : 1 ≤ L) (hL : L ≤ 15) (hN : N ≤ 300) (hO : OwnB w base (.slice (some ⟨gl, 0, none⟩) N cl) O) (hOl : O.length = N) (hR : RowsP w b3 v ((List.range L).map (rowP lv)))
    (hF : F ≤ (rowP lv (L - 1)).length) (hlen : ∀ r, (rowP lv r).length ≤ 1000) (hsym : ∀ r, ∀ x ∈ rowP lv r, x.2 = 300 ∨ x.2 < N) (hpk : ∀ r m, m ≤ (rowP lv (r + 1)).length → 2 * packs ((rowP lv (r + 1)).take m) ≤ (rowP lv r).length)
    (htot : ∀ q, q < N → (O.getD q 0).toNat + cntP lv q (L - 1) F = tot q) (ht : ∀ q, q < N → tot q < 256) :
    Calls Tryz.prog 73 #[.slice (some ⟨gl, 0, none⟩) N cl, v, .int .i64 (F : Int)] w fun e w' => e = .returned (.tuple #[]) ∧ w.grownBy w' (some gl) ∧ ∃ O', OwnB w' base (.slice (some ⟨gl, 0, none⟩) N cl) O' ∧ O'.length = N ∧ ∀ q, q < N → (O'.getD q 0).toNat = tot q := by
  obtain ⟨curl, hgl⟩ := hO.cells
  obtain ⟨Vs, hV, hVs⟩ := hR
  rw [List.length_map, List.length_range] at hV hVs
  have hV2 := hV
  obtain ⟨gr, cr, rfl, hgr0⟩ : ∃ gr cr, v = .slice (some ⟨gr, 0, none⟩) L cr ∧ ∃ cur, w.heap[gr]? = some (.cells cur 126 (0, 0)) := by
    rcases hV.2 with ⟨_, h0⟩ | ⟨g, cap, cur, e, _, hg, _⟩
    · omega
    · exact ⟨g, cap, e, cur, hg⟩
  obtain ⟨curr, hgr⟩ := hgr0
  have hne : gr ≠ gl := fun e => by
    rw [e, hgl] at hgr
    simp only [Option.some.injEq, Obj.cells.injEq] at hgr
    exact absurd hgr.2.1 (by decide)
  -- the rows, in every world where that block alone has turned
  have hrow : ∀ W, w.grownBy W (some gl) → ∀ i, i < L → W.cell? ⟨gr, i, none⟩ = some (.slice (sliceA (Vs.getD i undef)) (rowP lv i).length (sliceC (Vs.getD i undef))) ∧ (rowP lv i).length ≤ sliceC (Vs.getD i undef) ∧ sliceC (Vs.getD i undef) ≤ maxLen ∧ PIAt W W.heap.size (sliceA (Vs.getD i undef)) (rowP lv i).length (rowP lv i) := fun W hW i hi => by
    have h1 := hVs i hi
    rw [mapRange_get _ hi] at h1
    have hno : (Vs.getD i undef).ownBlock = none ∨ (Vs.getD i undef).ownBlock ≠ some gl := by
      rcases h1.2 with ⟨e, _⟩ | ⟨g, cap, cur, e, _, hg, _⟩
      · rw [e]; exact .inl rfl
      · rw [e]
        refine .inr fun h => ?_
        simp only [Value.ownBlock, Option.some.injEq] at h
        rw [h, hgl] at hg
        simp only [Option.some.injEq, Obj.cells.injEq] at hg
        exact absurd hg.2.1 (by decide)
    have h2 := h1.kept hW hno
    obtain ⟨A, c, e, hc, hm, hP⟩ := h2.form
    have hcl := World.ownsRow.cellAt hV i (by omega)
    have hl : i < Vs.length := by rw [hV.1]; omega
    have hblk : W.heap[gr]? = w.heap[gr]? := hW.block gr (Array.getElem?_eq_some_iff.1 hgr).1 (by simpa using hne)
    have hu : Vs[i]? = some (Vs.getD i undef) := by rw [List.getD_eq_getElem?_getD, List.getElem?_eq_getElem hl]; rfl
    rw [hu] at hcl
    rw [e] at hcl ⊢
    exact ⟨(World.cell?_of_block (by exact hblk)).trans hcl, hc, hm, hP⟩
  have HRow := hide hrow
  have HSym := hide hsym
  have HPk := hide hpk
  have HLen := hide hlen
  have HT := hide ht
  have hI00 := hide (show ∀ q, q < N → (O.getD q 0).toNat + restP lv q (L - 0) F = tot q from fun q hq => by
    rw [← htot q hq, show L - 0 = L - 1 + 1 by omega]
    rfl)
  have HF := hide (show 0 < L → F ≤ (rowP lv (L - 1 - 0)).length from fun _ => hF)
  have hglw : gl < w.heap.size := (Array.getElem?_eq_some_iff.1 hgl).1
  have HOl := hide hOl
  have HO := hide hO
  clear hrow hsym hpk hlen ht htot hF hV hVs hV2 hgr hOl hO hgl
  refine (callsIn_wide (n := 10)).1 ?_
  refine callsIn_of_wp_marks Tryz.func73 rfl trivial ?_ rfl
  simp only [Tryz.ntmps73, List.size_toArray, List.length_cons, List.length_nil, Nat.reduceAdd, Nat.reduceSub, Array.replicate_succ, Array.replicate_zero, List.push_toArray, List.append_toArray, List.nil_append, List.cons_append]
  gi_wp2
  refine ⟨trivial, (backward_in _ _ _ _ _).mono ?_⟩
  rintro e w' ⟨rfl, rfl⟩
  gi_wp2
  have hI0 : CountI w gl cl base N L gr cr lv tot 0 (((w.alloc (.cells #[.slice (some ⟨gl, 0, none⟩) N cl] 22)).alloc (.cells #[.int .i64 (F : Int)] 3)).alloc (.cells #[.slice (some ⟨gr, 0, none⟩) L cr] 129)) := by
    refine ⟨⟨O, F, ((HO.out.ext (extNew _ _)).ext (extNew _ _)).ext (extNew _ _), HOl.out, ?_, hI00.out, HF.out⟩, ((Whole.new w _ _).alloc _).alloc _, ?_, (((extNew w _).alloc _).alloc _).grown _⟩
    · have := (Whole.new (w.alloc (.cells #[.slice (some ⟨gl, 0, none⟩) N cl] 22)) 3 #[.int .i64 (F : Int)]).alloc (.cells #[.slice (some ⟨gr, 0, none⟩) L cr] 129)
      rwa [World.size_alloc] at this
    · have := Whole.new ((w.alloc (.cells #[.slice (some ⟨gl, 0, none⟩) N cl] 22)).alloc (.cells #[.int .i64 (F : Int)] 3)) 129 #[.slice (some ⟨gr, 0, none⟩) L cr]
      rwa [World.size_alloc, World.size_alloc] at this
  have hs3 : w.heap.size + 3 ≤ (((w.alloc (.cells #[.slice (some ⟨gl, 0, none⟩) N cl] 22)).alloc (.cells #[.int .i64 (F : Int)] 3)).alloc (.cells #[.slice (some ⟨gr, 0, none⟩) L cr] 129)).heap.size := by simp
  generalize ((w.alloc (.cells #[.slice (some ⟨gl, 0, none⟩) N cl] 22)).alloc (.cells #[.int .i64 (F : Int)] 3)).alloc (.cells #[.slice (some ⟨gr, 0, none⟩) L cr] 129) = w3 at hI0 hs3 ⊢
  clear hI00
  refine wpIn_rangeOwn (gf := 93) (lb := #[.pointer (some ⟨w.heap.size + 1 + 1, 0, none⟩)]) rfl (enters_of Tryz.func93 (by kernel_rfl) rfl) L
    (fun k => #[.int .i64 ((L - 1 - k : Nat) : Int), .slice (sliceA (Vs.getD (L - 1 - k) undef)) (rowP lv (L - 1 - k)).length (sliceC (Vs.getD (L - 1 - k) undef))]) (fun _ => rfl) (CountI w gl cl base N L gr cr lv tot) (CountI.own (by omega)) hI0
    (backward_gives (VA := fun i => sliceA (Vs.getD i undef)) (VN := fun i => (rowP lv i).length) (VC := fun i => sliceC (Vs.getD i undef)) (by omega) (by omega) fun k W h => ⟨h.b2.at 0 (u := .slice (some ⟨gr, 0, none⟩) L cr) rfl, fun i hi => (HRow.out W h.gb i hi).1⟩)
    (fun k => { tmps := #[.slice (some ⟨gl, 0, none⟩) N cl, .slice (some ⟨gr, 0, none⟩) L cr, .int .i64 (F : Int), .pointer (some ⟨w.heap.size, 0, none⟩), undef, .pointer (some ⟨w.heap.size + 1, 0, none⟩), undef, .slice (sliceA (Vs.getD (L - 1 - k) undef)) (rowP lv (L - 1 - k)).length (sliceC (Vs.getD (L - 1 - k) undef)), undef, undef, undef, .slice (some ⟨gr, 0, none⟩) L cr,
      .func (.func 93) #[] #[.pointer (some ⟨w.heap.size + 1 + 1, 0, none⟩)], .int .i64 ((L - 1 - k : Nat) : Int), .slice (sliceA (Vs.getD (L - 1 - k) undef)) (rowP lv (L - 1 - k)).length (sliceC (Vs.getD (L - 1 - k) undef)), undef, undef, undef, undef, undef, undef, undef, undef, undef, undef, undef, undef, undef, undef, undef, undef, undef, undef, undef, undef, undef, undef, undef], defers := [] }) ?assign ?body ?done
  case assign =>
    intro l k W K hK
    dsimp only at hK ⊢
    generalize sliceA (Vs.getD (L - 1 - k) undef) = a1 at *
    generalize (rowP lv (L - 1 - k)).length = a2 at *
    generalize sliceC (Vs.getD (L - 1 - k) undef) = a3 at *
    generalize ((L - 1 - k : Nat) : Int) = a4 at *
    gi_wp2
    exact hK
  case body =>
    intro l k W hI hk
    obtain ⟨O1, m, hO1, hOl1, hm1, hrem, hml⟩ := hI.ex
    obtain ⟨_, hrc, hrm, _⟩ := HRow.out W hI.gb (L - 1 - k) (by omega)
    have hml := hml hk
    have hlen := HLen.out (L - 1 - k)
    have hPr := fun W hW => (HRow.out W hW (L - 1 - k) (by omega)).2.2.2
    obtain ⟨r, hr⟩ : ∃ r, r = L - 1 - k := ⟨_, rfl⟩
    have hLk : L - k = r + 1 := by omega
    rw [← hr] at hrc hrm hml hlen ⊢
    simp only [← hr] at hPr
    rw [hLk] at hrem
    have hrem2 : ∀ q, q < N → (O1.getD q 0).toNat + (((rowP lv r).take m).countP fun x => x.2 == q) + restP lv q r (2 * packs ((rowP lv r).take m)) = tot q := fun q hq => by
      rw [← hrem q hq, restP, cntP_rest]
      omega
    have hsy := HSym.out r
    have HNext := hide (show k + 1 < L → 2 * packs ((rowP lv r).take m) ≤ (rowP lv (L - 1 - (k + 1))).length from fun h => by
      have e : r = L - 1 - (k + 1) + 1 := by omega
      have := HPk.out (L - 1 - (k + 1)) m (by rw [← e]; exact hml)
      rwa [← e] at this)
    have HRst := hide (show ∀ q x, restP lv q (L - (k + 1)) x = restP lv q r x from fun q x => by rw [show L - (k + 1) = r by omega])
    generalize rowP lv r = X at *
    generalize sliceA (Vs.getD r undef) = a1 at *
    generalize sliceC (Vs.getD r undef) = a3 at *
    have hmN : m ≤ 1000 := by omega
    have c1 := hm1.at 0 (u := .int .i64 (m : Int)) rfl
    have hmc : (m : Int) ≤ (a3 : Int) := by omega
    have hPh := fun W hW => (hPr W hW).head hml hrc
    have hRH := fun W => run_headP W a1 X.length a3 .i64 (m : Int) (by omega) hmc
    simp only [Int.toNat_natCast] at hRH
    generalize cutAt a1 (a3 * 2) (0 * 2) = A3 at hPh hRH
    have HI := hide hI
    have HRem := hide hrem2
    have HSy := hide hsy
    have HPh := hide hPh
    have HO1 := hide hO1
    have HOl1 := hide hOl1
    have HM1 := hide hm1
    have HLr := hide hr
    have HXl := hide hml
    clear hPr hrem hrem2 hsy hLk hPh hO1 hOl1 hm1 hI hr hml
    obtain ⟨nX, hnX⟩ : ∃ nX, nX = X.length := ⟨_, rfl⟩
    rw [← hnX] at hRH hrc hlen ⊢
    have HnX := hide hnX
    clear hnX
    unfold maxLen at hrm
    gi_wp2
    have HKF := hide (KeepsFrom.refl w3.heap.size W)
    have HS3 := hide hs3
    have HGl := hide hglw
    clear hI0 hs3 hglw
    gi_loopw [8, 19] (fun a b wq => ∃ (j p : Nat) (O2 : List UInt8), j ≤ m ∧ p ≤ j ∧ b = .int .i64 (j : Int) ∧ a = .int .i64 (p : Int) ∧ OwnB wq base (.slice (some ⟨gl, 0, none⟩) N cl) O2 ∧ O2.length = N ∧ Whole wq (w.heap.size + 1) 3 #[.int .i64 (m : Int)] ∧ Whole wq w.heap.size 22 #[.slice (some ⟨gl, 0, none⟩) N cl] ∧ Whole wq (w.heap.size + 1 + 1) 129 #[.slice (some ⟨gr, 0, none⟩) L cr] ∧ w.grownBy wq (some gl) ∧ KeepsFrom w3.heap.size W wq ∧
      p + packs ((X.take m).drop j) = packs (X.take m) ∧ ∀ q, q < N → (O2.getD q 0).toNat + (((X.take m).drop j).countP fun x => x.2 == q) + restP lv q r (2 * packs (X.take m)) = tot q) (fun _ b _ => m - (intOf b).toNat)
    case atStart => exact ⟨0, 0, O1, Nat.zero_le _, Nat.le_refl _, rfl, rfl, HO1.out, HOl1.out, HM1.out, HI.out.b0, HI.out.b2, HI.out.gb, HKF.out, by rw [List.drop_zero, Nat.zero_add], by rw [List.drop_zero]; exact HRem.out⟩
    case round =>
      obtain ⟨j, p, O2, hj, hpj, rfl, rfl, hO2, hOl2, hm2, hb0, hb2, hgb, hKF, hpk, hcnt⟩ := hrel
      by_cases hjm : j < m
      · have hd := drop_take_get (X := X) hjm HXl.out
        have hcell : ∃ b o, A3 = some ⟨b, o, none⟩ ∧ wr.cell? ⟨b, o + j * 2, none⟩ = some (.int .u64 ((X.getD j (0, 0)).1 : Int)) ∧ wr.cell? ⟨b, o + j * 2 + 1, none⟩ = some (.int .i64 ((X.getD j (0, 0)).2 : Int)) := by
          rcases (HPh.out wr hgb).2 with h0 | ⟨b, o, e, _, hc⟩
          · omega
          · have := hc j hjm
            rw [show (X.take m).getD j (0, 0) = X.getD j (0, 0) by simp [List.getD_eq_getElem?_getD, hjm]] at this
            exact ⟨b, o, e, this⟩
        have hmem : X.getD j (0, 0) ∈ X := by
          rw [List.getD_eq_getElem?_getD, List.getElem?_eq_getElem (by have := HXl.out; omega)]
          exact List.getElem_mem _
        have hsx := HSy.out _ hmem
        generalize X.getD j (0, 0) = it at *
        obtain ⟨x, y⟩ := it
        obtain ⟨b, o, rfl, i0, i1⟩ := hcell
        dsimp only at i0 i1 hsx
        rw [hd] at hpk hcnt
        have hE4 := extNew wr (.cells #[.int .u64 (x : Int), .int .i64 (y : Int)] 121)
        have hO4 := hO2.ext hE4
        have hm4 := hm2.ext hE4
        have hb04 := hb0.ext hE4
        have hb24 := hb2.ext hE4
        have hgb4 := hgb.trans (World.grownBy_alloc wr (.cells #[.int .u64 (x : Int), .int .i64 (y : Int)] 121) (some gl))
        have hKF4 := hKF.trans ((KeepsOthers.alloc wr (.cells #[.int .u64 (x : Int), .int .i64 (y : Int)] 121)).from w3.heap.size)
        have c4 := hb04.at 0 (u := .slice (some ⟨gl, 0, none⟩) N cl) rfl
        by_cases hy : y = 300
        · subst hy
          have hpk2 : (p + 1) + packs ((X.take m).drop (j + 1)) = packs (X.take m) := by
            rw [← hpk]
            unfold packs
            rw [List.countP_cons]
            simp
            omega
          have HC := hide (show ∀ q, q < N → (O2.getD q 0).toNat + (((X.take m).drop (j + 1)).countP fun x => x.2 == q) + restP lv q r (2 * packs (X.take m)) = tot q from fun q hq => by
            rw [← hcnt q hq, List.countP_cons]
            have : ((300 : Nat) == q) = false := by
              rw [beq_eq_false_iff_ne]
              rcases hsx with h | h <;> omega
            simp [this])
          have HPk2 := hide hpk2
          have HF2 := hide (And.intro hO4 (And.intro hOl2 (And.intro hm4 (And.intro hb04 (And.intro hb24 (And.intro hgb4 hKF4))))))
          clear hpk hpk2 hcnt hd hO2 hOl2 hm2 hb0 hb2 hgb hKF hO4 hm4 hb04 hb24 hgb4 hKF4 hE4 hsx hmem
          gi_wp2
          go_roundw
          case rel =>
            obtain ⟨f1, f2, f3, f4, f5, f6, f7⟩ := HF2.out
            exact ⟨j + 1, p + 1, O2, by omega, by omega, by go_num, by go_num, f1, f2, f3, f4, f5, f6, f7, HPk2.out, HC.out⟩
          case measure => simp [intOf]; omega
        · have hyN : y < N := by
            rcases hsx with h | h
            · exact absurd h hy
            · exact h
          have hyf : ((y : Int) == 300) = false := by
            rw [beq_eq_false_iff_ne]
            omega
          have hyI : (y : Int) < (N : Int) := by omega
          obtain ⟨k1, k2⟩ := hO4.cell (i := y) (by rw [hOl2]; exact hyN)
          have hty := HT.out y hyN
          have hcy := hcnt y hyN
          rw [List.countP_cons] at hcy
          simp only [beq_self_eq_true, if_true] at hcy
          have HCv := hide (show ∀ z, z = (O2.getD y 0).toNat → z = (O2.getD y 0).toNat from fun _ h => h)
          obtain ⟨cv, hcv⟩ : ∃ cv, cv = (O2.getD y 0).toNat := ⟨_, rfl⟩
          rw [← hcv] at k1 hcy
          have hcv2 : cv + 1 ≤ 255 := by omega
          have hu8 : (UInt8.ofNat (cv + 1)).toNat = cv + 1 := by rw [UInt8.toNat_ofNat', Nat.mod_eq_of_lt (by omega)]
          have hO5 := hO4.set y (UInt8.ofNat (cv + 1))
          rw [hu8] at hO5
          have hpk2 : p + packs ((X.take m).drop (j + 1)) = packs (X.take m) := by
            rw [← hpk]
            unfold packs
            rw [List.countP_cons]
            simp [hy]
          have HC := hide (show ∀ q, q < N → ((O2.set y (UInt8.ofNat (cv + 1))).getD q 0).toNat + (((X.take m).drop (j + 1)).countP fun x => x.2 == q) + restP lv q r (2 * packs (X.take m)) = tot q from fun q hq => by
            have h0 := hcnt q hq
            rw [List.countP_cons] at h0
            by_cases e : y = q
            · subst e
              simp only [beq_self_eq_true, if_true] at h0
              have : ((O2.set y (UInt8.ofNat (cv + 1))).getD y 0).toNat = cv + 1 := by
                rw [List.getD_eq_getElem?_getD, List.getElem?_set_self (by rw [hOl2]; exact hyN), Option.getD_some, hu8]
              omega
            · have hb : (y == q) = false := beq_eq_false_iff_ne.2 e
              rw [hb] at h0
              have : (O2.set y (UInt8.ofNat (cv + 1))).getD q 0 = O2.getD q 0 := by
                rw [List.getD_eq_getElem?_getD, List.getElem?_set_ne e, ← List.getD_eq_getElem?_getD]
              rw [this]
              simpa using h0)
          have HPk2 := hide hpk2
          have hne0 : ∀ s, w.heap.size ≤ s → s ≠ gl := fun s h => by have := HGl.out; omega
          have hl2 : (O2.set y (UInt8.ofNat (cv + 1))).length = N := by rw [List.length_set, hOl2]
          have HF2 := hide (And.intro hO5 (And.intro hl2 (And.intro (hm4.far (hne0 _ (by omega)) y (.int .u8 ((cv + 1 : Nat) : Int))) (And.intro (hb04.far (hne0 _ (by omega)) y (.int .u8 ((cv + 1 : Nat) : Int))) (And.intro (hb24.far (hne0 _ (by omega)) y (.int .u8 ((cv + 1 : Nat) : Int))) (And.intro (hgb4.trans (grown_setCell _ gl y (.int .u8 ((cv + 1 : Nat) : Int)))) (hKF4.trans ((KeepsOthers.setCell _ ⟨gl, y, none⟩ (.int .u8 ((cv + 1 : Nat) : Int))).from w3.heap.size))))))))
          clear hpk hpk2 hcnt hd hO2 hOl2 hm2 hb0 hb2 hgb hKF hO4 hm4 hb04 hb24 hgb4 hKF4 hE4 hsx hmem hO5 hu8 hcy hcv hl2 hne0
          gi_wp2
          go_roundw
          case rel =>
            obtain ⟨f1, f2, f3, f4, f5, f6, f7⟩ := HF2.out
            exact ⟨j + 1, p, _, by omega, by omega, by go_num, by go_num, f1, f2, f3, f4, f5, f6, f7, HPk2.out, HC.out⟩
          case measure => simp [intOf]; omega
      · obtain rfl : m = j := by omega
        have hdr : (X.take m).drop m = [] := List.drop_eq_nil_of_le (by rw [List.length_take]; omega)
        rw [hdr] at hpk hcnt
        have hpe : p = packs (X.take m) := by
          rw [← hpk]
          unfold packs
          simp
        have HPe := hide hpe
        have HC := hide hcnt
        have c5 := hm2.at 0 (u := .int .i64 (m : Int)) rfl
        have f5 := hm2.frozen 0
        have hne0 : ∀ s, w.heap.size ≤ s → s ≠ gl := fun s h => by have := HGl.out; omega
        have hcast : (2 * (p : Int)) = ((2 * p : Nat) : Int) := by omega
        have HF2 := hide (And.intro (hO2.turnFar (g := w.heap.size + 1) (u := .int .i64 ((2 * p : Nat) : Int)) (i := 0) (fun h => hne0 _ (by omega) h.symm)) (And.intro hOl2 (And.intro (hm2.set 0 (.int .i64 ((2 * p : Nat) : Int))) (And.intro (hb0.far (b := w.heap.size + 1) (by omega) 0 (.int .i64 ((2 * p : Nat) : Int))) (And.intro (hb2.far (b := w.heap.size + 1) (by omega) 0 (.int .i64 ((2 * p : Nat) : Int)))
          (And.intro (grown_from hgb (grown_setCell wr (w.heap.size + 1) 0 (.int .i64 ((2 * p : Nat) : Int))) (Nat.le_refl _) (fun r e => by cases e; omega)) (hKF.trans ((KeepsOthers.setCell _ ⟨w.heap.size + 1, 0, none⟩ (.int .i64 ((2 * p : Nat) : Int))).from w3.heap.size))))))))
        have HCast := hide hcast
        clear hpk hpe hcnt hdr hO2 hOl2 hm2 hb0 hb2 hgb hKF hne0 hcast
        gi_wp2
        obtain ⟨f1, f2, f3, f4, f6, f7, f8⟩ := HF2.out
        rw [← HCast.out] at f1 f3 f4 f6 f7 f8
        refine ⟨f8, ⟨_, 2 * p, f1, f2, by rw [← HCast.out]; exact f3, fun q hq => ?_, fun h => ?_⟩, f4, f6, f7⟩
        · have := HC.out q hq
          rw [HRst.out, HPe.out]
          simpa using this
        · rw [HPe.out]
          exact HNext.out h
  case done =>
    intro D W hD hI hK
    obtain ⟨O1, m, hO1, hOl1, hm1, hrem, _⟩ := hI.ex
    gi_wp2
    refine ⟨by simp, .inl ⟨_, _, rfl, run_takeDeferred hK, ?_⟩⟩
    have hG := grownBy_putObj' W D (.deferred none)
    refine ⟨_, results_none rfl _ _ _, rfl, grown_from hI.gb hG (Nat.le_refl _) (fun r e => by cases e; omega), O1, hO1.turn hG (fun r e => by cases e; exact ⟨_, hK, rfl⟩), hOl1, fun q hq => ?_⟩
    have := hrem q hq
    rw [Nat.sub_self, restP, Nat.add_zero] at this
    exact this
end Go.Proofs.YthpbckignppaiaaGreatDoor

namespace Go.Proofs.YthpbckignppaiaaGreatDoor
open Go.RowKit Len
theorem wrap_pow (k : Nat) (hk : k ≤ 15) : wrap64 ((2 : Int) ^ k) = ((2 ^ k : Nat) : Int) := by
  have h1 : 2 ^ k ≤ 32768 := Nat.le_trans (Nat.pow_le_pow_right (by omega) hk) (by decide)
  rw [show (2 : Int) ^ k = ((2 ^ k : Nat) : Int) by simp]
  generalize 2 ^ k = v at *
  unfold wrap64
  omega
end Go.Proofs.YthpbckignppaiaaGreatDoor

namespace Go.Proofs.YthpbckignppaiaaGreatDoor.Len
theorem pairs_mem : ∀ {l : List Item} {x : Item}, x ∈ pairsOf l → ∃ a b, a ∈ l ∧ b ∈ l ∧ x = (a.1 + b.1, a.2 ++ b.2)
  | [], x, h => by simp [pairsOf] at h
  | [_], x, h => by simp [pairsOf] at h
  | a :: b :: r, x, h => by
    rw [pairsOf] at h
    rcases List.mem_cons.1 h with e | e
    · exact ⟨a, b, by simp, by simp, e⟩
    · obtain ⟨c, d, hc, hd, e⟩ := pairs_mem e
      exact ⟨c, d, by simp [hc], by simp [hd], e⟩
theorem row_all {lv : List Item} {P : Nat → Item → Prop} (h0 : ∀ r x, x ∈ lv → P r x) (hs : ∀ r a b, P r a → P r b → P (r + 1) (a.1 + b.1, a.2 ++ b.2)) : ∀ (r : Nat) (x : Item), x ∈ row lv r → P r x
  | 0, x, h => h0 0 x h
  | r + 1, x, h => by
    rw [row] at h
    rcases merge_mem h with h | h
    · exact h0 _ x h
    · obtain ⟨a, b, ha, hb, rfl⟩ := pairs_mem h
      exact hs r a b (row_all h0 hs r a ha) (row_all h0 hs r b hb)
theorem used_row {often : List Nat} (hb : ∀ i, often.getD i 0 < 4294967296) (j r : Nat) (x : Item) (h : x ∈ row (usedTo often j) r) : x.1 ≤ 2 ^ r * 4294967296 ∧ x.2.length ≤ 2 ^ r ∧ ∀ s ∈ x.2, s < j := by
  refine row_all (P := fun r x => x.1 ≤ 2 ^ r * 4294967296 ∧ x.2.length ≤ 2 ^ r ∧ ∀ s ∈ x.2, s < j) ?_ ?_ r x h
  · intro r x hx
    obtain ⟨q, hq, _, rfl⟩ := used_each hx
    have := hb q
    have hp : 1 ≤ 2 ^ r := Nat.pow_pos (by omega)
    refine ⟨?_, by simpa using hp, fun s hs => ?_⟩
    · show often.getD q 0 ≤ _
      have := Nat.mul_le_mul_right 4294967296 hp
      omega
    · simp at hs
      omega
  · rintro r a b ⟨a1, a2, a3⟩ ⟨b1, b2, b3⟩
    refine ⟨?_, ?_, fun s hs => ?_⟩
    · show a.1 + b.1 ≤ _
      rw [Nat.pow_succ, Nat.mul_right_comm]
      omega
    · show (a.2 ++ b.2).length ≤ _
      rw [List.length_append, Nat.pow_succ]
      omega
    · rcases List.mem_append.1 hs with h | h
      · exact a3 s h
      · exact b3 s h
theorem pairs_at : ∀ {l : List Item} {t : Nat}, 2 * t + 1 < l.length → (pairsOf l)[t]? = some ((l.getD (2 * t) (0, [])).1 + (l.getD (2 * t + 1) (0, [])).1, (l.getD (2 * t) (0, [])).2 ++ (l.getD (2 * t + 1) (0, [])).2)
  | [], t, h => by simp at h
  | [_], t, h => by simp at h
  | a :: b :: r, 0, _ => by rw [pairsOf]; rfl
  | a :: b :: r, t + 1, h => by
    have := pairs_at (l := r) (t := t) (by simp at h; omega)
    rw [pairsOf, List.getElem?_cons_succ, this, show 2 * (t + 1) = 2 * t + 1 + 1 by omega, show 2 * t + 1 + 1 + 1 = (2 * t + 1) + 1 + 1 by omega]
    simp only [List.getD_cons_succ]
theorem pairs_next {l : List Item} {t : Nat} (h : 2 * t + 1 < l.length) :
    (pairsOf l).take (t + 1) = (pairsOf l).take t ++ [((l.getD (2 * t) (0, [])).1 + (l.getD (2 * t + 1) (0, [])).1, (l.getD (2 * t) (0, [])).2 ++ (l.getD (2 * t + 1) (0, [])).2)] := by
  rw [List.take_add_one, pairs_at h]
  rfl
theorem pairs_end {l : List Item} {t : Nat} (h : ¬ 2 * t + 1 < l.length) : (pairsOf l).take t = pairsOf l := List.take_of_length_le (by rw [pairsOf_len]; omega)
theorem row_enough (lv : List Item) : ∀ (r k : Nat), lv.length ≤ k * 2 ^ r → 2 * lv.length ≤ (row lv r).length + k
  | 0, k, h => by rw [row]; simp at h; omega
  | r + 1, k, h => by
    have := row_enough lv r (2 * k) (by rw [Nat.pow_succ] at h; rw [Nat.mul_comm 2 k, Nat.mul_assoc, Nat.mul_comm 2]; exact h)
    rw [row_len]
    omega
theorem syms_next {l : List Item} {i : Nat} (h : i < l.length) : syms (l.take (i + 1)) = syms (l.take i) ++ (l.getD i (0, [])).2 := by
  have e : l.take (i + 1) = l.take i ++ [l.getD i (0, [])] := by
    rw [List.take_add_one, List.getElem?_eq_getElem h, List.getD_eq_getElem?_getD, List.getElem?_eq_getElem h]
    rfl
  rw [e]
  simp [syms]
theorem count_step {l : List Item} {i k m s : Nat} (hi : i < m) (hm : m ≤ l.length) : ((syms (l.take i) ++ (l.getD i (0, [])).2.take k).count s) ≤ (syms (l.take m)).count s := by
  have h1 : (syms (l.take i) ++ (l.getD i (0, [])).2.take k).count s ≤ (syms (l.take (i + 1))).count s := by
    rw [syms_next (by omega), List.count_append, List.count_append]
    have := List.Sublist.count_le s (List.take_sublist k (l.getD i (0, [])).2)
    omega
  have h2 : (syms (l.take (i + 1))).count s ≤ (syms (l.take m)).count s := by
    refine List.Sublist.count_le s ?_
    obtain ⟨d, rfl⟩ : ∃ d, m = i + 1 + d := ⟨m - (i + 1), by omega⟩
    rw [List.take_add (l := l) (i := i + 1) (j := d), show syms (l.take (i + 1) ++ (l.drop (i + 1)).take d) = syms (l.take (i + 1)) ++ syms ((l.drop (i + 1)).take d) by simp [syms]]
    exact List.sublist_append_left _ _
  omega
theorem take_next {L : List Nat} {k : Nat} (h : k < L.length) : L.take (k + 1) = L.take k ++ [L.getD k 0] := by
  rw [List.take_add_one, List.getElem?_eq_getElem h]
  simp [List.getD_eq_getElem?_getD, h]
theorem lens_of {often : List Nat} {L : Nat} {O : List UInt8} (hO : O.length = often.length) (hL : 1 ≤ L) (hL15 : L ≤ 15) (hn : (usedTo often often.length).length ≤ 2 ^ L)
    (h : ∀ q, q < often.length → (O.getD q 0).toNat = lenN often L q) : O = lensL often L := by
  refine List.ext_getElem (by rw [lensL_len, hO]) fun q h1 h2 => ?_
  have e1 := h q (by omega)
  have e2 := lensL_at (q := q) (by omega) hL hL15 hn
  rw [List.getD_eq_getElem?_getD, List.getElem?_eq_getElem h1] at e1
  rw [List.getD_eq_getElem?_getD, List.getElem?_eq_getElem h2] at e2
  exact UInt8.toNat_inj.1 (e1.trans e2.symm)
end Go.Proofs.YthpbckignppaiaaGreatDoor.Len

namespace Go.Proofs.YthpbckignppaiaaGreatDoor
open Go.RowKit Len
namespace Len
section
variable {often : List Nat} {L : Nat}
theorem leaf_each {j : Nat} {x : PI} (h : x ∈ (usedTo often j).map pOf) : ∃ q, q < j ∧ x = (often.getD q 0, q) := by
  obtain ⟨y, hy, rfl⟩ := List.mem_map.1 h
  obtain ⟨q, hq, _, rfl⟩ := used_each hy
  exact ⟨q, hq, rfl⟩
theorem rowP_sym {lv : List PI} {N : Nat} (h : ∀ x ∈ lv, x.2 < N) : ∀ r, ∀ x ∈ rowP lv r, x.2 = 300 ∨ x.2 < N
  | 0, x, hx => .inr (h x (by simpa [rowP] using hx))
  | r + 1, x, hx => by
    rw [rowP] at hx
    rcases mergeP_mem hx with e | e
    · exact .inr (h x e)
    · exact .inl (pairsP_mem e).1
theorem lens_rows (hN : often.length ≤ 300) (hL1 : 1 ≤ L) (hL15 : L ≤ 15) (h2 : 2 ≤ (usedTo often often.length).length) (hn : (usedTo often often.length).length ≤ 2 ^ L) :
    2 * (usedTo often often.length).length - 2 ≤ (rowP ((usedTo often often.length).map pOf) (L - 1)).length ∧ (∀ r, (rowP ((usedTo often often.length).map pOf) r).length ≤ 1000) ∧
    (∀ r, ∀ x ∈ rowP ((usedTo often often.length).map pOf) r, x.2 = 300 ∨ x.2 < often.length) ∧
    (∀ r m, m ≤ (rowP ((usedTo often often.length).map pOf) (r + 1)).length → 2 * packs ((rowP ((usedTo often often.length).map pOf) (r + 1)).take m) ≤ (rowP ((usedTo often often.length).map pOf) r).length) ∧
    (∀ q, q < often.length → cntP ((usedTo often often.length).map pOf) q (L - 1) (2 * (usedTo often often.length).length - 2) = lenN often L q) := by
  have hS := used_single (often := often) (j := often.length) hN
  have hl : ∀ r, (rowP ((usedTo often often.length).map pOf) r).length = (row (usedTo often often.length) r).length := fun r => by rw [← row_map hS.full, List.length_map]
  have he : 2 * (usedTo often often.length).length - 2 ≤ (row (usedTo often often.length) (L - 1)).length := by
    have := row_enough (usedTo often often.length) (L - 1) 2 (by
      have : 2 ^ L = 2 * 2 ^ (L - 1) := by
        obtain ⟨M, rfl⟩ : ∃ M, L = M + 1 := ⟨L - 1, by omega⟩
        rw [Nat.pow_succ, Nat.mul_comm]
        rfl
      omega)
    omega
  have hul := used_le (often := often) often.length
  refine ⟨by rw [hl]; exact he, fun r => ?_, fun r x hx => ?_, fun r m hm => ?_, fun q hq => ?_⟩
  · have := (rowP_le ((usedTo often often.length).map pOf) r).1
    rw [List.length_map] at this
    omega
  · exact rowP_sym (N := often.length) (fun x hx => by
      obtain ⟨q, hq, rfl⟩ := leaf_each hx
      exact hq) r x hx
  · rw [hl] at hm ⊢
    exact packs_le hS r m hm
  · rw [cntP_eq hS q (by omega) (L - 1) _ he]
    unfold lenN
    rw [if_neg (by omega)]
end
end Len
set_option maxHeartbeats 4000000 in
set_option maxRecDepth 100000 in
theorem pLens_any {often : List Nat} {limit : Int} {A : Option Addr} {n c : Nat} {w : World} (hU : U32At w w.heap.size A n often) (hlo : -9223372036854775808 ≤ limit) (hhi : limit ≤ 9223372036854775807) :
    Calls Tryz.prog 60 #[.slice A n c, .int .i64 limit] w (TellsB w (lensE often limit)) := by
  have hn := hU.1
  have hub := hU.2.1
  subst hn
  have HBad := hide (show (300 < often.length ∨ limit < 1 ∨ 15 < limit) → lensE often limit = ([], 13) from fun h => if_pos h)
  by_cases h300 : (300 : Int) < (often.length : Int)
  · have HN := hide (HBad.out (.inl (by omega)))
    generalize lensE often limit = res at *
    clear hU hub HBad
    go_enter Tryz.func60, Tryz.ntmps60
    go_wp2
    go_ret2
    rw [HN.out]
    exact ⟨_, rfl, OwnB.nil _ _, Ext.refl _⟩
  by_cases hl1 : limit < 1
  · have HN := hide (HBad.out (.inr (.inl hl1)))
    generalize lensE often limit = res at *
    clear hU hub HBad
    go_enter Tryz.func60, Tryz.ntmps60
    go_wp2
    go_ret2
    rw [HN.out]
    exact ⟨_, rfl, OwnB.nil _ _, Ext.refl _⟩
  by_cases hl2 : 15 < limit
  · have HN := hide (HBad.out (.inr (.inr hl2)))
    generalize lensE often limit = res at *
    clear hU hub HBad
    go_enter Tryz.func60, Tryz.ntmps60
    go_wp2
    go_ret2
    rw [HN.out]
    exact ⟨_, rfl, OwnB.nil _ _, Ext.refl _⟩
  clear HBad
  obtain ⟨L, rfl⟩ : ∃ L : Nat, limit = (L : Int) := ⟨limit.toNat, by omega⟩
  have hn300 : often.length ≤ 300 := by omega
  have hL1 : 1 ≤ L := by omega
  have hL15 : L ≤ 15 := by omega
  have HLim := hide (show 2 ^ L < (usedTo often often.length).length → lensE often (L : Int) = ([], 6) from fun h => by
    unfold lensE
    rw [if_neg (by omega), if_pos (by simpa using h)])
  have HOk := hide (show (usedTo often often.length).length ≤ 2 ^ L → lensE often (L : Int) = (lensL often L, 0) from fun h => by
    unfold lensE
    rw [if_neg (by omega), if_neg (by simpa using h)]
    rfl)
  have C1 := leavesOf_any sortC_holds (c := c) hn300 hU
  have HUle := hide (used_le (often := often) often.length)
  have hmap : ((usedTo often often.length).map pOf).length = (usedTo often often.length).length := List.length_map _
  have hpw := wrap_pow L hL15
  have hp15 : 2 ^ L ≤ 32768 := Nat.le_trans (Nat.pow_le_pow_right (by omega) hL15) (by decide)
  have HUb := hide hub
  clear hub hU hlo hhi
  generalize hres : lensE often (L : Int) = res at *
  clear hres
  obtain ⟨N, hN⟩ : ∃ N, N = often.length := ⟨_, rfl⟩
  obtain ⟨m, hm⟩ : ∃ m, m = (usedTo often often.length).length := ⟨_, rfl⟩
  obtain ⟨pw, hpw2⟩ : ∃ p, p = 2 ^ L := ⟨_, rfl⟩
  obtain ⟨lv, hlv⟩ : ∃ lv, lv = (usedTo often often.length).map pOf := ⟨_, rfl⟩
  rw [← hpw2] at hpw hp15
  rw [← hlv] at C1 hmap
  rw [← hm] at hmap
  rw [← hN] at C1 hn300 h300 ⊢
  have HNn := hide hN
  have HMm := hide hm
  have HPw := hide hpw2
  have HLv := hide hlv
  have hm300 : m ≤ 300 := by have := HUle.out; omega
  clear hN hm hpw2 hlv
  go_enter Tryz.func60, Tryz.ntmps60
  go_wp2_with fail
  refine C1.mono ?_
  rintro e w2 ⟨v, rfl, hO2, hE2⟩
  obtain ⟨Av, cv, rfl, hmc, hcm, hP⟩ := hO2.form
  rw [hmap] at hmc hP hO2 ⊢
  have HMap := hide hmap
  clear hmap
  by_cases hgt : pw < m
  · have HN := hide (HLim.out (by rw [← HPw.out, ← HMm.out]; exact hgt))
    have hgtI : (pw : Int) < (m : Int) := by omega
    clear hO2 hP
    go_wp2
    go_ret2
    rw [HN.out]
    exact ⟨_, rfl, OwnB.nil _ _, hE2⟩
  have HN := hide (HOk.out (by rw [← HPw.out, ← HMm.out]; omega))
  have hgtI : ¬ (pw : Int) < (m : Int) := by omega
  have HPow := hide (show (usedTo often often.length).length ≤ 2 ^ L by rw [← HPw.out, ← HMm.out]; omega)
  have HLensOf := hide (fun (O : List UInt8) (h0 : O.length = often.length) h2 => lens_of (often := often) (L := L) (O := O) h0 hL1 hL15 HPow.out h2)
  have hRl : (List.replicate N (0 : UInt8)).length = often.length := by simp [HNn.out]
  have hR0 : ∀ q, ((List.replicate N (0 : UInt8)).getD q 0).toNat = 0 := fun q => by
    rw [List.getD_eq_getElem?_getD, List.getElem?_replicate]
    split <;> rfl
  have HRl := hide hRl
  have HR0 := hide hR0
  clear hRl hR0
  generalize hz : List.replicate N (0 : UInt8) = Z at *
  have HZ := hide hz
  clear hz
  by_cases hm0 : m = 0
  · subst hm0
    clear hO2 hP
    go_wp2_with (refine wpList_makeB (n := N) rfl (.tmp 29) (.tmp 29) rfl rfl rfl (by omega) ?_; intro w3 hO3 hE3; rw [HZ.out] at hO3)
    go_ret2
    rw [HN.out]
    refine ⟨_, rfl, ?_, hE2.trans hE3⟩
    have hL := HLensOf.out Z HRl.out (fun q hq => by
      rw [HR0.out q]
      unfold lenN
      rw [if_pos (by rw [← HMm.out]; omega), List.eq_nil_of_length_eq_zero HMm.out.symm]
      rfl)
    dsimp only
    rw [← hL]
    exact hO3.mono hE2.le
  by_cases hm1 : m = 1
  · subst hm1
    have hu := used_at (often := often) (j := often.length) (i := 0) (by rw [← HMm.out]; omega)
    have hg0 : (lv.getD 0 (0, 0)).2 = sOf (usedTo often often.length) 0 := by
      rw [HLv.out]
      have h0 : 0 < (usedTo often often.length).length := by rw [← HMm.out]; omega
      have e := hu.2.2.2
      rw [List.getD_eq_getElem?_getD, List.getElem?_eq_getElem h0, Option.getD_some] at e
      rw [List.getD_eq_getElem?_getD, List.getElem?_map, List.getElem?_eq_getElem h0, Option.map_some, Option.getD_some, e]
      rfl
    have hcell : ∃ b o, Av = some ⟨b, o, none⟩ ∧ b < w2.heap.size ∧ w2.cell? ⟨b, o + 1, none⟩ = some (.int .i64 ((sOf (usedTo often often.length) 0 : Nat) : Int)) := by
      rcases hP.2 with h0 | ⟨b, o, e, hb, hc⟩
      · omega
      · have := (hc 0 (by omega)).2
        rw [hg0] at this
        exact ⟨b, o, e, hb, by simpa using this⟩
    obtain ⟨b, o, rfl, hb, hc1⟩ := hcell
    have hsN : sOf (usedTo often often.length) 0 < N := by rw [HNn.out]; exact hu.1
    have HOne := hide (show ∀ q, lenN often L q = if q = sOf (usedTo often often.length) 0 then 1 else 0 from fun q => lenN_one HMm.out.symm q)
    clear hu hg0 hO2 hP
    generalize sOf (usedTo often often.length) 0 = s0 at *
    have hsI : (s0 : Int) < (N : Int) := by omega
    go_wp2_with (refine wpList_makeB (n := N) rfl (.tmp 29) (.tmp 29) rfl rfl rfl (by omega) ?_; intro w3 hO3 hE3; rw [HZ.out] at hO3; have hc3 := (hE3.cell (i := o + 1) hb).trans hc1; obtain ⟨k1, k2⟩ := hO3.cell (i := s0) (by rw [HRl.out, ← HNn.out]; exact hsN); have HO3 := hide hO3)
    go_ret2
    rw [HN.out]
    have hG := grown_setCell w3 w2.heap.size s0 (.int .u8 1)
    have hL := HLensOf.out (Z.set s0 1) (by rw [List.length_set, HRl.out]) (fun q hq => by
      rw [HOne.out q]
      by_cases e : s0 = q
      · subst e
        rw [if_pos rfl, List.getD_eq_getElem?_getD, List.getElem?_set_self (by rw [HRl.out]; exact hq)]
        rfl
      · rw [if_neg (fun h => e h.symm), List.getD_eq_getElem?_getD, List.getElem?_set_ne e, ← List.getD_eq_getElem?_getD, HR0.out])
    refine ⟨_, rfl, ?_, Below.grown (hE2.trans hE3) hG (hE2.trans hE3).le (fun k hk => by cases hk; exact hE2.le)⟩
    dsimp only
    rw [← hL]
    exact (HO3.out.set s0 1).mono hE2.le
  have hR := lens_rows (often := often) (L := L) (by rw [← HNn.out]; exact hn300) hL1 hL15 (by rw [← HMm.out]; omega) HPow.out
  rw [← HLv.out, ← HMm.out, ← HNn.out] at hR
  have hw32 : ∀ x ∈ lv, x.1 < 4294967296 := fun x hx => by
    rw [HLv.out] at hx
    obtain ⟨q, _, rfl⟩ := leaf_each hx
    exact HUb.out q
  have hs300 : ∀ x ∈ lv, x.2 < 300 := fun x hx => by
    rw [HLv.out] at hx
    obtain ⟨q, hq, rfl⟩ := leaf_each hx
    rw [HNn.out] at hn300
    exact Nat.lt_of_lt_of_le hq hn300
  have HSmall := hide (show ∀ q, q < N → lenN often L q < 256 from fun q hq => by
    have := lenN_small (often := often) (L := L) (q := q) (by rw [← HNn.out]; exact hq) hL1 hL15 HPow.out
    omega)
  have HR := hide hR
  have HW := hide hw32
  have HS := hide hs300
  have HO2 := hide hO2
  have hm0I : ((m : Int) == 0) = false := by rw [beq_eq_false_iff_ne]; omega
  have hm1I : ((m : Int) == 1) = false := by rw [beq_eq_false_iff_ne]; omega
  clear hR hw32 hs300 hO2 hP
  go_wp2_with (refine wpList_makeB (n := N) rfl (.tmp 29) (.tmp 29) rfl rfl rfl (by omega) ?_; intro w3 hO3 hE3; rw [HZ.out] at hO3)
  have hE23 := hE2.trans hE3
  refine (rowsOf_any (lv := lv) (A := Av) (n := m) (c := cv) (L := L) (base := w.heap.size) HMap.out (by omega) hm300 hL1 hL15 (HO2.out.ext hE3) HW.out HS.out).mono ?_
  rintro e w4 ⟨v4, rfl, hR4, hE4⟩
  have hO4 := hO3.ext hE4
  obtain ⟨r1, r2, r3, r4, r5⟩ := HR.out
  have C3 := lenCount_any (lv := lv) (gl := w2.heap.size) (cl := N) (base := w2.heap.size) (N := N) (L := L) (F := 2 * m - 2) (v := v4) (O := Z) (tot := fun q => lenN often L q) hL1 hL15 hn300 hO4 (by rw [HRl.out, HNn.out]) hR4 r1 r2 r3 r4 (fun q hq => by rw [HR0.out q, r5 q hq, Nat.zero_add]) HSmall.out
  rw [show ((2 * m - 2 : Nat) : Int) = 2 * (m : Int) - 2 by omega] at C3
  have HR4 := hide hR4
  clear r1 r2 r3 r4 r5 hR4
  obtain ⟨A4, c4, rfl, _, _, _⟩ := HR4.out.form
  rw [List.length_map, List.length_range] at C3 ⊢
  have HC3 := hide C3
  have hEa := hE23.trans hE4
  have hb2 := hE2.le
  clear C3 C1
  go_wp2_with fail
  refine HC3.out.mono ?_
  rintro e w5 ⟨rfl, hG5, O5, hO5, hl5, h5⟩
  have H5 := hide h5
  have HL5 := hide hl5
  have HO5 := hide hO5
  have HG5 := hide hG5
  clear h5 hl5 hO5 hG5
  go_wp2
  go_ret2
  rw [HN.out]
  have hL := HLensOf.out O5 (by rw [HL5.out, HNn.out]) (fun q hq => H5.out q (by rw [HNn.out]; exact hq))
  refine ⟨_, rfl, ?_, Below.grown hEa HG5.out hEa.le (fun k hk => by cases hk; exact hb2)⟩
  dsimp only
  rw [← hL]
  exact HO5.out.mono hb2
theorem lensC_any (w : World) : LensC w := fun _ _ _ _ _ _ _ _ _ hU hlo hhi => pLens_any hU hlo hhi
end Go.Proofs.YthpbckignppaiaaGreatDoor

