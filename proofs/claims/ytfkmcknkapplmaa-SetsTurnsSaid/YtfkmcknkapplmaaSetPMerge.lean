/- The program's lists put together: slices.Clone at numbers, merged, together. -/
import Derived.Test.YtfkmcknkapplmaaSetPWalk
import Derived.Deep.QuietTactic
import Derived.BigQuiet
import Derived.Lib.SliceRun
namespace Go.Proofs.Ytfkmcknkapplmaa
open Go.RowKit Sets

theorem appIS_run {w : World} (ty : TypeId) {base : Nat} {v : Value} {L : List Int} (hown : OwnI w base v L) {A : Option Addr} {m : Nat} (c : Nat) {k : List Int} (hI : IntsAt w w.heap.size A m k) (hlen : L.length + m ≤ 2000000) (hbase : base ≤ w.heap.size) :
    ∃ v' w', (Builtin.append_ #[22, 22] ty #[v, .slice A m c]).run Try.prog w = .ok v' w' ∧ OwnI w' base v' (L ++ k) ∧ w.grownBy w' v.ownBlock ∧ NewOb w v.ownBlock v'.ownBlock := by
  obtain ⟨i, hi, hz, hs, hby⟩ := info_parts int_info
  rcases hI.2 with h0 | ⟨b, off, rfl, hb, hc⟩
  · subst h0
    have hk : k = [] := List.eq_nil_of_length_eq_zero hI.1
    subst hk
    refine ⟨v, w, ?_, by simpa using hown, World.grownBy.refl w _, .inl rfl⟩
    rcases hown.2 with ⟨rfl, _⟩ | ⟨g, cap, cur, rfl, _, _, hnc, _⟩
    · cases A <;> simp [Builtin.append_, run_underlying Try.underlying22, sizeOf, typeInfo, hi, Builtin.lenOf, Builtin.firstCells, loadCells, loadCellsFrom]
    · cases A <;> simp [Builtin.append_, run_underlying Try.underlying22, sizeOf, typeInfo, hi, Builtin.lenOf, Builtin.firstCells, loadCells, loadCellsFrom, hnc, storeCells]
  · have hkl := hI.1
    obtain ⟨v', w', hr, h2, h3, _, h5⟩ := run_append_own_at (P := Try.prog) w base 22 ty 3 i _ 1 8 Try.underlying22 hi hz hs hby rfl (by omega) v L.length (L.map (Value.int .i64)) hown
      ⟨b, off, none⟩ m c (k.map (Value.int .i64)) (by simp [hkl]) (by
        intro j u hu
        have hj : j < m := by
          rcases Nat.lt_or_ge j m with h | h
          · exact h
          · rw [List.getElem?_eq_none (by rw [List.length_map]; omega)] at hu; cases hu
        have e : (⟨b, off, none⟩ : Addr).add j = ⟨b, off + j, none⟩ := addr_addS b off j
        rw [e, hc j hj]
        rw [List.getElem?_map, List.getElem?_eq_getElem (by omega)] at hu
        simp [List.getD_eq_getElem?_getD, show j < k.length by omega] at hu ⊢
        exact hu) (by
        intro u hu
        obtain ⟨z, _, rfl⟩ := List.mem_map.1 hu
        rfl) (by unfold maxLen; omega) (by omega) hbase
    refine ⟨v', w', hr, ?_, h3, h5.imp id fun h => ⟨_, h, Nat.le_refl _⟩⟩
    unfold OwnI
    rw [List.length_append, List.map_append, hkl]
    exact h2
theorem wpList_appIS {ops : Array Oper} {rest : List Oper} {o : Oper} {a : Act} {Q : Exit → Act → World → Prop} {w : World} {base : Nat} {v : Value} {L : List Int} (hgd : o.guard = none) (s x : Operand) (ho : o.op = .call { callee := .builtin .append, args := #[s, x], argTypes := #[22, 22] }) (hs : a.eval s = v)
    (hown : OwnI w base v L) {A : Option Addr} {m c : Nat} {k : List Int} (hx : a.eval x = .slice A m c) (hI : IntsAt w w.heap.size A m k) (hlen : L.length + m ≤ 2000000) (hbase : base ≤ w.heap.size)
    (h : ∀ v' w', OwnI w' base v' (L ++ k) → w.grownBy w' v.ownBlock → NewOb w v.ownBlock v'.ownBlock → wpList Try.prog ops Q rest (a.put o.dst v') w') : wpList Try.prog ops Q (o :: rest) a w := by
  refine wpList_plain hgd fun _ hK => ?_
  obtain ⟨v', w', hr, h2, h3, h4⟩ := appIS_run o.type hown c hI hlen hbase
  unfold Oper.wp execOp
  simp only [ho, resolve, invoke, builtin, Sem.run_bind, Sem.run_pure, Result.andThen_ok, List.map_toArray, List.map_cons, List.map_nil, hs, hx, hr]
  exact hK _ _ (h v' w' h2 h3 h4)
theorem IntsAt.room {w : World} {B C n : Nat} {A : Option Addr} {L : List Int} (h : IntsAt w B A n L) (hC : B ≤ C) : IntsAt w C A n L :=
  ⟨h.1, h.2.imp_right fun ⟨b, o, hA, hB, hc⟩ => ⟨b, o, hA, Nat.lt_of_lt_of_le hB hC, hc⟩⟩
theorem OwnI.empty (w : World) {base : Nat} (h : base ≤ w.heap.size) : OwnI (w.alloc (.cells #[] 3)) base (.slice (some ⟨w.heap.size, 0, none⟩) 0 0) [] :=
  World.ownsRow_made (size := 1) w #[] 0 h (by unfold maxLen; omega) (by simp)
/-- 'make([]int, 0, n)'. -/
theorem wpList_makeRoom {ops : Array Oper} {rest : List Oper} {o : Oper} {a : Act} {Q : Exit → Act → World → Prop} {w : World} (hgd : o.guard = none) (x y : Operand) (ho : o.op = .makeSlice 22 x y) {n : Nat} (hx : a.eval x = .int .i64 0) (hy : a.eval y = .int .i64 (n : Int)) (hn : n ≤ 1000000)
    (h : ∀ w', OwnI w' w.heap.size (.slice (some ⟨w.heap.size, 0, none⟩) 0 n) [] → Ext w w' → wpList Try.prog ops Q rest (a.put o.dst (.slice (some ⟨w.heap.size, 0, none⟩) 0 n)) w') : wpList Try.prog ops Q (o :: rest) a w := by
  obtain ⟨i, hi, hz, hsz, hby⟩ := info_parts int_info
  refine wpList_make_own w hgd x y 22 ho w.heap.size 3 i _ 1 Try.underlying22 hi hz hsz .i64 .i64 _ n hx hy rfl (by rw [hby]; omega) (by unfold maxLen; omega) (Nat.le_refl _) ?_
  intro w' h1 h2
  exact h w' h1 (Below.grown (Ext.refl w) h2 (Nat.le_refl _) fun k hk => by cases hk)

set_option maxHeartbeats 1000000 in
theorem cloneI_any (A : Option Addr) (n c : Nat) (l : List Int) (w : World) (hn : n ≤ 1000000) (hb : IntsAt w w.heap.size A n l) :
    Calls Try.prog 40 #[.slice A n c] w (MadeL w l) := by
  have hnil := fun (W : World) (a : Option Addr) (n c n' c' : Nat) => Lib.run_eql_slice_nil (P := Try.prog) W 22 3 a n c n' c' Try.underlying22
  unfold MadeL
  rcases A with _ | ad
  · have hl : l = [] := by
      rcases hb.2 with h0 | ⟨_, _, h, _⟩
      · exact List.eq_nil_of_length_eq_zero (by rw [hb.1, h0])
      · cases h
    subst hl
    have hn0 : n = 0 := hb.1.symm
    subst hn0
    go_enter Try.func40, Try.ntmps40
    go_wp2
    go_ret
    exact ⟨none, 0, rfl, Nat.le_refl _, by unfold maxLen; omega, ⟨rfl, .inl rfl⟩, Ext.refl _⟩
  · have ho := OwnI.empty w (Nat.le_refl _)
    have hE := extNew w (.cells #[] 3)
    have hb' := hb.later hE
    have hB : w.heap.size ≤ (w.alloc (.cells #[] 3)).heap.size := by simp
    have hl0 : ([] : List Int).length + n ≤ 2000000 := by simp; omega
    go_enter Try.func40, Try.ntmps40
    go_wp2_with (at_builtin; refine wpList_appIS rfl (.tmp 5) (.tmp 6) rfl rfl ho rfl hb' hl0 hB ?_; intro v1 w1 hown1 hg1 hn1)
    go_ret
    obtain ⟨A2, c2, rfl, h1, h2, h3⟩ := OwnI.form2 hown1
    rw [List.nil_append] at h1 h3 ⊢
    exact ⟨A2, c2, rfl, h1, h2, h3, Below.grown hE hg1 (by simp) (fun k hk => (ho.lt k hk).1)⟩

set_option maxHeartbeats 2000000 in
set_option maxRecDepth 10000 in
theorem merged_any (A1 : Option Addr) (n1 c1 : Nat) (A2 : Option Addr) (n2 c2 : Nat) (a b : List Int) (w : World) (h1 : IntsAt w w.heap.size A1 n1 a) (h2 : IntsAt w w.heap.size A2 n2 b) (k1 : n1 ≤ 500000) (k2 : n2 ≤ 500000) (m2 : n2 ≤ c2) (j2 : c2 ≤ maxLen) (ha : ok a = true) (hb : ok b = true)
    {R : List Int} (hR : ∀ r, ok r = true → (∀ z, z ∈ r ↔ z ∈ a ∨ z ∈ b) → r = R) :
    Calls Try.prog 41 #[.slice A1 n1 c1, .slice A2 n2 c2] w (MadeL w R) := by
  have hl1 := h1.1
  have hl2 := h2.1
  have HA := hide h1
  have HB := hide h2
  have HM0 := hide (Mrg.start ha hb)
  have HR := hide (show ∀ P rb, Mrg a b P [] rb → P ++ rb = R from fun P rb h => hR _ h.done.1 h.done.2)
  obtain ⟨t, ht⟩ : ∃ t, t = n1 + n2 := ⟨_, rfl⟩
  have hsum : (n1 : Int) + (n2 : Int) = (t : Int) := by omega
  have hsum2 : t ≤ 1000000 := by omega
  have HT := hide ht
  have HL := hide (And.intro hl1 hl2)
  unfold MadeL
  clear h1 h2 ha hb hR ht hl1 hl2
  go_enter Try.func41, Try.ntmps41
  go_wp2_with (refine wpList_makeRoom (n := t) rfl (.const (.int .i64 0)) (.tmp 13) rfl rfl rfl hsum2 ?_; intro w1 hO1 hE1)
  obtain ⟨g, hg⟩ : ∃ g, g = w1.heap.size := ⟨_, rfl⟩
  have hlt1 := (hO1.lt w.heap.size rfl).2
  have hW := Whole.new w1 46 #[.slice A2 n2 c2]
  have hX := extNew w1 (.cells #[.slice A2 n2 c2] 46)
  rw [← hg] at hW
  have HW := hide hW
  have HO := hide (hO1.ext hX)
  have HE := hide (hE1.trans hX)
  have HG := hide (show w.heap.size < g by omega)
  rw [← hg]
  have HRow0 := hide (show IntsAt (w1.alloc (.cells #[.slice A2 n2 c2] 46)) w.heap.size A2 n2 b from HB.out.below (hE1.trans hX) (Nat.le_refl _))
  have HP0 := hide (show (Value.slice (some ⟨w.heap.size, 0, none⟩) 0 t).ownBlock ≠ some g by simp [Value.ownBlock]; omega)
  have HX0 := hide (And.intro HL.out.2.symm (And.intro m2 j2))
  clear hW hX hO1 hE1 hg hlt1 HB
  go_loopw [19, 5] (fun y u wr => ∃ (i : Nat) (v : Value) (P rb : List Int) (B : Option Addr) (m d : Nat), i ≤ n1 ∧ y = .int .i64 (i : Int) ∧ v = u ∧ OwnI wr w.heap.size v P ∧ v.ownBlock ≠ some g ∧ Whole wr g 46 #[.slice B m d] ∧ m = rb.length ∧ m ≤ d ∧ d ≤ maxLen ∧ IntsAt wr w.heap.size B m rb ∧ Mrg a b P (a.drop i) rb ∧ Ext w wr) (fun y _ _ => n1 - (intOf y).toNat)
  case atStart => exact ⟨0, _, [], b, A2, n2, c2, by omega, rfl, rfl, HO.out, HP0.out, HW.out, HX0.out.1, HX0.out.2.1, HX0.out.2.2, HRow0.out, HM0.out, HE.out⟩
  case round =>
    clear HW HO HE HRow0 HP0 HX0 HM0
    obtain ⟨i, v, P, rb, B, m, d, hi, rfl, rfl, hO, hne, hW, hm, hmd, hdm, hI, hM, hE⟩ := hrel
    have HPl := hide (show P.length + (a.drop i).length + rb.length ≤ 1000000 from by
      have h1 := hM.2.2.2
      have h2 := HL.out
      omega)
    by_cases hlt : i < n1
    · have hiI : (i : Int) < (n1 : Int) := by omega
      rcases (HA.out.later hE).2 with hn0 | ⟨b1, o1, rfl, _, hc1⟩
      · omega
      have e1 := hc1 i hlt
      obtain ⟨x, hx⟩ : ∃ x, x = a.getD i 0 := ⟨_, rfl⟩
      rw [← hx] at e1
      have HDr := hide (show a.drop i = x :: a.drop (i + 1) from by
        rw [List.drop_eq_getElem_cons (by rw [HL.out.1]; exact hlt), hx, List.getD_eq_getElem?_getD, List.getElem?_eq_getElem (by rw [HL.out.1]; exact hlt)]
        rfl)
      rw [HDr.out] at hM HPl
      have hm6 : m ≤ 1000000 := by have := HPl.out; omega
      have C := wBelow_any x (hW.at 0 (u := .slice B m d) rfl) (hW.frozen 0) hI hmd hm6
      have HO := hide hO
      have HNe := hide hne
      have HW := hide hW
      have HI := hide hI
      have HM := hide hM
      have HE := hide hE
      have HMm := hide hm
      have HD := hide (And.intro hmd hdm)
      clear hO hne hW hI hM hE hm hmd hdm hc1 hx
      go_wp2_with fail
      refine C.mono ?_
      rintro e w2 ⟨k, hk, rfl, hw2⟩
      have hkm : k ≤ m := by have := hk.1; have := HMm.out; omega
      have hGr2 : wr.grownBy w2 (some g) := by rw [hw2]; exact ⟨rfl, rfl, rfl, by simp, fun k _ hk => Below.heap_setCell wr ⟨g, 0, none⟩ _ k (fun e => hk (by rw [e]))⟩
      have hW2 : Whole w2 g 46 #[.slice (cutAt B d k) (m - k) (d - k)] := by rw [hw2]; simpa using HW.out.set 0 (.slice (cutAt B d k) (m - k) (d - k))
      have hBe2 : Below g wr w2 := Below.grown (Below.refl _ _) hGr2 (by have := HW.out.lt; omega) (fun k hk => by injection hk with hk; omega)
      have hE2 : Ext w w2 := Below.trans HE.out (Below.mono hBe2 (by have := HG.out; omega))
      have HO2 := hide (show OwnI w2 w.heap.size v P from World.ownsRow.kept HO.out hGr2 (.inr HNe.out))
      have hI2 : IntsAt w2 w.heap.size B m rb := HI.out.below hBe2 (by have := HG.out; omega)
      have HT2 := hide ((hI2.top hkm).room hE2.le)
      have HI2 := hide (hI2.cut hkm HD.out.1)
      have hp2 : P.length + k ≤ 2000000 := by have := HPl.out; omega
      have HW2 := hide hW2
      have HE2 := hide hE2
      have HK := hide hk
      clear hGr2 hW2 hBe2 hI2 hw2 C hk HO HW HI HE e1
      go_wp2_with (at_builtin; refine wpList_appIS (v := v) rfl (.tmp 23) (.tmp 25) rfl rfl HO2.out rfl HT2.out hp2 HE2.out.le ?_; intro v3 w3 hO3 hG3 hN3)
      have hW3 := HW2.out.ownGrown hG3 HNe.out
      have hne3 := hN3.ne HW2.out.lt HNe.out
      have hE3 : Ext w w3 := Below.grown HE2.out hG3 HE2.out.le (fun k hk => (HO2.out.lt k hk).1)
      have hI3 : IntsAt w3 w.heap.size (cutAt B d k) (m - k) (rb.drop k) := HI2.out.below (Below.grown (Below.refl _ _) hG3 HE2.out.le (fun k hk => (HO2.out.lt k hk).1)) (Nat.le_refl _)
      have C2 := wHas_any x (hW3.at 0 (u := .slice (cutAt B d k) (m - k) (d - k)) rfl) (hW3.frozen 0) hI3 (Nat.le_of_lt HG.out) (by have := HD.out; omega) (by omega) (by have := HD.out; omega)
      have HO3 := hide hO3
      have HNe3 := hide hne3
      have HE3 := hide hE3
      have HW3 := hide hW3
      clear hW3 hne3 hE3 hI3 hO3 hG3 hN3 HO2 HT2 HI2 HW2 HE2
      go_wp2_with fail
      refine C2.mono ?_
      rintro e w4 ⟨k2, f, u, hk2, hf, rfl, ⟨B4, d4, rfl, q1, q2, q3⟩, hw4⟩
      have hGr4 : w3.grownBy w4 (some g) := by rw [hw4]; exact ⟨rfl, rfl, rfl, by simp, fun k _ hk => Below.heap_setCell w3 ⟨g, 0, none⟩ _ k (fun e => hk (by rw [e]))⟩
      have hW4 : Whole w4 g 46 #[.slice B4 ((rb.drop k).drop (k2 + f.toNat)).length d4] := by rw [hw4]; simpa using HW3.out.set 0 (.slice B4 ((rb.drop k).drop (k2 + f.toNat)).length d4)
      have hBe4 : Below g w3 w4 := Below.grown (Below.refl _ _) hGr4 (by have := HW3.out.lt; omega) (fun k hk => by injection hk with hk; omega)
      have hE4 : Ext w w4 := Below.trans HE3.out (Below.mono hBe4 (by have := HG.out; omega))
      have HMr := hide (HM.out.step HK.out hk2 hf)
      generalize (rb.drop k).drop (k2 + f.toNat) = rb4 at *
      have hX := extNew w4 (.cells #[.int .i64 x] 3)
      have HO5 := hide ((show OwnI w4 w.heap.size v3 (P ++ rb.take k) from World.ownsRow.kept HO3.out hGr4 (.inr HNe3.out)).ext hX)
      have HW5 := hide (hW4.ext hX)
      have HE5 := hide (hE4.trans hX)
      have HI5 := hide (show IntsAt (w4.alloc (.cells #[.int .i64 x] 3)) w.heap.size B4 rb4.length rb4 from (q3.below (Below.mono hBe4 (by have := HG.out; omega)) (Nat.le_refl _)).below (Below.mono hX (hE4.le)) (Nat.le_refl _))
      have hp5 : (P ++ rb.take k).length ≤ 1000000 := by rw [List.length_append, List.length_take]; have := HPl.out; simp only [List.length_cons] at this; omega
      have HQ := hide (And.intro q1 q2)
      obtain ⟨P5, hP5⟩ : ∃ P5, P5 = P ++ rb.take k := ⟨_, rfl⟩
      rw [← hP5] at hp5 HO5 HMr
      have HB5 := hide HE5.out.le
      clear hGr4 hW4 hBe4 hE4 hX q1 q2 q3 hw4 hP5 C2 HO3 HW3 HE3 HM HNe hf hk2
      go_wp2_with (at_builtin; refine wpList_appIN (v := v3) rfl (.tmp 29) (.tmp 31) rfl rfl HO5.out rfl (p := x) (by rw [cellNew]; rfl) hp5 HB5.out ?_; intro v6 w6 hO6 hG6 hN6)
      go_roundw
      case rel =>
        have hB6 : Below w.heap.size (w4.alloc (.cells #[.int .i64 x] 3)) w6 := Below.grown (Below.refl _ _) hG6 HB5.out (fun k hk => (HO5.out.lt k hk).1)
        exact ⟨i + 1, v6, P5 ++ [x], rb4, B4, rb4.length, d4, by omega, by go_num, rfl, hO6, hN6.ne HW5.out.lt HNe3.out, HW5.out.ownGrown hG6 HNe3.out, rfl, HQ.out.1, HQ.out.2, HI5.out.below hB6 (Nat.le_refl _), HMr.out, Below.trans HE5.out hB6⟩
      case measure => simp [intOf]; omega
    · obtain rfl : n1 = i := by omega
      rw [List.drop_of_length_le (by rw [HL.out.1]; exact Nat.le_refl _)] at hM
      have HF := hide (HR.out P rb hM)
      have f0 := hW.at 0 (u := .slice B m d) rfl
      have hp : P.length + m ≤ 2000000 := by have := HPl.out; omega
      have HO := hide hO
      have HI := hide (hI.room hE.le)
      have HE := hide hE
      clear hO hI hE hW hM hm
      go_wp2_with (at_builtin; refine wpList_appIS (v := v) rfl (.tmp 34) (.tmp 36) rfl rfl HO.out rfl HI.out hp HE.out.le ?_; intro v3 w3 hO3 hG3 hN3)
      go_ret
      obtain ⟨A3, c3, rfl, q1, q2, q3⟩ := OwnI.form2 hO3
      rw [HF.out] at q1 q3 ⊢
      exact ⟨A3, c3, rfl, q1, q2, q3, Below.grown HE.out hG3 HE.out.le (fun k hk => (HO.out.lt k hk).1)⟩
end Go.Proofs.Ytfkmcknkapplmaa
