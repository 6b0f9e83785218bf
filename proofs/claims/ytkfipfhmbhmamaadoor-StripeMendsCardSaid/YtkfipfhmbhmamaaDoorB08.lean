/- The document's Mend. Lists of truth values of the call's own. Lists of rows of the call's own, several side by side: no row lies in a block that holds one of the lists. Lists of the call's own side by side: rows of bytes, and bytes; none of the rows lies in a block of either. -/
import Derived.Test.YtkfipfhmbhmamaaDoorB07
import Derived.Laws.OwnMore
import Derived.Maps.AppendAt
namespace Go.Proofs.YtkfipfhmbhmamaaDoor
open Go.RowKit

/-- A slice of truth values that came in. -/
def BoolsAt (w : World) (B : Nat) (A : Option Addr) (n : Nat) (L : List Bool) : Prop :=
  L.length = n ∧ (n = 0 ∨ ∃ b off, A = some ⟨b, off, none⟩ ∧ b < B ∧ ∀ i, i < n → w.cell? ⟨b, off + i, none⟩ = some (.bool (L.getD i false)))
theorem IntsAt.ext {w w' : World} {A : Option Addr} {n : Nat} {L : List Int} (h : IntsAt w w.heap.size A n L) (hE : Ext w w') : IntsAt w' w'.heap.size A n L := by
  have := h.below (C := w.heap.size) hE (Nat.le_refl _)
  refine ⟨this.1, this.2.imp_right ?_⟩
  rintro ⟨b, off, e, hb, hc⟩
  exact ⟨b, off, e, Nat.lt_of_lt_of_le hb hE.le, hc⟩
theorem cutAt_0 {A : Option Addr} {c : Nat} : cutAt A c 0 = A := by
  unfold cutAt
  split
  · rfl
  · cases A with
    | none => rfl
    | some a => simp [Addr.add]
theorem IntsAt.head {w : World} {B : Nat} {A : Option Addr} {n k : Nat} {L : List Int} (h : IntsAt w B A n L) (hk : k ≤ n) : IntsAt w B A k (L.take k) := by
  refine ⟨by rw [List.length_take, h.1]; omega, ?_⟩
  rcases h.2 with h0 | ⟨b, off, e, hb, hc⟩
  · exact .inl (by omega)
  · refine .inr ⟨b, off, e, hb, fun i hi => ?_⟩
    have e2 : (L.take k).getD i 0 = L.getD i 0 := by simp [List.getD_eq_getElem?_getD, hi]
    rw [e2]
    exact hc i (by omega)
theorem run_headI (W : World) (a : Option Addr) (n c : Nat) (k : IntKind) (h : Int) (h0 : 0 ≤ h) (h1 : h ≤ c) :
    (Instr.slice 32 (.slice a n c) none (some (.int k h)) none).run Tryd.prog W = .ok (.slice (cutAt a c 0) h.toNat c) W := by
  rw [run_slice_h (P := Tryd.prog) (w := W) 32 a n c (by kernel_rfl) k h h0 h1]
  have hs : (sizeOf (Tryd.prog.elem 32)).run Tryd.prog W = .ok 1 W := by kernel_rfl
  rw [hs]
  simp [Result.andThen, sliced, cutAt]
theorem run_append_zeroP (w : World) (ty : TypeId) (base : Nat) (v : Value) (n : Nat) (xs : List Value) (hown : w.ownsRow base 27 1 v n xs) (A : Option Addr) (c : Nat) :
    (Builtin.append_ #[55, 55] ty #[v, .slice A 0 c]).run Tryd.prog w = .ok v w := by
  obtain ⟨i, hi, _, _, _⟩ := info_parts rw_info
  rcases hown.2 with ⟨rfl, _⟩ | ⟨g, cap, cur, rfl, _, _, hnc, _⟩
  · cases A <;> simp [Builtin.append_, run_underlying Tryd.underlying55, sizeOf, typeInfo, hi, Builtin.lenOf, Builtin.firstCells, loadCells, loadCellsFrom]
  · cases A <;> simp [Builtin.append_, run_underlying Tryd.underlying55, sizeOf, typeInfo, hi, Builtin.lenOf, Builtin.firstCells, loadCells, loadCellsFrom, hnc, storeCells]
section
variable {o : Oper} {a : Act} {Q : Exit → Act → World → Prop} {w : World} {base b2 : Nat} {v : Value} {ls ms : List (List UInt8)}
/-- append of a list of rows that lie in later memory. -/
theorem wpList_appPP {ops : Array Oper} {rest : List Oper} (hgd : o.guard = none) (s x : Operand) (ho : o.op = .call { callee := .builtin .append, args := #[s, x], argTypes := #[55, 55] }) (hs : a.eval s = v)
    (h : OwnP w base v ls) {A : Option Addr} {c : Nat} (hx : a.eval x = .slice A ms.length c) (h2 : OwnN w b2 (.slice A ms.length c) ms) (hb2 : ∀ k, v.ownBlock = some k → k < b2) (hlen : ls.length + ms.length ≤ 1000) (hbase : base ≤ w.heap.size)
    (hk : ∀ v' w', OwnP w' base v' (ls ++ ms) → w.grownBy w' v.ownBlock → wpList Tryd.prog ops Q rest (a.put o.dst v') w') : wpList Tryd.prog ops Q (o :: rest) a w := by
  by_cases h0 : ms.length = 0
  · obtain rfl : ms = [] := List.eq_nil_of_length_eq_zero h0
    obtain ⟨R, h1, _⟩ := h.own
    have hr := run_append_zeroP w o.type base v _ _ h1 A c
    refine wpList_plain hgd fun K hK => ?_
    unfold Oper.wp execOp
    simp only [ho, resolve, invoke, builtin, Sem.run_bind, Sem.run_pure, Result.andThen_ok, List.map_toArray, List.map_cons, List.map_nil, hs, hx, List.length_nil, hr]
    exact hK _ _ (hk v w (by simpa using h) (World.grownBy.refl w _))
  · obtain ⟨i, hi, hz, hsz, hby⟩ := info_parts rw_info
    obtain ⟨R, h1, h3⟩ := h.own
    obtain ⟨X, hX1, hX2⟩ := h2.own
    obtain ⟨A', c', hv, _, _, hR⟩ := h2.toP.form
    rcases hR.2 with e | ⟨b, off, rfl, _, _⟩
    · exact absurd e h0
    simp only [Value.slice.injEq] at hv
    obtain ⟨rfl, _, rfl⟩ := hv
    have hoff : off = 0 := by
      rcases hX1.2 with ⟨e, _⟩ | ⟨g, cap, cur, e, _⟩
      · cases e
      · simp only [Value.slice.injEq, Option.some.injEq, Addr.mk.injEq, and_true] at e
        exact e.1.2
    subst hoff
    refine wpList_append_own_at _ hgd s x 55 ho base 27 i _ 1 24 Tryd.underlying55 hi hz hsz hby rfl (by omega) v ls.length _ hs h1 ⟨b, 0, none⟩ ms.length c ((List.range ms.length).map X) hx (by simp) (fun j u hu => by
      have hj : j < ms.length := by
        have := (List.getElem?_eq_some_iff.1 hu).1
        simpa using this
      have hc := World.ownsRow.cellAt hX1 j (by omega)
      rw [show (⟨b, 0, none⟩ : Addr).add j = ⟨b, j, none⟩ by simp [Addr.add]; exact Eq.symm, hc]
      exact hu) (fun u hu => by
      obtain ⟨j, hj, rfl⟩ := List.mem_map.1 hu
      obtain ⟨A5, k5, e5, _⟩ := (hX2 j (List.mem_range.1 hj)).1
      rw [e5]
      rfl) (by unfold maxLen; omega) (by omega) hbase ?_
    intro v' w' h4 h5 _ h6
    refine hk v' w' (OwnP.app (H := w.heap.size) h3 (fun i hi => ⟨(hX2 i hi).1, (hX2 i hi).2.2.clear hb2⟩) (Nat.le_refl _) h4 h5 h6) h5
/-- Rows more, all new: what append leaves. -/
theorem OwnN.app {w w' : World} {R : Nat → Value} (h2 : ∀ i, i < ls.length → RowOf w w.heap.size (R i) (ls.getD i []) ∧ Clear v (R i) ∧ NewX base (R i)) {v' : Value} {H : Nat} {X : Nat → Value} (hX : ∀ i, i < ms.length → RowOf w w.heap.size (X i) (ms.getD i []) ∧ Clear v (X i) ∧ NewX base (X i)) (hH : w.heap.size ≤ H)
    (hO : w'.ownsRow base 27 1 v' (ls.length + ms.length) ((List.range ls.length).map R ++ (List.range ms.length).map X))
    (hG : w.grownBy w' v.ownBlock) (hN : v'.ownBlock = v.ownBlock ∨ v'.ownBlock = some H) : OwnN w' base v' (ls ++ ms) := by
  refine ⟨fun i => if i < ls.length then R i else X (i - ls.length), ?_, fun i hi => ?_⟩
  · have e : (List.range (ls ++ ms).length).map (fun i => if i < ls.length then R i else X (i - ls.length)) = (List.range ls.length).map R ++ (List.range ms.length).map X := by
      apply List.ext_getElem?
      intro i
      rw [List.length_append]
      by_cases hi : i < ls.length
      · rw [List.getElem?_append_left (by simpa using hi)]
        simp [hi, show i < ls.length + ms.length by omega]
      · rw [List.getElem?_append_right (by simpa using Nat.le_of_not_lt hi)]
        by_cases hi2 : i < ls.length + ms.length
        · simp [hi, hi2, show i - ls.length < ms.length by omega]
        · rw [List.getElem?_eq_none (by simp; omega), List.getElem?_eq_none (by simp; omega)]
    rw [e, List.length_append]
    exact hO
  · rw [List.length_append] at hi
    by_cases hil : i < ls.length
    · obtain ⟨a, b, c⟩ := h2 i hil
      have e : (ls ++ ms).getD i [] = ls.getD i [] := by simp [List.getD_eq_getElem?_getD, List.getElem?_append_left hil]
      simp only [hil, if_true]
      rw [e]
      exact ⟨a.grown b hG, b.later a hH hN, c⟩
    · obtain ⟨a, b, c⟩ := hX (i - ls.length) (by omega)
      have e : (ls ++ ms).getD i [] = ms.getD (i - ls.length) [] := by simp [List.getD_eq_getElem?_getD, List.getElem?_append_right (Nat.le_of_not_lt hil)]
      simp only [hil, if_false]
      rw [e]
      exact ⟨a.grown b hG, b.later a hH hN, c⟩
/-- append of a list of rows that lie in later memory, all rows new. -/
theorem wpList_appNN {ops : Array Oper} {rest : List Oper} (hgd : o.guard = none) (s x : Operand) (ho : o.op = .call { callee := .builtin .append, args := #[s, x], argTypes := #[55, 55] }) (hs : a.eval s = v)
    (h : OwnN w base v ls) {A : Option Addr} {c : Nat} (hx : a.eval x = .slice A ms.length c) (h2 : OwnN w b2 (.slice A ms.length c) ms) (hb2 : ∀ k, v.ownBlock = some k → k < b2) (hlen : ls.length + ms.length ≤ 1000) (hbase : base ≤ w.heap.size) (hbb : base ≤ b2)
    (hk : ∀ v' w', OwnN w' base v' (ls ++ ms) → w.grownBy w' v.ownBlock → wpList Tryd.prog ops Q rest (a.put o.dst v') w') : wpList Tryd.prog ops Q (o :: rest) a w := by
  by_cases h0 : ms.length = 0
  · obtain rfl : ms = [] := List.eq_nil_of_length_eq_zero h0
    obtain ⟨R, h1, _⟩ := h.own
    have hr := run_append_zeroP w o.type base v _ _ h1 A c
    refine wpList_plain hgd fun K hK => ?_
    unfold Oper.wp execOp
    simp only [ho, resolve, invoke, builtin, Sem.run_bind, Sem.run_pure, Result.andThen_ok, List.map_toArray, List.map_cons, List.map_nil, hs, hx, List.length_nil, hr]
    exact hK _ _ (hk v w (by simpa using h) (World.grownBy.refl w _))
  · obtain ⟨i, hi, hz, hsz, hby⟩ := info_parts rw_info
    obtain ⟨R, h1, h3⟩ := h.own
    obtain ⟨X, hX1, hX2⟩ := h2.own
    obtain ⟨A', c', hv, _, _, hR⟩ := h2.toP.form
    rcases hR.2 with e | ⟨b, off, rfl, _, _⟩
    · exact absurd e h0
    simp only [Value.slice.injEq] at hv
    obtain ⟨rfl, _, rfl⟩ := hv
    have hoff : off = 0 := by
      rcases hX1.2 with ⟨e, _⟩ | ⟨g, cap, cur, e, _⟩
      · cases e
      · simp only [Value.slice.injEq, Option.some.injEq, Addr.mk.injEq, and_true] at e
        exact e.1.2
    subst hoff
    refine wpList_append_own_at _ hgd s x 55 ho base 27 i _ 1 24 Tryd.underlying55 hi hz hsz hby rfl (by omega) v ls.length _ hs h1 ⟨b, 0, none⟩ ms.length c ((List.range ms.length).map X) hx (by simp) (fun j u hu => by
      have hj : j < ms.length := by
        have := (List.getElem?_eq_some_iff.1 hu).1
        simpa using this
      have hc := World.ownsRow.cellAt hX1 j (by omega)
      rw [show (⟨b, 0, none⟩ : Addr).add j = ⟨b, j, none⟩ by simp [Addr.add]; exact Eq.symm, hc]
      exact hu) (fun u hu => by
      obtain ⟨j, hj, rfl⟩ := List.mem_map.1 hu
      obtain ⟨A5, k5, e5, _⟩ := (hX2 j (List.mem_range.1 hj)).1
      rw [e5]
      rfl) (by unfold maxLen; omega) (by omega) hbase ?_
    intro v' w' h4 h5 _ h6
    refine hk v' w' (OwnN.app (H := w.heap.size) h3 (fun i hi => ⟨(hX2 i hi).1, (hX2 i hi).2.2.clear hb2, (hX2 i hi).2.2.mono hbb⟩) (Nat.le_refl _) h4 h5 h6) h5
end

theorem wp_storeW {P : Program} {op : Oper} {a : Act} {w : World} {K : Act → World → Prop} {Q : Exit → Act → World → Prop} (ty : TypeId) (x y : Operand) (ho : op.op = .store ty x y)
    {g : Nat} {t : TypeId} {cs cells : Array Value} (hx : a.eval x = .pointer (some ⟨g, 0, none⟩)) (hy : a.eval y = .agg cells) (hw : Whole w g t cs) (hs : cells.size = cs.size)
    (hi : (P.info? ty).map (·.size) = some cells.size) (h1 : cells.all (·.oneCell') = true)
    (h : ∀ w', Whole w' g t cells → w.grownBy w' (some g) → K (a.put op.dst undef) w') : op.wp P a w K Q := by
  refine wp_store_mid ty x y ho g 0 cells hx hy (fun j hj => ?_) hi h1 (h _ (hw.storeAll hs) (setCells_grown g _ _ _).1)
  rw [Nat.zero_add]
  refine ⟨?_, hw.frozen j⟩
  rw [hw.cell j, Array.getElem?_eq_getElem (by omega)]
  rfl
theorem OwnB.bytesR {w : World} {base n k : Nat} {A : Option Addr} {l : List UInt8} (h : OwnB w base (.slice A n k) l) : Bytes w w.heap.size A n l := by
  obtain ⟨A', n', k', hv, _, _, h3⟩ := h.form'
  simp only [Value.slice.injEq] at hv
  obtain ⟨rfl, rfl, rfl⟩ := hv
  exact h3
theorem apart_nil (u : Value) : Apart (.slice none 0 0) u := by
  intro a h
  simp [Value.ownBlock] at h
def allTo (parts : List (List UInt8)) (good : List Bool) (j : Nat) : List (List UInt8) := ((List.range j).filter fun i => good.getD i false).map fun i => parts.getD i []
def atTo (good : List Bool) (j : Nat) : List Int := ((List.range j).filter fun i => good.getD i false).map Int.ofNat
theorem allTo_yes {parts : List (List UInt8)} {good : List Bool} {j : Nat} (h : good.getD j false = true) : allTo parts good (j + 1) = allTo parts good j ++ [parts.getD j []] := by
  unfold allTo
  rw [List.range_succ, List.filter_append, List.map_append]
  simp only [List.filter_cons, h, if_true, List.filter_nil, List.map_cons, List.map_nil]
theorem atTo_yes {good : List Bool} {j : Nat} (h : good.getD j false = true) : atTo good (j + 1) = atTo good j ++ [(j : Int)] := by
  unfold atTo
  rw [List.range_succ, List.filter_append, List.map_append]
  simp only [List.filter_cons, h, if_true, List.filter_nil, List.map_cons, List.map_nil]
  rfl
theorem allTo_no {parts : List (List UInt8)} {good : List Bool} {j : Nat} (h : good.getD j false = false) : allTo parts good (j + 1) = allTo parts good j := by
  unfold allTo
  rw [List.range_succ, List.filter_append, List.map_append]
  simp only [List.filter_cons, h, List.filter_nil, List.map_nil, List.append_nil, Bool.false_eq_true, if_false]
theorem atTo_no {good : List Bool} {j : Nat} (h : good.getD j false = false) : atTo good (j + 1) = atTo good j := by
  unfold atTo
  rw [List.range_succ, List.filter_append, List.map_append]
  simp only [List.filter_cons, h, List.filter_nil, List.map_nil, List.append_nil, Bool.false_eq_true, if_false]
theorem allTo_len (parts : List (List UInt8)) (good : List Bool) (j : Nat) : (allTo parts good j).length ≤ j := by
  unfold allTo
  rw [List.length_map]
  refine Nat.le_trans (List.length_filter_le _ _) (by simp)
theorem atTo_len (good : List Bool) (j : Nat) : (atTo good j).length ≤ j := by
  unfold atTo
  rw [List.length_map]
  refine Nat.le_trans (List.length_filter_le _ _) (by simp)

attribute [local go_sem ↓] run_headI run_headRs
set_option maxHeartbeats 1600000 in
set_option maxRecDepth 100000 in
theorem refMendN_any (k m : Int) (A1 A2 : Option Addr) (c1 c2 : Nat) (parts : List (List UInt8)) (good : List Bool) (w : World) (hk64 : k ≤ 9223372036854775807) (h1 : RowsAt w w.heap.size A1 parts.length parts) (h2 : BoolsAt w w.heap.size A2 good.length good)
    (hl1 : parts.length ≤ 1000000) (hrow : ∀ i, i < parts.length → (parts.getD i []).length ≤ 1000000) :
    Calls Tryd.prog 36 #[.int .i64 k, .int .i64 m, .slice A1 parts.length c1, .slice A2 good.length c2] w (MadeNE w (mendE k m parts good).1 (mendE k m parts good).2) := by
  have M1 := fun W => refMayK_any k m W hk64
  by_cases hm : mayK k m = true
  · obtain ⟨q1, q2, q3, q4⟩ := mayK_iff.1 hm
    rw [hm] at M1
    by_cases hlen : (parts.length : Int) = k + m ∧ (good.length : Int) = k + m
    · obtain ⟨hp, hg⟩ := hlen
      obtain ⟨k, rfl⟩ := Int.eq_ofNat_of_zero_le (show 0 ≤ k by omega)
      obtain ⟨m, rfl⟩ := Int.eq_ofNat_of_zero_le q2
      have hk1 : 1 ≤ k := by omega
      have hkm : k + m ≤ 255 := by omega
      have HE := hide (show mendE k m parts good = if alike ((goodAt good).map fun i => parts.getD i []) then
          if ((goodAt good).length : Int) < k then ([], 12)
          else (codeL k (k + m) (timesL k k (backX k ((goodAt good).take k)) (((goodAt good).map fun i => parts.getD i []).take k)), 0)
        else ([], 13) by
          unfold mendE
          rw [if_pos ⟨hm, hp, hg⟩]
          simp only [Int.toNat_natCast])
      have hgl : good.length = parts.length := by omega
      have hpn : parts.length = k + m := by omega
      have HAll := hide (show allTo parts good parts.length = (goodAt good).map fun i => parts.getD i [] by unfold allTo goodAt; rw [hgl])
      have HAt := hide (show atTo good parts.length = (goodAt good).map Int.ofNat by unfold atTo goodAt; rw [hgl])
      have hne1 : ((parts.length : Int) != (k : Int) + (m : Int)) = false := by simp; omega
      have hne2 : ((good.length : Int) != (k : Int) + (m : Int)) = false := by simp; omega
      have hsum : IntKind.i64.wrap ((k : Int) + (m : Int)) = (k : Int) + (m : Int) := by rw [IntKind.wrap_i64]; omega
      have HGL := hide hgl
      have HPN := hide hpn
      have hp255 : parts.length ≤ 255 := by omega
      have HRow := hide hrow
      generalize mendE k m parts good = res at *
      clear hm q1 q2 q3 q4 hp hg hgl hpn hrow
      go_enter Tryd.func36, Tryd.ntmps36
      go_wp2_with fail
      refine (M1 _).mono ?_
      rintro e w1 ⟨rfl, rfl⟩
      clear M1
      go_wp2_with fail
      go_loopw [10, 11, 12] (fun v u x wr => ∃ j : Nat, j ≤ parts.length ∧ x = .int .i64 (j : Int) ∧ OwnQ wr w.heap.size v (allTo parts good j) ∧ OwnI wr w.heap.size u (atTo good j) ∧ Apart v u ∧ Ext w wr) (fun _ _ x _ => parts.length - (intOf x).toNat)
      case atStart => exact ⟨0, by omega, rfl, OwnQ.nil _ _, OwnI.nil _ _, apart_nil _, Ext.refl _⟩
      case round =>
        obtain ⟨j, hj, rfl, hQ, hI, hA, hE⟩ := hrel
        by_cases hlt : j < parts.length
        · rcases h1.2 with h0 | ⟨b1, o1, rfl, hb1, hc1⟩
          · omega
          rcases h2.2 with h0 | ⟨b2, o2, rfl, hb2, hc2⟩
          · have := HGL.out; omega
          obtain ⟨x, kx, hx⟩ := hc1 j hlt
          have kx' := (hE.cell (i := o1 + j) hb1).trans kx
          have kg := (hE.cell (i := o2 + j) hb2).trans (hc2 j (by have := HGL.out; omega))
          have hx' := hx.below (Below.mono hE (Nat.le_refl _))
          obtain ⟨Ax, kkx, rfl, hxk⟩ := hx'
          have hrx : RowOf wr w.heap.size (.slice Ax (parts.getD j []).length kkx) (parts.getD j []) := ⟨Ax, kkx, rfl, hxk⟩
          have hj0 : (0 : Int) ≤ (j : Int) := by omega
          have hj1 : (j : Int) < (parts.length : Int) := by omega
          have hj2 : (j : Int) < (good.length : Int) := by have := HGL.out; omega
          clear hc1 hc2 hx hxk kx
          obtain ⟨bt, hbt⟩ : ∃ bt, bt = good.getD j false := ⟨_, rfl⟩
          rw [← hbt] at kg
          cases bt
          · have HY := hide (allTo_no (parts := parts) hbt.symm)
            have HZ := hide (atTo_no hbt.symm)
            clear hbt
            go_wp2_with fail
            go_roundw
            case rel => exact ⟨j + 1, by omega, by go_num, by rw [HY.out]; exact hQ, by rw [HZ.out]; exact hI, hA, hE⟩
            case measure => simp [intOf]; omega
          · have HY := hide (allTo_yes (parts := parts) hbt.symm)
            have HZ := hide (atTo_yes hbt.symm)
            have hl10 : (allTo parts good j).length ≤ 1000 := by have := allTo_len parts good j; omega
            have hl11 : (atTo good j).length ≤ 1000 := by have := atTo_len good j; omega
            have hbase := hE.le
            have hEa := extNew wr (.cells #[.slice Ax (parts.getD j []).length kkx] 27)
            have hIa := hI.ext hEa
            generalize parts.getD j [] = lx at *
            clear hbt
            go_wp2_with (first
              | (at_builtin; refine wpList_appQ rfl (.tmp 56) (.tmp 61) rfl rfl hQ hrx rfl hl10 hbase ?_; intro v4 w4 hQ4 hG4 hN4; have hI4 := hIa.kept hG4 hA.symm.row; have hA4 := hA.next hN4 (fun k hk => Nat.lt_succ_of_lt (hI.lt k hk).2); have hE4 : Ext w w4 := Below.grown (hE.trans hEa) hG4 (hE.trans hEa).le (fun k hk => (hQ.lt k hk).1); have hbase4 := hE4.le; have hEb := extNew w4 (.cells #[.int .i64 (j : Int)] 3); have hIb := hI4.ext hEb; have hQb := hQ4.ext hEb hbase4)
              | (at_builtin; refine wpList_appI' rfl (.tmp 63) (.tmp 65) rfl rfl (j : Int) hIb rfl hl11 hbase4 ?_; intro v5 w5 hI5 hG5 hN5))
            have hb5 : w.heap.size ≤ (w4.alloc (.cells #[.int .i64 (j : Int)] 3)).heap.size := by rw [World.size_alloc]; omega
            have hQ5 := hQb.kept hG5 hb5 (fun k hk => (hI4.lt k hk).1) hA4.row
            have hA5 := (hA4.symm.next hN5 (fun k hk => Nat.lt_succ_of_lt (hQ4.lt k hk).2)).symm
            have hE5 : Ext w w5 := Below.grown (hE4.trans hEb) hG5 (hE4.trans hEb).le (fun k hk => (hI4.lt k hk).1)
            go_roundw
            case rel => exact ⟨j + 1, by omega, by go_num, by rw [HY.out]; exact hQ5, by rw [HZ.out]; exact hI5, hA5, hE5⟩
            case measure => simp [intOf]; omega
        · obtain rfl : j = parts.length := by omega
          rw [HAll.out] at hQ
          rw [HAt.out] at hI
          obtain ⟨A3, c3, rfl, hc3, hm3, hR⟩ := (hQ.toP hE.le).form
          obtain ⟨A5, c5, rfl, hc5, hP⟩ := hI.form
          have hgn := goodAt_nodup good
          have hgm : ∀ x ∈ goodAt good, x < k + m := fun x hx => by have := (goodAt_mem.1 hx).1; have := HGL.out; have := HPN.out; omega
          have hrow0 : ∀ i, i < (goodAt good).length → (((goodAt good).map fun i => parts.getD i []).getD i []).length ≤ 1000000 := fun i hi => by
            rw [getD_mapL hi]
            have hmem : (goodAt good).getD i 0 ∈ goodAt good := by rw [List.getD_eq_getElem?_getD, List.getElem?_eq_getElem hi]; exact List.getElem_mem hi
            exact HRow.out _ (by have := (goodAt_mem.1 hmem).1; have := HGL.out; omega)
          have hgl2 : (goodAt good).length ≤ 255 := by have := allTo_len parts good parts.length; rw [HAll.out, List.length_map] at this; omega
          have hal1 : ((goodAt good).map fun i => parts.getD i []).length = (goodAt good).length := List.length_map _
          have hal2 : ((goodAt good).map Int.ofNat).length = (goodAt good).length := List.length_map _
          rw [hal1] at hR ⊢
          rw [hal2] at hP ⊢
          rw [hal1] at hc3
          rw [hal2] at hc5
          have L1 := fun W h => refAlike6_any A3 c3 ((goodAt good).map fun i => parts.getD i []) W h (by rw [hal1]; omega)
          rw [hal1] at L1
          clear HAll HAt HRow hQ hI hA h1 h2 HGL HPN hm3 hlt hj
          generalize hAL : ((goodAt good).map fun i => parts.getD i []) = al at *
          generalize goodAt good = ga at *
          have hall : al.length = ga.length := hal1
          have HALL := hide hall
          clear hAL hal1 hal2 hall
          have hlt' : ¬ ((parts.length : Int) < (parts.length : Int)) := by omega
          by_cases ha : alike al
          · simp only [decide_eq_true ha] at L1
            by_cases hfew : (ga.length : Int) < (k : Int)
            · have HN := hide (show res = ([], 12) by rw [HE.out, if_pos ha, if_pos hfew])
              clear HE ha
              go_wp2_with fail
              refine (L1 _ hR).mono ?_
              rintro e w2 ⟨rfl, hE2⟩
              go_wp2
              go_ret2
              rw [HN.out]
              exact ⟨_, rfl, OwnN.nil _ _, hE.trans hE2⟩
            · have HN := hide (show res = (codeL k (k + m) (timesL k k (backX k (ga.take k)) (al.take k)), 0) by rw [HE.out, if_pos ha, if_neg hfew])
              have hkg : k ≤ ga.length := by omega
              have HAlk := hide ha
              clear HE ha
              go_wp2_with fail
              refine (L1 _ hR).mono ?_
              rintro e v1 ⟨rfl, hF1⟩
              have q1 := hE.trans hF1
              have hR1 := hR.ext hF1
              have hP1 := (hP.ext hF1).head hkg
              clear L1 hR hP hE hF1
              have hLl : (ga.take k).length = k := by rw [List.length_take]; omega
              obtain ⟨II, CC, SS, TT, i1, i2, i3, i4, i5, l1, l2, l3, l4⟩ := rs_calls (n := k) (p := m) hkm hLl (nodup_take hgn k) (fun x hx => hgm x (List.mem_of_mem_take hx))
              have D1 := refIdentity_E (k : Int) v1
              rw [i1] at D1
              rw [List.map_take] at i4
              have HI2 := hide i2
              have HI3 := hide i3
              have HI4 := hide i4
              have HI5 := hide i5
              clear i1 i2 i3 i4 i5 hgn hgm hLl
              go_wp2_with fail
              refine D1.mono ?_
              rintro e v2 ⟨v, rfl, hO2, hF2⟩
              obtain ⟨AI, nI, cI, rfl, hcI, _, hBI⟩ := hO2.form'
              have hnI := hBI.1
              subst hnI
              have q2 := q1.trans hF2
              have hP2 := hP1.ext hF2
              have hR2 := hR1.ext hF2
              dsimp only [matV]
              clear hO2 hP1 hR1  D1
              have hF3 := extNew v2 (.cells #[.int .i64 II.r, .int .i64 II.c, .slice AI II.l.length cI] 76)
              have hWI3 := Whole.new v2 76 #[.int .i64 II.r, .int .i64 II.c, .slice AI II.l.length cI]
              have q3 := q2.trans hF3
              have hBI3 := hF3.bytes hBI
              have hP3 := hP2.ext hF3
              have hR3 := hR2.ext hF3
              clear hBI hP2 hR2 
              go_wp2_with fail
              have C1 := refCauchy_E (k : Int) (m : Int) (v2.alloc (.cells #[.int .i64 II.r, .int .i64 II.c, .slice AI II.l.length cI] 76))
              rw [HI2.out] at C1
              refine C1.mono ?_
              rintro e v4 ⟨v, rfl, hO4, hF4⟩
              obtain ⟨AC, nC, cC, rfl, hcC, _, hBC⟩ := hO4.form'
              have hnC := hBC.1
              subst hnC
              have q4 := q3.trans hF4
              have hWI4 := hWI3.ext hF4
              have hBI4 := hF4.bytes hBI3
              have hP4 := hP3.ext hF4
              have hR4 := hR3.ext hF4
              dsimp only [matV]
              clear hO4 hP3 hR3 hWI3 hBI3 C1
              have hF5 := extNew v4 (.cells #[.int .i64 CC.r, .int .i64 CC.c, .slice AC CC.l.length cC] 76)
              have hWC5 := Whole.new v4 76 #[.int .i64 CC.r, .int .i64 CC.c, .slice AC CC.l.length cC]
              have q5 := q4.trans hF5
              have hWI5 := hWI4.ext hF5
              have hBC5 := hF5.bytes hBC
              have hBI5 := hF5.bytes hBI4
              have hP5 := hP4.ext hF5
              have hR5 := hR4.ext hF5
              clear hBC hP4 hR4 hBI4 hWI4
              go_wp2_with (first
                | (refine wpList_load_row rfl 76 (.tmp 13) rfl _ rfl _ _ _ _ hWI5 Tryd.underlying76 rfl mat_info ?_)
                | (refine wpList_load_row rfl 76 (.tmp 15) rfl _ rfl _ _ _ _ hWC5 Tryd.underlying76 rfl mat_info ?_))
              have hNm := extNew (v4.alloc (.cells #[.int .i64 CC.r, .int .i64 CC.c, .slice AC CC.l.length cC] 76)) (.cells #[.int .i64 II.r, .int .i64 II.c, .slice AI II.l.length cI, .int .i64 CC.r, .int .i64 CC.c, .slice AC CC.l.length cC] 76)
              have hMats : MatsAt ((v4.alloc (.cells #[.int .i64 CC.r, .int .i64 CC.c, .slice AC CC.l.length cC] 76)).alloc (.cells #[.int .i64 II.r, .int .i64 II.c, .slice AI II.l.length cI, .int .i64 CC.r, .int .i64 CC.c, .slice AC CC.l.length cC] 76)) ((v4.alloc (.cells #[.int .i64 CC.r, .int .i64 CC.c, .slice AC CC.l.length cC] 76)).alloc (.cells #[.int .i64 II.r, .int .i64 II.c, .slice AI II.l.length cI, .int .i64 CC.r, .int .i64 CC.c, .slice AC CC.l.length cC] 76)).heap.size (some ⟨(v4.alloc (.cells #[.int .i64 CC.r, .int .i64 CC.c, .slice AC CC.l.length cC] 76)).heap.size, 0, none⟩) 2 [⟨II, AI, cI⟩, ⟨CC, AC, cC⟩] := by
                refine ⟨rfl, .inr ⟨(v4.alloc (.cells #[.int .i64 CC.r, .int .i64 CC.c, .slice AC CC.l.length cC] 76)).heap.size, 0, rfl, by simp, fun i hi => ?_⟩⟩
                match i, hi with
                | 0, _ => exact ⟨⟨cellNew _ _ _ _ _, cellNew _ _ _ _ _, cellNew _ _ _ _ _⟩, hNm.bytes hBI5, l1, hcI⟩
                | 1, _ => exact ⟨⟨cellNew _ _ _ _ _, cellNew _ _ _ _ _, cellNew _ _ _ _ _⟩, hNm.bytes hBC5, l2, hcC⟩
              have S1 := refStack_any [⟨II, AI, cI⟩, ⟨CC, AC, cC⟩] _ 2 _ hMats (by simp)
              have hlm : ([⟨II, AI, cI⟩, ⟨CC, AC, cC⟩] : List MIn).map MIn.m = [II, CC] := rfl
              rw [hlm, HI3.out, World.size_alloc] at S1
              have qq := q5.trans hNm
              have hPq := hP5.ext hNm
              have hRq := hR5.ext hNm
              clear hMats hlm hWI5 hWC5 hBI5 hBC5 hP5 hR5
              refine S1.mono ?_
              rintro e v6 ⟨v, rfl, hO6, hF6⟩
              obtain ⟨AS, nS, cS, rfl, hcS, _, hBS⟩ := hO6.form'
              have hnS := hBS.1
              subst hnS
              have q6 := qq.trans hF6
              have hP6 := hPq.ext hF6
              have hR6 := hRq.ext hF6
              dsimp only [matV]
              have hF7 := extNew v6 (.cells #[.int .i64 SS.r, .int .i64 SS.c, .slice AS SS.l.length cS] 76)
              have hWS7 := Whole.new v6 76 #[.int .i64 SS.r, .int .i64 SS.c, .slice AS SS.l.length cS]
              have q7 := q6.trans hF7
              have hBS7 := hF7.bytes hBS
              have hP7 := hP6.ext hF7
              have hR7 := hR6.ext hF7
              clear hO6 S1 hPq hRq hNm hF6 qq hBS hP6 hR6 q6 hF7
              go_wp2_with fail
              obtain ⟨wx, hwx⟩ : ∃ W, W = (v6.alloc (.cells #[.int .i64 SS.r, .int .i64 SS.c, .slice AS SS.l.length cS] 76)) := ⟨_, rfl⟩
              obtain ⟨gs, hgs⟩ : ∃ g, g = v6.heap.size := ⟨_, rfl⟩
              rw [← hwx] at hWS7 q7 hBS7 hP7 hR7 ⊢
              rw [← hgs] at hWS7 ⊢
              clear hwx hgs q2 q3 q4 q5 hF2 hF3 hF4 hF5
              have hLn : (List.take k (List.map Int.ofNat ga)).length = k := by rw [List.length_take, List.length_map]; omega
              have P1 := fun W (hX : Ext wx W) => refPick_any SS (List.take k (List.map Int.ofNat ga)) AS (cutAt A5 c5 0) cS c5 W (hX.bytes hBS7) (by rw [cutAt_0, hLn]; exact hP7.ext hX) l3 (by rw [hLn]; omega)
              rw [hLn, HI4.out] at P1
              have hk5 : (k : Int) ≤ (c5 : Int) := by omega
              have hk0 : (0 : Int) ≤ (k : Int) := by omega
              clear hLn
              refine wp_region_T (fun W => Ext wx W) 9 11 #[false, false, false, false, false, false, false, false, false, false, false] (by kernel_rfl) rfl rfl (Ext.refl wx).drew ?_
              intro hS0
              refine wpAnyT_take 0 (some 93) (.agg #[.int .i64 SS.r, .int .i64 SS.c, .slice AS SS.l.length cS]) #[true, false, false, false, false, false, false, false, false, false, false] rfl rfl rfl (by kernel_rfl) (fun _ _ _ h => h) hS0 (by rfl) (fun W hX => by have s0 := (hWS7.ext hX).at 0 (u := .int .i64 SS.r) rfl; have s1 := (hWS7.ext hX).at 1 (u := .int .i64 SS.c) rfl; have s2 := (hWS7.ext hX).at 2 (u := .slice AS SS.l.length cS) rfl; go_simp) ?_
              simp only [Act.put, List.setIfInBounds_toArray, List.set_cons_zero, List.set_cons_succ]
              refine wpAnyT_take 1 (some 94) (.slice A5 ga.length c5) #[true, true, false, false, false, false, false, false, false, false, false] rfl rfl rfl (by kernel_rfl) (fun _ _ _ h => h) hS0 (by rfl) (fun W hX => by go_simp) ?_
              simp only [Act.put, List.setIfInBounds_toArray, List.set_cons_zero, List.set_cons_succ]
              refine wpAnyT_take 2 (some 95) (.int .i64 (k : Int)) #[true, true, true, false, false, false, false, false, false, false, false] rfl rfl rfl (by kernel_rfl) (fun _ _ _ h => h) hS0 (by rfl) (fun W hX => by go_simp) ?_
              simp only [Act.put, List.setIfInBounds_toArray, List.set_cons_zero, List.set_cons_succ]
              refine wpAnyT_take 3 (some 96) (.slice (cutAt A5 c5 0) k c5) #[true, true, true, true, false, false, false, false, false, false, false] rfl rfl rfl (by kernel_rfl) (fun _ _ _ h => h) hS0 (by rfl) (fun W hX => by go_simp) ?_
              simp only [Act.put, List.setIfInBounds_toArray, List.set_cons_zero, List.set_cons_succ]
              refine wpAnyT_two 4 8 #[true, true, true, true, true, false, false, false, false, false, false] #[true, true, true, true, false, false, false, false, true, false, false] (by kernel_rfl) rfl rfl rfl rfl (by rfl) (by rfl) (fun K1 hK1 => ?_) (fun K1 hK1 => ?_)
              · go_simp
                go_at_call 58
                refine (P1 _ hS0).mono ?_
                rintro e wa ⟨v, rfl, hOa, hEa⟩
                have hXa := hS0.trans hEa
                obtain ⟨AT, nT, cT, rfl, hcT, _, hBT⟩ := hOa.form'
                have hnT := hBT.1
                subst hnT
                dsimp only [matV]
                refine hK1 _ _ (fun _ => hXa) ?_
                clear hK1 K1
                refine wpAnyT_pure 5 (some 92) (.tuple #[.agg #[.int .i64 TT.r, .int .i64 TT.c, .slice AT TT.l.length cT], .int .i64 0]) #[true, true, true, true, true, true, false, false, false, false, false] rfl rfl rfl (by kernel_rfl) (fun _ _ _ h => h) (fun _ => hXa) (by rfl) (fun W => by go_simp) ?_
                simp only [Act.put, List.setIfInBounds_toArray, List.set_cons_zero, List.set_cons_succ]
                refine wpAnyT_pure 6 (some 98) (.agg #[.int .i64 TT.r, .int .i64 TT.c, .slice AT TT.l.length cT]) #[true, true, true, true, true, true, true, false, false, false, false] rfl rfl rfl (by kernel_rfl) (fun _ _ _ h => h) (fun _ => hXa) (by rfl) (fun W => by go_simp) ?_
                simp only [Act.put, List.setIfInBounds_toArray, List.set_cons_zero, List.set_cons_succ]
                refine wpAnyT_pure 7 (some 99) (.int .i64 0) #[true, true, true, true, true, true, true, true, false, false, false] rfl rfl rfl (by kernel_rfl) (fun _ _ _ h => h) (fun _ => hXa) (by rfl) (fun W => by go_simp) ?_
                simp only [Act.put, List.setIfInBounds_toArray, List.set_cons_zero, List.set_cons_succ]
                refine wpAnyT_only 8 #[true, true, true, true, true, true, true, true, true, false, false] (by kernel_rfl) rfl rfl (by rfl) (fun K2 hK2 => ?_)
                go_simp
                have hEz := extNew wa (.cells #[.int .i64 0, .int .i64 0, .slice none 0 0] 76)
                have hXz := hXa.trans hEz
                have hWz := Whole.new wa 76 #[.int .i64 0, .int .i64 0, .slice none 0 0]
                refine hK2 _ _ (fun _ => hXz) ?_
                clear hK2 K2
                refine wpAnyT_only 9 #[true, true, true, true, true, true, true, true, true, true, false] (by kernel_rfl) rfl rfl (by rfl) (fun K3 hK3 => ?_)
                refine wp_storeW 76 (.tmp 19) (.tmp 98) rfl rfl rfl hWz rfl mat_info (mat_one rfl) ?_
                intro w9 hW9 hG9
                refine hK3 _ _ (fun h => absurd h (by decide)) ?_
                clear hK3 K3
                refine wpAnyT_only 10 #[true, true, true, true, true, true, true, true, true, true, true] (by kernel_rfl) rfl rfl (by rfl) (fun K4 hK4 => ?_)
                go_simp
                refine hK4 _ _ (fun h => absurd h (by decide)) (wpAnyT_done (by kernel_rfl) ?_ _)
                clear hK4 K4
                have hX9 : Ext wx w9 := Below.grown hXz hG9 hXz.le (fun k hk => by cases hk; exact hXa.le)
                have hE9 : Ext wa w9 := Below.grown hEz hG9 hEz.le (fun k hk => by cases hk; exact Nat.le_refl _)
                have hB9 : Bytes w9 w9.heap.size AT TT.l.length TT.l := hE9.bytes hBT
                have hg9 : wx.heap.size ≤ wa.heap.size := hXa.le
                generalize wa.heap.size = gz at *
                clear hXz hWz hG9 hEz hXa hOa hEa hBT hE9
                have q9 := q7.trans hX9
                have hR9 := hR7.ext hX9
                have J1 := refInverse_any TT AT cT w9 ⟨hB9, l4, hcT⟩
                rw [HI5.out] at J1
                unfold MV.arg at J1
                clear P1 hX9 hR7 hP7 hBS7 hWS7 hS0 hg9 q7
                go_wp2_with (refine wpList_load_row rfl 76 (.tmp 19) rfl _ rfl _ _ _ _ hW9 Tryd.underlying76 rfl mat_info ?_)
                refine J1.mono ?_
                rintro e va ⟨v, rfl, hOa, hFa⟩
                obtain ⟨AJ, nJ, cJ, rfl, _, _, hBJ⟩ := hOa.form'
                have hnJ := hBJ.1
                subst hnJ
                have hRa := hR9.ext hFa
                have qa := q9.trans hFa
                dsimp only [matV]
                have hFb := extNew va (.cells #[.int .i64 (k : Int), .int .i64 (k : Int), .slice AJ (cellsOf k (backX k (List.take k ga)) (k * k)).length cJ] 76)
                have hWb := Whole.new va 76 #[.int .i64 (k : Int), .int .i64 (k : Int), .slice AJ (cellsOf k (backX k (List.take k ga)) (k * k)).length cJ]
                have qb := qa.trans hFb
                have hRb := hRa.ext hFb
                have hBb := hFb.bytes hBJ
                clear hOa J1 hR9 hRa hBJ q9 qa hW9
                go_wp2_with fail
                obtain ⟨wy, hwy⟩ : ∃ W, W = va.alloc (.cells #[.int .i64 (k : Int), .int .i64 (k : Int), .slice AJ (cellsOf k (backX k (List.take k ga)) (k * k)).length cJ] 76) := ⟨_, rfl⟩
                obtain ⟨gy, hgy⟩ : ∃ g, g = va.heap.size := ⟨_, rfl⟩
                rw [← hwy] at hWb qb hRb hBb ⊢
                rw [← hgy] at hWb ⊢
                clear hwy hgy hFb hFa
                have hTl : (List.take k al).length = k := by rw [List.length_take, HALL.out]; omega
                have hmJ := square_may (n := k) (backX k (List.take k ga)) (by omega)
                have hD := timesL_congr (r := k) (c := k) (f := (⟨k, k, cellsOf k (backX k (List.take k ga)) (k * k)⟩ : MV).at) (g := backX k (List.take k ga)) (List.take k al) (fun i j hi hj => at_cells hi hj)
                have h0l : ((List.take k al).getD 0 []).length ≤ 1000000 := by rw [getD_takeP (by omega)]; exact hrow0 0 (by omega)
                have hatk : alike (List.take k al) := fun i hi => by rw [hTl] at hi; rw [getD_takeP hi, getD_takeP (by omega)]; exact HAlk.out i (by rw [HALL.out]; omega)
                have T1 := fun W (hX : Ext wy W) => refTimes_any ⟨k, k, cellsOf k (backX k (List.take k ga)) (k * k)⟩ AJ (cutAt A3 c3 0) cJ c3 (List.take k al) W hmJ (hX.bytes hBb) (by rw [hTl]; exact (hRb.ext hX).head hkg) (by rw [hTl]; simp) (by omega) hatk h0l
                simp only [Int.toNat_natCast] at T1
                rw [hD, hTl] at T1
                have hDl := timesL_len k k (backX k (List.take k ga)) (List.take k al)
                have hDa := timesL_alike (r := k) (c := k) (f := backX k (List.take k ga)) (D := List.take k al)
                have hD0 : ((timesL k k (backX k (List.take k ga)) (List.take k al)).getD 0 []).length ≤ 1000000 := by rw [timesL_at (by omega), rowB_len]; exact h0l
                generalize timesL k k (backX k (List.take k ga)) (List.take k al) = D at *
                have hPE : parityE (m : Int) D = (timesL m k (cauchyF k) D, 0) := by unfold parityE; rw [hDl, if_pos ⟨mayK_iff.2 ⟨by omega, by omega, by omega, by omega⟩, hDa⟩, Int.toNat_natCast]
                have HRes := hide (show res = (D ++ timesL m k (cauchyF k) D, 0) by rw [HN.out, code_split hDl hDa])
                have HMl := hide (timesL_len m k (cauchyF k) D)
                have hk3 : (k : Int) ≤ (c3 : Int) := by omega
                clear hD hTl h0l hatk hmJ HN HAlk HALL hrow0 HI2 HI3 HI4 HI5
                refine wp_region_T (fun W => Ext wy W) 5 6 #[false, false, false, false, false, false] (by kernel_rfl) rfl rfl (Ext.refl wy).drew ?_
                intro hS1
                refine wpAnyT_take 0 (some 105) (.agg #[.int .i64 (k : Int), .int .i64 (k : Int), .slice AJ (cellsOf k (backX k (List.take k ga)) (k * k)).length cJ]) #[true, false, false, false, false, false] rfl rfl rfl (by kernel_rfl) (fun _ _ _ h => h) hS1 (by rfl) (fun W hX => by have s0 := (hWb.ext hX).at 0 (u := .int .i64 (k : Int)) rfl; have s1 := (hWb.ext hX).at 1 (u := .int .i64 (k : Int)) rfl; have s2 := (hWb.ext hX).at 2 (u := .slice AJ (cellsOf k (backX k (List.take k ga)) (k * k)).length cJ) rfl; go_simp) ?_
                simp only [Act.put, List.setIfInBounds_toArray, List.set_cons_zero, List.set_cons_succ]
                refine wpAnyT_take 1 (some 106) (.slice A3 ga.length c3) #[true, true, false, false, false, false] rfl rfl rfl (by kernel_rfl) (fun _ _ _ h => h) hS1 (by rfl) (fun W hX => by go_simp) ?_
                simp only [Act.put, List.setIfInBounds_toArray, List.set_cons_zero, List.set_cons_succ]
                refine wpAnyT_take 2 (some 107) (.int .i64 (k : Int)) #[true, true, true, false, false, false] rfl rfl rfl (by kernel_rfl) (fun _ _ _ h => h) hS1 (by rfl) (fun W hX => by go_simp) ?_
                simp only [Act.put, List.setIfInBounds_toArray, List.set_cons_zero, List.set_cons_succ]
                refine wpAnyT_take 3 (some 108) (.slice (cutAt A3 c3 0) k c3) #[true, true, true, true, false, false] rfl rfl rfl (by kernel_rfl) (fun _ _ _ h => h) hS1 (by rfl) (fun W hX => by go_simp) ?_
                simp only [Act.put, List.setIfInBounds_toArray, List.set_cons_zero, List.set_cons_succ]
                refine wpAnyT_only 4 #[true, true, true, true, true, false] (by kernel_rfl) rfl rfl (by rfl) (fun K5 hK5 => ?_)
                go_simp
                go_at_call 49
                refine (T1 _ hS1).mono ?_
                rintro e vc ⟨v, rfl, hOc, hFc⟩
                have hXc := hS1.trans hFc
                obtain ⟨AD, cD, rfl, hcD, _, hRc⟩ := hOc.toP.form
                rw [hDl] at hRc hcD
                simp only [hDl] at hOc ⊢
                refine hK5 _ _ (fun _ => hXc) ?_
                clear hK5 K5
                refine wpAnyT_only 5 #[true, true, true, true, true, true] (by kernel_rfl) rfl rfl (by rfl) (fun K6 hK6 => ?_)
                go_simp
                refine hK6 _ _ (fun h => absurd h (by decide)) (wpAnyT_done (by kernel_rfl) ?_ _)
                clear hK6 K6
                have qc := qb.trans hXc
                have P2 := refParityN_any (m : Int) AD cD D vc (by rw [hDl]; exact hRc) (by omega) hD0
                rw [hDl, hPE] at P2
                have hyc : w.heap.size ≤ wy.drew.heap.size := (qb.trans hS1).le
                clear hWb hRb hBb T1 qb hXc hFc hD0 hPE hDa hRc
                go_wp2_with fail
                refine P2.mono ?_
                rintro e vd ⟨v, rfl, hOd, hFd⟩
                obtain ⟨AM, cM, rfl, _, _, _⟩ := hOd.toP.form
                have hOe := (hOc.ext hFd).mono hyc
                have hbk : ∀ b, (Value.slice AD k cD).ownBlock = some b → b < vc.heap.size := fun b hb => (hOc.lt b hb).2
                have hll : D.length + (timesL m k (cauchyF k) D).length ≤ 1000 := by have := HMl.out; omega
                have qd := qc.trans hFd
                have hbd := qd.le
                have hqc := qc.le
                clear P2 hOc HMl
                generalize timesL m k (cauchyF k) D = mo at *
                go_wp2_with (at_builtin; refine wpList_appNN rfl (.tmp 116) (.tmp 117) rfl rfl hOe rfl hOd hbk hll hbd hqc ?_; intro ve we hOf hGf)
                go_ret2
                rw [HRes.out]
                exact ⟨_, rfl, hOf, Below.grown qd hGf qd.le (fun b hb => (hOe.lt b hb).1)⟩
              · go_simp
                have hEz := extNew wx.drew (.cells #[.int .i64 0, .int .i64 0, .slice none 0 0] 76)
                have hXz := hS0.trans hEz
                have hWz := Whole.new wx.drew 76 #[.int .i64 0, .int .i64 0, .slice none 0 0]
                refine hK1 _ _ (fun _ => hXz) ?_
                clear hK1 K1
                refine wpAnyT_only 4 #[true, true, true, true, true, false, false, false, true, false, false] (by kernel_rfl) rfl rfl (by rfl) (fun K2 hK2 => ?_)
                go_simp
                go_at_call 58
                refine (P1 _ hXz).mono ?_
                rintro e wa ⟨v, rfl, hOa, hEa⟩
                have hXa := hXz.trans hEa
                obtain ⟨AT, nT, cT, rfl, hcT, _, hBT⟩ := hOa.form'
                have hnT := hBT.1
                subst hnT
                dsimp only [matV]
                refine hK2 _ _ (fun _ => hXa) ?_
                clear hK2 K2
                have hWz := hWz.ext hEa
                refine wpAnyT_pure 5 (some 92) (.tuple #[.agg #[.int .i64 TT.r, .int .i64 TT.c, .slice AT TT.l.length cT], .int .i64 0]) #[true, true, true, true, true, true, false, false, true, false, false] rfl rfl rfl (by kernel_rfl) (fun _ _ _ h => h) (fun _ => hXa) (by rfl) (fun W => by go_simp) ?_
                simp only [Act.put, List.setIfInBounds_toArray, List.set_cons_zero, List.set_cons_succ]
                refine wpAnyT_pure 6 (some 98) (.agg #[.int .i64 TT.r, .int .i64 TT.c, .slice AT TT.l.length cT]) #[true, true, true, true, true, true, true, false, true, false, false] rfl rfl rfl (by kernel_rfl) (fun _ _ _ h => h) (fun _ => hXa) (by rfl) (fun W => by go_simp) ?_
                simp only [Act.put, List.setIfInBounds_toArray, List.set_cons_zero, List.set_cons_succ]
                refine wpAnyT_pure 7 (some 99) (.int .i64 0) #[true, true, true, true, true, true, true, true, true, false, false] rfl rfl rfl (by kernel_rfl) (fun _ _ _ h => h) (fun _ => hXa) (by rfl) (fun W => by go_simp) ?_
                simp only [Act.put, List.setIfInBounds_toArray, List.set_cons_zero, List.set_cons_succ]
                refine wpAnyT_only 9 #[true, true, true, true, true, true, true, true, true, true, false] (by kernel_rfl) rfl rfl (by rfl) (fun K3 hK3 => ?_)
                refine wp_storeW 76 (.tmp 19) (.tmp 98) rfl rfl rfl hWz rfl mat_info (mat_one rfl) ?_
                intro w9 hW9 hG9
                refine hK3 _ _ (fun h => absurd h (by decide)) ?_
                clear hK3 K3
                refine wpAnyT_only 10 #[true, true, true, true, true, true, true, true, true, true, true] (by kernel_rfl) rfl rfl (by rfl) (fun K4 hK4 => ?_)
                go_simp
                refine hK4 _ _ (fun h => absurd h (by decide)) (wpAnyT_done (by kernel_rfl) ?_ _)
                clear hK4 K4
                have hg9 : wx.heap.size ≤ wx.drew.heap.size := hS0.le
                have hX9 : Ext wx w9 := Below.grown hXa hG9 hXa.le (fun k hk => by cases hk; exact hg9)
                have hB9 : Bytes w9 w9.heap.size AT TT.l.length TT.l := ((Mod.ofRow (ob := none) hG9).own hOa (fun e => by have := (hOa.lt _ e).1; rw [World.size_alloc] at this; simp at this; omega) (by simp [Classical.em])).bytesR
                obtain ⟨gz, hgz⟩ : ∃ g, g = wx.heap.size := ⟨_, rfl⟩
                rw [← hgz] at hW9 ⊢
                clear hgz hG9 hXa hWz hOa hEa hXz hEz
                have q9 := q7.trans hX9
                have hR9 := hR7.ext hX9
                have J1 := refInverse_any TT AT cT w9 ⟨hB9, l4, hcT⟩
                rw [HI5.out] at J1
                unfold MV.arg at J1
                clear P1 hX9 hR7 hP7 hBS7 hWS7 hS0 hg9 q7
                go_wp2_with (refine wpList_load_row rfl 76 (.tmp 19) rfl _ rfl _ _ _ _ hW9 Tryd.underlying76 rfl mat_info ?_)
                refine J1.mono ?_
                rintro e va ⟨v, rfl, hOa, hFa⟩
                obtain ⟨AJ, nJ, cJ, rfl, _, _, hBJ⟩ := hOa.form'
                have hnJ := hBJ.1
                subst hnJ
                have hRa := hR9.ext hFa
                have qa := q9.trans hFa
                dsimp only [matV]
                have hFb := extNew va (.cells #[.int .i64 (k : Int), .int .i64 (k : Int), .slice AJ (cellsOf k (backX k (List.take k ga)) (k * k)).length cJ] 76)
                have hWb := Whole.new va 76 #[.int .i64 (k : Int), .int .i64 (k : Int), .slice AJ (cellsOf k (backX k (List.take k ga)) (k * k)).length cJ]
                have qb := qa.trans hFb
                have hRb := hRa.ext hFb
                have hBb := hFb.bytes hBJ
                clear hOa J1 hR9 hRa hBJ q9 qa hW9
                go_wp2_with fail
                obtain ⟨wy, hwy⟩ : ∃ W, W = va.alloc (.cells #[.int .i64 (k : Int), .int .i64 (k : Int), .slice AJ (cellsOf k (backX k (List.take k ga)) (k * k)).length cJ] 76) := ⟨_, rfl⟩
                obtain ⟨gy, hgy⟩ : ∃ g, g = va.heap.size := ⟨_, rfl⟩
                rw [← hwy] at hWb qb hRb hBb ⊢
                rw [← hgy] at hWb ⊢
                clear hwy hgy hFb hFa
                have hTl : (List.take k al).length = k := by rw [List.length_take, HALL.out]; omega
                have hmJ := square_may (n := k) (backX k (List.take k ga)) (by omega)
                have hD := timesL_congr (r := k) (c := k) (f := (⟨k, k, cellsOf k (backX k (List.take k ga)) (k * k)⟩ : MV).at) (g := backX k (List.take k ga)) (List.take k al) (fun i j hi hj => at_cells hi hj)
                have h0l : ((List.take k al).getD 0 []).length ≤ 1000000 := by rw [getD_takeP (by omega)]; exact hrow0 0 (by omega)
                have hatk : alike (List.take k al) := fun i hi => by rw [hTl] at hi; rw [getD_takeP hi, getD_takeP (by omega)]; exact HAlk.out i (by rw [HALL.out]; omega)
                have T1 := fun W (hX : Ext wy W) => refTimes_any ⟨k, k, cellsOf k (backX k (List.take k ga)) (k * k)⟩ AJ (cutAt A3 c3 0) cJ c3 (List.take k al) W hmJ (hX.bytes hBb) (by rw [hTl]; exact (hRb.ext hX).head hkg) (by rw [hTl]; simp) (by omega) hatk h0l
                simp only [Int.toNat_natCast] at T1
                rw [hD, hTl] at T1
                have hDl := timesL_len k k (backX k (List.take k ga)) (List.take k al)
                have hDa := timesL_alike (r := k) (c := k) (f := backX k (List.take k ga)) (D := List.take k al)
                have hD0 : ((timesL k k (backX k (List.take k ga)) (List.take k al)).getD 0 []).length ≤ 1000000 := by rw [timesL_at (by omega), rowB_len]; exact h0l
                generalize timesL k k (backX k (List.take k ga)) (List.take k al) = D at *
                have hPE : parityE (m : Int) D = (timesL m k (cauchyF k) D, 0) := by unfold parityE; rw [hDl, if_pos ⟨mayK_iff.2 ⟨by omega, by omega, by omega, by omega⟩, hDa⟩, Int.toNat_natCast]
                have HRes := hide (show res = (D ++ timesL m k (cauchyF k) D, 0) by rw [HN.out, code_split hDl hDa])
                have HMl := hide (timesL_len m k (cauchyF k) D)
                have hk3 : (k : Int) ≤ (c3 : Int) := by omega
                clear hD hTl h0l hatk hmJ HN HAlk HALL hrow0 HI2 HI3 HI4 HI5
                refine wp_region_T (fun W => Ext wy W) 5 6 #[false, false, false, false, false, false] (by kernel_rfl) rfl rfl (Ext.refl wy).drew ?_
                intro hS1
                refine wpAnyT_take 0 (some 105) (.agg #[.int .i64 (k : Int), .int .i64 (k : Int), .slice AJ (cellsOf k (backX k (List.take k ga)) (k * k)).length cJ]) #[true, false, false, false, false, false] rfl rfl rfl (by kernel_rfl) (fun _ _ _ h => h) hS1 (by rfl) (fun W hX => by have s0 := (hWb.ext hX).at 0 (u := .int .i64 (k : Int)) rfl; have s1 := (hWb.ext hX).at 1 (u := .int .i64 (k : Int)) rfl; have s2 := (hWb.ext hX).at 2 (u := .slice AJ (cellsOf k (backX k (List.take k ga)) (k * k)).length cJ) rfl; go_simp) ?_
                simp only [Act.put, List.setIfInBounds_toArray, List.set_cons_zero, List.set_cons_succ]
                refine wpAnyT_take 1 (some 106) (.slice A3 ga.length c3) #[true, true, false, false, false, false] rfl rfl rfl (by kernel_rfl) (fun _ _ _ h => h) hS1 (by rfl) (fun W hX => by go_simp) ?_
                simp only [Act.put, List.setIfInBounds_toArray, List.set_cons_zero, List.set_cons_succ]
                refine wpAnyT_take 2 (some 107) (.int .i64 (k : Int)) #[true, true, true, false, false, false] rfl rfl rfl (by kernel_rfl) (fun _ _ _ h => h) hS1 (by rfl) (fun W hX => by go_simp) ?_
                simp only [Act.put, List.setIfInBounds_toArray, List.set_cons_zero, List.set_cons_succ]
                refine wpAnyT_take 3 (some 108) (.slice (cutAt A3 c3 0) k c3) #[true, true, true, true, false, false] rfl rfl rfl (by kernel_rfl) (fun _ _ _ h => h) hS1 (by rfl) (fun W hX => by go_simp) ?_
                simp only [Act.put, List.setIfInBounds_toArray, List.set_cons_zero, List.set_cons_succ]
                refine wpAnyT_only 4 #[true, true, true, true, true, false] (by kernel_rfl) rfl rfl (by rfl) (fun K5 hK5 => ?_)
                go_simp
                go_at_call 49
                refine (T1 _ hS1).mono ?_
                rintro e vc ⟨v, rfl, hOc, hFc⟩
                have hXc := hS1.trans hFc
                obtain ⟨AD, cD, rfl, hcD, _, hRc⟩ := hOc.toP.form
                rw [hDl] at hRc hcD
                simp only [hDl] at hOc ⊢
                refine hK5 _ _ (fun _ => hXc) ?_
                clear hK5 K5
                refine wpAnyT_only 5 #[true, true, true, true, true, true] (by kernel_rfl) rfl rfl (by rfl) (fun K6 hK6 => ?_)
                go_simp
                refine hK6 _ _ (fun h => absurd h (by decide)) (wpAnyT_done (by kernel_rfl) ?_ _)
                clear hK6 K6
                have qc := qb.trans hXc
                have P2 := refParityN_any (m : Int) AD cD D vc (by rw [hDl]; exact hRc) (by omega) hD0
                rw [hDl, hPE] at P2
                have hyc : w.heap.size ≤ wy.drew.heap.size := (qb.trans hS1).le
                clear hWb hRb hBb T1 qb hXc hFc hD0 hPE hDa hRc
                go_wp2_with fail
                refine P2.mono ?_
                rintro e vd ⟨v, rfl, hOd, hFd⟩
                obtain ⟨AM, cM, rfl, _, _, _⟩ := hOd.toP.form
                have hOe := (hOc.ext hFd).mono hyc
                have hbk : ∀ b, (Value.slice AD k cD).ownBlock = some b → b < vc.heap.size := fun b hb => (hOc.lt b hb).2
                have hll : D.length + (timesL m k (cauchyF k) D).length ≤ 1000 := by have := HMl.out; omega
                have qd := qc.trans hFd
                have hbd := qd.le
                have hqc := qc.le
                clear P2 hOc HMl
                generalize timesL m k (cauchyF k) D = mo at *
                go_wp2_with (at_builtin; refine wpList_appNN rfl (.tmp 116) (.tmp 117) rfl rfl hOe rfl hOd hbk hll hbd hqc ?_; intro ve we hOf hGf)
                go_ret2
                rw [HRes.out]
                exact ⟨_, rfl, hOf, Below.grown qd hGf qd.le (fun b hb => (hOe.lt b hb).1)⟩
          · simp only [decide_eq_false ha] at L1
            have HN := hide (show res = ([], 13) by rw [HE.out, if_neg ha])
            clear HE ha
            go_wp2_with fail
            refine (L1 _ hR).mono ?_
            rintro e w2 ⟨rfl, hE2⟩
            go_wp2
            go_ret2
            rw [HN.out]
            exact ⟨_, rfl, OwnN.nil _ _, hE.trans hE2⟩
    · have HN := hide (show mendE k m parts good = ([], 13) by unfold mendE; rw [if_neg]; rintro ⟨_, h, h'⟩; exact hlen ⟨h, h'⟩)
      have hsum : IntKind.i64.wrap (k + m) = k + m := by rw [IntKind.wrap_i64]; omega
      by_cases hp : (parts.length : Int) = k + m
      · have hne1 : ((parts.length : Int) != k + m) = false := by simp; omega
        have hne2 : ((good.length : Int) != k + m) = true := by simp; exact fun h => hlen ⟨hp, h⟩
        clear hlen hp hm
        go_enter Tryd.func36, Tryd.ntmps36
        go_wp2_with fail
        refine (M1 _).mono ?_
        rintro e w1 ⟨rfl, rfl⟩
        go_wp2
        go_ret2
        rw [HN.out]
        exact ⟨_, rfl, OwnN.nil _ _, Ext.refl _⟩
      · have hne1 : ((parts.length : Int) != k + m) = true := by simpa using hp
        clear hlen hp hm
        go_enter Tryd.func36, Tryd.ntmps36
        go_wp2_with fail
        refine (M1 _).mono ?_
        rintro e w1 ⟨rfl, rfl⟩
        go_wp2
        go_ret2
        rw [HN.out]
        exact ⟨_, rfl, OwnN.nil _ _, Ext.refl _⟩
  · have HN := hide (show mendE k m parts good = ([], 13) by unfold mendE; rw [if_neg]; rintro ⟨h, _⟩; exact hm h)
    rw [Bool.not_eq_true] at hm
    rw [hm] at M1
    clear hm
    go_enter Tryd.func36, Tryd.ntmps36
    go_wp2_with fail
    refine (M1 _).mono ?_
    rintro e w1 ⟨rfl, rfl⟩
    go_wp2
    go_ret2
    rw [HN.out]
    exact ⟨_, rfl, OwnN.nil _ _, Ext.refl _⟩
theorem refMend_any (k m : Int) (A1 A2 : Option Addr) (c1 c2 : Nat) (parts : List (List UInt8)) (good : List Bool) (w : World) (hk64 : k ≤ 9223372036854775807) (h1 : RowsAt w w.heap.size A1 parts.length parts) (h2 : BoolsAt w w.heap.size A2 good.length good)
    (hl1 : parts.length ≤ 1000000) (hrow : ∀ i, i < parts.length → (parts.getD i []).length ≤ 1000000) :
    Calls Tryd.prog 36 #[.int .i64 k, .int .i64 m, .slice A1 parts.length c1, .slice A2 good.length c2] w (MadePE w (mendE k m parts good).1 (mendE k m parts good).2) :=
  (refMendN_any k m A1 A2 c1 c2 parts good w hk64 h1 h2 hl1 hrow).mono fun _ _ ⟨v, he, hO, hE⟩ => ⟨v, he, hO.toP, hE⟩
end Go.Proofs.YtkfipfhmbhmamaaDoor

namespace Go.Proofs.YtkfipfhmbhmamaaDoor
open Go.RowKit

/-- v is nil, or lies in a block of the call's own, and reads as these truth values. -/
def OwnT (w : World) (base : Nat) (v : Value) (L : List Bool) : Prop := w.ownsRow base 4 1 v L.length (L.map Value.bool)
theorem bool_info : (Tryd.prog.info? 4).map (fun i => (i.zero, i.size, i.bytes)) = some (some (.bool false), 1, 1) := by kernel_rfl
theorem OwnT.nil (w : World) (base : Nat) : OwnT w base (.slice none 0 0) [] := World.ownsRow_nil w base _ _
theorem OwnT.kept {w w' : World} {base : Nat} {v : Value} {L : List Bool} (h : OwnT w base v L) {ob : Option Nat} (hG : w.grownBy w' ob) (hne : v.ownBlock = none ∨ v.ownBlock ≠ ob) : OwnT w' base v L := World.ownsRow.kept h hG hne
theorem OwnT.ext {w w' : World} {base : Nat} {v : Value} {L : List Bool} (h : OwnT w base v L) (hE : Ext w w') : OwnT w' base v L :=
  World.ownsRow.kept h (hE.grown none) (by cases hv : v.ownBlock <;> simp)
theorem OwnT.lt {w : World} {base : Nat} {v : Value} {L : List Bool} (h : OwnT w base v L) : ∀ k, v.ownBlock = some k → base ≤ k ∧ k < w.heap.size := World.ownsRow.lt h
theorem OwnT.form {w : World} {base : Nat} {v : Value} {L : List Bool} (h : OwnT w base v L) : ∃ A c, v = .slice A L.length c ∧ L.length ≤ c ∧ BoolsAt w w.heap.size A L.length L := by
  have hl := h.lt
  rcases h.2 with ⟨rfl, h0⟩ | ⟨g, cap, cur, rfl, hb, hg, hn, hc, hs, ht⟩
  · exact ⟨none, 0, by rw [h0], by omega, rfl, .inl h0⟩
  · refine ⟨_, cap, rfl, hn, rfl, .inr ⟨g, 0, rfl, (hl g rfl).2, fun i hi => ?_⟩⟩
    have hk := World.ownsRow.cellAt h i (by omega)
    rw [Nat.zero_add, hk]
    simp [hi]
section
variable {o : Oper} {a : Act} {Q : Exit → Act → World → Prop} {w : World} {base : Nat} {v : Value} {L : List Bool}
/-- append of one truth value, which lies in a block of its own. -/
theorem wpList_appT {ops : Array Oper} {rest : List Oper} (hgd : o.guard = none) (s x : Operand) (ho : o.op = .call { callee := .builtin .append, args := #[s, x], argTypes := #[70, 70] }) (hs : a.eval s = v) (p : Bool)
    (hown : OwnT (w.alloc (.cells #[.bool p] 4)) base v L) {c : Nat} (hx : a.eval x = .slice (some ⟨w.heap.size, 0, none⟩) 1 c) (hlen : L.length ≤ 1000) (hbase : base ≤ w.heap.size)
    (h : ∀ v' w', OwnT w' base v' (L ++ [p]) → (w.alloc (.cells #[.bool p] 4)).grownBy w' v.ownBlock → (v'.ownBlock = v.ownBlock ∨ v'.ownBlock = some (w.heap.size + 1)) → wpList Tryd.prog ops Q rest (a.put o.dst v') w') :
    wpList Tryd.prog ops Q (o :: rest) a (w.alloc (.cells #[.bool p] 4)) := by
  obtain ⟨i, hi, hz, hsz, hby⟩ := info_parts bool_info
  refine wpList_append_own_at _ hgd s x 70 ho base 4 i _ 1 1 Tryd.underlying70 hi hz hsz hby rfl (by omega) v L.length (L.map Value.bool) hs hown ⟨w.heap.size, 0, none⟩ 1 c [.bool p] hx rfl (by
    intro j u hu
    match j, hu with
    | 0, hu =>
      have : (⟨w.heap.size, 0, none⟩ : Addr).add 0 = ⟨w.heap.size, 0, none⟩ := rfl
      rw [this, cellNew]
      simpa using hu
    | j + 1, hu => simp at hu) (by
    intro u hu
    simp at hu
    subst hu
    rfl) (by unfold maxLen; omega) (by omega) (by simp; omega) ?_
  intro v' w' h2 h3 _ h5
  rw [World.size_alloc] at h5
  refine h v' w' ?_ h3 h5
  unfold OwnT
  rw [List.length_append, List.map_append]
  exact h2
end
end Go.Proofs.YtkfipfhmbhmamaaDoor

namespace Go.Proofs.YtkfipfhmbhmamaaDoor
open Go.RowKit

/-- No byte of row x lies in one of these blocks. -/
def Clr (Ls : List Nat) (x : Value) : Prop := ∀ A n k, x = .slice A n k → n = 0 ∨ ∀ b off, A = some ⟨b, off, none⟩ → b ∉ Ls
theorem Clr.new {base : Nat} {x : Value} {Ls : List Nat} (h : NewX base x) (hL : ∀ k ∈ Ls, k < base) : Clr Ls x := fun A n k e => (h A n k e).imp_right fun h2 b off e2 e3 => by
  have := hL _ e3
  have := h2 b off e2
  omega
theorem Clr.old {w : World} {base : Nat} {x : Value} {l : List UInt8} {Ls : List Nat} (h : RowOf w base x l) (hL : ∀ k ∈ Ls, base ≤ k) : Clr Ls x := by
  intro A n k e
  obtain ⟨A', k', e', _, _, h4⟩ := h
  rw [e'] at e
  simp only [Value.slice.injEq] at e
  obtain ⟨rfl, rfl, rfl⟩ := e
  rcases h4.2 with h0 | ⟨b, off, rfl, hB, _⟩
  · exact .inl h0
  · refine .inr fun b' off' e2 h => ?_
    simp only [Option.some.injEq, Addr.mk.injEq, and_true] at e2
    obtain ⟨rfl, rfl⟩ := e2
    have := hL _ h
    omega
theorem Clr.more {w : World} {x : Value} {l : List UInt8} {Ls : List Nat} {k : Nat} (hc : Clr Ls x) (h : RowOf w w.heap.size x l) (hk : w.heap.size ≤ k) : Clr (k :: Ls) x := by
  intro A n c e
  have h1 := hc A n c e
  have h2 := Clr.old (Ls := [k]) h (by simpa using hk) A n c e
  rcases h1 with h0 | h1
  · exact .inl h0
  rcases h2 with h0 | h2
  · exact .inl h0
  refine .inr fun b off e2 => ?_
  have a1 := h1 b off e2
  have a2 := h2 b off e2
  simp at a2
  simp [a1, a2]
theorem Clr.clear {x : Value} {Ls : List Nat} (hc : Clr Ls x) {v : Value} (hv : ∀ k, v.ownBlock = some k → k ∈ Ls) : Clear v x := fun A n k e => (hc A n k e).imp_right fun h b off e2 e3 => h b off e2 (hv _ e3)
theorem RowOf.grownZ {w w' : World} {x : Value} {l : List UInt8} {Ls : List Nat} {ob : Option Nat} (hx : RowOf w w.heap.size x l) (hc : Clr Ls x) (hG : w.grownBy w' ob) (hob : ∀ k, ob = some k → k ∈ Ls) : RowOf w' w'.heap.size x l := by
  cases ob with
  | none => exact hx.grown (v := .slice none 0 0) (hc.clear fun k hk => by cases hk) hG
  | some g => exact hx.grown (v := .slice (some ⟨g, 0, none⟩) 0 0) (hc.clear fun k hk => hob k hk) hG
/-- v is nil, or lies in a block of the call's own that is one of these, and reads as these rows, none of which lies in one of these blocks. -/
structure OwnZ (w : World) (base : Nat) (Ls : List Nat) (v : Value) (ls : List (List UInt8)) : Prop where
  own : ∃ R : Nat → Value, w.ownsRow base 27 1 v ls.length ((List.range ls.length).map R) ∧ ∀ i, i < ls.length → RowOf w w.heap.size (R i) (ls.getD i []) ∧ Clr Ls (R i)
  blk : ∀ k, v.ownBlock = some k → k ∈ Ls
section
variable {w w' : World} {base : Nat} {Ls : List Nat} {v x : Value} {l : List UInt8} {ls : List (List UInt8)}
theorem OwnZ.nil (w : World) (base : Nat) (Ls : List Nat) : OwnZ w base Ls (.slice none 0 0) [] := ⟨⟨fun _ => default, World.ownsRow_nil w base _ _, fun i hi => absurd hi (by simp)⟩, fun k hk => by cases hk⟩
theorem OwnZ.toP (h : OwnZ w base Ls v ls) : OwnP w base v ls := by
  obtain ⟨R, h1, h2⟩ := h.own
  exact ⟨R, h1, fun i hi => ⟨(h2 i hi).1, (h2 i hi).2.clear h.blk⟩⟩
theorem OwnZ.lt (h : OwnZ w base Ls v ls) : ∀ k, v.ownBlock = some k → base ≤ k ∧ k < w.heap.size := h.toP.lt
theorem OwnZ.kept (h : OwnZ w base Ls v ls) {ob : Option Nat} (hG : w.grownBy w' ob) (hob : ∀ k, ob = some k → k ∈ Ls) (hne : v.ownBlock = none ∨ v.ownBlock ≠ ob) : OwnZ w' base Ls v ls := by
  obtain ⟨R, h1, h2⟩ := h.own
  exact ⟨⟨R, h1.kept hG hne, fun i hi => ⟨(h2 i hi).1.grownZ (h2 i hi).2 hG hob, (h2 i hi).2⟩⟩, h.blk⟩
theorem OwnZ.ext (h : OwnZ w base Ls v ls) (hE : Ext w w') : OwnZ w' base Ls v ls :=
  h.kept (hE.grown none) (fun k hk => by cases hk) (by cases hv : v.ownBlock <;> simp)
theorem OwnZ.more {k : Nat} (h : OwnZ w base Ls v ls) (hk : w.heap.size ≤ k) : OwnZ w base (k :: Ls) v ls := by
  obtain ⟨R, h1, h2⟩ := h.own
  exact ⟨⟨R, h1, fun i hi => ⟨(h2 i hi).1, (h2 i hi).2.more (h2 i hi).1 hk⟩⟩, fun k hk => List.mem_cons_of_mem _ (h.blk k hk)⟩
theorem OwnZ.trim (h : OwnZ w base Ls v ls) : OwnZ w base (Ls.filter fun k => decide (k < w.heap.size)) v ls := by
  obtain ⟨R, h1, h2⟩ := h.own
  refine ⟨⟨R, h1, fun i hi => ⟨(h2 i hi).1, fun A n k e => ((h2 i hi).2 A n k e).imp_right fun h3 b off e2 h4 => h3 b off e2 ((List.mem_filter.1 h4).1)⟩⟩, fun k hk => ?_⟩
  rw [List.mem_filter]
  exact ⟨h.blk k hk, by simpa using (h1.lt k hk).2⟩
/-- One row put in another's place. -/
theorem OwnZ.set {g n cap j : Nat} (h : OwnZ w base Ls (.slice (some ⟨g, 0, none⟩) n cap) ls) (hj : j < ls.length) (hr : RowOf w w.heap.size x l) (hc : Clr Ls x) :
    OwnZ (w.setCell ⟨g, j, none⟩ x) base Ls (.slice (some ⟨g, 0, none⟩) n cap) (ls.set j l) := by
  obtain ⟨R, h1, h2⟩ := h.own
  have hn : ls.length = n := by
    rcases h1.2 with ⟨h', _⟩ | ⟨g', cap', cur, h', _⟩
    · simp at h'
    · simp only [Value.slice.injEq] at h'
      exact h'.2.1.symm
  subst hn
  obtain ⟨h3, h4⟩ := h1.stored j x
  have hob : ∀ k, some g = some k → k ∈ Ls := fun k hk => h.blk k hk
  refine ⟨⟨fun i => if i = j then x else R i, ?_, fun i hi => ?_⟩, h.blk⟩
  · have e : (List.range (ls.set j l).length).map (fun i => if i = j then x else R i) = ((List.range ls.length).map R).set j x := by
      apply List.ext_getElem?
      intro i
      rw [List.length_set, List.getElem?_set]
      by_cases hi : i < ls.length
      · by_cases hij : j = i
        · subst hij
          simp [hi]
        · have hij' : ¬ i = j := fun e => hij e.symm
          simp [hi, hij, hij']
      · simp [hi]
        intro e
        omega
    rw [e, List.length_set]
    exact h3
  · rw [List.length_set] at hi
    by_cases hij : i = j
    · subst hij
      have e : (ls.set i l).getD i [] = l := by simp [List.getD_eq_getElem?_getD, hi]
      simp only [if_true]
      rw [e]
      exact ⟨hr.grownZ hc h4 hob, hc⟩
    · have hij' : ¬ j = i := fun e => hij e.symm
      have e : (ls.set j l).getD i [] = ls.getD i [] := by rw [List.getD_eq_getElem?_getD, List.getD_eq_getElem?_getD, List.getElem?_set, if_neg hij']
      simp only [hij, if_false]
      rw [e]
      exact ⟨(h2 i hi).1.grownZ (h2 i hi).2 h4 hob, (h2 i hi).2⟩
end
section
variable {o : Oper} {a : Act} {Q : Exit → Act → World → Prop} {w : World} {base : Nat} {Ls : List Nat} {v : Value} {ls : List (List UInt8)}
set_option maxRecDepth 100000 in
/-- append of one row, whose slice lies in a block of its own. -/
theorem wpList_appZ {ops : Array Oper} {rest : List Oper} (hgd : o.guard = none) (s x : Operand) (ho : o.op = .call { callee := .builtin .append, args := #[s, x], argTypes := #[55, 55] }) (hs : a.eval s = v) {A : Option Addr} {m k : Nat} {l : List UInt8}
    (h : OwnZ w base Ls v ls) (hr : RowOf w w.heap.size (.slice A m k) l) (hcl : Clr Ls (.slice A m k)) {c : Nat} (hx : a.eval x = .slice (some ⟨w.heap.size, 0, none⟩) 1 c) (hlen : ls.length ≤ 1000) (hbase : base ≤ w.heap.size)
    (hk : ∀ v' w', OwnZ w' base ((w.heap.size + 1) :: Ls) v' (ls ++ [l]) → (w.alloc (.cells #[.slice A m k] 27)).grownBy w' v.ownBlock → (v'.ownBlock = v.ownBlock ∨ v'.ownBlock = some (w.heap.size + 1)) → wpList Tryd.prog ops Q rest (a.put o.dst v') w') :
    wpList Tryd.prog ops Q (o :: rest) a (w.alloc (.cells #[.slice A m k] 27)) := by
  obtain ⟨i, hi, hz, hsz, hby⟩ := info_parts rw_info
  have hE := extNew w (.cells #[.slice A m k] 27)
  obtain ⟨R, h1, h2⟩ := (h.ext hE).own
  refine wpList_append_own_at _ hgd s x 55 ho base 27 i _ 1 24 Tryd.underlying55 hi hz hsz hby rfl (by omega) v ls.length _ hs h1 ⟨w.heap.size, 0, none⟩ 1 c [.slice A m k] hx rfl (by
    intro j u hu
    match j, hu with
    | 0, hu =>
      have : (⟨w.heap.size, 0, none⟩ : Addr).add 0 = ⟨w.heap.size, 0, none⟩ := rfl
      rw [this, cellNew]
      simpa using hu
    | j + 1, hu => simp at hu) (by
    intro u hu
    simp at hu
    subst hu
    rfl) (by unfold maxLen; omega) (by omega) (by simp; omega) ?_
  intro v' w' h3 h4 _ h5
  rw [World.size_alloc] at h5
  refine hk v' w' ⟨⟨fun i => if i < ls.length then R i else .slice A m k, ?_, fun i hi => ?_⟩, fun k hk => ?_⟩ h4 h5
  · have e : (List.range (ls ++ [l]).length).map (fun i => if i < ls.length then R i else Value.slice A m k) = (List.range ls.length).map R ++ [Value.slice A m k] := by
      rw [List.length_append, List.length_singleton, List.range_succ, List.map_append]
      congr 1
      · exact List.map_congr_left fun i hi => if_pos (List.mem_range.1 hi)
      · simp
    rw [e, List.length_append]
    exact h3
  · rw [List.length_append, List.length_singleton] at hi
    by_cases hil : i < ls.length
    · obtain ⟨b1, b2⟩ := h2 i hil
      have e : (ls ++ [l]).getD i [] = ls.getD i [] := by simp [List.getD_eq_getElem?_getD, List.getElem?_append_left hil]
      simp only [hil, if_true]
      rw [e]
      exact ⟨b1.grownZ b2 h4 h.blk, b2.more b1 (by rw [World.size_alloc]; exact Nat.le_refl _)⟩
    · obtain rfl : i = ls.length := by omega
      have e : (ls ++ [l]).getD ls.length [] = l := by simp [List.getD_eq_getElem?_getD]
      simp only [Nat.lt_irrefl, if_false]
      rw [e]
      exact ⟨(hr.ext hE).grownZ hcl h4 h.blk, hcl.more (hr.ext hE) (by rw [World.size_alloc]; exact Nat.le_refl _)⟩
  · rcases h5 with e | e
    · exact List.mem_cons_of_mem _ (h.blk k (by rw [← e]; exact hk))
    · rw [hk] at e
      injection e with e
      subst e
      exact List.mem_cons_self
end
/-- One truth value put in another's place. -/
theorem OwnT.set {w : World} {base g n cap j : Nat} {L : List Bool} (h : OwnT w base (.slice (some ⟨g, 0, none⟩) n cap) L) (p : Bool) : OwnT (w.setCell ⟨g, j, none⟩ (.bool p)) base (.slice (some ⟨g, 0, none⟩) n cap) (L.set j p) := by
  have hn : L.length = n := by
    rcases h.2 with ⟨h', _⟩ | ⟨g', cap', cur, h', _⟩
    · simp at h'
    · simp only [Value.slice.injEq] at h'
      exact h'.2.1.symm
  subst hn
  have h3 := (World.ownsRow.stored h j (.bool p)).1
  unfold OwnT
  rw [List.length_set, List.map_set]
  exact h3
end Go.Proofs.YtkfipfhmbhmamaaDoor

namespace Go.Proofs.YtkfipfhmbhmamaaDoor
open Go.RowKit

/-- v reads as these rows, u as these bytes; no row lies in a block of either; both were made below H. -/
def TwoL (w : World) (base H : Nat) (v : Value) (ls : List (List UInt8)) (u : Value) (l : List UInt8) : Prop :=
  ∃ Ls : List Nat, (∀ k ∈ Ls, k < H) ∧ OwnZ w base Ls v ls ∧ OwnB w base u l ∧ (∀ k, u.ownBlock = some k → k ∈ Ls) ∧ Apart v u
section
variable {w w' : World} {base H : Nat} {v u : Value} {ls : List (List UInt8)} {l : List UInt8}
theorem TwoL.start (h : OwnB w base u l) (hH : w.heap.size ≤ H) : TwoL w base H (.slice none 0 0) [] u l := by
  refine ⟨u.ownBlock.toList, fun k hk => ?_, OwnZ.nil _ _ _, h, fun k hk => by rw [hk]; simp, apart_nil _⟩
  cases hu : u.ownBlock with
  | none => rw [hu] at hk; cases hk
  | some j =>
    rw [hu] at hk
    obtain rfl : k = j := by simpa using hk
    exact Nat.lt_of_lt_of_le (h.lt k hu).2 hH
theorem TwoL.own (h : TwoL w base H v ls u l) : OwnB w base u l := h.choose_spec.2.2.1
theorem TwoL.lt (h : TwoL w base H v ls u l) : ∀ k, v.ownBlock = some k → base ≤ k ∧ k < w.heap.size := h.choose_spec.2.1.lt
theorem TwoL.rows (h : TwoL w base H v ls u l) : ∃ A c, v = .slice A ls.length c ∧ ls.length ≤ c ∧ c ≤ maxLen ∧ RowsAt w w.heap.size A ls.length ls := by
  obtain ⟨Ls, _, hZ, _⟩ := h
  exact hZ.toP.form
theorem TwoL.up {H' : Nat} (h : TwoL w base H v ls u l) (hH : H ≤ H') : TwoL w base H' v ls u l := by
  obtain ⟨Ls, h1, h2⟩ := h
  exact ⟨Ls, fun k hk => Nat.lt_of_lt_of_le (h1 k hk) hH, h2⟩
theorem TwoL.ext (h : TwoL w base H v ls u l) (hE : Ext w w') : TwoL w' base H v ls u l := by
  obtain ⟨Ls, h1, h2, h3, h4, h5⟩ := h
  exact ⟨Ls, h1, h2.ext hE, h3.ext hE, h4, h5⟩
/-- Trimmed to the blocks that there are. -/
theorem TwoL.trim {Ls : List Nat} (h2 : OwnZ w base Ls v ls) (h3 : OwnB w base u l) (h4 : ∀ k, u.ownBlock = some k → k ∈ Ls) (h5 : Apart v u) : TwoL w base w.heap.size v ls u l :=
  ⟨_, fun k hk => by simpa using (List.mem_filter.1 hk).2, h2.trim, h3, fun k hk => by rw [List.mem_filter]; exact ⟨h4 k hk, by simpa using (h3.lt k hk).2⟩, h5⟩
end
section
variable {o : Oper} {a : Act} {Q : Exit → Act → World → Prop} {w : World} {base H : Nat} {v u : Value} {ls : List (List UInt8)} {lo : List UInt8}
/-- append of a new row to the rows. -/
theorem wpList_appTR {ops : Array Oper} {rest : List Oper} (hgd : o.guard = none) (s x : Operand) (ho : o.op = .call { callee := .builtin .append, args := #[s, x], argTypes := #[55, 55] }) (hs : a.eval s = v) {A : Option Addr} {m k : Nat} {l : List UInt8}
    (h : TwoL w base H v ls u lo) (hr : RowOf w w.heap.size (.slice A m k) l) (hn : NewX H (.slice A m k)) {c : Nat} (hx : a.eval x = .slice (some ⟨w.heap.size, 0, none⟩) 1 c) (hlen : ls.length ≤ 1000) (hbase : base ≤ w.heap.size)
    (hk : ∀ v' w', TwoL w' base w'.heap.size v' (ls ++ [l]) u lo → (w.alloc (.cells #[.slice A m k] 27)).grownBy w' v.ownBlock → (∀ j, v.ownBlock = some j → base ≤ j) → wpList Tryd.prog ops Q rest (a.put o.dst v') w') :
    wpList Tryd.prog ops Q (o :: rest) a (w.alloc (.cells #[.slice A m k] 27)) := by
  obtain ⟨Ls, h1, h2, h3, h4, h5⟩ := h
  refine wpList_appZ hgd s x ho hs h2 hr (Clr.new hn h1) hx hlen hbase fun v' w' hZ hG hN => hk v' w' (TwoL.trim hZ (World.ownsRow.kept (h3.ext (extNew w _)) hG h5.symm.row) (fun j hj => List.mem_cons_of_mem _ (h4 j hj)) ?_) hG fun j hj => (h2.lt j hj).1
  exact h5.next hN fun j hj => Nat.lt_succ_of_lt (h3.lt j hj).2
/-- append of bytes to the bytes. -/
theorem wpList_appTB {ops : Array Oper} {rest : List Oper} (hgd : o.guard = none) (s x : Operand) (ho : o.op = .call { callee := .builtin .append, args := #[s, x], argTypes := #[27, 27] }) (hs : a.eval s = u)
    (h : TwoL w base H v ls u lo) {A : Option Addr} {m c : Nat} {k : List UInt8} (hx : a.eval x = .slice A m c) (hb : Bytes w w.heap.size A m k) (hlen : lo.length + m ≤ 140737488355328) (hbase : base ≤ w.heap.size)
    (hk : ∀ u' w', TwoL w' base w'.heap.size v ls u' (lo ++ k) → w.grownBy w' u.ownBlock → (∀ j, u.ownBlock = some j → base ≤ j) → wpList Tryd.prog ops Q rest (a.put o.dst u') w') : wpList Tryd.prog ops Q (o :: rest) a w := by
  obtain ⟨Ls, h1, h2, h3, h4, h5⟩ := h
  refine wpList_appAt hgd s x ho hs h3 hx hb hlen hbase fun u' w' hO hG hN => ?_
  have hZ := h2.kept hG h4 h5.row
  refine hk u' w' ?_ hG fun j hj => (h3.lt j hj).1
  rcases hN with e | ⟨n, e, hn⟩
  · exact TwoL.trim hZ hO (fun j hj => h4 j (by rw [← e]; exact hj)) fun j hj hj2 => h5 j hj (by rw [← e]; exact hj2)
  · have hZ2 := (h2.more hn).kept hG (fun j hj => List.mem_cons_of_mem _ (h4 j hj)) h5.row
    refine TwoL.trim hZ2 hO (fun j hj => ?_) fun j hj hj2 => ?_
    · rw [e] at hj
      injection hj with hj
      subst hj
      exact List.mem_cons_self
    · rw [e] at hj2
      injection hj2 with hj2
      subst hj2
      have := (h2.lt n hj).2
      omega
end
end Go.Proofs.YtkfipfhmbhmamaaDoor

namespace Go.Proofs.YtkfipfhmbhmamaaDoor
open Go.RowKit
theorem OwnN.toZ {w : World} {base : Nat} {v : Value} {ls : List (List UInt8)} (h : OwnN w base v ls) (Ls : List Nat) (hL : ∀ k ∈ Ls, k < base) : OwnZ w base (v.ownBlock.toList ++ Ls) v ls := by
  obtain ⟨R, h1, h2⟩ := h.own
  refine ⟨⟨R, h1, fun i hi => ⟨(h2 i hi).1, fun A n k e => ?_⟩⟩, fun k hk => by rw [hk]; simp⟩
  rcases (h2 i hi).2.1 A n k e with h0 | ha
  · exact .inl h0
  rcases (h2 i hi).2.2 A n k e with h0 | hb
  · exact .inl h0
  refine .inr fun b off e2 hm => ?_
  have a1 := ha b off e2
  have a2 := hb b off e2
  rcases List.mem_append.1 hm with hm | hm
  · cases hv : v.ownBlock with
    | none => rw [hv] at hm; cases hm
    | some g =>
      rw [hv] at hm a1
      have hm : b = g := by simpa using hm
      exact a1 (by rw [hm])
  · have := hL b hm
    omega
theorem OwnZ.lower {w : World} {base base' : Nat} {Ls : List Nat} {v : Value} {ls : List (List UInt8)} (h : OwnZ w base Ls v ls) (hb : base' ≤ base) : OwnZ w base' Ls v ls := by
  obtain ⟨R, h1, h2⟩ := h.own
  exact ⟨⟨R, ⟨h1.1, h1.2.elim Or.inl fun ⟨g, cap, cur, hv, hg, r⟩ => Or.inr ⟨g, cap, cur, hv, Nat.le_trans hb hg, r⟩⟩, h2⟩, h.blk⟩
/-- New rows beside elder bytes. -/
theorem TwoL.ofN {w : World} {base B : Nat} {v u : Value} {ls : List (List UInt8)} {l : List UInt8} (h : OwnN w B v ls) (hu : OwnB w base u l) (hb : base ≤ B) (hlt : ∀ k, u.ownBlock = some k → k < B) : TwoL w base w.heap.size v ls u l := by
  refine TwoL.trim ((h.toZ u.ownBlock.toList fun k hk => ?_).lower hb) hu (fun k hk => List.mem_append_right _ (by rw [hk]; simp)) fun k hk hk2 => ?_
  · cases hv : u.ownBlock with
    | none => rw [hv] at hk; cases hk
    | some g =>
      rw [hv] at hk
      obtain rfl : k = g := by simpa using hk
      exact hlt k hv
  · have h1 := (h.lt k hk).1
    have h2 := hlt k hk2
    omega
end Go.Proofs.YtkfipfhmbhmamaaDoor

namespace Go.Proofs.YtkfipfhmbhmamaaDoor
open Go.RowKit
theorem ownsApartS {w : World} {b1 b2 : Nat} {e1 e2 : TypeId} {s1 s2 : Nat} {v1 v2 : Value} {n1 n2 : Nat} {x1 x2 : List Value} (h1 : w.ownsRow b1 e1 s1 v1 n1 x1) (h2 : w.ownsRow b2 e2 s2 v2 n2 x2) (ht : e1 ≠ e2) : v1.ownBlock = none ∨ v1.ownBlock ≠ v2.ownBlock := by
  rcases h1.2 with ⟨rfl, _⟩ | ⟨g1, _, _, rfl, _, hg1, _⟩
  · exact .inl rfl
  rcases h2.2 with ⟨rfl, _⟩ | ⟨g2, _, _, rfl, _, hg2, _⟩
  · exact .inr (by simp [Value.ownBlock])
  · refine .inr fun e => ?_
    simp only [Value.ownBlock, Option.some.injEq] at e
    subst e
    rw [hg1] at hg2
    simp only [Option.some.injEq, Obj.cells.injEq] at hg2
    exact ht hg2.2.1
/-- v reads as these rows, none of which lies in v's own block or in one of these; all were made below H. -/
def RowsL (w : World) (base H : Nat) (v : Value) (ls : List (List UInt8)) (us : List (Option Nat)) : Prop :=
  ∃ Ls : List Nat, (∀ k ∈ Ls, k < H) ∧ OwnZ w base Ls v ls ∧ ∀ u ∈ us, ∀ k, u = some k → k ∈ Ls
section
variable {w w' : World} {base H : Nat} {v : Value} {ls : List (List UInt8)} {us us' : List (Option Nat)}
theorem RowsL.start (w : World) (base H : Nat) (us : List (Option Nat)) (h : ∀ u ∈ us, ∀ k, u = some k → k < H) : RowsL w base H (.slice none 0 0) [] us :=
  ⟨us.filterMap id, fun k hk => by
    obtain ⟨u, hu, e⟩ := List.mem_filterMap.1 hk
    exact h u hu k e, OwnZ.nil _ _ _, fun u hu k e => List.mem_filterMap.2 ⟨u, hu, e⟩⟩
theorem RowsL.lt (h : RowsL w base H v ls us) : ∀ k, v.ownBlock = some k → base ≤ k ∧ k < w.heap.size := h.choose_spec.2.1.lt
theorem RowsL.rows (h : RowsL w base H v ls us) : ∃ A c, v = .slice A ls.length c ∧ ls.length ≤ c ∧ c ≤ maxLen ∧ RowsAt w w.heap.size A ls.length ls := h.choose_spec.2.1.toP.form
theorem RowsL.ext (h : RowsL w base H v ls us) (hE : Ext w w') : RowsL w' base H v ls us := by
  obtain ⟨Ls, h1, h2, h3⟩ := h
  exact ⟨Ls, h1, h2.ext hE, h3⟩
theorem RowsL.apartT {b2 : Nat} {u : Value} {L : List Bool} (h : RowsL w base H v ls us) (k : OwnT w b2 u L) : v.ownBlock = none ∨ v.ownBlock ≠ u.ownBlock := by
  obtain ⟨R, h1, _⟩ := h.choose_spec.2.1.own
  exact ownsApartS h1 k (by decide)
theorem RowsL.apartI {b2 : Nat} {u : Value} {L : List Int} (h : RowsL w base H v ls us) (k : OwnI w b2 u L) : v.ownBlock = none ∨ v.ownBlock ≠ u.ownBlock := by
  obtain ⟨R, h1, _⟩ := h.choose_spec.2.1.own
  exact ownsApartS h1 k (by decide)
theorem RowsL.keptT {b2 : Nat} {u : Value} {L : List Bool} (h : RowsL w base H v ls us) (k : OwnT w b2 u L) (hG : w.grownBy w' v.ownBlock) : OwnT w' b2 u L := by
  obtain ⟨R, h1, _⟩ := h.choose_spec.2.1.own
  exact World.ownsRow.kept k hG (ownsApartS k h1 (by decide))
theorem RowsL.keptI {b2 : Nat} {u : Value} {L : List Int} (h : RowsL w base H v ls us) (k : OwnI w b2 u L) (hG : w.grownBy w' v.ownBlock) : OwnI w' b2 u L := by
  obtain ⟨R, h1, _⟩ := h.choose_spec.2.1.own
  exact World.ownsRow.kept k hG (ownsApartS k h1 (by decide))
theorem RowsL.keptB {b2 : Nat} {u : Value} {l : List UInt8} (h : RowsL w base H v ls us) (k : OwnB w b2 u l) (hG : w.grownBy w' v.ownBlock) : OwnB w' b2 u l := by
  obtain ⟨R, h1, _⟩ := h.choose_spec.2.1.own
  exact World.ownsRow.kept k hG (ownsApartS k h1 (by decide))
/-- One of the blocks grew, or its owner moved. -/
theorem RowsL.side (h : RowsL w base H v ls us) (hH : H ≤ w.heap.size) {ob ob' : Option Nat} (hG : w.grownBy w' ob) (hob : ob ∈ us) (hne : v.ownBlock = none ∨ v.ownBlock ≠ ob) {N : Nat} (hN : ob' = ob ∨ ob' = some N) (hNs : w.heap.size ≤ N) (hlt : ∀ k, ob' = some k → k < w'.heap.size)
    (hus : ∀ u ∈ us', u ∈ us ∨ u = ob') : RowsL w' base w'.heap.size v ls us' := by
  obtain ⟨Ls, h1, h2, h3⟩ := h
  have hs := hG.size
  have hZ := (h2.more hNs).kept hG (fun k hk => List.mem_cons_of_mem _ (h3 ob hob k hk)) hne
  refine ⟨_, fun k hk => by simpa using (List.mem_filter.1 hk).2, hZ.trim, fun u hu k hk => ?_⟩
  rw [List.mem_filter]
  rcases hus u hu with hm | e
  · have hk2 := h3 u hm k hk
    have := h1 k hk2
    exact ⟨List.mem_cons_of_mem _ hk2, by simp; omega⟩
  · subst e
    refine ⟨?_, by simpa using hlt k hk⟩
    rcases hN with e | e
    · exact List.mem_cons_of_mem _ (h3 ob hob k (by rw [← e, hk]))
    · rw [hk] at e
      injection e with e
      subst e
      exact List.mem_cons_self
end
section
variable {o : Oper} {a : Act} {Q : Exit → Act → World → Prop} {w : World} {base H : Nat} {v : Value} {ls : List (List UInt8)} {us : List (Option Nat)}
/-- append of a new row to the rows. -/
theorem wpList_appRL {ops : Array Oper} {rest : List Oper} (hgd : o.guard = none) (s x : Operand) (ho : o.op = .call { callee := .builtin .append, args := #[s, x], argTypes := #[55, 55] }) (hs : a.eval s = v) {A : Option Addr} {m k : Nat} {l : List UInt8}
    (h : RowsL w base H v ls us) (hH : H ≤ w.heap.size) (hr : RowOf w w.heap.size (.slice A m k) l) (hn : NewX H (.slice A m k)) {c : Nat} (hx : a.eval x = .slice (some ⟨w.heap.size, 0, none⟩) 1 c) (hlen : ls.length ≤ 1000) (hbase : base ≤ w.heap.size)
    (hk : ∀ v' w', RowsL w' base w'.heap.size v' (ls ++ [l]) us → (w.alloc (.cells #[.slice A m k] 27)).grownBy w' v.ownBlock → (∀ j, v.ownBlock = some j → base ≤ j) → wpList Tryd.prog ops Q rest (a.put o.dst v') w') :
    wpList Tryd.prog ops Q (o :: rest) a (w.alloc (.cells #[.slice A m k] 27)) := by
  obtain ⟨Ls, h1, h2, h3⟩ := h
  refine wpList_appZ hgd s x ho hs h2 hr (Clr.new hn h1) hx hlen hbase fun v' w' hZ hG hN => hk v' w' ⟨_, fun k hk => by simpa using (List.mem_filter.1 hk).2, hZ.trim, fun u hu k hk => ?_⟩ hG fun j hj => (h2.lt j hj).1
  have hs := hG.size
  rw [World.size_alloc] at hs
  have hk2 := h3 u hu k hk
  have := h1 k hk2
  rw [List.mem_filter]
  exact ⟨List.mem_cons_of_mem _ hk2, by simp; omega⟩
end
end Go.Proofs.YtkfipfhmbhmamaaDoor

