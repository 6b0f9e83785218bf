/- Appends of parts of lists of items; rows of numbers put together; the place where an item is put. -/
import Derived.Test.YtijelijooecoeaaLenMerge
namespace Go.Proofs.Ytijelijooecoeaa
open Go.RowKit Len

/-- A slice that reads as these items, as they lie. -/
def SrcY (w : World) (S : Option Addr) (m : Nat) (Y : List RawI) : Prop := Y.length = m ∧ (m = 0 ∨ ∃ g off, S = some ⟨g, off, none⟩ ∧ ∀ i, i < m → w.cell? ⟨g, off + i * 2, none⟩ = some (.int .u64 (((Y.getD i (0, undef)).1 : Nat) : Int)) ∧ w.cell? ⟨g, off + (i * 2 + 1), none⟩ = some (Y.getD i (0, undef)).2)
section
variable {w w' : World} {base : Nat} {v : Value} {Y : List RawI} {X : List Len.Item} {A : Option Addr}
theorem SrcY.take {n k : Nat} (h : SrcY w A n Y) (hk : k ≤ n) : SrcY w A k (Y.take k) := by
  refine ⟨by rw [List.length_take, h.1]; omega, ?_⟩
  rcases h.2 with h0 | ⟨g, off, e, hc⟩
  · exact .inl (by omega)
  · refine .inr ⟨g, off, e, fun i hi => ?_⟩
    have e2 : (Y.take k).getD i (0, undef) = Y.getD i (0, undef) := by simp [List.getD_eq_getElem?_getD, hi]
    rw [e2]
    exact hc i (by omega)
theorem SrcY.drop {n k c : Nat} (h : SrcY w A n Y) (hk : k ≤ n) (hc : n ≤ c) : SrcY w (cutAt A (c * 2) (k * 2)) (n - k) (Y.drop k) := by
  refine ⟨by rw [List.length_drop, h.1], ?_⟩
  by_cases hkn : k = n
  · exact .inl (by omega)
  rcases h.2 with h0 | ⟨g, off, rfl, hcell⟩
  · exact .inl (by omega)
  · refine .inr ⟨g, off + k * 2, by simp [cutAt, show ¬ c * 2 = k * 2 by omega, Addr.add], fun i hi => ?_⟩
    have e2 : (Y.drop k).getD i (0, undef) = Y.getD (k + i) (0, undef) := by simp [List.getD_eq_getElem?_getD]
    rw [e2, show off + k * 2 + i * 2 = off + (k + i) * 2 by omega, show off + k * 2 + (i * 2 + 1) = off + ((k + i) * 2 + 1) by omega]
    exact hcell (k + i) (by omega)
theorem SaysY.take {B k : Nat} (h : SaysY w B Y X) : SaysY w B (Y.take k) (X.take k) := by
  refine ⟨by rw [List.length_take, List.length_take, h.1], fun i hi => ?_⟩
  rw [List.length_take] at hi
  have e1 : (Y.take k).getD i (0, undef) = Y.getD i (0, undef) := by simp [List.getD_eq_getElem?_getD, show i < k by omega]
  have e2 : (X.take k).getD i (0, []) = X.getD i (0, []) := by simp [List.getD_eq_getElem?_getD, show i < k by omega]
  rw [e1, e2]
  exact h.2 i (by omega)
theorem SaysY.drop {B k : Nat} (h : SaysY w B Y X) : SaysY w B (Y.drop k) (X.drop k) := by
  refine ⟨by rw [List.length_drop, List.length_drop, h.1], fun i hi => ?_⟩
  rw [List.length_drop] at hi
  have e1 : (Y.drop k).getD i (0, undef) = Y.getD (k + i) (0, undef) := by simp [List.getD_eq_getElem?_getD]
  have e2 : (X.drop k).getD i (0, []) = X.getD (k + i) (0, []) := by simp [List.getD_eq_getElem?_getD]
  rw [e1, e2]
  exact h.2 (k + i) (by omega)
/-- A list of items as a slice, and as a source. -/
theorem ItL.src (h : ItL w base v X) : ∃ A c Y, v = .slice A X.length c ∧ X.length ≤ c ∧ c ≤ maxLen ∧ SrcY w A X.length Y ∧ SaysY w w.heap.size Y X := by
  obtain ⟨Y, h1, h2⟩ := h
  obtain ⟨A, c, rfl, hc, hm, hA⟩ := h1.form
  have hl := h2.1
  rw [hl] at hc hA ⊢
  refine ⟨A, c, Y, rfl, hc, hm, ⟨hl, hA.imp_right fun ⟨g, e, hg⟩ => ⟨g, 0, e, fun i hi => ?_⟩⟩, h2⟩
  rw [Nat.zero_add, Nat.zero_add]
  exact hg i hi
theorem SrcY.ext (h : SrcY w A X.length Y) (hE : Ext w w') : SrcY w' A X.length Y := by
  refine ⟨h.1, h.2.imp_right fun ⟨g, off, e, hc⟩ => ⟨g, off, e, fun i hi => ?_⟩⟩
  obtain ⟨k1, k2⟩ := hc i hi
  have hg : g < w.heap.size := World.block_lt_of_cell? w _ k1
  exact ⟨(hE.cell hg).trans k1, (hE.cell hg).trans k2⟩
end
theorem run_appY_zero (w : World) (ty : TypeId) (base : Nat) (v : Value) (Y : List RawI) (hown : OwnY w base v Y) (A : Option Addr) (c : Nat) :
    (Builtin.append_ #[51, 51] ty #[v, .slice A 0 c]).run Try.prog w = .ok v w := by
  obtain ⟨i, hi, _, _, _⟩ := info_parts item_info
  rcases hown.2 with ⟨rfl, _⟩ | ⟨g, cap, cur, rfl, _, _, hnc, _⟩
  · cases A <;> simp [Builtin.append_, run_underlying Try.underlying51, sizeOf, typeInfo, hi, Builtin.lenOf, Builtin.firstCells, loadCells, loadCellsFrom]
  · cases A <;> simp [Builtin.append_, run_underlying Try.underlying51, sizeOf, typeInfo, hi, Builtin.lenOf, Builtin.firstCells, loadCells, loadCellsFrom, hnc, storeCells]
theorem app_says {w w' : World} {B C : Nat} {Y Y2 : List RawI} {X Z : List Len.Item} (h1 : SaysY w B Y X) (h2 : SaysY w' C Y2 Z) (h1' : SaysY w' C Y X) : SaysY w' C (Y ++ Y2) (X ++ Z) := by
  have hl := h1.1
  have hl2 := h2.1
  refine ⟨by simp [hl, hl2], fun j hj => ?_⟩
  by_cases hjl : j < X.length
  · have e1 : (X ++ Z).getD j (0, []) = X.getD j (0, []) := by simp [List.getD_eq_getElem?_getD, List.getElem?_append_left hjl]
    have e2 : (Y ++ Y2).getD j (0, undef) = Y.getD j (0, undef) := by simp [List.getD_eq_getElem?_getD, List.getElem?_append_left (by omega : j < Y.length)]
    rw [e1, e2]
    exact h1'.2 j hjl
  · have e1 : (X ++ Z).getD j (0, []) = Z.getD (j - X.length) (0, []) := by simp [List.getD_eq_getElem?_getD, List.getElem?_append_right (Nat.le_of_not_lt hjl)]
    have e2 : (Y ++ Y2).getD j (0, undef) = Y2.getD (j - X.length) (0, undef) := by rw [← hl]; simp [List.getD_eq_getElem?_getD, List.getElem?_append_right (by omega : Y.length ≤ j)]
    rw [e1, e2]
    rw [List.length_append] at hj
    exact h2.2 _ (by omega)
section
variable {o : Oper} {a : Act} {Q : Exit → Act → World → Prop} {w : World} {base : Nat} {v : Value} {X Z : List Len.Item} {Y2 : List RawI}
set_option maxRecDepth 100000 in
/-- append of a part of a list. -/
theorem wpList_appYs {ops : Array Oper} {rest : List Oper} (hgd : o.guard = none) (s x : Operand) (ho : o.op = .call { callee := .builtin .append, args := #[s, x], argTypes := #[51, 51] }) (hs : a.eval s = v)
    (hown : ItL w base v X) {S : Option Addr} {m c : Nat} (hx : a.eval x = .slice S m c) (hsrc : SrcY w S m Y2) (hsay : SaysY w w.heap.size Y2 Z) (hlen : X.length ≤ 1000) (hm : m ≤ 1000) (hbase : base ≤ w.heap.size)
    (h : ∀ v' w', ItL w' base v' (X ++ Z) → w.grownBy w' v.ownBlock → (v'.ownBlock = v.ownBlock ∨ v'.ownBlock = some w.heap.size) → wpList Try.prog ops Q rest (a.put o.dst v') w') :
    wpList Try.prog ops Q (o :: rest) a w := by
  obtain ⟨Y, h1, h2⟩ := hown
  obtain ⟨hl2, hcs⟩ := hsrc
  rcases hcs with rfl | ⟨g, off, rfl, hc⟩
  · obtain rfl := List.eq_nil_of_length_eq_zero hl2
    have hz : Z = [] := List.eq_nil_of_length_eq_zero hsay.1.symm
    subst hz
    have hr := run_appY_zero w o.type base v Y h1 S c
    refine wpList_plain hgd fun K hK => ?_
    unfold Oper.wp execOp
    simp only [ho, resolve, invoke, builtin, Sem.run_bind, Sem.run_pure, Result.andThen_ok, List.map_toArray, List.map_cons, List.map_nil, hs, hx, hr]
    exact hK _ _ (h v w (by rw [List.append_nil]; exact ⟨Y, h1, h2⟩) (World.grownBy.refl w _) (.inl rfl))
  · obtain ⟨i, hi, hz, hsz, hby⟩ := info_parts item_info
    refine wpList_append_own_at _ hgd s x 51 ho base 54 i _ 2 32 Try.underlying51 hi hz hsz hby rfl (by omega) v Y.length (Y.flatMap rawC) hs h1 ⟨g, off, none⟩ m c (Y2.flatMap rawC) hx (by rw [rawC_len, hl2]) (by
      intro j u hu
      have hj : j < m * 2 := by
        have := (List.getElem?_eq_some_iff.1 hu).1
        rw [rawC_len, hl2] at this
        exact this
      rw [show (⟨g, off, none⟩ : Addr).add j = ⟨g, off + j, none⟩ by unfold Addr.add; split <;> simp_all]
      obtain ⟨k1, k2⟩ := hc (j / 2) (by omega)
      have hd : j = j / 2 * 2 + j % 2 := by omega
      rw [hd, rawC_get Y2 (j / 2) (j % 2) (by omega) (by omega)] at hu
      rcases (show j % 2 = 0 ∨ j % 2 = 1 by omega) with e | e
      · rw [e] at hu
        rw [show off + j = off + j / 2 * 2 by omega, k1]
        simpa [rawC] using hu
      · rw [e] at hu
        rw [show off + j = off + (j / 2 * 2 + 1) by omega, k2]
        simpa [rawC] using hu) (by
      intro u hu
      obtain ⟨y, hy, hu2⟩ := List.mem_flatMap.1 hu
      obtain ⟨p, hp, rfl⟩ := List.mem_iff_getElem.1 hy
      have hs2 := (hsay.2 p (by have := hsay.1; omega)).2.1
      rw [List.getD_eq_getElem?_getD, List.getElem?_eq_getElem hp] at hs2
      obtain ⟨q, C, hq, _, _⟩ := hs2.form
      simp only [rawC, List.mem_cons, List.not_mem_nil, or_false] at hu2
      rcases hu2 with rfl | rfl
      · rfl
      · have e3 : (Y2[p]'hp).2 = .slice q _ C := hq
        rw [e3]
        rfl) (by have := h2.1; unfold maxLen; omega) (by have := h2.1; omega) hbase ?_
    intro v' w' h4 h5 _ h6
    have hS := h5.size
    refine h v' w' ⟨Y ++ Y2, ?_, ?_⟩ h5 h6
    · unfold OwnY
      rw [List.length_append, List.flatMap_append, hl2]
      exact h4
    · exact app_says h2 ((hsay.grownY h1 h5).up hS) ((h2.grownY h1 h5).up hS)
/-- append of a row of numbers. -/
theorem wpList_appLs {u : Value} {L M : List Int} {b2 : Nat} {ops : Array Oper} {rest : List Oper} (hgd : o.guard = none) (s x : Operand) (ho : o.op = .call { callee := .builtin .append, args := #[s, x], argTypes := #[52, 52] }) (hs : a.eval s = v)
    (hown : OwnL w base v L) {n : Nat} {S : Option Addr} {c : Nat} (hu : u = .slice S n c) (hx : a.eval x = .slice S n c) (hM : OwnL w b2 u M) (hn : M.length = n) (hlen : L.length ≤ 10000000) (hm : n ≤ 10000000) (hbase : base ≤ w.heap.size)
    (h : ∀ v' w', OwnL w' base v' (L ++ M) → w.grownBy w' v.ownBlock → (v'.ownBlock = v.ownBlock ∨ v'.ownBlock = some w.heap.size) → wpList Try.prog ops Q rest (a.put o.dst v') w') :
    wpList Try.prog ops Q (o :: rest) a w := by
  subst hu
  subst hn
  obtain ⟨i, hi, hz, hsz, hby⟩ := info_parts intL_info
  obtain ⟨S', c', e, _, hI⟩ := hM.form
  simp only [Value.slice.injEq] at e
  obtain ⟨rfl, _, rfl⟩ := e
  rcases hI.2 with h0 | ⟨g, off, rfl, _, hc⟩
  · obtain rfl := List.eq_nil_of_length_eq_zero h0
    have hr : (Builtin.append_ #[52, 52] o.type #[v, .slice S 0 c]).run Try.prog w = .ok v w := by
      rcases hown.2 with ⟨rfl, _⟩ | ⟨g, cap, cur, rfl, _, _, hnc, _⟩
      · cases S <;> simp [Builtin.append_, run_underlying Try.underlying52, sizeOf, typeInfo, hi, Builtin.lenOf, Builtin.firstCells, loadCells, loadCellsFrom]
      · cases S <;> simp [Builtin.append_, run_underlying Try.underlying52, sizeOf, typeInfo, hi, Builtin.lenOf, Builtin.firstCells, loadCells, loadCellsFrom, hnc, storeCells]
    refine wpList_plain hgd fun K hK => ?_
    unfold Oper.wp execOp
    simp only [ho, resolve, invoke, builtin, Sem.run_bind, Sem.run_pure, Result.andThen_ok, List.map_toArray, List.map_cons, List.map_nil, hs, hx, List.length_nil, hr]
    exact hK _ _ (h v w (by rw [List.append_nil]; exact hown) (World.grownBy.refl w _) (.inl rfl))
  · refine wpList_append_own_at _ hgd s x 52 ho base 3 i _ 1 8 Try.underlying52 hi hz hsz hby rfl (by omega) v L.length (L.map (Value.int .i64)) hs hown ⟨g, off, none⟩ M.length c (M.map (Value.int .i64)) hx (by simp) (by
      intro j u hu
      have hj : j < M.length := by
        have := (List.getElem?_eq_some_iff.1 hu).1
        simpa using this
      rw [show (⟨g, off, none⟩ : Addr).add j = ⟨g, off + j, none⟩ by unfold Addr.add; split <;> simp_all, hc j hj]
      rw [List.getElem?_map, List.getElem?_eq_getElem hj] at hu
      rw [List.getD_eq_getElem?_getD, List.getElem?_eq_getElem hj]
      simpa using hu) (by
      intro u hu
      obtain ⟨x, _, rfl⟩ := List.mem_map.1 hu
      rfl) (by unfold maxLen; omega) (by omega) hbase ?_
    intro v' w' h2 h3 _ h5
    refine h v' w' ?_ h3 h5
    unfold OwnL
    rw [List.length_append, List.map_append]
    exact h2
end
/-- Where an item is put. -/
theorem insI_split (x : Len.Item) : ∀ (l : List Len.Item) (k : Nat), k ≤ l.length → (∀ t, t < k → (l.getD t (0, [])).1 ≤ x.1) → (k < l.length → x.1 < (l.getD k (0, [])).1) → insI x l = (l.take k ++ [x]) ++ l.drop k
  | [], k, hk, _, _ => by
    obtain rfl : k = 0 := by simpa using hk
    rfl
  | a :: l, 0, _, _, h2 => by
    have := h2 (by simp)
    rw [insI, if_neg (by simpa using this)]
    rfl
  | a :: l, k + 1, hk, h1, h2 => by
    have ha := h1 0 (by omega)
    rw [insI, if_pos (by simpa using ha), insI_split x l k (by simpa using hk) (fun t ht => by simpa using h1 (t + 1) (by omega)) (fun h => by simpa using h2 (by simpa using h))]
    rfl
end Go.Proofs.Ytijelijooecoeaa
