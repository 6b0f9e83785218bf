/- Appends of parts of lists of items; rows of numbers put together; the place where an item is put. Parts of lists of items, ahead of the document's Lens of chapter 7: slices of them, new items. The document's Lens of chapter 7. What the program's functions of chapter 11 tell: Read; the contracts that the laws ask. ToksCounts, ToksBack. ToksBack. The laws of chapter 11 at the landed package: their walks. TokC holds what the program's functions tell. What a token that came in reads as. What tokens and pieces that came in read as. -/
import Derived.Test.YtaohdnhfodkeoaaS01
import Derived.Test.YtaohdnhfodkeoaaS03
import Derived.Test.YtaohdnhfodkeoaaS07
import Derived.Test.YtaohdnhfodkeoaaS09
import Derived.Deep.QuietTactic
import Derived.BigQuiet
import Derived.OpenShut
import Derived.Deep.Slices
import Derived.Deep.Strs
namespace Go.Proofs.Ytaohdnhfodkeoaa
open Go.RowKit Len
def SrcY (w : World) (S : Option Addr) (m : Nat) (Y : List RawI) : Prop := Y.length = m ∧ (m = 0 ∨ ∃ g off, S = some ⟨g, off, none⟩ ∧ ∀ i, i < m → w.cell? ⟨g, off + i * 2, none⟩ = some (.int .u64 (((Y.getD i (0, undef)).1 : Nat) : Int)) ∧ w.cell? ⟨g, off + (i * 2 + 1), none⟩ = some (Y.getD i (0, undef)).2)
section
variable {w w' : World} {base : Nat} {v : Value} {Y : List RawI} {X : List Len.Item} {A : Option Addr}
theorem SrcY.take {n k : Nat} (h : SrcY w A n Y) (hk : k ≤ n) : SrcY w A k (Y.take k) := by
  refine ⟨by rw [List.length_take, h.1]; omega, ?_⟩
  rcases h.2 with h0 | ⟨g, off, e, hc⟩
  · exact .inl (by omega)
  · refine .inr ⟨g, off, e, fun i hi => ?_⟩
    have e2 : (Y.take k).getD i (0, undef) = Y.getD i (0, undef) := by simp [List.getD_eq_getElem?_getD, hi]
    rw [e2]
    exact hc i (by omega)
theorem SrcY.drop {n k c : Nat} (h : SrcY w A n Y) (hk : k ≤ n) (hc : n ≤ c) : SrcY w (cutAt A (c * 2) (k * 2)) (n - k) (Y.drop k) := by
  refine ⟨by rw [List.length_drop, h.1], ?_⟩
  by_cases hkn : k = n
  · exact .inl (by omega)
  rcases h.2 with h0 | ⟨g, off, rfl, hcell⟩
  · exact .inl (by omega)
  · refine .inr ⟨g, off + k * 2, by simp [cutAt, show ¬ c * 2 = k * 2 by omega, Addr.add], fun i hi => ?_⟩
    have e2 : (Y.drop k).getD i (0, undef) = Y.getD (k + i) (0, undef) := by simp [List.getD_eq_getElem?_getD]
    rw [e2, show off + k * 2 + i * 2 = off + (k + i) * 2 by omega, show off + k * 2 + (i * 2 + 1) = off + ((k + i) * 2 + 1) by omega]
    exact hcell (k + i) (by omega)
theorem SaysY.take {B k : Nat} (h : SaysY w B Y X) : SaysY w B (Y.take k) (X.take k) := by
  refine ⟨by rw [List.length_take, List.length_take, h.1], fun i hi => ?_⟩
  rw [List.length_take] at hi
  have e1 : (Y.take k).getD i (0, undef) = Y.getD i (0, undef) := by simp [List.getD_eq_getElem?_getD, show i < k by omega]
  have e2 : (X.take k).getD i (0, []) = X.getD i (0, []) := by simp [List.getD_eq_getElem?_getD, show i < k by omega]
  rw [e1, e2]
  exact h.2 i (by omega)
theorem SaysY.drop {B k : Nat} (h : SaysY w B Y X) : SaysY w B (Y.drop k) (X.drop k) := by
  refine ⟨by rw [List.length_drop, List.length_drop, h.1], fun i hi => ?_⟩
  rw [List.length_drop] at hi
  have e1 : (Y.drop k).getD i (0, undef) = Y.getD (k + i) (0, undef) := by simp [List.getD_eq_getElem?_getD]
  have e2 : (X.drop k).getD i (0, []) = X.getD (k + i) (0, []) := by simp [List.getD_eq_getElem?_getD]
  rw [e1, e2]
  exact h.2 (k + i) (by omega)
theorem ItL.src (h : ItL w base v X) : ∃ A c Y, v = .slice A X.length c ∧ X.length ≤ c ∧ c ≤ maxLen ∧ SrcY w A X.length Y ∧ SaysY w w.heap.size Y X := by
  obtain ⟨Y, h1, h2⟩ := h
  obtain ⟨A, c, rfl, hc, hm, hA⟩ := h1.form
  have hl := h2.1
  rw [hl] at hc hA ⊢
  refine ⟨A, c, Y, rfl, hc, hm, ⟨hl, hA.imp_right fun ⟨g, e, hg⟩ => ⟨g, 0, e, fun i hi => ?_⟩⟩, h2⟩
  rw [Nat.zero_add, Nat.zero_add]
  exact hg i hi
end
theorem run_appY_zero (w : World) (ty : TypeId) (base : Nat) (v : Value) (Y : List RawI) (hown : OwnY w base v Y) (A : Option Addr) (c : Nat) :
    (Builtin.append_ #[103, 103] ty #[v, .slice A 0 c]).run Try.prog w = .ok v w := by
  obtain ⟨i, hi, _, _, _⟩ := info_parts item_info
  rcases hown.2 with ⟨rfl, _⟩ | ⟨g, cap, cur, rfl, _, _, hnc, _⟩
  · cases A <;> simp [Builtin.append_, run_underlying Try.underlying103, sizeOf, typeInfo, hi, Builtin.lenOf, Builtin.firstCells, loadCells, loadCellsFrom]
  · cases A <;> simp [Builtin.append_, run_underlying Try.underlying103, sizeOf, typeInfo, hi, Builtin.lenOf, Builtin.firstCells, loadCells, loadCellsFrom, hnc, storeCells]
theorem app_says {w w' : World} {B C : Nat} {Y Y2 : List RawI} {X Z : List Len.Item} (h1 : SaysY w B Y X) (h2 : SaysY w' C Y2 Z) (h1' : SaysY w' C Y X) : SaysY w' C (Y ++ Y2) (X ++ Z) := by
  have hl := h1.1
  have hl2 := h2.1
  refine ⟨by simp [hl, hl2], fun j hj => ?_⟩
  by_cases hjl : j < X.length
  · have e1 : (X ++ Z).getD j (0, []) = X.getD j (0, []) := by simp [List.getD_eq_getElem?_getD, List.getElem?_append_left hjl]
    have e2 : (Y ++ Y2).getD j (0, undef) = Y.getD j (0, undef) := by simp [List.getD_eq_getElem?_getD, List.getElem?_append_left (by omega : j < Y.length)]
    rw [e1, e2]
    exact h1'.2 j hjl
  · have e1 : (X ++ Z).getD j (0, []) = Z.getD (j - X.length) (0, []) := by simp [List.getD_eq_getElem?_getD, List.getElem?_append_right (Nat.le_of_not_lt hjl)]
    have e2 : (Y ++ Y2).getD j (0, undef) = Y2.getD (j - X.length) (0, undef) := by rw [← hl]; simp [List.getD_eq_getElem?_getD, List.getElem?_append_right (by omega : Y.length ≤ j)]
    rw [e1, e2]
    rw [List.length_append] at hj
    exact h2.2 _ (by omega)
section
variable {o : Oper} {a : Act} {Q : Exit → Act → World → Prop} {w : World} {base : Nat} {v : Value} {X Z : List Len.Item} {Y2 : List RawI}
set_option maxRecDepth 100000 in
theorem wpList_appYs {ops : Array Oper} {rest : List Oper} (hgd : o.guard = none) (s x : Operand) (ho : o.op = .call { callee := .builtin .append, args := #[s, x], argTypes := #[103, 103] }) (hs : a.eval s = v)
    (hown : ItL w base v X) {S : Option Addr} {m c : Nat} (hx : a.eval x = .slice S m c) (hsrc : SrcY w S m Y2) (hsay : SaysY w w.heap.size Y2 Z) (hlen : X.length ≤ 1000) (hm : m ≤ 1000) (hbase : base ≤ w.heap.size)
    (h : ∀ v' w', ItL w' base v' (X ++ Z) → w.grownBy w' v.ownBlock → (v'.ownBlock = v.ownBlock ∨ v'.ownBlock = some w.heap.size) → wpList Try.prog ops Q rest (a.put o.dst v') w') :
    wpList Try.prog ops Q (o :: rest) a w := by
  obtain ⟨Y, h1, h2⟩ := hown
  obtain ⟨hl2, hcs⟩ := hsrc
  rcases hcs with rfl | ⟨g, off, rfl, hc⟩
  · obtain rfl := List.eq_nil_of_length_eq_zero hl2
    have hz : Z = [] := List.eq_nil_of_length_eq_zero hsay.1.symm
    subst hz
    have hr := run_appY_zero w o.type base v Y h1 S c
    refine wpList_plain hgd fun K hK => ?_
    unfold Oper.wp execOp
    simp only [ho, resolve, invoke, builtin, Sem.run_bind, Sem.run_pure, Result.andThen_ok, List.map_toArray, List.map_cons, List.map_nil, hs, hx, hr]
    exact hK _ _ (h v w (by rw [List.append_nil]; exact ⟨Y, h1, h2⟩) (World.grownBy.refl w _) (.inl rfl))
  · obtain ⟨i, hi, hz, hsz, hby⟩ := info_parts item_info
    refine wpList_append_own_at _ hgd s x 103 ho base 106 i _ 2 32 Try.underlying103 hi hz hsz hby rfl (by omega) v Y.length (Y.flatMap rawC) hs h1 ⟨g, off, none⟩ m c (Y2.flatMap rawC) hx (by rw [rawC_len, hl2]) (by
      intro j u hu
      have hj : j < m * 2 := by
        have := (List.getElem?_eq_some_iff.1 hu).1
        rw [rawC_len, hl2] at this
        exact this
      rw [show (⟨g, off, none⟩ : Addr).add j = ⟨g, off + j, none⟩ by unfold Addr.add; split <;> simp_all]
      obtain ⟨k1, k2⟩ := hc (j / 2) (by omega)
      have hd : j = j / 2 * 2 + j % 2 := by omega
      rw [hd, rawC_get Y2 (j / 2) (j % 2) (by omega) (by omega)] at hu
      rcases (show j % 2 = 0 ∨ j % 2 = 1 by omega) with e | e
      · rw [e] at hu
        rw [show off + j = off + j / 2 * 2 by omega, k1]
        simpa [rawC] using hu
      · rw [e] at hu
        rw [show off + j = off + (j / 2 * 2 + 1) by omega, k2]
        simpa [rawC] using hu) (by
      intro u hu
      obtain ⟨y, hy, hu2⟩ := List.mem_flatMap.1 hu
      obtain ⟨p, hp, rfl⟩ := List.mem_iff_getElem.1 hy
      have hs2 := (hsay.2 p (by have := hsay.1; omega)).2.1
      rw [List.getD_eq_getElem?_getD, List.getElem?_eq_getElem hp] at hs2
      obtain ⟨q, C, hq, _, _⟩ := hs2.form
      simp only [rawC, List.mem_cons, List.not_mem_nil, or_false] at hu2
      rcases hu2 with rfl | rfl
      · rfl
      · have e3 : (Y2[p]'hp).2 = .slice q _ C := hq
        rw [e3]
        rfl) (by have := h2.1; unfold maxLen; omega) (by have := h2.1; omega) hbase ?_
    intro v' w' h4 h5 _ h6
    have hS := h5.size
    refine h v' w' ⟨Y ++ Y2, ?_, ?_⟩ h5 h6
    · unfold OwnY
      rw [List.length_append, List.flatMap_append, hl2]
      exact h4
    · exact app_says h2 ((hsay.grownY h1 h5).up hS) ((h2.grownY h1 h5).up hS)
theorem wpList_appLs {u : Value} {L M : List Int} {b2 : Nat} {ops : Array Oper} {rest : List Oper} (hgd : o.guard = none) (s x : Operand) (ho : o.op = .call { callee := .builtin .append, args := #[s, x], argTypes := #[104, 104] }) (hs : a.eval s = v)
    (hown : OwnL w base v L) {n : Nat} {S : Option Addr} {c : Nat} (hu : u = .slice S n c) (hx : a.eval x = .slice S n c) (hM : OwnL w b2 u M) (hn : M.length = n) (hlen : L.length ≤ 10000000) (hm : n ≤ 10000000) (hbase : base ≤ w.heap.size)
    (h : ∀ v' w', OwnL w' base v' (L ++ M) → w.grownBy w' v.ownBlock → (v'.ownBlock = v.ownBlock ∨ v'.ownBlock = some w.heap.size) → wpList Try.prog ops Q rest (a.put o.dst v') w') :
    wpList Try.prog ops Q (o :: rest) a w := by
  subst hu
  subst hn
  obtain ⟨i, hi, hz, hsz, hby⟩ := info_parts intL_info
  obtain ⟨S', c', e, _, hI⟩ := hM.form
  simp only [Value.slice.injEq] at e
  obtain ⟨rfl, _, rfl⟩ := e
  rcases hI.2 with h0 | ⟨g, off, rfl, _, hc⟩
  · obtain rfl := List.eq_nil_of_length_eq_zero h0
    have hr : (Builtin.append_ #[104, 104] o.type #[v, .slice S 0 c]).run Try.prog w = .ok v w := by
      rcases hown.2 with ⟨rfl, _⟩ | ⟨g, cap, cur, rfl, _, _, hnc, _⟩
      · cases S <;> simp [Builtin.append_, run_underlying Try.underlying104, sizeOf, typeInfo, hi, Builtin.lenOf, Builtin.firstCells, loadCells, loadCellsFrom]
      · cases S <;> simp [Builtin.append_, run_underlying Try.underlying104, sizeOf, typeInfo, hi, Builtin.lenOf, Builtin.firstCells, loadCells, loadCellsFrom, hnc, storeCells]
    refine wpList_plain hgd fun K hK => ?_
    unfold Oper.wp execOp
    simp only [ho, resolve, invoke, builtin, Sem.run_bind, Sem.run_pure, Result.andThen_ok, List.map_toArray, List.map_cons, List.map_nil, hs, hx, List.length_nil, hr]
    exact hK _ _ (h v w (by rw [List.append_nil]; exact hown) (World.grownBy.refl w _) (.inl rfl))
  · refine wpList_append_own_at _ hgd s x 104 ho base 3 i _ 1 8 Try.underlying104 hi hz hsz hby rfl (by omega) v L.length (L.map (Value.int .i64)) hs hown ⟨g, off, none⟩ M.length c (M.map (Value.int .i64)) hx (by simp) (by
      intro j u hu
      have hj : j < M.length := by
        have := (List.getElem?_eq_some_iff.1 hu).1
        simpa using this
      rw [show (⟨g, off, none⟩ : Addr).add j = ⟨g, off + j, none⟩ by unfold Addr.add; split <;> simp_all, hc j hj]
      rw [List.getElem?_map, List.getElem?_eq_getElem hj] at hu
      rw [List.getD_eq_getElem?_getD, List.getElem?_eq_getElem hj]
      simpa using hu) (by
      intro u hu
      obtain ⟨x, _, rfl⟩ := List.mem_map.1 hu
      rfl) (by unfold maxLen; omega) (by omega) hbase ?_
    intro v' w' h2 h3 _ h5
    refine h v' w' ?_ h3 h5
    unfold OwnL
    rw [List.length_append, List.map_append]
    exact h2
end
theorem insI_split (x : Len.Item) : ∀ (l : List Len.Item) (k : Nat), k ≤ l.length → (∀ t, t < k → (l.getD t (0, [])).1 ≤ x.1) → (k < l.length → x.1 < (l.getD k (0, [])).1) → insI x l = (l.take k ++ [x]) ++ l.drop k
  | [], k, hk, _, _ => by
    obtain rfl : k = 0 := by simpa using hk
    rfl
  | a :: l, 0, _, _, h2 => by
    have := h2 (by simp)
    rw [insI, if_neg (by simpa using this)]
    rfl
  | a :: l, k + 1, hk, h1, h2 => by
    have ha := h1 0 (by omega)
    rw [insI, if_pos (by simpa using ha), insI_split x l k (by simpa using hk) (fun t ht => by simpa using h1 (t + 1) (by omega)) (fun h => by simpa using h2 (by simpa using h))]
    rfl
end Go.Proofs.Ytaohdnhfodkeoaa

namespace Go.Proofs.Ytaohdnhfodkeoaa
open Go.RowKit Len
theorem run_headY (W : World) (a : Option Addr) (n c : Nat) (k : IntKind) (h : Int) (h0 : 0 ≤ h) (h1 : h ≤ c) :
    (Instr.slice 103 (.slice a n c) none (some (.int k h)) none).run Try.prog W = .ok (.slice (cutAt a (c * 2) (0 * 2)) h.toNat c) W := by
  rw [run_slice_h (P := Try.prog) (w := W) 103 a n c (by kernel_rfl) k h h0 h1]
  have hs : (sizeOf (Try.prog.elem 103)).run Try.prog W = .ok 2 W := by kernel_rfl
  rw [hs]
  have e : (c * 2 = 0 * 2) = (c = 0) := propext ⟨fun h => by omega, fun h => by omega⟩
  simp only [Result.andThen, sliced, cutAt, e, Nat.sub_zero]
theorem run_cutY (W : World) (a : Option Addr) (n c : Nat) (k : IntKind) (l : Int) (h0 : 0 ≤ l) (h1 : l ≤ n) :
    (Instr.slice 103 (.slice a n c) (some (.int k l)) none none).run Try.prog W = .ok (.slice (cutAt a (c * 2) (l.toNat * 2)) (n - l.toNat) (c - l.toNat)) W := by
  rw [run_slice_l (P := Try.prog) (w := W) 103 a n c (by kernel_rfl) k l h0 h1]
  have hs : (sizeOf (Try.prog.elem 103)).run Try.prog W = .ok 2 W := by kernel_rfl
  rw [hs]
  have e : (c * 2 = l.toNat * 2) = (c = l.toNat) := propext ⟨fun h => by omega, fun h => by omega⟩
  simp only [Result.andThen, sliced, cutAt, e]
theorem SrcY.head {w : World} {A : Option Addr} {n c k : Nat} {Y : List RawI} (h : SrcY w A n Y) (hk : k ≤ n) (hc : n ≤ c) : SrcY w (cutAt A (c * 2) (0 * 2)) k (Y.take k) := by
  have := (h.drop (k := 0) (Nat.zero_le n) hc).take (k := k) (by omega)
  simpa using this
theorem SrcY.extN {w w' : World} {A : Option Addr} {n : Nat} {Y : List RawI} (h : SrcY w A n Y) (hE : Ext w w') : SrcY w' A n Y := by
  refine ⟨h.1, h.2.imp_right fun ⟨g, off, e, hc⟩ => ⟨g, off, e, fun i hi => ?_⟩⟩
  obtain ⟨k1, k2⟩ := hc i hi
  have hg : g < w.heap.size := World.block_lt_of_cell? w _ k1
  exact ⟨(hE.cell hg).trans k1, (hE.cell hg).trans k2⟩
theorem OwnL.one (w : World) (p : Int) {base : Nat} (h : base ≤ w.heap.size) : OwnL (w.alloc (.cells #[.int .i64 p] 3)) base (.slice (some ⟨w.heap.size, 0, none⟩) 1 1) [p] := by
  have := World.ownsRow_lit (e := 3) (size := 1) w #[.int .i64 p] 1 h (by unfold maxLen; omega) (by simp)
  simpa [OwnL] using this
theorem OwnL.mono {w : World} {base base' : Nat} {v : Value} {L : List Int} (h : OwnL w base v L) (hb : base' ≤ base) : OwnL w base' v L :=
  ⟨h.1, h.2.imp_right fun ⟨g, cap, cur, e, hg, r⟩ => ⟨g, cap, cur, e, Nat.le_trans hb hg, r⟩⟩
theorem wpList_appYg {o : Oper} {a : Act} {Q : Exit → Act → World → Prop} {w : World} {base g : Nat} {v : Value} {X : List Len.Item} {ops : Array Oper} {rest : List Oper} (hgd : o.guard = none) (s x : Operand) (ho : o.op = .call { callee := .builtin .append, args := #[s, x], argTypes := #[103, 103] }) (hs : a.eval s = v) {q : Option Addr} {C : Nat} {it : Len.Item}
    (hg : g = w.heap.size) (hown : ItL w base v X) (hit : OwnL w 0 (.slice q it.2.length C) (it.2.map Int.ofNat)) {c : Nat} (hx : a.eval x = .slice (some ⟨g, 0, none⟩) 1 c) (hlen : X.length ≤ 1000) (hbase : base ≤ w.heap.size)
    (h : ∀ v' w', ItL w' base v' (X ++ [it]) → (w.alloc (.cells #[.int .u64 ((it.1 : Nat) : Int), .slice q it.2.length C] 106)).grownBy w' v.ownBlock → (v'.ownBlock = v.ownBlock ∨ v'.ownBlock = some (w.heap.size + 1)) → wpList Try.prog ops Q rest (a.put o.dst v') w') :
    wpList Try.prog ops Q (o :: rest) a (w.alloc (.cells #[.int .u64 ((it.1 : Nat) : Int), .slice q it.2.length C] 106)) := by
  subst hg
  exact wpList_appY hgd s x ho hs hown hit hx hlen hbase h
theorem ItL.byte {w w' : World} {base b2 g n c : Nat} {v : Value} {X : List Len.Item} {O : List UInt8} (h : ItL w base v X) (hO : OwnB w b2 (.slice (some ⟨g, 0, none⟩) n c) O) (hG : w.grownBy w' (some g)) : ItL w' base v X := by
  obtain ⟨Y, h1, h2⟩ := h
  have hg : ∃ x, w.heap[g]? = some (.cells x 5) := by
    rcases hO.2 with ⟨e, _⟩ | ⟨g1, c1, cur1, e, _, hh, _⟩
    · cases e
    · simp only [Value.slice.injEq, Option.some.injEq, Addr.mk.injEq, and_true] at e
      obtain ⟨rfl, _⟩ := e
      exact ⟨_, hh⟩
  obtain ⟨x, hx⟩ := hg
  refine ⟨Y, World.ownsRow.kept h1 hG (.inr fun e => ?_), h2.1, fun i hi => ⟨(h2.2 i hi).1, World.ownsRow.kept (h2.2 i hi).2.1 hG (.inr fun e => ?_), fun k hk => Nat.lt_of_lt_of_le ((h2.2 i hi).2.2 k hk) hG.size⟩⟩
  · rcases h1.2 with ⟨rfl, _⟩ | ⟨g2, c2, cur2, rfl, _, hh, _⟩
    · cases e
    · simp only [Value.ownBlock, Option.some.injEq] at e
      subst e
      rw [hx] at hh
      simp only [Option.some.injEq, Obj.cells.injEq] at hh
      exact absurd hh.2.1 (by decide)
  · rcases (h2.2 i hi).2.1.2 with ⟨e2, _⟩ | ⟨g2, c2, cur2, e2, _, hh, _⟩
    · rw [e2] at e
      cases e
    · rw [e2] at e
      simp only [Value.ownBlock, Option.some.injEq] at e
      subst e
      rw [hx] at hh
      simp only [Option.some.injEq, Obj.cells.injEq] at hh
      exact absurd hh.2.1 (by decide)
set_option maxRecDepth 100000 in
theorem wp_appY {o : Oper} {a : Act} {K : Act → World → Prop} {Q : Exit → Act → World → Prop} {w : World} {base : Nat} {v : Value} {X : List Len.Item} (s x : Operand) (ho : o.op = .call { callee := .builtin .append, args := #[s, x], argTypes := #[103, 103] }) (hs : a.eval s = v) {q : Option Addr} {C : Nat} {it : Len.Item}
    (hown : ItL w base v X) (hit : OwnL w 0 (.slice q it.2.length C) (it.2.map Int.ofNat)) {c : Nat} (hx : a.eval x = .slice (some ⟨w.heap.size, 0, none⟩) 1 c) (hlen : X.length ≤ 1000) (hbase : base ≤ w.heap.size)
    (h : ∀ v' w', ItL w' base v' (X ++ [it]) → (w.alloc (.cells #[.int .u64 ((it.1 : Nat) : Int), .slice q it.2.length C] 106)).grownBy w' v.ownBlock → K (a.put o.dst v') w') :
    o.wp Try.prog a (w.alloc (.cells #[.int .u64 ((it.1 : Nat) : Int), .slice q it.2.length C] 106)) K Q := by
  obtain ⟨Y, h1, h2⟩ := hown
  obtain ⟨i, hi, hz, hsz, hby⟩ := info_parts item_info
  have hE := extNew w (.cells #[.int .u64 ((it.1 : Nat) : Int), .slice q it.2.length C] 106)
  have h1E := h1.ext hE
  obtain ⟨v', w', hr, h4, h5, _, _⟩ := run_append_own_at (P := Try.prog) _ base 103 o.type 106 i _ 2 32 Try.underlying103 hi hz hsz hby rfl (by omega) v Y.length (Y.flatMap rawC) h1E ⟨w.heap.size, 0, none⟩ 1 c (rawC (it.1, .slice q it.2.length C)) rfl (by
    intro j u hu
    rw [show (⟨w.heap.size, 0, none⟩ : Addr).add j = ⟨w.heap.size, j, none⟩ by unfold Addr.add; split <;> simp_all, cellNew]
    match j, hu with
    | 0, hu => simpa [rawC] using hu
    | 1, hu => simpa [rawC] using hu
    | j + 2, hu => simp [rawC] at hu) (by
    intro u hu
    simp [rawC] at hu
    rcases hu with rfl | rfl <;> rfl) (by unfold maxLen; have := h2.1; omega) (by have := h2.1; omega) (by simp; omega)
  unfold Oper.wp execOp
  simp only [ho, resolve, invoke, builtin, Sem.run_bind, Sem.run_pure, Result.andThen_ok, List.map_toArray, List.map_cons, List.map_nil, hs, hx, hr]
  have hS := h5.size
  rw [World.size_alloc] at hS
  refine h v' w' ⟨Y ++ [(it.1, .slice q it.2.length C)], ?_, ?_⟩ h5
  · unfold OwnY
    rw [List.length_append, List.flatMap_append]
    simpa using h4
  · have k1 := ((h2.ext hE).grownY h1E h5).up (C := w'.heap.size) (by omega)
    have k2 : OwnL w' 0 (.slice q it.2.length C) (it.2.map Int.ofNat) := World.ownsRow.kept (hit.ext hE) h5 (by
      cases hb : v.ownBlock with
      | none => cases (Value.slice q it.2.length C).ownBlock <;> simp
      | some g => exact .inr ((hit.ext hE).notY h1E hb))
    refine ⟨by simp [h2.1], fun j hj => ?_⟩
    have hl := h2.1
    by_cases hjl : j < X.length
    · have e1 : (X ++ [it]).getD j (0, []) = X.getD j (0, []) := by simp [List.getD_eq_getElem?_getD, List.getElem?_append_left hjl]
      have e2 : (Y ++ [(it.1, Value.slice q it.2.length C)]).getD j (0, undef) = Y.getD j (0, undef) := by simp [List.getD_eq_getElem?_getD, List.getElem?_append_left (by omega : j < Y.length)]
      rw [e1, e2]
      exact k1.2 j hjl
    · have hjx : j = X.length := by simp at hj; omega
      subst hjx
      have e1 : (X ++ [it]).getD X.length (0, []) = it := by simp [List.getD_eq_getElem?_getD]
      have e2 : (Y ++ [(it.1, Value.slice q it.2.length C)]).getD X.length (0, undef) = (it.1, .slice q it.2.length C) := by rw [← hl]; simp [List.getD_eq_getElem?_getD]
      rw [e1, e2]
      exact ⟨rfl, k2, fun k hk => (k2.lt k hk).2⟩
end Go.Proofs.Ytaohdnhfodkeoaa

namespace Go.Proofs.Ytaohdnhfodkeoaa
open Go.RowKit Len
attribute [local go_sem ↓] run_headY run_cutY
set_option maxHeartbeats 8000000 in
set_option maxRecDepth 100000 in
theorem refLens_any (w0 : World) : RefLensC w0 := by
  intro often limit A n c w _ hnc hU hlo hhi
  have hn := hU.1
  have hub := hU.2.1
  subst hn
  have HBad := hide (show (300 < often.length ∨ limit < 1 ∨ 15 < limit) → lensE often limit = ([], 13) from fun h => if_pos h)
  by_cases h300 : (300 : Int) < (often.length : Int)
  · have HN := hide (HBad.out (.inl (by omega)))
    generalize lensE often limit = res at *
    clear hU hub HBad
    go_enter Try.func35, Try.ntmps35
    go_wp2
    go_ret2
    rw [HN.out]
    exact ⟨_, rfl, OwnB.nil _ _, Ext.refl _⟩
  by_cases hl1 : limit < 1
  · have HN := hide (HBad.out (.inr (.inl hl1)))
    generalize lensE often limit = res at *
    clear hU hub HBad
    go_enter Try.func35, Try.ntmps35
    go_wp2
    go_ret2
    rw [HN.out]
    exact ⟨_, rfl, OwnB.nil _ _, Ext.refl _⟩
  by_cases hl2 : 15 < limit
  · have HN := hide (HBad.out (.inr (.inr hl2)))
    generalize lensE often limit = res at *
    clear hU hub HBad
    go_enter Try.func35, Try.ntmps35
    go_wp2
    go_ret2
    rw [HN.out]
    exact ⟨_, rfl, OwnB.nil _ _, Ext.refl _⟩
  clear HBad
  obtain ⟨L, rfl⟩ : ∃ L : Nat, limit = (L : Int) := ⟨limit.toNat, by omega⟩
  have hn300 : often.length ≤ 300 := by omega
  have hL1 : 1 ≤ L := by omega
  have hL15 : L ≤ 15 := by omega
  have HLim := hide (show 2 ^ L < (usedTo often often.length).length → lensE often (L : Int) = ([], 6) from fun h => by
    unfold lensE
    rw [if_neg (by omega), if_pos (by simpa using h)])
  have HOk := hide (show (usedTo often often.length).length ≤ 2 ^ L → lensE often (L : Int) = (lensL often L, 0) from fun h => by
    unfold lensE
    rw [if_neg (by omega), if_neg (by simpa using h)]
    rfl)
  have HU0 := hide (show ∀ j, often.getD j 0 = 0 → usedTo often (j + 1) = usedTo often j from fun j h => if_pos h)
  have HU1 := hide (show ∀ j, often.getD j 0 ≠ 0 → usedTo often (j + 1) = insI (often.getD j 0, [j]) (usedTo often j) from fun j h => if_neg h)
  have HUle := hide (fun j => used_le (often := often) j)
  have HUw := hide (fun j => used_w (often := often) (j := j))
  have HUb := hide hub
  have HU := hide hU
  clear hub hU hlo hhi
  generalize lensE often (L : Int) = res at *
  generalize hN : often.length = N at *
  go_enter Try.func35, Try.ntmps35
  go_wp2_with fail
  go_loopw [6, 7] (fun u a wr => ∃ j : Nat, j ≤ N ∧ a = .int .i64 (j : Int) ∧ ItL wr w.heap.size u (usedTo often j) ∧ Ext w wr) (fun _ a _ => N - (intOf a).toNat)
  case atStart => exact ⟨0, by omega, rfl, ItL.nil _ _, Ext.refl _⟩
  case round =>
    obtain ⟨j, hj, rfl, hI, hE⟩ := hrel
    by_cases hlt : j < N
    · rcases (HU.out.ext hE).2.2 with h0 | ⟨b, o, rfl, hcB, hcells⟩
      · omega
      have hcell := hcells j hlt
      clear hcells
      have hxb := HUb.out j
      have hX0 := HU0.out j
      have hX1 := HU1.out j
      have hXle := HUle.out j
      have hXw := HUw.out j
      unfold wOf at hXw
      generalize often.getD j 0 = x at *
      generalize usedTo often j = X at *
      generalize hX2 : usedTo often (j + 1) = X2 at *
      have HX2 := hide hX2
      clear hX2
      have hjI : (j : Int) < (N : Int) := by omega
      by_cases hx : x = 0
      · subst hx
        have HX0 := hide (hX0 rfl)
        clear hX0 hX1 hXw
        go_wp2
        go_roundw
        case rel => exact ⟨j + 1, by omega, by go_num, by rw [HX2.out, HX0.out]; exact hI, hE⟩
        case measure => simp [intOf]; omega
      · have HX1 := hide (hX1 hx)
        have hq0 : ((x : Int) == 0) = false := by simp; omega
        clear hX0 hX1
        obtain ⟨Au, cu, rfl, hmc, hmm, f1⟩ := hI.form
        obtain ⟨A2, c2, Y, e, _, _, hS, hSay⟩ := hI.src
        simp only [Value.slice.injEq, true_and] at e
        obtain ⟨rfl, rfl⟩ := e
        have F1 := hide f1
        have HW := hide hXw
        clear f1 hXw
        obtain ⟨m, hm⟩ : ∃ m, m = X.length := ⟨_, rfl⟩
        have HM := hide hm
        rw [← hm] at hmc hXle hS ⊢
        have hm300 : m ≤ 300 := by omega
        obtain ⟨wa, rfl⟩ : ∃ W, W = wr := ⟨_, rfl⟩
        clear hm
        go_wp2_with fail
        go_loopw [8] (fun b wq => ∃ p : Nat, p ≤ m ∧ b = .int .i64 (p : Int) ∧ (∀ t, p ≤ t → t < m → x < (X.getD t (0, [])).1) ∧ Ext wa wq) (fun b _ => (intOf b).toNat)
        case atStart => exact ⟨m, by omega, rfl, fun t h1 h2 => absurd h1 (by omega), Ext.refl _⟩
        case round =>
          obtain ⟨p, hpm, rfl, hhi, hE2⟩ := hrel
          have HHi := hide hhi
          clear hhi
          have hpmI : (p : Int) ≤ (m : Int) := by omega
          have hpcu : (p : Int) ≤ (cu : Int) := by omega
          have hp0I : (0 : Int) ≤ (p : Int) := by omega
          by_cases hp0 : p = 0
          · have hpz : ¬ (0 : Int) < (p : Int) := by omega
            have HLow := hide (show ∀ t, t < p → (X.getD t (0, [])).1 ≤ x from fun t ht => absurd ht (by omega))
            have hd1 : decide ((0 : Int) < (p : Int)) = false := decide_eq_false hpz
            have hd2 : decide (0 < p) = false := decide_eq_false (by omega)
            clear hp0
            go_wp2_with fail
            go_quiet (fail)
            have hEq : Ext wr (wr.drewN nq) := (Ext.refl wr).drewN nq
            generalize wr.drewN nq = w3 at hEq ⊢
            have hE3 := hE2.trans hEq
            have hEw3 := hE.trans hE3
            have hS3 := hS.extN hE3
            have hSay3 := (hSay.ext hE3).up (C := w3.heap.size) hE3.le
            have hlt5 : (X.take p).length ≤ 1000 := by rw [List.length_take]; omega
            have hlt7 : (X.take p ++ [(x, [j])]).length ≤ 1000 := by rw [List.length_append, List.length_take]; simp; omega
            have hm3 : p ≤ 1000 := by omega
            have hm4 : m - p ≤ 1000 := by omega
            go_wp2_with (first
              | (at_builtin; refine wpList_appYs (v := .slice none 0 0) rfl (.tmp 64) (.tmp 67) rfl rfl (ItL.nil w3 w3.heap.size) rfl (hS3.head hpm hmc) hSay3.take (Nat.zero_le _) hm3 (Nat.le_refl _) ?_; intro v5 w5 hI5 hG5 _; have hE5 : Ext w3 w5 := Below.grown (Ext.refl w3) hG5 (Nat.le_refl _) (fun k hk => by cases hk); rw [List.nil_append] at hI5; have hob := ((hE3.trans hE5).cell (i := o + j) hcB).trans hcell; have hb5 := hE5.le; have hEa := extNew w5 (.cells #[.int .i64 (j : Int)] 3); have hO6 := OwnL.one w5 (j : Int) (base := 0) (Nat.zero_le _); have hIa := hI5.ext hEa; have hsz := hide (show w5.heap.size + 1 = (w5.alloc (.cells #[.int .i64 (j : Int)] 3)).heap.size from (World.size_alloc w5 _).symm))
              | (at_builtin; refine wpList_appYg (g := w5.heap.size + 1) (it := (x, [j])) rfl (.tmp 69) (.tmp 78) rfl rfl hsz.out hIa hO6 rfl hlt5 (Nat.le_trans hb5 hEa.le) ?_; intro v7 w7 hI7 hG7 _; have hEb := extNew (w5.alloc (.cells #[.int .i64 (j : Int)] 3)) (.cells #[.int .u64 ((x : Nat) : Int), .slice (some ⟨w5.heap.size, 0, none⟩) 1 1] 106); have hE7 : Ext w3 w7 := Below.grown ((hE5.trans hEa).trans hEb) hG7 ((hE5.trans hEa).trans hEb).le (fun k hk => (hIa.lt k hk).1); have hS7 := hS3.extN hE7; have hSay7 := (hSay3.ext hE7).up (C := w7.heap.size) hE7.le)
              | (at_builtin; refine wpList_appYs rfl (.tmp 80) (.tmp 83) rfl rfl hI7 rfl (hS7.drop hpm hmc) hSay7.drop hlt7 hm4 hE7.le ?_; intro v9 w9 hI9 hG9 _))
            have hE9 : Ext w3 w9 := Below.grown hE7 hG9 hE7.le (fun k hk => (hI7.lt k hk).1)
            have hX : insI (x, [j]) X = (X.take p ++ [(x, [j])]) ++ X.drop p := insI_split _ X p (by rw [← HM.out]; exact hpm) HLow.out (fun h => HHi.out p (Nat.le_refl _) (by rw [HM.out]; exact h))
            rw [← hX, ← HX1.out, ← HX2.out] at hI9
            go_roundw
            case rel => exact ⟨j + 1, by omega, by go_num, hI9.mono hEw3.le, hEw3.trans hE9⟩
            case measure => simp [intOf]; omega
          · obtain ⟨g, q, C, e, j1, j2, j3, j4⟩ := ((F1.out (p - 1) (by rw [← HM.out]; omega)).ext hE2).ex
            have hpI : (0 : Int) < (p : Int) := by omega
            have hpd : decide ((0 : Int) < (p : Int)) = true := decide_eq_true hpI
            have hpN : decide (0 < p) = true := decide_eq_true (by omega)
            have hpc : (p : Int) - 1 = ((p - 1 : Nat) : Int) := by omega
            by_cases hgt : x < (X.getD (p - 1) (0, [])).1
            · have HHi2 := hide (show ∀ t, p - 1 ≤ t → t < m → x < (X.getD t (0, [])).1 from fun t h1 h2 => by
                by_cases ht : t = p - 1
                · rw [ht]; exact hgt
                · exact HHi.out t (by omega) h2)
              generalize X.getD (p - 1) (0, []) = it at *
              subst e
              have hgtd : decide ((it.1 : Int) > (x : Int)) = true := decide_eq_true (by omega)
              have hgtI : (x : Int) < (it.1 : Int) := by omega
              have hgtN : decide (x < it.1) = true := decide_eq_true hgt
              have hcw := (hE2.cell (i := o + j) hcB).trans hcell
              clear hcell hx hp0
              go_wp2_with fail
              go_quiet (fail)
              have hEq : Ext wr (wr.drewN nq) := (Ext.refl wr).drewN nq
              generalize wr.drewN nq = w3 at hEq ⊢
              go_wp2
              go_roundw
              case rel => exact ⟨p - 1, by omega, by go_num, HHi2.out, hE2.trans hEq⟩
              case measure => simp [intOf]; omega
            · have HLow := hide (show ∀ t, t < p → (X.getD t (0, [])).1 ≤ x from fun t ht => by
                have := HW.out t (p - 1) (by omega) (by rw [← HM.out]; omega)
                omega)
              generalize X.getD (p - 1) (0, []) = it at *
              subst e
              have hgtd : decide ((it.1 : Int) > (x : Int)) = false := decide_eq_false (by omega)
              have hgtN : decide (x < it.1) = false := decide_eq_false hgt
              have hcw := (hE2.cell (i := o + j) hcB).trans hcell
              clear hp0
              go_wp2_with fail
              go_quiet (fail)
              have hEq : Ext wr (wr.drewN nq) := (Ext.refl wr).drewN nq
              generalize wr.drewN nq = w3 at hEq ⊢
              have hE3 := hE2.trans hEq
              have hEw3 := hE.trans hE3
              have hS3 := hS.extN hE3
              have hSay3 := (hSay.ext hE3).up (C := w3.heap.size) hE3.le
              have hlt5 : (X.take p).length ≤ 1000 := by rw [List.length_take]; omega
              have hlt7 : (X.take p ++ [(x, [j])]).length ≤ 1000 := by rw [List.length_append, List.length_take]; simp; omega
              have hm3 : p ≤ 1000 := by omega
              have hm4 : m - p ≤ 1000 := by omega
              go_wp2_with (first
                | (at_builtin; refine wpList_appYs (v := .slice none 0 0) rfl (.tmp 64) (.tmp 67) rfl rfl (ItL.nil w3 w3.heap.size) rfl (hS3.head hpm hmc) hSay3.take (Nat.zero_le _) hm3 (Nat.le_refl _) ?_; intro v5 w5 hI5 hG5 _; have hE5 : Ext w3 w5 := Below.grown (Ext.refl w3) hG5 (Nat.le_refl _) (fun k hk => by cases hk); rw [List.nil_append] at hI5; have hob := ((hE3.trans hE5).cell (i := o + j) hcB).trans hcell; have hb5 := hE5.le; have hEa := extNew w5 (.cells #[.int .i64 (j : Int)] 3); have hO6 := OwnL.one w5 (j : Int) (base := 0) (Nat.zero_le _); have hIa := hI5.ext hEa; have hsz := hide (show w5.heap.size + 1 = (w5.alloc (.cells #[.int .i64 (j : Int)] 3)).heap.size from (World.size_alloc w5 _).symm))
                | (at_builtin; refine wpList_appYg (g := w5.heap.size + 1) (it := (x, [j])) rfl (.tmp 69) (.tmp 78) rfl rfl hsz.out hIa hO6 rfl hlt5 (Nat.le_trans hb5 hEa.le) ?_; intro v7 w7 hI7 hG7 _; have hEb := extNew (w5.alloc (.cells #[.int .i64 (j : Int)] 3)) (.cells #[.int .u64 ((x : Nat) : Int), .slice (some ⟨w5.heap.size, 0, none⟩) 1 1] 106); have hE7 : Ext w3 w7 := Below.grown ((hE5.trans hEa).trans hEb) hG7 ((hE5.trans hEa).trans hEb).le (fun k hk => (hIa.lt k hk).1); have hS7 := hS3.extN hE7; have hSay7 := (hSay3.ext hE7).up (C := w7.heap.size) hE7.le)
                | (at_builtin; refine wpList_appYs rfl (.tmp 80) (.tmp 83) rfl rfl hI7 rfl (hS7.drop hpm hmc) hSay7.drop hlt7 hm4 hE7.le ?_; intro v9 w9 hI9 hG9 _))
              have hE9 : Ext w3 w9 := Below.grown hE7 hG9 hE7.le (fun k hk => (hI7.lt k hk).1)
              have hX : insI (x, [j]) X = (X.take p ++ [(x, [j])]) ++ X.drop p := insI_split _ X p (by rw [← HM.out]; exact hpm) HLow.out (fun h => HHi.out p (Nat.le_refl _) (by rw [HM.out]; exact h))
              rw [← hX, ← HX1.out, ← HX2.out] at hI9
              go_roundw
              case rel => exact ⟨j + 1, by omega, by go_num, hI9.mono hEw3.le, hEw3.trans hE9⟩
              case measure => simp [intOf]; omega
    · obtain rfl : N = j := by omega
      have HUle0 := HUle.out N
      have HR := hide (fun r x h => used_row (often := often) HUb.out N r x h)
      have HO1 := hide (show (usedTo often N).length = 1 → ∀ q, lenN often L q = if q = sOf (usedTo often N) 0 then 1 else 0 from fun h1 q => by
        have := lenN_one (often := often) (L := L) (by rw [hN]; exact h1) q
        rw [hN] at this
        exact this)
      have HLen := hide (fun (O : List UInt8) (h0 : O.length = often.length) (h1 : (usedTo often N).length ≤ 2 ^ L) h2 => lens_of (often := often) (O := O) h0 hL1 hL15 (by rw [hN]; exact h1) h2)
      have HSm := hide (fun (h1 : (usedTo often N).length ≤ 2 ^ L) q h2 => lenN_small (often := often) (L := L) (q := q) h2 hL1 hL15 (by rw [hN]; exact h1))
      have HF := hide (show ∀ q, 2 ≤ (usedTo often N).length → lenN often L q = (syms ((row (usedTo often N) (L - 1)).take (2 * (usedTo often N).length - 2))).count q from fun q h2 => by
        unfold lenN
        rw [hN, if_neg (by omega)])
      have HF1 := hide (show ∀ q, (usedTo often N).length = 0 → lenN often L q = 0 from fun q h2 => by
        unfold lenN
        rw [hN, if_pos (by omega), List.eq_nil_of_length_eq_zero h2]
        rfl)
      have HS0 := hide (fun i h => (used_at (often := often) (j := N) (i := i) h).2.2.2)
      have HS1 := hide (fun i h => (used_at (often := often) (j := N) (i := i) h).1)
      generalize usedTo often N = X at *
      generalize lenN often L = lf at *
      generalize hres : lensL often L = resL at *
      obtain ⟨Au, cu, rfl, hmc, hmm, f1⟩ := hI.form
      have F1 := hide f1
      clear f1 HU0 HU1 HUle HUw
      obtain ⟨m, hm⟩ : ∃ m, m = X.length := ⟨_, rfl⟩
      have HM := hide hm
      rw [← hm] at hmc HUle0 ⊢
      clear hm
      have hm300 : m ≤ 300 := by omega
      obtain ⟨wa, rfl⟩ : ∃ W, W = wr := ⟨_, rfl⟩
      go_wp2_with fail
      go_loopw [11, 12] (fun a b wq => ∃ i v : Nat, i ≤ L ∧ b = .int .i64 (i : Int) ∧ a = .int .i64 (v : Int) ∧ v = 2 ^ i ∧ wq = wa) (fun _ b _ => L - (intOf b).toNat)
      case atStart => exact ⟨0, 1, by omega, rfl, rfl, rfl, rfl⟩
      case round =>
        obtain ⟨i, v, hi, rfl, rfl, hv, rfl⟩ := hrel
        by_cases hiL : i < L
        · have hiI : (i : Int) < (L : Int) := by omega
          have hv2 : v ≤ 16384 := by
            rw [hv]
            exact Nat.le_trans (Nat.pow_le_pow_right (by omega) (show i ≤ 14 by omega)) (by decide)
          have HV := hide (show 2 * v = 2 ^ (i + 1) by rw [hv, Nat.pow_succ, Nat.mul_comm])
          clear hv
          go_wp2
          go_roundw
          case rel => exact ⟨i + 1, 2 * v, by omega, by go_num, by go_num, HV.out, trivial⟩
          case measure => simp [intOf]; omega
        · obtain rfl : L = i := by omega
          have hv2 : v ≤ 32768 := by
            rw [hv]
            exact Nat.le_trans (Nat.pow_le_pow_right (by omega) (show L ≤ 15 by omega)) (by decide)
          have HV := hide hv
          clear hv
          by_cases hgt : v < m
          · have HN := hide (HLim.out (by rw [← HV.out, ← HM.out]; exact hgt))
            have hgtI : (v : Int) < (m : Int) := by omega
            clear HLim HOk
            go_wp2
            go_ret2
            rw [HN.out]
            exact ⟨_, rfl, OwnB.nil _ _, hE⟩
          · have hle : X.length ≤ 2 ^ L := by rw [← HV.out, ← HM.out]; omega
            have HN := hide (HOk.out hle)
            have HLe := hide hle
            have hgtI : ¬ (v : Int) < (m : Int) := by omega
            clear HLim HOk hle hgt
            obtain ⟨wb, rfl⟩ : ∃ W, W = wr := ⟨_, rfl⟩
            go_wp2_with fail
            go_loopw [13, 14] (fun a b wq => ∃ k : Nat, k ≤ N ∧ b = .int .i64 (k : Int) ∧ OwnB wq wb.heap.size a (List.replicate k (0 : UInt8)) ∧ Ext wb wq) (fun _ b _ => N - (intOf b).toNat)
            case atStart => exact ⟨0, by omega, rfl, OwnB.nil _ _, Ext.refl _⟩
            case round =>
              obtain ⟨k, hk, rfl, hO, hE2⟩ := hrel
              by_cases hkj : k < N
              · have hkI : (k : Int) < (N : Int) := by omega
                have hEa := extNew wr (.cells #[.int .u8 0] 5)
                have hOa := hO.ext hEa
                have hba := bytesNew wr [(0 : UInt8)] #[.int .u8 0] 5 (0, 0) rfl 1 rfl
                have hsb := hE2.le
                have hl0 : (List.replicate k (0 : UInt8)).length + 1 ≤ 140737488355328 := by simp; omega
                go_wp2_with (at_builtin; refine wpList_app rfl (.tmp 103) (.tmp 104) rfl rfl hOa rfl hba hl0 (Nat.le_trans hsb hEa.le) ?_; intro v5 w5 hO5 hG5)
                have hE5 : Ext wb w5 := Below.grown (hE2.trans hEa) hG5 (hE2.trans hEa).le (fun k hk => (hO.lt k hk).1)
                have e : List.replicate k (0 : UInt8) ++ [0] = List.replicate (k + 1) 0 := List.replicate_succ'.symm
                rw [e] at hO5
                go_roundw
                case rel => exact ⟨k + 1, by omega, by go_num, hO5, hE5⟩
                case measure => simp [intOf]; omega
              · obtain rfl : N = k := by omega
                clear hkj hk
                have hwr := hE.trans hE2
                have hRl : (List.replicate N (0 : UInt8)).length = N := by simp
                have hO' := hO
                generalize hRep : List.replicate N (0 : UInt8) = O at *
                have HRep := hide hRep
                clear hRep
                by_cases hm1 : m = 1
                · have hX1 : X.length = 1 := by rw [← HM.out]; exact hm1
                  have hit := (F1.out 0 (by omega)).ext hE2
                  rw [HS0.out 0 (by omega)] at hit
                  have hs := HS1.out 0 (by omega)
                  have HO := hide (HO1.out hX1)
                  generalize sOf X 0 = s0 at *
                  obtain ⟨g, q, C, rfl, j1, j2, j3, _⟩ := hit.ex
                  clear hit j1
                  dsimp only [List.length_cons, List.length_nil] at j2 j3
                  obtain ⟨A2, c2, e, _, _, hcell⟩ := j3.form
                  simp only [List.length_map, List.length_cons, List.length_nil, Value.slice.injEq, true_and] at e
                  obtain ⟨rfl, rfl⟩ := e
                  rcases hcell with h0 | ⟨b2, o2, rfl, hB2, hc2⟩
                  · simp at h0
                  have hcs := hc2 0 (by simp)
                  obtain ⟨go, co, rfl, hgo, hco⟩ := hO.formG (by omega)
                  rw [hRl] at hO hO' hco ⊢
                  obtain ⟨hc3, hf3⟩ := hO.cell (i := s0) (by rw [hRl]; exact hs)
                  have hsI : (s0 : Int) < (N : Int) := by omega
                  have hcs' : wr.cell? ⟨b2, o2, none⟩ = some (.int .i64 (s0 : Int)) := by simpa using hcs
                  subst hm1
                  go_wp2
                  go_ret2
                  rw [HN.out]
                  have hG := grown_setCell wr go s0 (.int .u8 1)
                  have hL := HLen.out (O.set s0 1) (by rw [hN, List.length_set, hRl]) HLe.out (fun q hq => by
                    rw [HO.out q, ← HRep.out, List.getD_eq_getElem?_getD, List.getElem?_set]
                    rw [List.length_replicate]
                    by_cases hqs : s0 = q
                    · rw [if_pos hqs, if_pos hs, if_pos hqs.symm]
                      rfl
                    · rw [if_neg hqs, if_neg (fun e => hqs e.symm), List.getElem?_replicate]
                      split <;> rfl)
                  refine ⟨_, rfl, ?_, Below.grown hwr hG hwr.le (fun k hk => by cases hk; exact Nat.le_trans hE.le hgo)⟩
                  dsimp only
                  rw [← hL]
                  exact (hO.set s0 1).mono hE.le
                · by_cases hm0 : m = 0
                  · have HO := hide (HF1.out · (by rw [← HM.out]; exact hm0))
                    subst hm0
                    go_wp2
                    go_ret2
                    rw [HN.out]
                    refine ⟨_, rfl, ?_, hwr⟩
                    have hL := HLen.out O (by rw [hN, hRl]) HLe.out (fun q hq => by
                      rw [HO.out q, ← HRep.out, List.getD_eq_getElem?_getD, List.getElem?_replicate]
                      split <;> rfl)
                    dsimp only
                    rw [← hL]
                    exact hO.mono hE.le
                  · have hm1q : ((m : Int) == 1) = false := by simp; omega
                    have hm2 : ¬ (m : Int) < 2 := by omega
                    have hIm : ItL wr w.heap.size (.slice Au m cu) X := by rw [HM.out]; exact hI.ext hE2
                    have HIm := hide hIm
                    have HO' := hide hO'
                    clear hO hO' hI hIm F1 HO1 HF1 HS0 HS1
                    obtain ⟨wc, rfl⟩ : ∃ W, W = wr := ⟨_, rfl⟩
                    go_wp2_with fail
                    go_loopw [15, 16] (fun a b wq => ∃ r : Nat, 1 ≤ r ∧ r ≤ L ∧ b = .int .i64 (r : Int) ∧ ItL wq w.heap.size a (row X (r - 1)) ∧ Ext wc wq) (fun _ b _ => L - (intOf b).toNat)
                    case atStart => exact ⟨1, by omega, hL1, rfl, HIm.out, Ext.refl _⟩
                    case round =>
                      obtain ⟨r, hr1, hrL, rfl, hIR, hE3⟩ := hrel
                      have hRl2 := row_le X (r - 1)
                      have hRb := HR.out (r - 1)
                      have HRN := hide (show r < L + 1 → row X (r + 1 - 1) = mergeI X (pairsOf (row X (r - 1))) from fun _ => by
                        obtain ⟨d, rfl⟩ : ∃ d, r = d + 1 := ⟨r - 1, by omega⟩
                        rfl)
                      generalize hRR : row X (r - 1) = R at *
                      have HRR := hide hRR
                      clear hRR
                      obtain ⟨AR, cR, rfl, hcR, _, fR⟩ := hIR.form
                      obtain ⟨nR, hnR⟩ : ∃ n, n = R.length := ⟨_, rfl⟩
                      rw [← hnR] at hcR hRl2 ⊢
                      have hnR6 : nR ≤ 600 := by
                        have := HM.out
                        omega
                      have HNR := hide hnR
                      have HFR := hide fR
                      have HRb := hide hRb
                      clear hnR fR hRb hRl2
                      obtain ⟨wd, rfl⟩ : ∃ W, W = wr := ⟨_, rfl⟩
                      by_cases hrlt : r < L
                      · have hrI : (r : Int) < (L : Int) := by omega
                        go_wp2_with fail
                        go_loopw [17, 18] (fun a b wq => ∃ p t : Nat, p = 2 * t ∧ t ≤ 301 ∧ p ≤ nR + 1 ∧ b = .int .i64 (p : Int) ∧ ItL wq wd.heap.size a ((pairsOf R).take t) ∧ Ext wd wq) (fun _ b _ => nR + 2 - (intOf b).toNat)
                        case atStart => exact ⟨0, 0, rfl, by omega, by omega, rfl, by rw [List.take_zero]; exact ItL.nil _ _, Ext.refl _⟩
                        case round =>
                          obtain ⟨p, t, hp, ht1, ht2, rfl, hIP, hE4⟩ := hrel
                          have Hp := hide hp
                          by_cases h2t : p + 1 < nR
                          · have h2I : (p : Int) + 1 < (nR : Int) := by omega
                            have h2K : (p : Int) < (nR : Int) := by omega
                            obtain ⟨g, q1, C1, rfl, j1, j2, j3, _⟩ := ((HFR.out p (by rw [← HNR.out]; omega)).ext hE4).ex
                            obtain ⟨g', q2, C2, e, k1, k2, k3, _⟩ := ((HFR.out (p + 1) (by rw [← HNR.out]; omega)).ext hE4).ex
                            simp only [Option.some.injEq, Addr.mk.injEq, and_true] at e
                            subst e
                            have HP := hide (pairs_next (l := R) (t := t) (by rw [← HNR.out]; omega))
                            rw [← hp] at HP
                            have hb1 := HRb.out (R.getD p (0, [])) (getD_mem (by rw [← HNR.out]; omega))
                            have hb2 := HRb.out (R.getD (p + 1) (0, [])) (getD_mem (by rw [← HNR.out]; omega))
                            generalize R.getD p (0, []) = it1 at *
                            generalize R.getD (p + 1) (0, []) = it2 at *
                            have hp16 : 2 ^ (r - 1) ≤ 16384 := Nat.le_trans (Nat.pow_le_pow_right (by omega) (show r - 1 ≤ 14 by omega)) (by decide)
                            obtain ⟨b11, b12, _⟩ := hb1
                            obtain ⟨b21, b22, _⟩ := hb2
                            have w1b : it1.1 ≤ 70368744177664 := Nat.le_trans b11 (Nat.mul_le_mul_right 4294967296 hp16)
                            have w2b : it2.1 ≤ 70368744177664 := Nat.le_trans b21 (Nat.mul_le_mul_right 4294967296 hp16)
                            have s1b : it1.2.length ≤ 16384 := Nat.le_trans b12 hp16
                            have s2b : it2.2.length ≤ 16384 := Nat.le_trans b22 hp16
                            have hPl : ((pairsOf R).take t).length ≤ 1000 := by rw [List.length_take]; omega
                            clear b11 b12 b21 b22 hp16
                            have hg4 : g < wr.heap.size := World.block_lt_of_cell? wr _ j1
                            clear hp
                            have l1 : (List.map Int.ofNat it1.2).length = it1.2.length := by simp
                            have l2 : (List.map Int.ofNat it2.2).length = it2.2.length := by simp
                            have l3 : (List.map Int.ofNat it1.2).length ≤ 10000000 := by simp; omega
                            have l4 : it1.2.length ≤ 10000000 := by omega
                            have l5 : it2.2.length ≤ 10000000 := by omega
                            obtain ⟨m1, hm1⟩ : ∃ n, n = it1.2.length := ⟨_, rfl⟩
                            obtain ⟨m2, hm2'⟩ : ∃ n, n = it2.2.length := ⟨_, rfl⟩
                            rw [← hm1] at j2 j3 l1 l4 s1b
                            rw [← hm2'] at k2 k3 l2 l5 s2b
                            have HM1 := hide hm1
                            have HM2 := hide hm2'
                            clear hm1 hm2'
                            have j2r := j2
                            have k2r := k2
                            go_wp2_with (first
                              | (at_builtin; refine wpList_appLs (v := .slice none 0 0) (L := []) rfl (.tmp 132) (.tmp 137) rfl rfl (OwnL.nil wr wr.heap.size) rfl rfl j3 l1 (Nat.zero_le _) l4 (Nat.le_refl _) ?_; intro v5 w5 hO5 hG5 _; have hE5 : Ext wr w5 := Below.grown (Ext.refl wr) hG5 (Nat.le_refl _) (fun k hk => by cases hk); rw [List.nil_append] at hO5; have k2' := (hE5.cell hg4).trans k2; have k3' := k3.ext hE5; have hb5 := hE5.le)
                              | (at_builtin; refine wpList_appLs rfl (.tmp 139) (.tmp 145) rfl rfl hO5 rfl rfl k3' l2 l3 l5 hb5 ?_; intro v6 w6 hO6 hG6 _))
                            have hE6 : Ext wr w6 := Below.grown hE5 hG6 hE5.le (fun k hk => (hO5.lt k hk).1)
                            rw [← List.map_append] at hO6
                            obtain ⟨S6, c6, rfl, _, _⟩ := hO6.form
                            rw [List.length_map] at hO6 ⊢
                            obtain ⟨n6, hn6⟩ : ∃ n, n = (it1.2 ++ it2.2).length := ⟨_, rfl⟩
                            rw [← hn6] at hO6 ⊢
                            have HN6 := hide hn6
                            clear hn6
                            obtain ⟨ws, hws⟩ : ∃ n, n = it1.1 + it2.1 := ⟨_, rfl⟩
                            have HWS := hide hws
                            clear hws
                            have j1 := (hE6.cell hg4).trans j1
                            have k1 := (hE6.cell hg4).trans k1
                            have hgS : g < w6.heap.size := Nat.lt_of_lt_of_le hg4 hE6.le
                            refine wp_region_T (fun W => Ext w6 W) 16 18 #[false, false, false, false, false, false, false, false, false, false, false, false, false, false, false, false, false, false] (by kernel_rfl) rfl rfl (Ext.refl w6).drew ?_
                            generalize w6.drew = w7
                            intro hS0
                            refine wpAnyT_take 0 (some 147) (u17) #[true, false, false, false, false, false, false, false, false, false, false, false, false, false, false, false, false, false] rfl rfl rfl (by kernel_rfl) (fun _ _ _ h => h) hS0 (by rfl) (fun W hX => by go_simp) ?_
                            simp only [Act.put, List.setIfInBounds_toArray, List.set_cons_zero, List.set_cons_succ]
                            refine wpAnyT_take 1 (some 148) (.slice (some ⟨g, 0, none⟩) nR cR) #[true, true, false, false, false, false, false, false, false, false, false, false, false, false, false, false, false, false] rfl rfl rfl (by kernel_rfl) (fun _ _ _ h => h) hS0 (by rfl) (fun W hX => by go_simp) ?_
                            simp only [Act.put, List.setIfInBounds_toArray, List.set_cons_zero, List.set_cons_succ]
                            refine wpAnyT_take 2 (some 149) (.int .i64 (p : Int)) #[true, true, true, false, false, false, false, false, false, false, false, false, false, false, false, false, false, false] rfl rfl rfl (by kernel_rfl) (fun _ _ _ h => h) hS0 (by rfl) (fun W hX => by go_simp) ?_
                            simp only [Act.put, List.setIfInBounds_toArray, List.set_cons_zero, List.set_cons_succ]
                            refine wpAnyT_take 3 (some 150) (.pointer (some ⟨g, p * 2, none⟩)) #[true, true, true, true, false, false, false, false, false, false, false, false, false, false, false, false, false, false] rfl rfl rfl (by kernel_rfl) (fun _ _ _ h => h) hS0 (by rfl) (fun W hX => by go_simp) ?_
                            simp only [Act.put, List.setIfInBounds_toArray, List.set_cons_zero, List.set_cons_succ]
                            refine wpAnyT_take 4 (some 151) (.pointer (some ⟨g, p * 2, none⟩)) #[true, true, true, true, true, false, false, false, false, false, false, false, false, false, false, false, false, false] rfl rfl rfl (by kernel_rfl) (fun _ _ _ h => h) hS0 (by rfl) (fun W hX => by go_simp) ?_
                            simp only [Act.put, List.setIfInBounds_toArray, List.set_cons_zero, List.set_cons_succ]
                            refine wpAnyT_take 5 (some 152) (.int .u64 ((it1.1 : Nat) : Int)) #[true, true, true, true, true, true, false, false, false, false, false, false, false, false, false, false, false, false] rfl rfl rfl (by kernel_rfl) (fun _ _ _ h => h) hS0 (by rfl) (fun W hX => by have s := (hX.cell hgS).trans j1; go_simp) ?_
                            simp only [Act.put, List.setIfInBounds_toArray, List.set_cons_zero, List.set_cons_succ]
                            refine wpAnyT_take 6 (some 153) (.slice (some ⟨g, 0, none⟩) nR cR) #[true, true, true, true, true, true, true, false, false, false, false, false, false, false, false, false, false, false] rfl rfl rfl (by kernel_rfl) (fun _ _ _ h => h) hS0 (by rfl) (fun W hX => by go_simp) ?_
                            simp only [Act.put, List.setIfInBounds_toArray, List.set_cons_zero, List.set_cons_succ]
                            refine wpAnyT_take 7 (some 154) (.int .i64 (p : Int)) #[true, true, true, true, true, true, true, true, false, false, false, false, false, false, false, false, false, false] rfl rfl rfl (by kernel_rfl) (fun _ _ _ h => h) hS0 (by rfl) (fun W hX => by go_simp) ?_
                            simp only [Act.put, List.setIfInBounds_toArray, List.set_cons_zero, List.set_cons_succ]
                            refine wpAnyT_take 8 (some 155) (.int .i64 ((p + 1 : Nat) : Int)) #[true, true, true, true, true, true, true, true, true, false, false, false, false, false, false, false, false, false] rfl rfl rfl (by kernel_rfl) (fun _ _ _ h => h) hS0 (by rfl) (fun W hX => by go_simp; rw [IntKind.wrap_i64]; omega) ?_
                            simp only [Act.put, List.setIfInBounds_toArray, List.set_cons_zero, List.set_cons_succ]
                            refine wpAnyT_take 9 (some 156) (.pointer (some ⟨g, (p + 1) * 2, none⟩)) #[true, true, true, true, true, true, true, true, true, true, false, false, false, false, false, false, false, false] rfl rfl rfl (by kernel_rfl) (fun _ _ _ h => h) hS0 (by rfl) (fun W hX => by have h0 : (0 : Int) ≤ (p : Int) + 1 := (by omega); have ht : ((p : Int) + 1).toNat = p + 1 := (by omega); go_simp) ?_
                            simp only [Act.put, List.setIfInBounds_toArray, List.set_cons_zero, List.set_cons_succ]
                            refine wpAnyT_take 10 (some 157) (.pointer (some ⟨g, (p + 1) * 2, none⟩)) #[true, true, true, true, true, true, true, true, true, true, true, false, false, false, false, false, false, false] rfl rfl rfl (by kernel_rfl) (fun _ _ _ h => h) hS0 (by rfl) (fun W hX => by go_simp) ?_
                            simp only [Act.put, List.setIfInBounds_toArray, List.set_cons_zero, List.set_cons_succ]
                            refine wpAnyT_take 11 (some 158) (.int .u64 ((it2.1 : Nat) : Int)) #[true, true, true, true, true, true, true, true, true, true, true, true, false, false, false, false, false, false] rfl rfl rfl (by kernel_rfl) (fun _ _ _ h => h) hS0 (by rfl) (fun W hX => by have s := (hX.cell hgS).trans k1; go_simp) ?_
                            simp only [Act.put, List.setIfInBounds_toArray, List.set_cons_zero, List.set_cons_succ]
                            refine wpAnyT_take 12 (some 159) (.int .u64 (ws : Int)) #[true, true, true, true, true, true, true, true, true, true, true, true, true, false, false, false, false, false] rfl rfl rfl (by kernel_rfl) (fun _ _ _ h => h) hS0 (by rfl) (fun W hX => by go_simp; rw [IntKind.wrap_u64]; have := HWS.out; omega) ?_
                            simp only [Act.put, List.setIfInBounds_toArray, List.set_cons_zero, List.set_cons_succ]
                            refine wpAnyT_take 13 (some 160) (.slice S6 n6 c6) #[true, true, true, true, true, true, true, true, true, true, true, true, true, true, false, false, false, false] rfl rfl rfl (by kernel_rfl) (fun _ _ _ h => h) hS0 (by rfl) (fun W hX => by go_simp) ?_
                            simp only [Act.put, List.setIfInBounds_toArray, List.set_cons_zero, List.set_cons_succ]
                            refine wpAnyT_take 14 (some 161) (.agg #[.int .u64 (ws : Int), .slice S6 n6 c6]) #[true, true, true, true, true, true, true, true, true, true, true, true, true, true, true, false, false, false] rfl rfl rfl (by kernel_rfl) (fun _ _ _ h => h) hS0 (by rfl) (fun W hX => by go_simp) ?_
                            simp only [Act.put, List.setIfInBounds_toArray, List.set_cons_zero, List.set_cons_succ]
                            refine wpAnyT_only 15 #[true, true, true, true, true, true, true, true, true, true, true, true, true, true, true, true, false, false] (by kernel_rfl) rfl rfl (by rfl) (fun K1 hK1 => ?_)
                            go_simp
                            have hEb := extNew w7 (.cells #[.int .u64 (ws : Int), .slice S6 n6 c6] 106)
                            refine hK1 _ _ (fun _ => hS0.trans hEb) ?_
                            clear hK1 K1
                            refine wpAnyT_only 16 #[true, true, true, true, true, true, true, true, true, true, true, true, true, true, true, true, true, false] (by kernel_rfl) rfl rfl (by rfl) (fun K2 hK2 => ?_)
                            have hn6 := HN6.out
                            subst hn6
                            have hE7 := hE6.trans hS0
                            refine wp_appY (it := (ws, it1.2 ++ it2.2)) (.tmp 147) (.tmp 162) rfl rfl (hIP.ext hE7) ((hO6.ext hS0).mono (Nat.zero_le _)) rfl hPl (hE4.trans hE7).le ?_
                            intro v8 w8 hI8 hG8
                            refine hK2 _ _ (fun h => absurd h (by decide)) ?_
                            clear hK2 K2
                            refine wpAnyT_only 17 #[true, true, true, true, true, true, true, true, true, true, true, true, true, true, true, true, true, true] (by kernel_rfl) rfl rfl (by rfl) (fun K3 hK3 => ?_)
                            go_simp
                            refine hK3 _ _ (fun h => absurd h (by decide)) (wpAnyT_done (by kernel_rfl) ?_ _)
                            clear hK3 K3
                            have hE8 : Ext wd w8 := Below.grown ((hE4.trans hE7).trans hEb) hG8 ((hE4.trans hE7).trans hEb).le (fun k hk => (hIP.lt k hk).1)
                            rw [HWS.out, ← HP.out] at hI8
                            go_wp2
                            go_roundw
                            case rel => exact ⟨p + 2, t + 1, by have := Hp.out; omega, by have := Hp.out; omega, by omega, by go_num, hI8, hE8⟩
                            case measure => simp [intOf]; omega
                          · have h2I : ¬ (p : Int) + 1 < (nR : Int) := by omega
                            have HPE := hide (pairs_end (l := R) (t := t) (by rw [← HNR.out]; omega))
                            rw [HPE.out] at hIP
                            have hIw := (HIm.out.ext hE3).ext hE4
                            have C := refMerge_any _ _ _ _ X (pairsOf R) wr hIw hIP (by rw [← HM.out]; omega) (by rw [pairsOf_len, ← HNR.out]; omega)
                            clear hIw hIP hp
                            go_wp2_with fail
                            refine C.mono ?_
                            rintro e w9 ⟨v9, rfl, hI9, hE9⟩
                            have HI9 := hide hI9
                            have hwq := (hE3.trans hE4).trans hE9
                            have hwl := (((hwr.trans hE3).trans hE4)).le
                            clear hI9
                            go_wp2
                            go_roundw
                            case rel => exact ⟨r + 1, by omega, by omega, by go_num, by rw [HRN.out (by omega)]; exact HI9.out.mono hwl, hwq⟩
                            case measure => simp [intOf]; omega
                      · obtain rfl : L = r := by omega
                        have hen := row_enough X (L - 1) 2 (by
                          have := HLe.out
                          obtain ⟨d, hd⟩ : ∃ d, L = d + 1 := ⟨L - 1, by omega⟩
                          rw [hd, Nat.pow_succ] at this
                          rw [hd, Nat.add_sub_cancel, Nat.mul_comm]
                          exact this)
                        rw [HRR.out, ← HNR.out, ← HM.out] at hen
                        have HFin := hide (show ∀ q, lf q = (syms (R.take (2 * m - 2))).count q from fun q => by
                          have := HF.out q (by rw [← HM.out]; omega)
                          rw [HRR.out, ← HM.out] at this
                          exact this)
                        have HTop := hide (show ∀ i k s, i < 2 * m - 2 → s < N → ((syms (R.take i) ++ (R.getD i (0, [])).2.take k).count s) ≤ 15 from fun i k s hi hs => by
                          have h1 := count_step (l := R) (i := i) (k := k) (m := 2 * m - 2) (s := s) hi (by rw [← HNR.out]; omega)
                          have h2 := HSm.out HLe.out s (by rw [hN]; exact hs)
                          rw [HFin.out s] at h2
                          omega)
                        have HZ := hide (show ∀ s, (O.getD s 0).toNat = 0 from fun s => by
                          rw [← HRep.out, List.getD_eq_getElem?_getD, List.getElem?_replicate]
                          split <;> rfl)
                        obtain ⟨go, co, rfl, hgo, hco⟩ := HO'.out.formG (by omega)
                        rw [hRl] at HO' hco ⊢
                        have HO2 := hide (HO'.out.ext hE3)
                        have HIR := hide (show ItL wd w.heap.size (.slice AR nR cR) R by rw [HNR.out]; exact hIR)
                        have hEwd := hwr.trans hE3
                        have hgw := Nat.le_trans hE.le hgo
                        have HMM := hide (show 2 * m - 2 ≤ nR by omega)
                        clear hIR HFR HF HO' hen
                        go_wp2_with fail
                        go_loopw [20] (fun a wq => ∃ (i : Nat) (O1 : List UInt8), i ≤ 2 * m - 2 ∧ a = .int .i64 (i : Int) ∧ OwnB wq wb.heap.size (.slice (some ⟨go, 0, none⟩) N co) O1 ∧ O1.length = N ∧ (∀ s, s < N → (O1.getD s 0).toNat = (syms (R.take i)).count s) ∧ ItL wq w.heap.size (.slice AR nR cR) R ∧ Ext w wq) (fun a _ => 2 * m - 2 - (intOf a).toNat)
                        case atStart => exact ⟨0, O, by omega, rfl, HO2.out, hRl, fun s _ => by rw [HZ.out s]; simp [syms], HIR.out, hEwd⟩
                        case round =>
                          obtain ⟨i, O1, hi, rfl, hO1, hl1', hc1, hI1, hE5⟩ := hrel
                          have HC1 := hide hc1
                          clear hc1
                          by_cases him : i < 2 * m - 2
                          · have hiI : (i : Int) < 2 * (m : Int) - 2 := by omega
                            have hinR : i < nR := by have := HMM.out; omega
                            have hinI : (i : Int) < (nR : Int) := by omega
                            obtain ⟨A1, c1, e, _, _, f1⟩ := hI1.form
                            simp only [Value.slice.injEq] at e
                            obtain ⟨rfl, _, rfl⟩ := e
                            have hit := f1 i (by rw [← HNR.out]; exact hinR)
                            have HSy := hide (HRb.out (R.getD i (0, [])) (getD_mem (by rw [← HNR.out]; exact hinR))).2.2
                            have hLy := (HRb.out (R.getD i (0, [])) (getD_mem (by rw [← HNR.out]; exact hinR))).2.1
                            have HT := hide (fun k s hs => HTop.out i k s him hs)
                            have HNx := hide (syms_next (l := R) (i := i) (by rw [← HNR.out]; exact hinR))
                            have hp16 : 2 ^ (L - 1) ≤ 16384 := Nat.le_trans (Nat.pow_le_pow_right (by omega) (show L - 1 ≤ 14 by omega)) (by decide)
                            have hLy2 := Nat.le_trans hLy hp16
                            clear hLy hp16 f1
                            generalize hIT : R.getD i (0, []) = it at *
                            have HIT := hide hIT
                            clear hIT
                            obtain ⟨g, q, C, rfl, j1, j2, j3, _⟩ := hit.ex
                            obtain ⟨m1, hm1⟩ : ∃ n, n = it.2.length := ⟨_, rfl⟩
                            rw [← hm1] at j2 j3 hLy2
                            have HM1 := hide hm1
                            clear hm1 hit
                            go_wp2_with fail
                            go_loopw [21] (fun x wq => ∃ (k : Nat) (O2 : List UInt8), k ≤ m1 ∧ x = .int .i64 (k : Int) ∧ OwnB wq wb.heap.size (.slice (some ⟨go, 0, none⟩) N co) O2 ∧ O2.length = N ∧ (∀ s, s < N → (O2.getD s 0).toNat = (syms (R.take i) ++ it.2.take k).count s) ∧ ItL wq w.heap.size (.slice (some ⟨g, 0, none⟩) nR cR) R ∧ Ext w wq) (fun x _ => m1 - (intOf x).toNat)
                            case atStart => exact ⟨0, O1, by omega, rfl, hO1, hl1', fun s hs => by rw [List.take_zero, List.append_nil]; exact HC1.out s hs, hI1, hE5⟩
                            case round =>
                              clear hO1 hI1 hE5 j1 j2 j3
                              obtain ⟨k, O2, hk, rfl, hO2, hl2', hc2, hI2, hE6⟩ := hrel
                              have HC2 := hide hc2
                              clear hc2
                              obtain ⟨A2, c2, e, _, _, f2⟩ := hI2.form
                              simp only [Value.slice.injEq] at e
                              obtain ⟨rfl, _, rfl⟩ := e
                              have hit2 := f2 i (by rw [← HNR.out]; exact hinR)
                              rw [HIT.out] at hit2
                              obtain ⟨g', q', C', e, p1, p2, p3, _⟩ := hit2.ex
                              simp only [Option.some.injEq, Addr.mk.injEq, and_true] at e
                              subst e
                              rw [← HM1.out] at p2 p3
                              clear f2 hit2 p1
                              by_cases hkm : k < m1
                              · have hkI : (k : Int) < (m1 : Int) := by omega
                                obtain ⟨A3, c3, e, _, hints⟩ := p3.form
                                have lmap : (it.2.map Int.ofNat).length = m1 := by rw [List.length_map]; exact HM1.out.symm
                                rw [lmap] at e hints
                                simp only [Value.slice.injEq, true_and] at e
                                obtain ⟨rfl, rfl⟩ := e
                                rcases hints.2 with h0 | ⟨b2, o2, rfl, hB2, hcc⟩
                                · omega
                                have hcs := hcc k hkm
                                have hsv : (it.2.map Int.ofNat).getD k 0 = ((it.2.getD k 0 : Nat) : Int) := by
                                  have hkl : k < it.2.length := by rw [← HM1.out]; exact hkm
                                  simp [List.getD_eq_getElem?_getD, hkl]
                                rw [hsv] at hcs
                                have hsN := HSy.out (it.2.getD k 0) (by
                                  rw [List.getD_eq_getElem?_getD, List.getElem?_eq_getElem (by rw [← HM1.out]; exact hkm)]
                                  exact List.getElem_mem _)
                                have HTk := hide (take_next (L := it.2) (k := k) (by rw [← HM1.out]; exact hkm))
                                clear hsv hcc hints p3 lmap
                                generalize it.2.getD k 0 = s at *
                                obtain ⟨d1, d2⟩ := hO2.cell (i := s) (by rw [hl2']; exact hsN)
                                have hcnt := HC2.out s hsN
                                have hle := HT.out k s hsN
                                rw [← hcnt] at hle
                                generalize hcv : (O2.getD s 0).toNat = cv at *
                                have hsI : (s : Int) < (N : Int) := by omega
                                have hu8 : (UInt8.ofNat (cv + 1)).toNat = cv + 1 := by rw [UInt8.toNat_ofNat', Nat.mod_eq_of_lt (by omega)]
                                have hO3 := hO2.set s (UInt8.ofNat (cv + 1))
                                rw [hu8] at hO3
                                have hG3 := grown_setCell wr go s (.int .u8 ((cv + 1 : Nat) : Int))
                                have hI3 := hI2.byte hO2 hG3
                                have hE7 : Ext w (wr.setCell ⟨go, s, none⟩ (.int .u8 ((cv + 1 : Nat) : Int))) := Below.grown hE6 hG3 hE6.le (fun k hk => by cases hk; exact hgw)
                                have HR3 := hide (show ∀ t, t < N → ((O2.set s (UInt8.ofNat (cv + 1))).getD t 0).toNat = (syms (R.take i) ++ it.2.take (k + 1)).count t from fun t ht => by
                                  rw [HTk.out, ← List.append_assoc, List.count_append, ← HC2.out t ht, List.getD_eq_getElem?_getD, List.getElem?_set, List.count_singleton]
                                  by_cases hst : s = t
                                  · subst hst
                                    rw [if_pos rfl, if_pos (by rw [hl2']; exact ht), if_pos (by simp), hcv]
                                    exact hu8
                                  · rw [if_neg hst, if_neg (by simpa using hst), ← List.getD_eq_getElem?_getD]
                                    rfl)
                                have HX := hide (And.intro hO3 (And.intro hI3 hE7))
                                clear hO3 hI3 hE7 hG3 hu8 hcnt hcv
                                have hcvI : (cv : Int) ≤ 15 := by omega
                                go_wp2_with fail
                                go_roundw
                                case rel => exact ⟨k + 1, _, by omega, by go_num, HX.out.1, by rw [List.length_set]; exact hl2', HR3.out, HX.out.2.1, HX.out.2.2⟩
                                case measure => simp [intOf]; omega
                              · obtain rfl : m1 = k := by omega
                                have HR4 := hide (show ∀ s, s < N → (O2.getD s 0).toNat = (syms (R.take (i + 1))).count s from fun s hs => by
                                  rw [HNx.out, HC2.out s hs, show it.2.take m1 = it.2 from List.take_of_length_le (by rw [HM1.out]; exact Nat.le_refl _)])
                                go_wp2
                                go_roundw
                                case rel => exact ⟨i + 1, O2, by omega, by go_num, hO2, hl2', HR4.out, hI2, hE6⟩
                                case measure => simp [intOf]; omega
                          · have hiI : ¬ (i : Int) < 2 * (m : Int) - 2 := by omega
                            have hL := HLen.out O1 (by rw [hN, hl1']) HLe.out (fun q hq => by
                              rw [HC1.out q (by rw [← hN]; exact hq), HFin.out q, show i = 2 * m - 2 by omega])
                            have HL := hide hL
                            clear hL
                            go_wp2
                            go_ret2
                            rw [HN.out]
                            refine ⟨_, rfl, ?_, hE5⟩
                            dsimp only
                            rw [← HL.out]
                            exact hO1.mono hE.le
end Go.Proofs.Ytaohdnhfodkeoaa

namespace Go.Proofs.Ytaohdnhfodkeoaa
open Go.RowKit Lz Tok Len Can Huf
theorem OwnTk.base {w : World} {b b' : Nat} {v : Value} {L : List TokV} (h : OwnTk w b v L) (hb : b' ≤ b) : OwnTk w b' v L := by
  obtain ⟨k1, k2⟩ := h
  exact ⟨k1, k2.imp_right fun ⟨g', cap, cur, e', hb', r'⟩ => ⟨g', cap, cur, e', Nat.le_trans hb hb', r'⟩⟩
set_option maxHeartbeats 1000000 in
set_option maxRecDepth 100000 in
theorem tread_any (A : Option Addr) (c : Nat) (b : List UInt8) (most : Int) (w : World) (hc : b.length ≤ c) (hn : b.length ≤ 100000) (hB : Bytes w w.heap.size A b.length b) (hm1 : most ≤ 9223372036854775807) :
    Calls Try.prog 20 #[.slice A b.length c, .int .i64 most] w (ReadTo w (readT b most)) := by
  by_cases hneg : most < 0
  · have HN := hide (show readT b most = ([], 13) by unfold readT; rw [if_pos hneg])
    generalize readT b most = res at *
    clear hB
    go_enter Try.func20, Try.ntmps20
    go_wp2
    go_ret2
    rw [HN.out]
    exact ⟨_, rfl, OwnTk.nil _ _, Ext.refl _⟩
  have C1 := readerOf_any A c b w hc hn hB
  unfold ReaderTo at C1
  have hm2 : ¬ most < 0 := hneg
  have hm0 : 0 ≤ most := by omega
  obtain ⟨res, hres⟩ : ∃ res, res = readT b most := ⟨_, rfl⟩
  rw [← hres]
  unfold readT at hres
  rw [if_neg hneg] at hres
  have HO1 := hide (fun h => readE_ok (b := b) (n := 265) (q := 0) h)
  have HO2 := hide (fun h => readE_ok (b := b) (n := 12) (q := (readE b 265 0).2.2) h)
  change Hid ((readE b 265 0).2.1 = 0 → _) at HO1
  change Hid ((readE b 12 (readE b 265 0).2.2).2.1 = 0 → _) at HO2
  generalize readE b 265 0 = r1 at *
  obtain ⟨x, E1, q1⟩ := r1
  dsimp only at HO1 HO2 hres C1
  generalize readE b 12 q1 = r2 at *
  obtain ⟨y, E2, q2⟩ := r2
  dsimp only at HO2 hres
  have HRes := hide hres
  clear hB hneg hres
  go_enter Try.func20, Try.ntmps20
  go_wp2_with fail
  refine C1.mono ?_
  rintro e w1 ⟨hE1, hcs⟩
  clear C1
  dsimp only at hcs
  rcases hcs with ⟨hE, rfl⟩ | ⟨hE, hE2, rfl⟩ | ⟨hE, hE2, r, gr, c1, c2, lo1, hi1, lo2, hi2, rfl, hAt, hR⟩
  · have HN := hide (HRes.out.trans (if_pos hE))
    have hb : (E1 != 0) = true := by rw [bne_iff_ne]; exact hE
    have h' := hide hE
    clear HRes HO1 HO2 hE
    go_wp2
    go_ret2
    rw [HN.out]
    exact ⟨_, rfl, OwnTk.nil _ _, hE1⟩
  · have HN := hide (HRes.out.trans ((if_neg (by rw [hE]; simp)).trans (if_pos hE2)))
    have hb : (E2 != 0) = true := by rw [bne_iff_ne]; exact hE2
    have h' := hide hE2
    clear HRes HO1 HO2 hE hE2
    go_wp2
    go_ret2
    rw [HN.out]
    exact ⟨_, rfl, OwnTk.nil _ _, hE1⟩
  subst hE
  subst hE2
  obtain ⟨hrx, hx⟩ := HO1.out rfl
  obtain ⟨hry, hy⟩ := HO2.out rfl
  have HN := hide (show res = unT x y b most q2 0 [] from HRes.out.trans ((if_neg (by simp)).trans (if_neg (by simp))))
  have C2 := tokens_any (most := most) hAt hR hrx hry hx hy hn hm0 hm1
  rw [← HN.out] at C2
  have HAt := hide hAt
  have hlow := hAt.low
  clear HRes HO1 HO2 hAt hR hrx hry hx hy HN
  go_wp2_with fail
  refine C2.mono ?_
  rintro e w2 ⟨v, L, E, q', rfl, hO, hR2, hM2, hcs⟩
  have hE2 : Ext w w2 := Below.trans hE1 (hM2.below (B := w.heap.size) hE1.le hlow (fun k hk => by cases hk))
  clear C2
  rcases hcs with ⟨hE, rfl, hr⟩ | ⟨hE, hr⟩
  · have HN := hide hr
    have hb : (E != 0) = true := by rw [bne_iff_ne]; exact hE
    have h' := hide hE
    clear hE hr hO hR2
    go_wp2
    go_ret2
    rw [HN.out]
    exact ⟨_, rfl, OwnTk.nil _ _, hE2⟩
  subst hE
  have CPd := pad_any hR2
  have p0 := (HAt.out.mod hM2).blk.at 0 (u := .pointer (some ⟨gr, 0, none⟩)) rfl
  have HN := hide hr
  have HO := hide (hO.base hE1.le)
  clear hr hO hR2 hM2
  by_cases hp : Bit.padErr b q' = 0
  · have HN2 := hide (HN.out.trans (if_pos hp))
    rw [hp] at CPd
    clear hp HN
    go_wp2_with fail
    refine CPd.mono ?_
    rintro e w3 ⟨rfl, hQ3⟩
    go_wp2
    go_ret2
    rw [HN2.out]
    exact ⟨_, rfl, HO.out.ext hQ3.ext, hE2.trans hQ3.ext⟩
  · have HN2 := hide (HN.out.trans (if_neg hp))
    have h2 : Bit.padErr b q' = 2 := by
      unfold Bit.padErr at hp ⊢
      split at hp
      · exact absurd rfl hp
      · rename_i h
        rw [if_neg h]
    rw [h2] at CPd
    clear hp HN h2
    go_wp2_with fail
    refine CPd.mono ?_
    rintro e w3 ⟨rfl, hQ3⟩
    go_wp2
    go_ret2
    rw [HN2.out]
    exact ⟨_, rfl, OwnTk.nil _ _, hE2.trans hQ3.ext⟩
theorem splitC_any (w : World) : SplitC w := fun t W _ _ => tsplit_any t W
theorem joinC_any (w : World) : JoinC w := fun p W _ hp => tjoin_any p hp W
theorem countC_any (w : World) : CountC w := fun L A n c W _ _ _ hn hT => (tcount_any A n c L W hn hT).mono (by
  rintro e w' ⟨hE, h⟩
  refine ⟨hE, ?_⟩
  cases hall : L.all may with
  | true =>
    rw [if_pos hall] at h
    obtain ⟨g1, g2, _, rfl, h1, h2⟩ := h
    have hl := hT.1
    exact .inl ⟨rfl, _, _, _, _, rfl, h1.at (by rw [countsS_len]) (fun q => by have := countsS_lt L q; omega), h2.at (by rw [countsF_len]) (fun q => by have := cntF_le L q; omega)⟩
  | false =>
    rw [hall, if_neg (by simp)] at h
    exact .inr ⟨rfl, h⟩)
theorem writeC11_any (w : World) : WriteC11 w := fun L A n c W _ _ _ hn hT => twrite_any A n c L W hn hT
theorem readC11_any (w : World) : ReadC11 w := fun b most A c W _ hc _ hn hB _ h1 => tread_any A c b most W hc hn hB h1
end Go.Proofs.Ytaohdnhfodkeoaa

namespace Go.Proofs.Ytaohdnhfodkeoaa
open Go.RowKit Lz Tok Len Can Huf
set_option maxHeartbeats 2000000 in
set_option maxRecDepth 100000 in
theorem toksCounts_walk0 (A : Option Addr) (n c : Nat) (L : List TokV) (w : World) (hS : SplitC w) (hC : CountC w) (hn : n ≤ c) (hc : c ≤ maxLen) (hT : ToksAt w w.heap.size A n L) :
    Calls Try.prog 5 #[.slice A n c] w fun e w' => e = .returned (.bool true) ∧ Ext w w' := by
  have C0 := alive11_any hS (Ext.refl w)
  by_cases hb2 : 2000 < n
  · have hbI : (2000 : Int) < (n : Int) := by omega
    go_enter Try.func5, Try.ntmps5
    go_wp2_with fail
    refine C0.mono ?_
    rintro e w1 ⟨rfl, hE1⟩
    go_wp2
    go_ret
    exact ⟨rfl, hE1⟩
  have hb2I : ¬ (2000 : Int) < (n : Int) := by omega
  have HT := hide hT
  have HC := hide hC
  have hlL := hT.1
  have HSm := hide (countsS_small (L := L) (by omega))
  have HFm := hide (countsF_small (L := L) (by omega))
  have HSl := hide (countsS_len L)
  have HFl := hide (countsF_len L)
  clear hT hC hlL
  go_enter Try.func5, Try.ntmps5
  go_wp2_with fail
  refine C0.mono ?_
  rintro e w1 ⟨rfl, hE1⟩
  have C1 := HC.out L A n c w1 hE1 hn hc (by omega) (HT.out.later hE1)
  clear C0
  go_wp2_with fail
  refine C1.mono ?_
  rintro e w2 ⟨hE2, hr⟩
  have hF2 := hE1.trans hE2
  have C2 := refCount_any A n c L w2 (by omega) (HT.out.later hF2)
  unfold CountTo at C2
  clear C1
  rcases hr with ⟨hall, A1, c1, A2, c2, rfl, h1, h2⟩ | ⟨hall, rfl⟩
  · rw [hall] at C2
    generalize countsS L = S at *
    generalize countsF L = F at *
    clear hall
    go_wp2_with fail
    refine C2.mono ?_
    rintro e w3 ⟨hE3, g1, g2, hne, rfl, hO1, hO2⟩
    have hF3 := hF2.trans hE3
    have H1 := hide (h1.ext hE3)
    have H2 := hide (h2.ext hE3)
    have HO1 := hide hO1
    have HO2 := hide hO2
    clear C2 h1 h2 hO1 hO2 hne hE3
    go_wp2_with fail
    go_loopw [9] (fun x wr => ∃ i : Nat, i ≤ 265 ∧ x = .int .i64 (i : Int) ∧ Qt w3 wr) (fun x _ => 265 - (intOf x).toNat)
    case atStart => exact ⟨0, by omega, rfl, Qt.refl _⟩
    case round =>
      obtain ⟨i, hi, rfl, hQ⟩ := hrel
      by_cases hlt : i < 265
      · have hiI : (i : Int) < 265 := by omega
        have hi0 : (0 : Int) ≤ (i : Int) := by omega
        rcases (H1.out.ext hQ.ext).2.2 with h0 | ⟨b1, o1, rfl, _, hc1⟩
        · omega
        have e1 := hc1 i hlt
        have e2 := ((HO1.out.ext hQ.ext).cell (i := i) (by rw [HSl.out]; exact hlt) HSl.out.symm).1
        have hx := HSm.out i
        generalize S.getD i 0 = x at *
        have hxb : ((x : Int) != (x : Int)) = false := by simp
        clear hc1
        go_wp2_with fail
        go_quiet (fail)
        go_wp2
        go_roundw
        case rel => exact ⟨i + 1, by omega, by go_num, hQ.drewN _⟩
        case measure => simp [intOf]; omega
      · obtain rfl : i = 265 := by omega
        go_wp2_with fail
        obtain ⟨wo, rfl⟩ : ∃ W, W = wr := ⟨_, rfl⟩
        go_loopw [10] (fun x wr => ∃ i : Nat, i ≤ 12 ∧ x = .int .i64 (i : Int) ∧ Qt w3 wr) (fun x _ => 12 - (intOf x).toNat)
        case atStart => exact ⟨0, by omega, rfl, hQ⟩
        case round =>
          clear hQ
          obtain ⟨i, hi, rfl, hQ⟩ := hrel
          by_cases hlt : i < 12
          · have hiI : (i : Int) < 12 := by omega
            have hi0 : (0 : Int) ≤ (i : Int) := by omega
            rcases (H2.out.ext hQ.ext).2.2 with h0 | ⟨b1, o1, rfl, _, hc1⟩
            · omega
            have e1 := hc1 i hlt
            have e2 := ((HO2.out.ext hQ.ext).cell (i := i) (by rw [HFl.out]; exact hlt) HFl.out.symm).1
            have hx := HFm.out i
            generalize F.getD i 0 = x at *
            have hxb : ((x : Int) != (x : Int)) = false := by simp
            clear hc1
            go_wp2_with fail
            go_quiet (fail)
            go_wp2
            go_roundw
            case rel => exact ⟨i + 1, by omega, by go_num, hQ.drewN _⟩
            case measure => simp [intOf]; omega
          · obtain rfl : i = 12 := by omega
            go_wp2
            go_ret
            exact ⟨rfl, hF3.trans hQ.ext⟩
  · rw [hall] at C2
    clear hall
    go_wp2_with fail
    refine C2.mono ?_
    rintro e w3 ⟨hE3, rfl⟩
    have hF3 := hF2.trans hE3
    go_wp2_with fail
    go_loopw [9] (fun x wr => x = .int .i64 0 ∧ wr = w3) (fun _ _ => 0)
    case atStart => exact ⟨rfl, rfl⟩
    case round =>
      obtain ⟨rfl, rfl⟩ := hrel
      go_wp2_with fail
      go_loopw [10] (fun x wq => x = .int .i64 0 ∧ wq = wr) (fun _ _ => 0)
      case atStart => exact ⟨rfl, rfl⟩
      case round =>
        obtain ⟨rfl, rfl⟩ := hrel
        go_wp2
        go_ret
        exact ⟨rfl, hF3⟩
end Go.Proofs.Ytaohdnhfodkeoaa

namespace Go.Proofs.Ytaohdnhfodkeoaa
open Go.RowKit Lz Tok Len Can Huf
theorem Tok.putB_15 {l : List UInt8} {s : Int} (hr : right l = true) : (putB l s).length ≤ 15 := by
  unfold putB
  rw [Bit.num_length]
  rcases Nat.lt_or_ge s.toNat l.length with h | h
  · exact (right_facts hr).2.1 _ h
  · unfold lenAt
    rw [List.getD_eq_getElem?_getD, List.getElem?_eq_none h]
    decide
theorem Tok.tok_48 {x y : List UInt8} {t : TokV} (hx : right x = true) (hy : right y = true) (hm : may t = true) : (tokB x y t).length ≤ 48 := by
  have h1 := putB_15 (s := (splitE t).1.sym) hx
  unfold tokB
  rw [List.length_append]
  by_cases h0 : t.len = 0
  · rw [if_pos h0]
    simp
    omega
  · rw [if_neg h0]
    obtain ⟨k, v, c, z, hk, _, hc, _, _, _, e⟩ := split_match hm h0
    unfold matchB
    rw [e]
    dsimp only
    have h2 := putB_15 (s := (c : Int)) hy
    simp only [List.length_append, Bit.num_length]
    rw [e] at h1
    dsimp only at h1
    omega
theorem Tok.body_48 {x y : List UInt8} (hx : right x = true) (hy : right y = true) : ∀ L : List TokV, (∀ t, t ∈ L → may t = true) → (bodyB x y L).length ≤ 48 * L.length
  | [], _ => by simp [bodyB]
  | t :: r, h => by
    have h1 := tok_48 hx hy (h t (List.mem_cons_self ..))
    have h2 := body_48 hx hy r (fun u hu => h u (List.mem_cons_of_mem _ hu))
    rw [bodyB_cons, List.length_append, List.length_cons]
    omega
theorem Tok.write_len {L : List TokV} (h : ∀ t, t ∈ L → may t = true) : (writeB L).length ≤ 2800 + 48 * L.length := by
  have h1 := wbits_len (bestS L)
  have h2 := wbits_len (bestF L)
  have h3 := body_48 (bestS_right L) (bestF_right L) L h
  have h4 := putB_15 (s := 256) (bestS_right L)
  rw [bestS_len] at h1
  rw [bestF_len] at h2
  unfold writeB
  simp only [List.length_append]
  omega
set_option maxHeartbeats 4000000 in
set_option maxRecDepth 100000 in
theorem toksBack_walk0 (A : Option Addr) (n c : Nat) (L : List TokV) (w : World) (hS : SplitC w) (hW : WriteC11 w) (hR : ReadC11 w) (hn : n ≤ c) (hc : c ≤ maxLen) (hT : ToksAt w w.heap.size A n L) :
    Calls Try.prog 8 #[.slice A n c] w fun e w' => e = .returned (.bool true) ∧ Ext w w' := by
  have hlL := hT.1
  subst hlL
  have C0 := alive11_any hS (Ext.refl w)
  by_cases hb2 : 2000 < L.length
  · have hbI : (2000 : Int) < (L.length : Int) := by omega
    go_enter Try.func8, Try.ntmps8
    go_wp2_with fail
    refine C0.mono ?_
    rintro e w1 ⟨rfl, hE1⟩
    go_wp2
    go_ret
    exact ⟨rfl, hE1⟩
  have hb2I : ¬ (2000 : Int) < (L.length : Int) := by omega
  have HT := hide hT
  have HW := hide hW
  have HR := hide hR
  clear hT hW hR
  go_enter Try.func8, Try.ntmps8
  go_wp2_with fail
  refine C0.mono ?_
  rintro e w1 ⟨rfl, hE1⟩
  have C1 := HW.out L A L.length c w1 hE1 hn hc (by omega) (HT.out.later hE1)
  clear C0
  cases hall : L.all may with
  | false =>
    have hw : writeE L = ([], 7) := by unfold writeE; rw [if_neg (by omega), hall]; rfl
    rw [hw] at C1
    clear hall hw
    go_wp2_with fail
    refine C1.mono ?_
    rintro e w2 ⟨v2, b2, rfl, hO2, _, hn2, hE2⟩
    obtain rfl := hn2 (by simp)
    obtain ⟨A4, c4, rfl, _⟩ := hO2.form
    have hnl : ([] : List UInt8).length = 0 := rfl
    rw [hnl]
    clear hnl hO2 hn2 C1
    go_wp2
    go_ret
    exact ⟨rfl, hE1.trans hE2⟩
  | true =>
    have hw : writeE L = (writeB L, 0) := by unfold writeE; rw [if_neg (by omega), hall]; rfl
    have hm : ∀ t, t ∈ L → may t = true := fun t ht => List.all_eq_true.1 hall t ht
    have hwl := write_len hm
    have hmi : ∀ i, i < L.length → may (L.getD i default) = true := fun i hi => hm _ (by
      rw [List.getD_eq_getElem?_getD, List.getElem?_eq_getElem hi]
      exact List.getElem_mem hi)
    have hsz : ∀ i, i ≤ L.length → sumSz (L.take i) ≤ 257 * i := fun i => by
      induction i with
      | zero => intro _; exact Nat.le_refl _
      | succ i ih =>
        intro hi
        have := ih (by omega)
        have h2 := (size_small (hmi i (by omega))).2
        rw [sumSz_next (by omega)]
        omega
    have hsum : sumSz L ≤ 514000 := by
      have := hsz L.length (Nat.le_refl _)
      rw [List.take_length] at this
      omega
    have HRd := hide (fun (b : List UInt8) (most : Int) (h : Bit.Packs b (writeB L)) => read_written (most := most) hm h)
    have HSz := hide (fun (W : World) (h : ToksAt W W.heap.size A L.length L) => refSize_any A L.length c L 1073741824 W (by omega) (by omega) h hmi (fun i hi => Nat.le_trans (hsz i hi) (by omega)))
    rw [hw] at C1
    clear hall hw hm hmi hsz
    go_wp2_with fail
    refine C1.mono ?_
    rintro e w2 ⟨v2, b2, rfl, hO2, hp2, _, hE2⟩
    have hpk : Bit.Packs b2 (writeB L) := hp2 rfl
    have hF2 := hE1.trans hE2
    obtain ⟨A4, c4, rfl, h4c, h4m, h4⟩ := hO2.form
    have hbl : b2.length ≤ 100000 := by rw [hpk.1]; omega
    have C2 := HSz.out w2 (HT.out.later hF2)
    have HPk := hide hpk
    have H4 := hide h4
    clear C1 hO2 hp2 hpk h4 hwl HSz
    go_wp2_with fail
    refine C2.mono ?_
    rintro e w3 ⟨rfl, hE3⟩
    have hF3 := hF2.trans hE3
    have C3 := HR.out b2 ((sumSz L : Nat) : Int) A4 c4 w3 hF3 h4c h4m hbl (hE3.bytes H4.out) (by omega) (by omega)
    rw [HRd.out b2 _ HPk.out, if_neg (by omega), if_pos (by omega)] at C3
    have C5 := fun W (hE : Ext w W) (h : Bytes W W.heap.size A4 b2.length b2) => HR.out b2 (((sumSz L : Nat) : Int) - 1) A4 c4 W hE h4c h4m hbl h (by omega) (by omega)
    rw [HRd.out b2 _ HPk.out] at C5
    have HN := hide (show ∀ W : World, True from fun _ => trivial)
    generalize hN : sumSz L = N at *
    clear C2 hN HN
    go_wp2_with fail
    refine C3.mono ?_
    rintro e w4 ⟨v4, rfl, hO4, hE4⟩
    have hF4 := hF3.trans hE4
    have hok : ∀ t, t ∈ L → t.ok := fun t ht => by
      obtain ⟨i, hi, rfl⟩ := List.mem_iff_getElem.1 ht
      rcases HT.out.2 with h0 | ⟨b, o, _, _, hcl⟩
      · omega
      · have := (hcl i hi).2
        rwa [List.getD_eq_getElem?_getD, List.getElem?_eq_getElem hi] at this
    obtain ⟨A5, c5, rfl, _, _, h5⟩ := hO4.at hok
    have CS := refTSame_any A5 A c5 c L w4 h5 (HT.out.later hF4) (by omega)
    clear C3 hO4 h5 hok
    go_wp2_with fail
    refine CS.mono ?_
    rintro e w5 ⟨rfl, hE5⟩
    have hF5 := hF4.trans hE5
    have C6 := C5 w5 hF5 (((hE3.trans hE4).trans hE5).bytes H4.out)
    clear CS C5
    by_cases hz : N = 0
    · subst hz
      rw [if_pos (by omega)] at C6
      have h1 : (((0 : Nat) : Int) - 1) = -1 := by omega
      rw [h1] at C6
      go_wp2_with fail
      refine C6.mono ?_
      rintro e w6 ⟨v6, rfl, hO6, hE6⟩
      obtain ⟨A6, c6, rfl, _⟩ := hO6.form
      have hnl : ([] : List TokV).length = 0 := rfl
      rw [hnl]
      clear hnl hO6 C6
      go_wp2
      go_ret
      exact ⟨rfl, hF5.trans hE6⟩
    · rw [if_neg (by omega), if_neg (by omega)] at C6
      have hz0 : ((N : Int) == 0) = false := by rw [beq_eq_false_iff_ne]; omega
      have hz1 : (0 : Int) < (N : Int) := by omega
      have hz2 : 0 < N := by omega
      go_wp2_with fail
      refine C6.mono ?_
      rintro e w6 ⟨v6, rfl, hO6, hE6⟩
      obtain ⟨A6, c6, rfl, _⟩ := hO6.form
      have hnl : ([] : List TokV).length = 0 := rfl
      rw [hnl]
      clear hnl hO6 C6
      go_wp2
      go_ret
      exact ⟨rfl, hF5.trans hE6⟩
end Go.Proofs.Ytaohdnhfodkeoaa

namespace Go.Proofs.Ytaohdnhfodkeoaa
open Go.RowKit Go.WideMaps
theorem toksSplits_walk (t : TokV) (p : PcV) (w : World) (ht : t.ok) (hp : p.ok) : Calls Try.prog 3 #[.agg #[.int .u8 (t.lit.toNat : Int), .int .i64 t.len, .int .i64 t.dist], .agg #[.int .i64 p.sym, .int .i64 p.len, .int .i64 p.dist, .int .i64 p.far]] w fun e w' => e = .returned (.bool true) ∧ Below w.heap.size w w' := toksSplits_walk0 t p w (splitC_any w) (joinC_any w) ht hp
theorem toksJoins_walk (t : TokV) (p : PcV) (w : World) (ht : t.ok) (hp : p.ok) : Calls Try.prog 4 #[.agg #[.int .u8 (t.lit.toNat : Int), .int .i64 t.len, .int .i64 t.dist], .agg #[.int .i64 p.sym, .int .i64 p.len, .int .i64 p.dist, .int .i64 p.far]] w fun e w' => e = .returned (.bool true) ∧ Below w.heap.size w w' := toksJoins_walk0 t p w (splitC_any w) (joinC_any w) ht hp
theorem toksCounts_walk (A : Option Addr) (n c : Nat) (L : List TokV) (w : World) (hn : n ≤ c) (hc : c ≤ maxLen) (hT : ToksAt w w.heap.size A n L) : Calls Try.prog 5 #[.slice A n c] w fun e w' => e = .returned (.bool true) ∧ Below w.heap.size w w' := toksCounts_walk0 A n c L w (splitC_any w) (countC_any w) hn hc hT
theorem toksWrites_walk (A : Option Addr) (n c : Nat) (L : List TokV) (w : World) (hn : n ≤ c) (hc : c ≤ maxLen) (hT : ToksAt w w.heap.size A n L) : Calls Try.prog 6 #[.slice A n c] w fun e w' => e = .returned (.bool true) ∧ Below w.heap.size w w' := toksWrites_walk0 A n c L w (splitC_any w) (writeC11_any w) (refLens_any w) hn hc hT
theorem toksReads_walk (A : Option Addr) (n c : Nat) (b : List UInt8) (most : Int) (w : World) (hn : n ≤ c) (hc : c ≤ maxLen) (hB : Bytes w w.heap.size A n b) (hm : (Lit.int .i64 most).wf = true) : Calls Try.prog 7 #[.slice A n c, .int .i64 most] w fun e w' => e = .returned (.bool true) ∧ Below w.heap.size w w' := by
  obtain ⟨h0, h1⟩ := bounds_i64 hm
  exact toksReads_walk0 A n c b most w (splitC_any w) (readC11_any w) hn hc hB h0 h1
theorem toksBack_walk (A : Option Addr) (n c : Nat) (L : List TokV) (w : World) (hn : n ≤ c) (hc : c ≤ maxLen) (hT : ToksAt w w.heap.size A n L) : Calls Try.prog 8 #[.slice A n c] w fun e w' => e = .returned (.bool true) ∧ Below w.heap.size w w' := toksBack_walk0 A n c L w (splitC_any w) (writeC11_any w) (readC11_any w) hn hc hT
theorem toksMay_walk (A : Option Addr) (n c : Nat) (b : List UInt8) (most : Int) (w : World) (hn : n ≤ c) (hc : c ≤ maxLen) (hB : Bytes w w.heap.size A n b) (hm : (Lit.int .i64 most).wf = true) : Calls Try.prog 9 #[.slice A n c, .int .i64 most] w fun e w' => e = .returned (.bool true) ∧ Below w.heap.size w w' := by
  obtain ⟨h0, h1⟩ := bounds_i64 hm
  exact toksMay_walk0 A n c b most w (splitC_any w) (readC11_any w) hn hc hB h0 h1
end Go.Proofs.Ytaohdnhfodkeoaa

namespace Go.Proofs.Ytaohdnhfodkeoaa
open Go.ChangeShapes Go.WideShapes Go.ChangeAt Go.WideMaps Go.WideElems Go.RowKit
theorem tok_cells : Try.prog.cellsOf 23 = 3 := by kernel_rfl
set_option maxRecDepth 1000000 in
theorem open_tok {H : Type} {enc : TypeId × Value → H} {W : World} {cs : Array Value} {d : DataW H} {p : List MemPlace} (hs : cs.size = Try.prog.cellsOf 23) (h : DataW.Trod enc Try.prog W 0 (fun _ => true) true 23 (.agg cs) d p) :
    ∃ t : TokV, cs = #[.int .u8 (t.lit.toNat : Int), .int .i64 t.len, .int .i64 t.dist] ∧ t.ok := by
  obtain ⟨fuel, hf⟩ := h
  have hl : cs.toList.length = 3 := by rw [Array.length_toList, hs, tok_cells]
  rw [← Array.toArray_toList (xs := cs)]
  change DataW.trod enc Try.prog W 0 (fun _ => true) true fuel 23 cs.toList = some _ at hf
  generalize cs.toList = l at *
  obtain ⟨y0, y1, y2, q, _, _, g0, g1, g2⟩ := Deep.trod_struct3 Try.underlying23 hf
  have c0 : Try.prog.cellsOf 5 = 1 := by kernel_rfl
  have c1 : Try.prog.cellsOf 3 = 1 := by kernel_rfl
  match l, hl with
  | [v0, v1, v2], _ =>
    simp [c0, c1] at g0 g1 g2
    obtain ⟨z0, e0, _, w0⟩ := DataW.trod_int Try.underlying5 g0
    obtain ⟨z1, e1, _, w1⟩ := DataW.trod_int Try.underlying3 g1
    obtain ⟨z2, e2, _, w2⟩ := DataW.trod_int Try.underlying3 g2
    simp only [List.cons.injEq, and_true] at e0 e1 e2
    subst e0 e1 e2
    obtain ⟨a0, a1⟩ := bounds_u8 w0
    obtain ⟨b0, b1⟩ := bounds_i64 w1
    obtain ⟨d0, d1⟩ := bounds_i64 w2
    obtain ⟨z0, rfl⟩ := Int.eq_ofNat_of_zero_le a0
    have e8 : ((UInt8.ofNat z0).toNat : Int) = (z0 : Int) := by rw [UInt8.toNat_ofNat']; omega
    exact ⟨⟨UInt8.ofNat z0, z1, z2⟩, by rw [e8], ⟨b0, b1, d0, d1⟩⟩
end Go.Proofs.Ytaohdnhfodkeoaa

namespace Go.Proofs.Ytaohdnhfodkeoaa
open Go.ChangeShapes Go.WideShapes Go.ChangeAt Go.WideMaps Go.WideElems Go.RowKit Tok
theorem pc_cells : Try.prog.cellsOf 25 = 4 := by kernel_rfl
set_option maxRecDepth 1000000 in
theorem open_pc {H : Type} {enc : TypeId × Value → H} {W : World} {cs : Array Value} {d : DataW H} {p : List MemPlace} (hs : cs.size = Try.prog.cellsOf 25) (h : DataW.Trod enc Try.prog W 0 (fun _ => true) true 25 (.agg cs) d p) :
    ∃ t : PcV, cs = #[.int .i64 t.sym, .int .i64 t.len, .int .i64 t.dist, .int .i64 t.far] ∧ t.ok := by
  obtain ⟨fuel, hf⟩ := h
  have hl : cs.toList.length = 4 := by rw [Array.length_toList, hs, pc_cells]
  rw [← Array.toArray_toList (xs := cs)]
  change DataW.trod enc Try.prog W 0 (fun _ => true) true fuel 25 cs.toList = some _ at hf
  generalize cs.toList = l at *
  obtain ⟨xs, q, _, _, _, hlen, hx⟩ := DataW.trod_struct Try.underlying25 hf
  have c1 : Try.prog.cellsOf 3 = 1 := by kernel_rfl
  match l, hl, xs, hlen with
  | [v0, v1, v2, v3], _, [y0, y1, y2, y3], _ =>
    have g0 := hx 0 _ rfl
    have g1 := hx 1 _ rfl
    have g2 := hx 2 _ rfl
    have g3 := hx 3 _ rfl
    simp [c1] at g0 g1 g2 g3
    obtain ⟨z0, e0, _, w0⟩ := DataW.trod_int Try.underlying3 g0
    obtain ⟨z1, e1, _, w1⟩ := DataW.trod_int Try.underlying3 g1
    obtain ⟨z2, e2, _, w2⟩ := DataW.trod_int Try.underlying3 g2
    obtain ⟨z3, e3, _, w3⟩ := DataW.trod_int Try.underlying3 g3
    simp only [List.cons.injEq, and_true] at e0 e1 e2 e3
    subst e0 e1 e2 e3
    obtain ⟨a0, a1⟩ := bounds_i64 w0
    obtain ⟨b0, b1⟩ := bounds_i64 w1
    obtain ⟨d0, d1⟩ := bounds_i64 w2
    obtain ⟨f0, f1⟩ := bounds_i64 w3
    exact ⟨⟨z0, z1, z2, z3⟩, rfl, ⟨a0, a1, b0, b1, d0, d1, f0, f1⟩⟩
end Go.Proofs.Ytaohdnhfodkeoaa

