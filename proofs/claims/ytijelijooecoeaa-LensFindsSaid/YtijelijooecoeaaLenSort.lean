/- Parts of lists of items, ahead of the document's Lens of chapter 7: slices of them, new items. -/
import Derived.Test.YtijelijooecoeaaLenApp
import Derived.Test.YtijelijooecoeaaLenLaw
namespace Go.Proofs.Ytijelijooecoeaa
open Go.RowKit Len

theorem run_headY (W : World) (a : Option Addr) (n c : Nat) (k : IntKind) (h : Int) (h0 : 0 ≤ h) (h1 : h ≤ c) :
    (Instr.slice 51 (.slice a n c) none (some (.int k h)) none).run Try.prog W = .ok (.slice (cutAt a (c * 2) (0 * 2)) h.toNat c) W := by
  rw [run_slice_h (P := Try.prog) (w := W) 51 a n c (by kernel_rfl) k h h0 h1]
  have hs : (sizeOf (Try.prog.elem 51)).run Try.prog W = .ok 2 W := by kernel_rfl
  rw [hs]
  have e : (c * 2 = 0 * 2) = (c = 0) := propext ⟨fun h => by omega, fun h => by omega⟩
  simp only [Result.andThen, sliced, cutAt, e, Nat.sub_zero]
theorem run_cutY (W : World) (a : Option Addr) (n c : Nat) (k : IntKind) (l : Int) (h0 : 0 ≤ l) (h1 : l ≤ n) :
    (Instr.slice 51 (.slice a n c) (some (.int k l)) none none).run Try.prog W = .ok (.slice (cutAt a (c * 2) (l.toNat * 2)) (n - l.toNat) (c - l.toNat)) W := by
  rw [run_slice_l (P := Try.prog) (w := W) 51 a n c (by kernel_rfl) k l h0 h1]
  have hs : (sizeOf (Try.prog.elem 51)).run Try.prog W = .ok 2 W := by kernel_rfl
  rw [hs]
  have e : (c * 2 = l.toNat * 2) = (c = l.toNat) := propext ⟨fun h => by omega, fun h => by omega⟩
  simp only [Result.andThen, sliced, cutAt, e]
theorem SrcY.head {w : World} {A : Option Addr} {n c k : Nat} {Y : List RawI} (h : SrcY w A n Y) (hk : k ≤ n) (hc : n ≤ c) : SrcY w (cutAt A (c * 2) (0 * 2)) k (Y.take k) := by
  have := (h.drop (k := 0) (Nat.zero_le n) hc).take (k := k) (by omega)
  simpa using this
theorem SrcY.extN {w w' : World} {A : Option Addr} {n : Nat} {Y : List RawI} (h : SrcY w A n Y) (hE : Ext w w') : SrcY w' A n Y := by
  refine ⟨h.1, h.2.imp_right fun ⟨g, off, e, hc⟩ => ⟨g, off, e, fun i hi => ?_⟩⟩
  obtain ⟨k1, k2⟩ := hc i hi
  have hg : g < w.heap.size := World.block_lt_of_cell? w _ k1
  exact ⟨(hE.cell hg).trans k1, (hE.cell hg).trans k2⟩
/-- One number of the call's own. -/
theorem OwnL.one (w : World) (p : Int) {base : Nat} (h : base ≤ w.heap.size) : OwnL (w.alloc (.cells #[.int .i64 p] 3)) base (.slice (some ⟨w.heap.size, 0, none⟩) 1 1) [p] := by
  have := World.ownsRow_lit (e := 3) (size := 1) w #[.int .i64 p] 1 h (by unfold maxLen; omega) (by simp)
  simpa [OwnL] using this
theorem OwnL.mono {w : World} {base base' : Nat} {v : Value} {L : List Int} (h : OwnL w base v L) (hb : base' ≤ base) : OwnL w base' v L :=
  ⟨h.1, h.2.imp_right fun ⟨g, cap, cur, e, hg, r⟩ => ⟨g, cap, cur, e, Nat.le_trans hb hg, r⟩⟩
/-- append of one item, whose block's place is told. -/
theorem wpList_appYg {o : Oper} {a : Act} {Q : Exit → Act → World → Prop} {w : World} {base g : Nat} {v : Value} {X : List Len.Item} {ops : Array Oper} {rest : List Oper} (hgd : o.guard = none) (s x : Operand) (ho : o.op = .call { callee := .builtin .append, args := #[s, x], argTypes := #[51, 51] }) (hs : a.eval s = v) {q : Option Addr} {C : Nat} {it : Len.Item}
    (hg : g = w.heap.size) (hown : ItL w base v X) (hit : OwnL w 0 (.slice q it.2.length C) (it.2.map Int.ofNat)) {c : Nat} (hx : a.eval x = .slice (some ⟨g, 0, none⟩) 1 c) (hlen : X.length ≤ 1000) (hbase : base ≤ w.heap.size)
    (h : ∀ v' w', ItL w' base v' (X ++ [it]) → (w.alloc (.cells #[.int .u64 ((it.1 : Nat) : Int), .slice q it.2.length C] 54)).grownBy w' v.ownBlock → (v'.ownBlock = v.ownBlock ∨ v'.ownBlock = some (w.heap.size + 1)) → wpList Try.prog ops Q rest (a.put o.dst v') w') :
    wpList Try.prog ops Q (o :: rest) a (w.alloc (.cells #[.int .u64 ((it.1 : Nat) : Int), .slice q it.2.length C] 54)) := by
  subst hg
  exact wpList_appY hgd s x ho hs hown hit hx hlen hbase h
/-- A change in a row of bytes changes no items. -/
theorem ItL.byte {w w' : World} {base b2 g n c : Nat} {v : Value} {X : List Len.Item} {O : List UInt8} (h : ItL w base v X) (hO : OwnB w b2 (.slice (some ⟨g, 0, none⟩) n c) O) (hG : w.grownBy w' (some g)) : ItL w' base v X := by
  obtain ⟨Y, h1, h2⟩ := h
  have hg : ∃ x, w.heap[g]? = some (.cells x 5) := by
    rcases hO.2 with ⟨e, _⟩ | ⟨g1, c1, cur1, e, _, hh, _⟩
    · cases e
    · simp only [Value.slice.injEq, Option.some.injEq, Addr.mk.injEq, and_true] at e
      obtain ⟨rfl, _⟩ := e
      exact ⟨_, hh⟩
  obtain ⟨x, hx⟩ := hg
  refine ⟨Y, World.ownsRow.kept h1 hG (.inr fun e => ?_), h2.1, fun i hi => ⟨(h2.2 i hi).1, World.ownsRow.kept (h2.2 i hi).2.1 hG (.inr fun e => ?_), fun k hk => Nat.lt_of_lt_of_le ((h2.2 i hi).2.2 k hk) hG.size⟩⟩
  · rcases h1.2 with ⟨rfl, _⟩ | ⟨g2, c2, cur2, rfl, _, hh, _⟩
    · cases e
    · simp only [Value.ownBlock, Option.some.injEq] at e
      subst e
      rw [hx] at hh
      simp only [Option.some.injEq, Obj.cells.injEq] at hh
      exact absurd hh.2.1 (by decide)
  · rcases (h2.2 i hi).2.1.2 with ⟨e2, _⟩ | ⟨g2, c2, cur2, e2, _, hh, _⟩
    · rw [e2] at e
      cases e
    · rw [e2] at e
      simp only [Value.ownBlock, Option.some.injEq] at e
      subst e
      rw [hx] at hh
      simp only [Option.some.injEq, Obj.cells.injEq] at hh
      exact absurd hh.2.1 (by decide)
set_option maxRecDepth 100000 in
/-- The same at the operation. -/
theorem wp_appY {o : Oper} {a : Act} {K : Act → World → Prop} {Q : Exit → Act → World → Prop} {w : World} {base : Nat} {v : Value} {X : List Len.Item} (s x : Operand) (ho : o.op = .call { callee := .builtin .append, args := #[s, x], argTypes := #[51, 51] }) (hs : a.eval s = v) {q : Option Addr} {C : Nat} {it : Len.Item}
    (hown : ItL w base v X) (hit : OwnL w 0 (.slice q it.2.length C) (it.2.map Int.ofNat)) {c : Nat} (hx : a.eval x = .slice (some ⟨w.heap.size, 0, none⟩) 1 c) (hlen : X.length ≤ 1000) (hbase : base ≤ w.heap.size)
    (h : ∀ v' w', ItL w' base v' (X ++ [it]) → (w.alloc (.cells #[.int .u64 ((it.1 : Nat) : Int), .slice q it.2.length C] 54)).grownBy w' v.ownBlock → K (a.put o.dst v') w') :
    o.wp Try.prog a (w.alloc (.cells #[.int .u64 ((it.1 : Nat) : Int), .slice q it.2.length C] 54)) K Q := by
  obtain ⟨Y, h1, h2⟩ := hown
  obtain ⟨i, hi, hz, hsz, hby⟩ := info_parts item_info
  have hE := extNew w (.cells #[.int .u64 ((it.1 : Nat) : Int), .slice q it.2.length C] 54)
  have h1E := h1.ext hE
  obtain ⟨v', w', hr, h4, h5, _, _⟩ := run_append_own_at (P := Try.prog) _ base 51 o.type 54 i _ 2 32 Try.underlying51 hi hz hsz hby rfl (by omega) v Y.length (Y.flatMap rawC) h1E ⟨w.heap.size, 0, none⟩ 1 c (rawC (it.1, .slice q it.2.length C)) rfl (by
    intro j u hu
    rw [show (⟨w.heap.size, 0, none⟩ : Addr).add j = ⟨w.heap.size, j, none⟩ by unfold Addr.add; split <;> simp_all, cellNew]
    match j, hu with
    | 0, hu => simpa [rawC] using hu
    | 1, hu => simpa [rawC] using hu
    | j + 2, hu => simp [rawC] at hu) (by
    intro u hu
    simp [rawC] at hu
    rcases hu with rfl | rfl <;> rfl) (by unfold maxLen; have := h2.1; omega) (by have := h2.1; omega) (by simp; omega)
  unfold Oper.wp execOp
  simp only [ho, resolve, invoke, builtin, Sem.run_bind, Sem.run_pure, Result.andThen_ok, List.map_toArray, List.map_cons, List.map_nil, hs, hx, hr]
  have hS := h5.size
  rw [World.size_alloc] at hS
  refine h v' w' ⟨Y ++ [(it.1, .slice q it.2.length C)], ?_, ?_⟩ h5
  · unfold OwnY
    rw [List.length_append, List.flatMap_append]
    simpa using h4
  · have k1 := ((h2.ext hE).grownY h1E h5).up (C := w'.heap.size) (by omega)
    have k2 : OwnL w' 0 (.slice q it.2.length C) (it.2.map Int.ofNat) := World.ownsRow.kept (hit.ext hE) h5 (by
      cases hb : v.ownBlock with
      | none => cases (Value.slice q it.2.length C).ownBlock <;> simp
      | some g => exact .inr ((hit.ext hE).notY h1E hb))
    refine ⟨by simp [h2.1], fun j hj => ?_⟩
    have hl := h2.1
    by_cases hjl : j < X.length
    · have e1 : (X ++ [it]).getD j (0, []) = X.getD j (0, []) := by simp [List.getD_eq_getElem?_getD, List.getElem?_append_left hjl]
      have e2 : (Y ++ [(it.1, Value.slice q it.2.length C)]).getD j (0, undef) = Y.getD j (0, undef) := by simp [List.getD_eq_getElem?_getD, List.getElem?_append_left (by omega : j < Y.length)]
      rw [e1, e2]
      exact k1.2 j hjl
    · have hjx : j = X.length := by simp at hj; omega
      subst hjx
      have e1 : (X ++ [it]).getD X.length (0, []) = it := by simp [List.getD_eq_getElem?_getD]
      have e2 : (Y ++ [(it.1, Value.slice q it.2.length C)]).getD X.length (0, undef) = (it.1, .slice q it.2.length C) := by rw [← hl]; simp [List.getD_eq_getElem?_getD]
      rw [e1, e2]
      exact ⟨rfl, k2, fun k hk => (k2.lt k hk).2⟩
end Go.Proofs.Ytijelijooecoeaa
