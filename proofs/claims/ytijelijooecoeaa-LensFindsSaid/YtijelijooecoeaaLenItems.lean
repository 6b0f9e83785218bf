/- Lists of items: weights with rows of numbers, as the document's Lens has them. -/
import Derived.Test.YtijelijooecoeaaLenDoc
import Derived.Test.YtijelijooecoeaaLenVal
import Derived.Test.YtijelijooecoeaaLenInts
namespace Go.Proofs.Ytijelijooecoeaa
open Go.RowKit Len

/-- An item as it lies: its weight, the slice of its symbols. -/
abbrev RawI := Nat × Value
def rawC (y : RawI) : List Value := [.int .u64 ((y.1 : Nat) : Int), y.2]
theorem item_info : (Try.prog.info? 54).map (fun i => (i.zero, i.size, i.bytes)) = some (some (.agg #[.int .u64 0, .slice none 0 0]), 2, 32) := by kernel_rfl
theorem rawC_get : ∀ (Y : List RawI) (i j : Nat), i < Y.length → j < 2 → (Y.flatMap rawC)[i * 2 + j]? = (rawC (Y.getD i (0, undef)))[j]?
  | y :: Y, 0, j, _, hj => by
    rw [List.flatMap_cons, Nat.zero_mul, Nat.zero_add, List.getElem?_append_left (by simp [rawC]; omega)]
    rfl
  | y :: Y, i + 1, j, h, hj => by
    rw [List.flatMap_cons, List.getElem?_append_right (by simp [rawC]; omega)]
    have := rawC_get Y i j (by simpa using h) hj
    rw [show (i + 1) * 2 + j - (rawC y).length = i * 2 + j by simp [rawC]; omega, this]
    simp
theorem rawC_len : ∀ Y : List RawI, (Y.flatMap rawC).length = Y.length * 2
  | [] => rfl
  | y :: Y => by rw [List.flatMap_cons, List.length_append, rawC_len Y]; simp [rawC]; omega
/-- v is nil, or lies in a block from base on, and holds these items. -/
def OwnY (w : World) (base : Nat) (v : Value) (Y : List RawI) : Prop := w.ownsRow base 54 2 v Y.length (Y.flatMap rawC)
/-- The items read so. -/
def SaysY (w : World) (B : Nat) (Y : List RawI) (X : List Len.Item) : Prop := Y.length = X.length ∧ ∀ i, i < X.length → (Y.getD i (0, undef)).1 = (X.getD i (0, [])).1 ∧ OwnL w 0 (Y.getD i (0, undef)).2 ((X.getD i (0, [])).2.map Int.ofNat) ∧ ∀ k, (Y.getD i (0, undef)).2.ownBlock = some k → k < B
/-- A list of items. -/
def ItL (w : World) (base : Nat) (v : Value) (X : List Len.Item) : Prop := ∃ Y, OwnY w base v Y ∧ SaysY w w.heap.size Y X
section
variable {w w' : World} {base g : Nat} {v u : Value} {Y : List RawI} {X : List Len.Item} {L : List Int}
theorem OwnY.lt (h : OwnY w base v Y) : ∀ k, v.ownBlock = some k → base ≤ k ∧ k < w.heap.size := World.ownsRow.lt h
theorem OwnL.notY (h : OwnL w 0 u L) (hY : OwnY w base v Y) (hg : v.ownBlock = some g) : u.ownBlock ≠ some g := by
  intro e
  rcases h.2 with ⟨rfl, _⟩ | ⟨g1, c1, cur1, rfl, _, h1, _⟩
  · cases e
  rcases hY.2 with ⟨rfl, _⟩ | ⟨g2, c2, cur2, rfl, _, h2, _⟩
  · cases hg
  simp only [Value.ownBlock, Option.some.injEq] at e hg
  subst e
  subst hg
  rw [h1] at h2
  simp only [Option.some.injEq, Obj.cells.injEq] at h2
  exact absurd h2.2.1 (by decide)
theorem SaysY.ext {B : Nat} (h : SaysY w B Y X) (hE : Ext w w') : SaysY w' B Y X := ⟨h.1, fun i hi => ⟨(h.2 i hi).1, (h.2 i hi).2.1.ext hE, (h.2 i hi).2.2⟩⟩
theorem SaysY.up {B C : Nat} (h : SaysY w B Y X) (hB : B ≤ C) : SaysY w C Y X := ⟨h.1, fun i hi => ⟨(h.2 i hi).1, (h.2 i hi).2.1, fun k hk => Nat.lt_of_lt_of_le ((h.2 i hi).2.2 k hk) hB⟩⟩
/-- Growing a list of items turns no symbols. -/
theorem SaysY.grownY {B : Nat} {Y2 : List RawI} (h : SaysY w B Y X) (hY : OwnY w base v Y2) (hG : w.grownBy w' v.ownBlock) : SaysY w' B Y X := ⟨h.1, fun i hi => ⟨(h.2 i hi).1, World.ownsRow.kept (h.2 i hi).2.1 hG (by
  cases hb : v.ownBlock with
  | none => cases (Y.getD i (0, undef)).2.ownBlock <;> simp
  | some g => exact .inr ((h.2 i hi).2.1.notY hY hb)), (h.2 i hi).2.2⟩⟩
/-- Growing a new row of numbers turns no symbols of elder items. -/
theorem SaysY.grownNew {B : Nat} (h : SaysY w B Y X) (hG : w.grownBy w' u.ownBlock) (hu : ∀ k, u.ownBlock = some k → B ≤ k) : SaysY w' B Y X := ⟨h.1, fun i hi => ⟨(h.2 i hi).1, World.ownsRow.kept (h.2 i hi).2.1 hG (by
  cases hb : u.ownBlock with
  | none => cases (Y.getD i (0, undef)).2.ownBlock <;> simp
  | some g => exact .inr fun e => absurd ((h.2 i hi).2.2 g e) (Nat.not_lt.2 (hu g hb))), (h.2 i hi).2.2⟩⟩
theorem OwnY.ext (h : OwnY w base v Y) (hE : Ext w w') : OwnY w' base v Y := World.ownsRow.kept h (hE.grown none) (by cases hv : v.ownBlock <;> simp)
theorem OwnY.mono {b' : Nat} (h : OwnY w base v Y) (hb : b' ≤ base) : OwnY w b' v Y := ⟨h.1, h.2.elim Or.inl fun ⟨g, cap, cur, hv, hg, r⟩ => Or.inr ⟨g, cap, cur, hv, Nat.le_trans hb hg, r⟩⟩
theorem ItL.ext (h : ItL w base v X) (hE : Ext w w') : ItL w' base v X := by
  obtain ⟨Y, h1, h2⟩ := h
  exact ⟨Y, h1.ext hE, (h2.ext hE).up hE.le⟩
theorem ItL.mono {b' : Nat} (h : ItL w base v X) (hb : b' ≤ base) : ItL w b' v X := by
  obtain ⟨Y, h1, h2⟩ := h
  exact ⟨Y, h1.mono hb, h2⟩
theorem ItL.nil (w : World) (base : Nat) : ItL w base (.slice none 0 0) [] := ⟨[], World.ownsRow_nil w base _ _, rfl, fun i hi => absurd hi (by simp)⟩
theorem ItL.lt (h : ItL w base v X) : ∀ k, v.ownBlock = some k → base ≤ k ∧ k < w.heap.size := by
  obtain ⟨Y, h1, _⟩ := h
  exact h1.lt
/-- How it lies. -/
theorem OwnY.form (h : OwnY w base v Y) : ∃ A c, v = .slice A Y.length c ∧ Y.length ≤ c ∧ c ≤ maxLen ∧ (Y.length = 0 ∨ ∃ g, A = some ⟨g, 0, none⟩ ∧ ∀ i, i < Y.length → w.cell? ⟨g, i * 2, none⟩ = some (.int .u64 (((Y.getD i (0, undef)).1 : Nat) : Int)) ∧ w.cell? ⟨g, i * 2 + 1, none⟩ = some (Y.getD i (0, undef)).2) := by
  rcases h.2 with ⟨rfl, h0⟩ | ⟨g, cap, cur, rfl, hb, hgg, hn, hc, hs, ht⟩
  · exact ⟨none, 0, by rw [h0], by omega, by unfold maxLen; omega, .inl h0⟩
  · refine ⟨_, cap, rfl, hn, hc, .inr ⟨g, rfl, fun i hi => ?_⟩⟩
    have hcell : ∀ j, j < 2 → w.cell? ⟨g, i * 2 + j, none⟩ = (rawC (Y.getD i (0, undef)))[j]? := fun j hj => by
      rw [cell_of_row w g (i * 2 + j) cur _ _ hgg, ← rawC_get Y i j hi hj, ← ht, List.getElem?_take, if_pos (by omega)]
      simp
    exact ⟨by have := hcell 0 (by omega); simpa [rawC] using this, by have := hcell 1 (by omega); simpa [rawC] using this⟩
/-- An item, as it lies and reads. -/
structure AtI (w : World) (B : Nat) (A : Option Addr) (i : Nat) (x : Len.Item) : Prop where
  ex : ∃ g q C, A = some ⟨g, 0, none⟩ ∧ w.cell? ⟨g, i * 2, none⟩ = some (.int .u64 ((x.1 : Nat) : Int)) ∧ w.cell? ⟨g, i * 2 + 1, none⟩ = some (.slice q x.2.length C) ∧ OwnL w 0 (.slice q x.2.length C) (x.2.map Int.ofNat) ∧ ∀ k, (Value.slice q x.2.length C).ownBlock = some k → k < B
theorem ItL.form (h : ItL w base v X) : ∃ A c, v = .slice A X.length c ∧ X.length ≤ c ∧ c ≤ maxLen ∧ ∀ i, i < X.length → AtI w w.heap.size A i (X.getD i (0, [])) := by
  obtain ⟨Y, h1, h2, h3⟩ := h
  obtain ⟨A, c, rfl, hc, hm, hA⟩ := h1.form
  rw [h2] at hc hA ⊢
  refine ⟨A, c, rfl, hc, hm, fun i hi => ?_⟩
  rcases hA with h0 | ⟨g, rfl, hg⟩
  · omega
  obtain ⟨k1, k2⟩ := hg i hi
  obtain ⟨e1, e2, e3⟩ := h3 i hi
  obtain ⟨q, C, hq, _, _⟩ := e2.form
  rw [List.length_map] at hq
  rw [hq] at k2 e2 e3
  rw [e1] at k1
  exact ⟨g, q, C, rfl, k1, k2, e2, e3⟩
end
section
variable {o : Oper} {a : Act} {Q : Exit → Act → World → Prop} {w : World} {base : Nat} {v : Value} {X : List Len.Item}
set_option maxRecDepth 100000 in
/-- append of one item, which lies in a block of its own. -/
theorem wpList_appY {ops : Array Oper} {rest : List Oper} (hgd : o.guard = none) (s x : Operand) (ho : o.op = .call { callee := .builtin .append, args := #[s, x], argTypes := #[51, 51] }) (hs : a.eval s = v) {q : Option Addr} {C : Nat} {it : Len.Item}
    (hown : ItL w base v X) (hit : OwnL w 0 (.slice q it.2.length C) (it.2.map Int.ofNat)) {c : Nat} (hx : a.eval x = .slice (some ⟨w.heap.size, 0, none⟩) 1 c) (hlen : X.length ≤ 1000) (hbase : base ≤ w.heap.size)
    (h : ∀ v' w', ItL w' base v' (X ++ [it]) → (w.alloc (.cells #[.int .u64 ((it.1 : Nat) : Int), .slice q it.2.length C] 54)).grownBy w' v.ownBlock → (v'.ownBlock = v.ownBlock ∨ v'.ownBlock = some (w.heap.size + 1)) → wpList Try.prog ops Q rest (a.put o.dst v') w') :
    wpList Try.prog ops Q (o :: rest) a (w.alloc (.cells #[.int .u64 ((it.1 : Nat) : Int), .slice q it.2.length C] 54)) := by
  obtain ⟨Y, h1, h2⟩ := hown
  obtain ⟨i, hi, hz, hsz, hby⟩ := info_parts item_info
  have hE := extNew w (.cells #[.int .u64 ((it.1 : Nat) : Int), .slice q it.2.length C] 54)
  have h1E := h1.ext hE
  refine wpList_append_own_at _ hgd s x 51 ho base 54 i _ 2 32 Try.underlying51 hi hz hsz hby rfl (by omega) v Y.length (Y.flatMap rawC) hs h1E ⟨w.heap.size, 0, none⟩ 1 c (rawC (it.1, .slice q it.2.length C)) hx rfl (by
    intro j u hu
    rw [show (⟨w.heap.size, 0, none⟩ : Addr).add j = ⟨w.heap.size, j, none⟩ by unfold Addr.add; split <;> simp_all, cellNew]
    match j, hu with
    | 0, hu => simpa [rawC] using hu
    | 1, hu => simpa [rawC] using hu
    | j + 2, hu => simp [rawC] at hu) (by
    intro u hu
    simp [rawC] at hu
    rcases hu with rfl | rfl <;> rfl) (by unfold maxLen; have := h2.1; omega) (by have := h2.1; omega) (by simp; omega) ?_
  intro v' w' h4 h5 _ h6
  rw [World.size_alloc] at h6
  have hS := h5.size
  rw [World.size_alloc] at hS
  refine h v' w' ⟨Y ++ [(it.1, .slice q it.2.length C)], ?_, ?_⟩ h5 h6
  · unfold OwnY
    rw [List.length_append, List.flatMap_append]
    simpa using h4
  · have k1 := ((h2.ext hE).grownY h1E h5).up (C := w'.heap.size) (by omega)
    have k2 : OwnL w' 0 (.slice q it.2.length C) (it.2.map Int.ofNat) := World.ownsRow.kept (hit.ext hE) h5 (by
      cases hb : v.ownBlock with
      | none => cases (Value.slice q it.2.length C).ownBlock <;> simp
      | some g => exact .inr ((hit.ext hE).notY h1E hb))
    refine ⟨by simp [h2.1], fun j hj => ?_⟩
    have hl := h2.1
    by_cases hjl : j < X.length
    · have e1 : (X ++ [it]).getD j (0, []) = X.getD j (0, []) := by simp [List.getD_eq_getElem?_getD, List.getElem?_append_left hjl]
      have e2 : (Y ++ [(it.1, Value.slice q it.2.length C)]).getD j (0, undef) = Y.getD j (0, undef) := by simp [List.getD_eq_getElem?_getD, List.getElem?_append_left (by omega : j < Y.length)]
      rw [e1, e2]
      exact k1.2 j hjl
    · have hjx : j = X.length := by simp at hj; omega
      subst hjx
      have e1 : (X ++ [it]).getD X.length (0, []) = it := by simp [List.getD_eq_getElem?_getD]
      have e2 : (Y ++ [(it.1, Value.slice q it.2.length C)]).getD X.length (0, undef) = (it.1, .slice q it.2.length C) := by rw [← hl]; simp [List.getD_eq_getElem?_getD]
      rw [e1, e2]
      exact ⟨rfl, k2, fun k hk => (k2.lt k hk).2⟩
end
end Go.Proofs.Ytijelijooecoeaa
