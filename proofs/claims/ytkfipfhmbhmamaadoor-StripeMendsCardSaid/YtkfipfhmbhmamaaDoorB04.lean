/- Lists of rows of bytes: those that are read, and those of the call's own, whose rows may lie anywhere. The document's May, Same, Alike of chapter 6. Matrices as values; the document's May. The document's Identity and Cauchy. Matrices as values: cells, products, what may be, where they lie. The document's Cauchy. The document's Identity and Cauchy, told. What an inverse is, of matrices that came in; its laws. The document's Same of chapter 9: two slices of numbers. -/
import Derived.Test.YtkfipfhmbhmamaaDoorB02
import Derived.Test.YtkfipfhmbhmamaaDoorB03
import Derived.Laws.OwnMore
import Derived.Maps.AppendAt
import Derived.Deep.QuietTactic
import Derived.BigQuiet
import Derived.Laws.ResultCell
namespace Go.Proofs.YtkfipfhmbhmamaaDoor
open Go.RowKit

/-- x is a slice that reads as these bytes, in memory below B. -/
def RowOf (w : World) (B : Nat) (x : Value) (l : List UInt8) : Prop := ∃ A k, x = .slice A l.length k ∧ l.length ≤ k ∧ k ≤ maxLen ∧ Bytes w B A l.length l
/-- A slice of slices that reads as these rows. -/
def RowsAt (w : World) (B : Nat) (A : Option Addr) (n : Nat) (ls : List (List UInt8)) : Prop :=
  ls.length = n ∧ (n = 0 ∨ ∃ b off, A = some ⟨b, off, none⟩ ∧ b < B ∧ ∀ i, i < n → ∃ x, w.cell? ⟨b, off + i, none⟩ = some x ∧ RowOf w B x (ls.getD i []))
section
variable {w w' : World} {B n : Nat} {x : Value} {l : List UInt8} {A : Option Addr} {ls : List (List UInt8)}
theorem RowOf.ext (h : RowOf w w.heap.size x l) (hE : Ext w w') : RowOf w' w'.heap.size x l := by
  obtain ⟨A, k, h1, h2, h3, h4⟩ := h
  exact ⟨A, k, h1, h2, h3, hE.bytes h4⟩
theorem RowsAt.ext (h : RowsAt w w.heap.size A n ls) (hE : Ext w w') : RowsAt w' w'.heap.size A n ls := by
  refine ⟨h.1, h.2.imp_right ?_⟩
  rintro ⟨b, off, e, hb, hc⟩
  refine ⟨b, off, e, Nat.lt_of_lt_of_le hb hE.le, fun i hi => ?_⟩
  obtain ⟨x, h1, h2⟩ := hc i hi
  exact ⟨x, (hE.cell (i := off + i) hb).trans h1, h2.ext hE⟩
theorem OwnB.row {base : Nat} (h : OwnB w base x l) : RowOf w w.heap.size x l := by
  obtain ⟨A, c, h1, h2, h3, h4⟩ := h.form
  exact ⟨A, c, h1, h2, h3, h4⟩
end

theorem rw_info : (Tryd.prog.info? 27).map (fun i => (i.zero, i.size, i.bytes)) = some (some (.slice none 0 0), 1, 24) := by kernel_rfl
/-- No byte of row x lies in the block of v. -/
def Clear (v x : Value) : Prop := ∀ A n k, x = .slice A n k → n = 0 ∨ ∀ b off, A = some ⟨b, off, none⟩ → v.ownBlock ≠ some b
/-- v is nil, or lies in a block of the call's own (from base on) that holds no byte of its rows, and reads as these rows. -/
structure OwnP (w : World) (base : Nat) (v : Value) (ls : List (List UInt8)) : Prop where
  own : ∃ R : Nat → Value, w.ownsRow base 27 1 v ls.length ((List.range ls.length).map R) ∧ ∀ i, i < ls.length → RowOf w w.heap.size (R i) (ls.getD i []) ∧ Clear v (R i)
section
variable {w w' : World} {base : Nat} {v x : Value} {l : List UInt8} {ls : List (List UInt8)}
theorem OwnP.nil (w : World) (base : Nat) : OwnP w base (.slice none 0 0) [] := ⟨fun _ => default, World.ownsRow_nil w base _ _, fun i hi => absurd hi (by simp)⟩
theorem OwnP.ext (h : OwnP w base v ls) (hE : Ext w w') : OwnP w' base v ls := by
  obtain ⟨R, h1, h2⟩ := h.own
  exact ⟨R, World.ownsRow.kept h1 (hE.grown none) (by cases hv : v.ownBlock <;> simp), fun i hi => ⟨(h2 i hi).1.ext hE, (h2 i hi).2⟩⟩
theorem OwnP.lt (h : OwnP w base v ls) : ∀ k, v.ownBlock = some k → base ≤ k ∧ k < w.heap.size := by
  obtain ⟨R, h1, _⟩ := h.own
  exact h1.lt
theorem OwnP.mono {b' : Nat} (h : OwnP w base v ls) (hb : b' ≤ base) : OwnP w b' v ls := by
  obtain ⟨R, h1, h2⟩ := h.own
  exact ⟨R, ⟨h1.1, h1.2.elim Or.inl fun ⟨g, cap, cur, hv, hg, r⟩ => Or.inr ⟨g, cap, cur, hv, Nat.le_trans hb hg, r⟩⟩, h2⟩
theorem OwnP.form (h : OwnP w base v ls) : ∃ A c, v = .slice A ls.length c ∧ ls.length ≤ c ∧ c ≤ maxLen ∧ RowsAt w w.heap.size A ls.length ls := by
  obtain ⟨R, h1, h2⟩ := h.own
  have hl := h1.lt
  rcases h1.2 with ⟨rfl, h0⟩ | ⟨g, cap, cur, rfl, hb, hg, hn, hc, hs, ht⟩
  · exact ⟨none, 0, by rw [h0], by omega, by unfold maxLen; omega, rfl, .inl h0⟩
  · refine ⟨_, cap, rfl, hn, hc, rfl, .inr ⟨g, 0, rfl, (hl g rfl).2, fun i hi => ⟨R i, ?_, (h2 i hi).1⟩⟩⟩
    rw [Nat.zero_add, World.ownsRow.cellAt h1 i (by omega)]
    simp [hi]
/-- Rows below the world's end stay clear of a block that is v's, or made later. -/
theorem RowOf.lt (h : RowOf w w.heap.size x l) (hne : l.length ≠ 0) : ∃ b off k, x = .slice (some ⟨b, off, none⟩) l.length k ∧ b < w.heap.size := by
  obtain ⟨A, k, h1, _, _, h4⟩ := h
  rcases h4.2 with h0 | ⟨b, off, rfl, hB, _⟩
  · exact absurd h0 hne
  · exact ⟨b, off, k, h1, hB⟩
theorem Clear.later {v' : Value} {H : Nat} (hc : Clear v x) (hx : RowOf w w.heap.size x l) (hH : w.heap.size ≤ H) (hN : v'.ownBlock = v.ownBlock ∨ v'.ownBlock = some H) : Clear v' x := by
  intro A n k e
  obtain ⟨A', k', e', _, _, h4⟩ := hx
  rw [e'] at e
  simp only [Value.slice.injEq] at e
  obtain ⟨rfl, rfl, rfl⟩ := e
  rcases hc _ _ _ e' with h0 | h1
  · exact .inl h0
  rcases h4.2 with h0 | ⟨b, off, rfl, hB, _⟩
  · exact .inl h0
  · refine .inr fun b' off' e2 => ?_
    simp only [Option.some.injEq, Addr.mk.injEq, and_true] at e2
    obtain ⟨rfl, rfl⟩ := e2
    rcases hN with h | h
    · rw [h]
      exact h1 _ _ rfl
    · rw [h]
      intro e3
      injection e3 with e3
      omega
/-- A row that a block of v's can't hold. -/
theorem Clear.of (hv : ∀ k, v.ownBlock = some k → base ≤ k) (hx : RowOf w base x l) : Clear v x := by
  intro A n k e
  obtain ⟨A', k', e', _, _, h4⟩ := hx
  rw [e'] at e
  simp only [Value.slice.injEq] at e
  obtain ⟨rfl, rfl, rfl⟩ := e
  rcases h4.2 with h0 | ⟨b, off, rfl, hB, _⟩
  · exact .inl h0
  · refine .inr fun b' off' e2 h => ?_
    simp only [Option.some.injEq, Addr.mk.injEq, and_true] at e2
    obtain ⟨rfl, rfl⟩ := e2
    have := hv _ h
    omega
theorem Clear.own {H : Nat} (hx : OwnB w H x l) (hv : ∀ k, v.ownBlock = some k → k < H) : Clear v x := by
  intro A n k e
  rcases hx.2 with ⟨rfl, h0⟩ | ⟨g, cap, cur, rfl, hb, _⟩
  · simp only [Value.slice.injEq] at e
    exact .inl e.2.1.symm
  · refine .inr fun b off e2 h => ?_
    simp only [Value.slice.injEq] at e
    rw [← e.1] at e2
    simp only [Option.some.injEq, Addr.mk.injEq, and_true] at e2
    have := hv _ h
    omega
/-- Rows told by a world that has grown in v's block alone. -/
theorem RowOf.grown (hx : RowOf w w.heap.size x l) (hc : Clear v x) (hG : w.grownBy w' v.ownBlock) : RowOf w' w'.heap.size x l := by
  obtain ⟨A, k, e, h2, h3, h4⟩ := hx
  refine ⟨A, k, e, h2, h3, h4.1, ?_⟩
  rcases hc _ _ _ e with h0 | h1
  · exact .inl h0
  rcases h4.2 with h0 | ⟨b, off, rfl, hB, hcell⟩
  · exact .inl h0
  · refine .inr ⟨b, off, rfl, Nat.lt_of_lt_of_le hB hG.size, fun i hi => ?_⟩
    rw [← hcell i hi]
    exact World.cell?_of_block (a := ⟨b, off + i, none⟩) (hG.block b hB (fun e => h1 b off rfl e.symm))
/-- Rows more: what append leaves. -/
theorem OwnP.app {R : Nat → Value} (h2 : ∀ i, i < ls.length → RowOf w w.heap.size (R i) (ls.getD i []) ∧ Clear v (R i)) {v' : Value} {H : Nat} {ms : List (List UInt8)} {X : Nat → Value} (hX : ∀ i, i < ms.length → RowOf w w.heap.size (X i) (ms.getD i []) ∧ Clear v (X i)) (hH : w.heap.size ≤ H)
    (hO : w'.ownsRow base 27 1 v' (ls.length + ms.length) ((List.range ls.length).map R ++ (List.range ms.length).map X))
    (hG : w.grownBy w' v.ownBlock) (hN : v'.ownBlock = v.ownBlock ∨ v'.ownBlock = some H) : OwnP w' base v' (ls ++ ms) := by
  refine ⟨fun i => if i < ls.length then R i else X (i - ls.length), ?_, fun i hi => ?_⟩
  · have e : (List.range (ls ++ ms).length).map (fun i => if i < ls.length then R i else X (i - ls.length)) = (List.range ls.length).map R ++ (List.range ms.length).map X := by
      apply List.ext_getElem?
      intro i
      rw [List.length_append]
      by_cases hi : i < ls.length
      · rw [List.getElem?_append_left (by simpa using hi)]
        simp [hi, show i < ls.length + ms.length by omega]
      · rw [List.getElem?_append_right (by simpa using Nat.le_of_not_lt hi)]
        by_cases hi2 : i < ls.length + ms.length
        · simp [hi, hi2, show i - ls.length < ms.length by omega]
        · rw [List.getElem?_eq_none (by simp; omega), List.getElem?_eq_none (by simp; omega)]
    rw [e, List.length_append]
    exact hO
  · rw [List.length_append] at hi
    by_cases hil : i < ls.length
    · obtain ⟨a, b⟩ := h2 i hil
      have e : (ls ++ ms).getD i [] = ls.getD i [] := by simp [List.getD_eq_getElem?_getD, List.getElem?_append_left hil]
      simp only [hil, if_true]
      rw [e]
      exact ⟨a.grown b hG, b.later a hH hN⟩
    · obtain ⟨a, b⟩ := hX (i - ls.length) (by omega)
      have e : (ls ++ ms).getD i [] = ms.getD (i - ls.length) [] := by simp [List.getD_eq_getElem?_getD, List.getElem?_append_right (Nat.le_of_not_lt hil)]
      simp only [hil, if_false]
      rw [e]
      exact ⟨a.grown b hG, b.later a hH hN⟩
end

section
variable {o : Oper} {a : Act} {K : Act → World → Prop} {Q : Exit → Act → World → Prop} {w : World} {base : Nat} {v : Value} {ls : List (List UInt8)}
/-- append of one row, whose slice lies in a block of its own. -/
theorem wpList_appP {ops : Array Oper} {rest : List Oper} (hgd : o.guard = none) (s x : Operand) (ho : o.op = .call { callee := .builtin .append, args := #[s, x], argTypes := #[55, 55] }) (hs : a.eval s = v) {A : Option Addr} {m k : Nat} {l : List UInt8}
    (h : OwnP w base v ls) (hr : RowOf w w.heap.size (.slice A m k) l) (hcl : Clear v (.slice A m k)) {c : Nat} (hx : a.eval x = .slice (some ⟨w.heap.size, 0, none⟩) 1 c) (hlen : ls.length ≤ 1000) (hbase : base ≤ w.heap.size)
    (hk : ∀ v' w', OwnP w' base v' (ls ++ [l]) → (w.alloc (.cells #[.slice A m k] 27)).grownBy w' v.ownBlock → wpList Tryd.prog ops Q rest (a.put o.dst v') w') :
    wpList Tryd.prog ops Q (o :: rest) a (w.alloc (.cells #[.slice A m k] 27)) := by
  obtain ⟨i, hi, hz, hsz, hby⟩ := info_parts rw_info
  have hE := extNew w (.cells #[.slice A m k] 27)
  obtain ⟨R, h1, h2⟩ := (h.ext hE).own
  refine wpList_append_own_at _ hgd s x 55 ho base 27 i _ 1 24 Tryd.underlying55 hi hz hsz hby rfl (by omega) v ls.length _ hs h1 ⟨w.heap.size, 0, none⟩ 1 c [.slice A m k] hx rfl (by
    intro j u hu
    match j, hu with
    | 0, hu =>
      have : (⟨w.heap.size, 0, none⟩ : Addr).add 0 = ⟨w.heap.size, 0, none⟩ := rfl
      rw [this, cellNew]
      simpa using hu
    | j + 1, hu => simp at hu) (by
    intro u hu
    simp at hu
    subst hu
    rfl) (by unfold maxLen; omega) (by omega) (by simp; omega) ?_
  intro v' w' h3 h4 _ h5
  refine hk v' w' (OwnP.app (X := fun _ => .slice A m k) h2 (fun i hi => ?_) (Nat.le_refl _) ?_ h4 h5) h4
  · obtain rfl : i = 0 := by simpa using hi
    exact ⟨hr.ext hE, hcl⟩
  · simpa using h3
end
/-- x is empty, or its bytes lie in memory from base on. -/
def NewX (base : Nat) (x : Value) : Prop := ∀ A n k, x = .slice A n k → n = 0 ∨ ∀ b off, A = some ⟨b, off, none⟩ → base ≤ b
theorem NewX.own {w : World} {base : Nat} {x : Value} {l : List UInt8} (h : OwnB w base x l) : NewX base x := by
  intro A n k e
  rcases h.2 with ⟨rfl, h0⟩ | ⟨g, cap, cur, rfl, hb, _⟩
  · simp only [Value.slice.injEq] at e
    exact .inl e.2.1.symm
  · refine .inr fun b off e2 => ?_
    simp only [Value.slice.injEq] at e
    rw [← e.1] at e2
    simp only [Option.some.injEq, Addr.mk.injEq, and_true] at e2
    omega
theorem NewX.mono {b b' : Nat} {x : Value} (h : NewX b x) (hb : b' ≤ b) : NewX b' x := fun A n k e => (h A n k e).imp_right fun h2 b off e2 => Nat.le_trans hb (h2 b off e2)
/-- Rows of memory behind v's block. -/
theorem NewX.clear {base : Nat} {v x : Value} (h : NewX base x) (hv : ∀ k, v.ownBlock = some k → k < base) : Clear v x := fun A n k e => (h A n k e).imp_right fun h2 b off e2 e3 => by
  have := hv _ e3
  have := h2 b off e2
  omega
/-- As OwnP, the rows too made from base on. -/
structure OwnN (w : World) (base : Nat) (v : Value) (ls : List (List UInt8)) : Prop where
  own : ∃ R : Nat → Value, w.ownsRow base 27 1 v ls.length ((List.range ls.length).map R) ∧ ∀ i, i < ls.length → RowOf w w.heap.size (R i) (ls.getD i []) ∧ Clear v (R i) ∧ NewX base (R i)
section
variable {w w' : World} {base : Nat} {v x : Value} {l : List UInt8} {ls : List (List UInt8)}
theorem OwnN.toP (h : OwnN w base v ls) : OwnP w base v ls := by
  obtain ⟨R, h1, h2⟩ := h.own
  exact ⟨R, h1, fun i hi => ⟨(h2 i hi).1, (h2 i hi).2.1⟩⟩
theorem OwnN.nil (w : World) (base : Nat) : OwnN w base (.slice none 0 0) [] := ⟨fun _ => default, World.ownsRow_nil w base _ _, fun i hi => absurd hi (by simp)⟩
theorem OwnN.ext (h : OwnN w base v ls) (hE : Ext w w') : OwnN w' base v ls := by
  obtain ⟨R, h1, h2⟩ := h.own
  exact ⟨R, World.ownsRow.kept h1 (hE.grown none) (by cases hv : v.ownBlock <;> simp), fun i hi => ⟨(h2 i hi).1.ext hE, (h2 i hi).2⟩⟩
theorem OwnN.lt (h : OwnN w base v ls) : ∀ k, v.ownBlock = some k → base ≤ k ∧ k < w.heap.size := h.toP.lt
theorem OwnN.mono {b' : Nat} (h : OwnN w base v ls) (hb : b' ≤ base) : OwnN w b' v ls := by
  obtain ⟨R, h1, h2⟩ := h.own
  exact ⟨R, ⟨h1.1, h1.2.elim Or.inl fun ⟨g, cap, cur, hv, hg, r⟩ => Or.inr ⟨g, cap, cur, hv, Nat.le_trans hb hg, r⟩⟩, fun i hi => ⟨(h2 i hi).1, (h2 i hi).2.1, (h2 i hi).2.2.mono hb⟩⟩
end
section
variable {o : Oper} {a : Act} {K : Act → World → Prop} {Q : Exit → Act → World → Prop} {w : World} {base : Nat} {v : Value} {ls : List (List UInt8)}
set_option maxRecDepth 100000 in
/-- append of one row, whose slice lies in a block of its own. -/
theorem wpList_appN {ops : Array Oper} {rest : List Oper} (hgd : o.guard = none) (s x : Operand) (ho : o.op = .call { callee := .builtin .append, args := #[s, x], argTypes := #[55, 55] }) (hs : a.eval s = v) {A : Option Addr} {m k : Nat} {l : List UInt8}
    (h : OwnN w base v ls) (hr : RowOf w w.heap.size (.slice A m k) l) (hcl : Clear v (.slice A m k)) (hnw : NewX base (.slice A m k)) {c : Nat} (hx : a.eval x = .slice (some ⟨w.heap.size, 0, none⟩) 1 c) (hlen : ls.length ≤ 1000) (hbase : base ≤ w.heap.size)
    (hk : ∀ v' w', OwnN w' base v' (ls ++ [l]) → (w.alloc (.cells #[.slice A m k] 27)).grownBy w' v.ownBlock → wpList Tryd.prog ops Q rest (a.put o.dst v') w') :
    wpList Tryd.prog ops Q (o :: rest) a (w.alloc (.cells #[.slice A m k] 27)) := by
  obtain ⟨i, hi, hz, hsz, hby⟩ := info_parts rw_info
  have hE := extNew w (.cells #[.slice A m k] 27)
  obtain ⟨R, h1, h2⟩ := (h.ext hE).own
  refine wpList_append_own_at _ hgd s x 55 ho base 27 i _ 1 24 Tryd.underlying55 hi hz hsz hby rfl (by omega) v ls.length _ hs h1 ⟨w.heap.size, 0, none⟩ 1 c [.slice A m k] hx rfl (by
    intro j u hu
    match j, hu with
    | 0, hu =>
      have : (⟨w.heap.size, 0, none⟩ : Addr).add 0 = ⟨w.heap.size, 0, none⟩ := rfl
      rw [this, cellNew]
      simpa using hu
    | j + 1, hu => simp at hu) (by
    intro u hu
    simp at hu
    subst hu
    rfl) (by unfold maxLen; omega) (by omega) (by simp; omega) ?_
  intro v' w' h3 h4 _ h5
  refine hk v' w' ⟨fun i => if i < ls.length then R i else .slice A m k, ?_, fun i hi => ?_⟩ h4
  · have e : (List.range (ls ++ [l]).length).map (fun i => if i < ls.length then R i else Value.slice A m k) = (List.range ls.length).map R ++ [Value.slice A m k] := by
      rw [List.length_append, List.length_singleton, List.range_succ, List.map_append]
      congr 1
      · exact List.map_congr_left fun i hi => if_pos (List.mem_range.1 hi)
      · simp
    rw [e, List.length_append]
    exact h3
  · rw [List.length_append, List.length_singleton] at hi
    by_cases hil : i < ls.length
    · obtain ⟨b1, b2, b3⟩ := h2 i hil
      have e : (ls ++ [l]).getD i [] = ls.getD i [] := by simp [List.getD_eq_getElem?_getD, List.getElem?_append_left hil]
      simp only [hil, if_true]
      rw [e]
      exact ⟨b1.grown b2 h4, b2.later b1 (Nat.le_refl _) h5, b3⟩
    · obtain rfl : i = ls.length := by omega
      have e : (ls ++ [l]).getD ls.length [] = l := by simp [List.getD_eq_getElem?_getD]
      simp only [Nat.lt_irrefl, if_false]
      rw [e]
      exact ⟨(hr.ext hE).grown hcl h4, hcl.later (hr.ext hE) (Nat.le_refl _) h5, hnw⟩
end
end Go.Proofs.YtkfipfhmbhmamaaDoor

namespace Go.Proofs.YtkfipfhmbhmamaaDoor
open Go.RowKit

def mayK (k m : Int) : Bool := decide (1 ≤ k ∧ 0 ≤ m ∧ k ≤ 255 ∧ m ≤ 255 - k)
set_option maxHeartbeats 1000000 in
set_option maxRecDepth 100000 in
theorem refMayK_any (k m : Int) (w : World) (hk : k ≤ 9223372036854775807) :
    Calls Tryd.prog 24 #[.int .i64 k, .int .i64 m] w fun e w' => e = .returned (.bool (mayK k m)) ∧ w = w' := by
  have HM := hide (show mayK k m = decide (1 ≤ k ∧ 0 ≤ m ∧ k ≤ 255 ∧ m ≤ 255 - k) from rfl)
  go_enter Tryd.func24, Tryd.ntmps24
  go_wp2
  all_goals go_ret
  all_goals refine ⟨ret_bool ?_, rfl⟩
  all_goals rw [HM.out]
  all_goals first
    | (symm; exact decide_eq_false (by omega))
    | (rw [Bool.eq_iff_iff]; simp only [decide_eq_true_eq]; omega)

def alike (ls : List (List UInt8)) : Prop := ∀ i, i < ls.length → (ls.getD i []).length = (ls.getD 0 []).length
instance alikeDec (ls : List (List UInt8)) : Decidable (alike ls) := inferInstanceAs (Decidable (∀ i, i < ls.length → _))
set_option maxHeartbeats 1000000 in
set_option maxRecDepth 100000 in
theorem refAlike6_any (A : Option Addr) (c : Nat) (ls : List (List UInt8)) (w : World) (h : RowsAt w w.heap.size A ls.length ls) (hl : ls.length ≤ 1000000) :
    Calls Tryd.prog 47 #[.slice A ls.length c] w fun e w' => e = .returned (.bool (decide (alike ls))) ∧ Ext w w' := by
  go_enter Tryd.func47, Tryd.ntmps47
  go_wp2
  go_loopw [3] (fun i wr => ∃ j : Nat, 1 ≤ j ∧ i = .int .i64 (j : Int) ∧ (∀ a, a < j → a < ls.length → (ls.getD a []).length = (ls.getD 0 []).length) ∧ Ext w wr) (fun i _ => ls.length - (intOf i).toNat)
  case atStart => exact ⟨1, by omega, rfl, fun a ha _ => (by obtain rfl : a = 0 := (by omega); rfl), Ext.refl _⟩
  case round =>
    obtain ⟨j, hj1, rfl, hz, hE⟩ := hrel
    have HZ := hide hz
    clear hz
    by_cases hlt : j < ls.length
    · rcases (h.ext hE).2 with h0 | ⟨b, o, rfl, hB, hcell⟩
      · omega
      obtain ⟨x, k1, Ax, kx, hx, _, hx2, _⟩ := hcell j hlt
      obtain ⟨y, k2, Ay, ky, hy, _, hy2, _⟩ := hcell 0 (by omega)
      rw [Nat.add_zero] at k2
      subst hx
      subst hy
      have hj0 : (0 : Int) ≤ (j : Int) := by omega
      have hj2 : (j : Int) < (ls.length : Int) := by omega
      have h00 : (0 : Int) < (ls.length : Int) := by omega
      obtain ⟨nx, hnx⟩ : ∃ n, n = (ls.getD j []).length := ⟨_, rfl⟩
      obtain ⟨ny, hny⟩ : ∃ n, n = (ls.getD 0 []).length := ⟨_, rfl⟩
      rw [← hnx] at k1
      rw [← hny] at k2
      have HX := hide hnx
      have HY := hide hny
      clear hnx hny hcell h hx2 hy2
      by_cases he : nx = ny
      · have he' : ((nx : Int) != (ny : Int)) = false := by simp; omega
        have HE := hide he
        clear he
        go_wp2_with fail
        go_quiet (fail)
        go_wp2
        go_roundw
        case rel =>
          refine ⟨j + 1, by omega, by go_num, fun a ha hal => ?_, hE.drewN _⟩
          by_cases haj : a = j
          · rw [haj, ← HX.out, ← HY.out, HE.out]
          · exact HZ.out a (by omega) hal
        case measure => simp [intOf]; omega
      · have he' : ((nx : Int) != (ny : Int)) = true := by simp; omega
        have HE := hide he
        clear he
        go_wp2_with fail
        go_quiet (fail)
        go_wp2
        go_ret
        exact ⟨ret_bool (decide_eq_false fun ha => HE.out (by rw [HX.out, HY.out]; exact ha j hlt)).symm, hE.drewN _⟩
    · have hj2 : ¬ ((j : Int) < (ls.length : Int)) := by omega
      clear h
      go_wp2
      go_ret
      exact ⟨ret_bool (decide_eq_true fun a ha => HZ.out a (by omega) ha).symm, hE⟩

end Go.Proofs.YtkfipfhmbhmamaaDoor

namespace Go.Proofs.YtkfipfhmbhmamaaDoor
open Go.RowKit

/-- A matrix, as it reads. -/
structure MV where
  r : Int
  c : Int
  l : List UInt8
instance : Inhabited MV := ⟨⟨0, 0, []⟩⟩
def MV.zero : MV := ⟨0, 0, []⟩
/-- May it be? -/
def MV.may (m : MV) : Bool := decide (0 ≤ m.r ∧ m.r ≤ 255 ∧ 0 ≤ m.c ∧ m.c ≤ 255 ∧ (m.l.length : Int) = m.r * m.c)
/-- The cells of a matrix of c columns, row by row: the first n of them. -/
def cellsOf (c : Nat) (f : Nat → Nat → UInt8) (n : Nat) : List UInt8 := (List.range n).map fun i => f (i / c) (i % c)
theorem cellsOf_succ (c : Nat) (f : Nat → Nat → UInt8) (n : Nat) : cellsOf c f (n + 1) = cellsOf c f n ++ [f (n / c) (n % c)] := by simp [cellsOf, List.range_succ]
theorem cellsOf_len (c : Nat) (f : Nat → Nat → UInt8) (n : Nat) : (cellsOf c f n).length = n := by simp [cellsOf]
theorem cellsOf_zero (c : Nat) (f : Nat → Nat → UInt8) : cellsOf c f 0 = [] := rfl
/-- The value of a matrix whose cells are told by v. -/
def matV (r c : Int) (v : Value) : Value := .agg #[.int .i64 r, .int .i64 c, v]
/-- Behind a call that makes a matrix and tells an error. -/
def MadeM (w : World) (m : MV) (err : Int) (e : Ending) (w' : World) : Prop := ∃ v, e = .returned (.tuple #[matV m.r m.c v, .int .i64 err]) ∧ OwnB w' w.heap.size v m.l ∧ Ext w w'
theorem mat_info : (Tryd.prog.info? 76).map (·.size) = some 3 := by kernel_rfl
/-- The results are a matrix in a block, and what a slot holds. -/
theorem results_mat {fn : Func} {p u : Tmp} (h : fn.results = #[.cell p 76, .tmp u]) (tmps : Array Value) {w : World} {g : Nat} {cs : Array Value} {x : Value} (hp : tmps.getD p undef = .pointer (some ⟨g, 0, none⟩)) (hx : tmps.getD u undef = x)
    (hW : Whole w g 76 cs) (hs : cs.size = 3) : (results fn tmps).run Tryd.prog w = .ok (.tuple #[.agg cs, x]) w := by
  rw [results_cell_tmp h, hp, hx]
  have hl := run_loadVar_row (P := Tryd.prog) w g 76 76 cs (0, 0) _ hW Tryd.underlying76 rfl (by rw [hs]; exact mat_info)
  simp [asAddr, Result.andThen, hl]

set_option maxHeartbeats 1000000 in
set_option maxRecDepth 100000 in
theorem refMay_any (m : MV) (A : Option Addr) (n cap : Nat) (w : World) (hl : m.l.length = n) (hn : n ≤ maxLen) :
    Calls Tryd.prog 75 #[.agg #[.int .i64 m.r, .int .i64 m.c, .slice A n cap]] w fun e w' => e = .returned (.bool m.may) ∧ Ext w w' := by
  obtain ⟨r, c, l⟩ := m
  dsimp only at hl ⊢
  subst hl
  have hE := extNew w (.cells #[.int .i64 r, .int .i64 c, .slice A l.length cap] 76)
  have HM := hide (show MV.may ⟨r, c, l⟩ = decide (0 ≤ r ∧ r ≤ 255 ∧ 0 ≤ c ∧ c ≤ 255 ∧ (l.length : Int) = r * c) from rfl)
  go_enter Tryd.func75, Tryd.ntmps75
  go_wp2
  all_goals go_ret
  all_goals refine ⟨ret_bool ?_, hE⟩
  all_goals rw [HM.out]
  · have h1 : 0 ≤ r * c := Int.mul_nonneg (by assumption) (by assumption)
    have h2 : r * c ≤ 255 * 255 := Int.mul_le_mul (by assumption) (by assumption) (by assumption) (by decide)
    have hw : wrap64 (r * c) = r * c := IntWalk.wrap64_in _ ⟨by omega, by omega⟩
    rw [Bool.eq_iff_iff]
    simp only [hw, beq_iff_eq, decide_eq_true_eq]
    omega
  all_goals (symm; exact decide_eq_false (by omega))
end Go.Proofs.YtkfipfhmbhmamaaDoor

namespace Go.Proofs.YtkfipfhmbhmamaaDoor
open Go.RowKit

/-- A matrix that is being made, in block g: its cells so far. -/
def Made (w : World) (base g : Nat) (r c : Int) (l : List UInt8) : Prop := ∃ v, Whole w g 76 #[.int .i64 r, .int .i64 c, v] ∧ OwnB w base v l
theorem Made.ext {w w' : World} {base g : Nat} {r c : Int} {l : List UInt8} (h : Made w base g r c l) (hE : Ext w w') : Made w' base g r c l := by
  obtain ⟨v, h1, h2⟩ := h
  exact ⟨v, h1.ext hE, h2.ext hE⟩
theorem OwnB.one {w : World} {base : Nat} {v : Value} {l : List UInt8} (h : OwnB w base v l) : v.oneCell' = true := by
  obtain ⟨A, n, c, rfl, _⟩ := h.form'
  rfl
theorem OwnB.cells1 {w : World} {base : Nat} {v : Value} {l : List UInt8} (h : OwnB w base v l) : v.cells = #[v] := by
  obtain ⟨A, n, c, rfl, _⟩ := h.form'
  rfl
theorem mat_one {r c : Int} {v : Value} (h : v.oneCell' = true) : (#[.int .i64 r, .int .i64 c, v] : Array Value).all (·.oneCell') = true := by
  simp [h]
  exact ⟨rfl, rfl⟩
theorem MadeM.zero {w w' : World} (err : Int) (hE : Ext w w') : MadeM w MV.zero err (.returned (.tuple #[.agg #[.int .i64 0, .int .i64 0, .slice none 0 0], .int .i64 err])) w' := ⟨_, rfl, OwnB.nil _ _, hE⟩

/-- The matrix that was made stands in the result. -/
theorem made_end {w wr w5 : World} {base : Nat} {r c : Int} {v : Value} {l : List UInt8} (hE : Ext w wr) (hG : wr.grownBy w5 (some w.heap.size)) (hO : OwnB wr base v l) (hb : w.heap.size + 1 ≤ base) :
    MadeM w ⟨r, c, l⟩ 0 (.returned (.tuple #[.agg #[.int .i64 r, .int .i64 c, v], .int .i64 0])) w5 := by
  have hne : v.ownBlock ≠ some w.heap.size := fun e => by
    have := (hO.lt _ e).1
    omega
  exact ⟨v, rfl, ((Mod.ofRow (ob := none) hG).own hO hne (by simp [Classical.em])).mono (by omega), Below.grown hE hG hE.le (fun k hk => by cases hk; exact Nat.le_refl _)⟩

set_option maxHeartbeats 2000000 in
set_option maxRecDepth 100000 in
theorem refIdentity_any (n : Int) (w : World) :
    Calls Tryd.prog 56 #[.int .i64 n] w (if 0 ≤ n ∧ n ≤ 255 then MadeM w ⟨n, n, cellsOf n.toNat Mat.one (n.toNat * n.toNat)⟩ 0 else MadeM w MV.zero 13) := by
  have hE1 := extNew w (.cells #[.int .i64 0, .int .i64 0, .slice none 0 0] 76)
  have hW1 := Whole.new w 76 #[.int .i64 0, .int .i64 0, .slice none 0 0]
  by_cases hr : 0 ≤ n ∧ n ≤ 255
  · rw [if_pos hr]
    obtain ⟨n, rfl⟩ := Int.eq_ofNat_of_zero_le hr.1
    have hn : n ≤ 255 := by omega
    rw [Int.toNat_natCast]
    have hE2 := extNew (w.alloc (.cells #[.int .i64 0, .int .i64 0, .slice none 0 0] 76)) (.cells #[.int .i64 n, .int .i64 n, .slice none 0 0] 76)
    have hW2 := Whole.new (w.alloc (.cells #[.int .i64 0, .int .i64 0, .slice none 0 0] 76)) 76 #[.int .i64 n, .int .i64 n, .slice none 0 0]
    rw [World.size_alloc] at hW2
    have hb : ¬ ((n : Int) < 0) := by omega
    have hb2 : ¬ ((255 : Int) < (n : Int)) := by omega
    have hnn : n * n ≤ 255 * 255 := Nat.mul_le_mul hn hn
    have hmul : IntKind.i64.wrap ((n : Int) * (n : Int)) = ((n * n : Nat) : Int) := by rw [IntKind.wrap_i64]; rw [← Int.natCast_mul]; omega
    clear hr
    go_enter Tryd.func56, Tryd.ntmps56
    go_wp2_with fail
    go_loopw [5] (fun i wr => ∃ j : Nat, j ≤ n * n ∧ i = .int .i64 (j : Int) ∧ Made wr (w.heap.size + 2) (w.heap.size + 1) n n (cellsOf n Mat.one j) ∧ Whole wr w.heap.size 76 #[.int .i64 0, .int .i64 0, .slice none 0 0] ∧ Ext w wr) (fun i _ => n * n - (intOf i).toNat)
    case atStart => exact ⟨0, by omega, rfl, ⟨_, hW2, OwnB.nil _ _⟩, hW1.ext hE2, hE1.trans hE2⟩
    case round =>
      obtain ⟨j, hj, rfl, ⟨v, hWv, hO⟩, hWr, hE⟩ := hrel
      by_cases hlt : j < n * n
      · have hn0 : 0 < n := by
          rcases Nat.eq_zero_or_pos n with h | h
          · rw [h] at hlt; omega
          · exact h
        have HS := hide (cellsOf_succ n Mat.one j)
        have hone : Mat.one (j / n) (j % n) = if j / n = j % n then 1 else 0 := rfl
        have hone : Mat.one (j / n) (j % n) = if j / n = j % n then 1 else 0 := rfl
        rw [hone] at HS
        have hlen := cellsOf_len n Mat.one j
        have hjb : (j : Int) ≤ 65025 := by omega
        have hfit : (cellsOf n Mat.one j).length + 1 ≤ 140737488355328 := by omega
        have e1 : ((j : Int).tdiv (n : Int)) = ((j / n : Nat) : Int) := by simp [Int.tdiv_eq_ediv_of_nonneg]
        have e2 : ((j : Int).tmod (n : Int)) = ((j % n : Nat) : Int) := by simp [Int.tmod_eq_emod_of_nonneg]
        have hnz : ((n : Int) == 0) = false := by simp; omega
        have ha : ((j / n : Nat) : Int) ≤ 65025 := by
          have := Nat.div_le_self j n
          omega
        generalize j / n = a at *
        generalize j % n = b at *
        clear hone hlen hnn
        have c2 := hWv.at 2 rfl
        by_cases hab : a = b
        · have hab' : ((a : Int) == (b : Int)) = true := by simp; omega
          rw [if_pos hab] at HS
          clear hab
          go_wp2
          go_quiet (fail)
          have hEq : Ext wr (wr.drewN nq) := (Ext.refl wr).drewN nq
          generalize wr.drewN nq = wq at hEq ⊢
          have hEw := hE.trans hEq
          have hWq := hWv.ext hEq
          have hE3 := extNew wq (.cells #[.int .u8 1] 5)
          have hb1 := bytesNew wq [1] #[.int .u8 1] 5 (0, 0) rfl 1 rfl
          have hO1 := (hO.ext hEq).ext hE3
          have hW3 := hWq.ext hE3
          have hlt2 := hWq.lt
          have hB1 : w.heap.size + 2 ≤ (wq.alloc (.cells #[.int .u8 1] 5)).heap.size := by
            have := hE3.le
            omega
          have c2 := hWq.at 2 rfl
          clear hWv hO hWq
          go_wp2_with (first
            | (at_builtin; refine wpList_appAt rfl (.tmp 32) (.tmp 34) rfl rfl hO1 rfl hb1 hfit hB1 ?_; intro v4 w4 hO4 hG4 hN4; have hne : v.ownBlock ≠ some (w.heap.size + 1) := (fun e => (by (have := (hO1.lt _ e).1; omega))); have hW4 := hW3.ownGrown hG4 hne; have o1 := hO4.one; have o2 := hO4.cells1)
            | (refine wpList_storeC rfl 27 (.tmp 36) (.tmp 35) rfl #[.int .i64 n, .int .i64 n, v4] rfl rfl hW4 (by simp) (by kernel_rfl) o1 o2 rfl ?_; intro w5 hW5 hG5))
          go_roundw
          case rel =>
            have hne4 : v4.ownBlock ≠ some (w.heap.size + 1) := fun e => by
              have := (hO4.lt _ e).1
              omega
            have hE4 : Ext w w4 := Below.grown (hEw.trans hE3) hG4 (hEw.trans hE3).le (fun k hk => by have := (hO1.lt k hk).1; omega)
            have hE5 : Ext w w5 := Below.grown hE4 hG5 hE4.le (fun k hk => by cases hk; omega)
            have hWr4 : Whole w4 w.heap.size 76 #[.int .i64 0, .int .i64 0, .slice none 0 0] := (hWr.ext (hEq.trans hE3)).ownGrown hG4 (fun e => by have := (hO1.lt _ e).1; omega)
            exact ⟨j + 1, by omega, by go_num, ⟨v4, hW5, by rw [HS.out]; exact (Mod.ofRow (ob := none) hG5).own hO4 hne4 (by simp [Classical.em])⟩, hWr4.ownGrown hG5 (by simp), hE5⟩
          case measure => simp [intOf]; omega
        · have hab' : ((a : Int) == (b : Int)) = false := by simp; omega
          rw [if_neg hab] at HS
          clear hab
          go_wp2
          go_quiet (fail)
          have hEq : Ext wr (wr.drewN nq) := (Ext.refl wr).drewN nq
          generalize wr.drewN nq = wq at hEq ⊢
          have hEw := hE.trans hEq
          have hWq := hWv.ext hEq
          have hE3 := extNew wq (.cells #[.int .u8 0] 5)
          have hb1 := bytesNew wq [0] #[.int .u8 0] 5 (0, 0) rfl 1 rfl
          have hO1 := (hO.ext hEq).ext hE3
          have hW3 := hWq.ext hE3
          have hlt2 := hWq.lt
          have hB1 : w.heap.size + 2 ≤ (wq.alloc (.cells #[.int .u8 0] 5)).heap.size := by
            have := hE3.le
            omega
          have c2 := hWq.at 2 rfl
          clear hWv hO hWq
          go_wp2_with (first
            | (at_builtin; refine wpList_appAt rfl (.tmp 32) (.tmp 34) rfl rfl hO1 rfl hb1 hfit hB1 ?_; intro v4 w4 hO4 hG4 hN4; have hne : v.ownBlock ≠ some (w.heap.size + 1) := (fun e => (by (have := (hO1.lt _ e).1; omega))); have hW4 := hW3.ownGrown hG4 hne; have o1 := hO4.one; have o2 := hO4.cells1)
            | (refine wpList_storeC rfl 27 (.tmp 36) (.tmp 35) rfl #[.int .i64 n, .int .i64 n, v4] rfl rfl hW4 (by simp) (by kernel_rfl) o1 o2 rfl ?_; intro w5 hW5 hG5))
          go_roundw
          case rel =>
            have hne4 : v4.ownBlock ≠ some (w.heap.size + 1) := fun e => by
              have := (hO4.lt _ e).1
              omega
            have hE4 : Ext w w4 := Below.grown (hEw.trans hE3) hG4 (hEw.trans hE3).le (fun k hk => by have := (hO1.lt k hk).1; omega)
            have hE5 : Ext w w5 := Below.grown hE4 hG5 hE4.le (fun k hk => by cases hk; omega)
            have hWr4 : Whole w4 w.heap.size 76 #[.int .i64 0, .int .i64 0, .slice none 0 0] := (hWr.ext (hEq.trans hE3)).ownGrown hG4 (fun e => by have := (hO1.lt _ e).1; omega)
            exact ⟨j + 1, by omega, by go_num, ⟨v4, hW5, by rw [HS.out]; exact (Mod.ofRow (ob := none) hG5).own hO4 hne4 (by simp [Classical.em])⟩, hWr4.ownGrown hG5 (by simp), hE5⟩
          case measure => simp [intOf]; omega
      · obtain rfl : j = n * n := by omega
        have o1 := hO.one
        go_wp2_with (first
          | (refine wpList_load_row rfl 76 (.tmp 4) rfl _ rfl _ _ _ _ hWv Tryd.underlying76 rfl mat_info ?_)
          | (refine wpList_storeW rfl 76 (.tmp 2) (.tmp 37) rfl rfl rfl hWr rfl mat_info (mat_one o1) ?_; intro w5 hW5 hG5 _))
        refine bodyPost_ret (results_mat rfl _ rfl rfl hW5 rfl) rfl ?_
        exact made_end hE hG5 hO (by omega)
  · rw [if_neg hr]
    by_cases h0 : n < 0
    · clear hr
      go_enter Tryd.func56, Tryd.ntmps56
      go_wp2
      refine bodyPost_ret (results_mat rfl _ rfl rfl hW1 rfl) rfl ?_
      exact MadeM.zero 13 hE1
    · have h1 : (255 : Int) < n := by omega
      clear hr
      go_enter Tryd.func56, Tryd.ntmps56
      go_wp2
      refine bodyPost_ret (results_mat rfl _ rfl rfl hW1 rfl) rfl ?_
      exact MadeM.zero 13 hE1
end Go.Proofs.YtkfipfhmbhmamaaDoor

namespace Go.Proofs.YtkfipfhmbhmamaaDoor
open Go.RowKit

/-- The cell of a matrix. -/
def MV.at (m : MV) : Mat.M := fun i j => m.l.getD (i * m.c.toNat + j) 0
def MV.mulR (a b : MV) : MV := ⟨a.r, b.c, cellsOf b.c.toNat (Mat.mm a.c.toNat a.at b.at) (a.r.toNat * b.c.toNat)⟩
theorem fm_bits (x y : UInt8) : ((Gf.mul x.toNat y.toNat : Nat) : Int) = ((Mat.fm x y).toNat : Int) := by rw [Mat.fm_toNat]
theorem MV.may_iff {m : MV} : m.may = true ↔ 0 ≤ m.r ∧ m.r ≤ 255 ∧ 0 ≤ m.c ∧ m.c ≤ 255 ∧ (m.l.length : Int) = m.r * m.c := by simp [MV.may]

theorem u8_xor_byte8 (x y : UInt8) : bits .xor .u8 (x.toNat : Int) (y.toNat : Int) = (((x ^^^ y).toNat : Nat) : Int) := by rw [u8_xor_nat _ _ x.toNat_lt y.toNat_lt, UInt8.toNat_xor]
theorem MV.may_len {m : MV} (h : m.may = true) : m.l.length ≤ maxLen := by
  obtain ⟨q1, q2, q3, q4, q5⟩ := MV.may_iff.1 h
  have : m.r * m.c ≤ 255 * 255 := Int.mul_le_mul q2 q4 q3 (by decide)
  unfold maxLen
  omega
theorem MV.mulR_may {a b : MV} (ha : a.may = true) (hb : b.may = true) : (a.mulR b).may = true := by
  obtain ⟨a1, a2, a3, a4, a5⟩ := MV.may_iff.1 ha
  obtain ⟨b1, b2, b3, b4, b5⟩ := MV.may_iff.1 hb
  refine MV.may_iff.2 ⟨a1, a2, b3, b4, ?_⟩
  show ((cellsOf _ _ _).length : Int) = _
  rw [cellsOf_len, Int.natCast_mul, Int.toNat_of_nonneg a1, Int.toNat_of_nonneg b3]
  rfl
/-- A matrix that came in: block and capacity of its cells. -/
def MV.arg (m : MV) (A : Option Addr) (k : Nat) : Value := .agg #[.int .i64 m.r, .int .i64 m.c, .slice A m.l.length k]
/-- The cells of a matrix that came in lie in the world, below B. -/
def MV.lies (m : MV) (w : World) (A : Option Addr) (k : Nat) : Prop := Bytes w w.heap.size A m.l.length m.l ∧ m.l.length ≤ maxLen ∧ m.l.length ≤ k
theorem MV.lies.ext {m : MV} {w w' : World} {A : Option Addr} {k : Nat} (h : m.lies w A k) (hE : Ext w w') : m.lies w' A k := ⟨hE.bytes h.1, h.2⟩
def MV.mulE (a b : MV) : MV × Int := if a.may = true ∧ b.may = true ∧ a.c = b.r then (a.mulR b, 0) else (MV.zero, 13)
end Go.Proofs.YtkfipfhmbhmamaaDoor

namespace Go.Proofs.YtkfipfhmbhmamaaDoor
open Go.RowKit

def cauchyF (k : Nat) : Mat.M := fun i j => Mat.fi (UInt8.ofNat (k + i) ^^^ UInt8.ofNat j)
def cauchyE (k m : Int) : MV × Int := if 0 ≤ k ∧ 0 ≤ m ∧ k + m ≤ 255 then (⟨m, k, cellsOf k.toNat (cauchyF k.toNat) (m.toNat * k.toNat)⟩, 0) else (MV.zero, 13)
theorem inv_byte {a : UInt8} (h : a ≠ 0) : Gf.invR a.toNat = ((Mat.fi a).toNat, 0) := by
  have h0 : a.toNat ≠ 0 := fun e => h (Mat.ext8 e)
  unfold Gf.invR Mat.fi
  rw [if_neg h0, UInt8.toNat_ofNat', Nat.mod_eq_of_lt (Gf.inv_lt (Mat.lt a) h0)]

set_option maxHeartbeats 4000000 in
set_option maxRecDepth 100000 in
theorem refCauchy_any (k m : Int) (w : World) :
    Calls Tryd.prog 48 #[.int .i64 k, .int .i64 m] w
      (if 0 ≤ k ∧ 0 ≤ m ∧ k + m ≤ 255 then MadeM w ⟨m, k, cellsOf k.toNat (cauchyF k.toNat) (m.toNat * k.toNat)⟩ 0 else MadeM w MV.zero 13) := by
  have hE1 := extNew w (.cells #[.int .i64 0, .int .i64 0, .slice none 0 0] 76)
  have hW1 := Whole.new w 76 #[.int .i64 0, .int .i64 0, .slice none 0 0]
  by_cases hr : 0 ≤ k ∧ 0 ≤ m ∧ k + m ≤ 255
  · rw [if_pos hr]
    obtain ⟨k, rfl⟩ := Int.eq_ofNat_of_zero_le hr.1
    obtain ⟨m, rfl⟩ := Int.eq_ofNat_of_zero_le hr.2.1
    simp only [Int.toNat_natCast]
    have hkm : k + m ≤ 255 := by omega
    have hE2 := extNew (w.alloc (.cells #[.int .i64 0, .int .i64 0, .slice none 0 0] 76)) (.cells #[.int .i64 m, .int .i64 k, .slice none 0 0] 76)
    have hW2 := Whole.new (w.alloc (.cells #[.int .i64 0, .int .i64 0, .slice none 0 0] 76)) 76 #[.int .i64 m, .int .i64 k, .slice none 0 0]
    rw [World.size_alloc] at hW2
    have s1 : ¬ ((k : Int) < 0) := by omega
    have s2 : ¬ ((m : Int) < 0) := by omega
    have s3 : ¬ ((255 : Int) < (k : Int)) := by omega
    have s4 : ¬ ((255 : Int) < (m : Int)) := by omega
    have s5 : ¬ ((255 : Int) < (k : Int) + (m : Int)) := by omega
    have hmk : m * k ≤ 255 * 255 := Nat.mul_le_mul (by omega) (by omega)
    clear hr
    go_enter Tryd.func48, Tryd.ntmps48
    go_wp2_with fail
    go_loopw [7] (fun i wr => ∃ j : Nat, j ≤ m ∧ i = .int .i64 (j : Int) ∧ Made wr (w.heap.size + 2) (w.heap.size + 1) m k (cellsOf k (cauchyF k) (j * k)) ∧ Whole wr w.heap.size 76 #[.int .i64 0, .int .i64 0, .slice none 0 0] ∧ Ext w wr) (fun i _ => m - (intOf i).toNat)
    case atStart => exact ⟨0, by omega, rfl, ⟨_, hW2, by rw [Nat.zero_mul]; exact OwnB.nil _ _⟩, hW1.ext hE2, hE1.trans hE2⟩
    case round =>
      obtain ⟨i, hi, rfl, hMd, hWr, hE⟩ := hrel
      by_cases hlt : i < m
      · go_wp2_with fail
        go_loopw [8] (fun x wr => ∃ j : Nat, j ≤ k ∧ x = .int .i64 (j : Int) ∧ Made wr (w.heap.size + 2) (w.heap.size + 1) m k (cellsOf k (cauchyF k) (i * k + j)) ∧ Whole wr w.heap.size 76 #[.int .i64 0, .int .i64 0, .slice none 0 0] ∧ Ext w wr) (fun x _ => k - (intOf x).toNat)
        case atStart => exact ⟨0, by omega, rfl, by rw [Nat.add_zero]; exact hMd, hWr, hE⟩
        case round =>
          obtain ⟨j, hj, rfl, ⟨v, hWv, hO⟩, hWr2, hE2'⟩ := hrel
          by_cases hjt : j < k
          · have hx0 : UInt8.ofNat (k + i) ^^^ UInt8.ofNat j ≠ 0 := fun e => by
              have := Mat.ofNat_inj (by omega) (by omega) (Mat.xor_eq_zero e)
              omega
            have hxb : bits .xor .u8 ((k + i : Nat) : Int) (j : Int) = ((UInt8.ofNat (k + i) ^^^ UInt8.ofNat j).toNat : Int) := by
              rw [u8_xor_nat _ _ (by omega) (by omega), UInt8.toNat_xor, UInt8.toNat_ofNat', UInt8.toNat_ofNat', Nat.mod_eq_of_lt (by omega), Nat.mod_eq_of_lt (by omega)]
            have hxb' : bits .xor .u8 ((k : Int) + (i : Int)) (j : Int) = ((UInt8.ofNat (k + i) ^^^ UInt8.ofNat j).toNat : Int) := by rw [← hxb]; rfl
            have hS := cellsOf_succ k (cauchyF k) (i * k + j)
            have hdiv : (i * k + j) / k = i := by
              rw [Nat.mul_comm, Nat.mul_add_div (by omega), Nat.div_eq_of_lt hjt, Nat.add_zero]
            have hmod : (i * k + j) % k = j := by
              rw [Nat.mul_comm, Nat.mul_add_mod, Nat.mod_eq_of_lt hjt]
            rw [hdiv, hmod] at hS
            have hcell : cauchyF k i j = Mat.fi (UInt8.ofNat (k + i) ^^^ UInt8.ofNat j) := rfl
            rw [hcell] at hS
            have hib : i * k + j < m * k := by
              have : (i + 1) * k ≤ m * k := Nat.mul_le_mul_right _ hlt
              rw [Nat.add_mul, Nat.one_mul] at this
              omega
            have hlen := cellsOf_len k (cauchyF k) (i * k + j)
            have hfit : (cellsOf k (cauchyF k) (i * k + j)).length + 1 ≤ 140737488355328 := by omega
            have C := fun W => refInv_any (UInt8.ofNat (k + i) ^^^ UInt8.ofNat j).toNat W (Mat.lt _)
            rw [inv_byte hx0] at C
            have HS := hide hS
            generalize Mat.fi (UInt8.ofNat (k + i) ^^^ UInt8.ofNat j) = bt at *
            generalize UInt8.ofNat (k + i) ^^^ UInt8.ofNat j = xx at *
            have hb1 := bytesNew wr [bt] #[.int .u8 (bt.toNat : Int)] 5 (0, 0) rfl 1 rfl
            have hE4 := extNew wr (.cells #[.int .u8 (bt.toNat : Int)] 5)
            have hO1 := hO.ext hE4
            have hW4 := hWv.ext hE4
            have hlt2 := hWv.lt
            have hB1 : w.heap.size + 2 ≤ (wr.alloc (.cells #[.int .u8 (bt.toNat : Int)] 5)).heap.size := by
              have := hE4.le
              omega
            have c2 := hWv.at 2 rfl
            have b1 : ((k : Int) + (i : Int)) ≤ 255 := by omega
            have b2 : (j : Int) ≤ 255 := by omega
            have b0 : (0 : Int) ≤ (k : Int) + (i : Int) := by omega
            clear hS hdiv hmod hcell hlen hMd hxb hx0
            go_wp2_with (first
              | (go_at_call 68; refine (C _).mono ?_; rintro e w3 ⟨rfl, rfl⟩)
              | (at_builtin; refine wpList_appAt rfl (.tmp 57) (.tmp 59) rfl rfl hO1 rfl hb1 hfit hB1 ?_; intro v4 w4 hO4 hG4 hN4; have hne4 : v.ownBlock ≠ some (w.heap.size + 1) := (fun e => (by (have := (hO1.lt _ e).1; omega))); have hW5 := hW4.ownGrown hG4 hne4; have o1 := hO4.one; have o2 := hO4.cells1)
              | (refine wpList_storeC rfl 27 (.tmp 61) (.tmp 60) rfl #[.int .i64 m, .int .i64 k, v4] rfl rfl hW5 (by simp) (by kernel_rfl) o1 o2 rfl ?_; intro w5 hW6 hG5))
            go_roundw
            case rel =>
              have hne5 : v4.ownBlock ≠ some (w.heap.size + 1) := fun e => by
                have := (hO4.lt _ e).1
                omega
              have hF4 : Ext w w4 := Below.grown (hE2'.trans hE4) hG4 (hE2'.trans hE4).le (fun k hk => by have := (hO1.lt k hk).1; omega)
              have hF5 : Ext w w5 := Below.grown hF4 hG5 hF4.le (fun k hk => by cases hk; omega)
              have hWr4 : Whole w4 w.heap.size 76 #[.int .i64 0, .int .i64 0, .slice none 0 0] := (hWr2.ext hE4).ownGrown hG4 (fun e => by have := (hO1.lt _ e).1; omega)
              exact ⟨j + 1, by omega, by go_num, ⟨v4, hW6, by rw [← Nat.add_assoc, HS.out]; exact (Mod.ofRow (ob := none) hG5).own hO4 hne5 (by simp [Classical.em])⟩, hWr4.ownGrown hG5 (by simp), hF5⟩
            case measure => simp [intOf]; omega
          · obtain rfl : j = k := by omega
            go_wp2
            go_roundw
            case rel => exact ⟨i + 1, by omega, by go_num, ⟨v, hWv, by rw [Nat.add_mul, Nat.one_mul]; exact hO⟩, hWr2, hE2'⟩
            case measure => simp [intOf]; omega
      · obtain rfl : i = m := by omega
        obtain ⟨v, hWv, hO⟩ := hMd
        have o1 := hO.one
        go_wp2_with (first
          | (refine wpList_load_row rfl 76 (.tmp 6) rfl _ rfl _ _ _ _ hWv Tryd.underlying76 rfl mat_info ?_)
          | (refine wpList_storeW rfl 76 (.tmp 4) (.tmp 62) rfl rfl rfl hWr rfl mat_info (mat_one o1) ?_; intro w5 hW5 hG5 _))
        refine bodyPost_ret (results_mat rfl _ rfl rfl hW5 rfl) rfl ?_
        exact made_end hE hG5 hO (by omega)
  · rw [if_neg hr]
    by_cases h1 : k < 0
    · clear hr
      go_enter Tryd.func48, Tryd.ntmps48
      go_wp2
      refine bodyPost_ret (results_mat rfl _ rfl rfl hW1 rfl) rfl ?_
      exact MadeM.zero 13 hE1
    by_cases h2 : m < 0
    · clear hr
      go_enter Tryd.func48, Tryd.ntmps48
      go_wp2
      refine bodyPost_ret (results_mat rfl _ rfl rfl hW1 rfl) rfl ?_
      exact MadeM.zero 13 hE1
    by_cases h3 : (255 : Int) < k
    · clear hr
      go_enter Tryd.func48, Tryd.ntmps48
      go_wp2
      refine bodyPost_ret (results_mat rfl _ rfl rfl hW1 rfl) rfl ?_
      exact MadeM.zero 13 hE1
    by_cases h4 : (255 : Int) < m
    · clear hr
      go_enter Tryd.func48, Tryd.ntmps48
      go_wp2
      refine bodyPost_ret (results_mat rfl _ rfl rfl hW1 rfl) rfl ?_
      exact MadeM.zero 13 hE1
    have h5 : (255 : Int) < k + m := by omega
    clear hr
    go_enter Tryd.func48, Tryd.ntmps48
    go_wp2
    refine bodyPost_ret (results_mat rfl _ rfl rfl hW1 rfl) rfl ?_
    exact MadeM.zero 13 hE1
end Go.Proofs.YtkfipfhmbhmamaaDoor

namespace Go.Proofs.YtkfipfhmbhmamaaDoor
open Go.RowKit

def identityE (n : Int) : MV × Int := if 0 ≤ n ∧ n ≤ 255 then (⟨n, n, cellsOf n.toNat Mat.one (n.toNat * n.toNat)⟩, 0) else (MV.zero, 13)
theorem identity_nat {n : Nat} (hn : n ≤ 255) : identityE n = (⟨n, n, cellsOf n Mat.one (n * n)⟩, 0) := by
  unfold identityE
  rw [if_pos ⟨by omega, by omega⟩]
  rfl
theorem refIdentity_E (n : Int) (W : World) : Calls Tryd.prog 56 #[.int .i64 n] W (MadeM W (identityE n).1 (identityE n).2) := by
  have h := refIdentity_any n W
  unfold identityE
  by_cases hc : 0 ≤ n ∧ n ≤ 255
  · rw [if_pos hc] at h ⊢
    exact h
  · rw [if_neg hc] at h ⊢
    exact h
theorem refCauchy_E (k m : Int) (W : World) : Calls Tryd.prog 48 #[.int .i64 k, .int .i64 m] W (MadeM W (cauchyE k m).1 (cauchyE k m).2) := by
  have h := refCauchy_any k m W
  unfold cauchyE
  by_cases hc : 0 ≤ k ∧ 0 ≤ m ∧ k + m ≤ 255
  · rw [if_pos hc] at h ⊢
    exact h
  · rw [if_neg hc] at h ⊢
    exact h
end Go.Proofs.YtkfipfhmbhmamaaDoor

namespace Go.Proofs.YtkfipfhmbhmamaaDoor
open Go.RowKit

theorem cells_congr {c n : Nat} {f g : Mat.M} (h : ∀ i, i < n → f (i / c) (i % c) = g (i / c) (i % c)) : cellsOf c f n = cellsOf c g n :=
  List.map_congr_left fun i hi => h i (List.mem_range.1 hi)
theorem at_cells {r c : Nat} {f : Mat.M} {i j : Nat} (hi : i < r) (hj : j < c) : (⟨r, c, cellsOf c f (r * c)⟩ : MV).at i j = f i j := by
  have hlt : i * c + j < r * c := by
    have : (i + 1) * c ≤ r * c := Nat.mul_le_mul_right _ hi
    rw [Nat.add_mul, Nat.one_mul] at this
    omega
  have hdiv : (i * c + j) / c = i := by
    rw [Nat.mul_comm, Nat.mul_add_div (by omega), Nat.div_eq_of_lt hj, Nat.add_zero]
  have hmod : (i * c + j) % c = j := by
    rw [Nat.mul_comm, Nat.mul_add_mod, Nat.mod_eq_of_lt hj]
  unfold MV.at cellsOf
  simp only [Int.toNat_natCast]
  rw [List.getD_eq_getElem?_getD, List.getElem?_map, List.getElem?_range hlt]
  simp [hdiv, hmod]
theorem square_congr {n : Nat} {f g : Mat.M} (h : ∀ i j, i < n → j < n → f i j = g i j) : cellsOf n f (n * n) = cellsOf n g (n * n) := by
  refine cells_congr fun i hi => ?_
  have hn : 0 < n := by
    rcases Nat.eq_zero_or_pos n with h0 | h0
    · rw [h0] at hi; omega
    · exact h0
  exact h _ _ (Nat.div_lt_of_lt_mul hi) (Nat.mod_lt _ hn)
theorem square_may {n : Nat} (f : Mat.M) (hn : n ≤ 255) : (⟨n, n, cellsOf n f (n * n)⟩ : MV).may = true :=
  MV.may_iff.2 ⟨by simp, by simp; omega, by simp, by simp; omega, by simp [cellsOf_len]⟩

/-- The inverse of a matrix, where there is one; 14 where it is flat. -/
noncomputable def MV.invE (m : MV) : MV × Int :=
  if m.may = true ∧ m.r = m.c then
    @dite _ (∃ X, Mat.Inv m.r.toNat m.at X) (Classical.propDecidable _) (fun h => (⟨m.r, m.r, cellsOf m.r.toNat h.choose (m.r.toNat * m.r.toNat)⟩, 0)) (fun _ => (MV.zero, 14))
  else (MV.zero, 13)
theorem MV.invE_of {m : MV} (hm : m.may = true) (hr : m.r = m.c) {X : Mat.M} (hX : Mat.Inv m.r.toNat m.at X) : m.invE = (⟨m.r, m.r, cellsOf m.r.toNat X (m.r.toNat * m.r.toNat)⟩, 0) := by
  unfold MV.invE
  have he : ∃ X, Mat.Inv m.r.toNat m.at X := ⟨X, hX⟩
  rw [if_pos ⟨hm, hr⟩, dif_pos he, square_congr (fun i j hi hj => Mat.Inv.only he.choose_spec hX i j hi hj)]
theorem MV.invE_ok {m : MV} (h : m.invE.2 = 0) : ∃ (n : Nat) (X : Mat.M), n ≤ 255 ∧ m.r = n ∧ m.c = n ∧ m.may = true ∧ Mat.Inv n m.at X ∧ m.invE = (⟨n, n, cellsOf n X (n * n)⟩, 0) := by
  by_cases hc : m.may = true ∧ m.r = m.c
  · by_cases he : ∃ X, Mat.Inv m.r.toNat m.at X
    · obtain ⟨X, hX⟩ := he
      have hv := MV.invE_of hc.1 hc.2 hX
      obtain ⟨q1, q2, q3, q4, q5⟩ := MV.may_iff.1 hc.1
      obtain ⟨n, hn⟩ := Int.eq_ofNat_of_zero_le q1
      rw [hn] at hX hv
      exact ⟨n, X, by omega, hn, by rw [← hc.2, hn], hc.1, hX, hv⟩
    · unfold MV.invE at h
      rw [if_pos hc, dif_neg he] at h
      simp at h
  · unfold MV.invE at h
    rw [if_neg hc] at h
    simp at h
/-- The other way round. -/
theorem MV.invE_turn {a b : MV} (ha : a.invE.2 = 0) (hb : b.invE.2 = 0) (hr : a.r = b.r) : (a.mulR b).invE = (b.invE.1.mulR a.invE.1, 0) ∧ a.may = true ∧ b.may = true ∧ a.c = b.r ∧ b.invE.1.may = true ∧ a.invE.1.may = true ∧ b.invE.1.c = a.invE.1.r := by
  obtain ⟨n, X, hn, a1, a2, a3, hX, a4⟩ := MV.invE_ok ha
  obtain ⟨n', Y, _, b1, b2, b3, hY, b4⟩ := MV.invE_ok hb
  obtain rfl : n = n' := by omega
  rw [a4, b4]
  refine ⟨?_, a3, b3, by omega, square_may _ hn, square_may _ hn, rfl⟩
  have hp : a.mulR b = ⟨n, n, cellsOf n (Mat.mm n a.at b.at) (n * n)⟩ := by
    unfold MV.mulR
    rw [a1, a2, b2]
    simp
  rw [hp]
  have hq : ∀ i j, i < n → j < n → (⟨n, n, cellsOf n (Mat.mm n a.at b.at) (n * n)⟩ : MV).at i j = Mat.mm n a.at b.at i j := fun i j hi hj => at_cells hi hj
  have hI : Mat.Inv n (⟨n, n, cellsOf n (Mat.mm n a.at b.at) (n * n)⟩ : MV).at (Mat.mm n Y X) := by
    constructor
    · intro i j hi hj
      rw [Mat.mm_congr (fun k hk => hq i k hi hk) (fun k hk => rfl), Mat.mm_assoc]
      rw [Mat.mm_congr (B' := X) (fun k hk => rfl) (fun k hk => by
        rw [← Mat.mm_assoc, Mat.mm_congr (A' := Mat.one) (B' := X) (fun t ht => hY.1 k t hk ht) (fun t ht => rfl)]
        exact Mat.one_mm X j hk)]
      exact hX.1 i j hi hj
    · intro i j hi hj
      rw [Mat.mm_congr (fun k hk => rfl) (fun k hk => hq k j hk hj), Mat.mm_assoc]
      rw [Mat.mm_congr (B' := b.at) (fun k hk => rfl) (fun k hk => by
        rw [← Mat.mm_assoc, Mat.mm_congr (A' := Mat.one) (B' := b.at) (fun t ht => hX.2 k t hk ht) (fun t ht => rfl)]
        exact Mat.one_mm b.at j hk)]
      exact hY.2 i j hi hj
  have hv := MV.invE_of (m := ⟨n, n, cellsOf n (Mat.mm n a.at b.at) (n * n)⟩) (square_may _ hn) rfl (X := Mat.mm n Y X) (by simpa using hI)
  rw [hv]
  simp only [MV.mulR, Int.toNat_natCast]
  rw [square_congr (n := n) fun i j hi hj => Mat.mm_congr (fun k hk => (at_cells (f := Y) hi hk).symm) (fun k hk => (at_cells (f := X) hk hj).symm)]
end Go.Proofs.YtkfipfhmbhmamaaDoor

namespace Go.Proofs.YtkfipfhmbhmamaaDoor
open Go.RowKit

theorem Huf.list_ext {a b : List Int} (hl : a.length = b.length) (h : ∀ i, i < a.length → a.getD i 0 = b.getD i 0) : a = b := by
  refine List.ext_getElem hl fun i h1 h2 => ?_
  have := h i h1
  rwa [List.getD_eq_getElem?_getD, List.getD_eq_getElem?_getD, List.getElem?_eq_getElem h1, List.getElem?_eq_getElem h2] at this
set_option maxHeartbeats 1000000 in
set_option maxRecDepth 100000 in
theorem refSame9Q_any (A1 A2 : Option Addr) (c1 c2 : Nat) (a b : List Int) (w : World) (h1 : IntsAt w w.heap.size A1 a.length a) (h2 : IntsAt w w.heap.size A2 b.length b) (hn0 : a.length ≤ 140737488355328) :
    Calls Tryd.prog 17 #[.slice A1 a.length c1, .slice A2 b.length c2] w fun e w' => e = .returned (.bool (decide (a = b))) ∧ Qt w w' := by
  by_cases hl : a.length = b.length
  · have HEq := hide (show (∀ i, i < a.length → a.getD i 0 = b.getD i 0) → decide (a = b) = true from fun h => decide_eq_true (Huf.list_ext hl h))
    have HNe := hide (show ∀ i, a.getD i 0 ≠ b.getD i 0 → decide (a = b) = false from fun i h => decide_eq_false fun e => h (by rw [e]))
    have hlb : ((a.length : Int) != (b.length : Int)) = false := by simp; omega
    have HA := hide h1
    have HB := hide h2
    generalize decide (a = b) = res at *
    rw [← hl] at HB ⊢
    generalize a.length = n at *
    clear h1 h2 hl
    go_enter Tryd.func17, Tryd.ntmps17
    go_wp2
    go_loopw [5] (fun x wr => ∃ i : Nat, i ≤ n ∧ x = .int .i64 (i : Int) ∧ (∀ j, j < i → a.getD j 0 = b.getD j 0) ∧ Qt w wr) (fun x _ => n - (intOf x).toNat)
    case atStart => exact ⟨0, by omega, rfl, fun j hj => absurd hj (by omega), Qt.refl _⟩
    case round =>
      obtain ⟨i, hi, rfl, hall, hQ⟩ := hrel
      have HAll := hide hall
      clear hall
      by_cases hlt : i < n
      · have hiI : (i : Int) < (n : Int) := by omega
        rcases (HA.out.later hQ.ext).2 with hn | ⟨b1, o1, rfl, _, hc1⟩
        · omega
        rcases (HB.out.later hQ.ext).2 with hn | ⟨b2, o2, rfl, _, hc2⟩
        · omega
        have e1 := hc1 i hlt
        have e2 := hc2 i hlt
        have hNe := HNe.out i
        clear hc1 hc2
        by_cases he : a.getD i 0 = b.getD i 0
        · have HE := hide he
          obtain ⟨y, hy⟩ : ∃ y, y = b.getD i 0 := ⟨_, rfl⟩
          rw [he, ← hy] at e1
          rw [← hy] at e2
          clear he hNe hy
          go_wp2_with fail
          go_quiet (fail)
          go_wp2
          go_roundw
          case rel => exact ⟨i + 1, by omega, by go_num, fun j hj => (by
            by_cases e : j = i
            · rw [e]; exact HE.out
            · exact HAll.out j (by omega)), hQ.drewN _⟩
          case measure => simp [intOf]; omega
        · have HN := hide (hNe he)
          have heb : (a.getD i 0 != b.getD i 0) = true := by simpa using he
          generalize a.getD i 0 = y1 at *
          generalize b.getD i 0 = y2 at *
          clear hNe he
          go_wp2_with fail
          go_quiet (fail)
          go_wp2
          go_ret
          exact ⟨ret_bool HN.out.symm, hQ.drewN _⟩
      · obtain rfl : n = i := by omega
        have HN := hide (HEq.out HAll.out)
        go_wp2
        go_ret
        exact ⟨ret_bool HN.out.symm, hQ⟩
  · have HN := hide (show decide (a = b) = false from decide_eq_false fun e => hl (by rw [e]))
    have hlb : ((a.length : Int) != (b.length : Int)) = true := by simp; omega
    generalize decide (a = b) = res at *
    clear h1 h2
    go_enter Tryd.func17, Tryd.ntmps17
    go_wp2
    go_ret
    exact ⟨ret_bool HN.out.symm, Qt.refl _⟩
theorem refSame9_any (A1 A2 : Option Addr) (c1 c2 : Nat) (a b : List Int) (w : World) (h1 : IntsAt w w.heap.size A1 a.length a) (h2 : IntsAt w w.heap.size A2 b.length b) (hn0 : a.length ≤ 140737488355328) :
    Calls Tryd.prog 17 #[.slice A1 a.length c1, .slice A2 b.length c2] w fun e w' => e = .returned (.bool (decide (a = b))) ∧ Ext w w' :=
  (refSame9Q_any A1 A2 c1 c2 a b w h1 h2 hn0).mono fun _ _ ⟨h1, h2⟩ => ⟨h1, h2.ext⟩
end Go.Proofs.YtkfipfhmbhmamaaDoor

