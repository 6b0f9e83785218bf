/- Lists of rows of bytes: those that are read, and those of the call's own, whose rows may lie anywhere. The document's May, Same, Alike of chapter 6. -/
import Derived.Test.YtbfkknoeaekajaaMod
import Derived.Test.YtbfkknoeaekajaaConv
import Derived.Laws.OwnMore
import Derived.Maps.AppendAt
import Derived.Deep.QuietTactic
import Derived.BigQuiet
namespace Go.Proofs.Ytbfkknoeaekajaa
open Go.RowKit

/-- x is a slice that reads as these bytes, in memory below B. -/
def RowOf (w : World) (B : Nat) (x : Value) (l : List UInt8) : Prop := ∃ A k, x = .slice A l.length k ∧ l.length ≤ k ∧ k ≤ maxLen ∧ Bytes w B A l.length l
/-- A slice of slices that reads as these rows. -/
def RowsAt (w : World) (B : Nat) (A : Option Addr) (n : Nat) (ls : List (List UInt8)) : Prop :=
  ls.length = n ∧ (n = 0 ∨ ∃ b off, A = some ⟨b, off, none⟩ ∧ b < B ∧ ∀ i, i < n → ∃ x, w.cell? ⟨b, off + i, none⟩ = some x ∧ RowOf w B x (ls.getD i []))
section
variable {w w' : World} {B n : Nat} {x : Value} {l : List UInt8} {A : Option Addr} {ls : List (List UInt8)}
theorem RowOf.ext (h : RowOf w w.heap.size x l) (hE : Ext w w') : RowOf w' w'.heap.size x l := by
  obtain ⟨A, k, h1, h2, h3, h4⟩ := h
  exact ⟨A, k, h1, h2, h3, hE.bytes h4⟩
theorem RowsAt.ext (h : RowsAt w w.heap.size A n ls) (hE : Ext w w') : RowsAt w' w'.heap.size A n ls := by
  refine ⟨h.1, h.2.imp_right ?_⟩
  rintro ⟨b, off, e, hb, hc⟩
  refine ⟨b, off, e, Nat.lt_of_lt_of_le hb hE.le, fun i hi => ?_⟩
  obtain ⟨x, h1, h2⟩ := hc i hi
  exact ⟨x, (hE.cell (i := off + i) hb).trans h1, h2.ext hE⟩
theorem OwnB.row {base : Nat} (h : OwnB w base x l) : RowOf w w.heap.size x l := by
  obtain ⟨A, c, h1, h2, h3, h4⟩ := h.form
  exact ⟨A, c, h1, h2, h3, h4⟩
end

theorem rw_info : (Try.prog.info? 35).map (fun i => (i.zero, i.size, i.bytes)) = some (some (.slice none 0 0), 1, 24) := by kernel_rfl
/-- No byte of row x lies in the block of v. -/
def Clear (v x : Value) : Prop := ∀ A n k, x = .slice A n k → n = 0 ∨ ∀ b off, A = some ⟨b, off, none⟩ → v.ownBlock ≠ some b
/-- v is nil, or lies in a block of the call's own (from base on) that holds no byte of its rows, and reads as these rows. -/
structure OwnP (w : World) (base : Nat) (v : Value) (ls : List (List UInt8)) : Prop where
  own : ∃ R : Nat → Value, w.ownsRow base 35 1 v ls.length ((List.range ls.length).map R) ∧ ∀ i, i < ls.length → RowOf w w.heap.size (R i) (ls.getD i []) ∧ Clear v (R i)
section
variable {w w' : World} {base : Nat} {v x : Value} {l : List UInt8} {ls : List (List UInt8)}
theorem OwnP.nil (w : World) (base : Nat) : OwnP w base (.slice none 0 0) [] := ⟨fun _ => default, World.ownsRow_nil w base _ _, fun i hi => absurd hi (by simp)⟩
theorem OwnP.ext (h : OwnP w base v ls) (hE : Ext w w') : OwnP w' base v ls := by
  obtain ⟨R, h1, h2⟩ := h.own
  exact ⟨R, World.ownsRow.kept h1 (hE.grown none) (by cases hv : v.ownBlock <;> simp), fun i hi => ⟨(h2 i hi).1.ext hE, (h2 i hi).2⟩⟩
theorem OwnP.lt (h : OwnP w base v ls) : ∀ k, v.ownBlock = some k → base ≤ k ∧ k < w.heap.size := by
  obtain ⟨R, h1, _⟩ := h.own
  exact h1.lt
theorem OwnP.mono {b' : Nat} (h : OwnP w base v ls) (hb : b' ≤ base) : OwnP w b' v ls := by
  obtain ⟨R, h1, h2⟩ := h.own
  exact ⟨R, ⟨h1.1, h1.2.elim Or.inl fun ⟨g, cap, cur, hv, hg, r⟩ => Or.inr ⟨g, cap, cur, hv, Nat.le_trans hb hg, r⟩⟩, h2⟩
theorem OwnP.form (h : OwnP w base v ls) : ∃ A c, v = .slice A ls.length c ∧ ls.length ≤ c ∧ c ≤ maxLen ∧ RowsAt w w.heap.size A ls.length ls := by
  obtain ⟨R, h1, h2⟩ := h.own
  have hl := h1.lt
  rcases h1.2 with ⟨rfl, h0⟩ | ⟨g, cap, cur, rfl, hb, hg, hn, hc, hs, ht⟩
  · exact ⟨none, 0, by rw [h0], by omega, by unfold maxLen; omega, rfl, .inl h0⟩
  · refine ⟨_, cap, rfl, hn, hc, rfl, .inr ⟨g, 0, rfl, (hl g rfl).2, fun i hi => ⟨R i, ?_, (h2 i hi).1⟩⟩⟩
    rw [Nat.zero_add, World.ownsRow.cellAt h1 i (by omega)]
    simp [hi]
/-- Rows below the world's end stay clear of a block that is v's, or made later. -/
theorem RowOf.lt (h : RowOf w w.heap.size x l) (hne : l.length ≠ 0) : ∃ b off k, x = .slice (some ⟨b, off, none⟩) l.length k ∧ b < w.heap.size := by
  obtain ⟨A, k, h1, _, _, h4⟩ := h
  rcases h4.2 with h0 | ⟨b, off, rfl, hB, _⟩
  · exact absurd h0 hne
  · exact ⟨b, off, k, h1, hB⟩
theorem Clear.later {v' : Value} {H : Nat} (hc : Clear v x) (hx : RowOf w w.heap.size x l) (hH : w.heap.size ≤ H) (hN : v'.ownBlock = v.ownBlock ∨ v'.ownBlock = some H) : Clear v' x := by
  intro A n k e
  obtain ⟨A', k', e', _, _, h4⟩ := hx
  rw [e'] at e
  simp only [Value.slice.injEq] at e
  obtain ⟨rfl, rfl, rfl⟩ := e
  rcases hc _ _ _ e' with h0 | h1
  · exact .inl h0
  rcases h4.2 with h0 | ⟨b, off, rfl, hB, _⟩
  · exact .inl h0
  · refine .inr fun b' off' e2 => ?_
    simp only [Option.some.injEq, Addr.mk.injEq, and_true] at e2
    obtain ⟨rfl, rfl⟩ := e2
    rcases hN with h | h
    · rw [h]
      exact h1 _ _ rfl
    · rw [h]
      intro e3
      injection e3 with e3
      omega
/-- A row that a block of v's can't hold. -/
theorem Clear.of (hv : ∀ k, v.ownBlock = some k → base ≤ k) (hx : RowOf w base x l) : Clear v x := by
  intro A n k e
  obtain ⟨A', k', e', _, _, h4⟩ := hx
  rw [e'] at e
  simp only [Value.slice.injEq] at e
  obtain ⟨rfl, rfl, rfl⟩ := e
  rcases h4.2 with h0 | ⟨b, off, rfl, hB, _⟩
  · exact .inl h0
  · refine .inr fun b' off' e2 h => ?_
    simp only [Option.some.injEq, Addr.mk.injEq, and_true] at e2
    obtain ⟨rfl, rfl⟩ := e2
    have := hv _ h
    omega
theorem Clear.own {H : Nat} (hx : OwnB w H x l) (hv : ∀ k, v.ownBlock = some k → k < H) : Clear v x := by
  intro A n k e
  rcases hx.2 with ⟨rfl, h0⟩ | ⟨g, cap, cur, rfl, hb, _⟩
  · simp only [Value.slice.injEq] at e
    exact .inl e.2.1.symm
  · refine .inr fun b off e2 h => ?_
    simp only [Value.slice.injEq] at e
    rw [← e.1] at e2
    simp only [Option.some.injEq, Addr.mk.injEq, and_true] at e2
    have := hv _ h
    omega
/-- Rows told by a world that has grown in v's block alone. -/
theorem RowOf.grown (hx : RowOf w w.heap.size x l) (hc : Clear v x) (hG : w.grownBy w' v.ownBlock) : RowOf w' w'.heap.size x l := by
  obtain ⟨A, k, e, h2, h3, h4⟩ := hx
  refine ⟨A, k, e, h2, h3, h4.1, ?_⟩
  rcases hc _ _ _ e with h0 | h1
  · exact .inl h0
  rcases h4.2 with h0 | ⟨b, off, rfl, hB, hcell⟩
  · exact .inl h0
  · refine .inr ⟨b, off, rfl, Nat.lt_of_lt_of_le hB hG.size, fun i hi => ?_⟩
    rw [← hcell i hi]
    exact World.cell?_of_block (a := ⟨b, off + i, none⟩) (hG.block b hB (fun e => h1 b off rfl e.symm))
/-- Rows more: what append leaves. -/
theorem OwnP.app {R : Nat → Value} (h2 : ∀ i, i < ls.length → RowOf w w.heap.size (R i) (ls.getD i []) ∧ Clear v (R i)) {v' : Value} {H : Nat} {ms : List (List UInt8)} {X : Nat → Value} (hX : ∀ i, i < ms.length → RowOf w w.heap.size (X i) (ms.getD i []) ∧ Clear v (X i)) (hH : w.heap.size ≤ H)
    (hO : w'.ownsRow base 35 1 v' (ls.length + ms.length) ((List.range ls.length).map R ++ (List.range ms.length).map X))
    (hG : w.grownBy w' v.ownBlock) (hN : v'.ownBlock = v.ownBlock ∨ v'.ownBlock = some H) : OwnP w' base v' (ls ++ ms) := by
  refine ⟨fun i => if i < ls.length then R i else X (i - ls.length), ?_, fun i hi => ?_⟩
  · have e : (List.range (ls ++ ms).length).map (fun i => if i < ls.length then R i else X (i - ls.length)) = (List.range ls.length).map R ++ (List.range ms.length).map X := by
      apply List.ext_getElem?
      intro i
      rw [List.length_append]
      by_cases hi : i < ls.length
      · rw [List.getElem?_append_left (by simpa using hi)]
        simp [hi, show i < ls.length + ms.length by omega]
      · rw [List.getElem?_append_right (by simpa using Nat.le_of_not_lt hi)]
        by_cases hi2 : i < ls.length + ms.length
        · simp [hi, hi2, show i - ls.length < ms.length by omega]
        · rw [List.getElem?_eq_none (by simp; omega), List.getElem?_eq_none (by simp; omega)]
    rw [e, List.length_append]
    exact hO
  · rw [List.length_append] at hi
    by_cases hil : i < ls.length
    · obtain ⟨a, b⟩ := h2 i hil
      have e : (ls ++ ms).getD i [] = ls.getD i [] := by simp [List.getD_eq_getElem?_getD, List.getElem?_append_left hil]
      simp only [hil, if_true]
      rw [e]
      exact ⟨a.grown b hG, b.later a hH hN⟩
    · obtain ⟨a, b⟩ := hX (i - ls.length) (by omega)
      have e : (ls ++ ms).getD i [] = ms.getD (i - ls.length) [] := by simp [List.getD_eq_getElem?_getD, List.getElem?_append_right (Nat.le_of_not_lt hil)]
      simp only [hil, if_false]
      rw [e]
      exact ⟨a.grown b hG, b.later a hH hN⟩
end

section
variable {o : Oper} {a : Act} {K : Act → World → Prop} {Q : Exit → Act → World → Prop} {w : World} {base : Nat} {v : Value} {ls : List (List UInt8)}
/-- append of one row, whose slice lies in a block of its own. -/
theorem wpList_appP {ops : Array Oper} {rest : List Oper} (hgd : o.guard = none) (s x : Operand) (ho : o.op = .call { callee := .builtin .append, args := #[s, x], argTypes := #[22, 22] }) (hs : a.eval s = v) {A : Option Addr} {m k : Nat} {l : List UInt8}
    (h : OwnP w base v ls) (hr : RowOf w w.heap.size (.slice A m k) l) (hcl : Clear v (.slice A m k)) {c : Nat} (hx : a.eval x = .slice (some ⟨w.heap.size, 0, none⟩) 1 c) (hlen : ls.length ≤ 1000) (hbase : base ≤ w.heap.size)
    (hk : ∀ v' w', OwnP w' base v' (ls ++ [l]) → (w.alloc (.cells #[.slice A m k] 35)).grownBy w' v.ownBlock → wpList Try.prog ops Q rest (a.put o.dst v') w') :
    wpList Try.prog ops Q (o :: rest) a (w.alloc (.cells #[.slice A m k] 35)) := by
  obtain ⟨i, hi, hz, hsz, hby⟩ := info_parts rw_info
  have hE := extNew w (.cells #[.slice A m k] 35)
  obtain ⟨R, h1, h2⟩ := (h.ext hE).own
  refine wpList_append_own_at _ hgd s x 22 ho base 35 i _ 1 24 Try.underlying22 hi hz hsz hby rfl (by omega) v ls.length _ hs h1 ⟨w.heap.size, 0, none⟩ 1 c [.slice A m k] hx rfl (by
    intro j u hu
    match j, hu with
    | 0, hu =>
      have : (⟨w.heap.size, 0, none⟩ : Addr).add 0 = ⟨w.heap.size, 0, none⟩ := rfl
      rw [this, cellNew]
      simpa using hu
    | j + 1, hu => simp at hu) (by
    intro u hu
    simp at hu
    subst hu
    rfl) (by unfold maxLen; omega) (by omega) (by simp; omega) ?_
  intro v' w' h3 h4 _ h5
  refine hk v' w' (OwnP.app (X := fun _ => .slice A m k) h2 (fun i hi => ?_) (Nat.le_refl _) ?_ h4 h5) h4
  · obtain rfl : i = 0 := by simpa using hi
    exact ⟨hr.ext hE, hcl⟩
  · simpa using h3
end
/-- x is empty, or its bytes lie in memory from base on. -/
def NewX (base : Nat) (x : Value) : Prop := ∀ A n k, x = .slice A n k → n = 0 ∨ ∀ b off, A = some ⟨b, off, none⟩ → base ≤ b
theorem NewX.own {w : World} {base : Nat} {x : Value} {l : List UInt8} (h : OwnB w base x l) : NewX base x := by
  intro A n k e
  rcases h.2 with ⟨rfl, h0⟩ | ⟨g, cap, cur, rfl, hb, _⟩
  · simp only [Value.slice.injEq] at e
    exact .inl e.2.1.symm
  · refine .inr fun b off e2 => ?_
    simp only [Value.slice.injEq] at e
    rw [← e.1] at e2
    simp only [Option.some.injEq, Addr.mk.injEq, and_true] at e2
    omega
theorem NewX.mono {b b' : Nat} {x : Value} (h : NewX b x) (hb : b' ≤ b) : NewX b' x := fun A n k e => (h A n k e).imp_right fun h2 b off e2 => Nat.le_trans hb (h2 b off e2)
/-- Rows of memory behind v's block. -/
theorem NewX.clear {base : Nat} {v x : Value} (h : NewX base x) (hv : ∀ k, v.ownBlock = some k → k < base) : Clear v x := fun A n k e => (h A n k e).imp_right fun h2 b off e2 e3 => by
  have := hv _ e3
  have := h2 b off e2
  omega
/-- As OwnP, the rows too made from base on. -/
structure OwnN (w : World) (base : Nat) (v : Value) (ls : List (List UInt8)) : Prop where
  own : ∃ R : Nat → Value, w.ownsRow base 35 1 v ls.length ((List.range ls.length).map R) ∧ ∀ i, i < ls.length → RowOf w w.heap.size (R i) (ls.getD i []) ∧ Clear v (R i) ∧ NewX base (R i)
section
variable {w w' : World} {base : Nat} {v x : Value} {l : List UInt8} {ls : List (List UInt8)}
theorem OwnN.toP (h : OwnN w base v ls) : OwnP w base v ls := by
  obtain ⟨R, h1, h2⟩ := h.own
  exact ⟨R, h1, fun i hi => ⟨(h2 i hi).1, (h2 i hi).2.1⟩⟩
theorem OwnN.nil (w : World) (base : Nat) : OwnN w base (.slice none 0 0) [] := ⟨fun _ => default, World.ownsRow_nil w base _ _, fun i hi => absurd hi (by simp)⟩
theorem OwnN.ext (h : OwnN w base v ls) (hE : Ext w w') : OwnN w' base v ls := by
  obtain ⟨R, h1, h2⟩ := h.own
  exact ⟨R, World.ownsRow.kept h1 (hE.grown none) (by cases hv : v.ownBlock <;> simp), fun i hi => ⟨(h2 i hi).1.ext hE, (h2 i hi).2⟩⟩
theorem OwnN.lt (h : OwnN w base v ls) : ∀ k, v.ownBlock = some k → base ≤ k ∧ k < w.heap.size := h.toP.lt
theorem OwnN.mono {b' : Nat} (h : OwnN w base v ls) (hb : b' ≤ base) : OwnN w b' v ls := by
  obtain ⟨R, h1, h2⟩ := h.own
  exact ⟨R, ⟨h1.1, h1.2.elim Or.inl fun ⟨g, cap, cur, hv, hg, r⟩ => Or.inr ⟨g, cap, cur, hv, Nat.le_trans hb hg, r⟩⟩, fun i hi => ⟨(h2 i hi).1, (h2 i hi).2.1, (h2 i hi).2.2.mono hb⟩⟩
end
section
variable {o : Oper} {a : Act} {K : Act → World → Prop} {Q : Exit → Act → World → Prop} {w : World} {base : Nat} {v : Value} {ls : List (List UInt8)}
set_option maxRecDepth 100000 in
/-- append of one row, whose slice lies in a block of its own. -/
theorem wpList_appN {ops : Array Oper} {rest : List Oper} (hgd : o.guard = none) (s x : Operand) (ho : o.op = .call { callee := .builtin .append, args := #[s, x], argTypes := #[22, 22] }) (hs : a.eval s = v) {A : Option Addr} {m k : Nat} {l : List UInt8}
    (h : OwnN w base v ls) (hr : RowOf w w.heap.size (.slice A m k) l) (hcl : Clear v (.slice A m k)) (hnw : NewX base (.slice A m k)) {c : Nat} (hx : a.eval x = .slice (some ⟨w.heap.size, 0, none⟩) 1 c) (hlen : ls.length ≤ 1000) (hbase : base ≤ w.heap.size)
    (hk : ∀ v' w', OwnN w' base v' (ls ++ [l]) → (w.alloc (.cells #[.slice A m k] 35)).grownBy w' v.ownBlock → wpList Try.prog ops Q rest (a.put o.dst v') w') :
    wpList Try.prog ops Q (o :: rest) a (w.alloc (.cells #[.slice A m k] 35)) := by
  obtain ⟨i, hi, hz, hsz, hby⟩ := info_parts rw_info
  have hE := extNew w (.cells #[.slice A m k] 35)
  obtain ⟨R, h1, h2⟩ := (h.ext hE).own
  refine wpList_append_own_at _ hgd s x 22 ho base 35 i _ 1 24 Try.underlying22 hi hz hsz hby rfl (by omega) v ls.length _ hs h1 ⟨w.heap.size, 0, none⟩ 1 c [.slice A m k] hx rfl (by
    intro j u hu
    match j, hu with
    | 0, hu =>
      have : (⟨w.heap.size, 0, none⟩ : Addr).add 0 = ⟨w.heap.size, 0, none⟩ := rfl
      rw [this, cellNew]
      simpa using hu
    | j + 1, hu => simp at hu) (by
    intro u hu
    simp at hu
    subst hu
    rfl) (by unfold maxLen; omega) (by omega) (by simp; omega) ?_
  intro v' w' h3 h4 _ h5
  refine hk v' w' ⟨fun i => if i < ls.length then R i else .slice A m k, ?_, fun i hi => ?_⟩ h4
  · have e : (List.range (ls ++ [l]).length).map (fun i => if i < ls.length then R i else Value.slice A m k) = (List.range ls.length).map R ++ [Value.slice A m k] := by
      rw [List.length_append, List.length_singleton, List.range_succ, List.map_append]
      congr 1
      · exact List.map_congr_left fun i hi => if_pos (List.mem_range.1 hi)
      · simp
    rw [e, List.length_append]
    exact h3
  · rw [List.length_append, List.length_singleton] at hi
    by_cases hil : i < ls.length
    · obtain ⟨b1, b2, b3⟩ := h2 i hil
      have e : (ls ++ [l]).getD i [] = ls.getD i [] := by simp [List.getD_eq_getElem?_getD, List.getElem?_append_left hil]
      simp only [hil, if_true]
      rw [e]
      exact ⟨b1.grown b2 h4, b2.later b1 (Nat.le_refl _) h5, b3⟩
    · obtain rfl : i = ls.length := by omega
      have e : (ls ++ [l]).getD ls.length [] = l := by simp [List.getD_eq_getElem?_getD]
      simp only [Nat.lt_irrefl, if_false]
      rw [e]
      exact ⟨(hr.ext hE).grown hcl h4, hcl.later (hr.ext hE) (Nat.le_refl _) h5, hnw⟩
end
end Go.Proofs.Ytbfkknoeaekajaa

namespace Go.Proofs.Ytbfkknoeaekajaa
open Go.RowKit

def mayK (k m : Int) : Bool := decide (1 ≤ k ∧ 0 ≤ m ∧ k ≤ 255 ∧ m ≤ 255 - k)
set_option maxHeartbeats 1000000 in
set_option maxRecDepth 100000 in
theorem refMayK_any (k m : Int) (w : World) (hk : k ≤ 9223372036854775807) :
    Calls Try.prog 17 #[.int .i64 k, .int .i64 m] w fun e w' => e = .returned (.bool (mayK k m)) ∧ w = w' := by
  have HM := hide (show mayK k m = decide (1 ≤ k ∧ 0 ≤ m ∧ k ≤ 255 ∧ m ≤ 255 - k) from rfl)
  go_enter Try.func17, Try.ntmps17
  go_wp2
  all_goals go_ret
  all_goals refine ⟨ret_bool ?_, rfl⟩
  all_goals rw [HM.out]
  all_goals first
    | (symm; exact decide_eq_false (by omega))
    | (rw [Bool.eq_iff_iff]; simp only [decide_eq_true_eq]; omega)

def alike (ls : List (List UInt8)) : Prop := ∀ i, i < ls.length → (ls.getD i []).length = (ls.getD 0 []).length
instance (ls : List (List UInt8)) : Decidable (alike ls) := inferInstanceAs (Decidable (∀ i, i < ls.length → _))
set_option maxHeartbeats 1000000 in
set_option maxRecDepth 100000 in
theorem refAlike_any (A : Option Addr) (c : Nat) (ls : List (List UInt8)) (w : World) (h : RowsAt w w.heap.size A ls.length ls) (hl : ls.length ≤ 1000000) :
    Calls Try.prog 23 #[.slice A ls.length c] w fun e w' => e = .returned (.bool (decide (alike ls))) ∧ Ext w w' := by
  go_enter Try.func23, Try.ntmps23
  go_wp2
  go_loopw [3] (fun i wr => ∃ j : Nat, 1 ≤ j ∧ i = .int .i64 (j : Int) ∧ (∀ a, a < j → a < ls.length → (ls.getD a []).length = (ls.getD 0 []).length) ∧ Ext w wr) (fun i _ => ls.length - (intOf i).toNat)
  case atStart => exact ⟨1, by omega, rfl, fun a ha _ => (by obtain rfl : a = 0 := (by omega); rfl), Ext.refl _⟩
  case round =>
    obtain ⟨j, hj1, rfl, hz, hE⟩ := hrel
    have HZ := hide hz
    clear hz
    by_cases hlt : j < ls.length
    · rcases (h.ext hE).2 with h0 | ⟨b, o, rfl, hB, hcell⟩
      · omega
      obtain ⟨x, k1, Ax, kx, hx, _, hx2, _⟩ := hcell j hlt
      obtain ⟨y, k2, Ay, ky, hy, _, hy2, _⟩ := hcell 0 (by omega)
      rw [Nat.add_zero] at k2
      subst hx
      subst hy
      have hj0 : (0 : Int) ≤ (j : Int) := by omega
      have hj2 : (j : Int) < (ls.length : Int) := by omega
      have h00 : (0 : Int) < (ls.length : Int) := by omega
      obtain ⟨nx, hnx⟩ : ∃ n, n = (ls.getD j []).length := ⟨_, rfl⟩
      obtain ⟨ny, hny⟩ : ∃ n, n = (ls.getD 0 []).length := ⟨_, rfl⟩
      rw [← hnx] at k1
      rw [← hny] at k2
      have HX := hide hnx
      have HY := hide hny
      clear hnx hny hcell h hx2 hy2
      by_cases he : nx = ny
      · have he' : ((nx : Int) != (ny : Int)) = false := by simp; omega
        have HE := hide he
        clear he
        go_wp2_with fail
        go_quiet (fail)
        go_wp2
        go_roundw
        case rel =>
          refine ⟨j + 1, by omega, by go_num, fun a ha hal => ?_, hE.drewN _⟩
          by_cases haj : a = j
          · rw [haj, ← HX.out, ← HY.out, HE.out]
          · exact HZ.out a (by omega) hal
        case measure => simp [intOf]; omega
      · have he' : ((nx : Int) != (ny : Int)) = true := by simp; omega
        have HE := hide he
        clear he
        go_wp2_with fail
        go_quiet (fail)
        go_wp2
        go_ret
        exact ⟨ret_bool (decide_eq_false fun ha => HE.out (by rw [HX.out, HY.out]; exact ha j hlt)).symm, hE.drewN _⟩
    · have hj2 : ¬ ((j : Int) < (ls.length : Int)) := by omega
      clear h
      go_wp2
      go_ret
      exact ⟨ret_bool (decide_eq_true fun a ha => HZ.out a (by omega) ha).symm, hE⟩

set_option maxHeartbeats 1000000 in
set_option maxRecDepth 100000 in
theorem refSameP_any (A1 A2 : Option Addr) (c1 c2 : Nat) (ls ms : List (List UInt8)) (w : World) (h1 : RowsAt w w.heap.size A1 ls.length ls) (h2 : RowsAt w w.heap.size A2 ms.length ms) (hl : ls.length ≤ 1000000) :
    Calls Try.prog 20 #[.slice A1 ls.length c1, .slice A2 ms.length c2] w fun e w' => e = .returned (.bool (decide (ls = ms))) ∧ Ext w w' := by
  by_cases hne : ls.length = ms.length
  · have hne' : ((ls.length : Int) != (ms.length : Int)) = false := by simp; omega
    have HQ := hide hne
    clear hne
    go_enter Try.func20, Try.ntmps20
    go_wp2
    go_loopw [5] (fun i wr => ∃ j : Nat, j ≤ ls.length ∧ i = .int .i64 (j : Int) ∧ (∀ a, a < j → ls.getD a [] = ms.getD a []) ∧ Ext w wr) (fun i _ => ls.length - (intOf i).toNat)
    case atStart => exact ⟨0, by omega, rfl, fun a ha => absurd ha (by omega), Ext.refl _⟩
    case round =>
      obtain ⟨j, hj1, rfl, hz, hE⟩ := hrel
      have HZ := hide hz
      clear hz
      by_cases hlt : j < ls.length
      · rcases (h1.ext hE).2 with h0 | ⟨b, o, rfl, hB, hcell⟩
        · omega
        rcases (h2.ext hE).2 with h0 | ⟨b', o', rfl, hB', hcell'⟩
        · have := HQ.out; omega
        obtain ⟨x, k1, Ax, kx, hx, _, _, hx4⟩ := hcell j hlt
        obtain ⟨y, k2, Ay, ky, hy, _, _, hy4⟩ := hcell' j (by have := HQ.out; omega)
        subst hx
        subst hy
        have hj0 : (0 : Int) ≤ (j : Int) := by omega
        have hj2 : (j : Int) < (ls.length : Int) := by omega
        have hj3 : (j : Int) < (ms.length : Int) := by have := HQ.out; omega
        have v1 := fun m => conv_bytes kx (((Ext.refl wr).drewN m).bytes hx4) (fun h => by subst h; rcases hx4.2 with h | ⟨_, _, h, _⟩; exact h; cases h)
        have v2 := fun m => conv_bytes ky (((Ext.refl wr).drewN m).bytes hy4) (fun h => by subst h; rcases hy4.2 with h | ⟨_, _, h, _⟩; exact h; cases h)
        obtain ⟨lx, hlx⟩ : ∃ n, n = ls.getD j [] := ⟨_, rfl⟩
        obtain ⟨ly, hly⟩ : ∃ n, n = ms.getD j [] := ⟨_, rfl⟩
        rw [← hlx] at k1 v1
        rw [← hly] at k2 v2
        have HX := hide hlx
        have HY := hide hly
        clear hlx hly hcell hcell' h1 h2 hx4 hy4
        by_cases he : lx = ly
        · subst he
          go_wp2_with fail
          go_quiet (fail)
          go_wp2
          go_roundw
          case rel =>
            refine ⟨j + 1, by omega, by go_num, fun a ha => ?_, hE.drewN _⟩
            by_cases haj : a = j
            · rw [haj, ← HX.out, ← HY.out]
            · exact HZ.out a (by omega)
          case measure => simp [intOf]; omega
        · have he' : (lx == ly) = false := by simpa using he
          have HE := hide he
          clear he
          go_wp2_with fail
          go_quiet (fail)
          go_wp2
          go_ret
          exact ⟨ret_bool (decide_eq_false fun h => HE.out (by rw [HX.out, HY.out, h])).symm, hE.drewN _⟩
      · obtain rfl : ls.length = j := by omega
        clear h1 h2
        go_wp2
        go_ret
        refine ⟨ret_bool (decide_eq_true ?_).symm, hE⟩
        apply List.ext_getElem?
        intro i
        by_cases hi : i < ls.length
        · have := HZ.out i hi
          have hq := HQ.out
          rw [List.getD_eq_getElem?_getD, List.getD_eq_getElem?_getD, List.getElem?_eq_getElem hi, List.getElem?_eq_getElem (by omega)] at this
          rw [List.getElem?_eq_getElem hi, List.getElem?_eq_getElem (by omega)]
          exact congrArg some this
        · have hq := HQ.out
          rw [List.getElem?_eq_none (by omega), List.getElem?_eq_none (by omega)]
  · have hne' : ((ls.length : Int) != (ms.length : Int)) = true := by simp; omega
    have HN := hide hne
    clear hne h1 h2
    go_enter Try.func20, Try.ntmps20
    go_wp2
    go_ret
    exact ⟨ret_bool (decide_eq_false fun h => HN.out (by rw [h])).symm, Ext.refl _⟩
end Go.Proofs.Ytbfkknoeaekajaa
