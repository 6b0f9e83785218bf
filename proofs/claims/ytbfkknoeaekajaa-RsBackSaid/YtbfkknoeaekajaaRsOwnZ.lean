/- Lists of truth values of the call's own. Lists of rows of the call's own, several side by side: no row lies in a block that holds one of the lists. -/
import Derived.Test.YtbfkknoeaekajaaRsMend
import Derived.Laws.OwnMore
import Derived.Maps.AppendAt
namespace Go.Proofs.Ytbfkknoeaekajaa
open Go.RowKit

/-- v is nil, or lies in a block of the call's own, and reads as these truth values. -/
def OwnT (w : World) (base : Nat) (v : Value) (L : List Bool) : Prop := w.ownsRow base 4 1 v L.length (L.map Value.bool)
theorem bool_info : (Try.prog.info? 4).map (fun i => (i.zero, i.size, i.bytes)) = some (some (.bool false), 1, 1) := by kernel_rfl
theorem OwnT.nil (w : World) (base : Nat) : OwnT w base (.slice none 0 0) [] := World.ownsRow_nil w base _ _
theorem OwnT.kept {w w' : World} {base : Nat} {v : Value} {L : List Bool} (h : OwnT w base v L) {ob : Option Nat} (hG : w.grownBy w' ob) (hne : v.ownBlock = none ∨ v.ownBlock ≠ ob) : OwnT w' base v L := World.ownsRow.kept h hG hne
theorem OwnT.ext {w w' : World} {base : Nat} {v : Value} {L : List Bool} (h : OwnT w base v L) (hE : Ext w w') : OwnT w' base v L :=
  World.ownsRow.kept h (hE.grown none) (by cases hv : v.ownBlock <;> simp)
theorem OwnT.lt {w : World} {base : Nat} {v : Value} {L : List Bool} (h : OwnT w base v L) : ∀ k, v.ownBlock = some k → base ≤ k ∧ k < w.heap.size := World.ownsRow.lt h
theorem OwnT.form {w : World} {base : Nat} {v : Value} {L : List Bool} (h : OwnT w base v L) : ∃ A c, v = .slice A L.length c ∧ L.length ≤ c ∧ BoolsAt w w.heap.size A L.length L := by
  have hl := h.lt
  rcases h.2 with ⟨rfl, h0⟩ | ⟨g, cap, cur, rfl, hb, hg, hn, hc, hs, ht⟩
  · exact ⟨none, 0, by rw [h0], by omega, rfl, .inl h0⟩
  · refine ⟨_, cap, rfl, hn, rfl, .inr ⟨g, 0, rfl, (hl g rfl).2, fun i hi => ?_⟩⟩
    have hk := World.ownsRow.cellAt h i (by omega)
    rw [Nat.zero_add, hk]
    simp [hi]
section
variable {o : Oper} {a : Act} {Q : Exit → Act → World → Prop} {w : World} {base : Nat} {v : Value} {L : List Bool}
/-- append of one truth value, which lies in a block of its own. -/
theorem wpList_appT {ops : Array Oper} {rest : List Oper} (hgd : o.guard = none) (s x : Operand) (ho : o.op = .call { callee := .builtin .append, args := #[s, x], argTypes := #[32, 32] }) (hs : a.eval s = v) (p : Bool)
    (hown : OwnT (w.alloc (.cells #[.bool p] 4)) base v L) {c : Nat} (hx : a.eval x = .slice (some ⟨w.heap.size, 0, none⟩) 1 c) (hlen : L.length ≤ 1000) (hbase : base ≤ w.heap.size)
    (h : ∀ v' w', OwnT w' base v' (L ++ [p]) → (w.alloc (.cells #[.bool p] 4)).grownBy w' v.ownBlock → (v'.ownBlock = v.ownBlock ∨ v'.ownBlock = some (w.heap.size + 1)) → wpList Try.prog ops Q rest (a.put o.dst v') w') :
    wpList Try.prog ops Q (o :: rest) a (w.alloc (.cells #[.bool p] 4)) := by
  obtain ⟨i, hi, hz, hsz, hby⟩ := info_parts bool_info
  refine wpList_append_own_at _ hgd s x 32 ho base 4 i _ 1 1 Try.underlying32 hi hz hsz hby rfl (by omega) v L.length (L.map Value.bool) hs hown ⟨w.heap.size, 0, none⟩ 1 c [.bool p] hx rfl (by
    intro j u hu
    match j, hu with
    | 0, hu =>
      have : (⟨w.heap.size, 0, none⟩ : Addr).add 0 = ⟨w.heap.size, 0, none⟩ := rfl
      rw [this, cellNew]
      simpa using hu
    | j + 1, hu => simp at hu) (by
    intro u hu
    simp at hu
    subst hu
    rfl) (by unfold maxLen; omega) (by omega) (by simp; omega) ?_
  intro v' w' h2 h3 _ h5
  rw [World.size_alloc] at h5
  refine h v' w' ?_ h3 h5
  unfold OwnT
  rw [List.length_append, List.map_append]
  exact h2
end
end Go.Proofs.Ytbfkknoeaekajaa

namespace Go.Proofs.Ytbfkknoeaekajaa
open Go.RowKit

/-- No byte of row x lies in one of these blocks. -/
def Clr (Ls : List Nat) (x : Value) : Prop := ∀ A n k, x = .slice A n k → n = 0 ∨ ∀ b off, A = some ⟨b, off, none⟩ → b ∉ Ls
theorem Clr.new {base : Nat} {x : Value} {Ls : List Nat} (h : NewX base x) (hL : ∀ k ∈ Ls, k < base) : Clr Ls x := fun A n k e => (h A n k e).imp_right fun h2 b off e2 e3 => by
  have := hL _ e3
  have := h2 b off e2
  omega
theorem Clr.old {w : World} {base : Nat} {x : Value} {l : List UInt8} {Ls : List Nat} (h : RowOf w base x l) (hL : ∀ k ∈ Ls, base ≤ k) : Clr Ls x := by
  intro A n k e
  obtain ⟨A', k', e', _, _, h4⟩ := h
  rw [e'] at e
  simp only [Value.slice.injEq] at e
  obtain ⟨rfl, rfl, rfl⟩ := e
  rcases h4.2 with h0 | ⟨b, off, rfl, hB, _⟩
  · exact .inl h0
  · refine .inr fun b' off' e2 h => ?_
    simp only [Option.some.injEq, Addr.mk.injEq, and_true] at e2
    obtain ⟨rfl, rfl⟩ := e2
    have := hL _ h
    omega
theorem Clr.more {w : World} {x : Value} {l : List UInt8} {Ls : List Nat} {k : Nat} (hc : Clr Ls x) (h : RowOf w w.heap.size x l) (hk : w.heap.size ≤ k) : Clr (k :: Ls) x := by
  intro A n c e
  have h1 := hc A n c e
  have h2 := Clr.old (Ls := [k]) h (by simpa using hk) A n c e
  rcases h1 with h0 | h1
  · exact .inl h0
  rcases h2 with h0 | h2
  · exact .inl h0
  refine .inr fun b off e2 => ?_
  have a1 := h1 b off e2
  have a2 := h2 b off e2
  simp at a2
  simp [a1, a2]
theorem Clr.clear {x : Value} {Ls : List Nat} (hc : Clr Ls x) {v : Value} (hv : ∀ k, v.ownBlock = some k → k ∈ Ls) : Clear v x := fun A n k e => (hc A n k e).imp_right fun h b off e2 e3 => h b off e2 (hv _ e3)
theorem RowOf.grownZ {w w' : World} {x : Value} {l : List UInt8} {Ls : List Nat} {ob : Option Nat} (hx : RowOf w w.heap.size x l) (hc : Clr Ls x) (hG : w.grownBy w' ob) (hob : ∀ k, ob = some k → k ∈ Ls) : RowOf w' w'.heap.size x l := by
  cases ob with
  | none => exact hx.grown (v := .slice none 0 0) (hc.clear fun k hk => by cases hk) hG
  | some g => exact hx.grown (v := .slice (some ⟨g, 0, none⟩) 0 0) (hc.clear fun k hk => hob k hk) hG
/-- v is nil, or lies in a block of the call's own that is one of these, and reads as these rows, none of which lies in one of these blocks. -/
structure OwnZ (w : World) (base : Nat) (Ls : List Nat) (v : Value) (ls : List (List UInt8)) : Prop where
  own : ∃ R : Nat → Value, w.ownsRow base 35 1 v ls.length ((List.range ls.length).map R) ∧ ∀ i, i < ls.length → RowOf w w.heap.size (R i) (ls.getD i []) ∧ Clr Ls (R i)
  blk : ∀ k, v.ownBlock = some k → k ∈ Ls
section
variable {w w' : World} {base : Nat} {Ls : List Nat} {v x : Value} {l : List UInt8} {ls : List (List UInt8)}
theorem OwnZ.nil (w : World) (base : Nat) (Ls : List Nat) : OwnZ w base Ls (.slice none 0 0) [] := ⟨⟨fun _ => default, World.ownsRow_nil w base _ _, fun i hi => absurd hi (by simp)⟩, fun k hk => by cases hk⟩
theorem OwnZ.toP (h : OwnZ w base Ls v ls) : OwnP w base v ls := by
  obtain ⟨R, h1, h2⟩ := h.own
  exact ⟨R, h1, fun i hi => ⟨(h2 i hi).1, (h2 i hi).2.clear h.blk⟩⟩
theorem OwnZ.lt (h : OwnZ w base Ls v ls) : ∀ k, v.ownBlock = some k → base ≤ k ∧ k < w.heap.size := h.toP.lt
theorem OwnZ.kept (h : OwnZ w base Ls v ls) {ob : Option Nat} (hG : w.grownBy w' ob) (hob : ∀ k, ob = some k → k ∈ Ls) (hne : v.ownBlock = none ∨ v.ownBlock ≠ ob) : OwnZ w' base Ls v ls := by
  obtain ⟨R, h1, h2⟩ := h.own
  exact ⟨⟨R, h1.kept hG hne, fun i hi => ⟨(h2 i hi).1.grownZ (h2 i hi).2 hG hob, (h2 i hi).2⟩⟩, h.blk⟩
theorem OwnZ.ext (h : OwnZ w base Ls v ls) (hE : Ext w w') : OwnZ w' base Ls v ls :=
  h.kept (hE.grown none) (fun k hk => by cases hk) (by cases hv : v.ownBlock <;> simp)
theorem OwnZ.more {k : Nat} (h : OwnZ w base Ls v ls) (hk : w.heap.size ≤ k) : OwnZ w base (k :: Ls) v ls := by
  obtain ⟨R, h1, h2⟩ := h.own
  exact ⟨⟨R, h1, fun i hi => ⟨(h2 i hi).1, (h2 i hi).2.more (h2 i hi).1 hk⟩⟩, fun k hk => List.mem_cons_of_mem _ (h.blk k hk)⟩
theorem OwnZ.trim (h : OwnZ w base Ls v ls) : OwnZ w base (Ls.filter fun k => decide (k < w.heap.size)) v ls := by
  obtain ⟨R, h1, h2⟩ := h.own
  refine ⟨⟨R, h1, fun i hi => ⟨(h2 i hi).1, fun A n k e => ((h2 i hi).2 A n k e).imp_right fun h3 b off e2 h4 => h3 b off e2 ((List.mem_filter.1 h4).1)⟩⟩, fun k hk => ?_⟩
  rw [List.mem_filter]
  exact ⟨h.blk k hk, by simpa using (h1.lt k hk).2⟩
/-- One row put in another's place. -/
theorem OwnZ.set {g n cap j : Nat} (h : OwnZ w base Ls (.slice (some ⟨g, 0, none⟩) n cap) ls) (hj : j < ls.length) (hr : RowOf w w.heap.size x l) (hc : Clr Ls x) :
    OwnZ (w.setCell ⟨g, j, none⟩ x) base Ls (.slice (some ⟨g, 0, none⟩) n cap) (ls.set j l) := by
  obtain ⟨R, h1, h2⟩ := h.own
  have hn : ls.length = n := by
    rcases h1.2 with ⟨h', _⟩ | ⟨g', cap', cur, h', _⟩
    · simp at h'
    · simp only [Value.slice.injEq] at h'
      exact h'.2.1.symm
  subst hn
  obtain ⟨h3, h4⟩ := h1.stored j x
  have hob : ∀ k, some g = some k → k ∈ Ls := fun k hk => h.blk k hk
  refine ⟨⟨fun i => if i = j then x else R i, ?_, fun i hi => ?_⟩, h.blk⟩
  · have e : (List.range (ls.set j l).length).map (fun i => if i = j then x else R i) = ((List.range ls.length).map R).set j x := by
      apply List.ext_getElem?
      intro i
      rw [List.length_set, List.getElem?_set]
      by_cases hi : i < ls.length
      · by_cases hij : j = i
        · subst hij
          simp [hi]
        · have hij' : ¬ i = j := fun e => hij e.symm
          simp [hi, hij, hij']
      · simp [hi]
        intro e
        omega
    rw [e, List.length_set]
    exact h3
  · rw [List.length_set] at hi
    by_cases hij : i = j
    · subst hij
      have e : (ls.set i l).getD i [] = l := by simp [List.getD_eq_getElem?_getD, hi]
      simp only [if_true]
      rw [e]
      exact ⟨hr.grownZ hc h4 hob, hc⟩
    · have hij' : ¬ j = i := fun e => hij e.symm
      have e : (ls.set j l).getD i [] = ls.getD i [] := by rw [List.getD_eq_getElem?_getD, List.getD_eq_getElem?_getD, List.getElem?_set, if_neg hij']
      simp only [hij, if_false]
      rw [e]
      exact ⟨(h2 i hi).1.grownZ (h2 i hi).2 h4 hob, (h2 i hi).2⟩
end
section
variable {o : Oper} {a : Act} {Q : Exit → Act → World → Prop} {w : World} {base : Nat} {Ls : List Nat} {v : Value} {ls : List (List UInt8)}
set_option maxRecDepth 100000 in
/-- append of one row, whose slice lies in a block of its own. -/
theorem wpList_appZ {ops : Array Oper} {rest : List Oper} (hgd : o.guard = none) (s x : Operand) (ho : o.op = .call { callee := .builtin .append, args := #[s, x], argTypes := #[22, 22] }) (hs : a.eval s = v) {A : Option Addr} {m k : Nat} {l : List UInt8}
    (h : OwnZ w base Ls v ls) (hr : RowOf w w.heap.size (.slice A m k) l) (hcl : Clr Ls (.slice A m k)) {c : Nat} (hx : a.eval x = .slice (some ⟨w.heap.size, 0, none⟩) 1 c) (hlen : ls.length ≤ 1000) (hbase : base ≤ w.heap.size)
    (hk : ∀ v' w', OwnZ w' base ((w.heap.size + 1) :: Ls) v' (ls ++ [l]) → (w.alloc (.cells #[.slice A m k] 35)).grownBy w' v.ownBlock → (v'.ownBlock = v.ownBlock ∨ v'.ownBlock = some (w.heap.size + 1)) → wpList Try.prog ops Q rest (a.put o.dst v') w') :
    wpList Try.prog ops Q (o :: rest) a (w.alloc (.cells #[.slice A m k] 35)) := by
  obtain ⟨i, hi, hz, hsz, hby⟩ := info_parts rw_info
  have hE := extNew w (.cells #[.slice A m k] 35)
  obtain ⟨R, h1, h2⟩ := (h.ext hE).own
  refine wpList_append_own_at _ hgd s x 22 ho base 35 i _ 1 24 Try.underlying22 hi hz hsz hby rfl (by omega) v ls.length _ hs h1 ⟨w.heap.size, 0, none⟩ 1 c [.slice A m k] hx rfl (by
    intro j u hu
    match j, hu with
    | 0, hu =>
      have : (⟨w.heap.size, 0, none⟩ : Addr).add 0 = ⟨w.heap.size, 0, none⟩ := rfl
      rw [this, cellNew]
      simpa using hu
    | j + 1, hu => simp at hu) (by
    intro u hu
    simp at hu
    subst hu
    rfl) (by unfold maxLen; omega) (by omega) (by simp; omega) ?_
  intro v' w' h3 h4 _ h5
  rw [World.size_alloc] at h5
  refine hk v' w' ⟨⟨fun i => if i < ls.length then R i else .slice A m k, ?_, fun i hi => ?_⟩, fun k hk => ?_⟩ h4 h5
  · have e : (List.range (ls ++ [l]).length).map (fun i => if i < ls.length then R i else Value.slice A m k) = (List.range ls.length).map R ++ [Value.slice A m k] := by
      rw [List.length_append, List.length_singleton, List.range_succ, List.map_append]
      congr 1
      · exact List.map_congr_left fun i hi => if_pos (List.mem_range.1 hi)
      · simp
    rw [e, List.length_append]
    exact h3
  · rw [List.length_append, List.length_singleton] at hi
    by_cases hil : i < ls.length
    · obtain ⟨b1, b2⟩ := h2 i hil
      have e : (ls ++ [l]).getD i [] = ls.getD i [] := by simp [List.getD_eq_getElem?_getD, List.getElem?_append_left hil]
      simp only [hil, if_true]
      rw [e]
      exact ⟨b1.grownZ b2 h4 h.blk, b2.more b1 (by rw [World.size_alloc]; exact Nat.le_refl _)⟩
    · obtain rfl : i = ls.length := by omega
      have e : (ls ++ [l]).getD ls.length [] = l := by simp [List.getD_eq_getElem?_getD]
      simp only [Nat.lt_irrefl, if_false]
      rw [e]
      exact ⟨(hr.ext hE).grownZ hcl h4 h.blk, hcl.more (hr.ext hE) (by rw [World.size_alloc]; exact Nat.le_refl _)⟩
  · rcases h5 with e | e
    · exact List.mem_cons_of_mem _ (h.blk k (by rw [← e]; exact hk))
    · rw [hk] at e
      injection e with e
      subst e
      exact List.mem_cons_self
end
/-- One truth value put in another's place. -/
theorem OwnT.set {w : World} {base g n cap j : Nat} {L : List Bool} (h : OwnT w base (.slice (some ⟨g, 0, none⟩) n cap) L) (p : Bool) : OwnT (w.setCell ⟨g, j, none⟩ (.bool p)) base (.slice (some ⟨g, 0, none⟩) n cap) (L.set j p) := by
  have hn : L.length = n := by
    rcases h.2 with ⟨h', _⟩ | ⟨g', cap', cur, h', _⟩
    · simp at h'
    · simp only [Value.slice.injEq] at h'
      exact h'.2.1.symm
  subst hn
  have h3 := (World.ownsRow.stored h j (.bool p)).1
  unfold OwnT
  rw [List.length_set, List.map_set]
  exact h3
end Go.Proofs.Ytbfkknoeaekajaa
