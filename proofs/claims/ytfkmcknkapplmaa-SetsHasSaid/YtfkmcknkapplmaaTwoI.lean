/- Two lists of numbers of the call's own, side by side; append of one number, told with where what comes back lies. -/
import Derived.Test.YtfkmcknkapplmaaOwnI
import Derived.Test.YtfkmcknkapplmaaMod
namespace Go.Proofs.Ytfkmcknkapplmaa
open Go.RowKit

theorem appI_run {w : World} (ty : TypeId) {base : Nat} {v : Value} {L : List Int} (hown : OwnI w base v L) {gx c : Nat} {p : Int} (hc : w.cell? ⟨gx, 0, none⟩ = some (.int .i64 p)) (hlen : L.length ≤ 1000000) (hbase : base ≤ w.heap.size) :
    ∃ v' w', (Builtin.append_ #[22, 22] ty #[v, .slice (some ⟨gx, 0, none⟩) 1 c]).run Try.prog w = .ok v' w' ∧ OwnI w' base v' (L ++ [p]) ∧ w.grownBy w' v.ownBlock ∧ NewOb w v.ownBlock v'.ownBlock := by
  obtain ⟨i, hi, hz, hs, hby⟩ := info_parts int_info
  obtain ⟨v', w', hr, h2, h3, _, h5⟩ := run_append_own_at (P := Try.prog) w base 22 ty 3 i _ 1 8 Try.underlying22 hi hz hs hby rfl (by omega) v L.length (L.map (Value.int .i64)) hown
    ⟨gx, 0, none⟩ 1 c [.int .i64 p] rfl (by
      intro j u hu
      match j, hu with
      | 0, hu =>
        have : (⟨gx, 0, none⟩ : Addr).add 0 = ⟨gx, 0, none⟩ := rfl
        rw [this, hc]
        simpa using hu
      | j + 1, hu => simp at hu) (by
      intro u hu
      simp at hu
      subst hu
      rfl) (by unfold maxLen; omega) (by omega) hbase
  refine ⟨v', w', hr, ?_, h3, h5.imp id fun h => ⟨_, h, Nat.le_refl _⟩⟩
  unfold OwnI
  rw [List.length_append, List.map_append]
  exact h2
theorem wpOper_appI {o : Oper} {a : Act} {K : Act → World → Prop} {Q : Exit → Act → World → Prop} {w : World} {base : Nat} {v : Value} {L : List Int} (s x : Operand) (ho : o.op = .call { callee := .builtin .append, args := #[s, x], argTypes := #[22, 22] }) (hs : a.eval s = v)
    (hown : OwnI w base v L) {gx c : Nat} (hx : a.eval x = .slice (some ⟨gx, 0, none⟩) 1 c) {p : Int} (hc : w.cell? ⟨gx, 0, none⟩ = some (.int .i64 p)) (hlen : L.length ≤ 1000000) (hbase : base ≤ w.heap.size)
    (h : ∀ v' w', OwnI w' base v' (L ++ [p]) → w.grownBy w' v.ownBlock → NewOb w v.ownBlock v'.ownBlock → K (a.put o.dst v') w') : Oper.wp Try.prog o a w K Q := by
  obtain ⟨v', w', hr, h2, h3, h4⟩ := appI_run (c := c) o.type hown hc hlen hbase
  unfold Oper.wp execOp
  simp only [ho, resolve, invoke, builtin, Sem.run_bind, Sem.run_pure, Result.andThen_ok, List.map_toArray, List.map_cons, List.map_nil, hs, hx, hr]
  exact h v' w' h2 h3 h4
theorem wpList_appIN {ops : Array Oper} {rest : List Oper} {o : Oper} {a : Act} {Q : Exit → Act → World → Prop} {w : World} {base : Nat} {v : Value} {L : List Int} (hgd : o.guard = none) (s x : Operand) (ho : o.op = .call { callee := .builtin .append, args := #[s, x], argTypes := #[22, 22] }) (hs : a.eval s = v)
    (hown : OwnI w base v L) {gx c : Nat} (hx : a.eval x = .slice (some ⟨gx, 0, none⟩) 1 c) {p : Int} (hc : w.cell? ⟨gx, 0, none⟩ = some (.int .i64 p)) (hlen : L.length ≤ 1000000) (hbase : base ≤ w.heap.size)
    (h : ∀ v' w', OwnI w' base v' (L ++ [p]) → w.grownBy w' v.ownBlock → NewOb w v.ownBlock v'.ownBlock → wpList Try.prog ops Q rest (a.put o.dst v') w') : wpList Try.prog ops Q (o :: rest) a w :=
  wpList_plain hgd fun _ hK => wpOper_appI s x ho hs hown hx hc hlen hbase fun v' w' h1 h2 h3 => hK _ _ (h v' w' h1 h2 h3)

theorem OwnI.at {w : World} {base n c : Nat} {A : Option Addr} {L : List Int} (h : OwnI w base (.slice A n c) L) : IntsAt w w.heap.size A L.length L := by
  obtain ⟨B, d, e, _, h1⟩ := h.form
  injection e with e1 e2 e3
  rw [e1]
  exact h1
/-- Two lists of numbers in blocks of the call's own, from base on, apart. -/
structure TwoI (w : World) (base : Nat) (v1 v2 : Value) (L H : List Int) : Prop where
  one : OwnI w base v1 L
  two : OwnI w base v2 H
  apart : v1.ownBlock = none ∨ v1.ownBlock ≠ v2.ownBlock
section
variable {w w' : World} {base : Nat} {v1 v2 v' : Value} {L H L' H' : List Int}
theorem TwoI.nil (w : World) (base : Nat) : TwoI w base (.slice none 0 0) (.slice none 0 0) [] [] := ⟨OwnI.nil _ _, OwnI.nil _ _, .inl rfl⟩
theorem TwoI.ext (h : TwoI w base v1 v2 L H) (hE : Ext w w') : TwoI w' base v1 v2 L H := ⟨h.one.ext hE, h.two.ext hE, h.apart⟩
theorem TwoI.flip (h : TwoI w base v1 v2 L H) : TwoI w base v2 v1 H L := by
  refine ⟨h.two, h.one, ?_⟩
  cases hv : v2.ownBlock with
  | none => exact .inl rfl
  | some k =>
    refine .inr fun e => ?_
    rcases h.apart with h1 | h1
    · rw [h1] at e; cases e
    · exact h1 (by rw [hv]; exact e.symm)
/-- The first one has grown. -/
theorem TwoI.grow (h : TwoI w base v1 v2 L H) (hO : OwnI w' base v' L') (hG : w.grownBy w' v1.ownBlock) (hN : NewOb w v1.ownBlock v'.ownBlock) : TwoI w' base v' v2 L' H := by
  have hf := h.flip
  refine ⟨hO, World.ownsRow.kept h.two hG ?_, ?_⟩
  · exact hf.apart
  · rcases hN with e | ⟨n, e, hn⟩
    · rw [e]; exact h.apart
    · refine .inr fun e2 => ?_
      rw [e] at e2
      have := h.two.lt n e2.symm
      omega
/-- A block below is stored into. -/
theorem TwoI.below {g : Nat} (h : TwoI w base v1 v2 L H) (hG : w.grownBy w' (some g)) (hg : g < base) : TwoI w' base v1 v2 L H := by
  refine ⟨World.ownsRow.kept h.one hG ?_, World.ownsRow.kept h.two hG ?_, h.apart⟩
  · cases hv : v1.ownBlock with
    | none => simp
    | some k => have := h.one.lt k hv; simp; omega
  · cases hv : v2.ownBlock with
    | none => simp
    | some k => have := h.two.lt k hv; simp; omega
theorem TwoI.ne1 (h : TwoI w base v1 v2 L H) {g : Nat} (hg : g < base) : v1.ownBlock ≠ some g := fun e => by have := h.one.lt g e; omega
theorem TwoI.ne2 (h : TwoI w base v1 v2 L H) {g : Nat} (hg : g < base) : v2.ownBlock ≠ some g := fun e => by have := h.two.lt g e; omega
end
end Go.Proofs.Ytfkmcknkapplmaa
