/- Lists of rows of the call's own, whose rows lie below its memory; two such lists side by side; what Mend's calls tell. -/
import Derived.Test.YtbfkknoeaekajaaRsMath
import Derived.Test.YtbfkknoeaekajaaOwnI
namespace Go.Proofs.Ytbfkknoeaekajaa
open Go.RowKit

theorem rs_calls {n p : Nat} (hnp : n + p ≤ 255) {L : List Nat} (hl : L.length = n) (hd : L.Nodup) (hL : ∀ x ∈ L, x < n + p) :
    ∃ I C S T, identityE n = (I, 0) ∧ cauchyE n p = (C, 0) ∧ stackE [I, C] = (S, 0) ∧ S.pickE (L.map Int.ofNat) = (T, 0) ∧ T.invE = (⟨n, n, cellsOf n (backX n L) (n * n)⟩, 0) ∧ I.l.length ≤ maxLen ∧ C.l.length ≤ maxLen ∧ S.l.length ≤ maxLen ∧ T.l.length ≤ maxLen := by
  have hI := square_may (n := n) Mat.one (by omega)
  have hC := rect_may (r := p) (c := n) (cauchyF n) (by omega) (by omega)
  have hS : (⟨(n + p : Nat), n, cellsOf n Mat.one (n * n) ++ cellsOf n (cauchyF n) (p * n)⟩ : MV).may = true :=
    MV.may_iff.2 ⟨by simp; omega, by simp; omega, by simp, by simp; omega, by simp [cellsOf_len, Int.add_mul]⟩
  have hT := rect_may (r := n) (c := n) ((⟨(n + p : Nat), n, cellsOf n Mat.one (n * n) ++ cellsOf n (cauchyF n) (p * n)⟩ : MV).pickF (L.map Int.ofNat)) (by omega) (by omega)
  have hg : ∀ i, i < n → (L.map Int.ofNat).getD i 0 = ((L.getD i 0 : Nat) : Int) := fun i hi => by simp [List.getD_eq_getElem?_getD, List.getElem?_eq_getElem (show i < L.length by omega)]
  have hgl : ∀ i, i < n → L.getD i 0 < n + p := fun i hi => hL _ (by rw [List.getD_eq_getElem?_getD, List.getElem?_eq_getElem (show i < L.length by omega)]; exact List.getElem_mem _)
  refine ⟨_, ⟨p, n, cellsOf n (cauchyF n) (p * n)⟩, ⟨(n + p : Nat), n, cellsOf n Mat.one (n * n) ++ cellsOf n (cauchyF n) (p * n)⟩, _, identity_nat (by omega), ?_, ?_, ?_, ?_, MV.may_len hI, MV.may_len hC, MV.may_len hS, MV.may_len hT⟩
  · unfold cauchyE
    rw [if_pos ⟨by omega, by omega, by omega⟩]
    simp
  · have e1 : stackE [⟨n, n, cellsOf n Mat.one (n * n)⟩, ⟨p, n, cellsOf n (cauchyF n) (p * n)⟩] = stackGo n 0 [] [⟨n, n, cellsOf n Mat.one (n * n)⟩, ⟨p, n, cellsOf n (cauchyF n) (p * n)⟩] := rfl
    rw [e1, stackGo, if_pos ⟨hI, rfl, by simp; omega⟩, stackGo, if_pos ⟨hC, rfl, by simp; omega⟩, stackGo]
    simp
  · unfold MV.pickE
    rw [if_pos ⟨hS, by rw [List.length_map]; omega, fun i hi => by
      rw [List.length_map] at hi
      rw [hg i (by omega)]
      have := hgl i (by omega)
      exact ⟨by omega, by show ((L.getD i 0 : Nat) : Int) < ((n + p : Nat) : Int); omega⟩⟩]
    unfold MV.pickR
    rw [List.length_map, hl]
    simp
  · have hX := backX_inv (k := n) (L := L) (by omega) hl hd (fun x hx => by have := hL x hx; omega)
    have hT' : Mat.Inv n (⟨n, n, cellsOf n ((⟨(n + p : Nat), n, cellsOf n Mat.one (n * n) ++ cellsOf n (cauchyF n) (p * n)⟩ : MV).pickF (L.map Int.ofNat)) (n * n)⟩ : MV).at (backX n L) := by
      refine inv_congr (fun i j hi hj => ?_) hX
      rw [at_cells hi hj]
      show (⟨(n + p : Nat), n, cellsOf n Mat.one (n * n) ++ cellsOf n (cauchyF n) (p * n)⟩ : MV).at (((L.map Int.ofNat).getD i 0).toNat) j = _
      rw [hg i hi, Int.toNat_natCast]
      exact stack_at (hgl i hi) hj
    exact MV.invE_of hT rfl (X := backX n L) (by simpa using hT')

/-- v's block isn't u's. -/
def Apart (v u : Value) : Prop := ∀ a, v.ownBlock = some a → u.ownBlock ≠ some a
theorem Apart.symm {v u : Value} (h : Apart v u) : Apart u v := fun a h1 h2 => h a h2 h1
theorem Apart.row {v u : Value} (h : Apart v u) : v.ownBlock = none ∨ v.ownBlock ≠ u.ownBlock := by
  cases hv : v.ownBlock with
  | none => exact .inl rfl
  | some a => exact .inr fun e => h a hv e.symm
theorem Apart.next {v v' u : Value} {H : Nat} (h : Apart v u) (hN : v'.ownBlock = v.ownBlock ∨ v'.ownBlock = some H) (hu : ∀ k, u.ownBlock = some k → k < H) : Apart v' u := by
  rintro a h1 h2
  rcases hN with e | e
  · exact h a (by rw [← e, h1]) h2
  · have := hu a h2
    rw [e] at h1
    injection h1 with h1
    omega
/-- v is nil, or lies in a block of the call's own (from base on), and reads as these rows, whose bytes lie below base. -/
structure OwnQ (w : World) (base : Nat) (v : Value) (ls : List (List UInt8)) : Prop where
  own : ∃ R : Nat → Value, w.ownsRow base 35 1 v ls.length ((List.range ls.length).map R) ∧ ∀ i, i < ls.length → RowOf w base (R i) (ls.getD i [])
section
variable {w w' : World} {base : Nat} {v x : Value} {l : List UInt8} {ls : List (List UInt8)}
theorem OwnQ.nil (w : World) (base : Nat) : OwnQ w base (.slice none 0 0) [] := ⟨fun _ => default, World.ownsRow_nil w base _ _, fun i hi => absurd hi (by simp)⟩
theorem OwnQ.lt (h : OwnQ w base v ls) : ∀ k, v.ownBlock = some k → base ≤ k ∧ k < w.heap.size := by
  obtain ⟨R, h1, _⟩ := h.own
  exact h1.lt
theorem RowOf.below {B : Nat} (h : RowOf w B x l) (hb : Below B w w') : RowOf w' B x l := by
  obtain ⟨A, k, h1, h2, h3, h4⟩ := h
  exact ⟨A, k, h1, h2, h3, h4.below hb (Nat.le_refl _)⟩
theorem RowOf.up {B C : Nat} (h : RowOf w B x l) (hb : B ≤ C) : RowOf w C x l := by
  obtain ⟨A, k, h1, h2, h3, h4⟩ := h
  exact ⟨A, k, h1, h2, h3, h4.mono hb⟩
theorem OwnQ.kept (h : OwnQ w base v ls) {ob : Option Nat} (hG : w.grownBy w' ob) (hB : base ≤ w.heap.size) (hob : ∀ k, ob = some k → base ≤ k) (hne : v.ownBlock = none ∨ v.ownBlock ≠ ob) : OwnQ w' base v ls := by
  obtain ⟨R, h1, h2⟩ := h.own
  exact ⟨R, h1.kept hG hne, fun i hi => (h2 i hi).below (Below.grown (Below.refl _ _) hG hB hob)⟩
theorem OwnQ.ext (h : OwnQ w base v ls) (hE : Ext w w') (hB : base ≤ w.heap.size) : OwnQ w' base v ls := h.kept (hE.grown none) hB (fun k hk => by cases hk) (by cases hv : v.ownBlock <;> simp)
theorem OwnQ.toP (h : OwnQ w base v ls) (hB : base ≤ w.heap.size) : OwnP w base v ls := by
  obtain ⟨R, h1, h2⟩ := h.own
  exact ⟨R, h1, fun i hi => ⟨(h2 i hi).up hB, Clear.of (fun k hk => (h1.lt k hk).1) (h2 i hi)⟩⟩
theorem OwnI.kept {L : List Int} (h : OwnI w base v L) {ob : Option Nat} (hG : w.grownBy w' ob) (hne : v.ownBlock = none ∨ v.ownBlock ≠ ob) : OwnI w' base v L := World.ownsRow.kept h hG hne
end
section
variable {o : Oper} {a : Act} {Q : Exit → Act → World → Prop} {w : World} {base : Nat} {v : Value} {ls : List (List UInt8)}
set_option maxRecDepth 100000 in
/-- append of one row, whose slice lies in a block of its own. -/
theorem wpList_appQ {ops : Array Oper} {rest : List Oper} (hgd : o.guard = none) (s x : Operand) (ho : o.op = .call { callee := .builtin .append, args := #[s, x], argTypes := #[22, 22] }) (hs : a.eval s = v) {A : Option Addr} {m k : Nat} {l : List UInt8}
    (h : OwnQ w base v ls) (hr : RowOf w base (.slice A m k) l) {c : Nat} (hx : a.eval x = .slice (some ⟨w.heap.size, 0, none⟩) 1 c) (hlen : ls.length ≤ 1000) (hbase : base ≤ w.heap.size)
    (hk : ∀ v' w', OwnQ w' base v' (ls ++ [l]) → (w.alloc (.cells #[.slice A m k] 35)).grownBy w' v.ownBlock → (v'.ownBlock = v.ownBlock ∨ v'.ownBlock = some (w.heap.size + 1)) → wpList Try.prog ops Q rest (a.put o.dst v') w') :
    wpList Try.prog ops Q (o :: rest) a (w.alloc (.cells #[.slice A m k] 35)) := by
  obtain ⟨i, hi, hz, hsz, hby⟩ := info_parts rw_info
  have hE := extNew w (.cells #[.slice A m k] 35)
  obtain ⟨R, h1, h2⟩ := (h.ext hE hbase).own
  refine wpList_append_own_at _ hgd s x 22 ho base 35 i _ 1 24 Try.underlying22 hi hz hsz hby rfl (by omega) v ls.length _ hs h1 ⟨w.heap.size, 0, none⟩ 1 c [.slice A m k] hx rfl (by
    intro j u hu
    match j, hu with
    | 0, hu =>
      have : (⟨w.heap.size, 0, none⟩ : Addr).add 0 = ⟨w.heap.size, 0, none⟩ := rfl
      rw [this, cellNew]
      simpa using hu
    | j + 1, hu => simp at hu) (by
    intro u hu
    simp at hu
    subst hu
    rfl) (by unfold maxLen; omega) (by omega) (by simp; omega) ?_
  intro v' w' h3 h4 _ h5
  rw [World.size_alloc] at h5
  refine hk v' w' ⟨fun i => if i < ls.length then R i else .slice A m k, ?_, fun i hi => ?_⟩ h4 h5
  · have e : (List.range (ls ++ [l]).length).map (fun i => if i < ls.length then R i else Value.slice A m k) = (List.range ls.length).map R ++ [Value.slice A m k] := by
      rw [List.length_append, List.length_singleton, List.range_succ, List.map_append]
      congr 1
      · exact List.map_congr_left fun i hi => if_pos (List.mem_range.1 hi)
      · simp
    rw [e, List.length_append]
    exact h3
  · have hbel : Below base w w' := Below.grown (belowNew w _ |>.mono hbase) h4 (by rw [World.size_alloc]; omega) (fun k hk => (h1.lt k hk).1)
    rw [List.length_append, List.length_singleton] at hi
    by_cases hil : i < ls.length
    · have e : (ls ++ [l]).getD i [] = ls.getD i [] := by simp [List.getD_eq_getElem?_getD, List.getElem?_append_left hil]
      simp only [hil, if_true]
      rw [e]
      obtain ⟨R', h1', h2'⟩ := h.own
      exact (h2 i hil).below (Below.grown (Below.refl _ _) h4 (by rw [World.size_alloc]; omega) (fun k hk => (h1.lt k hk).1))
    · obtain rfl : i = ls.length := by omega
      have e : (ls ++ [l]).getD ls.length [] = l := by simp [List.getD_eq_getElem?_getD]
      simp only [Nat.lt_irrefl, if_false]
      rw [e]
      exact hr.below hbel
end
section
variable {o : Oper} {a : Act} {Q : Exit → Act → World → Prop} {w : World} {base : Nat} {v : Value} {L : List Int}
/-- append of one number, which lies in a block of its own; where the row then lies. -/
theorem wpList_appI' {ops : Array Oper} {rest : List Oper} (hgd : o.guard = none) (s x : Operand) (ho : o.op = .call { callee := .builtin .append, args := #[s, x], argTypes := #[53, 53] }) (hs : a.eval s = v) (p : Int)
    (hown : OwnI (w.alloc (.cells #[.int .i64 p] 3)) base v L) {c : Nat} (hx : a.eval x = .slice (some ⟨w.heap.size, 0, none⟩) 1 c) (hlen : L.length ≤ 1000) (hbase : base ≤ w.heap.size)
    (h : ∀ v' w', OwnI w' base v' (L ++ [p]) → (w.alloc (.cells #[.int .i64 p] 3)).grownBy w' v.ownBlock → (v'.ownBlock = v.ownBlock ∨ v'.ownBlock = some (w.heap.size + 1)) → wpList Try.prog ops Q rest (a.put o.dst v') w') :
    wpList Try.prog ops Q (o :: rest) a (w.alloc (.cells #[.int .i64 p] 3)) := by
  obtain ⟨i, hi, hz, hsz, hby⟩ := info_parts int_info
  refine wpList_append_own_at _ hgd s x 53 ho base 3 i _ 1 8 Try.underlying53 hi hz hsz hby rfl (by omega) v L.length (L.map (Value.int .i64)) hs hown ⟨w.heap.size, 0, none⟩ 1 c [.int .i64 p] hx rfl (by
    intro j u hu
    match j, hu with
    | 0, hu =>
      have : (⟨w.heap.size, 0, none⟩ : Addr).add 0 = ⟨w.heap.size, 0, none⟩ := rfl
      rw [this, cellNew]
      simpa using hu
    | j + 1, hu => simp at hu) (by
    intro u hu
    simp at hu
    subst hu
    rfl) (by unfold maxLen; omega) (by omega) (by simp; omega) ?_
  intro v' w' h2 h3 _ h5
  rw [World.size_alloc] at h5
  refine h v' w' ?_ h3 h5
  unfold OwnI
  rw [List.length_append, List.map_append]
  exact h2
end
end Go.Proofs.Ytbfkknoeaekajaa
