/- Words counted out one behind the other; slices of uint16 of the call's own. -/
import Derived.Test.YtabhemmmefefgaaCanMath
import Derived.Test.YtabhemmmefefgaaMod
import Derived.Laws.OwnMore
import Derived.Maps.AppendAt
namespace Go.Proofs.Ytabhemmmefefgaa.Can
open Len

/-- Symbol t's word is told, where symbol s of length k is the next one. -/
def done (l : List UInt8) (k s t : Nat) : Prop := lenAt l t ≠ 0 ∧ (lenAt l t < k ∨ lenAt l t = k ∧ t < s)
/-- What is counted. -/
structure Words (l : List UInt8) (k s nx was : Nat) (any : Bool) (O : List Nat) : Prop where
  len : O.length = l.length
  told : ∀ t, t < l.length → done l k s t → O.getD t 0 = word l t
  none : ∀ t, t < l.length → ¬ done l k s t → O.getD t 0 = 0
  no : any = false → acc l k s = 0 ∧ nx = 0
  yes : any = true → (nx + 1) * 2 ^ (15 - was) = acc l k s ∧ 1 ≤ was ∧ was ≤ k
section
variable {l : List UInt8} {k s nx was : Nat} {any : Bool} {O : List Nat}
theorem Words.start : Words l 1 0 0 0 false (List.replicate l.length 0) where
  len := by simp
  told := fun t _ h => by unfold done at h; omega
  none := fun t ht _ => by simp [List.getD_eq_getElem?_getD, ht]
  no := fun _ => ⟨acc_start l, rfl⟩
  yes := fun h => by cases h
theorem Words.turn (h : Words l k l.length nx was any O) : Words l (k + 1) 0 nx was any O where
  len := h.len
  told := fun t ht hd => h.told t ht (by unfold done at *; omega)
  none := fun t ht hd => h.none t ht (by unfold done at *; omega)
  no := fun e => by rw [acc_turn]; exact h.no e
  yes := fun e => by rw [acc_turn]; have := h.yes e; exact ⟨this.1, this.2.1, by omega⟩
theorem Words.pass (h : Words l k s nx was any O) (hk : 1 ≤ k) (hs : s < l.length) (hne : lenAt l s ≠ k) : Words l k (s + 1) nx was any O where
  len := h.len
  told := fun t ht hd => h.told t ht (by
    unfold done at *
    refine ⟨hd.1, ?_⟩
    rcases hd.2 with e | e
    · exact .inl e
    · by_cases e2 : t = s
      · subst e2; omega
      · exact .inr ⟨e.1, by omega⟩)
  none := fun t ht hd => h.none t ht (by unfold done at *; omega)
  no := fun e => by rw [acc_step l hk hs, if_neg hne]; exact h.no e
  yes := fun e => by rw [acc_step l hk hs, if_neg hne]; exact h.yes e
/-- The next word. -/
def nextW (any : Bool) (nx was k : Nat) : Nat := if any then (nx + 1) * 2 ^ (k - was) else nx
theorem Words.next (h : Words l k s nx was any O) (hk : 1 ≤ k) (hk15 : k ≤ 15) (hs : lenAt l s = k) : nextW any nx was k = word l s ∧ nextW any nx was k * 2 ^ (15 - k) = acc l k s := by
  have h1 : nextW any nx was k * 2 ^ (15 - k) = acc l k s := by
    unfold nextW
    cases any with
    | false =>
      obtain ⟨h2, h3⟩ := h.no rfl
      rw [h2, h3]
      simp
    | true =>
      obtain ⟨h2, h3, h4⟩ := h.yes rfl
      rw [if_pos rfl, ← h2, Nat.mul_assoc, ← Nat.pow_add, show k - was + (15 - k) = 15 - was by omega]
  refine ⟨?_, h1⟩
  unfold word
  rw [if_neg (by omega), hs, ← h1, Nat.mul_div_cancel _ (Nat.pow_pos (by omega))]
theorem Words.put (h : Words l k s nx was any O) (hk : 1 ≤ k) (hk15 : k ≤ 15) (hls : s < l.length) (hs : lenAt l s = k) : Words l k (s + 1) (nextW any nx was k) k true (O.set s (nextW any nx was k)) := by
  obtain ⟨h1, h2⟩ := h.next hk hk15 hs
  refine ⟨by rw [List.length_set, h.len], fun t ht hd => ?_, fun t ht hd => ?_, (fun e => by cases e), fun _ => ⟨?_, hk, Nat.le_refl _⟩⟩
  · by_cases e : s = t
    · subst e
      rw [List.getD_eq_getElem?_getD, List.getElem?_set_self (by rw [h.len]; exact ht), Option.getD_some, h1]
    · rw [List.getD_eq_getElem?_getD, List.getElem?_set_ne e, ← List.getD_eq_getElem?_getD]
      exact h.told t ht (by unfold done at *; omega)
  · have e : s ≠ t := fun e => hd (by subst e; unfold done; omega)
    rw [List.getD_eq_getElem?_getD, List.getElem?_set_ne e, ← List.getD_eq_getElem?_getD]
    exact h.none t ht (by unfold done at *; omega)
  · rw [acc_step l hk hls, if_pos hs, Nat.add_mul, h2, Nat.one_mul]
theorem Words.small (h : Words l k s nx was any O) (hr : right l = true) : nx < 32768 := by
  cases any with
  | false => rw [(h.no rfl).2]; decide
  | true =>
    have h1 := (h.yes rfl).1
    have h2 := acc_le l k s
    have h3 := (right_facts hr).2.2
    have h4 : 0 < 2 ^ (15 - was) := Nat.pow_pos (by omega)
    have h5 : (nx + 1) * 1 ≤ (nx + 1) * 2 ^ (15 - was) := Nat.mul_le_mul_left _ h4
    omega
theorem Words.all (h : Words l 16 0 nx was any O) (hr : right l = true) : O = codesL l := by
  have h15 := (right_facts hr).2.1
  refine List.ext_getElem (by rw [h.len]; simp [codesL]) fun t h1 h2 => ?_
  have ht : t < l.length := by rw [← h.len]; exact h1
  have e1 : (codesL l)[t] = word l t := by simp [codesL]
  rw [e1]
  have e2 : O[t] = O.getD t 0 := by rw [List.getD_eq_getElem?_getD, List.getElem?_eq_getElem h1]; rfl
  rw [e2]
  by_cases h0 : lenAt l t = 0
  · rw [h.none t ht (by unfold done; omega)]
    unfold word
    rw [if_pos h0]
  · exact h.told t ht (by have := h15 t ht; unfold done; omega)
end
end Go.Proofs.Ytabhemmmefefgaa.Can
namespace Go.Proofs.Ytabhemmmefefgaa
open Go.RowKit

def h16V (x : Nat) : Value := .int .u16 (x : Int)
/-- v is nil, or lies in a block of the call's own, and reads as these numbers of 16 bits. -/
def OwnH (w : World) (base : Nat) (v : Value) (L : List Nat) : Prop := w.ownsRow base 30 1 v L.length (L.map h16V)
theorem h16_info : (Try.prog.info? 30).map (fun i => (i.zero, i.size, i.bytes)) = some (some (.int .u16 0), 1, 2) := by kernel_rfl
section
variable {w w' : World} {base g n c : Nat} {v : Value} {L : List Nat}
theorem OwnH.nil (w : World) (base : Nat) : OwnH w base (.slice none 0 0) [] := World.ownsRow_nil w base _ _
theorem OwnH.ext (h : OwnH w base v L) (hE : Ext w w') : OwnH w' base v L := World.ownsRow.kept h (hE.grown none) (by cases hv : v.ownBlock <;> simp)
theorem OwnH.lt (h : OwnH w base v L) : ∀ k, v.ownBlock = some k → base ≤ k ∧ k < w.heap.size := World.ownsRow.lt h
theorem OwnH.mono {b' : Nat} (h : OwnH w base v L) (hb : b' ≤ base) : OwnH w b' v L := ⟨h.1, h.2.imp_right fun ⟨g, cap, cur, e, hg, r⟩ => ⟨g, cap, cur, e, Nat.le_trans hb hg, r⟩⟩
theorem OwnH.form (h : OwnH w base v L) : ∃ A c, v = .slice A L.length c ∧ L.length ≤ c ∧ c ≤ maxLen ∧ (L.length = 0 ∨ ∃ g, A = some ⟨g, 0, none⟩ ∧ base ≤ g ∧ g < w.heap.size) := by
  rcases h.2 with ⟨rfl, h0⟩ | ⟨g, cap, cur, rfl, hb, hg, hn, hc, hs, ht⟩
  · exact ⟨none, 0, by rw [h0], by omega, by unfold maxLen; omega, .inl h0⟩
  · exact ⟨_, cap, rfl, hn, hc, .inr ⟨g, rfl, hb, (Array.getElem?_eq_some_iff.1 hg).1⟩⟩
theorem OwnH.cell (h : OwnH w base (.slice (some ⟨g, 0, none⟩) L.length c) L) {i : Nat} (hi : i < L.length) :
    w.cell? ⟨g, i, none⟩ = some (.int .u16 ((L.getD i 0 : Nat) : Int)) ∧ w.frozen? ⟨g, i, none⟩ = false := by
  refine ⟨?_, World.ownsRow.frozenAt h i⟩
  rw [World.ownsRow.cellAt h i (by omega)]
  simp [h16V, hi]
theorem OwnH.set (h : OwnH w base (.slice (some ⟨g, 0, none⟩) L.length c) L) (i x : Nat) :
    OwnH (w.setCell ⟨g, i, none⟩ (.int .u16 (x : Int))) base (.slice (some ⟨g, 0, none⟩) L.length c) (L.set i x) := by
  have := (World.ownsRow.stored h i (.int .u16 (x : Int))).1
  unfold OwnH
  rw [List.length_set, List.map_set]
  exact this
end
section
variable {o : Oper} {a : Act} {Q : Exit → Act → World → Prop} {w : World} {base : Nat} {v : Value} {L : List Nat}
/-- append of one number, which lies in a block of its own. -/
theorem wpList_appH {ops : Array Oper} {rest : List Oper} (hgd : o.guard = none) (s x : Operand) (ho : o.op = .call { callee := .builtin .append, args := #[s, x], argTypes := #[27, 27] }) (hs : a.eval s = v) (p : Nat)
    (hown : OwnH (w.alloc (.cells #[.int .u16 (p : Int)] 30)) base v L) {c : Nat} (hx : a.eval x = .slice (some ⟨w.heap.size, 0, none⟩) 1 c) (hlen : L.length ≤ 1000) (hbase : base ≤ w.heap.size)
    (h : ∀ v' w', OwnH w' base v' (L ++ [p]) → (w.alloc (.cells #[.int .u16 (p : Int)] 30)).grownBy w' v.ownBlock → wpList Try.prog ops Q rest (a.put o.dst v') w') :
    wpList Try.prog ops Q (o :: rest) a (w.alloc (.cells #[.int .u16 (p : Int)] 30)) := by
  obtain ⟨i, hi, hz, hsz, hby⟩ := info_parts h16_info
  refine wpList_append_own_at _ hgd s x 27 ho base 30 i _ 1 2 Try.underlying27 hi hz hsz hby rfl (by omega) v L.length (L.map h16V) hs hown ⟨w.heap.size, 0, none⟩ 1 c [.int .u16 (p : Int)] hx rfl (by
    intro j u hu
    match j, hu with
    | 0, hu =>
      have : (⟨w.heap.size, 0, none⟩ : Addr).add 0 = ⟨w.heap.size, 0, none⟩ := rfl
      rw [this, cellNew]
      simpa using hu
    | j + 1, hu => simp at hu) (by
    intro u hu
    simp at hu
    subst hu
    rfl) (by unfold maxLen; omega) (by omega) (by simp; omega) ?_
  intro v' w' h2 h3 _ h5
  refine h v' w' ?_ h3
  unfold OwnH
  rw [List.length_append, List.map_append]
  exact h2
end
end Go.Proofs.Ytabhemmmefefgaa
