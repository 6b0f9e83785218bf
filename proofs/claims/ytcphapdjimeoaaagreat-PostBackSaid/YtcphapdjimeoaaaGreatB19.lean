/- A set of texts of a call's own: a map from texts to nothing. -/
import Derived.Test.YtcphapdjimeoaaaGreatB03
import Derived.Maps.OwnSet
import Derived.Maps.Views
import Derived.Sort.KeysCollected
import Derived.StringKeys
namespace Go.Proofs.YtcphapdjimeoaaaGreat
open Go.RowKit

theorem str_law : Maps.Keyed Tryz.prog 9 := Maps.string_keyed Tryz.underlying9
theorem str_key {k : List UInt8} (hk : k.length ≤ 1000) : keyOf Tryz.prog 9 (.string ⟨k.toArray⟩) = some (.string k) := by
  have := WideMaps.keyOf_string_mk (P := Tryz.prog) Tryz.underlying9 (s := ⟨k.toArray⟩) (by show (ByteArray.mk k.toArray).size ≤ maxLen; unfold maxLen; simp [ByteArray.size]; omega)
  simpa using this
/-- Block m holds a set of just these texts. -/
def MapS (w : World) (m : Nat) (L : List (List UInt8)) : Prop :=
  ∃ D : DataW Unit, w.ownsMap Tryz.prog 9 unitElem m L.length D ∧ ∀ x : List UInt8, Maps.has D (.string x) = decide (x ∈ L)
theorem MapS.made (w : World) : MapS (w.alloc (.map #[] 0)) w.heap.size [] := ⟨_, World.ownsMap_made w _ _ _, fun x => by simp [Maps.has]⟩
theorem MapS.kept {w w' : World} {m : Nat} {L : List (List UInt8)} {row : Option Nat} (h : MapS w m L) (hg : w.grownBy w' row) (hr : some m ≠ row) : MapS w' m L := by
  obtain ⟨D, h1, h2⟩ := h
  exact ⟨D, h1.kept hg hr, h2⟩
theorem MapS.ext {w w' : World} {m : Nat} {L : List (List UInt8)} (h : MapS w m L) (hE : Ext w w') : MapS w' m L := h.kept (hE.grown none) (by simp)
theorem MapS.lt {w : World} {m : Nat} {L : List (List UInt8)} (h : MapS w m L) : m < w.heap.size := by
  obtain ⟨D, h1, _⟩ := h
  exact h1.lt
/-- 'm[k] = struct{}{}'. -/
theorem wpList_putS {w : World} {ops : Array Oper} {rest : List Oper} {o : Oper} {a : Act} {Q : Exit → Act → World → Prop} {b : Nat} {L : List (List UInt8)} (hg : o.guard = none) (m x v : Operand) (hop : o.op = Op.mapUpdate 104 m x v) (hm : a.eval m = .map (some b)) (hown : MapS w b L) (hn : L.length ≤ 1000000)
    {k : List UInt8} (hk : k.length ≤ 1000) (hx : a.eval x = .string ⟨k.toArray⟩) (hv : a.eval v = .agg #[])
    (hK : ∀ w', MapS w' b (L ++ [k]) → w.grownBy w' (some b) → wpList Tryz.prog ops Q rest (a.put o.dst undef) w') : wpList Tryz.prog ops Q (o :: rest) a w := by
  obtain ⟨D, h1, h2⟩ := hown
  refine wpList_mapUpdate_own w hg m x v 104 hop 9 106 str_law Tryz.underlying104 _ b L.length D hm h1 (by unfold maxLen; omega) _ _ _ hx hv (str_key hk) _ [] unitElem_mk ?_
  intro w' h3 hg3
  refine hK w' ⟨_, by rw [List.length_append]; exact h3, fun x => ?_⟩ hg3
  by_cases e : x = k
  · subst e
    rw [Maps.has_put_same h1.isMap (str_law.key (str_key hk))]
    exact (decide_eq_true (by simp)).symm
  · rw [Maps.has_put_other (by simpa using e), h2 x]
    have : x ∈ L ++ [k] ↔ x ∈ L := by simp [e]
    rw [decide_eq_decide]
    exact this.symm
end Go.Proofs.YtcphapdjimeoaaaGreat

