/- An index built record by record, term by term. -/
import Derived.Test.YtcphapdjimeoaaaGreatB02
import Derived.Test.YtcphapdjimeoaaaGreatB15
import Derived.Test.YtcphapdjimeoaaaGreatB17
namespace Go.Proofs.YtcphapdjimeoaaaGreat
namespace Pst
open Wrd

/-- A term's list when i records are done, and k terms of the next one. -/
def soFar (l : List Rc) (i k : Nat) (x : List UInt8) : List Int := idsE (l.take i) x ++ if x ∈ (termsOf (l.getD i default)).take k then [(i : Int)] else []
theorem soFar_start (l : List Rc) : soFar l 0 0 = fun _ => [] := by
  funext x
  simp [soFar, idsE, idsF]
theorem take_snoc {α : Type} [Inhabited α] {l : List α} {i : Nat} (h : i < l.length) : l.take (i + 1) = l.take i ++ [l.getD i default] := by
  rw [List.take_add_one, List.getElem?_eq_getElem h, List.getD_eq_getElem?_getD, List.getElem?_eq_getElem h]
  rfl
theorem soFar_term (l : List Rc) {i k : Nat} (hk : k < (termsOf (l.getD i default)).length) :
    soFar l i (k + 1) = fun x => if x = (termsOf (l.getD i default)).getD k [] then soFar l i k ((termsOf (l.getD i default)).getD k []) ++ [(i : Int)] else soFar l i k x := by
  have hR : Rising (termsOf (l.getD i default)) := terms_rising _ _
  have hN := hR.nodup
  generalize hT : termsOf (l.getD i default) = T at *
  have e : T.take (k + 1) = T.take k ++ [T.getD k []] := by
    rw [List.take_add_one, List.getElem?_eq_getElem hk, List.getD_eq_getElem?_getD, List.getElem?_eq_getElem hk]
    rfl
  have hnot : ¬ T.getD k [] ∈ T.take k := by
    have h1 : (T.take (k + 1)).Nodup := hN.sublist (List.take_sublist _ _)
    rw [e, List.nodup_append] at h1
    exact fun h => h1.2.2 _ h _ (List.mem_singleton.2 rfl) rfl
  funext x
  generalize hs : T.getD k [] = s at *
  unfold soFar
  rw [hT, e]
  by_cases hx : x = s
  · subst hx
    simp [hnot]
  · simp [hx]
theorem soFar_record {l : List Rc} {i : Nat} (hi : i < l.length) : soFar l (i + 1) 0 = soFar l i (termsOf (l.getD i default)).length := by
  funext x
  have hl : (l.take i).length = i := by rw [List.length_take]; omega
  unfold soFar
  rw [take_snoc hi, idsE, idsF_snoc, hl, Nat.zero_add]
  simp [idsE]
theorem soFar_end (l : List Rc) : soFar l l.length 0 = idsE l := by
  funext x
  simp [soFar]
theorem soFar_len (l : List Rc) (i k : Nat) (x : List UInt8) : (soFar l i k x).length ≤ i + 1 := by
  have h1 : ∀ (s : List UInt8) (l : List Rc) (k : Nat), (idsF s k l).length ≤ l.length := fun s l => by
    induction l with
    | nil => intro k; simp [idsF]
    | cons r t ih =>
      intro k
      have := ih (k + 1)
      rw [idsF]
      split <;> simp <;> omega
  have h2 := h1 x (l.take i) 0
  unfold soFar idsE
  rw [List.length_append]
  rw [List.length_take] at h2
  split <;> simp <;> omega
theorem term_len {r : Rc} {z : List UInt8} (h : z ∈ termsOf r) : z.length ≤ 25 := by
  have : z ∈ gather [r] := mem_gather.2 ⟨r, List.mem_singleton.2 rfl, h⟩
  exact (term_size this).2
end Pst
end Go.Proofs.YtcphapdjimeoaaaGreat

