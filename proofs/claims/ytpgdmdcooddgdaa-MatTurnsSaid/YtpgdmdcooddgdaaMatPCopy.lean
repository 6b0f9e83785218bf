/- 'copy' into a row of a matrix in the call's own memory. -/
import Derived.Test.YtpgdmdcooddgdaaMatPBase
import Derived.Test.YtpgdmdcooddgdaaMatTbl
import Derived.Test.YtpgdmdcooddgdaaRegPure
namespace Go.Proofs.Ytpgdmdcooddgdaa
open Go.RowKit

theorem OwnB.setCells {base g n c : Nat} : ∀ (xs : List UInt8) (o : Nat) {w : World} {l : List UInt8}, OwnB w base (.slice (some ⟨g, 0, none⟩) n c) l → o + xs.length ≤ l.length →
    OwnB (w.setCells g o (xs.map byteV)) base (.slice (some ⟨g, 0, none⟩) n c) (splice l o xs)
  | [], o, w, l, h, _ => by simpa [splice, World.setCells] using h
  | x :: xs, o, w, l, h, hl => by
    rw [List.length_cons] at hl
    have := (h.set o x).setCells xs (o + 1) (by rw [List.length_set]; omega)
    have e : splice (l.set o x) (o + 1) xs = splice l o (x :: xs) := by
      unfold splice
      rw [List.take_set, List.set_eq_take_append_cons_drop, if_pos (by rw [List.length_take]; omega), List.take_take, Nat.min_eq_left (by omega), List.drop_eq_nil_of_le (by rw [List.length_take]; omega)]
      rw [List.drop_set_of_lt (by omega), List.length_cons, show o + 1 + xs.length = o + (xs.length + 1) by omega]
      simp
    rw [e] at this
    exact this
theorem cells_splice (c N : Nat) (F : Mat.M) {i m : Nat} (f : Nat → UInt8) (hm : m ≤ c) (hN : i * c + m ≤ N) : splice (cellsOf c F N) (i * c) (rowB m f) = cellsOf c (fun a b => if a = i ∧ b < m then f b else F a b) N := by
  unfold splice
  apply List.ext_getElem
  · rw [List.length_append, List.length_append, List.length_take, List.length_drop, cellsOf_len, cellsOf_len, rowB_len]
    omega
  · intro p h1 h2
    rw [cellsOf_len] at h2
    rw [List.getElem_append]
    by_cases hp : p < i * c
    · rw [dif_pos (by rw [List.length_take, cellsOf_len]; omega)]
      simp only [cellsOf, List.getElem_take, List.getElem_map, List.getElem_range]
      rw [if_neg]
      rintro ⟨h3, h4⟩
      have := Nat.div_add_mod p c
      rw [h3, Nat.mul_comm] at this
      omega
    · rw [dif_neg (by rw [List.length_take, cellsOf_len]; omega)]
      have hlt : (List.take (i * c) (cellsOf c F N)).length = i * c := by rw [List.length_take, cellsOf_len]; omega
      rw [List.getElem_append]
      by_cases hq : p < i * c + m
      · rw [dif_pos (by rw [rowB_len, hlt]; omega)]
        have hd : p / c = i := by
          rw [show p = c * i + (p - i * c) by rw [Nat.mul_comm]; omega, Nat.mul_add_div (by omega), Nat.div_eq_of_lt (by omega), Nat.add_zero]
        have hmo : p % c = p - i * c := by
          have := Nat.div_add_mod p c
          rw [hd, Nat.mul_comm] at this
          omega
        simp only [cellsOf, rowB, List.getElem_map, List.getElem_range, hd, hmo]
        rw [if_pos ⟨trivial, by omega⟩, List.length_take, List.length_map, List.length_range, Nat.min_eq_left (by omega)]
      · rw [dif_neg (by rw [rowB_len, hlt]; omega)]
        simp only [cellsOf, List.getElem_drop, List.getElem_map, List.getElem_range, rowB_len, List.length_take, List.length_map, List.length_range]
        rw [Nat.min_eq_left (by omega), show i * c + m + (p - i * c - m) = p by omega, if_neg]
        rintro ⟨h3, h4⟩
        have := Nat.div_add_mod p c
        rw [h3, Nat.mul_comm] at this
        omega

variable {o : Oper} {a : Act} {w : World} {K : Act → World → Prop} {Q : Exit → Act → World → Prop}
/-- Cells go over into row i. -/
theorem wp_copyM (d s : Operand) (ho : o.op = .call { callee := .builtin .copy, args := #[d, s], argTypes := #[22, 22] }) {base g r c i m N kN kd ks : Nat} {D A : Option Addr} {F : Mat.M} {f : Nat → UInt8} {B : Nat}
    (hd : a.eval d = .slice D c kd) (hs : a.eval s = .slice A m ks) (hO : OwnB w base (.slice (some ⟨g, 0, none⟩) N kN) (cellsOf c F N)) (hB : Bytes w B A m (rowB m f)) (hN : N = r * c) (hkN : N ≤ kN) (hi : i < r) (hm : m ≤ c) (hD : D = cutAt (some ⟨g, 0, none⟩) kN (i * c))
    (h : ∀ w', OwnB w' base (.slice (some ⟨g, 0, none⟩) N kN) (cellsOf c (fun a b => if a = i ∧ b < m then f b else F a b) N) → w.grownBy w' (some g) → w'.heap.size = w.heap.size → K (a.put o.dst (goInt m)) w') : o.wp Try.prog a w K Q := by
  have hinf : (Try.prog.info? 5).map (·.size) = some 1 := by kernel_rfl
  subst hD
  by_cases h0 : m = 0
  · subst h0
    have hrun := run_copy_none (P := Try.prog) w 22 22 o.type 5 (cutAt (some ⟨g, 0, none⟩) kN (i * c)) A c kd 0 ks Try.underlying22 hinf (by simp)
    unfold Oper.wp
    simp [execOp, ho, resolve, invoke, builtin, hd, hs, hrun, Result.andThen]
    refine h w ?_ (World.grownBy.refl w _) rfl
    rw [cells_congr (g := F)]
    · exact hO
    · intro p _
      rw [if_neg (by omega)]
  · obtain ⟨p1, p2⟩ := row_place hi (by omega : 0 < c)
    rw [← hN] at p1 p2
    rw [cutAt_zero (by omega)] at hd
    rcases hB.2 with h1 | ⟨b, off, rfl, _, hcell⟩
    · exact absurd h1 h0
    have hlen : ((rowB m f).map byteV).length = m := by rw [List.length_map, rowB_len]
    have hrun := run_copy_cells (P := Try.prog) w 22 22 o.type 5 g (i * c) c kd ⟨b, off, none⟩ m ks ((rowB m f).map byteV) Try.underlying22 hinf (by rw [hlen]; exact (Nat.min_eq_left hm).symm)
      (fun j v hj => by
        have hj' : j < m := by have := (List.getElem?_eq_some_iff.1 hj).1; rw [hlen] at this; exact this
        have := hcell j hj'
        rw [show (⟨b, off, none⟩ : Addr).add j = ⟨b, off + j, none⟩ by simp [Addr.add], this, ← hj]
        simp [byteV, rowB, hj'])
      (fun j hj => by
        rw [hlen] at hj
        rw [(hO.cell (i := i * c + j) (by rw [cellsOf_len]; omega)).1]
        rfl)
      (fun j hj => by
        rw [hlen] at hj
        exact (hO.cell (i := i * c + j) (by rw [cellsOf_len]; omega)).2)
      (fun v hv => by
        obtain ⟨x, _, rfl⟩ := List.mem_map.1 hv
        rfl)
    rw [hlen] at hrun
    unfold Oper.wp
    simp [execOp, ho, resolve, invoke, builtin, hd, hs, hrun, Result.andThen]
    have hO2 := hO.setCells (rowB m f) (i * c) (by rw [cellsOf_len, rowB_len]; omega)
    rw [cells_splice c N F f hm (by omega)] at hO2
    obtain ⟨g1, g2⟩ := setCells_grown g ((rowB m f).map byteV) (i * c) w
    exact h _ hO2 g1 g2
theorem wpList_copyM {ops : Array Oper} {rest : List Oper} (hgd : o.guard = none) (d s : Operand) (ho : o.op = .call { callee := .builtin .copy, args := #[d, s], argTypes := #[22, 22] }) {base g r c i m N kN kd ks : Nat} {D A : Option Addr} {F : Mat.M} {f : Nat → UInt8} {B : Nat}
    (hd : a.eval d = .slice D c kd) (hs : a.eval s = .slice A m ks) (hO : OwnB w base (.slice (some ⟨g, 0, none⟩) N kN) (cellsOf c F N)) (hB : Bytes w B A m (rowB m f)) (hN : N = r * c) (hkN : N ≤ kN) (hi : i < r) (hm : m ≤ c) (hD : D = cutAt (some ⟨g, 0, none⟩) kN (i * c))
    (h : ∀ w', OwnB w' base (.slice (some ⟨g, 0, none⟩) N kN) (cellsOf c (fun a b => if a = i ∧ b < m then f b else F a b) N) → w.grownBy w' (some g) → w'.heap.size = w.heap.size → wpList Try.prog ops Q rest (a.put o.dst (goInt m)) w') :
    wpList Try.prog ops Q (o :: rest) a w :=
  wpList_plain hgd fun _ hK => wp_copyM d s ho hd hs hO hB hN hkN hi hm hD fun w' h1 h2 h3 => hK _ _ (h w' h1 h2 h3)
/-- A row of a matrix, as it reads. -/
theorem rowBytes {B : Nat} {A : Option Addr} {k r c i : Nat} {l : List UInt8} {F : Mat.M} (h : Bytes w B A l.length l) (hl : l.length = r * c) (hk : l.length ≤ k) (hi : i < r) (hF : ∀ a b, F a b = l.getD (a * c + b) 0) : Bytes w B (cutAt A k (i * c)) c (rowB c (F i)) := by
  have hle : i * c + c ≤ r * c := by
    have : (i + 1) * c ≤ r * c := Nat.mul_le_mul_right _ hi
    rw [Nat.add_mul, Nat.one_mul] at this
    exact this
  have h1 := (h.drop (k := i * c) (c := k) (by omega) hk).take (k := c) (by omega)
  have e : (l.drop (i * c)).take c = rowB c (F i) := by
    apply List.ext_getElem
    · rw [rowB_len, List.length_take, List.length_drop]; omega
    · intro p h2 h3
      rw [rowB_len] at h3
      have h4 : i * c + p < l.length := by omega
      simp [rowB, hF, List.getD_eq_getElem?_getD, h4]
  rw [e] at h1
  exact h1
/-- A row of a matrix in own memory, as it reads. -/
theorem ownRow {base g r c i N kN : Nat} {F : Mat.M} (h : OwnB w base (.slice (some ⟨g, 0, none⟩) N kN) (cellsOf c F N)) (hN : N = r * c) (hkN : N ≤ kN) (hi : i < r) : Bytes w w.heap.size (cutAt (some ⟨g, 0, none⟩) kN (i * c)) c (rowB c (F i)) := by
  obtain ⟨A, n, k, hv, _, _, h3⟩ := h.form'
  simp only [Value.slice.injEq] at hv
  obtain ⟨rfl, rfl, rfl⟩ := hv
  have hl := cellsOf_len c F N
  have hB : Bytes w w.heap.size (some ⟨g, 0, none⟩) (cellsOf c F N).length (cellsOf c F N) := by rw [hl]; exact h3
  have := rowBytes (k := kN) (F := fun a b => (cellsOf c F N).getD (a * c + b) 0) hB (by rw [hl, hN]) (by rw [hl]; exact hkN) hi (fun _ _ => rfl)
  rw [rowB_congr (g := F i)] at this
  · exact this
  · intro j hj
    have hle : i * c + c ≤ r * c := by
      have : (i + 1) * c ≤ r * c := Nat.mul_le_mul_right _ hi
      rw [Nat.add_mul, Nat.one_mul] at this
      exact this
    have hd : (i * c + j) / c = i := by rw [Nat.mul_comm, Nat.mul_add_div (by omega), Nat.div_eq_of_lt hj, Nat.add_zero]
    have hm : (i * c + j) % c = j := by rw [Nat.mul_comm, Nat.mul_add_mod, Nat.mod_eq_of_lt hj]
    have hlt : i * c + j < N := by omega
    simp [cellsOf, List.getD_eq_getElem?_getD, hlt, hd, hm]
end Go.Proofs.Ytpgdmdcooddgdaa
