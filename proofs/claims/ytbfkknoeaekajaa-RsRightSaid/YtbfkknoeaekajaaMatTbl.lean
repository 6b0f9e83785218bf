/- A table of rows of bytes in the call's own memory: a slice of slices, no two of which share a block. -/
import Derived.Test.YtbfkknoeaekajaaMatGauss
import Derived.Test.YtbfkknoeaekajaaMod
import Derived.Laws.OwnMore
import Derived.Maps.AppendAt
namespace Go.Proofs.Ytbfkknoeaekajaa
open Go.RowKit

/-- The row of c cells. -/
def rowB (c : Nat) (f : Nat → UInt8) : List UInt8 := (List.range c).map f
theorem rowB_len (c : Nat) (f : Nat → UInt8) : (rowB c f).length = c := by simp [rowB]
theorem rowB_at {c : Nat} (f : Nat → UInt8) {j : Nat} (hj : j < c) : (rowB c f).getD j 0 = f j := by simp [rowB, List.getD_eq_getElem?_getD, hj]
theorem rowB_succ (c : Nat) (f : Nat → UInt8) : rowB (c + 1) f = rowB c f ++ [f c] := by simp [rowB, List.range_succ]
theorem rowB_congr {c : Nat} {f g : Nat → UInt8} (h : ∀ j, j < c → f j = g j) : rowB c f = rowB c g := List.map_congr_left fun j hj => h j (List.mem_range.1 hj)
theorem rowB_set {c : Nat} (f : Nat → UInt8) {j : Nat} (x : UInt8) : (rowB c f).set j x = rowB c (fun k => if k = j then x else f k) := by
  apply List.ext_getElem?
  intro i
  rw [List.getElem?_set]
  by_cases hi : i < c
  · simp only [rowB, List.length_map, List.length_range, List.getElem?_map, List.getElem?_range hi, Option.map_some]
    by_cases hij : j = i
    · subst hij
      simp [hi]
    · rw [if_neg hij, if_neg (fun e => hij e.symm)]
  · have h1 : (rowB c f)[i]? = none := List.getElem?_eq_none (by rw [rowB_len]; omega)
    have h2 : (rowB c (fun k => if k = j then x else f k))[i]? = none := List.getElem?_eq_none (by rw [rowB_len]; omega)
    rw [h1, h2]
    simp [rowB_len]
    omega
theorem rowB_drop (n : Nat) (f : Nat → UInt8) : (rowB (2 * n) f).drop n = rowB n (fun j => f (n + j)) := by
  apply List.ext_getElem?
  intro i
  rw [List.getElem?_drop]
  by_cases hi : i < n
  · simp [rowB, hi, show n + i < 2 * n by omega]
  · rw [List.getElem?_eq_none (by rw [rowB_len]; omega), List.getElem?_eq_none (by rw [rowB_len]; omega)]

theorem sl_info : (Try.prog.info? 35).map (fun i => (i.zero, i.size, i.bytes)) = some (some (.slice none 0 0), 1, 24) := by kernel_rfl
structure Tbl (w : World) (base : Nat) (v : Value) (n c : Nat) (R : Nat → Value) (F : Mat.M) : Prop where
  own : w.ownsRow base 35 1 v n ((List.range n).map R)
  row : ∀ i, i < n → OwnB w base (R i) (rowB c (F i))
  pos : 0 < n → 0 < c
  far : ∀ i, i < n → (R i).ownBlock ≠ v.ownBlock
  apart : ∀ i j, i < n → j < n → i ≠ j → (R i).ownBlock ≠ (R j).ownBlock

section
variable {w w' : World} {base n c : Nat} {v : Value} {R : Nat → Value} {F G : Mat.M}
theorem Tbl.bare (w : World) (base c : Nat) (R : Nat → Value) (F : Mat.M) : Tbl w base (.slice none 0 0) 0 c R F :=
  ⟨World.ownsRow_nil w base _ _, fun i hi => absurd hi (by omega), fun h => absurd h (by omega), fun i hi => absurd hi (by omega), fun i j hi => absurd hi (by omega)⟩
theorem Tbl.congr (h : Tbl w base v n c R F) (hF : ∀ i j, i < n → j < c → F i j = G i j) : Tbl w base v n c R G :=
  ⟨h.own, fun i hi => by rw [rowB_congr (g := F i) fun j hj => (hF i j hi hj).symm]; exact h.row i hi, h.pos, h.far, h.apart⟩
theorem Tbl.ext (h : Tbl w base v n c R F) (hE : Ext w w') : Tbl w' base v n c R F :=
  ⟨World.ownsRow.kept h.own (hE.grown none) (by cases hv : v.ownBlock <;> simp), fun i hi => (h.row i hi).ext hE, h.pos, h.far, h.apart⟩
/-- Where things lie. -/
theorem Tbl.form (h : Tbl w base v n c R F) (hn : 0 < n) : ∃ g k, v = .slice (some ⟨g, 0, none⟩) n k ∧ base ≤ g ∧ g < w.heap.size := by
  have hl := h.own.lt
  rcases h.own.2 with ⟨_, h0⟩ | ⟨g, cap, cur, rfl, hb, hg, hnn, hc, hs, ht⟩
  · omega
  · exact ⟨g, cap, rfl, hb, (hl g rfl).2⟩
theorem Tbl.len (h : Tbl w base v n c R F) : ∃ A k, v = .slice A n k := by
  rcases h.own.2 with ⟨rfl, rfl⟩ | ⟨g, cap, cur, rfl, hb, hg, hnn, hc, hs, ht⟩
  · exact ⟨_, _, rfl⟩
  · exact ⟨_, _, rfl⟩
theorem Tbl.rowAt {g k : Nat} (h : Tbl w base (.slice (some ⟨g, 0, none⟩) n k) n c R F) {i : Nat} (hi : i < n) :
    ∃ gi ci, R i = .slice (some ⟨gi, 0, none⟩) c ci ∧ base ≤ gi ∧ gi < w.heap.size ∧ gi ≠ g ∧ c ≤ ci ∧ w.cell? ⟨g, i, none⟩ = some (.slice (some ⟨gi, 0, none⟩) c ci) ∧ w.frozen? ⟨g, i, none⟩ = false ∧
      ∀ j, j < c → w.cell? ⟨gi, j, none⟩ = some (.int .u8 ((F i j).toNat : Int)) ∧ w.frozen? ⟨gi, j, none⟩ = false := by
  have hr := h.row i hi
  have hp := h.pos (by omega)
  obtain ⟨gi, ci, hR, hb, hci⟩ := hr.formG (by rw [rowB_len]; exact hp)
  rw [rowB_len] at hR hci
  have hlt := hr.lt gi (by rw [hR]; rfl)
  have hfar := h.far i hi
  rw [hR] at hr hfar
  refine ⟨gi, ci, hR, hb, hlt.2, fun e => hfar (by rw [e]; rfl), hci, ?_, World.ownsRow.frozenAt h.own i, fun j hj => ?_⟩
  · rw [World.ownsRow.cellAt h.own i (by omega), ← hR]
    simp [hi]
  · have := hr.cell (i := j) (by rw [rowB_len]; exact hj)
    rwa [rowB_at _ hj] at this
/-- One cell is stored. -/
theorem Tbl.put (h : Tbl w base v n c R F) {i gi ci m : Nat} (hi : i < n) (hR : R i = .slice (some ⟨gi, 0, none⟩) m ci) (j : Nat) (x : UInt8) :
    Tbl (w.setCell ⟨gi, j, none⟩ (.int .u8 (x.toNat : Int))) base v n c R (fun a b => if a = i then (if b = j then x else F a b) else F a b) := by
  have hg := grown_setCell w gi j (.int .u8 (x.toNat : Int))
  have hfar := h.far i hi
  rw [hR] at hfar
  refine ⟨World.ownsRow.kept h.own hg (.inr fun e => hfar e.symm), fun a ha => ?_, h.pos, h.far, h.apart⟩
  by_cases hai : a = i
  · subst hai
    have hr := h.row a ha
    rw [hR] at hr ⊢
    have := hr.set j x
    rw [rowB_set] at this
    simpa using this
  · have hne := h.apart a i ha hi hai
    rw [hR] at hne
    have := (h.row a ha).far (g := gi) (by simpa [Value.ownBlock] using hne) j (.int .u8 (x.toNat : Int))
    simpa [hai] using this
/-- Two rows change places. -/
theorem Tbl.swap {g k : Nat} (h : Tbl w base (.slice (some ⟨g, 0, none⟩) n k) n c R F) {i p : Nat} (hi : i < n) (hp : p < n) :
    Tbl ((w.setCell ⟨g, i, none⟩ (R p)).setCell ⟨g, p, none⟩ (R i)) base (.slice (some ⟨g, 0, none⟩) n k) n c (fun a => R (Mat.sw i p a)) (fun a => F (Mat.sw i p a)) := by
  have h1 := (World.ownsRow.stored h.own i (R p)).1
  have h2 := (World.ownsRow.stored h1 p (R i)).1
  have hsw : ∀ a, a < n → Mat.sw i p a < n := fun a ha => Mat.sw_lt hi hp ha
  refine ⟨?_, fun a ha => ?_, h.pos, fun a ha => h.far _ (hsw a ha), fun a b ha hb hab => h.apart _ _ (hsw a ha) (hsw b hb) fun e => hab (by rw [← Mat.sw_sw i p a, e, Mat.sw_sw])⟩
  · have e : (((List.range n).map R).set i (R p)).set p (R i) = (List.range n).map fun a => R (Mat.sw i p a) := by
      apply List.ext_getElem?
      intro a
      rw [List.getElem?_set, List.getElem?_set]
      by_cases ha : a < n
      · simp only [List.length_set, List.length_map, List.length_range, List.getElem?_map, List.getElem?_range ha, Option.map_some]
        unfold Mat.sw
        by_cases h1 : p = a
        · subst h1
          by_cases h2 : p = i
          · subst h2; simp [ha]
          · simp [ha, h2]
        · by_cases h2 : i = a
          · subst h2; simp [h1, ha]
          · simp [h1, h2, show ¬ a = p from fun e => h1 e.symm, show ¬ a = i from fun e => h2 e.symm]
      · simp [ha]
        rw [if_neg (by omega), if_neg (by omega)]
    rw [← e]
    exact h2
  · have hf := h.far _ (hsw a ha)
    have hk : ∀ b, (R (Mat.sw i p a)).ownBlock = some b → b ≠ g := fun b hb e => hf (by rw [hb, e]; rfl)
    exact ((h.row _ (hsw a ha)).far (g := g) (fun e => hk g e rfl) i (R p)).far (g := g) (fun e => hk g e rfl) p (R i)
/-- What was made later lies elsewhere. -/
theorem own_apart {x v : Value} {H : Nat} (hx : ∃ b, x.ownBlock = some b ∧ H ≤ b) (hv : ∀ k, v.ownBlock = some k → k < H) : x.ownBlock ≠ v.ownBlock := fun e => by
  obtain ⟨b, hb, hle⟩ := hx
  have := hv b (by rw [← e, hb])
  omega
/-- A row more; w1: the world in which it is appended, x: the row. -/
theorem Tbl.push (h : Tbl w base v n c R F) (hc : 0 < c) {x v' : Value} {f : Nat → UInt8} (hx : OwnB w base x (rowB c f)) (hxv : x.ownBlock ≠ v.ownBlock) (hxr : ∀ i, i < n → (R i).ownBlock ≠ x.ownBlock)
    (hO : w'.ownsRow base 35 1 v' (n + 1) ((List.range n).map R ++ [x])) (hG : w.grownBy w' v.ownBlock) (hN : v'.ownBlock = v.ownBlock ∨ v'.ownBlock = some w.heap.size) :
    Tbl w' base v' (n + 1) c (fun a => if a = n then x else R a) (fun a => if a = n then f else F a) := by
  have hxb : ∃ b, x.ownBlock = some b ∧ b < w.heap.size := by
    obtain ⟨b, ci, hxe, _, _⟩ := hx.formG (by rw [rowB_len]; exact hc)
    have := hx.lt b (by rw [hxe]; rfl)
    exact ⟨b, by rw [hxe]; rfl, this.2⟩
  have hrb : ∀ i, i < n → ∃ b, (R i).ownBlock = some b ∧ b < w.heap.size := fun i hi => by
    obtain ⟨b, ci, hxe, _, _⟩ := (h.row i hi).formG (by rw [rowB_len]; exact hc)
    have := (h.row i hi).lt b (by rw [hxe]; rfl)
    exact ⟨b, by rw [hxe]; rfl, this.2⟩
  have hkeep : ∀ {y : Value} {l : List UInt8}, OwnB w base y l → y.ownBlock ≠ v.ownBlock → OwnB w' base y l := fun hy hne => World.ownsRow.kept hy hG (.inr hne)
  have hfar : ∀ {y : Value} {b : Nat}, y.ownBlock = some b → b < w.heap.size → y.ownBlock ≠ v.ownBlock → y.ownBlock ≠ v'.ownBlock := fun {y b} hy hb hne => by
    rcases hN with e | e
    · rw [e]; exact hne
    · rw [e, hy]
      intro e2
      injection e2 with e2
      omega
  refine ⟨?_, fun a ha => ?_, fun _ => hc, fun a ha => ?_, fun a b ha hb hab => ?_⟩
  · have e : (List.range (n + 1)).map (fun a => if a = n then x else R a) = (List.range n).map R ++ [x] := by
      rw [List.range_succ, List.map_append, List.map_cons, List.map_nil, if_pos rfl]
      congr 1
      exact List.map_congr_left fun a ha => if_neg (by have := List.mem_range.1 ha; omega)
    rw [e]
    exact hO
  · by_cases han : a = n
    · subst han
      simpa using hkeep hx hxv
    · simpa [han] using hkeep (h.row a (by omega)) (h.far a (by omega))
  · by_cases han : a = n
    · obtain ⟨b, hb, hlt⟩ := hxb
      rw [if_pos han]
      exact hfar hb hlt hxv
    · obtain ⟨b, hb, hlt⟩ := hrb a (by omega)
      rw [if_neg han]
      exact hfar hb hlt (h.far a (by omega))
  · by_cases han : a = n
    · by_cases hbn : b = n
      · omega
      · rw [if_pos han, if_neg hbn]
        exact fun e => hxr b (by omega) e.symm
    · by_cases hbn : b = n
      · rw [if_neg han, if_pos hbn]
        exact hxr a (by omega)
      · rw [if_neg han, if_neg hbn]
        exact h.apart a b (by omega) (by omega) hab
end

section
variable {o : Oper} {a : Act} {Q : Exit → Act → World → Prop} {w : World} {base n : Nat} {v : Value} {L : List Value}
/-- append of one row, whose slice lies in a block of its own. -/
theorem wpList_appS {ops : Array Oper} {rest : List Oper} (hgd : o.guard = none) (s x : Operand) (ho : o.op = .call { callee := .builtin .append, args := #[s, x], argTypes := #[22, 22] }) (hs : a.eval s = v) {A : Option Addr} {m k : Nat}
    (hown : w.ownsRow base 35 1 v n L) {c : Nat} (hx : a.eval x = .slice (some ⟨w.heap.size, 0, none⟩) 1 c) (hlen : n ≤ 1000) (hbase : base ≤ w.heap.size)
    (h : ∀ v' w', w'.ownsRow base 35 1 v' (n + 1) (L ++ [.slice A m k]) → (w.alloc (.cells #[.slice A m k] 35)).grownBy w' v.ownBlock → (v'.ownBlock = v.ownBlock ∨ v'.ownBlock = some (w.alloc (.cells #[.slice A m k] 35)).heap.size) → wpList Try.prog ops Q rest (a.put o.dst v') w') :
    wpList Try.prog ops Q (o :: rest) a (w.alloc (.cells #[.slice A m k] 35)) := by
  obtain ⟨i, hi, hz, hsz, hby⟩ := info_parts sl_info
  have hE := extNew w (.cells #[.slice A m k] 35)
  refine wpList_append_own_at _ hgd s x 22 ho base 35 i _ 1 24 Try.underlying22 hi hz hsz hby rfl (by omega) v n L hs (World.ownsRow.kept hown (hE.grown none) (by cases hv : v.ownBlock <;> simp)) ⟨w.heap.size, 0, none⟩ 1 c [.slice A m k] hx rfl (by
    intro j u hu
    match j, hu with
    | 0, hu =>
      have : (⟨w.heap.size, 0, none⟩ : Addr).add 0 = ⟨w.heap.size, 0, none⟩ := rfl
      rw [this, cellNew]
      simpa using hu
    | j + 1, hu => simp at hu) (by
    intro u hu
    simp at hu
    subst hu
    rfl) (by unfold maxLen; omega) (by omega) (by simp; omega) ?_
  intro v' w' h2 h3 _ h5
  exact h v' w' h2 h3 h5
end
end Go.Proofs.Ytbfkknoeaekajaa
