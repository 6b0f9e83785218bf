/- Tokens: slices of them that came in, and of the call's own. -/
import Derived.Test.YtklofjgfecpkiaaOpen
import Derived.Test.YtklofjgfecpkiaaMod
import Derived.Deep.Slices
import Derived.Deep.Strs
import Derived.Laws.OwnMore
import Derived.Maps.AppendAt
namespace Go.Proofs.Ytklofjgfecpkiaa
open Go.ChangeShapes Go.WideShapes Go.ChangeAt Go.WideMaps Go.WideElems Go.RowKit

theorem addr_addT (b off i : Nat) : (⟨b, off, none⟩ : Addr).add i = ⟨b, off + i, none⟩ := by unfold Addr.add; split <;> simp_all
/-- A token, as it reads. -/
structure TokV where
  lit : UInt8
  len : Int
  dist : Int
deriving DecidableEq
instance : Inhabited TokV := ⟨⟨0, 0, 0⟩⟩
/-- The token lies in block b from o on. -/
def TokAt (w : World) (b o : Nat) (v : TokV) : Prop :=
  w.cell? ⟨b, o, none⟩ = some (.int .u8 (v.lit.toNat : Int)) ∧ w.cell? ⟨b, o + 1, none⟩ = some (.int .i64 v.len) ∧ w.cell? ⟨b, o + 2, none⟩ = some (.int .i64 v.dist)
def TokV.ok (v : TokV) : Prop := -9223372036854775808 ≤ v.len ∧ v.len ≤ 9223372036854775807 ∧ -9223372036854775808 ≤ v.dist ∧ v.dist ≤ 9223372036854775807
def ToksAt (w : World) (B : Nat) (A : Option Addr) (n : Nat) (L : List TokV) : Prop :=
  L.length = n ∧ (n = 0 ∨ ∃ b off, A = some ⟨b, off, none⟩ ∧ b < B ∧ ∀ i, i < n → TokAt w b (off + i * 3) (L.getD i default) ∧ (L.getD i default).ok)
theorem TokAt.below {w w' : World} {b o B : Nat} {v : TokV} (h : TokAt w b o v) (hb : Below B w w') (hB : b < B) : TokAt w' b o v :=
  ⟨(hb.cell (p := ⟨b, o, none⟩) hB).trans h.1, (hb.cell (p := ⟨b, o + 1, none⟩) hB).trans h.2.1, (hb.cell (p := ⟨b, o + 2, none⟩) hB).trans h.2.2⟩
theorem ToksAt.below {w w' : World} {B C n : Nat} {A : Option Addr} {L : List TokV} (h : ToksAt w B A n L) (hb : Below C w w') (hC : B ≤ C) : ToksAt w' B A n L := by
  refine ⟨h.1, ?_⟩
  rcases h.2 with h0 | ⟨b, off, hA, hB, hc⟩
  · exact .inl h0
  · exact .inr ⟨b, off, hA, hB, fun i hi => ⟨(hc i hi).1.below hb (by omega), (hc i hi).2⟩⟩

set_option maxRecDepth 100000 in
theorem open_toks {H : Type} {enc : TypeId × Value → H} {W : World} {a : Option Addr} {n c : Nat} {d : DataW H} {p : List MemPlace} (h : DataW.Trod enc Try.prog W 0 (fun _ => true) true 25 (.slice a n c) d p) :
    ∃ L : List TokV, n ≤ c ∧ c ≤ maxLen ∧ ToksAt W W.heap.size a n L := by
  obtain ⟨fuel, hf⟩ := h
  rcases Deep.open_slice Try.underlying25 hf with ⟨hcs, _⟩ | ⟨x, n', c', m, k, D, Pl, hcs, _, hl, hm, hmm, _, hx⟩
  · simp [Value.cells] at hcs
    obtain ⟨rfl, rfl, rfl⟩ := hcs
    exact ⟨[], by omega, by unfold maxLen; omega, rfl, .inl rfl⟩
  · simp [Value.cells] at hcs
    obtain ⟨rfl, rfl, rfl⟩ := hcs
    have hmc : m = c := by simpa using hmm
    subst hmc
    have ce : Try.prog.cellsOf 36 = 3 := by kernel_rfl
    have each : ∀ i, i < m → ∃ v : TokV, v.ok ∧ W.cell? (x.add (i * 3)) = some (.int .u8 (v.lit.toNat : Int)) ∧ W.cell? (x.add (i * 3 + 1)) = some (.int .i64 v.len) ∧ W.cell? (x.add (i * 3 + 2)) = some (.int .i64 v.dist) := fun i hi => by
      obtain ⟨cs', h1, h2⟩ := hx i hi
      rw [ce] at h1
      obtain ⟨_, hlen, hcell⟩ := World.cells?_some h1
      obtain ⟨y0, y1, y2, q, _, _, g0, g1, g2⟩ := Deep.trod_struct3 Try.underlying36 h2
      have c0 : Try.prog.cellsOf 5 = 1 := by kernel_rfl
      have c1 : Try.prog.cellsOf 3 = 1 := by kernel_rfl
      match cs', hlen with
      | [v0, v1, v2], _ =>
        simp [c0, c1] at g0 g1 g2
        obtain ⟨z0, e0, _, w0⟩ := DataW.trod_int Try.underlying5 g0
        obtain ⟨z1, e1, _, w1⟩ := DataW.trod_int Try.underlying3 g1
        obtain ⟨z2, e2, _, w2⟩ := DataW.trod_int Try.underlying3 g2
        simp only [List.cons.injEq, and_true] at e0 e1 e2
        subst e0 e1 e2
        obtain ⟨a0, a1⟩ := bounds_u8 w0
        obtain ⟨b0, b1⟩ := bounds_i64 w1
        obtain ⟨d0, d1⟩ := bounds_i64 w2
        obtain ⟨z0, rfl⟩ := Int.eq_ofNat_of_zero_le a0
        have f0 := hcell 0 (by omega)
        have f1 := hcell 1 (by omega)
        have f2 := hcell 2 (by omega)
        rw [Deep.add_add] at f0 f1 f2
        have e8 : ((UInt8.ofNat z0).toNat : Int) = (z0 : Int) := by rw [UInt8.toNat_ofNat']; omega
        exact ⟨⟨UInt8.ofNat z0, z1, z2⟩, ⟨b0, b1, d0, d1⟩, by rw [e8]; simpa using f0, by simpa using f1, by simpa using f2⟩
    obtain ⟨V, hV⟩ := Deep.choose_lt each
    refine ⟨(List.range n).map V, hl, hm, by simp, ?_⟩
    rcases Nat.eq_zero_or_pos n with h0 | h0
    · exact .inl h0
    obtain ⟨b, off, spot⟩ := x
    have hc0 := (hV 0 (by omega)).2.1
    have hspot : spot = none := by simpa [Addr.add] using World.cell?_spot hc0
    subst hspot
    refine .inr ⟨b, off, rfl, by simpa [Addr.add] using World.block_lt_of_cell? W _ hc0, fun i hi => ?_⟩
    have e : ((List.range n).map V).getD i default = V i := by simp [List.getD_eq_getElem?_getD, hi]
    rw [e]
    obtain ⟨h1, h2, h3, h4⟩ := hV i (by omega)
    rw [addr_addT] at h2 h3 h4
    exact ⟨⟨h2, by rw [Nat.add_assoc]; exact h3, by rw [Nat.add_assoc]; exact h4⟩, h1⟩
/-- The cells of a token. -/
def tokCells (v : TokV) : List Value := [.int .u8 (v.lit.toNat : Int), .int .i64 v.len, .int .i64 v.dist]
/-- v is nil, or lies in a block of the call's own, and reads as these tokens. -/
def OwnTk (w : World) (base : Nat) (v : Value) (L : List TokV) : Prop := w.ownsRow base 36 3 v L.length (L.flatMap tokCells)
theorem tok_info : (Try.prog.info? 36).map (fun i => (i.zero, i.size, i.bytes)) = some (some (.agg #[.int .u8 0, .int .i64 0, .int .i64 0]), 3, 24) := by kernel_rfl
theorem OwnTk.nil (w : World) (base : Nat) : OwnTk w base (.slice none 0 0) [] := World.ownsRow_nil w base _ _
theorem OwnTk.ext {w w' : World} {base : Nat} {v : Value} {L : List TokV} (h : OwnTk w base v L) (hE : Ext w w') : OwnTk w' base v L :=
  World.ownsRow.kept h (hE.grown none) (by cases hv : v.ownBlock <;> simp)
theorem OwnTk.lt {w : World} {base : Nat} {v : Value} {L : List TokV} (h : OwnTk w base v L) : ∀ k, v.ownBlock = some k → base ≤ k ∧ k < w.heap.size := World.ownsRow.lt h
theorem Mod.ownTk {w w' : World} {g : Nat} {ob : Option Nat} (h : Mod w w' g ob) {base : Nat} {v : Value} {L : List TokV} (hv : OwnTk w base v L) (hg : v.ownBlock ≠ some g) (ho : v.ownBlock = none ∨ v.ownBlock ≠ ob) : OwnTk w' base v L := by
  refine ⟨hv.1, ?_⟩
  rcases hv.2 with hn | ⟨x, cap, cur, rfl, hb, hgg, rest⟩
  · exact .inl hn
  · refine .inr ⟨x, cap, cur, rfl, hb, ?_, rest⟩
    rw [h.block x (Array.getElem?_eq_some_iff.1 hgg).1 (by intro e; subst e; simp [Value.ownBlock] at hg) (by
      intro e
      rcases ho with ho | ho
      · simp [Value.ownBlock] at ho
      · exact ho (by simpa [Value.ownBlock] using e))]
    exact hgg
theorem tokCells_get : ∀ (L : List TokV) (i j : Nat), i < L.length → j < 3 → (L.flatMap tokCells)[i * 3 + j]? = (tokCells (L.getD i default))[j]?
  | o :: L, 0, j, _, hj => by
    rw [List.flatMap_cons, Nat.zero_mul, Nat.zero_add, List.getElem?_append_left (by simp [tokCells]; omega)]
    rfl
  | o :: L, i + 1, j, h, hj => by
    rw [List.flatMap_cons, List.getElem?_append_right (by simp [tokCells]; omega)]
    have := tokCells_get L i j (by simpa using h) hj
    rw [show (i + 1) * 3 + j - (tokCells o).length = i * 3 + j by simp [tokCells]; omega, this]
    simp
/-- What its elements hold. -/
theorem OwnTk.form {w : World} {base : Nat} {v : Value} {L : List TokV} (h : OwnTk w base v L) : ∃ A c, v = .slice A L.length c ∧ (L.length = 0 ∨ ∃ g, A = some ⟨g, 0, none⟩ ∧ ∀ i, i < L.length → TokAt w g (0 + i * 3) (L.getD i default)) := by
  rcases h.2 with ⟨rfl, h0⟩ | ⟨g, cap, cur, rfl, hb, hgg, hn, hc, hs, ht⟩
  · exact ⟨none, 0, by rw [h0], .inl h0⟩
  · refine ⟨_, cap, rfl, .inr ⟨g, rfl, fun i hi => ?_⟩⟩
    have hcell : ∀ j, j < 3 → w.cell? ⟨g, i * 3 + j, none⟩ = (tokCells (L.getD i default))[j]? := fun j hj => by
      rw [cell_of_row w g (i * 3 + j) cur _ _ hgg, ← tokCells_get L i j hi hj, ← ht, List.getElem?_take, if_pos (by omega)]
      simp
    rw [Nat.zero_add]
    exact ⟨by have := hcell 0 (by omega); simpa [tokCells] using this, by have := hcell 1 (by omega); simpa [tokCells] using this, by have := hcell 2 (by omega); simpa [tokCells] using this⟩

section
variable {o : Oper} {a : Act} {K : Act → World → Prop} {Q : Exit → Act → World → Prop} {w : World} {base : Nat} {v : Value} {L : List TokV}
/-- append of one token, which lies in a block of its own. -/
theorem wpList_appTkB {ops : Array Oper} {rest : List Oper} (hgd : o.guard = none) (s x : Operand) (ho : o.op = .call { callee := .builtin .append, args := #[s, x], argTypes := #[25, 25] }) (hs : a.eval s = v) (p : TokV) (hown : OwnTk (w.alloc (.cells #[.int .u8 (p.lit.toNat : Int), .int .i64 p.len, .int .i64 p.dist] 36)) base v L)
    {c : Nat} (hx : a.eval x = .slice (some ⟨w.heap.size, 0, none⟩) 1 c) (hlen : L.length ≤ 1000000) (hbase : base ≤ w.heap.size)
    (h : ∀ v' w', OwnTk w' base v' (L ++ [p]) → (w.alloc (.cells #[.int .u8 (p.lit.toNat : Int), .int .i64 p.len, .int .i64 p.dist] 36)).grownBy w' v.ownBlock → NewOb (w.alloc (.cells #[.int .u8 (p.lit.toNat : Int), .int .i64 p.len, .int .i64 p.dist] 36)) v.ownBlock v'.ownBlock → wpList Try.prog ops Q rest (a.put o.dst v') w') :
    wpList Try.prog ops Q (o :: rest) a (w.alloc (.cells #[.int .u8 (p.lit.toNat : Int), .int .i64 p.len, .int .i64 p.dist] 36)) := by
  obtain ⟨i, hi, hz, hsz, hby⟩ := info_parts tok_info
  refine wpList_append_own_at _ hgd s x 25 ho base 36 i _ 3 24 Try.underlying25 hi hz hsz hby rfl (by omega) v L.length (L.flatMap tokCells) hs hown ⟨w.heap.size, 0, none⟩ 1 c (tokCells p) hx rfl (by
    intro j u hu
    rw [addr_addT, Nat.zero_add, cellNew]
    match j, hu with
    | 0, hu => simpa [tokCells] using hu
    | 1, hu => simpa [tokCells] using hu
    | 2, hu => simpa [tokCells] using hu
    | j + 3, hu => simp [tokCells] at hu) (by
    intro u hu
    simp [tokCells] at hu
    rcases hu with rfl | rfl | rfl <;> rfl) (by unfold maxLen; omega) (by omega) (by simp; omega) ?_
  intro v' w' h2 h3 _ h5
  refine h v' w' ?_ h3 (h5.imp id fun h => ⟨_, h, Nat.le_refl _⟩)
  unfold OwnTk
  rw [List.length_append, List.flatMap_append]
  simpa using h2
end
end Go.Proofs.Ytklofjgfecpkiaa
