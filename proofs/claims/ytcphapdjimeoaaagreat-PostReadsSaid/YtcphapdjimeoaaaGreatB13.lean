/- Records: slices of them that came in, and of the call's own. -/
import Derived.Test.YtcphapdjimeoaaaGreatB01
import Derived.Test.YtcphapdjimeoaaaGreatB03
import Derived.Test.YtcphapdjimeoaaaGreatB08
import Derived.Deep.Slices
import Derived.Deep.Strs
import Derived.Laws.OwnMore
import Derived.Maps.AppendAt
namespace Go.Proofs.YtcphapdjimeoaaaGreat
open Go.ChangeShapes Go.WideShapes Go.ChangeAt Go.WideMaps Go.WideElems Go.RowKit

theorem addr_addRc (b off i : Nat) : (⟨b, off, none⟩ : Addr).add i = ⟨b, off + i, none⟩ := by unfold Addr.add; split <;> simp_all
/-- A record as a value. -/
def rcV (r : Rc) : Value := .agg #[.int .u64 (r.time : Int), .int .u8 (r.lv.toNat : Int), .string ⟨r.src.toArray⟩, .string ⟨r.text.toArray⟩]
def rcCells (r : Rc) : List Value := [.int .u64 (r.time : Int), .int .u8 (r.lv.toNat : Int), .string ⟨r.src.toArray⟩, .string ⟨r.text.toArray⟩]
/-- The record lies in block b from o on. -/
def RcAt (w : World) (b o : Nat) (r : Rc) : Prop :=
  w.cell? ⟨b, o, none⟩ = some (.int .u64 (r.time : Int)) ∧ w.cell? ⟨b, o + 1, none⟩ = some (.int .u8 (r.lv.toNat : Int)) ∧ w.cell? ⟨b, o + 2, none⟩ = some (.string ⟨r.src.toArray⟩) ∧ w.cell? ⟨b, o + 3, none⟩ = some (.string ⟨r.text.toArray⟩)
def Rc.ok (r : Rc) : Prop := r.time < 2 ^ 64 ∧ r.src.length ≤ maxLen ∧ r.text.length ≤ maxLen
def RcsAt (w : World) (B : Nat) (A : Option Addr) (n : Nat) (L : List Rc) : Prop :=
  L.length = n ∧ (n = 0 ∨ ∃ b off, A = some ⟨b, off, none⟩ ∧ b < B ∧ ∀ i, i < n → RcAt w b (off + i * 4) (L.getD i default)) ∧ ∀ r ∈ L, r.ok
theorem RcAt.below {w w' : World} {b o B : Nat} {r : Rc} (h : RcAt w b o r) (hb : Below B w w') (hB : b < B) : RcAt w' b o r :=
  ⟨(hb.cell (p := ⟨b, o, none⟩) hB).trans h.1, (hb.cell (p := ⟨b, o + 1, none⟩) hB).trans h.2.1, (hb.cell (p := ⟨b, o + 2, none⟩) hB).trans h.2.2.1, (hb.cell (p := ⟨b, o + 3, none⟩) hB).trans h.2.2.2⟩
theorem RcsAt.below {w w' : World} {B C n : Nat} {A : Option Addr} {L : List Rc} (h : RcsAt w B A n L) (hb : Below C w w') (hC : B ≤ C) : RcsAt w' B A n L := by
  refine ⟨h.1, ?_, h.2.2⟩
  rcases h.2.1 with h0 | ⟨b, off, hA, hB, hc⟩
  · exact .inl h0
  · exact .inr ⟨b, off, hA, hB, fun i hi => (hc i hi).below hb (by omega)⟩
theorem RcsAt.later {w w' : World} {A : Option Addr} {n : Nat} {L : List Rc} (h : RcsAt w w.heap.size A n L) (hE : Ext w w') : RcsAt w' w'.heap.size A n L := by
  have h2 := h.below hE (Nat.le_refl _)
  refine ⟨h2.1, ?_, h2.2.2⟩
  rcases h2.2.1 with h0 | ⟨b, off, hA, hB, hc⟩
  · exact .inl h0
  · exact .inr ⟨b, off, hA, Nat.lt_of_lt_of_le hB hE.le, hc⟩
theorem RcsAt.okAt {w : World} {B : Nat} {A : Option Addr} {n : Nat} {L : List Rc} (h : RcsAt w B A n L) {i : Nat} (hi : i < n) : (L.getD i default).ok := by
  refine h.2.2 _ ?_
  rw [List.getD_eq_getElem?_getD, List.getElem?_eq_getElem (by rw [h.1]; exact hi)]
  exact List.getElem_mem _
/-- A part of a slice of records. -/
theorem RcsAt.cut {w : World} {B n : Nat} {A : Option Addr} {r : List Rc} (h : RcsAt w B A n r) {k c : Nat} (hk : k ≤ n) (hc : n ≤ c) : RcsAt w B (if c = k then A else A.map (·.add (k * 4))) (n - k) (r.drop k) := by
  refine ⟨by rw [List.length_drop, h.1], ?_, fun x hx => h.2.2 x (List.mem_of_mem_drop hx)⟩
  by_cases hkn : k = n
  · exact .inl (by omega)
  rcases h.2.1 with h0 | ⟨b, off, rfl, hB, hcell⟩
  · exact .inl (by omega)
  · refine .inr ⟨b, off + k * 4, ?_, hB, fun i hi => ?_⟩
    · simp [show ¬ c = k by omega, Addr.add]
    · have := hcell (k + i) (by omega)
      rw [Nat.add_mul, ← Nat.add_assoc] at this
      simpa [List.getD_eq_getElem?_getD] using this
theorem RcsAt.top {w : World} {B n : Nat} {A : Option Addr} {r : List Rc} (h : RcsAt w B A n r) {k : Nat} (hk : k ≤ n) : RcsAt w B A k (r.take k) := by
  refine ⟨by rw [List.length_take, h.1]; omega, ?_, fun x hx => h.2.2 x (List.mem_of_mem_take hx)⟩
  rcases h.2.1 with h0 | ⟨b, off, hA, hB, hc⟩
  · exact .inl (by omega)
  · refine .inr ⟨b, off, hA, hB, fun i hi => ?_⟩
    have := hc i (by omega)
    have e : (r.take k).getD i default = r.getD i default := by simp [List.getD_eq_getElem?_getD, hi]
    rw [e]
    exact this

set_option maxRecDepth 1000000 in
theorem open_rcs {H : Type} {enc : TypeId × Value → H} {W : World} {a : Option Addr} {n c : Nat} {d : DataW H} {p : List MemPlace} (h : DataW.Trod enc Tryz.prog W 0 (fun _ => true) true 63 (.slice a n c) d p) :
    ∃ L : List Rc, n ≤ c ∧ c ≤ maxLen ∧ RcsAt W W.heap.size a n L := by
  obtain ⟨fuel, hf⟩ := h
  rcases Deep.open_slice Tryz.underlying63 hf with ⟨hcs, _⟩ | ⟨x, n', c', m, k, D, Pl, hcs, _, hl, hm, hmm, _, hx⟩
  · simp [Value.cells] at hcs
    obtain ⟨rfl, rfl, rfl⟩ := hcs
    exact ⟨[], by omega, by unfold maxLen; omega, rfl, .inl rfl, by simp⟩
  · simp [Value.cells] at hcs
    obtain ⟨rfl, rfl, rfl⟩ := hcs
    have hmc : m = c := by simpa using hmm
    subst hmc
    have ce : Tryz.prog.cellsOf 42 = 4 := by kernel_rfl
    have c1 : Tryz.prog.cellsOf 40 = 1 := by kernel_rfl
    have c2 : Tryz.prog.cellsOf 5 = 1 := by kernel_rfl
    have c3 : Tryz.prog.cellsOf 9 = 1 := by kernel_rfl
    have each : ∀ i, i < m → ∃ r : Rc, r.ok ∧ W.cell? (x.add (i * 4)) = some (.int .u64 (r.time : Int)) ∧ W.cell? (x.add (i * 4 + 1)) = some (.int .u8 (r.lv.toNat : Int)) ∧ W.cell? (x.add (i * 4 + 2)) = some (.string ⟨r.src.toArray⟩) ∧ W.cell? (x.add (i * 4 + 3)) = some (.string ⟨r.text.toArray⟩) := fun i hi => by
      obtain ⟨cs', h1, h2⟩ := hx i hi
      rw [ce] at h1
      obtain ⟨_, hlen, hcell⟩ := World.cells?_some h1
      obtain ⟨xs, q, _, _, _, hlx, hxs⟩ := DataW.trod_struct Tryz.underlying42 h2
      match cs', hlen, xs, hlx with
      | [v0, v1, v2, v3], _, [y0, y1, y2, y3], _ =>
        have g0 := hxs 0 _ rfl
        have g1 := hxs 1 _ rfl
        have g2 := hxs 2 _ rfl
        have g3 := hxs 3 _ rfl
        simp [c1, c2, c3] at g0 g1 g2 g3
        obtain ⟨z0, e0, _, w0⟩ := DataW.trod_int Tryz.underlying40 g0
        obtain ⟨z1, e1, _, w1⟩ := DataW.trod_int Tryz.underlying5 g1
        obtain ⟨z2, e2, _, w2⟩ := DataW.trod_string Tryz.underlying9 g2
        obtain ⟨z3, e3, _, w3⟩ := DataW.trod_string Tryz.underlying9 g3
        simp only [List.cons.injEq, and_true] at e0 e1 e2 e3
        subst e0 e1 e2 e3
        obtain ⟨s2, rfl⟩ := txt_of z2
        obtain ⟨s3, rfl⟩ := txt_of z3
        obtain ⟨a0, a1⟩ := bounds_u64 w0
        obtain ⟨b0, b1⟩ := bounds_u8 w1
        rw [txt_size] at w2 w3
        obtain ⟨t0, rfl⟩ := Int.eq_ofNat_of_zero_le a0
        obtain ⟨t1, rfl⟩ := Int.eq_ofNat_of_zero_le b0
        have f0 := hcell 0 (by omega)
        have f1 := hcell 1 (by omega)
        have f2 := hcell 2 (by omega)
        have f3 := hcell 3 (by omega)
        rw [Deep.add_add] at f0 f1 f2 f3
        have e8 : ((UInt8.ofNat t1).toNat : Int) = (t1 : Int) := by rw [UInt8.toNat_ofNat']; omega
        exact ⟨⟨t0, UInt8.ofNat t1, s2, s3⟩, ⟨by show t0 < 2 ^ 64; omega, w2, w3⟩, by simpa using f0, by rw [e8]; simpa using f1, by simpa using f2, by simpa using f3⟩
    obtain ⟨V, hV⟩ := Deep.choose_lt each
    refine ⟨(List.range n).map V, hl, hm, by simp, ?_, fun r hr => ?_⟩
    · rcases Nat.eq_zero_or_pos n with h0 | h0
      · exact .inl h0
      obtain ⟨b, off, spot⟩ := x
      have hc0 := (hV 0 (by omega)).2.1
      have hspot : spot = none := by simpa [Addr.add] using World.cell?_spot hc0
      subst hspot
      refine .inr ⟨b, off, rfl, by simpa [Addr.add] using World.block_lt_of_cell? W _ hc0, fun i hi => ?_⟩
      have e : ((List.range n).map V).getD i default = V i := by simp [List.getD_eq_getElem?_getD, hi]
      rw [e]
      obtain ⟨_, h2, h3, h4, h5⟩ := hV i (by omega)
      rw [addr_addRc] at h2 h3 h4 h5
      exact ⟨h2, by rw [Nat.add_assoc]; exact h3, by rw [Nat.add_assoc]; exact h4, by rw [Nat.add_assoc]; exact h5⟩
    · obtain ⟨i, hi, rfl⟩ := List.mem_map.1 hr
      exact (hV i (by have := List.mem_range.1 hi; omega)).1

/-- v is nil, or lies in a block of the call's own, and reads as these records. -/
def OwnRc (w : World) (base : Nat) (v : Value) (L : List Rc) : Prop := w.ownsRow base 42 4 v L.length (L.flatMap rcCells)
theorem rc_info : (Tryz.prog.info? 42).map (fun i => (i.zero, i.size, i.bytes)) = some (some (.agg #[.int .u64 0, .int .u8 0, .string ⟨#[]⟩, .string ⟨#[]⟩]), 4, 48) := by kernel_rfl
theorem OwnRc.nil (w : World) (base : Nat) : OwnRc w base (.slice none 0 0) [] := World.ownsRow_nil w base _ _
theorem OwnRc.ext {w w' : World} {base : Nat} {v : Value} {L : List Rc} (h : OwnRc w base v L) (hE : Ext w w') : OwnRc w' base v L :=
  World.ownsRow.kept h (hE.grown none) (by cases hv : v.ownBlock <;> simp)
theorem OwnRc.lt {w : World} {base : Nat} {v : Value} {L : List Rc} (h : OwnRc w base v L) : ∀ k, v.ownBlock = some k → base ≤ k ∧ k < w.heap.size := World.ownsRow.lt h
theorem OwnRc.kept {w w' : World} {base : Nat} {v : Value} {L : List Rc} {ob : Option Nat} (h : OwnRc w base v L) (hG : w.grownBy w' ob) (ho : v.ownBlock = none ∨ v.ownBlock ≠ ob) : OwnRc w' base v L := World.ownsRow.kept h hG ho
theorem Mod.ownRc {w w' : World} {g : Nat} {ob : Option Nat} (h : Mod w w' g ob) {base : Nat} {v : Value} {L : List Rc} (hv : OwnRc w base v L) (hg : v.ownBlock ≠ some g) (ho : v.ownBlock = none ∨ v.ownBlock ≠ ob) : OwnRc w' base v L := by
  refine ⟨hv.1, ?_⟩
  rcases hv.2 with hn | ⟨x, cap, cur, rfl, hb, hgg, rest⟩
  · exact .inl hn
  · refine .inr ⟨x, cap, cur, rfl, hb, ?_, rest⟩
    rw [h.block x (Array.getElem?_eq_some_iff.1 hgg).1 (by intro e; subst e; simp [Value.ownBlock] at hg) (by
      intro e
      rcases ho with ho | ho
      · simp [Value.ownBlock] at ho
      · exact ho (by simpa [Value.ownBlock] using e))]
    exact hgg
theorem rcCells_get : ∀ (L : List Rc) (i j : Nat), i < L.length → j < 4 → (L.flatMap rcCells)[i * 4 + j]? = (rcCells (L.getD i default))[j]?
  | o :: L, 0, j, _, hj => by
    rw [List.flatMap_cons, Nat.zero_mul, Nat.zero_add, List.getElem?_append_left (by simp [rcCells]; omega)]
    rfl
  | o :: L, i + 1, j, h, hj => by
    rw [List.flatMap_cons, List.getElem?_append_right (by simp [rcCells]; omega)]
    have := rcCells_get L i j (by simpa using h) hj
    rw [show (i + 1) * 4 + j - (rcCells o).length = i * 4 + j by simp [rcCells]; omega, this]
    simp
/-- A slice of records that is written out. -/
theorem rcsNew (w : World) (L : List Rc) (cs : Array Value) (t : TypeId) (fr : Nat × Nat) (h : cs = (L.flatMap rcCells).toArray) (n : Nat) (hn : L.length = n) (hok : ∀ r ∈ L, r.ok) :
    RcsAt (w.alloc (.cells cs t fr)) (w.alloc (.cells cs t fr)).heap.size (some ⟨w.heap.size, 0, none⟩) n L := by
  subst h
  subst hn
  refine ⟨rfl, .inr ⟨w.heap.size, 0, rfl, by simp, fun i hi => ?_⟩, hok⟩
  have hc : ∀ j, j < 4 → (w.alloc (.cells (L.flatMap rcCells).toArray t fr)).cell? ⟨w.heap.size, i * 4 + j, none⟩ = (rcCells (L.getD i default))[j]? := fun j hj => by
    rw [World.cell?_alloc_mark, ← rcCells_get L i j hi hj]
    simp
  rw [Nat.zero_add]
  exact ⟨hc 0 (by omega), hc 1 (by omega), hc 2 (by omega), hc 3 (by omega)⟩

/-- What its elements hold. -/
theorem OwnRc.form {w : World} {base : Nat} {v : Value} {L : List Rc} (h : OwnRc w base v L) (hok : ∀ r ∈ L, r.ok) : ∃ A c, v = .slice A L.length c ∧ L.length ≤ c ∧ c ≤ maxLen ∧ RcsAt w w.heap.size A L.length L := by
  have hl := h.lt
  rcases h.2 with ⟨rfl, h0⟩ | ⟨g, cap, cur, rfl, hb, hgg, hn, hc, hs, ht⟩
  · exact ⟨none, 0, by rw [h0], by omega, by unfold maxLen; omega, rfl, .inl h0, hok⟩
  · refine ⟨_, cap, rfl, hn, hc, rfl, .inr ⟨g, 0, rfl, (hl g rfl).2, fun i hi => ?_⟩, hok⟩
    have hcell : ∀ j, j < 4 → w.cell? ⟨g, i * 4 + j, none⟩ = (rcCells (L.getD i default))[j]? := fun j hj => by
      rw [cell_of_row w g (i * 4 + j) cur _ _ hgg, ← rcCells_get L i j hi hj, ← ht, List.getElem?_take, if_pos (by omega)]
      simp
    rw [Nat.zero_add]
    exact ⟨hcell 0 (by omega), hcell 1 (by omega), hcell 2 (by omega), hcell 3 (by omega)⟩

section
variable {o : Oper} {a : Act} {K : Act → World → Prop} {Q : Exit → Act → World → Prop} {w : World} {base : Nat} {v : Value} {L : List Rc}
/-- append of one record, which lies in a block of its own. -/
theorem wpList_appRc {ops : Array Oper} {rest : List Oper} (hgd : o.guard = none) (s x : Operand) (ho : o.op = .call { callee := .builtin .append, args := #[s, x], argTypes := #[63, 63] }) (hs : a.eval s = v) (p : Rc) (hown : OwnRc (w.alloc (.cells #[.int .u64 (p.time : Int), .int .u8 (p.lv.toNat : Int), .string ⟨p.src.toArray⟩, .string ⟨p.text.toArray⟩] 42)) base v L)
    {c : Nat} (hx : a.eval x = .slice (some ⟨w.heap.size, 0, none⟩) 1 c) (hlen : L.length ≤ 1000000) (hbase : base ≤ w.heap.size)
    (h : ∀ v' w', OwnRc w' base v' (L ++ [p]) → (w.alloc (.cells #[.int .u64 (p.time : Int), .int .u8 (p.lv.toNat : Int), .string ⟨p.src.toArray⟩, .string ⟨p.text.toArray⟩] 42)).grownBy w' v.ownBlock → NewOb (w.alloc (.cells #[.int .u64 (p.time : Int), .int .u8 (p.lv.toNat : Int), .string ⟨p.src.toArray⟩, .string ⟨p.text.toArray⟩] 42)) v.ownBlock v'.ownBlock → wpList Tryz.prog ops Q rest (a.put o.dst v') w') :
    wpList Tryz.prog ops Q (o :: rest) a (w.alloc (.cells #[.int .u64 (p.time : Int), .int .u8 (p.lv.toNat : Int), .string ⟨p.src.toArray⟩, .string ⟨p.text.toArray⟩] 42)) := by
  obtain ⟨i, hi, hz, hsz, hby⟩ := info_parts rc_info
  refine wpList_append_own_at _ hgd s x 63 ho base 42 i _ 4 48 Tryz.underlying63 hi hz hsz hby rfl (by omega) v L.length (L.flatMap rcCells) hs hown ⟨w.heap.size, 0, none⟩ 1 c (rcCells p) hx rfl (by
    intro j u hu
    rw [addr_addRc, Nat.zero_add, cellNew]
    match j, hu with
    | 0, hu => simpa [rcCells] using hu
    | 1, hu => simpa [rcCells] using hu
    | 2, hu => simpa [rcCells] using hu
    | 3, hu => simpa [rcCells] using hu
    | j + 4, hu => simp [rcCells] at hu) (by
    intro u hu
    simp [rcCells] at hu
    rcases hu with rfl | rfl | rfl | rfl <;> rfl) (by unfold maxLen; omega) (by omega) (by simp; omega) ?_
  intro v' w' h2 h3 _ h5
  refine h v' w' ?_ h3 (h5.imp id fun h => ⟨_, h, Nat.le_refl _⟩)
  unfold OwnRc
  rw [List.length_append, List.flatMap_append]
  simpa using h2
end
end Go.Proofs.YtcphapdjimeoaaaGreat

