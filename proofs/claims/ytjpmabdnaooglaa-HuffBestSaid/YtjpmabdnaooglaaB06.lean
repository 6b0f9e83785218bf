/- Rows of the program's items, in the call's own memory and as they are read; appends; parts of rows. Regions that draw their order, where one call stands behind all that is read: what is asked of the world holds till that call, not behind it. Regions that draw their order: an operation that asks nothing of the world may be taken at any time. Contract of the program's order: weights first, then symbols. Contract of the program's leavesOf: the leaves in order, given what the library's sort does. The library's sort at the program's items: its contract laid at this program, and what it leaves of a row of the call's own. Contract of the program's merged: leaves and packages in one row. A loop over an iterator that is never left early: what comes in round k is known; the loop's own invariant tells how many rounds are over. The library's slices.Backward and slices.Chunk at rows of items: what comes, round by round. Contract of the program's pairsOf: each two items put together. -/
import Derived.Test.YtjpmabdnaooglaaB01
import Derived.Test.YtjpmabdnaooglaaB05
import Derived.Maps.AppendAt
import Derived.OwnWalkIn
import Derived.OrdersHeld
import Derived.StillTail
import Derived.RegionTactic
import Derived.Sort.Grow
import Derived.Shelf.SlSortCmp.NoneTotal
import Derived.Ground.SlsfProg
import Derived.Deep.QuietTactic
import Derived.BigQuiet
import Derived.RangeFuncNested
import Derived.RangeFuncBox
import Derived.RangeFuncLeaves
import Derived.TacticsInMore
import Derived.LoopNIn
import Derived.LoopIn
import Derived.Shelf.Abstract
namespace Go.Proofs.Ytjpmabdnaooglaa
open Go.RowKit Len

def pC (x : PI) : List Value := [.int .u64 (x.1 : Int), .int .i64 (x.2 : Int)]
theorem pitem_info : (Try.prog.info? 93).map (fun i => (i.zero, i.size, i.bytes)) = some (some (.agg #[.int .u64 0, .int .i64 0]), 2, 16) := by kernel_rfl
theorem pC_len : ∀ L : List PI, (L.flatMap pC).length = L.length * 2
  | [] => rfl
  | y :: Y => by rw [List.flatMap_cons, List.length_append, pC_len Y]; simp [pC]; omega
theorem pC_get : ∀ (Y : List PI) (i j : Nat), i < Y.length → j < 2 → (Y.flatMap pC)[i * 2 + j]? = (pC (Y.getD i (0, 0)))[j]?
  | y :: Y, 0, j, _, hj => by
    rw [List.flatMap_cons, Nat.zero_mul, Nat.zero_add, List.getElem?_append_left (by simp [pC]; omega)]
    rfl
  | y :: Y, i + 1, j, h, hj => by
    rw [List.flatMap_cons, List.getElem?_append_right (by simp [pC]; omega)]
    have := pC_get Y i j (by simpa using h) hj
    rw [show (i + 1) * 2 + j - (pC y).length = i * 2 + j by simp [pC]; omega, this]
    simp
/-- v is nil, or lies in a block from base on, and holds these items. -/
def OwnPI (w : World) (base : Nat) (v : Value) (L : List PI) : Prop := w.ownsRow base 93 2 v L.length (L.flatMap pC)
/-- A slice that reads as these items, its memory below block B. -/
def PIAt (w : World) (B : Nat) (A : Option Addr) (n : Nat) (L : List PI) : Prop :=
  L.length = n ∧ (n = 0 ∨ ∃ b off, A = some ⟨b, off, none⟩ ∧ b < B ∧ ∀ i, i < n → w.cell? ⟨b, off + i * 2, none⟩ = some (.int .u64 ((L.getD i (0, 0)).1 : Int)) ∧ w.cell? ⟨b, off + i * 2 + 1, none⟩ = some (.int .i64 ((L.getD i (0, 0)).2 : Int)))
section
variable {w w' : World} {base B : Nat} {v : Value} {L M : List PI} {A : Option Addr} {n : Nat}
theorem PIAt.ext (h : PIAt w w.heap.size A n L) (hE : Ext w w') : PIAt w' w'.heap.size A n L := by
  refine ⟨h.1, h.2.imp_right fun ⟨b, off, e, hb, hc⟩ => ⟨b, off, e, Nat.lt_of_lt_of_le hb hE.le, fun i hi => ?_⟩⟩
  obtain ⟨k1, k2⟩ := hc i hi
  exact ⟨(hE.cell hb).trans k1, (hE.cell hb).trans k2⟩
theorem PIAt.mod {ob : Option Nat} (h : PIAt w B A n L) (hG : w.grownBy w' ob) (hB : B ≤ w.heap.size) (hg : ∀ k, ob = some k → B ≤ k) : PIAt w' B A n L := by
  refine ⟨h.1, h.2.imp_right fun ⟨b, off, e, hb, hc⟩ => ⟨b, off, e, hb, fun i hi => ?_⟩⟩
  obtain ⟨k1, k2⟩ := hc i hi
  have hk : w'.heap[b]? = w.heap[b]? := hG.block b (by omega) fun e => by have := hg b e.symm; omega
  exact ⟨(World.cell?_of_block (by exact hk)).trans k1, (World.cell?_of_block (by exact hk)).trans k2⟩
theorem PIAt.up {C : Nat} (h : PIAt w B A n L) (hB : B ≤ C) : PIAt w C A n L := ⟨h.1, h.2.imp_right fun ⟨b, off, e, hb, hc⟩ => ⟨b, off, e, Nat.lt_of_lt_of_le hb hB, hc⟩⟩
theorem PIAt.take {k : Nat} (h : PIAt w B A n L) (hk : k ≤ n) : PIAt w B A k (L.take k) := by
  refine ⟨by rw [List.length_take, h.1]; omega, ?_⟩
  rcases h.2 with h0 | ⟨b, off, e, hb, hc⟩
  · exact .inl (by omega)
  · refine .inr ⟨b, off, e, hb, fun i hi => ?_⟩
    have e2 : (L.take k).getD i (0, 0) = L.getD i (0, 0) := by simp [List.getD_eq_getElem?_getD, hi]
    rw [e2]
    exact hc i (by omega)
theorem PIAt.drop {k c : Nat} (h : PIAt w B A n L) (hk : k ≤ n) (hc : n ≤ c) : PIAt w B (cutAt A (c * 2) (k * 2)) (n - k) (L.drop k) := by
  refine ⟨by rw [List.length_drop, h.1], ?_⟩
  by_cases hkn : k = n
  · exact .inl (by omega)
  rcases h.2 with h0 | ⟨b, off, rfl, hb, hcell⟩
  · exact .inl (by omega)
  · refine .inr ⟨b, off + k * 2, by simp [cutAt, show ¬ c * 2 = k * 2 by omega, Addr.add], hb, fun i hi => ?_⟩
    have e2 : (L.drop k).getD i (0, 0) = L.getD (k + i) (0, 0) := by simp [List.getD_eq_getElem?_getD]
    rw [e2, show off + k * 2 + i * 2 = off + (k + i) * 2 by omega]
    exact hcell (k + i) (by omega)
theorem OwnPI.nil (w : World) (base : Nat) : OwnPI w base (.slice none 0 0) [] := World.ownsRow_nil w base _ _
theorem OwnPI.ext (h : OwnPI w base v L) (hE : Ext w w') : OwnPI w' base v L := World.ownsRow.kept h (hE.grown none) (by cases hv : v.ownBlock <;> simp)
theorem OwnPI.kept {row : Option Nat} (h : OwnPI w base v L) (hg : w.grownBy w' row) (hne : v.ownBlock = none ∨ v.ownBlock ≠ row) : OwnPI w' base v L := World.ownsRow.kept h hg hne
theorem OwnPI.mono {b' : Nat} (h : OwnPI w base v L) (hb : b' ≤ base) : OwnPI w b' v L := ⟨h.1, h.2.elim Or.inl fun ⟨g, cap, cur, hv, hg, r⟩ => Or.inr ⟨g, cap, cur, hv, Nat.le_trans hb hg, r⟩⟩
theorem OwnPI.lt (h : OwnPI w base v L) : ∀ k, v.ownBlock = some k → base ≤ k ∧ k < w.heap.size := World.ownsRow.lt h
/-- How it lies. -/
theorem OwnPI.form (h : OwnPI w base v L) : ∃ A c, v = .slice A L.length c ∧ L.length ≤ c ∧ c ≤ maxLen ∧ PIAt w w.heap.size A L.length L := by
  rcases h.2 with ⟨rfl, h0⟩ | ⟨g, cap, cur, rfl, hb, hgg, hn, hc, hs, ht⟩
  · exact ⟨none, 0, by rw [h0], by omega, by unfold maxLen; omega, rfl, .inl h0⟩
  · refine ⟨_, cap, rfl, hn, hc, rfl, .inr ⟨g, 0, rfl, (Array.getElem?_eq_some_iff.1 hgg).1, fun i hi => ?_⟩⟩
    have hcell : ∀ j, j < 2 → w.cell? ⟨g, i * 2 + j, none⟩ = (pC (L.getD i (0, 0)))[j]? := fun j hj => by
      rw [cell_of_row w g (i * 2 + j) cur _ _ hgg, ← pC_get L i j hi hj, ← ht, List.getElem?_take, if_pos (by omega)]
      simp
    rw [Nat.zero_add]
    exact ⟨(hcell 0 (by omega)).trans (by simp [pC]), (hcell 1 (by omega)).trans (by simp [pC])⟩
/-- A new item in a block of its own. -/
theorem PIAt.one (w : World) (x : PI) : PIAt (w.alloc (.cells #[.int .u64 (x.1 : Int), .int .i64 (x.2 : Int)] 93)) (w.alloc (.cells #[.int .u64 (x.1 : Int), .int .i64 (x.2 : Int)] 93)).heap.size (some ⟨w.heap.size, 0, none⟩) 1 [x] := by
  refine ⟨rfl, .inr ⟨w.heap.size, 0, rfl, by simp, fun i hi => ?_⟩⟩
  obtain rfl : i = 0 := by omega
  exact ⟨cellNew w _ _ _ 0, cellNew w _ _ _ 1⟩
end
theorem run_appPI_zero (w : World) (ty : TypeId) (base : Nat) (v : Value) (L : List PI) (hown : OwnPI w base v L) (A : Option Addr) (c : Nat) :
    (Builtin.append_ #[98, 98] ty #[v, .slice A 0 c]).run Try.prog w = .ok v w := by
  obtain ⟨i, hi, _, _, _⟩ := info_parts pitem_info
  rcases hown.2 with ⟨rfl, _⟩ | ⟨g, cap, cur, rfl, _, _, hnc, _⟩
  · cases A <;> simp [Builtin.append_, run_underlying Try.underlying98, sizeOf, typeInfo, hi, Builtin.lenOf, Builtin.firstCells, loadCells, loadCellsFrom]
  · cases A <;> simp [Builtin.append_, run_underlying Try.underlying98, sizeOf, typeInfo, hi, Builtin.lenOf, Builtin.firstCells, loadCells, loadCellsFrom, hnc, storeCells]
/-- append of items, run. -/
theorem run_appPI {w : World} (ty : TypeId) {base : Nat} {v : Value} {L M : List PI} (hown : OwnPI w base v L) {S : Option Addr} {m : Nat} (c : Nat) {B : Nat} (hsrc : PIAt w B S m M) (hlen : L.length ≤ 100000) (hm : m ≤ 100000) (hbase : base ≤ w.heap.size) :
    ∃ v' w', (Builtin.append_ #[98, 98] ty #[v, .slice S m c]).run Try.prog w = .ok v' w' ∧ OwnPI w' base v' (L ++ M) ∧ w.grownBy w' v.ownBlock ∧ (v'.ownBlock = v.ownBlock ∨ v'.ownBlock = some w.heap.size) := by
  obtain ⟨hl2, hcs⟩ := hsrc
  rcases hcs with rfl | ⟨g, off, rfl, _, hc⟩
  · obtain rfl := List.eq_nil_of_length_eq_zero hl2
    exact ⟨v, w, run_appPI_zero w ty base v L hown S c, by rw [List.append_nil]; exact hown, World.grownBy.refl w _, .inl rfl⟩
  · obtain ⟨i, hi, hz, hsz, hby⟩ := info_parts pitem_info
    obtain ⟨v', w', hr, h2, h3, _, h5⟩ := run_append_own_at (P := Try.prog) w base 98 ty 93 i _ 2 16 Try.underlying98 hi hz hsz hby rfl (by omega) v L.length (L.flatMap pC) hown ⟨g, off, none⟩ m c (M.flatMap pC) (by rw [pC_len, hl2]) (by
      intro j u hu
      have hj : j < m * 2 := by
        have := (List.getElem?_eq_some_iff.1 hu).1
        rw [pC_len, hl2] at this
        exact this
      rw [show (⟨g, off, none⟩ : Addr).add j = ⟨g, off + j, none⟩ by unfold Addr.add; split <;> simp_all]
      obtain ⟨k1, k2⟩ := hc (j / 2) (by omega)
      have hd : j = j / 2 * 2 + j % 2 := by omega
      rw [hd, pC_get M (j / 2) (j % 2) (by omega) (by omega)] at hu
      rcases (show j % 2 = 0 ∨ j % 2 = 1 by omega) with e | e
      · rw [e] at hu
        rw [show off + j = off + j / 2 * 2 by omega, k1]
        simpa [pC] using hu
      · rw [e] at hu
        rw [show off + j = off + j / 2 * 2 + 1 by omega, k2]
        simpa [pC] using hu) (by
      intro u hu
      obtain ⟨y, hy, hu2⟩ := List.mem_flatMap.1 hu
      simp only [pC, List.mem_cons, List.not_mem_nil, or_false] at hu2
      rcases hu2 with rfl | rfl <;> rfl) (by unfold maxLen; omega) (by omega) hbase
    refine ⟨v', w', hr, ?_, h3, h5⟩
    unfold OwnPI
    rw [List.length_append, List.flatMap_append, hl2]
    exact h2
section
variable {o : Oper} {a : Act} {Q : Exit → Act → World → Prop} {w : World} {base B : Nat} {v : Value} {L M : List PI}
theorem wp_appPI {K : Act → World → Prop} (s x : Operand) (ho : o.op = .call { callee := .builtin .append, args := #[s, x], argTypes := #[98, 98] }) (hs : a.eval s = v)
    (hown : OwnPI w base v L) {S : Option Addr} {m c : Nat} (hx : a.eval x = .slice S m c) (hsrc : PIAt w B S m M) (hlen : L.length ≤ 100000) (hm : m ≤ 100000) (hbase : base ≤ w.heap.size)
    (h : ∀ v' w', OwnPI w' base v' (L ++ M) → w.grownBy w' v.ownBlock → (v'.ownBlock = v.ownBlock ∨ v'.ownBlock = some w.heap.size) → K (a.put o.dst v') w') : o.wp Try.prog a w K Q := by
  obtain ⟨v', w', hr, h2, h3, h4⟩ := run_appPI o.type hown c hsrc hlen hm hbase
  unfold Oper.wp execOp
  simp only [ho, resolve, invoke, builtin, Sem.run_bind, Sem.run_pure, Result.andThen_ok, List.map_toArray, List.map_cons, List.map_nil, hs, hx, hr]
  exact h v' w' h2 h3 h4
theorem wpList_appPI {ops : Array Oper} {rest : List Oper} (hgd : o.guard = none) (s x : Operand) (ho : o.op = .call { callee := .builtin .append, args := #[s, x], argTypes := #[98, 98] }) (hs : a.eval s = v)
    (hown : OwnPI w base v L) {S : Option Addr} {m c : Nat} (hx : a.eval x = .slice S m c) (hsrc : PIAt w B S m M) (hlen : L.length ≤ 100000) (hm : m ≤ 100000) (hbase : base ≤ w.heap.size)
    (h : ∀ v' w', OwnPI w' base v' (L ++ M) → w.grownBy w' v.ownBlock → (v'.ownBlock = v.ownBlock ∨ v'.ownBlock = some w.heap.size) → wpList Try.prog ops Q rest (a.put o.dst v') w') : wpList Try.prog ops Q (o :: rest) a w :=
  wpList_plain hgd fun _ hK => wp_appPI s x ho hs hown hx hsrc hlen hm hbase fun v' w' h2 h3 h4 => hK _ _ (h v' w' h2 h3 h4)
theorem wpIn_appPI {F : Fence} {n : Nat} {K : Act → World → Prop} (s x : Operand) (ho : o.op = .call { callee := .builtin .append, args := #[s, x], argTypes := #[98, 98] }) (hs : a.eval s = v)
    (hown : OwnPI w base v L) {S : Option Addr} {m c : Nat} (hx : a.eval x = .slice S m c) (hsrc : PIAt w B S m M) (hlen : L.length ≤ 100000) (hm : m ≤ 100000) (hbase : base ≤ w.heap.size)
    (h : ∀ v' w', OwnPI w' base v' (L ++ M) → w.grownBy w' v.ownBlock → (v'.ownBlock = v.ownBlock ∨ v'.ownBlock = some w.heap.size) → K (a.put o.dst v') w') : o.wpIn F n Try.prog a w K Q := by
  obtain ⟨v', w', hr, h2, h3, h4⟩ := run_appPI o.type hown c hsrc hlen hm hbase
  unfold Oper.wpIn
  refine ⟨?_, ?_⟩
  · simp [Oper.about, ho, resolve, Target.leads, Sem.run_pure]
  · rw [Oper.semAt_plain F _ _ (by rw [ho]; intro c hc'; cases hc')]
    simp only [execOp, ho, resolve, invoke, builtin, Sem.run_bind, Sem.run_pure, Result.andThen_ok, List.map_toArray, List.map_cons, List.map_nil, hs, hx, hr]
    exact h v' w' h2 h3 h4
end
theorem run_headP (W : World) (a : Option Addr) (n c : Nat) (k : IntKind) (h : Int) (h0 : 0 ≤ h) (h1 : h ≤ c) :
    (Instr.slice 98 (.slice a n c) none (some (.int k h)) none).run Try.prog W = .ok (.slice (cutAt a (c * 2) (0 * 2)) h.toNat c) W := by
  rw [run_slice_h (P := Try.prog) (w := W) 98 a n c (by kernel_rfl) k h h0 h1]
  have hs : (sizeOf (Try.prog.elem 98)).run Try.prog W = .ok 2 W := by kernel_rfl
  rw [hs]
  have e : (c * 2 = 0 * 2) = (c = 0) := propext ⟨fun h => by omega, fun h => by omega⟩
  simp only [Result.andThen, sliced, cutAt, e, Nat.sub_zero]
theorem run_cutP (W : World) (a : Option Addr) (n c : Nat) (k : IntKind) (l : Int) (h0 : 0 ≤ l) (h1 : l ≤ n) :
    (Instr.slice 98 (.slice a n c) (some (.int k l)) none none).run Try.prog W = .ok (.slice (cutAt a (c * 2) (l.toNat * 2)) (n - l.toNat) (c - l.toNat)) W := by
  rw [run_slice_l (P := Try.prog) (w := W) 98 a n c (by kernel_rfl) k l h0 h1]
  have hs : (sizeOf (Try.prog.elem 98)).run Try.prog W = .ok 2 W := by kernel_rfl
  rw [hs]
  have e : (c * 2 = l.toNat * 2) = (c = l.toNat) := propext ⟨fun h => by omega, fun h => by omega⟩
  simp only [Result.andThen, sliced, cutAt, e]
theorem PIAt.head {w : World} {B : Nat} {A : Option Addr} {n c k : Nat} {L : List PI} (h : PIAt w B A n L) (hk : k ≤ n) (hc : n ≤ c) : PIAt w B (cutAt A (c * 2) (0 * 2)) k (L.take k) := by
  have := (h.drop (k := 0) (Nat.zero_le n) hc).take (k := k) (by omega)
  simpa using this
end Go.Proofs.Ytjpmabdnaooglaa

namespace Go.Proofs.Ytjpmabdnaooglaa
open Go.RowKit

/-- Whatever has come up, what it waits for has come up too. -/
def ShutUp (md : Region.Mode) (ops : Array Oper) (listed : Array Bool) : Prop := ∀ j oj, ops[j]? = some oj → listed.getD j false = true → ∀ e ∈ oj.after, Region.binds md e = true → listed.getD e.on false = true
def shutUpB (md : Region.Mode) (ops : Array Oper) (listed : Array Bool) : Bool :=
  (List.range ops.size).all fun j => !listed.getD j false || match ops[j]? with
    | some oj => oj.after.all fun e => !Region.binds md e || listed.getD e.on false
    | none => true
theorem shutUp_of {md : Region.Mode} {ops : Array Oper} {listed : Array Bool} (h : shutUpB md ops listed = true) : ShutUp md ops listed := by
  intro j oj hj hl e he hb
  have hlt := (Array.getElem?_eq_some_iff.1 hj).1
  unfold shutUpB at h
  rw [List.all_eq_true] at h
  have h1 := h j (List.mem_range.2 hlt)
  rw [hl, hj] at h1
  simp only [Bool.not_true, Bool.false_or, Array.all_eq_true_iff_forall_mem] at h1
  have h2 := h1 e he
  rw [hb] at h2
  simpa using h2
theorem ShutUp.set {md : Region.Mode} {ops : Array Oper} {listed : Array Bool} (h : ShutUp md ops listed) {j : Nat} (hj : j ∈ Region.ready md ops listed) : ShutUp md ops (listed.setIfInBounds j true) := by
  intro k ok hk hl e he hb
  by_cases hkj : j = k
  · subst hkj
    obtain ⟨_, o, ho, hall⟩ := mem_ready.1 hj
    obtain rfl : ok = o := Option.some.inj (hk.symm.trans ho)
    exact getD_set_true (hall e he hb)
  · rw [getD_set_ne false hkj] at hl
    exact getD_set_true (h k ok hk hl e he hb)
/-- i comes up ahead of n in every order. -/
def aheadB (md : Region.Mode) (ops : Array Oper) (n : Nat) : Nat → Nat → Bool
  | 0, i => Region.waitsFor md ops n i
  | f + 1, i => Region.waitsFor md ops n i || (List.range ops.size).any fun k => Region.waitsFor md ops k i && aheadB md ops n f k
theorem ShutUp.waits {md : Region.Mode} {ops : Array Oper} {listed : Array Bool} (h : ShutUp md ops listed) {j i : Nat} (hw : Region.waitsFor md ops j i = true) (hj : listed.getD j false = true) : listed.getD i false = true := by
  obtain ⟨oj, hoj, e, he, hb, rfl⟩ := Region.waitsFor_spec hw
  exact h j oj hoj hj e he hb
theorem ShutUp.ahead {md : Region.Mode} {ops : Array Oper} {listed : Array Bool} (h : ShutUp md ops listed) {n : Nat} (hn : listed.getD n false = true) : ∀ (f i : Nat), aheadB md ops n f i = true → listed.getD i false = true
  | 0, i, ha => h.waits ha hn
  | f + 1, i, ha => by
    unfold aheadB at ha
    rw [Bool.or_eq_true, List.any_eq_true] at ha
    rcases ha with ha | ⟨k, _, ha⟩
    · exact h.waits ha hn
    · rw [Bool.and_eq_true] at ha
      exact h.waits ha.1 (h.ahead hn f k ha.2)

section
variable {P : Program} {ops : Array Oper} {Q : Exit → Act → World → Prop} {md : Region.Mode} {S : World → Prop} {n : Nat}
/-- Whatever order is picked from here on; S holds till number n comes up. -/
def wpAnyT (P : Program) (md : Region.Mode) (ops : Array Oper) (Q : Exit → Act → World → Prop) (S : World → Prop) (n : Nat) : Nat → Array Bool → Act → World → Prop
  | 0, listed, a, w => Region.ready md ops listed = [] ∧ Q .normal a w
  | fuel + 1, listed, a, w =>
    (Region.ready md ops listed = [] → Q .normal a w) ∧
    ∀ i ∈ Region.ready md ops listed, wpOp P ops Q i (fun a' w' => ((listed.setIfInBounds i true).getD n false = false → S w') ∧ wpAnyT P md ops Q S n fuel (listed.setIfInBounds i true) a' w') a w
theorem wpAny_of_T : ∀ (fuel : Nat) (listed : Array Bool) (a : Act) (w : World), wpAnyT P md ops Q S n fuel listed a w → wpAny P md ops Q fuel listed a w
  | 0, _, _, _, h => h
  | fuel + 1, _, _, _, h => ⟨h.1, fun i hi => wpOp_mono (fun a' w' h' => wpAny_of_T fuel _ a' w' h'.2) (h.2 i hi)⟩
theorem wpAnyT_first {i : Nat} {oi : Oper} {v : Value} (hi : ops[i]? = some oi) (hsel : ∀ (j : Nat) (o : Oper) cs b, ops[j]? = some o → o.op ≠ .select cs b)
    (hQ : ∀ c a w, Q (.panic c) (a.put oi.dst v) w → Q (.panic c) a w) (hni : i ≠ n) {f : Nat} (hah : aheadB md ops n f i = true) :
    ∀ (fuel : Nat) (listed : Array Bool) (a : Act) (w : World),
      (∀ j oj, ops[j]? = some oj → j ≠ i → listed.getD j true = false → (∀ e ∈ oj.after, Region.binds md e = true → e.on ≠ i) → oi.apart ops oj = true) →
      i ∈ Region.ready md ops listed → ShutUp md ops listed → YieldsIf P ops S oi v a → S w →
      wpAnyT P md ops Q S n fuel (listed.setIfInBounds i true) (a.put oi.dst v) w → wpAnyT P md ops Q S n (fuel + 1) listed a w := by
  intro fuel
  induction fuel with
  | zero =>
    intro listed a w _ hr _ hy hS H
    refine ⟨fun h => (by rw [h] at hr; cases hr), fun j hj => ?_⟩
    by_cases hji : j = i
    · subst hji; exact hy.wpOp hi hS ⟨fun _ => hS, H⟩
    · have := ready_mono hj hji
      rw [H.1] at this
      cases this
  | succ fuel ih =>
    intro listed a w hfree hr hsh hy hS H
    refine ⟨fun h => (by rw [h] at hr; cases hr), fun j hj => ?_⟩
    by_cases hji : j = i
    · subst hji; exact hy.wpOp hi hS ⟨fun _ => hS, H⟩
    · have h1 := H.2 j (ready_mono hj hji)
      obtain ⟨hjun, oj, hoj, hall⟩ := mem_ready.1 hj
      have hiun := (mem_ready.1 hr).1
      have hiun' : listed.getD i false = false := getD_both hiun
      have hnot : ∀ e ∈ oj.after, Region.binds md e = true → e.on ≠ i := fun e he hb heq => by
        have h1 := hall e he hb
        rw [heq, hiun'] at h1
        cases h1
      have h2 := wpOp_putIf hoj (hfree j oj hoj hji hjun hnot) (fun cs b => hsel i oi cs b hi) (fun cs b => hsel j oj cs b hoj) hQ hy h1
      have hfree' : ∀ k ok, ops[k]? = some ok → k ≠ i → (listed.setIfInBounds j true).getD k true = false →
          (∀ e ∈ ok.after, Region.binds md e = true → e.on ≠ i) → oi.apart ops ok = true := fun k ok hk hki hun hno => by
        refine hfree k ok hk hki ?_ hno
        by_cases hjk : j = k
        · subst hjk; exact hjun
        · rw [getD_set_ne true hjk] at hun; exact hun
      have hsh' := hsh.set hj
      have hnun : (listed.setIfInBounds j true).getD n false = false := by
        cases hl : (listed.setIfInBounds j true).getD n false with
        | false => rfl
        | true =>
          have := hsh'.ahead hl f i hah
          rw [getD_set_ne false hji, hiun'] at this
          cases this
      refine wpOp_mono (fun a' w' h3 => ?_) h2
      have hS' : S w' := h3.2.1 (by rw [Array.setIfInBounds_comm _ _ (Ne.symm hji), getD_set_ne false hni]; exact hnun)
      refine ⟨fun _ => hS', ih (listed.setIfInBounds j true) a' w' hfree' (ready_mono hr (Ne.symm hji)) hsh' h3.1 hS' ?_⟩
      rw [Array.setIfInBounds_comm _ _ hji]
      exact h3.2.2
/-- Take number i first. -/
theorem wpAnyT_take (i : Nat) (d : Option Tmp) (v : Value) (listed' : Array Bool) {oi : Oper} {fuel : Nat} {listed : Array Bool} {a : Act} {w : World} (hi : ops[i]? = some oi) (hd : oi.dst = d) (hl : listed.setIfInBounds i true = listed')
    (hb : (Region.noSelect ops && Region.free md ops listed i && (Region.ready md ops listed).contains i && shutUpB md ops listed && aheadB md ops n ops.size i && !(i == n)) = true)
    (hQ : ∀ c a w, Q (.panic c) (a.put oi.dst v) w → Q (.panic c) a w) (hS : S w) (hw : Region.wanted oi (yielded ops a.tmps) = true) (hy : ∀ W, S W → (execOp a.eval oi).run P W = .ok (.value v) W)
    (h : wpAnyT P md ops Q S n fuel listed' (a.put d v) w) : wpAnyT P md ops Q S n (fuel + 1) listed a w := by
  subst hd
  subst hl
  simp only [Bool.and_eq_true, Bool.not_eq_true', beq_eq_false_iff_ne, ne_eq] at hb
  obtain ⟨⟨⟨⟨⟨hs, hf⟩, hr⟩, hc⟩, ha⟩, hn⟩ := hb
  exact wpAnyT_first hi (Region.noSelect_spec hs) hQ hn ha fuel listed a w (Region.free_spec hi hf) (by simpa using hr) (shutUp_of hc) (.inl ⟨hw, hy⟩) hS h
/-- Number i is not wanted: skip it first. -/
theorem wpAnyT_skip (i : Nat) (d : Option Tmp) (listed' : Array Bool) {oi : Oper} {fuel : Nat} {listed : Array Bool} {a : Act} {w : World} (hi : ops[i]? = some oi) (hd : oi.dst = d) (hl : listed.setIfInBounds i true = listed')
    (hb : (Region.noSelect ops && Region.free md ops listed i && (Region.ready md ops listed).contains i && shutUpB md ops listed && aheadB md ops n ops.size i && !(i == n)) = true)
    (hQ : ∀ c a w, Q (.panic c) (a.put oi.dst undef) w → Q (.panic c) a w) (hS : S w) (hw : Region.wanted oi (yielded ops a.tmps) = false)
    (h : wpAnyT P md ops Q S n fuel listed' (a.put d undef) w) : wpAnyT P md ops Q S n (fuel + 1) listed a w := by
  subst hd
  subst hl
  simp only [Bool.and_eq_true, Bool.not_eq_true', beq_eq_false_iff_ne, ne_eq] at hb
  obtain ⟨⟨⟨⟨⟨hs, hf⟩, hr⟩, hc⟩, ha⟩, hn⟩ := hb
  exact wpAnyT_first hi (Region.noSelect_spec hs) hQ hn ha fuel listed a w (Region.free_spec hi hf) (by simpa using hr) (shutUp_of hc) (.inr ⟨hw, rfl⟩) hS h
/-- One operation alone may come up. -/
theorem wpAnyT_only (i : Nat) (listed' : Array Bool) {o : Oper} {fuel : Nat} {listed : Array Bool} {a : Act} {w : World} (hr : Region.ready md ops listed = [i]) (ho : ops[i]? = some o) (hl : listed.setIfInBounds i true = listed') (hw : Region.wanted o (yielded ops a.tmps) = true)
    (h : ∀ K' : Act → World → Prop, (∀ a w, (listed'.getD n false = false → S w) → wpAnyT P md ops Q S n fuel listed' a w → K' a w) → Oper.wp P o a w K' Q) :
    wpAnyT P md ops Q S n (fuel + 1) listed a w := by
  subst hl
  refine ⟨fun h0 => by rw [h0] at hr; simp at hr, fun j hj => ?_⟩
  rw [hr] at hj
  obtain rfl : j = i := by simpa using hj
  exact wpOp_step ho (fun K' hK => by rw [if_pos hw]; exact h K' (fun a w hS hW => hK a w ⟨hS, hW⟩))
theorem wpAnyT_done {listed : Array Bool} {a : Act} {w : World} (hr : Region.ready md ops listed = []) (h : Q .normal a w) : ∀ fuel, wpAnyT P md ops Q S n fuel listed a w
  | 0 => ⟨hr, h⟩
  | _ + 1 => ⟨fun _ => h, by rw [hr]; simp⟩
/-- The beginning. -/
theorem wp_region_T {id : Nat} {a : Act} {w : World} (S : World → Prop) (n m : Nat) (listed : Array Bool) (hm : P.follows .mixedOrders = true) (hm' : ops.size = m) (hl : Array.replicate m false = listed) (hS : S w.drew)
    (h : S w.drew → wpAnyT P .any ops Q S n m listed a w.drew) : (Code.region id ops true).wp P Q a w :=
  wp_region_any hm (by rw [hm', hl]; exact wpAny_of_T _ _ _ _ (h hS))
end
end Go.Proofs.Ytjpmabdnaooglaa

namespace Go.Proofs.Ytjpmabdnaooglaa
open Go.RowKit

section
variable {P : Program} {ops : Array Oper} {Q : Exit → Act → World → Prop} {md : Region.Mode} {S : World → Prop} {n : Nat}
theorem wpAnyT_firstP {i : Nat} {oi : Oper} {v : Value} (hi : ops[i]? = some oi) (hsel : ∀ (j : Nat) (o : Oper) cs b, ops[j]? = some o → o.op ≠ .select cs b)
    (hQ : ∀ c a w, Q (.panic c) (a.put oi.dst v) w → Q (.panic c) a w) (hni : i ≠ n) :
    ∀ (fuel : Nat) (listed : Array Bool) (a : Act) (w : World),
      (∀ j oj, ops[j]? = some oj → j ≠ i → listed.getD j true = false → (∀ e ∈ oj.after, Region.binds md e = true → e.on ≠ i) → oi.apart ops oj = true) →
      i ∈ Region.ready md ops listed → YieldsIf P ops (fun _ => True) oi v a → (listed.getD n false = false → S w) →
      wpAnyT P md ops Q S n fuel (listed.setIfInBounds i true) (a.put oi.dst v) w → wpAnyT P md ops Q S n (fuel + 1) listed a w := by
  intro fuel
  induction fuel with
  | zero =>
    intro listed a w _ hr hy hS H
    refine ⟨fun h => (by rw [h] at hr; cases hr), fun j hj => ?_⟩
    by_cases hji : j = i
    · subst hji; exact hy.wpOp hi trivial ⟨fun h => hS (by rwa [getD_set_ne false hni] at h), H⟩
    · have := ready_mono hj hji
      rw [H.1] at this
      cases this
  | succ fuel ih =>
    intro listed a w hfree hr hy hS H
    refine ⟨fun h => (by rw [h] at hr; cases hr), fun j hj => ?_⟩
    by_cases hji : j = i
    · subst hji; exact hy.wpOp hi trivial ⟨fun h => hS (by rwa [getD_set_ne false hni] at h), H⟩
    · have h1 := H.2 j (ready_mono hj hji)
      obtain ⟨hjun, oj, hoj, hall⟩ := mem_ready.1 hj
      have hiun := (mem_ready.1 hr).1
      have hiun' : listed.getD i false = false := getD_both hiun
      have hnot : ∀ e ∈ oj.after, Region.binds md e = true → e.on ≠ i := fun e he hb heq => by
        have h1 := hall e he hb
        rw [heq, hiun'] at h1
        cases h1
      have h2 := wpOp_putIf hoj (hfree j oj hoj hji hjun hnot) (fun cs b => hsel i oi cs b hi) (fun cs b => hsel j oj cs b hoj) hQ hy h1
      have hfree' : ∀ k ok, ops[k]? = some ok → k ≠ i → (listed.setIfInBounds j true).getD k true = false →
          (∀ e ∈ ok.after, Region.binds md e = true → e.on ≠ i) → oi.apart ops ok = true := fun k ok hk hki hun hno => by
        refine hfree k ok hk hki ?_ hno
        by_cases hjk : j = k
        · subst hjk; exact hjun
        · rw [getD_set_ne true hjk] at hun; exact hun
      refine wpOp_mono (fun a' w' h3 => ?_) h2
      have hS' : (listed.setIfInBounds j true).getD n false = false → S w' := fun h => h3.2.1 (by rw [Array.setIfInBounds_comm _ _ (Ne.symm hji), getD_set_ne false hni]; exact h)
      refine ⟨hS', ih (listed.setIfInBounds j true) a' w' hfree' (ready_mono hr (Ne.symm hji)) h3.1 hS' ?_⟩
      rw [Array.setIfInBounds_comm _ _ hji]
      exact h3.2.2
/-- Take number i, which asks nothing of the world, first. -/
theorem wpAnyT_pure (i : Nat) (d : Option Tmp) (v : Value) (listed' : Array Bool) {oi : Oper} {fuel : Nat} {listed : Array Bool} {a : Act} {w : World} (hi : ops[i]? = some oi) (hd : oi.dst = d) (hl : listed.setIfInBounds i true = listed')
    (hb : (Region.noSelect ops && Region.free md ops listed i && (Region.ready md ops listed).contains i && !(i == n)) = true)
    (hQ : ∀ c a w, Q (.panic c) (a.put oi.dst v) w → Q (.panic c) a w) (hS : listed.getD n false = false → S w) (hw : Region.wanted oi (yielded ops a.tmps) = true) (hy : ∀ W, (execOp a.eval oi).run P W = .ok (.value v) W)
    (h : wpAnyT P md ops Q S n fuel listed' (a.put d v) w) : wpAnyT P md ops Q S n (fuel + 1) listed a w := by
  subst hd
  subst hl
  simp only [Bool.and_eq_true, Bool.not_eq_true', beq_eq_false_iff_ne, ne_eq] at hb
  obtain ⟨⟨⟨hs, hf⟩, hr⟩, hn⟩ := hb
  exact wpAnyT_firstP hi (Region.noSelect_spec hs) hQ hn fuel listed a w (Region.free_spec hi hf) (by simpa using hr) (.inl ⟨hw, fun W _ => hy W⟩) hS h
/-- Two operations may come up: both ways. -/
theorem wpAnyT_two (i j : Nat) (li lj : Array Bool) {oi oj : Oper} {fuel : Nat} {listed : Array Bool} {a : Act} {w : World} (hr : Region.ready md ops listed = [i, j]) (hoi : ops[i]? = some oi) (hoj : ops[j]? = some oj) (hli : listed.setIfInBounds i true = li) (hlj : listed.setIfInBounds j true = lj)
    (hwi : Region.wanted oi (yielded ops a.tmps) = true) (hwj : Region.wanted oj (yielded ops a.tmps) = true)
    (hi : ∀ K' : Act → World → Prop, (∀ a w, (li.getD n false = false → S w) → wpAnyT P md ops Q S n fuel li a w → K' a w) → Oper.wp P oi a w K' Q)
    (hj : ∀ K' : Act → World → Prop, (∀ a w, (lj.getD n false = false → S w) → wpAnyT P md ops Q S n fuel lj a w → K' a w) → Oper.wp P oj a w K' Q) :
    wpAnyT P md ops Q S n (fuel + 1) listed a w := by
  subst hli
  subst hlj
  refine ⟨fun h0 => by rw [h0] at hr; simp at hr, fun k hk => ?_⟩
  rw [hr] at hk
  simp only [List.mem_cons, List.not_mem_nil, or_false] at hk
  rcases hk with rfl | rfl
  · exact wpOp_step hoi (fun K' hK => by rw [if_pos hwi]; exact hi K' (fun a w hS hW => hK a w ⟨hS, hW⟩))
  · exact wpOp_step hoj (fun K' hK => by rw [if_pos hwj]; exact hj K' (fun a w hS hW => hK a w ⟨hS, hW⟩))
end
end Go.Proofs.Ytjpmabdnaooglaa

namespace Go.Proofs.Ytjpmabdnaooglaa
open Go.RowKit

/-- Draws, and new blocks alone. -/
def Gr (w w' : World) : Prop := ∃ q os, w' = Go.Sort.grow (w.drewN q) os
theorem Gr.refl (w : World) : Gr w w := ⟨0, #[], by rw [Go.Sort.grow_empty]; rfl⟩
theorem Gr.drewN {a b : World} (h : Gr a b) (n : Nat) : Gr a (b.drewN n) := by
  obtain ⟨q, os, rfl⟩ := h
  refine ⟨q + n, os, ?_⟩
  rw [← World.drewN_drewN]
  rfl
theorem Gr.drew {a b : World} (h : Gr a b) : Gr a b.drew := h.drewN 1
theorem Gr.alloc {a b : World} (h : Gr a b) (o : Obj) : Gr a (b.alloc o) := by
  obtain ⟨q, os, rfl⟩ := h
  exact ⟨q, os ++ #[o], by rw [Go.Sort.alloc_eq_grow, Go.Sort.grow_grow]⟩
theorem Gr.trans {a b c : World} (h : Gr a b) (k : Gr b c) : Gr a c := by
  obtain ⟨q, os, rfl⟩ := h
  obtain ⟨p, os', rfl⟩ := k
  refine ⟨q + p, os ++ os', ?_⟩
  rw [← Go.Sort.grow_grow, ← World.drewN_drewN]
  rfl
theorem Gr.ext {a b : World} (h : Gr a b) : Ext a b := by
  obtain ⟨q, os, rfl⟩ := h
  exact ⟨rfl, rfl, rfl, by simp, fun k hk => by
    have := Go.Sort.cell?_grow (a.drewN q) os
    show (a.heap ++ os)[k]? = a.heap[k]?
    rw [Array.getElem?_append_left hk]⟩
/-- As two numbers are compared. -/
def cmpN (x y : Int) : Int := if x < y then -1 else if y < x then 1 else 0
/-- The first that isn't 0. -/
def orN (x y : Int) : Int := if x = 0 then y else x
/-- What the order says of two items. -/
def cmpPI (x y : Nat × Nat) : Int := orN (cmpN x.1 y.1) (cmpN x.2 y.2)

theorem isNaNU_any (x : Int) (w : World) : Calls Try.prog 60 #[.int .u64 x] w fun e w' => e = .returned (.bool false) ∧ w = w' := by
  go_enter Try.func60, Try.ntmps60
  go_wp2
  go_ret
  exact ⟨by simp, rfl⟩
theorem isNaNI_any (x : Int) (w : World) : Calls Try.prog 61 #[.int .i64 x] w fun e w' => e = .returned (.bool false) ∧ w = w' := by
  go_enter Try.func61, Try.ntmps61
  go_wp2
  go_ret
  exact ⟨by simp, rfl⟩

set_option maxHeartbeats 1000000 in
theorem compareU_any (x y : Int) (w : World) : Calls Try.prog 48 #[.int .u64 x, .int .u64 y] w fun e w' => e = .returned (.int .i64 (cmpN x y)) ∧ Gr w w' := by
  have HC : ∀ c, cmpN x y = c → Ending.returned (.int .i64 c) = .returned (.int .i64 (cmpN x y)) := fun c h => by rw [h]
  have H1 : x < y → cmpN x y = -1 := fun h => if_pos h
  have H2 : ¬ x < y → y < x → cmpN x y = 1 := fun h k => by unfold cmpN; rw [if_neg h, if_pos k]
  have H3 : ¬ x < y → ¬ y < x → cmpN x y = 0 := fun h k => by unfold cmpN; rw [if_neg h, if_neg k]
  go_enter Try.func48, Try.ntmps48
  go_wp2_with (first | (go_at_call 60; refine (isNaNU_any _ _).mono ?_; rintro e w' ⟨rfl, rfl⟩))
  all_goals
    go_ret
    exact ⟨by first | exact HC _ (H1 (by assumption)) | exact HC _ (H2 (by omega) (by omega)) | exact HC _ (H3 (by omega) (by omega)), Gr.refl _⟩
set_option maxHeartbeats 1000000 in
theorem compareI_any (x y : Int) (w : World) : Calls Try.prog 49 #[.int .i64 x, .int .i64 y] w fun e w' => e = .returned (.int .i64 (cmpN x y)) ∧ Gr w w' := by
  have HC : ∀ c, cmpN x y = c → Ending.returned (.int .i64 c) = .returned (.int .i64 (cmpN x y)) := fun c h => by rw [h]
  have H1 : x < y → cmpN x y = -1 := fun h => if_pos h
  have H2 : ¬ x < y → y < x → cmpN x y = 1 := fun h k => by unfold cmpN; rw [if_neg h, if_pos k]
  have H3 : ¬ x < y → ¬ y < x → cmpN x y = 0 := fun h k => by unfold cmpN; rw [if_neg h, if_neg k]
  go_enter Try.func49, Try.ntmps49
  go_wp2_with (first | (go_at_call 61; refine (isNaNI_any _ _).mono ?_; rintro e w' ⟨rfl, rfl⟩))
  all_goals
    go_ret
    exact ⟨by first | exact HC _ (H1 (by assumption)) | exact HC _ (H2 (by omega) (by omega)) | exact HC _ (H3 (by omega) (by omega)), Gr.refl _⟩

set_option maxHeartbeats 1000000 in
theorem or_any (x y : Int) (g : Nat) (w : World) (h0 : w.cell? ⟨g, 0, none⟩ = some (.int .i64 x)) (h1 : w.cell? ⟨g, 1, none⟩ = some (.int .i64 y)) :
    Calls Try.prog 47 #[.slice (some ⟨g, 0, none⟩) 2 2] w fun e w' => e = .returned (.int .i64 (orN x y)) ∧ Gr w w' := by
  have HX : ∀ c, (orN x y) = c → Ending.returned (.int .i64 c) = .returned (.int .i64 (orN x y)) := fun c h => by rw [h]
  have HXH := hide HX
  clear HX
  go_enter Try.func47, Try.ntmps47
  go_wp2
  go_loop [8] (fun i => ∃ k : Nat, k ≤ 2 ∧ i = .int .i64 k ∧ (1 ≤ k → x = 0) ∧ (2 ≤ k → y = 0)) (fun i => 2 - (intOf i).toNat)
  case atStart => exact ⟨0, by omega, rfl, fun h => by omega, fun h => by omega⟩
  case round =>
    obtain ⟨k, hk, rfl, hx, hy⟩ := hrel
    match k, hk with
    | 0, _ =>
      by_cases h : x = 0
      · have hb : (x != 0) = false := by rw [h]; rfl
        clear hx hy
        have HH := hide h
        clear h
        go_wp2
        go_round
        case rel => exact ⟨1, by omega, rfl, fun _ => HH.out, fun h => by omega⟩
        case measure => simp [intOf]
      · have hb : (x != 0) = true := by simpa using h
        clear hx hy
        have HH := hide h
        clear h
        go_wp2
        go_ret
        exact ⟨HXH.out _ (if_neg HH.out), Gr.refl _⟩
    | 1, _ =>
      have HX0 := hide (hx (by omega))
      clear hx
      by_cases h : y = 0
      · have hb : (y != 0) = false := by rw [h]; rfl
        clear hy
        have HH := hide h
        clear h
        go_wp2
        go_round
        case rel => exact ⟨2, by omega, rfl, fun _ => HX0.out, fun _ => HH.out⟩
        case measure => simp [intOf]
      · have hb : (y != 0) = true := by simpa using h
        clear hy h
        go_wp2
        go_ret
        exact ⟨HXH.out _ (if_pos HX0.out), Gr.refl _⟩
    | 2, _ =>
      have HX0 := hide (hx (by omega))
      have HY0 := hide (hy (by omega))
      clear hx hy
      go_wp2
      go_ret
      exact ⟨HXH.out _ (by unfold orN; rw [if_pos HX0.out]; exact HY0.out), Gr.refl _⟩

set_option maxHeartbeats 2000000 in
set_option maxRecDepth 100000 in
theorem order_any (x y : Nat × Nat) (w : World) :
    Calls Try.prog 46 #[.agg #[.int .u64 (x.1 : Int), .int .i64 (x.2 : Int)], .agg #[.int .u64 (y.1 : Int), .int .i64 (y.2 : Int)]] w fun e w' => e = .returned (.int .i64 (cmpPI x y)) ∧ Gr w w' := by
  unfold cmpPI
  have hC : ∀ W, Ext ((w.alloc (.cells #[.int .u64 (x.1 : Int), .int .i64 (x.2 : Int)] 93)).alloc (.cells #[.int .u64 (y.1 : Int), .int .i64 (y.2 : Int)] 93)) W →
      W.cell? ⟨w.heap.size, 0, none⟩ = some (.int .u64 (x.1 : Int)) ∧ W.cell? ⟨w.heap.size, 1, none⟩ = some (.int .i64 (x.2 : Int)) ∧ W.cell? ⟨w.heap.size + 1, 0, none⟩ = some (.int .u64 (y.1 : Int)) ∧ W.cell? ⟨w.heap.size + 1, 1, none⟩ = some (.int .i64 (y.2 : Int)) := fun W hE => by
    have k1 := fun i => (extNew (w.alloc (.cells #[.int .u64 (x.1 : Int), .int .i64 (x.2 : Int)] 93)) (.cells #[.int .u64 (y.1 : Int), .int .i64 (y.2 : Int)] 93)).cell (g := w.heap.size) (i := i) (by simp)
    have k2 := cellNew w #[.int .u64 (x.1 : Int), .int .i64 (x.2 : Int)] 93 (0, 0)
    have k3 := cellNew (w.alloc (.cells #[.int .u64 (x.1 : Int), .int .i64 (x.2 : Int)] 93)) #[.int .u64 (y.1 : Int), .int .i64 (y.2 : Int)] 93 (0, 0)
    rw [World.size_alloc] at k3
    refine ⟨?_, ?_, ?_, ?_⟩
    · rw [hE.cell (by simp; omega), k1, k2]; rfl
    · rw [hE.cell (by simp; omega), k1, k2]; rfl
    · rw [hE.cell (by simp), k3]; rfl
    · rw [hE.cell (by simp), k3]; rfl
  have hG2 : Gr w ((w.alloc (.cells #[.int .u64 (x.1 : Int), .int .i64 (x.2 : Int)] 93)).alloc (.cells #[.int .u64 (y.1 : Int), .int .i64 (y.2 : Int)] 93)) := ((Gr.refl w).alloc _).alloc _
  go_enter Try.func46, Try.ntmps46
  go_wp2_with fail
  generalize hw2 : (w.alloc (.cells #[.int .u64 (x.1 : Int), .int .i64 (x.2 : Int)] 93)).alloc (.cells #[.int .u64 (y.1 : Int), .int .i64 (y.2 : Int)] 93) = w2 at hC hG2 ⊢
  clear hw2
  refine wp_region_T (fun W => Gr w2 W) 12 13 #[false, false, false, false, false, false, false, false, false, false, false, false, false] (by kernel_rfl) rfl rfl (Gr.refl w2).drew ?_
  intro hS0
  refine wpAnyT_take 0 (some 5) (.pointer (some ⟨w.heap.size, 0, none⟩)) #[true, false, false, false, false, false, false, false, false, false, false, false, false] rfl rfl rfl (by kernel_rfl) (fun _ _ _ h => h) hS0 (by rfl) (fun W hX => by go_simp) ?_
  simp only [Act.put, List.setIfInBounds_toArray, List.set_cons_zero, List.set_cons_succ]
  refine wpAnyT_take 1 (some 6) (.int .u64 (x.1 : Int)) #[true, true, false, false, false, false, false, false, false, false, false, false, false] rfl rfl rfl (by kernel_rfl) (fun _ _ _ h => h) hS0 (by rfl) (fun W hX => by obtain ⟨f0, f1, f2, f3⟩ := hC W hX.ext; go_simp) ?_
  simp only [Act.put, List.setIfInBounds_toArray, List.set_cons_zero, List.set_cons_succ]
  refine wpAnyT_take 2 (some 7) (.pointer (some ⟨w.heap.size + 1, 0, none⟩)) #[true, true, true, false, false, false, false, false, false, false, false, false, false] rfl rfl rfl (by kernel_rfl) (fun _ _ _ h => h) hS0 (by rfl) (fun W hX => by go_simp) ?_
  simp only [Act.put, List.setIfInBounds_toArray, List.set_cons_zero, List.set_cons_succ]
  refine wpAnyT_take 3 (some 8) (.int .u64 (y.1 : Int)) #[true, true, true, true, false, false, false, false, false, false, false, false, false] rfl rfl rfl (by kernel_rfl) (fun _ _ _ h => h) hS0 (by rfl) (fun W hX => by obtain ⟨f0, f1, f2, f3⟩ := hC W hX.ext; go_simp) ?_
  simp only [Act.put, List.setIfInBounds_toArray, List.set_cons_zero, List.set_cons_succ]
  refine wpAnyT_take 5 (some 10) (.pointer (some ⟨w.heap.size, 1, none⟩)) #[true, true, true, true, false, true, false, false, false, false, false, false, false] rfl rfl rfl (by kernel_rfl) (fun _ _ _ h => h) hS0 (by rfl) (fun W hX => by go_simp) ?_
  simp only [Act.put, List.setIfInBounds_toArray, List.set_cons_zero, List.set_cons_succ]
  refine wpAnyT_take 6 (some 11) (.int .i64 (x.2 : Int)) #[true, true, true, true, false, true, true, false, false, false, false, false, false] rfl rfl rfl (by kernel_rfl) (fun _ _ _ h => h) hS0 (by rfl) (fun W hX => by obtain ⟨f0, f1, f2, f3⟩ := hC W hX.ext; go_simp) ?_
  simp only [Act.put, List.setIfInBounds_toArray, List.set_cons_zero, List.set_cons_succ]
  refine wpAnyT_take 7 (some 12) (.pointer (some ⟨w.heap.size + 1, 1, none⟩)) #[true, true, true, true, false, true, true, true, false, false, false, false, false] rfl rfl rfl (by kernel_rfl) (fun _ _ _ h => h) hS0 (by rfl) (fun W hX => by go_simp) ?_
  simp only [Act.put, List.setIfInBounds_toArray, List.set_cons_zero, List.set_cons_succ]
  refine wpAnyT_take 8 (some 13) (.int .i64 (y.2 : Int)) #[true, true, true, true, false, true, true, true, true, false, false, false, false] rfl rfl rfl (by kernel_rfl) (fun _ _ _ h => h) hS0 (by rfl) (fun W hX => by obtain ⟨f0, f1, f2, f3⟩ := hC W hX.ext; go_simp) ?_
  simp only [Act.put, List.setIfInBounds_toArray, List.set_cons_zero, List.set_cons_succ]
  refine wpAnyT_only 4 #[true, true, true, true, true, true, true, true, true, false, false, false, false] (by kernel_rfl) rfl rfl (by rfl) (fun K0 hK0 => ?_)
  go_simp
  go_at_call 48
  refine ((compareU_any _ _) _).mono ?_
  rintro e wc0 ⟨rfl, hC0⟩
  have hX0 := hS0.trans hC0
  refine hK0 _ _ (fun _ => hX0) ?_
  clear hK0 K0
  refine wpAnyT_only 9 #[true, true, true, true, true, true, true, true, true, true, false, false, false] (by kernel_rfl) rfl rfl (by rfl) (fun K1 hK1 => ?_)
  go_simp
  go_at_call 49
  refine ((compareI_any _ _) _).mono ?_
  rintro e wc1 ⟨rfl, hC1⟩
  have hX1 := hX0.trans hC1
  refine hK1 _ _ (fun _ => hX1) ?_
  clear hK1 K1
  refine wpAnyT_only 10 #[true, true, true, true, true, true, true, true, true, true, true, false, false] (by kernel_rfl) rfl rfl (by rfl) (fun K2 hK2 => ?_)
  go_simp
  refine hK2 _ _ (fun _ => hX1.alloc _) ?_
  clear hK2 K2
  have g0 := cellNew wc1 #[.int .i64 (cmpN (x.1 : Int) (y.1 : Int)), .int .i64 (cmpN (x.2 : Int) (y.2 : Int))] 3 (0, 0) 0
  have g1 := cellNew wc1 #[.int .i64 (cmpN (x.1 : Int) (y.1 : Int)), .int .i64 (cmpN (x.2 : Int) (y.2 : Int))] 3 (0, 0) 1
  refine wpAnyT_only 11 #[true, true, true, true, true, true, true, true, true, true, true, true, false] (by kernel_rfl) rfl rfl (by rfl) (fun K3 hK3 => ?_)
  go_simp
  go_at_call 47
  refine (or_any _ _ _ _ g0 g1).mono ?_
  rintro e w4 ⟨rfl, hE4⟩
  have hX4 := (hX1.alloc _).trans hE4
  refine hK3 _ _ (fun _ => hX4) ?_
  clear hK3 K3 g0 g1
  refine wpAnyT_only 12 #[true, true, true, true, true, true, true, true, true, true, true, true, true] (by kernel_rfl) rfl rfl (by rfl) (fun K5 hK5 => ?_)
  go_simp
  refine hK5 _ _ (fun h => absurd h (by decide)) (wpAnyT_done (by kernel_rfl) ?_ _)
  clear hK5 K5
  go_wp2
  go_ret
  exact ⟨rfl, hG2.trans hX4⟩
end Go.Proofs.Ytjpmabdnaooglaa

namespace Go.Proofs.Ytjpmabdnaooglaa
open Go.RowKit Len

def ltP (x y : PI) : Bool := decide (cmpPI x y < 0)
def sortP (L : List PI) : List PI := L.mergeSort fun x y => !ltP y x
theorem ltP_iff {x y : PI} : ltP x y = true ↔ LexP x y := by
  unfold ltP cmpPI orN LexP
  have h1 : cmpN (x.1 : Int) (y.1 : Int) = if x.1 < y.1 then -1 else if y.1 < x.1 then 1 else 0 := by unfold cmpN; simp only [Int.ofNat_lt]
  have h2 : cmpN (x.2 : Int) (y.2 : Int) = if x.2 < y.2 then -1 else if y.2 < x.2 then 1 else 0 := by unfold cmpN; simp only [Int.ofNat_lt]
  rw [h1, h2, decide_eq_true_iff]
  constructor
  · intro h
    split at h <;> split at h <;> (repeat' split at h) <;> simp_all <;> omega
  · intro h
    split <;> split <;> (repeat' split) <;> simp_all <;> omega
theorem ltP_not {x y : PI} : (!ltP y x) = true ↔ LexP x y ∨ x = y := by
  rw [Bool.not_eq_true', ← Bool.not_eq_true, ltP_iff]
  unfold LexP
  constructor
  · intro h
    by_cases he : x.1 = y.1 ∧ x.2 = y.2
    · exact .inr (Prod.ext he.1 he.2)
    · exact .inl (by omega)
  · rintro (h | rfl)
    · omega
    · omega
theorem sortP_met (often : List Nat) (j : Nat) : sortP (metTo often j) = (usedTo often j).map pOf :=
  met_sorted (List.mergeSort_perm _ _) (by
    have := List.pairwise_mergeSort (le := fun x y : PI => !ltP y x) (fun a b c h1 h2 => by
      rw [ltP_not] at h1 h2 ⊢
      unfold LexP at *
      rcases h1 with h1 | rfl
      · rcases h2 with h2 | rfl
        · exact .inl (by omega)
        · exact .inl h1
      · exact h2) (fun a b => by
      rw [Bool.or_eq_true, ltP_not, ltP_not]
      unfold LexP
      by_cases he : a.1 = b.1 ∧ a.2 = b.2
      · exact .inl (.inr (Prod.ext he.1 he.2))
      · by_cases h : a.1 < b.1 ∨ a.1 = b.1 ∧ a.2 < b.2
        · exact .inl (.inl h)
        · exact .inr (.inl (by omega))) (metTo often j)
    exact this.imp fun h => ltP_not.1 h)
/-- What the library's sort does with items of the call's own. -/
def SortC : Prop := ∀ (w : World) (base : Nat) (v : Value) (L : List PI), OwnPI w base v L → L.length ≤ 300 →
  Calls Try.prog 62 #[v, .func (.func 46) #[] #[]] w fun e w' => e = .returned (.tuple #[]) ∧ OwnPI w' base v (sortP L) ∧ w.grownBy w' v.ownBlock
theorem met_step (often : List Nat) (j : Nat) : metTo often (j + 1) = if often.getD j 0 = 0 then metTo often j else metTo often j ++ [(often.getD j 0, j)] := rfl
theorem met_le (often : List Nat) (j : Nat) : (metTo often j).length ≤ j := by rw [met_len]; exact used_le j

set_option maxHeartbeats 2000000 in
set_option maxRecDepth 100000 in
theorem leavesOf_any (hS : SortC) {often : List Nat} {A : Option Addr} {n c : Nat} {w : World} (hn : n ≤ 300) (h : U32At w w.heap.size A n often) :
    Calls Try.prog 50 #[.slice A n c, .func (.func 46) #[] #[]] w fun e w' => ∃ v, e = .returned v ∧ OwnPI w' w.heap.size v ((usedTo often n).map pOf) ∧ Ext w w' := by
  rw [← sortP_met]
  obtain ⟨_, hlt, hc⟩ := h
  have HM := hide (met_step often)
  have HL := hide (met_le often)
  have H0 : metTo often 0 = [] := rfl
  have HS := hide hS
  clear hS
  generalize metTo often = mt at *
  have H00 := hide H0
  clear H0
  go_enter Try.func50, Try.ntmps50
  go_wp2
  go_loopw [5, 10] (fun a i wr => ∃ j : Nat, j ≤ n ∧ i = .int .i64 j ∧ OwnPI wr w.heap.size a (mt j) ∧ Ext w wr) (fun _ i _ => n - (intOf i).toNat)
  case atStart => exact ⟨0, Nat.zero_le _, rfl, by rw [H00.out]; exact OwnPI.nil _ _, Ext.refl _⟩
  case round =>
    obtain ⟨j, hj, rfl, hO, hE⟩ := hrel
    have hle := HL.out j
    by_cases hjn : j < n
    · rcases hc with h0 | ⟨b, o, rfl, hb, hc⟩
      · omega
      have hcell := (hE.cell (i := o + j) hb).trans (hc j hjn)
      have hx := hlt j
      have HM2 := HM.out j
      clear hc hlt
      generalize often.getD j 0 = x at *
      by_cases hx0 : x = 0
      · subst hx0
        rw [if_pos rfl] at HM2
        have HM3 := hide HM2
        clear HM2
        go_wp2
        go_roundw
        case rel => exact ⟨j + 1, by omega, by go_num, by rw [HM3.out]; exact hO, hE⟩
        case measure => simp [intOf]; omega
      · rw [if_neg hx0] at HM2
        have HM3 := hide HM2
        clear HM2
        have hxI : (0 : Int) < (x : Int) := by omega
        obtain ⟨Av, cv, rfl, _, _, _⟩ := hO.form
        have hEa := extNew wr (.cells #[.int .u64 (x : Int), .int .i64 (j : Int)] 93)
        have hOa := hO.ext hEa
        have hone := PIAt.one wr (x, j)
        have hsb := hE.le
        have hl0 : (mt j).length ≤ 100000 := by omega
        go_wp2_with (at_builtin; refine wpList_appPI rfl (.tmp 17) (.tmp 22) rfl rfl hOa rfl hone hl0 (by omega) (Nat.le_trans hsb hEa.le) ?_; intro v5 w5 hO5 hG5 _)
        have hE5 : Ext w w5 := Below.grown (hE.trans hEa) hG5 (hE.trans hEa).le (fun k hk => (hO.lt k hk).1)
        rw [← HM3.out] at hO5
        go_roundw
        case rel => exact ⟨j + 1, by omega, by go_num, hO5, hE5⟩
        case measure => simp [intOf]; omega
    · obtain rfl : n = j := by omega
      have C := HS.out wr w.heap.size u5 (mt n) hO (by omega)
      obtain ⟨Av, cv, rfl, _, _, _⟩ := hO.form
      go_wp2_with fail
      refine C.mono ?_
      rintro e w5 ⟨rfl, hO5, hG5⟩
      have hE5 : Ext w w5 := Below.grown hE hG5 hE.le (fun k hk => (hO.lt k hk).1)
      go_wp2
      go_ret
      exact ⟨_, rfl, hO5, hE5⟩
end Go.Proofs.Ytjpmabdnaooglaa

namespace Go.Proofs.Ytjpmabdnaooglaa
open Go.Shelf Go.RowKit Go.Sort Len
def laysSort_ren : Go.Shelf.Ren := ⟨fun | 6 => 62 | 15 => 73 | 14 => 72 | 28 => 88 | 29 => 89 | 20 => 80 | 21 => 81 | 22 => 82 | 23 => 83 | 24 => 84 | 25 => 85 | 26 => 86 | 27 => 87 | 46 => 91 | 47 => 92 | 48 => 93 | 49 => 94 | 50 => 95 | 57 => 96 | n => n, fun | 22 => 98 | 24 => 93 | 25 => 97 | 3 => 3 | 39 => 126 | 0 => 0 | 53 => 57 | 55 => 65 | 4 => 4 | 46 => 138 | 45 => 137 | 50 => 106 | 5 => 5 | 9 => 9 | 66 => 146 | 70 => 150 | 76 => 152 | 77 => 153 | n => n, fun | n => n⟩
theorem laysSort : Go.Proofs.SlLaysF0.n6 Try.prog laysSort_ren := {
  mixed := by kernel_rfl
  f6 := ⟨Try.f62.name, by decide, Try.func62.trans (congrArg some (by kernel_rfl))⟩
  f14 := ⟨Try.f72.name, by decide, Try.func72.trans (congrArg some (by kernel_rfl))⟩
  f15 := Try.func73.trans (congrArg some (by kernel_rfl))
  f20 := ⟨Try.f80.name, by decide, Try.func80.trans (congrArg some (by kernel_rfl))⟩
  f21 := ⟨Try.f81.name, by decide, Try.func81.trans (congrArg some (by kernel_rfl))⟩
  f22 := ⟨Try.f82.name, by decide, Try.func82.trans (congrArg some (by kernel_rfl))⟩
  f23 := ⟨Try.f83.name, by decide, Try.func83.trans (congrArg some (by kernel_rfl))⟩
  f24 := ⟨Try.f84.name, by decide, Try.func84.trans (congrArg some (by kernel_rfl))⟩
  f25 := ⟨Try.f85.name, by decide, Try.func85.trans (congrArg some (by kernel_rfl))⟩
  f26 := ⟨Try.f86.name, by decide, Try.func86.trans (congrArg some (by kernel_rfl))⟩
  f27 := ⟨Try.f87.name, by decide, Try.func87.trans (congrArg some (by kernel_rfl))⟩
  f28 := Try.func88.trans (congrArg some (by kernel_rfl))
  f29 := Try.func89.trans (congrArg some (by kernel_rfl))
  f46 := ⟨Try.f91.name, by decide, Try.func91.trans (congrArg some (by kernel_rfl))⟩
  f47 := Try.func92.trans (congrArg some (by kernel_rfl))
  f48 := Try.func93.trans (congrArg some (by kernel_rfl))
  f49 := ⟨Try.f94.name, by decide, Try.func94.trans (congrArg some (by kernel_rfl))⟩
  f50 := ⟨Try.f95.name, by decide, Try.func95.trans (congrArg some (by kernel_rfl))⟩
  f57 := ⟨Try.f96.name, by decide, Try.func96.trans (congrArg some (by kernel_rfl))⟩
  t0 := Try.underlying0
  a0 := Try.isAgg0
  z0 := Try.sizeOf0
  v0 := Try.zeroValue0
  t3 := Try.underlying3
  a3 := Try.isAgg3
  z3 := Try.sizeOf3
  v3 := Try.zeroValue3
  t4 := Try.underlying4
  a4 := Try.isAgg4
  z4 := Try.sizeOf4
  v4 := Try.zeroValue4
  t5 := Try.underlying5
  a5 := Try.isAgg5
  z5 := Try.sizeOf5
  v5 := Try.zeroValue5
  t9 := Try.underlying9
  a9 := Try.isAgg9
  z9 := Try.sizeOf9
  v9 := Try.zeroValue9
  t22 := Try.underlying98
  a22 := Try.isAgg98
  z22 := Try.sizeOf98
  v22 := Try.zeroValue98
  t25 := Try.underlying97
  a25 := Try.isAgg97
  z25 := Try.sizeOf97
  v25 := Try.zeroValue97
  t39 := Try.underlying126
  a39 := Try.isAgg126
  z39 := Try.sizeOf126
  v39 := Try.zeroValue126
  t45 := Try.underlying137
  a45 := Try.isAgg137
  z45 := Try.sizeOf137
  v45 := Try.zeroValue137
  t46 := Try.underlying138
  a46 := Try.isAgg138
  z46 := Try.sizeOf138
  v46 := Try.zeroValue138
  t50 := Try.underlying106
  a50 := Try.isAgg106
  z50 := Try.sizeOf106
  v50 := Try.zeroValue106
  t53 := Try.underlying57
  a53 := Try.isAgg57
  z53 := Try.sizeOf57
  v53 := Try.zeroValue57
  t55 := Try.underlying65
  a55 := Try.isAgg65
  z55 := Try.sizeOf65
  v55 := Try.zeroValue65
  t66 := Try.underlying146
  a66 := Try.isAgg146
  z66 := Try.sizeOf146
  v66 := Try.zeroValue146
  t70 := Try.underlying150
  a70 := Try.isAgg150
  z70 := Try.sizeOf150
  v70 := Try.zeroValue150
  t76 := Try.underlying152
  a76 := Try.isAgg152
  z76 := Try.sizeOf152
  v76 := Try.zeroValue152
  t77 := Try.underlying153
  a77 := Try.isAgg153
  z77 := Try.sizeOf153
  v77 := Try.zeroValue153 }
theorem flat_pC (L : List PI) : flatK pC 2 L.toArray = (L.flatMap pC).toArray := by
  apply Array.ext
  · rw [size_flatK, List.size_toArray, List.size_toArray, pC_len]
  · intro i h1 h2
    rw [size_flatK, List.size_toArray] at h1
    have h3 := get_flatK pC 2 L.toArray i (by simpa using h1)
    rw [getElem!_pos _ i (by rw [size_flatK, List.size_toArray]; exact h1)] at h3
    rw [h3]
    have hi : i / 2 < L.length := by omega
    have hd : i = i / 2 * 2 + i % 2 := by omega
    have h4 := pC_get L (i / 2) (i % 2) hi (by omega)
    rw [← hd, List.getElem?_eq_getElem (by rw [pC_len]; exact h1)] at h4
    rw [List.getElem_toArray]
    rw [getElem!_pos L.toArray (i / 2) (by simpa using hi), List.getElem_toArray]
    rw [List.getD_eq_getElem?_getD, List.getElem?_eq_getElem hi, Option.getD_some] at h4
    have hm : i % 2 < (pC L[i / 2]).length := by simp [pC]; omega
    rw [List.getElem?_eq_getElem hm] at h4
    rw [getElem!_pos (pC L[i / 2]) (i % 2) hm]
    exact (Option.some.inj h4).symm
section
variable {w : World} {g cap n m : Nat} {os : Array Obj} {cur : Array Value} {e : TypeId} {L : List PI}
theorem holds_row (hb : w.heap[g]? = some (.cells cur e (0, 0))) (ht : cur.toList.take (L.length * 2) = L.flatMap pC) : HoldsK pC 2 w g 0 L.toArray := by
  unfold HoldsK
  rw [flat_pC]
  intro j hj
  have hj' : j < L.length * 2 := by rw [List.size_toArray, pC_len] at hj; exact hj
  rw [Nat.zero_add]
  refine ⟨?_, frozen_of_row w g j cur e hb⟩
  rw [cell_of_row w g j cur e (0, 0) hb]
  have h1 : (cur.toList.take (L.length * 2))[j]? = (L.flatMap pC)[j]? := by rw [ht]
  rw [List.getElem?_take_of_lt hj', Array.getElem?_toList] at h1
  rw [h1, getElem!_pos _ j hj, List.getElem_toArray, List.getElem?_eq_getElem (by rw [pC_len]; exact hj')]
  rfl
theorem heap_row (F : Array Value) (hb : w.heap[g]? = some (.cells cur e (0, 0))) : (grow (putRow id (Go.Sort.ahead w n) g 0 F) os).heap[g]? = some (.cells (putCells id 0 F cur) e (0, 0)) := by
  have hg : g < w.heap.size := (Array.getElem?_eq_some_iff.1 hb).1
  rw [heap_grow_old _ _ (by simpa using hg)]
  simp [putRow, mapBlock, Go.Sort.ahead, Array.getElem?_modify, hb, onCells]
theorem grown_row (F : Array Value) : w.grownBy (grow (putRow id (Go.Sort.ahead w n) g 0 F) os) (some g) := by
  refine ⟨rfl, rfl, rfl, by simp, fun k hk hne => ?_⟩
  rw [heap_grow_old _ _ (by simpa using hk)]
  have : g ≠ k := fun e => hne (by rw [e])
  simp [putRow, mapBlock, Go.Sort.ahead, Array.getElem?_modify, this]
theorem take_row (F : Array Value) (h : F.size ≤ cur.size) : (putCells id 0 F cur).toList.take F.size = F.toList := by
  apply List.ext_getElem?
  intro j
  by_cases hj : j < F.size
  · rw [List.getElem?_take_of_lt hj, Array.getElem?_toList]
    simp [putCells, hj, show j < cur.size by omega]
  · rw [List.getElem?_take_eq_none (by omega), List.getElem?_eq_none (by simp; omega)]
end
theorem swo_ltP : SWO (ltOf cmpPI) where
  irrefl x := by
    rw [← Bool.not_eq_true]
    intro h
    have := (ltP_iff (x := x) (y := x)).1 h
    unfold LexP at this
    omega
  trans x y z h1 h2 := by
    have k1 := (ltP_iff (x := x) (y := y)).1 h1
    have k2 := (ltP_iff (x := y) (y := z)).1 h2
    refine (ltP_iff (x := x) (y := z)).2 ?_
    unfold LexP at *
    omega
  ntrans x y z h1 h2 := by
    rw [← Bool.not_eq_true] at *
    intro h
    have k := (ltP_iff (x := x) (y := z)).1 h
    have k1 : ¬ LexP x y := fun h => h1 ((ltP_iff (x := x) (y := y)).2 h)
    have k2 : ¬ LexP y z := fun h => h2 ((ltP_iff (x := y) (y := z)).2 h)
    unfold LexP at *
    omega
theorem sortC_holds : SortC := by
  intro w base v L hO hL
  have hone : ∀ x : PI, ∀ u ∈ pC x, u.oneCell' = true := fun x u hu => by
    simp only [pC, List.mem_cons, List.not_mem_nil, or_false] at hu
    rcases hu with rfl | rfl <;> rfl
  rcases hO.2 with ⟨rfl, h0⟩ | ⟨g, cap, cur, rfl, hb, hgg, hn, hc, hs, ht⟩
  · obtain rfl := List.eq_nil_of_length_eq_zero h0
    refine (AnyF.slices_SortFunc_none laysSort none 0 (.func (.func 46) #[] #[]) w).mono ?_
    rintro e w' ⟨rfl, rfl⟩
    exact ⟨rfl, by unfold sortP; rw [List.mergeSort_nil]; exact hO, World.grownBy.refl _ _⟩
  · have hcon := AnyQ.slices_SortFunc_total laysSort 2 Try.isAgg93 Try.sizeOf93 pC (fun _ => rfl) hone cmpPI swo_ltP 46 #[] g 0 cap L.toArray w (enters_of Try.func46 (by kernel_rfl) rfl)
      (fun _ _ _ _ x y => (order_any x y _).mono fun e w' ⟨he, q, os, hw⟩ => ⟨he, q, os, hw⟩) (holds_row hgg ht) (Array.getElem?_eq_some_iff.1 hgg).1 (by rw [List.size_toArray]; omega) (fun x y h1 h2 => by
        have k1 : ¬ LexP x y := fun h => by rw [show ltOf cmpPI x y = true from (ltP_iff (x := x) (y := y)).2 h] at h1; cases h1
        have k2 : ¬ LexP y x := fun h => by rw [show ltOf cmpPI y x = true from (ltP_iff (x := y) (y := x)).2 h] at h2; cases h2
        unfold LexP at k1 k2
        exact Prod.ext (by omega) (by omega))
    rw [List.size_toArray] at hcon
    refine hcon.mono ?_
    rintro e w' ⟨rfl, n, os, rfl⟩
    have hsl : (sortP L).length = L.length := List.length_mergeSort _
    refine ⟨rfl, ⟨by rw [pC_len], .inr ⟨g, cap, _, by rw [hsl], hb, heap_row _ hgg, by rw [hsl]; exact hn, hc, by simp [putCells, hs], ?_⟩⟩, grown_row _⟩
    rw [show (L.toArray.toList.mergeSort fun x y => !ltOf cmpPI y x).toArray = (sortP L).toArray from rfl, flat_pC]
    have h3 := take_row (cur := cur) ((sortP L).flatMap pC).toArray (by rw [List.size_toArray, pC_len, hs, hsl]; omega)
    rw [List.size_toArray, pC_len] at h3
    exact h3
end Go.Proofs.Ytjpmabdnaooglaa

namespace Go.Proofs.Ytjpmabdnaooglaa
open Go.RowKit Len

theorem cmp_leaf {x y : PI} (hx : x.2 < 300) (hy : y.2 = 300) : (cmpPI x y < 0) ↔ x.1 ≤ y.1 := by
  unfold cmpPI orN
  have h1 : cmpN (x.1 : Int) (y.1 : Int) = if x.1 < y.1 then -1 else if y.1 < x.1 then 1 else 0 := by unfold cmpN; simp only [Int.ofNat_lt]
  have h2 : cmpN (x.2 : Int) (y.2 : Int) = -1 := by unfold cmpN; rw [if_pos (by omega)]
  rw [h1, h2]
  split <;> (repeat' split) <;> (try split at *) <;> simp_all <;> omega
theorem merge_put {R ls ps qs : List PI} {x y : PI} (hxy : x.1 ≤ y.1) (h : R ++ mergeP (x :: ls) (y :: ps) = qs) : (R ++ [x]) ++ mergeP ls (y :: ps) = qs := by
  rw [← h, mergeP_cons, if_pos hxy]
  simp
theorem merge_pass {R ls ps qs : List PI} {y : PI} (hx : ∀ x, ls.head? = some x → ¬ x.1 ≤ y.1) (h : R ++ mergeP ls (y :: ps) = qs) : (R ++ [y]) ++ mergeP ls ps = qs := by
  rw [← h]
  cases ls with
  | nil => rw [nil_mergeP, nil_mergeP]; simp
  | cons x ls => rw [mergeP_cons, if_neg (hx x rfl)]; simp
theorem drop_cons_get {L : List PI} {d : Nat} (h : d < L.length) : L.drop d = L.getD d (0, 0) :: L.drop (d + 1) := by
  rw [List.drop_eq_getElem_cons h]
  congr 1
  simp [List.getD_eq_getElem?_getD, h]
theorem wpList_makePI {ops : Array Oper} {rest : List Oper} {o : Oper} {a : Act} {Q : Exit → Act → World → Prop} {w : World} (hgd : o.guard = none) (c : Operand) (ho : o.op = .makeSlice 98 (.const (.int .i64 0)) c) {m : Nat} {C : Int} (hc : a.eval c = .int .i64 C) (hC : C = (m : Int)) (hm : m ≤ 1000)
    (h : ∀ w', OwnPI w' w.heap.size (.slice (some ⟨w.heap.size, 0, none⟩) 0 m) [] → Ext w w' → wpList Try.prog ops Q rest (a.put o.dst (.slice (some ⟨w.heap.size, 0, none⟩) 0 m)) w') : wpList Try.prog ops Q (o :: rest) a w := by
  obtain ⟨i, hi, hz, hsz, hby⟩ := info_parts pitem_info
  exact wpList_make_own w hgd (.const (.int .i64 0)) c 98 ho w.heap.size 93 i _ 2 Try.underlying98 hi hz hsz .i64 .i64 C m rfl hc hC (by rw [hby]; omega) (by unfold maxLen; omega) (Nat.le_refl _) fun w' h1 h2 => h w' h1 (Below.grown (Ext.refl w) h2 (Nat.le_refl _) fun k hk => by cases hk)
def sliceN : Value → Nat
  | .slice _ n _ => n
  | _ => 0
/-- A part of the leaves, as a slice. -/
def LvAt (w : World) (v : Value) (n : Nat) (L : List PI) : Prop := ∃ A c, v = .slice A n c ∧ n ≤ c ∧ c ≤ maxLen ∧ PIAt w w.heap.size A n L
theorem LvAt.ext {w w' : World} {v : Value} {n : Nat} {L : List PI} (h : LvAt w v n L) (hE : Ext w w') : LvAt w' v n L := by
  obtain ⟨A, c, e, h1, h2, h3⟩ := h
  exact ⟨A, c, e, h1, h2, h3.ext hE⟩

set_option maxHeartbeats 4000000 in
set_option maxRecDepth 100000 in
theorem merged_any {ls ps : List PI} {A1 A2 : Option Addr} {n1 n2 c1 c2 : Nat} {w : World} (hn1 : n1 ≤ 300) (hn2 : n2 ≤ 300) (hc1 : n1 ≤ c1) (hm1 : c1 ≤ maxLen) (h1 : PIAt w w.heap.size A1 n1 ls) (h2 : PIAt w w.heap.size A2 n2 ps)
    (hl : ∀ i, i < n1 → (ls.getD i (0, 0)).2 < 300) (hp : ∀ i, i < n2 → (ps.getD i (0, 0)).2 = 300) :
    Calls Try.prog 65 #[.slice A1 n1 c1, .slice A2 n2 c2, .func (.func 46) #[] #[]] w fun e w' => ∃ v, e = .returned v ∧ OwnPI w' w.heap.size v (mergeP ls ps) ∧ Ext w w' := by
  have HLs := hide hl
  have HPs := hide hp
  have HQl := hide (mergeP_len ls ps)
  have HQ0 := hide (show [] ++ mergeP (ls.drop 0) (ps.drop 0) = mergeP ls ps from rfl)
  have HP := hide h2
  obtain ⟨hln1, h1c⟩ := h1
  obtain ⟨hln2, h2c⟩ := h2
  have HL0 := hide (show LvAt w (.slice A1 n1 c1) n1 (ls.drop 0) from ⟨A1, c1, rfl, hc1, hm1, by rw [List.drop_zero]; exact ⟨hln1, h1c⟩⟩)
  have HN1 := hide hln1
  have HN2 := hide hln2
  generalize hqs : mergeP ls ps = qs at *
  clear hqs hl hp h1c h2c hln1 hln2
  unfold maxLen at hm1
  go_enter Try.func65, Try.ntmps65
  go_wp2_with (refine wpList_makePI (m := n1 + n2) rfl (.tmp 14) rfl rfl (by omega) (by omega) ?_; intro w1 hR1 hE1)
  go_loopw [0, 7, 18] (fun a r i wr => ∃ (d m k : Nat) (R : List PI), d + m = n1 ∧ k ≤ n2 ∧ i = .int .i64 (k : Int) ∧ LvAt w a m (ls.drop d) ∧ OwnPI wr w.heap.size r R ∧ R ++ mergeP (ls.drop d) (ps.drop k) = qs ∧ Ext w wr) (fun _ _ i _ => n2 - (intOf i).toNat)
  case atStart => exact ⟨0, n1, 0, [], by omega, by omega, rfl, HL0.out, hR1, HQ0.out, hE1⟩
  case round =>
    obtain ⟨d, m, k, R, hd, hk, rfl, hLv, hO, hq, hE⟩ := hrel
    have HD := hide hd
    clear hd
    by_cases hkn : k < n2
    · have HPk := hide (show (ps.getD k (0, 0)).2 = 300 from HPs.out k hkn)
      have hpk := drop_cons_get (L := ps) (d := k) (by rw [HN2.out]; exact hkn)
      have hcell : ∃ b o, A2 = some ⟨b, o, none⟩ ∧ wr.cell? ⟨b, o + k * 2, none⟩ = some (.int .u64 ((ps.getD k (0, 0)).1 : Int)) ∧ wr.cell? ⟨b, o + k * 2 + 1, none⟩ = some (.int .i64 ((ps.getD k (0, 0)).2 : Int)) := by
        rcases (HP.out.ext hE).2 with h0 | ⟨b, o, e, _, hc⟩
        · omega
        · exact ⟨b, o, e, hc k hkn⟩
      obtain ⟨b2, o2, rfl, j1, j2⟩ := hcell
      generalize ps.getD k (0, 0) = p at *
      rw [hpk] at hq
      have HQ := hide hq
      clear hq hpk
      obtain ⟨x, y⟩ := p
      dsimp only at j1 j2
      obtain ⟨wa, rfl⟩ : ∃ W, W = wr := ⟨_, rfl⟩
      go_wp2_with fail
      have hWb := Whole.new wa 93 #[.int .u64 (x : Int), .int .i64 (y : Int)]
      have hEb := extNew wa (.cells #[.int .u64 (x : Int), .int .i64 (y : Int)] 93)
      have hnb : u7.ownBlock ≠ some wa.heap.size := fun h => absurd (hO.lt _ h).2 (by omega)
      have hO2 := hO.ext hEb
      have hEw2 := hE.trans hEb
      generalize hw2 : wa.alloc (.cells #[.int .u64 (x : Int), .int .i64 (y : Int)] 93) = w2 at *
      have hbx2 : wa.heap.size < w2.heap.size := hWb.lt
      have hbxw := hE.le
      generalize wa.heap.size = bx at *
      clear hw2 j1 j2 hO
      go_loopw [0, 7] (fun a r wq => ∃ (d m : Nat) (R : List PI), d + m = n1 ∧ LvAt w a m (ls.drop d) ∧ OwnPI wq w.heap.size r R ∧ r.ownBlock ≠ some bx ∧ Whole wq bx 93 #[.int .u64 (x : Int), .int .i64 (y : Int)] ∧ R ++ mergeP (ls.drop d) ((x, y) :: ps.drop (k + 1)) = qs ∧ Ext w wq) (fun a _ _ => sliceN a)
      case atStart => exact ⟨d, m, R, HD.out, hLv, hO2, hnb, hWb, HQ.out, hEw2⟩
      case round =>
        clear HD HQ hLv hO2 hnb hWb hEw2
        obtain ⟨d, m, R, hd, hLv, hO, hnb, hWb, hq, hEw⟩ := hrel
        obtain ⟨A, c, rfl, hmc, hcm, hPA⟩ := hLv
        unfold maxLen at hcm
        have HPA := hide hPA
        have HNB := hide hnb
        have HWb := hide hWb
        clear hnb hWb
        have hRl : R.length ≤ 100000 := by
          have h1 := congrArg List.length hq
          rw [List.length_append, HQl.out, HN1.out, HN2.out] at h1
          omega
        have hbw := hEw.le
        by_cases hm0 : m = 0
        · subst hm0
          have hne : ls.drop d = [] := List.drop_eq_nil_of_le (by rw [HN1.out]; omega)
          have hq2 := merge_pass (by rw [hne]; intro x hx; cases hx) hq
          have HQ := hide hq2
          have HD := hide hd
          clear hq hne hd hPA
          have c9 := HWb.out.at 0 (u := .int .u64 (x : Int)) rfl
          have c10 := HWb.out.at 1 (u := .int .i64 (y : Int)) rfl
          obtain ⟨wb, rfl⟩ : ∃ W, W = wr := ⟨_, rfl⟩
          go_wp2_with fail
          go_quiet (fail)
          have hEq : Ext wb (wb.drewN nq) := (Ext.refl wb).drewN nq
          generalize wb.drewN nq = w3 at hEq ⊢
          have c3 := (HWb.out.ext hEq).at 0 (u := .int .u64 (x : Int)) rfl
          have c4 := (HWb.out.ext hEq).at 1 (u := .int .i64 (y : Int)) rfl
          have hO3 := hO.ext hEq
          have hX0 := hEq
          have HX := hide hX0
          have hEa := extNew w3 (.cells #[.int .u64 (x : Int), .int .i64 (y : Int)] 93)
          have hOa := hO3.ext hEa
          have hone := PIAt.one w3 (x, y)
          have hbb := Nat.le_trans hbw (hX0.trans hEa).le
          clear hX0
          go_wp2_with (at_builtin; refine wpList_appPI rfl (.tmp 42) (.tmp 44) rfl rfl hOa rfl hone hRl (by omega) hbb ?_; intro v5 w5 hO5 hG5 _)
          have hE5 : Ext w w5 := Below.grown (hEw.trans (HX.out.trans hEa)) hG5 (hEw.trans (HX.out.trans hEa)).le (fun k hk => (hO.lt k hk).1)
          go_roundw
          case rel => exact ⟨d, 0, k + 1, R ++ [(x, y)], HD.out, by omega, by go_num, ⟨_, c, rfl, hmc, by unfold maxLen; omega, HPA.out⟩, hO5, HQ.out, hE5⟩
          case measure => simp [intOf]; omega
        · have hl := drop_cons_get (L := ls) (d := d) (by rw [HN1.out]; omega)
          have hl300 : (ls.getD d (0, 0)).2 < 300 := HLs.out d (by omega)
          have hcell : ∃ b o, A = some ⟨b, o, none⟩ ∧ b < w.heap.size ∧ w.cell? ⟨b, o, none⟩ = some (.int .u64 ((ls.getD d (0, 0)).1 : Int)) ∧ w.cell? ⟨b, o + 1, none⟩ = some (.int .i64 ((ls.getD d (0, 0)).2 : Int)) := by
            rcases hPA.2 with h0 | ⟨b, o, e, hb, hc⟩
            · omega
            · have := hc 0 (by omega)
              rw [hl] at this
              exact ⟨b, o, e, hb, this.1, this.2⟩
          generalize ls.getD d (0, 0) = l at *
          obtain ⟨p, q⟩ := l
          obtain ⟨b, o, rfl, hb, i0, i1⟩ := hcell
          dsimp only at i0 i1 hl300
          have hCl : ∀ W, Ext wr W → W.cell? ⟨b, o, none⟩ = some (.int .u64 (p : Int)) ∧ W.cell? ⟨b, o + 1, none⟩ = some (.int .i64 (q : Int)) := fun W hW => ⟨((hEw.trans hW).cell hb).trans i0, ((hEw.trans hW).cell hb).trans i1⟩
          have HC := hide hCl
          have HBb := hide (fun W (hW : Ext wr W) => And.intro ((HWb.out.ext hW).at 0 (u := .int .u64 (x : Int)) rfl) ((HWb.out.ext hW).at 1 (u := .int .i64 (y : Int)) rfl))
          have hcmp := cmp_leaf (x := (p, q)) (y := (x, y)) hl300 HPk.out
          have CO := order_any (p, q) (x, y)
          dsimp only at CO
          generalize cmpPI (p, q) (x, y) = cv at *
          have hm1I : (0 : Int) < (m : Int) := by omega
          have hmd : decide ((0 : Int) < (m : Int)) = true := decide_eq_true hm1I
          have hmN : decide (0 < m) = true := decide_eq_true (by omega)
          have hPD := hPA.drop (k := 1) (by omega) hmc
          rw [List.drop_drop] at hPD
          have hRC := fun W => run_cutP W (some ⟨b, o, none⟩) m c .i64 1 (by omega) (by omega)
          rw [show (1 : Int).toNat = 1 from rfl] at hRC
          generalize cutAt (some ⟨b, o, none⟩) (c * 2) (1 * 2) = A3 at hPD hRC
          have HL := hide hl
          rw [hl] at hq
          have HQ := hide hq
          have HD := hide hd
          have HPD := hide hPD
          have HRC := hide hRC
          have HCO := hide CO
          clear hq hl hd hPA hCl i0 i1 hPD hRC CO
          obtain ⟨wb, rfl⟩ : ∃ W, W = wr := ⟨_, rfl⟩
          by_cases hle : p ≤ x
          · have hneg : cv < 0 := hcmp.2 hle
            have HLe := hide hle
            clear hcmp hle
            have hcd : decide (cv < 0) = true := decide_eq_true hneg
            go_wp2_with fail
            refine wp_region_T (fun W => Ext wb W) 11 12 #[false, false, false, false, false, false, false, false, false, false, false, false] (by kernel_rfl) rfl rfl (Ext.refl wb).drew ?_
            intro hS0
            refine wpAnyT_take 0 (some 22) (.slice (some ⟨b, o, none⟩) m c) #[true, false, false, false, false, false, false, false, false, false, false, false] rfl rfl rfl (by kernel_rfl) (fun _ _ _ h => h) hS0 (by rfl) (fun W hX => by go_simp) ?_
            simp only [Act.put, List.setIfInBounds_toArray, List.set_cons_zero, List.set_cons_succ]
            refine wpAnyT_take 1 (some 23) (.int .i64 (m : Int)) #[true, true, false, false, false, false, false, false, false, false, false, false] rfl rfl rfl (by kernel_rfl) (fun _ _ _ h => h) hS0 (by rfl) (fun W hX => by go_simp) ?_
            simp only [Act.put, List.setIfInBounds_toArray, List.set_cons_zero, List.set_cons_succ]
            refine wpAnyT_take 2 (some 24) (.bool true) #[true, true, true, false, false, false, false, false, false, false, false, false] rfl rfl rfl (by kernel_rfl) (fun _ _ _ h => h) hS0 (by rfl) (fun W hX => by go_simp) ?_
            simp only [Act.put, List.setIfInBounds_toArray, List.set_cons_zero, List.set_cons_succ]
            refine wpAnyT_take 3 (some 25) (.bool true) #[true, true, true, true, false, false, false, false, false, false, false, false] rfl rfl rfl (by kernel_rfl) (fun _ _ _ h => h) hS0 (by rfl) (fun W hX => by go_simp) ?_
            simp only [Act.put, List.setIfInBounds_toArray, List.set_cons_zero, List.set_cons_succ]
            refine wpAnyT_take 4 (some 26) (.func (.func 46) #[] #[]) #[true, true, true, true, true, false, false, false, false, false, false, false] rfl rfl rfl (by kernel_rfl) (fun _ _ _ h => h) hS0 (by rfl) (fun W hX => by go_simp) ?_
            simp only [Act.put, List.setIfInBounds_toArray, List.set_cons_zero, List.set_cons_succ]
            refine wpAnyT_take 5 (some 27) (.slice (some ⟨b, o, none⟩) m c) #[true, true, true, true, true, true, false, false, false, false, false, false] rfl rfl rfl (by kernel_rfl) (fun _ _ _ h => h) hS0 (by rfl) (fun W hX => by go_simp) ?_
            simp only [Act.put, List.setIfInBounds_toArray, List.set_cons_zero, List.set_cons_succ]
            refine wpAnyT_take 6 (some 28) (.pointer (some ⟨b, o, none⟩)) #[true, true, true, true, true, true, true, false, false, false, false, false] rfl rfl rfl (by kernel_rfl) (fun _ _ _ h => h) hS0 (by rfl) (fun W hX => by go_simp) ?_
            simp only [Act.put, List.setIfInBounds_toArray, List.set_cons_zero, List.set_cons_succ]
            refine wpAnyT_take 7 (some 29) (.agg #[.int .u64 (p : Int), .int .i64 (q : Int)]) #[true, true, true, true, true, true, true, true, false, false, false, false] rfl rfl rfl (by kernel_rfl) (fun _ _ _ h => h) hS0 (by rfl) (fun W hX => by obtain ⟨f0, f1⟩ := HC.out W hX; go_simp) ?_
            simp only [Act.put, List.setIfInBounds_toArray, List.set_cons_zero, List.set_cons_succ]
            refine wpAnyT_take 8 (some 30) (.agg #[.int .u64 (x : Int), .int .i64 (y : Int)]) #[true, true, true, true, true, true, true, true, true, false, false, false] rfl rfl rfl (by kernel_rfl) (fun _ _ _ h => h) hS0 (by rfl) (fun W hX => by obtain ⟨f0, f1⟩ := HBb.out W hX; go_simp) ?_
            simp only [Act.put, List.setIfInBounds_toArray, List.set_cons_zero, List.set_cons_succ]
            refine wpAnyT_only 9 #[true, true, true, true, true, true, true, true, true, true, false, false] (by kernel_rfl) rfl rfl (by rfl) (fun K0 hK0 => ?_)
            go_simp
            go_at_call 46
            refine (HCO.out _).mono ?_
            rintro e wc0 ⟨rfl, hC0⟩
            have hX0 := hS0.trans hC0.ext
            refine hK0 _ _ (fun _ => hX0) ?_
            clear hK0 K0 hC0
            refine wpAnyT_take 10 (some 32) (.bool true) #[true, true, true, true, true, true, true, true, true, true, true, false] rfl rfl rfl (by kernel_rfl) (fun _ _ _ h => h) hX0 (by rfl) (fun W hX => by go_simp) ?_
            simp only [Act.put, List.setIfInBounds_toArray, List.set_cons_zero, List.set_cons_succ]
            refine wpAnyT_only 11 #[true, true, true, true, true, true, true, true, true, true, true, true] (by kernel_rfl) rfl rfl (by rfl) (fun K1 hK1 => ?_)
            go_simp
            refine hK1 _ _ (fun h => absurd h (by decide)) (wpAnyT_done (by kernel_rfl) ?_ _)
            clear hK1 K1
            have hO3 := hO.ext hX0
            have HX := hide hX0
            obtain ⟨c3, c4⟩ := HC.out _ hX0
            have hRC := HRC.out
            have hEa := extNew wc0 (.cells #[.int .u64 (p : Int), .int .i64 (q : Int)] 93)
            have hOa := hO3.ext hEa
            have hone := PIAt.one wc0 (p, q)
            have hbb := Nat.le_trans hbw (hX0.trans hEa).le
            go_wp2_with (at_builtin; refine wpList_appPI rfl (.tmp 34) (.tmp 38) rfl rfl hOa rfl hone hRl (by omega) hbb ?_; intro v5 w5 hO5 hG5 hn5)
            have hE5 : Ext w w5 := Below.grown (hEw.trans (HX.out.trans hEa)) hG5 (hEw.trans (HX.out.trans hEa)).le (fun k hk => (hO.lt k hk).1)
            have hW5 := ((HWb.out.ext HX.out).ext hEa).ownGrown hG5 HNB.out
            have hbl := HWb.out.lt
            have hnb5 : v5.ownBlock ≠ some bx := by
              rcases hn5 with e | e
              · rw [e]; exact HNB.out
              · rw [e]
                intro e2
                have e3 : (wc0.alloc (.cells #[.int .u64 (p : Int), .int .i64 (q : Int)] 93)).heap.size = bx := by simpa using e2
                have e4 := (HX.out.trans hEa).le
                omega
            go_roundw
            case rel => exact ⟨d + 1, m - 1, R ++ [(p, q)], by have := HD.out; omega, ⟨A3, c - 1, rfl, by omega, by unfold maxLen; omega, HPD.out⟩, hO5, hnb5, hW5, merge_put HLe.out HQ.out, hE5⟩
            case measure => simp [sliceN]; omega
          · have hneg : ¬ cv < 0 := fun h => hle (hcmp.1 h)
            have HLe := hide hle
            clear hcmp hle
            have hcd : decide (cv < 0) = false := decide_eq_false hneg
            have hq2 := merge_pass (ls := (p, q) :: ls.drop (d + 1)) (y := (x, y)) (by intro z hz; cases hz; exact HLe.out) HQ.out
            have HQ2 := hide hq2
            clear hq2
            go_wp2_with fail
            refine wp_region_T (fun W => Ext wb W) 11 12 #[false, false, false, false, false, false, false, false, false, false, false, false] (by kernel_rfl) rfl rfl (Ext.refl wb).drew ?_
            intro hS0
            refine wpAnyT_take 0 (some 22) (.slice (some ⟨b, o, none⟩) m c) #[true, false, false, false, false, false, false, false, false, false, false, false] rfl rfl rfl (by kernel_rfl) (fun _ _ _ h => h) hS0 (by rfl) (fun W hX => by go_simp) ?_
            simp only [Act.put, List.setIfInBounds_toArray, List.set_cons_zero, List.set_cons_succ]
            refine wpAnyT_take 1 (some 23) (.int .i64 (m : Int)) #[true, true, false, false, false, false, false, false, false, false, false, false] rfl rfl rfl (by kernel_rfl) (fun _ _ _ h => h) hS0 (by rfl) (fun W hX => by go_simp) ?_
            simp only [Act.put, List.setIfInBounds_toArray, List.set_cons_zero, List.set_cons_succ]
            refine wpAnyT_take 2 (some 24) (.bool true) #[true, true, true, false, false, false, false, false, false, false, false, false] rfl rfl rfl (by kernel_rfl) (fun _ _ _ h => h) hS0 (by rfl) (fun W hX => by go_simp) ?_
            simp only [Act.put, List.setIfInBounds_toArray, List.set_cons_zero, List.set_cons_succ]
            refine wpAnyT_take 3 (some 25) (.bool true) #[true, true, true, true, false, false, false, false, false, false, false, false] rfl rfl rfl (by kernel_rfl) (fun _ _ _ h => h) hS0 (by rfl) (fun W hX => by go_simp) ?_
            simp only [Act.put, List.setIfInBounds_toArray, List.set_cons_zero, List.set_cons_succ]
            refine wpAnyT_take 4 (some 26) (.func (.func 46) #[] #[]) #[true, true, true, true, true, false, false, false, false, false, false, false] rfl rfl rfl (by kernel_rfl) (fun _ _ _ h => h) hS0 (by rfl) (fun W hX => by go_simp) ?_
            simp only [Act.put, List.setIfInBounds_toArray, List.set_cons_zero, List.set_cons_succ]
            refine wpAnyT_take 5 (some 27) (.slice (some ⟨b, o, none⟩) m c) #[true, true, true, true, true, true, false, false, false, false, false, false] rfl rfl rfl (by kernel_rfl) (fun _ _ _ h => h) hS0 (by rfl) (fun W hX => by go_simp) ?_
            simp only [Act.put, List.setIfInBounds_toArray, List.set_cons_zero, List.set_cons_succ]
            refine wpAnyT_take 6 (some 28) (.pointer (some ⟨b, o, none⟩)) #[true, true, true, true, true, true, true, false, false, false, false, false] rfl rfl rfl (by kernel_rfl) (fun _ _ _ h => h) hS0 (by rfl) (fun W hX => by go_simp) ?_
            simp only [Act.put, List.setIfInBounds_toArray, List.set_cons_zero, List.set_cons_succ]
            refine wpAnyT_take 7 (some 29) (.agg #[.int .u64 (p : Int), .int .i64 (q : Int)]) #[true, true, true, true, true, true, true, true, false, false, false, false] rfl rfl rfl (by kernel_rfl) (fun _ _ _ h => h) hS0 (by rfl) (fun W hX => by obtain ⟨f0, f1⟩ := HC.out W hX; go_simp) ?_
            simp only [Act.put, List.setIfInBounds_toArray, List.set_cons_zero, List.set_cons_succ]
            refine wpAnyT_take 8 (some 30) (.agg #[.int .u64 (x : Int), .int .i64 (y : Int)]) #[true, true, true, true, true, true, true, true, true, false, false, false] rfl rfl rfl (by kernel_rfl) (fun _ _ _ h => h) hS0 (by rfl) (fun W hX => by obtain ⟨f0, f1⟩ := HBb.out W hX; go_simp) ?_
            simp only [Act.put, List.setIfInBounds_toArray, List.set_cons_zero, List.set_cons_succ]
            refine wpAnyT_only 9 #[true, true, true, true, true, true, true, true, true, true, false, false] (by kernel_rfl) rfl rfl (by rfl) (fun K0 hK0 => ?_)
            go_simp
            go_at_call 46
            refine (HCO.out _).mono ?_
            rintro e wc0 ⟨rfl, hC0⟩
            have hX0 := hS0.trans hC0.ext
            refine hK0 _ _ (fun _ => hX0) ?_
            clear hK0 K0 hC0
            refine wpAnyT_take 10 (some 32) (.bool false) #[true, true, true, true, true, true, true, true, true, true, true, false] rfl rfl rfl (by kernel_rfl) (fun _ _ _ h => h) hX0 (by rfl) (fun W hX => by go_simp) ?_
            simp only [Act.put, List.setIfInBounds_toArray, List.set_cons_zero, List.set_cons_succ]
            refine wpAnyT_only 11 #[true, true, true, true, true, true, true, true, true, true, true, true] (by kernel_rfl) rfl rfl (by rfl) (fun K1 hK1 => ?_)
            go_simp
            refine hK1 _ _ (fun h => absurd h (by decide)) (wpAnyT_done (by kernel_rfl) ?_ _)
            clear hK1 K1
            have hO3 := hO.ext hX0
            have HX := hide hX0
            obtain ⟨c3, c4⟩ := HBb.out _ hX0
            have hX0 := HX.out
            generalize wc0 = w3 at *
            have hEa := extNew w3 (.cells #[.int .u64 (x : Int), .int .i64 (y : Int)] 93)
            have hOa := hO3.ext hEa
            have hone := PIAt.one w3 (x, y)
            have hbb := Nat.le_trans hbw (hX0.trans hEa).le
            clear hX0
            go_wp2_with (at_builtin; refine wpList_appPI rfl (.tmp 42) (.tmp 44) rfl rfl hOa rfl hone hRl (by omega) hbb ?_; intro v5 w5 hO5 hG5 _)
            have hE5 : Ext w w5 := Below.grown (hEw.trans (HX.out.trans hEa)) hG5 (hEw.trans (HX.out.trans hEa)).le (fun k hk => (hO.lt k hk).1)
            go_roundw
            case rel => exact ⟨d, m, k + 1, R ++ [(x, y)], HD.out, by omega, by go_num, ⟨_, c, rfl, hmc, by unfold maxLen; omega, HPA.out⟩, hO5, by rw [HL.out]; exact HQ2.out, hE5⟩
            case measure => simp [intOf]; omega
    · obtain rfl : n2 = k := by omega
      obtain ⟨A, c, rfl, hmc, hcm, hPA⟩ := hLv
      have hPw := hPA.ext hE
      have hd := HD.out
      have hRl : R.length ≤ 100000 := by
        have h1 := congrArg List.length hq
        rw [List.length_append, HQl.out, HN1.out, HN2.out] at h1
        omega
      have hq2 : R ++ ls.drop d = qs := by
        rw [← hq, show ps.drop n2 = [] from List.drop_eq_nil_of_le (by rw [HN2.out]; exact Nat.le_refl _), mergeP_nil]
      have HQ := hide hq2
      have hbw := hE.le
      have hm3 : m ≤ 100000 := by omega
      clear hq hq2 HD hd hPA
      go_wp2_with (at_builtin; refine wpList_appPI rfl (.tmp 47) (.tmp 48) rfl rfl hO rfl hPw hRl hm3 hbw ?_; intro v5 w5 hO5 hG5 _)
      have hE5 : Ext w w5 := Below.grown hE hG5 hE.le (fun k hk => (hO.lt k hk).1)
      rw [HQ.out] at hO5
      go_ret
      exact ⟨_, rfl, hO5, hE5⟩
end Go.Proofs.Ytjpmabdnaooglaa

namespace Go.Proofs.Ytjpmabdnaooglaa
open Go.RowKit

/-- New blocks and draws leave it as it is. -/
def Calm (J : Nat → World → Prop) : Prop := ∀ k W W', J k W → W.grownBy W' none → J k W'
/-- What an iterator promises: N rounds, in round k what encs k says. -/
def Gives (n : Nat) (P : Program) (g : Nat) (lb : Array Value) (encs : Nat → Array Value) (N : Nat) (I : Nat → World → Prop) (w : World) : Prop :=
  ∀ (l : Nat) (J : Nat → World → Prop) (W : World), Ext w W → (∀ k W, J k W → I k W) → Calm J →
    (∀ k W, J k W → k < N → YieldAt Fence.wide (n - 1) P l (encs k) W fun e W' => e = .returned (.bool true) ∧ J (k + 1) W') → J 0 W →
    CallsIn Fence.wide n P g (#[.func (.yield l) #[] #[]] ++ lb) W fun e W' => (∃ v, e = .returned v) ∧ J N W'
/-- The end of a round. -/
def roundEnd (B : Nat) (I : World → Prop) (W : World) : Exit → Act → World → Prop
  | .normal, _, W' => KeepsFrom B W W' ∧ I W'
  | _, _, _ => False
theorem wpIn_rangeOwn {P : Program} {g : Operand} {ps : Array Tmp} {assign body : Code} {Q : Exit → Act → World → Prop} {a : Act} {w : World} {n : Nat}
    {gf : Nat} {lb : Array Value} (hg : a.eval g = .func (.func gf) #[] lb) (eg : ∀ args w, (callFunc gf args).run P w = .ok (.enter gf args) w)
    (N : Nat) (encs : Nat → Array Value) (hps : ∀ k, (encs k).size = ps.size) (I : Nat → World → Prop) (hI : OwnFrom w.heap.size I) (h0 : I 0 w) (hseq : Gives (n - 1) P gf lb encs N I w) (a₁ : Nat → Act)
    (hassign : ∀ (l k : Nat) (W : World) (K : Act → World → Prop), K (a₁ k) W →
      assign.wpIn (Fence.wide.inRound l) (n - 1 - 1) P (Exit.then K (fun _ _ _ => False)) { tmps := (ps.zip (encs k)).foldl (fun t (p, v) => t.setIfInBounds p v) a.tmps, defers := [] } W)
    (hbody : ∀ (l k : Nat) (W : World), I k W → k < N → body.wpIn (Fence.wide.inRound l) (n - 1 - 1) P (roundEnd w.heap.size (I (k + 1)) W) (a₁ k) W)
    (hdone : ∀ (D : Nat) (W : World), w.heap.size ≤ D → I N W → W.heap[D]? = some (.deferred (some [])) → Q .normal { a with defers := { target := .collected D, args := #[] } :: a.defers } W) :
    (Code.rangeFunc g ps assign body).wpIn Fence.wide n P Q a w := by
  refine wpIn_rangeFunc ?_
  intro fn hfn
  obtain ⟨rec, hrec⟩ : ∃ rec : LoopState → Loop, rec = fun st => { state := st, pending := none, fn, tmps := a.tmps, params := ps, assign, body, defers := w.heap.size } := ⟨_, rfl⟩
  have hs1 : ((w.alloc (.deferred (some []))).alloc (.loop (rec .ready))).heap.size = w.heap.size + 2 := by simp
  have hL : ((w.alloc (.deferred (some []))).alloc (.loop (rec .ready))).heap[w.heap.size + 1]? = some (.loop (rec .ready)) := by
    have := World.alloc_heap_new (w.alloc (.deferred (some []))) (.loop (rec .ready))
    rwa [World.size_alloc] at this
  have hD : ((w.alloc (.deferred (some []))).alloc (.loop (rec .ready))).heap[w.heap.size]? = some (.deferred (some [])) := (Below.heap_alloc _ _ _ (by simp)).trans (World.alloc_heap_new w _)
  have hI1 : I 0 ((w.alloc (.deferred (some []))).alloc (.loop (rec .ready))) := hI.alloc _ (hI.alloc _ h0)
  have hE1 : Ext w ((w.alloc (.deferred (some []))).alloc (.loop (rec .ready))) := (extNew w _).alloc _
  refine ⟨w.heap.size + 1, [{ target := .collected w.heap.size, args := #[] }], (w.alloc (.deferred (some []))).alloc (.loop (rec .ready)), { target := .fn (.func gf) lb, args := #[.func (.yield (w.heap.size + 1)) #[] #[]] }, (w.alloc (.deferred (some []))).alloc (.loop (rec .ready)), gf,
    #[.func (.yield (w.heap.size + 1)) #[] #[]] ++ lb, (w.alloc (.deferred (some []))).alloc (.loop (rec .ready)), ?_, ?_, fun _ _ => trivial, ?_, (fun h => by cases h), ?_⟩
  · rw [hrec]
    exact run_enterLoop_outer _ _ _ _ _
  · simp only [resolve, hg]
    simp [go_sem]
  · simp [invoke, go_sem, eg]
  · generalize (w.alloc (.deferred (some []))).alloc (.loop (rec .ready)) = W1 at hs1 hL hD hI1 hE1
    refine (hseq (w.heap.size + 1) (fun k W => I k W ∧ W.heap[w.heap.size + 1]? = some (.loop (rec .ready)) ∧ W.heap[w.heap.size]? = some (.deferred (some []))) W1 hE1 (fun _ _ h => h.1)
      (fun k A B ⟨h1, h2, h3⟩ hG => ⟨hI k A B none h1 hG (fun r e => by cases e), (hG.block _ (Array.getElem?_eq_some_iff.1 h2).1 (by simp)).trans h2, (hG.block _ (Array.getElem?_eq_some_iff.1 h3).1 (by simp)).trans h3⟩) ?_ ⟨hI1, hL, hD⟩).mono ?_
    · rintro k W ⟨hi, hl, hd⟩ hk
      have hlt : w.heap.size + 1 < W.heap.size := (Array.getElem?_eq_some_iff.1 hl).1
      have hy := run_yield (P := P) (args := encs k) hl (by rw [hrec]; exact hps k)
      rw [hrec] at hy
      have hb := hbody (w.heap.size + 1) k _ (hI.putObj (.loop { rec .ready with state := .busy }) hi (by omega) hl rfl) hk
      refine ⟨fn, _, assign, body, hy, roundIn_of_wpIn hfn (hassign _ k W _ ⟨_, run_beginRound hl (by rw [hrec]), wpIn_mono hb ?_⟩)⟩
      have hl2 : (W.putObj (w.heap.size + 1) (.loop { rec .ready with state := .busy })).heap[w.heap.size + 1]? = some (.loop { rec .ready with state := .busy }) := World.putObj_heap_same hlt
      have hd2 : (W.putObj (w.heap.size + 1) (.loop { rec .ready with state := .busy })).heap[w.heap.size]? = some (.deferred (some [])) := (World.putObj_heap_other (by omega)).trans hd
      intro e a3 W3 hp
      cases e with
      | normal =>
        obtain ⟨hk3, hi3⟩ := hp
        have hl3 := hk3.same _ _ (by omega) hl2 rfl
        have hd3 := hk3.same _ _ (Nat.le_refl _) hd2 rfl
        have hr := run_endRound (P := P) none hl3
        refine ⟨_, _, hr, rfl, hI.putObj _ hi3 (by omega) hl3 rfl, ?_, (World.putObj_heap_other (by omega)).trans hd3⟩
        rw [World.putObj_heap_same (Array.getElem?_eq_some_iff.1 hl3).1, hrec]
        rfl
      | ret => exact hp.elim
      | exit id => exact hp.elim
      | goto t => exact hp.elim
      | panic ch => exact hp.elim
      | outgrown => exact hp.elim
    · rintro e W2 ⟨⟨v, rfl⟩, hi, hl, hd⟩
      refine ⟨none, _, ?_, hdone _ _ (Nat.le_refl _) (hI.putObj (.loop { rec .ready with state := .exhausted }) hi (by omega) hl rfl) ((World.putObj_heap_other (by omega)).trans hd)⟩
      have := run_endLoop (P := P) hl (by rw [hrec]; simp)
      rw [hrec] at this ⊢
      exact this

/-! Operations of a round are carried out as everywhere. -/
theorem operRound {P : Program} {o : Oper} {a : Act} {w : World} {K : Act → World → Prop} {Q : Exit → Act → World → Prop} (l n : Nat) (hd : ∀ c, o.op ≠ .defer c) (h : o.wp P a w K Q) : o.wpIn (Fence.wide.inRound l) n P a w K Q := by
  refine ⟨fun _ _ => trivial, ?_⟩
  rw [Oper.semAt_plain (Fence.wide.inRound l) a.eval o hd]
  unfold Oper.wp at h
  generalize (execOp a.eval o).run P w = r at *
  cases r with
  | ok x w' =>
    cases x with
    | value v => exact h
    | skip => exact h
    | defer d => exact h
    | enter f args => exact ⟨(fun h => by cases h), CallsIn.inRound l (callsIn_wide.2 h)⟩
    | row row args =>
      refine ⟨(fun h => by cases h), fun c cs _ => ?_⟩
      obtain ⟨v, w2, h1, h2⟩ := h c cs
      exact ⟨v, w2, h1, (stepsIn_wide (P := P)).2 h2⟩
    | _ => exact h.elim
  | halt x w' => cases x <;> first | exact h | exact h.elim
def noDefer (ops : Array Oper) : Bool := ops.all fun o => match o.op with
  | .defer _ => false
  | _ => true
theorem noDefer_at {ops : Array Oper} (h : noDefer ops = true) {i : Nat} {o : Oper} (hi : ops[i]? = some o) : ∀ c, o.op ≠ .defer c := by
  intro c hc
  have hm : o ∈ ops := Array.mem_of_getElem? hi
  have := Array.all_eq_true_iff_forall_mem.1 h o hm
  rw [hc] at this
  cases this
theorem opsRound {P : Program} {ops : Array Oper} {Q : Exit → Act → World → Prop} (l n : Nat) (hd : noDefer ops = true) (hQ : ¬ LetsOut Q) : ∀ (is : List Nat) (a : Act) (w : World), wpOps P ops Q is a w → wpOpsIn (Fence.wide.inRound l) n P ops Q is a w
  | [], _, _, h => h
  | i :: is, a, w, h => by
    unfold wpOps at h
    unfold wpOpsIn
    cases hi : ops[i]? with
    | none =>
      rw [hi] at h
      exact opsRound l n hd hQ is a w h
    | some o =>
      rw [hi] at h
      simp only at h ⊢
      split
      · rename_i hw
        rw [if_pos hw] at h
        rcases h with h | h
        · exact operRound l n (noDefer_at hd hi) (Oper.wp_mono (fun a w => opsRound l n hd hQ is a w) h)
        · exact absurd h.2 hQ
      · rename_i hw
        rw [if_neg hw] at h
        exact ⟨fun _ _ => trivial, opsRound l n hd hQ is _ w h⟩
/-- A region of a round that draws its order. -/
theorem wpIn_region_T {P : Program} {ops : Array Oper} {Q : Exit → Act → World → Prop} {l k : Nat} {id : Nat} {a : Act} {w : World} (S : World → Prop) (n m : Nat) (listed : Array Bool) (hd : noDefer ops = true) (hQ : ¬ LetsOut Q) (hm : P.follows .mixedOrders = true) (hm' : ops.size = m) (hl : Array.replicate m false = listed) (hS : S w.drew)
    (h : S w.drew → wpAnyT P .any ops Q S n m listed a w.drew) : (Code.region id ops true).wpIn (Fence.wide.inRound l) k P Q a w :=
  wpIn_region_draw fun t => by
    simp only [Region.schedule, hm, Bool.true_or, if_true]
    refine opsRound l k hd hQ _ _ _ (wpAny_sound ops.size t _ a _ ?_)
    rw [hm', hl]
    exact wpAny_of_T _ _ _ _ (h hS)
end Go.Proofs.Ytjpmabdnaooglaa

namespace Go.Proofs.Ytjpmabdnaooglaa
open Go.RowKit Len

attribute [local go_sem] Oper.semAt_some

/-- A part of a row with its room cut. -/
theorem run_midP (W : World) (b o n c : Nat) (l h : Nat) (h1 : l < h) (h2 : h ≤ c) :
    (Instr.slice 98 (.slice (some ⟨b, o, none⟩) n c) (some (.int .i64 (l : Int))) (some (.int .i64 (h : Int))) (some (.int .i64 (h : Int)))).run Try.prog W = .ok (.slice (some ⟨b, o + l * 2, none⟩) (h - l) (h - l)) W := by
  rw [run_slice_lhm (P := Try.prog) (w := W) 98 (some ⟨b, o, none⟩) n c (by kernel_rfl) .i64 .i64 .i64 (l : Int) (h : Int) (h : Int) (by omega) (by omega) (by omega) (by omega)]
  have hs : (sizeOf (Try.prog.elem 98)).run Try.prog W = .ok 2 W := by kernel_rfl
  rw [hs]
  simp [Result.andThen, sliced, show ¬ h = l by omega, Addr.add]
set_option maxHeartbeats 2000000 in
set_option maxRecDepth 100000 in
theorem backward_gives {n B g N c : Nat} {VA : Nat → Option Addr} {VN VC : Nat → Nat} {I : Nat → World → Prop} {w : World} (hn : 2 ≤ n) (hN : N ≤ 1000)
    (hI : ∀ k W, I k W → W.cell? ⟨B, 0, none⟩ = some (.slice (some ⟨g, 0, none⟩) N c) ∧ ∀ i, i < N → W.cell? ⟨g, i, none⟩ = some (.slice (VA i) (VN i) (VC i))) :
    Gives n Try.prog 74 #[.pointer (some ⟨B, 0, none⟩)] (fun k => #[.int .i64 ((N - 1 - k : Nat) : Int), .slice (VA (N - 1 - k)) (VN (N - 1 - k)) (VC (N - 1 - k))]) N I w := by
  intro l J W hE hJI hC hY h0
  have hb := (hI 0 W (hJI 0 W h0)).1
  have HI := hide (fun k W h => hI k W (hJI k W h))
  have HY := hide hY
  clear hI hY hC hJI
  refine callsIn_of_wp Try.func74 rfl trivial ?_ rfl
  simp only [Try.ntmps74, List.size_toArray, List.length_cons, List.length_nil, Nat.reduceAdd, Nat.reduceSub, Array.replicate_succ, Array.replicate_zero, List.push_toArray, List.append_toArray, List.nil_append, List.cons_append]
  gi_wp2
  gi_loopw [3] (fun i wr => ∃ (k : Nat) (z : Int), k ≤ N ∧ i = .int .i64 z ∧ z + k + 1 = N ∧ J k wr) (fun i _ => (intOf i + 1).toNat)
  case atStart => exact ⟨0, (N : Int) - 1, by omega, rfl, by omega, h0⟩
  case round =>
    obtain ⟨k, z, hk, rfl, hz, hJ⟩ := hrel
    by_cases hkn : k < N
    · obtain ⟨h1, h2⟩ := HI.out k wr hJ
      obtain ⟨fn, tmps, assign, body, hy, hR⟩ := HY.out k wr hJ hkn
      obtain ⟨m, hm⟩ : ∃ m, m = N - 1 - k := ⟨_, rfl⟩
      rw [← hm] at hy
      have h3 := h2 m (by omega)
      have hz2 : z = (m : Int) := by omega
      subst hz2
      have HM := hide hm
      have HZ := hide hz
      have hmN : m < N := by omega
      clear h2 hm hz
      generalize VA m = a1 at *
      generalize VN m = a2 at *
      generalize VC m = a3 at *
      gi_wp2
      refine ⟨fun _ => by omega, hR.mono ?_⟩
      rintro e W3 ⟨rfl, hJ3⟩
      gi_wp2
      go_roundw
      case rel => exact ⟨k + 1, (m : Int) - 1, by omega, by first | rfl | go_num, by have := HZ.out; omega, hJ3⟩
      case measure => simp [intOf]
    · obtain rfl : N = k := by omega
      have hz2 : z = -1 := by omega
      subst hz2
      clear hz
      gi_wp2
      go_end0
      exact ⟨⟨_, rfl⟩, hJ⟩

/-- How many stand in chunk k. -/
def chunkN (len k : Nat) : Nat := if 2 * k + 1 < len then 2 else 1

set_option maxHeartbeats 2000000 in
set_option maxRecDepth 100000 in
theorem chunk_gives {n B1 B2 g off len c : Nat} {I : Nat → World → Prop} {w : World} (hn : 2 ≤ n) (hN : len ≤ 1000) (hc : len ≤ c) (_hcm : c ≤ maxLen)
    (hI : ∀ k W, I k W → W.cell? ⟨B1, 0, none⟩ = some (.slice (some ⟨g, off, none⟩) len c) ∧ W.cell? ⟨B2, 0, none⟩ = some (.int .i64 2)) :
    Gives n Try.prog 90 #[.pointer (some ⟨B1, 0, none⟩), .pointer (some ⟨B2, 0, none⟩)] (fun k => #[.slice (some ⟨g, off + 2 * k * 2, none⟩) (chunkN len k) (chunkN len k)]) ((len + 1) / 2) I w := by
  unfold maxLen at _hcm
  intro l J W hE hJI hC hY h0
  have HI := hide (fun k W h => hI k W (hJI k W h))
  have HY := hide hY
  have HC := hide hC
  clear hI hY hC hJI
  refine callsIn_of_wp Try.func90 rfl trivial ?_ rfl
  simp only [Try.ntmps90, List.size_toArray, List.length_cons, List.length_nil, Nat.reduceAdd, Nat.reduceSub, Array.replicate_succ, Array.replicate_zero, List.push_toArray, List.append_toArray, List.nil_append, List.cons_append]
  gi_wp2
  gi_loopw [4] (fun i wr => ∃ (k p : Nat), i = .int .i64 (p : Int) ∧ p = 2 * k ∧ 2 * k ≤ len + 1 ∧ J k wr) (fun i _ => len + 2 - (intOf i).toNat)
  case atStart => exact ⟨0, 0, rfl, rfl, by omega, h0⟩
  case round =>
    obtain ⟨k, p, rfl, hp, hk, hJ⟩ := hrel
    have HP := hide hp
    obtain ⟨b1, b2⟩ := HI.out k wr hJ
    by_cases hkn : p < len
    · have hYk := fun W hJ => HY.out k W hJ (by omega)
      rw [← hp] at hYk
      obtain ⟨q, hq⟩ : ∃ q, q = len - p := ⟨_, rfl⟩
      obtain ⟨e, he⟩ : ∃ e, e = chunkN len k := ⟨_, rfl⟩
      have hRC := fun W => run_cutP W (some ⟨g, off, none⟩) len c .i64 (p : Int) (by omega) (by omega)
      simp only [Int.toNat_natCast] at hRC
      rw [← hq] at hRC
      generalize cutAt (some ⟨g, off, none⟩) (c * 2) (p * 2) = A3 at hRC
      generalize c - p = d at hRC
      have HRC := hide hRC
      have he2 : e = if 2 ≤ q then 2 else 1 := by
        rw [he]
        unfold chunkN
        have := HP.out
        by_cases h : 2 * k + 1 < len
        · rw [if_pos h, if_pos (by omega)]
        · rw [if_neg h, if_neg (by omega)]
      have HMin := hide (show (if (q : Int) < 2 then (q : Int) else 2) = (e : Int) by
        rw [he2]
        by_cases h : 2 ≤ q
        · rw [if_neg (by omega), if_pos h]; rfl
        · rw [if_pos (by omega), if_neg h]; omega)
      have heq : 1 ≤ e ∧ p + e ≤ len := by
        rw [he2]
        split <;> omega
      obtain ⟨he1, hpe⟩ := heq
      rw [← he] at hYk
      have HYk := hide hYk
      clear hYk
      have hRM : ∀ W, (Instr.slice 98 (.slice (some ⟨g, off, none⟩) len c) (some (.int .i64 (p : Int))) (some (.int .i64 ((p : Int) + (e : Int)))) (some (.int .i64 ((p : Int) + (e : Int))))).run Try.prog W = .ok (.slice (some ⟨g, off + p * 2, none⟩) e e) W := fun W => by
        have := run_midP W g off len c p (p + e) (by omega) (by omega)
        rw [Int.natCast_add, Nat.add_sub_cancel_left] at this
        exact this
      have HRM := hide hRM
      clear hRM
      clear hRC he he2 hq hp
      obtain ⟨wa, rfl⟩ : ∃ W, W = wr := ⟨_, rfl⟩
      gi_wp2
      refine wpIn_wide.2 ?_
      refine wp_region_T (fun W => W.cell? ⟨B1, 0, none⟩ = some (.slice (some ⟨g, off, none⟩) len c) ∧ W.cell? ⟨B2, 0, none⟩ = some (.int .i64 2)) 6 7 #[false, false, false, false, false, false, false] (by kernel_rfl) rfl rfl ⟨b1, b2⟩ ?_
      intro hS0
      refine wpAnyT_take 0 (some 13) (.int .i64 2) #[true, false, false, false, false, false, false] rfl rfl rfl (by kernel_rfl) (fun _ _ _ h => h) hS0 (by rfl) (fun W hX => by obtain ⟨f1, f2⟩ := hX; go_simp) ?_
      simp only [Act.put, List.setIfInBounds_toArray, List.set_cons_zero, List.set_cons_succ]
      refine wpAnyT_take 1 (some 14) (.slice (some ⟨g, off, none⟩) len c) #[true, true, false, false, false, false, false] rfl rfl rfl (by kernel_rfl) (fun _ _ _ h => h) hS0 (by rfl) (fun W hX => by obtain ⟨f1, f2⟩ := hX; go_simp) ?_
      simp only [Act.put, List.setIfInBounds_toArray, List.set_cons_zero, List.set_cons_succ]
      refine wpAnyT_take 2 (some 15) (.int .i64 (p : Int)) #[true, true, true, false, false, false, false] rfl rfl rfl (by kernel_rfl) (fun _ _ _ h => h) hS0 (by rfl) (fun W hX => by go_simp) ?_
      simp only [Act.put, List.setIfInBounds_toArray, List.set_cons_zero, List.set_cons_succ]
      refine wpAnyT_take 3 (some 16) (.slice A3 q d) #[true, true, true, true, false, false, false] rfl rfl rfl (by kernel_rfl) (fun _ _ _ h => h) hS0 (by rfl) (fun W hX => by have hr := HRC.out W; go_simp) ?_
      simp only [Act.put, List.setIfInBounds_toArray, List.set_cons_zero, List.set_cons_succ]
      refine wpAnyT_take 4 (some 17) (.int .i64 (q : Int)) #[true, true, true, true, true, false, false] rfl rfl rfl (by kernel_rfl) (fun _ _ _ h => h) hS0 (by rfl) (fun W hX => by go_simp) ?_
      simp only [Act.put, List.setIfInBounds_toArray, List.set_cons_zero, List.set_cons_succ]
      refine wpAnyT_take 5 (some 18) (.int .i64 (e : Int)) #[true, true, true, true, true, true, false] rfl rfl rfl (by kernel_rfl) (fun _ _ _ h => h) hS0 (by rfl) (fun W hX => by go_simp; first | exact HMin.out | (have h := HMin.out; split at h <;> omega)) ?_
      simp only [Act.put, List.setIfInBounds_toArray, List.set_cons_zero, List.set_cons_succ]
      refine wpAnyT_only 6 #[true, true, true, true, true, true, true] (by kernel_rfl) rfl rfl (by rfl) (fun K1 hK1 => ?_)
      go_simp
      refine hK1 _ _ (fun h => absurd h (by decide)) (wpAnyT_done (by kernel_rfl) ?_ _)
      clear hK1 K1
      have hJ3 := HC.out k wa wa.drew hJ ⟨rfl, rfl, rfl, Nat.le_refl _, fun _ _ _ => rfl⟩
      obtain ⟨d1, d2⟩ := hS0
      generalize wa.drew = w3 at hJ3 d1 d2 ⊢
      obtain ⟨fn, tmps, assign, body, hy, hR⟩ := HYk.out w3 hJ3
      have hRM := HRM.out
      clear hJ b1 b2
      gi_wp2
      refine ⟨fun _ => by omega, hR.mono ?_⟩
      rintro e4 W4 ⟨rfl, hJ4⟩
      obtain ⟨f1, f2⟩ := HI.out (k + 1) W4 hJ4
      gi_wp2
      go_roundw
      case rel => exact ⟨k + 1, p + 2, by go_num, by have := HP.out; omega, by have := HP.out; omega, hJ4⟩
      case measure => simp [intOf]; omega
    · have hpI : ¬ (p : Int) < (len : Int) := by omega
      have hkk : k = (len + 1) / 2 := by omega
      rw [hkk] at hJ
      clear hp
      gi_wp2
      go_end0
      exact ⟨⟨_, rfl⟩, hJ⟩
end Go.Proofs.Ytjpmabdnaooglaa

namespace Go.Proofs.Ytjpmabdnaooglaa
open Go.RowKit Go.Shelf Len

attribute [local go_sem] Oper.semAt_some

theorem wpListIn_makePI {F : Fence} {n : Nat} {ops : Array Oper} {rest : List Oper} {o : Oper} {a : Act} {Q : Exit → Act → World → Prop} {w : World} (hgd : o.guard = none) (c : Operand) (ho : o.op = .makeSlice 98 (.const (.int .i64 0)) c) {m : Nat} {C : Int} (hc : a.eval c = .int .i64 C) (hC : C = (m : Int)) (hm : m ≤ 1000)
    (h : ∀ w', OwnPI w' w.heap.size (.slice (some ⟨w.heap.size, 0, none⟩) 0 m) [] → Ext w w' → w.heap.size < w'.heap.size → wpListIn F n Try.prog ops Q rest (a.put o.dst (.slice (some ⟨w.heap.size, 0, none⟩) 0 m)) w') : wpListIn F n Try.prog ops Q (o :: rest) a w := by
  obtain ⟨i, hi, hz, hsz, hby⟩ := info_parts pitem_info
  exact wpListIn_make_own w hgd (.const (.int .i64 0)) c 98 ho w.heap.size 93 i _ 2 Try.underlying98 hi hz hsz .i64 .i64 C m rfl hc hC (by rw [hby]; omega) (by unfold maxLen; omega) (Nat.le_refl _) fun w' h1 h2 => h w' h1 (Below.grown (Ext.refl w) h2 (Nat.le_refl _) fun k hk => by cases hk) (h1.lt _ rfl).2

set_option maxHeartbeats 1000000 in
theorem chunk_in (n : Nat) (A : Option Addr) (m c : Nat) (w : World) :
    CallsIn Fence.wide n Try.prog 75 #[.slice A m c, .int .i64 2] w fun e w' => e = .returned (.func (.func 90) #[] #[.pointer (some ⟨w.heap.size, 0, none⟩), .pointer (some ⟨w.heap.size + 1, 0, none⟩)]) ∧ w' = (w.alloc (.cells #[.slice A m c] 98)).alloc (.cells #[.int .i64 2] 3) := by
  refine callsIn_of_wp Try.func75 rfl trivial ?_ rfl
  simp only [Try.ntmps75, List.size_toArray, List.length_cons, List.length_nil, Nat.reduceAdd, Nat.reduceSub, Array.replicate_succ, Array.replicate_zero, List.push_toArray, List.append_toArray, List.nil_append, List.cons_append]
  gi_wp2
  go_ret
  exact ⟨rfl, rfl⟩

/-- Between two rounds. -/
structure PairsI (w : World) (s : Nat) (A : Option Addr) (len c : Nat) (L : List PI) (k : Nat) (W : World) : Prop where
  ex : ∃ v, Whole W s 98 #[v] ∧ OwnPI W w.heap.size v ((pairsP L).take k) ∧ ∀ x, v.ownBlock = some x → x < s ∨ s + 3 ≤ x
  b1 : Whole W (s + 1) 98 #[.slice A len c]
  b2 : Whole W (s + 1 + 1) 3 #[.int .i64 2]
  ext : Ext w W
theorem Whole.turn {W W' : World} {g : Nat} {t : TypeId} {cs : Array Value} {row : Option Nat} (h : Whole W g t cs) (hg : W.grownBy W' row) (hr : ∀ r, row = some r → ∃ o : Obj, W.heap[r]? = some o ∧ o.isCells = false) : Whole W' g t cs :=
  (hg.block g h.lt fun e => by
    obtain ⟨o, h1, h2⟩ := hr g e.symm
    rw [show W.heap[g]? = _ from h] at h1
    cases h1
    cases h2).trans h
theorem OwnPI.turn {W W' : World} {base : Nat} {v : Value} {L : List PI} {row : Option Nat} (h : OwnPI W base v L) (hg : W.grownBy W' row) (hr : ∀ r, row = some r → ∃ o : Obj, W.heap[r]? = some o ∧ o.isCells = false) : OwnPI W' base v L :=
  h.kept hg (by
    rcases h.2 with ⟨rfl, _⟩ | ⟨g, cap, cur, rfl, _, hgg, _⟩
    · exact .inl rfl
    · refine .inr fun e => ?_
      obtain ⟨o, h1, h2⟩ := hr g e.symm
      rw [hgg] at h1
      cases h1
      cases h2)
theorem PairsI.own {w : World} {s : Nat} {A : Option Addr} {len c B : Nat} {L : List PI} (hB : w.heap.size ≤ B) : OwnFrom B (PairsI w s A len c L) := fun k W W' row h hg hr => by
  have hr2 := fun r e => (hr r e).2
  obtain ⟨v, h1, h2, h3⟩ := h.ex
  exact ⟨⟨v, h1.turn hg hr2, h2.turn hg hr2, h3⟩, h.b1.turn hg hr2, h.b2.turn hg hr2, Below.grown h.ext hg h.ext.le fun r e => Nat.le_trans hB (hr r e).1⟩

set_option maxHeartbeats 4000000 in
set_option maxRecDepth 100000 in
theorem pairsOf_any {L : List PI} {g off len c : Nat} {w : World} (hn : len ≤ 1000) (hc : len ≤ c) (hcm : c ≤ maxLen) (h : PIAt w w.heap.size (some ⟨g, off, none⟩) len L) (hw : ∀ i, i < len → (L.getD i (0, 0)).1 < 9223372036854775808) :
    Calls Try.prog 64 #[.slice (some ⟨g, off, none⟩) len c] w fun e w' => ∃ v, e = .returned v ∧ OwnPI w' w.heap.size v (pairsP L) ∧ Ext w w' := by
  have HW := hide hw
  have HA := hide h
  have HC := hide hcm
  clear h hw hcm
  refine (callsIn_wide (n := 10)).1 ?_
  refine callsIn_of_wp_marks Try.func64 rfl trivial ?_ rfl
  simp only [Try.ntmps64, List.size_toArray, List.length_cons, List.length_nil, Nat.reduceAdd, Nat.reduceSub, Array.replicate_succ, Array.replicate_zero, List.push_toArray, List.append_toArray, List.nil_append, List.cons_append]
  gi_wp2_with (refine wpListIn_makePI (m := len / 2) rfl (.tmp 7) rfl rfl (by omega) (by omega) ?_; intro w1 hR1 hE1 hs1)
  refine ⟨trivial, (chunk_in _ _ _ _ _).mono ?_⟩
  rintro e w' ⟨rfl, rfl⟩
  gi_wp2
  have hI0 : PairsI w w1.heap.size (some ⟨g, off, none⟩) len c L 0 (((w1.alloc (.cells #[.slice (some ⟨w.heap.size, 0, none⟩) 0 (len / 2)] 98)).alloc (.cells #[.slice (some ⟨g, off, none⟩) len c] 98)).alloc (.cells #[.int .i64 2] 3)) := by
    refine ⟨⟨_, ((Whole.new w1 _ _).alloc _).alloc _, ((hR1.ext (extNew _ _)).ext (extNew _ _)).ext (extNew _ _), fun x hx => .inl ?_⟩, ?_, ?_, ((hE1.alloc _).alloc _).alloc _⟩
    · simp only [Value.ownBlock, Option.some.injEq] at hx
      omega
    · have := (Whole.new (w1.alloc (.cells #[.slice (some ⟨w.heap.size, 0, none⟩) 0 (len / 2)] 98)) 98 #[.slice (some ⟨g, off, none⟩) len c]).alloc (.cells #[.int .i64 2] 3)
      rwa [World.size_alloc] at this
    · have := Whole.new ((w1.alloc (.cells #[.slice (some ⟨w.heap.size, 0, none⟩) 0 (len / 2)] 98)).alloc (.cells #[.slice (some ⟨g, off, none⟩) len c] 98)) 3 #[.int .i64 2]
      rwa [World.size_alloc, World.size_alloc] at this
  have hB3 : w.heap.size ≤ (((w1.alloc (.cells #[.slice (some ⟨w.heap.size, 0, none⟩) 0 (len / 2)] 98)).alloc (.cells #[.slice (some ⟨g, off, none⟩) len c] 98)).alloc (.cells #[.int .i64 2] 3)).heap.size := hI0.ext.le
  have hs3 : w1.heap.size + 3 ≤ (((w1.alloc (.cells #[.slice (some ⟨w.heap.size, 0, none⟩) 0 (len / 2)] 98)).alloc (.cells #[.slice (some ⟨g, off, none⟩) len c] 98)).alloc (.cells #[.int .i64 2] 3)).heap.size := by simp
  generalize ((w1.alloc (.cells #[.slice (some ⟨w.heap.size, 0, none⟩) 0 (len / 2)] 98)).alloc (.cells #[.slice (some ⟨g, off, none⟩) len c] 98)).alloc (.cells #[.int .i64 2] 3) = w3 at hI0 hB3 hs3 ⊢
  have hsw := hE1.le
  clear hR1 hE1
  generalize w1.heap.size = s at *
  refine wpIn_rangeOwn (gf := 90) (lb := #[.pointer (some ⟨s + 1, 0, none⟩), .pointer (some ⟨s + 1 + 1, 0, none⟩)]) rfl (enters_of Try.func90 (by kernel_rfl) rfl) ((len + 1) / 2)
    (fun k => #[.slice (some ⟨g, off + 2 * k * 2, none⟩) (chunkN len k) (chunkN len k)]) (fun _ => rfl) (PairsI w s (some ⟨g, off, none⟩) len c L) (PairsI.own hB3) hI0
    (chunk_gives (by omega) hn hc HC.out fun k W h => ⟨h.b1.at 0 (u := .slice (some ⟨g, off, none⟩) len c) rfl, h.b2.at 0 (u := .int .i64 2) rfl⟩)
    (fun k => { tmps := #[.slice (some ⟨g, off, none⟩) len c, undef, .slice none 0 0, .pointer (some ⟨s, 0, none⟩), .slice (some ⟨g, off + 2 * k * 2, none⟩) (chunkN len k) (chunkN len k), .slice (some ⟨g, off, none⟩) len c, .int .i64 (len : Int), .int .i64 ((len : Int) / 2), .slice (some ⟨w.heap.size, 0, none⟩) 0 (len / 2), .slice (some ⟨g, off, none⟩) len c,
      .func (.func 90) #[] #[.pointer (some ⟨s + 1, 0, none⟩), .pointer (some ⟨s + 1 + 1, 0, none⟩)], .slice (some ⟨g, off + 2 * k * 2, none⟩) (chunkN len k) (chunkN len k), undef, undef, undef, undef, undef, undef, undef, undef, undef, undef, undef, undef, undef, undef, undef, undef, undef], defers := [] }) ?assign ?body ?done
  case assign =>
    intro l k W K hK
    generalize chunkN len k = e at *
    gi_wp2
    exact hK
  case body =>
    intro l k W hI hk
    obtain ⟨v, h1, h2, h3⟩ := hI.ex
    have c1 := h1.at 0 (u := v) rfl
    by_cases hk2 : 2 * k + 1 < len
    · have he : chunkN len k = 2 := if_pos hk2
      rw [he]
      have hcell : ∀ i, i < len → w.cell? ⟨g, off + i * 2, none⟩ = some (.int .u64 ((L.getD i (0, 0)).1 : Int)) := fun i hi => by
        rcases HA.out.2 with h0 | ⟨b, o, e, _, hc⟩
        · omega
        · simp only [Option.some.injEq, Addr.mk.injEq, and_true] at e
          obtain ⟨rfl, rfl⟩ := e
          exact (hc i hi).1
      have hgw : g < w.heap.size := World.block_lt_of_cell? w _ (hcell (2 * k) (by omega))
      have i1 := (hI.ext.cell (i := off + 2 * k * 2) hgw).trans (hcell (2 * k) (by omega))
      have i2 := (hI.ext.cell (i := off + (2 * k + 1) * 2) hgw).trans (hcell (2 * k + 1) (by omega))
      rw [show off + (2 * k + 1) * 2 = off + 2 * k * 2 + 2 by omega] at i2
      have b1 := HW.out (2 * k) (by omega)
      have b2 := HW.out (2 * k + 1) (by omega)
      have hpg := pairsP_get L k (by rw [HA.out.1]; exact hk2)
      have ht : (pairsP L).take (k + 1) = (pairsP L).take k ++ [((L.getD (2 * k) (0, 0)).1 + (L.getD (2 * k + 1) (0, 0)).1, 300)] := by
        have hl : k < (pairsP L).length := by rw [pairsP_len, HA.out.1]; omega
        rw [List.take_succ_eq_append_getElem hl, ← hpg]
        congr 2
        simp [List.getD_eq_getElem?_getD, hl]
      generalize (L.getD (2 * k) (0, 0)).1 = x at *
      generalize (L.getD (2 * k + 1) (0, 0)).1 = y at *
      have hwr : IntKind.u64.wrap ((x : Int) + (y : Int)) = ((x + y : Nat) : Int) := by
        simp [IntKind.wrap, IntKind.bits, IntKind.signed]
        omega
      have hrl : ((pairsP L).take k).length ≤ 100000 := by rw [List.length_take]; omega
      have HT := hide ht
      have H3 := hide h3
      have H1 := hide h1
      have H2 := hide h2
      have HX := hide hI
      have hlt := h1.lt
      obtain ⟨Av, cv, rfl, _, _, _⟩ := h2.form
      clear ht hpg he h1 h2 h3 hcell
      generalize (pairsP L).take k = T at *
      have hIw := hI.ext.le
      have hgW : g < W.heap.size := by omega
      have hEd : Ext W (W.alloc (.cells #[.int .u64 ((x : Int) + (y : Int)), .int .i64 300] 93)).drew := (extNew W _).drew
      have hsd : W.heap.size < (W.alloc (.cells #[.int .u64 ((x : Int) + (y : Int)), .int .i64 300] 93)).drew.heap.size := by
        show W.heap.size < (W.alloc _).heap.size
        rw [World.size_alloc]
        omega
      have hKo : KeepsOthers W (W.alloc (.cells #[.int .u64 ((x : Int) + (y : Int)), .int .i64 300] 93)).drew := (KeepsOthers.alloc W _).trans (KeepsOthers.of_grownBy (row := none) ⟨rfl, rfl, rfl, Nat.le_refl _, fun _ _ _ => rfl⟩ (fun _ _ h => by cases h))
      have hone0 : PIAt (W.alloc (.cells #[.int .u64 ((x : Int) + (y : Int)), .int .i64 300] 93)) (W.alloc (.cells #[.int .u64 ((x : Int) + (y : Int)), .int .i64 300] 93)).heap.size (some ⟨W.heap.size, 0, none⟩) 1 [(x + y, 300)] := PIAt.one W (x + y, 300)
      have hone := hone0.ext (Ext.refl _).drew
      clear hone0
      gi_wp2
      refine wpIn_region_T (fun X => Ext W X) 12 14 #[false, false, false, false, false, false, false, false, false, false, false, false, false, false] (by kernel_rfl) (fun ⟨_, _, h⟩ => h) (by kernel_rfl) rfl rfl (Ext.refl W).drew ?_
      intro hS0
      refine wpAnyT_take 0 (some 15) (.slice Av T.length cv) #[true, false, false, false, false, false, false, false, false, false, false, false, false, false] rfl rfl rfl (by kernel_rfl) (fun _ _ _ h => h) hS0 (by rfl) (fun X hX => by have f1 := (hX.cell (i := 0) hlt).trans c1; go_simp) ?_
      simp only [Act.put, List.setIfInBounds_toArray, List.set_cons_zero, List.set_cons_succ]
      refine wpAnyT_take 1 (some 16) (.slice (some ⟨g, off + 2 * k * 2, none⟩) 2 2) #[true, true, false, false, false, false, false, false, false, false, false, false, false, false] rfl rfl rfl (by kernel_rfl) (fun _ _ _ h => h) hS0 (by rfl) (fun X hX => by go_simp) ?_
      simp only [Act.put, List.setIfInBounds_toArray, List.set_cons_zero, List.set_cons_succ]
      refine wpAnyT_take 2 (some 17) (.pointer (some ⟨g, off + 2 * k * 2, none⟩)) #[true, true, true, false, false, false, false, false, false, false, false, false, false, false] rfl rfl rfl (by kernel_rfl) (fun _ _ _ h => h) hS0 (by rfl) (fun X hX => by go_simp) ?_
      simp only [Act.put, List.setIfInBounds_toArray, List.set_cons_zero, List.set_cons_succ]
      refine wpAnyT_take 3 (some 18) (.pointer (some ⟨g, off + 2 * k * 2, none⟩)) #[true, true, true, true, false, false, false, false, false, false, false, false, false, false] rfl rfl rfl (by kernel_rfl) (fun _ _ _ h => h) hS0 (by rfl) (fun X hX => by go_simp) ?_
      simp only [Act.put, List.setIfInBounds_toArray, List.set_cons_zero, List.set_cons_succ]
      refine wpAnyT_take 4 (some 19) (.int .u64 (x : Int)) #[true, true, true, true, true, false, false, false, false, false, false, false, false, false] rfl rfl rfl (by kernel_rfl) (fun _ _ _ h => h) hS0 (by rfl) (fun X hX => by have f1 := (hX.cell (i := off + 2 * k * 2) hgW).trans i1; go_simp) ?_
      simp only [Act.put, List.setIfInBounds_toArray, List.set_cons_zero, List.set_cons_succ]
      refine wpAnyT_take 5 (some 20) (.slice (some ⟨g, off + 2 * k * 2, none⟩) 2 2) #[true, true, true, true, true, true, false, false, false, false, false, false, false, false] rfl rfl rfl (by kernel_rfl) (fun _ _ _ h => h) hS0 (by rfl) (fun X hX => by go_simp) ?_
      simp only [Act.put, List.setIfInBounds_toArray, List.set_cons_zero, List.set_cons_succ]
      refine wpAnyT_take 6 (some 21) (.pointer (some ⟨g, off + 2 * k * 2 + 2, none⟩)) #[true, true, true, true, true, true, true, false, false, false, false, false, false, false] rfl rfl rfl (by kernel_rfl) (fun _ _ _ h => h) hS0 (by rfl) (fun X hX => by go_simp) ?_
      simp only [Act.put, List.setIfInBounds_toArray, List.set_cons_zero, List.set_cons_succ]
      refine wpAnyT_take 7 (some 22) (.pointer (some ⟨g, off + 2 * k * 2 + 2, none⟩)) #[true, true, true, true, true, true, true, true, false, false, false, false, false, false] rfl rfl rfl (by kernel_rfl) (fun _ _ _ h => h) hS0 (by rfl) (fun X hX => by go_simp) ?_
      simp only [Act.put, List.setIfInBounds_toArray, List.set_cons_zero, List.set_cons_succ]
      refine wpAnyT_take 8 (some 23) (.int .u64 (y : Int)) #[true, true, true, true, true, true, true, true, true, false, false, false, false, false] rfl rfl rfl (by kernel_rfl) (fun _ _ _ h => h) hS0 (by rfl) (fun X hX => by have f1 := (hX.cell (i := off + 2 * k * 2 + 2) hgW).trans i2; go_simp) ?_
      simp only [Act.put, List.setIfInBounds_toArray, List.set_cons_zero, List.set_cons_succ]
      refine wpAnyT_take 9 (some 24) (.int .u64 ((x + y : Nat) : Int)) #[true, true, true, true, true, true, true, true, true, true, false, false, false, false] rfl rfl rfl (by kernel_rfl) (fun _ _ _ h => h) hS0 (by rfl) (fun X hX => by go_simp) ?_
      simp only [Act.put, List.setIfInBounds_toArray, List.set_cons_zero, List.set_cons_succ]
      refine wpAnyT_take 10 (some 25) (.agg #[.int .u64 ((x + y : Nat) : Int), .int .i64 ((300 : Nat) : Int)]) #[true, true, true, true, true, true, true, true, true, true, true, false, false, false] rfl rfl rfl (by kernel_rfl) (fun _ _ _ h => h) hS0 (by rfl) (fun X hX => by go_simp) ?_
      simp only [Act.put, List.setIfInBounds_toArray, List.set_cons_zero, List.set_cons_succ]
      refine wpAnyT_only 11 #[true, true, true, true, true, true, true, true, true, true, true, true, false, false] (by kernel_rfl) rfl rfl (by rfl) (fun K0 hK0 => ?_)
      go_simp
      refine hK0 _ _ (fun _ => hEd) ?_
      clear hK0 K0
      generalize (W.alloc (.cells #[.int .u64 ((x : Int) + (y : Int)), .int .i64 300] 93)).drew = w5 at *
      refine wpAnyT_only 12 #[true, true, true, true, true, true, true, true, true, true, true, true, true, false] (by kernel_rfl) rfl rfl (by rfl) (fun K1 hK1 => ?_)
      refine wp_appPI (v := .slice Av T.length cv) (.tmp 15) (.tmp 26) rfl rfl (H2.out.ext hEd) rfl hone hrl (by omega) (Nat.le_trans hIw hEd.le) ?_
      intro v6 w6 hO6 hG6 hn6
      refine hK1 _ _ (fun h => absurd h (by decide)) ?_
      clear hK1 K1
      simp only [Act.put, List.setIfInBounds_toArray]
      have hne : ∀ j, s ≤ j → j < s + 3 → (Value.slice Av T.length cv).ownBlock ≠ some j := fun j h1 h2 h3 => by
        have := H3.out j h3
        omega
      have hs1w : s + 1 + 1 < W.heap.size := HX.out.b2.lt
      have hne6 : ∀ j, s ≤ j → j < s + 3 → v6.ownBlock ≠ some j := fun j h1 h2 h3 => by
        rcases hn6 with e | e
        · exact hne j h1 h2 (e ▸ h3)
        · rw [e] at h3
          simp only [Option.some.injEq] at h3
          omega
      have hW6 := (H1.out.ext hEd).ownGrown hG6 (hne s (Nat.le_refl _) (by omega))
      have hA6 := (HX.out.b1.ext hEd).ownGrown hG6 (hne (s + 1) (by omega) (by omega))
      have hB6 := (HX.out.b2.ext hEd).ownGrown hG6 (hne (s + 1 + 1) (by omega) (by omega))
      have hX6 : Ext w w6 := Below.grown (HX.out.ext.trans hEd) hG6 (HX.out.ext.trans hEd).le (fun r hr => (H2.out.lt r hr).1)
      have hK6 := hKo.trans (KeepsOthers.of_grownBy hG6 (fun j o hj ho => by
        rcases (H2.out.ext hEd).2 with ⟨h, _⟩ | ⟨g1, c1, u1, h, _, hg1, _⟩
        · rw [h] at hj; cases hj
        · rw [h] at hj
          simp only [Value.ownBlock, Option.some.injEq] at hj
          subst hj
          rw [hg1] at ho
          cases ho
          rfl))
      have d1 := hW6.at 0 (u := .slice Av T.length cv) rfl
      have d2 := hW6.frozen 0
      have HO6 := hide hO6
      have HN6 := hide hne6
      clear hne hne6 hn6
      generalize T ++ [(x + y, 300)] = T2 at *
      obtain ⟨A6, c6, rfl, _, _, _⟩ := hO6.form
      clear hO6
      refine wpAnyT_only 13 #[true, true, true, true, true, true, true, true, true, true, true, true, true, true] (by kernel_rfl) rfl rfl (by rfl) (fun K2 hK2 => ?_)
      go_simp
      refine hK2 _ _ (fun h => absurd h (by decide)) (wpAnyT_done (by kernel_rfl) ?_ _)
      clear hK2 K2
      have hG7 := grown_setCell w6 s 0 (.slice A6 T2.length c6)
      refine ⟨(hK6.trans (KeepsOthers.setCell _ _ _)).from _, ?_⟩
      refine ⟨⟨_, hW6.set 0 _, by rw [HT.out]; exact HO6.out.kept hG7 (.inr (HN6.out s (Nat.le_refl _) (by omega))), fun j hj => ?_⟩, hA6.far (by omega) _ _, hB6.far (by omega) _ _, hX6.setCell (by omega) _⟩
      rcases Nat.lt_or_ge j s with h | h
      · exact .inl h
      · refine .inr (Nat.le_of_not_lt fun h2 => HN6.out j h h2 hj)
    · have he : chunkN len k = 1 := if_neg hk2
      rw [he]
      have ht : (pairsP L).take (k + 1) = (pairsP L).take k := by
        rw [List.take_of_length_le (by rw [pairsP_len, HA.out.1]; omega), List.take_of_length_le (by rw [pairsP_len, HA.out.1]; omega)]
      have HI := hide (show PairsI w s (some ⟨g, off, none⟩) len c L (k + 1) W from ⟨⟨v, h1, by rw [ht]; exact h2, h3⟩, hI.b1, hI.b2, hI.ext⟩)
      clear ht h1 h2 h3 he
      gi_wp2
      exact ⟨KeepsFrom.refl _ _, HI.out⟩
  case done =>
    intro D W hD hI hK
    obtain ⟨v, h1, h2, h3⟩ := hI.ex
    rw [List.take_of_length_le (by rw [pairsP_len, HA.out.1]; omega)] at h2
    have c1 := h1.at 0 (u := v) rfl
    have hX := hI.ext
    have H2 := hide h2
    obtain ⟨Av, cv, rfl, _, _, _⟩ := h2.form
    clear h1 h3 h2
    gi_wp2
    refine ⟨by simp, .inl ⟨_, _, rfl, run_takeDeferred hK, ?_⟩⟩
    have hG := grownBy_putObj' W D (.deferred none)
    exact ⟨_, results_tmp rfl _ _ _, .slice Av _ cv, rfl, H2.out.turn hG (fun r e => by cases e; exact ⟨_, hK, rfl⟩), Below.grown hX hG hX.le (fun r e => by cases e; omega)⟩
end Go.Proofs.Ytjpmabdnaooglaa

