/- 'copy' into a row of a matrix in the call's own memory. Contracts of the program's working copies: add, scale, swap. Contract of the program's find: the first row that doesn't lead and has a cell in this column that isn't 0. -/
import Derived.Test.YtbfkknoeaekajaaMatPBase
import Derived.Test.YtbfkknoeaekajaaMatTbl
import Derived.Test.YtbfkknoeaekajaaRegTail
import Derived.Test.YtbfkknoeaekajaaGfSum
namespace Go.Proofs.Ytbfkknoeaekajaa
open Go.RowKit

theorem OwnB.setCells {base g n c : Nat} : ∀ (xs : List UInt8) (o : Nat) {w : World} {l : List UInt8}, OwnB w base (.slice (some ⟨g, 0, none⟩) n c) l → o + xs.length ≤ l.length →
    OwnB (w.setCells g o (xs.map byteV)) base (.slice (some ⟨g, 0, none⟩) n c) (splice l o xs)
  | [], o, w, l, h, _ => by simpa [splice, World.setCells] using h
  | x :: xs, o, w, l, h, hl => by
    rw [List.length_cons] at hl
    have := (h.set o x).setCells xs (o + 1) (by rw [List.length_set]; omega)
    have e : splice (l.set o x) (o + 1) xs = splice l o (x :: xs) := by
      unfold splice
      rw [List.take_set, List.set_eq_take_append_cons_drop, if_pos (by rw [List.length_take]; omega), List.take_take, Nat.min_eq_left (by omega), List.drop_eq_nil_of_le (by rw [List.length_take]; omega)]
      rw [List.drop_set_of_lt (by omega), List.length_cons, show o + 1 + xs.length = o + (xs.length + 1) by omega]
      simp
    rw [e] at this
    exact this
theorem cells_splice (c N : Nat) (F : Mat.M) {i m : Nat} (f : Nat → UInt8) (hm : m ≤ c) (hN : i * c + m ≤ N) : splice (cellsOf c F N) (i * c) (rowB m f) = cellsOf c (fun a b => if a = i ∧ b < m then f b else F a b) N := by
  unfold splice
  apply List.ext_getElem
  · rw [List.length_append, List.length_append, List.length_take, List.length_drop, cellsOf_len, cellsOf_len, rowB_len]
    omega
  · intro p h1 h2
    rw [cellsOf_len] at h2
    rw [List.getElem_append]
    by_cases hp : p < i * c
    · rw [dif_pos (by rw [List.length_take, cellsOf_len]; omega)]
      simp only [cellsOf, List.getElem_take, List.getElem_map, List.getElem_range]
      rw [if_neg]
      rintro ⟨h3, h4⟩
      have := Nat.div_add_mod p c
      rw [h3, Nat.mul_comm] at this
      omega
    · rw [dif_neg (by rw [List.length_take, cellsOf_len]; omega)]
      have hlt : (List.take (i * c) (cellsOf c F N)).length = i * c := by rw [List.length_take, cellsOf_len]; omega
      rw [List.getElem_append]
      by_cases hq : p < i * c + m
      · rw [dif_pos (by rw [rowB_len, hlt]; omega)]
        have hd : p / c = i := by
          rw [show p = c * i + (p - i * c) by rw [Nat.mul_comm]; omega, Nat.mul_add_div (by omega), Nat.div_eq_of_lt (by omega), Nat.add_zero]
        have hmo : p % c = p - i * c := by
          have := Nat.div_add_mod p c
          rw [hd, Nat.mul_comm] at this
          omega
        simp only [cellsOf, rowB, List.getElem_map, List.getElem_range, hd, hmo]
        rw [if_pos ⟨trivial, by omega⟩, List.length_take, List.length_map, List.length_range, Nat.min_eq_left (by omega)]
      · rw [dif_neg (by rw [rowB_len, hlt]; omega)]
        simp only [cellsOf, List.getElem_drop, List.getElem_map, List.getElem_range, rowB_len, List.length_take, List.length_map, List.length_range]
        rw [Nat.min_eq_left (by omega), show i * c + m + (p - i * c - m) = p by omega, if_neg]
        rintro ⟨h3, h4⟩
        have := Nat.div_add_mod p c
        rw [h3, Nat.mul_comm] at this
        omega

variable {o : Oper} {a : Act} {w : World} {K : Act → World → Prop} {Q : Exit → Act → World → Prop}
/-- Cells go over into row i. -/
theorem wp_copyM (d s : Operand) (ho : o.op = .call { callee := .builtin .copy, args := #[d, s], argTypes := #[35, 35] }) {base g r c i m N kN kd ks : Nat} {D A : Option Addr} {F : Mat.M} {f : Nat → UInt8} {B : Nat}
    (hd : a.eval d = .slice D c kd) (hs : a.eval s = .slice A m ks) (hO : OwnB w base (.slice (some ⟨g, 0, none⟩) N kN) (cellsOf c F N)) (hB : Bytes w B A m (rowB m f)) (hN : N = r * c) (hkN : N ≤ kN) (hi : i < r) (hm : m ≤ c) (hD : D = cutAt (some ⟨g, 0, none⟩) kN (i * c))
    (h : ∀ w', OwnB w' base (.slice (some ⟨g, 0, none⟩) N kN) (cellsOf c (fun a b => if a = i ∧ b < m then f b else F a b) N) → w.grownBy w' (some g) → w'.heap.size = w.heap.size → K (a.put o.dst (goInt m)) w') : o.wp Try.prog a w K Q := by
  have hinf : (Try.prog.info? 5).map (·.size) = some 1 := by kernel_rfl
  subst hD
  by_cases h0 : m = 0
  · subst h0
    have hrun := run_copy_none (P := Try.prog) w 35 35 o.type 5 (cutAt (some ⟨g, 0, none⟩) kN (i * c)) A c kd 0 ks Try.underlying35 hinf (by simp)
    unfold Oper.wp
    simp [execOp, ho, resolve, invoke, builtin, hd, hs, hrun, Result.andThen]
    refine h w ?_ (World.grownBy.refl w _) rfl
    rw [cells_congr (g := F)]
    · exact hO
    · intro p _
      rw [if_neg (by omega)]
  · obtain ⟨p1, p2⟩ := row_place hi (by omega : 0 < c)
    rw [← hN] at p1 p2
    rw [cutAt_zero (by omega)] at hd
    rcases hB.2 with h1 | ⟨b, off, rfl, _, hcell⟩
    · exact absurd h1 h0
    have hlen : ((rowB m f).map byteV).length = m := by rw [List.length_map, rowB_len]
    have hrun := run_copy_cells (P := Try.prog) w 35 35 o.type 5 g (i * c) c kd ⟨b, off, none⟩ m ks ((rowB m f).map byteV) Try.underlying35 hinf (by rw [hlen]; exact (Nat.min_eq_left hm).symm)
      (fun j v hj => by
        have hj' : j < m := by have := (List.getElem?_eq_some_iff.1 hj).1; rw [hlen] at this; exact this
        have := hcell j hj'
        rw [show (⟨b, off, none⟩ : Addr).add j = ⟨b, off + j, none⟩ by simp [Addr.add], this, ← hj]
        simp [byteV, rowB, hj'])
      (fun j hj => by
        rw [hlen] at hj
        rw [(hO.cell (i := i * c + j) (by rw [cellsOf_len]; omega)).1]
        rfl)
      (fun j hj => by
        rw [hlen] at hj
        exact (hO.cell (i := i * c + j) (by rw [cellsOf_len]; omega)).2)
      (fun v hv => by
        obtain ⟨x, _, rfl⟩ := List.mem_map.1 hv
        rfl)
    rw [hlen] at hrun
    unfold Oper.wp
    simp [execOp, ho, resolve, invoke, builtin, hd, hs, hrun, Result.andThen]
    have hO2 := hO.setCells (rowB m f) (i * c) (by rw [cellsOf_len, rowB_len]; omega)
    rw [cells_splice c N F f hm (by omega)] at hO2
    obtain ⟨g1, g2⟩ := setCells_grown g ((rowB m f).map byteV) (i * c) w
    exact h _ hO2 g1 g2
theorem wpList_copyM {ops : Array Oper} {rest : List Oper} (hgd : o.guard = none) (d s : Operand) (ho : o.op = .call { callee := .builtin .copy, args := #[d, s], argTypes := #[35, 35] }) {base g r c i m N kN kd ks : Nat} {D A : Option Addr} {F : Mat.M} {f : Nat → UInt8} {B : Nat}
    (hd : a.eval d = .slice D c kd) (hs : a.eval s = .slice A m ks) (hO : OwnB w base (.slice (some ⟨g, 0, none⟩) N kN) (cellsOf c F N)) (hB : Bytes w B A m (rowB m f)) (hN : N = r * c) (hkN : N ≤ kN) (hi : i < r) (hm : m ≤ c) (hD : D = cutAt (some ⟨g, 0, none⟩) kN (i * c))
    (h : ∀ w', OwnB w' base (.slice (some ⟨g, 0, none⟩) N kN) (cellsOf c (fun a b => if a = i ∧ b < m then f b else F a b) N) → w.grownBy w' (some g) → w'.heap.size = w.heap.size → wpList Try.prog ops Q rest (a.put o.dst (goInt m)) w') :
    wpList Try.prog ops Q (o :: rest) a w :=
  wpList_plain hgd fun _ hK => wp_copyM d s ho hd hs hO hB hN hkN hi hm hD fun w' h1 h2 h3 => hK _ _ (h w' h1 h2 h3)
/-- A row of a matrix, as it reads. -/
theorem rowBytes {B : Nat} {A : Option Addr} {k r c i : Nat} {l : List UInt8} {F : Mat.M} (h : Bytes w B A l.length l) (hl : l.length = r * c) (hk : l.length ≤ k) (hi : i < r) (hF : ∀ a b, F a b = l.getD (a * c + b) 0) : Bytes w B (cutAt A k (i * c)) c (rowB c (F i)) := by
  have hle : i * c + c ≤ r * c := by
    have : (i + 1) * c ≤ r * c := Nat.mul_le_mul_right _ hi
    rw [Nat.add_mul, Nat.one_mul] at this
    exact this
  have h1 := (h.drop (k := i * c) (c := k) (by omega) hk).take (k := c) (by omega)
  have e : (l.drop (i * c)).take c = rowB c (F i) := by
    apply List.ext_getElem
    · rw [rowB_len, List.length_take, List.length_drop]; omega
    · intro p h2 h3
      rw [rowB_len] at h3
      have h4 : i * c + p < l.length := by omega
      simp [rowB, hF, List.getD_eq_getElem?_getD, h4]
  rw [e] at h1
  exact h1
/-- A row of a matrix in own memory, as it reads. -/
theorem ownRow {base g r c i N kN : Nat} {F : Mat.M} (h : OwnB w base (.slice (some ⟨g, 0, none⟩) N kN) (cellsOf c F N)) (hN : N = r * c) (hkN : N ≤ kN) (hi : i < r) : Bytes w w.heap.size (cutAt (some ⟨g, 0, none⟩) kN (i * c)) c (rowB c (F i)) := by
  obtain ⟨A, n, k, hv, _, _, h3⟩ := h.form'
  simp only [Value.slice.injEq] at hv
  obtain ⟨rfl, rfl, rfl⟩ := hv
  have hl := cellsOf_len c F N
  have hB : Bytes w w.heap.size (some ⟨g, 0, none⟩) (cellsOf c F N).length (cellsOf c F N) := by rw [hl]; exact h3
  have := rowBytes (k := kN) (F := fun a b => (cellsOf c F N).getD (a * c + b) 0) hB (by rw [hl, hN]) (by rw [hl]; exact hkN) hi (fun _ _ => rfl)
  rw [rowB_congr (g := F i)] at this
  · exact this
  · intro j hj
    have hle : i * c + c ≤ r * c := by
      have : (i + 1) * c ≤ r * c := Nat.mul_le_mul_right _ hi
      rw [Nat.add_mul, Nat.one_mul] at this
      exact this
    have hd : (i * c + j) / c = i := by rw [Nat.mul_comm, Nat.mul_add_div (by omega), Nat.div_eq_of_lt hj, Nat.add_zero]
    have hm : (i * c + j) % c = j := by rw [Nat.mul_comm, Nat.mul_add_mod, Nat.mod_eq_of_lt hj]
    have hlt : i * c + j < N := by omega
    simp [cellsOf, List.getD_eq_getElem?_getD, hlt, hd, hm]
end Go.Proofs.Ytbfkknoeaekajaa

namespace Go.Proofs.Ytbfkknoeaekajaa
open Go.RowKit

/-- A matrix in the call's own memory, its cells in block g, told by F. -/
def OwnM (w : World) (base g r c k : Nat) (F : Mat.M) : Prop := OwnB w base (.slice (some ⟨g, 0, none⟩) (r * c) k) (cellsOf c F (r * c)) ∧ base ≤ g ∧ g < w.heap.size ∧ r * c ≤ k
def ownV (g r c k : Nat) : Value := matV r c (.slice (some ⟨g, 0, none⟩) (r * c) k)
theorem OwnM.ext {w w' : World} {base g r c k : Nat} {F : Mat.M} (h : OwnM w base g r c k F) (hE : Ext w w') : OwnM w' base g r c k F := ⟨h.1.ext hE, h.2.1, Nat.lt_of_lt_of_le h.2.2.1 hE.le, h.2.2.2⟩
theorem OwnM.congr {w : World} {base g r c k : Nat} {F G : Mat.M} (h : OwnM w base g r c k F) (hF : ∀ i j, i < r → j < c → F i j = G i j) : OwnM w base g r c k G := by
  refine ⟨?_, h.2⟩
  rw [cells_congr (g := F)]
  · exact h.1
  · intro p hp
    have hc : 0 < c := by
      rcases Nat.eq_zero_or_pos c with h0 | h0
      · rw [h0, Nat.mul_zero] at hp; omega
      · exact h0
    exact (hF _ _ (Nat.div_lt_of_lt_mul (by rw [Nat.mul_comm]; exact hp)) (Nat.mod_lt _ hc)).symm
theorem work_info : (Try.prog.info? 73).map (·.size) = some 3 := by kernel_rfl
theorem results_work {fn : Func} {p : Tmp} (h : fn.results = #[.cell p 73]) (tmps : Array Value) {w : World} {g : Nat} {cs : Array Value} (hp : tmps.getD p undef = .pointer (some ⟨g, 0, none⟩))
    (hW : Whole w g 73 cs) (hs : cs.size = 3) : (results fn tmps).run Try.prog w = .ok (.agg cs) w := by
  have hp' : tmps[p]?.getD undef = .pointer (some ⟨g, 0, none⟩) := by simpa using hp
  have hl := run_loadVar_row (P := Try.prog) w g 73 73 cs (0, 0) _ hW Try.underlying73 rfl (by rw [hs]; exact work_info)
  simp [results, h, hp', asAddr, hl]
theorem rowB_add (m x : Nat) (hx : x < 256) (F f : Nat → UInt8) : Gf.addR (rowB m F) x (rowB m f) = (rowB m (fun b => F b ^^^ Mat.fm (UInt8.ofNat x) (f b)), 0) := by
  unfold Gf.addR
  rw [if_pos (by rw [rowB_len, rowB_len]), rowB_len]
  have : ∀ k, k ≤ m → Gf.addN (rowB m F) x (rowB m f) k = rowB k (fun b => F b ^^^ Mat.fm (UInt8.ofNat x) (f b)) := by
    intro k
    induction k with
    | zero => intro _; rfl
    | succ k ih =>
      intro hk
      rw [Gf.addN, ih (by omega), rowB_succ, rowB_at F (by omega), rowB_at f (by omega)]
      unfold Mat.fm
      rw [UInt8.toNat_ofNat', Nat.mod_eq_of_lt (by omega)]
  rw [this m (Nat.le_refl _)]

set_option maxHeartbeats 2000000 in
set_option maxRecDepth 100000 in
theorem wadd_any {base g r c k i x : Nat} {F : Mat.M} {A : Option Addr} {ks : Nat} {f : Nat → UInt8} {w : World} (hr : r ≤ 255) (hc : c ≤ 510) (hi : i < r) (hx : x < 256) (hM : OwnM w base g r c k F) (hB : Bytes w w.heap.size A c (rowB c f)) :
    Calls Try.prog 56 #[ownV g r c k, .int .i64 (i : Int), .int .u8 (x : Int), .slice A c ks] w fun e w' => e = .returned (.tuple #[]) ∧ OwnM w' base g r c k (fun a b => if a = i then F a b ^^^ Mat.fm (UInt8.ofNat x) (f b) else F a b) ∧ w.grownBy w' (some g) := by
  have hE1 := extNew w (.cells #[.int .i64 r, .int .i64 c, .slice (some ⟨g, 0, none⟩) (r * c) k] 73)
  have hW1 := Whole.new w 73 #[.int .i64 r, .int .i64 c, .slice (some ⟨g, 0, none⟩) (r * c) k]
  unfold ownV matV
  by_cases h0 : x = 0
  · subst h0
    go_enter Try.func56, Try.ntmps56
    go_wp2
    refine bodyPost_ret (results_none rfl _ _ _) rfl ⟨rfl, (hM.ext hE1).congr fun a b _ _ => ?_, hE1.grown _⟩
    rw [show UInt8.ofNat 0 = 0 from rfl, Mat.zero_fm]
    simp
  · have CR := fun W => row_any' r i c k (r * c) (some ⟨g, 0, none⟩) (by omega) hc (Nat.le_trans (Nat.mul_le_mul_right _ hi) hM.2.2.2) W
    have CA := fun W (h1 : Bytes W W.heap.size _ _ _) h2 => add_any (cutAt (some ⟨g, 0, none⟩) k (i * c)) A (k - i * c) ks x (rowB c (F i)) (rowB c f) W hx (by rw [rowB_len]; omega) h1 h2
    rw [rowB_add c x hx] at CA
    rw [rowB_len, rowB_len] at CA
    unfold matV at CR
    have HM := hide hM
    have HB := hide hB
    clear hM hB
    go_enter Try.func56, Try.ntmps56
    go_wp2_with fail
    refine (CR _).mono ?_
    rintro e w2 ⟨rfl, hE2⟩
    have hE12 := hE1.trans hE2
    have hW2 := hW1.ext hE2
    go_wp2_with fail
    refine (CA _ (ownRow (HM.out.1.ext hE12) rfl HM.out.2.2.2 hi) (hE12.bytes HB.out)).mono ?_
    rintro e w3 ⟨v, rfl, hO3, hE3⟩
    obtain ⟨A3, n3, k3, rfl, hk3, hn3, hB3⟩ := hO3.form'
    have hn : n3 = c := by have := hB3.1; rw [rowB_len] at this; exact this.symm
    subst hn
    have hE13 := hE12.trans hE3
    have hW3 := hW2.ext hE3
    have c0 := hW3.at 0 rfl
    have c1 := hW3.at 1 rfl
    have c2 := hW3.at 2 rfl
    go_wp2_with fail
    refine (CR _).mono ?_
    rintro e w4 ⟨rfl, hE4⟩
    have hE14 := hE13.trans hE4
    go_wp2_with (refine wpList_copyM rfl (.tmp 25) (.tmp 26) rfl rfl rfl (HM.out.1.ext hE14) (hE4.bytes hB3) rfl HM.out.2.2.2 hi (Nat.le_refl _) rfl ?_; intro w8 hO8 hG8 hS8)
    refine bodyPost_end (results_none rfl _ _ _) rfl ⟨rfl, ?_, (hE14.grown _).trans hG8⟩
    have hM8 : OwnM w8 base g r n3 k _ := ⟨hO8, HM.out.2.1, by have := HM.out.2.2.1; have := hE14.le; omega, HM.out.2.2.2⟩
    refine hM8.congr fun a b _ hb => ?_
    by_cases h : a = i
    · rw [if_pos ⟨h, hb⟩, if_pos h, h]
    · rw [if_neg (fun e => h e.1), if_neg h]
end Go.Proofs.Ytbfkknoeaekajaa

namespace Go.Proofs.Ytbfkknoeaekajaa
open Go.RowKit

theorem cells_at {c N i j : Nat} {F : Mat.M} (hj : j < c) (hN : i * c + j < N) : (cellsOf c F N).getD (i * c + j) 0 = F i j := by
  have hd : (i * c + j) / c = i := by rw [Nat.mul_comm, Nat.mul_add_div (by omega), Nat.div_eq_of_lt hj, Nat.add_zero]
  have hm : (i * c + j) % c = j := by rw [Nat.mul_comm, Nat.mul_add_mod, Nat.mod_eq_of_lt hj]
  simp [cellsOf, List.getD_eq_getElem?_getD, hN, hd, hm]
/-- Matrices that are being reduced: block gr holds the matrix of block g, and how many rows lead. -/
def Red (w : World) (gr g base r c k l : Nat) (F : Mat.M) : Prop := Whole w gr 91 #[.int .i64 (r : Int), .int .i64 (c : Int), .slice (some ⟨g, 0, none⟩) (r * c) k, .int .i64 (l : Int)] ∧ OwnM w base g r c k F ∧ base ≤ gr ∧ gr ≠ g
theorem Red.ext {w w' : World} {gr g base r c k l : Nat} {F : Mat.M} (h : Red w gr g base r c k l F) (hE : Ext w w') : Red w' gr g base r c k l F := ⟨h.1.ext hE, h.2.1.ext hE, h.2.2⟩

set_option maxHeartbeats 2000000 in
set_option maxRecDepth 100000 in
theorem rfind_any {gr g base r c k l col : Nat} {F : Mat.M} {w : World} (hr : r ≤ 255) (hc : c ≤ 510) (hcol : col < c) (hl : l ≤ r) (h : Red w gr g base r c k l F) :
    Calls Try.prog 71 #[.pointer (some ⟨gr, 0, none⟩), .int .i64 (col : Int)] w fun e w' => ∃ p : Nat, e = .returned (.int .i64 (p : Int)) ∧ l ≤ p ∧ p ≤ r ∧ (∀ q, l ≤ q → q < p → F q col = 0) ∧ (p < r → F p col ≠ 0) ∧ Ext w w' := by
  obtain ⟨hW, hM, hb⟩ := h
  have hkk := hM.2.2.2
  have c3 := hW.at 3 (u := .int .i64 (l : Int)) rfl
  go_enter Try.func71, Try.ntmps71
  go_wp2_with fail
  go_loopw [5] (fun x wr => ∃ j : Nat, l ≤ j ∧ j ≤ r ∧ x = .int .i64 (j : Int) ∧ (∀ q, l ≤ q → q < j → F q col = 0) ∧ Ext w wr) (fun x _ => r - (intOf x).toNat)
  case atStart => exact ⟨l, by omega, hl, rfl, fun q _ _ => by omega, Ext.refl w⟩
  case round =>
    obtain ⟨j, hlj, hjr, rfl, hz, hE⟩ := hrel
    have hW2 := hW.ext hE
    have d0 := hW2.at 0 (u := .int .i64 (r : Int)) rfl
    have d1 := hW2.at 1 (u := .int .i64 (c : Int)) rfl
    have d2 := hW2.at 2 (u := .slice (some ⟨g, 0, none⟩) (r * c) k) rfl
    have HZ := hide hz
    clear hz
    by_cases hlt : j < r
    · have CR := fun W => row_any' r j c k (r * c) (some ⟨g, 0, none⟩) (by omega) hc (Nat.le_trans (Nat.mul_le_mul_right _ hlt) hkk) W
      obtain ⟨p1, p2⟩ := row_place hlt (by omega : 0 < c)
      rw [cutAt_zero (by omega)] at CR
      unfold matV at CR
      go_wp2_with fail
      refine (CR _).mono ?_
      rintro e w2 ⟨rfl, hE2⟩
      have hE12 := hE.trans hE2
      have k1 := ((hM.ext hE12).1.cell (i := j * c + col) (by rw [cellsOf_len]; omega)).1
      rw [cells_at hcol (by omega)] at k1
      have HF := hide (show ∀ x, x = F j col → x = F j col from fun _ h => h)
      by_cases h0 : F j col = 0
      · have hx : (((F j col).toNat : Int) == 0) = true := by rw [h0]; rfl
        have HQ := hide h0
        clear h0 HF
        generalize (F j col).toNat = x at *
        go_wp2
        go_roundw
        case rel =>
          refine ⟨j + 1, by omega, by omega, by go_num, fun q h1 h2 => ?_, hE12⟩
          by_cases hq : q < j
          · exact HZ.out q h1 hq
          · obtain rfl : q = j := by omega
            exact HQ.out
        case measure => simp [intOf]; omega
      · have hx : (((F j col).toNat : Int) == 0) = false := by
          have : (F j col).toNat ≠ 0 := fun e => h0 (Mat.ext8 e)
          simp
          omega
        have HQ := hide h0
        clear h0 HF
        generalize (F j col).toNat = x at *
        go_wp2
        go_ret
        exact ⟨j, rfl, hlj, by omega, HZ.out, fun _ => HQ.out, hE12⟩
    · obtain rfl : j = r := by omega
      go_wp2
      go_ret
      exact ⟨j, rfl, hlj, by omega, HZ.out, fun h => absurd h (by omega), hE⟩
end Go.Proofs.Ytbfkknoeaekajaa
