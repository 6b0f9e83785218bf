/- 'copy' into a row of a matrix in the call's own memory. Contracts of the program's working copies: add, scale, swap. Contract of the program's find: the first row that doesn't lead and has a cell in this column that isn't 0. Contract of the program's Pick. Contracts of the program's besideIdentity and from. Contract of the program's from: the columns from one on. Contracts of the program's working copies: scale, swap. Contract of the program's lead: one row more leads, by this column. Contract of the program's Inverse. Contract of the program's Cauchy. -/
import Derived.Test.YtkfipfhmbhmamaaDoorB02
import Derived.Test.YtkfipfhmbhmamaaDoorB03
import Derived.Test.YtkfipfhmbhmamaaDoorB04
import Derived.Test.YtkfipfhmbhmamaaDoorB05
import Derived.Test.YtkfipfhmbhmamaaDoorB06
import Derived.Test.YtkfipfhmbhmamaaDoorB07
import Derived.Test.YtkfipfhmbhmamaaDoorB10
import Derived.Test.YtkfipfhmbhmamaaDoorB16
import Derived.Test.YtkfipfhmbhmamaaDoorB17
namespace Go.Proofs.YtkfipfhmbhmamaaDoor
open Go.RowKit

theorem OwnB.setCells {base g n c : Nat} : ∀ (xs : List UInt8) (o : Nat) {w : World} {l : List UInt8}, OwnB w base (.slice (some ⟨g, 0, none⟩) n c) l → o + xs.length ≤ l.length →
    OwnB (w.setCells g o (xs.map byteV)) base (.slice (some ⟨g, 0, none⟩) n c) (splice l o xs)
  | [], o, w, l, h, _ => by simpa [splice, World.setCells] using h
  | x :: xs, o, w, l, h, hl => by
    rw [List.length_cons] at hl
    have := (h.set o x).setCells xs (o + 1) (by rw [List.length_set]; omega)
    have e : splice (l.set o x) (o + 1) xs = splice l o (x :: xs) := by
      unfold splice
      rw [List.take_set, List.set_eq_take_append_cons_drop, if_pos (by rw [List.length_take]; omega), List.take_take, Nat.min_eq_left (by omega), List.drop_eq_nil_of_le (by rw [List.length_take]; omega)]
      rw [List.drop_set_of_lt (by omega), List.length_cons, show o + 1 + xs.length = o + (xs.length + 1) by omega]
      simp
    rw [e] at this
    exact this
theorem cells_splice (c N : Nat) (F : Mat.M) {i m : Nat} (f : Nat → UInt8) (hm : m ≤ c) (hN : i * c + m ≤ N) : splice (cellsOf c F N) (i * c) (rowB m f) = cellsOf c (fun a b => if a = i ∧ b < m then f b else F a b) N := by
  unfold splice
  apply List.ext_getElem
  · rw [List.length_append, List.length_append, List.length_take, List.length_drop, cellsOf_len, cellsOf_len, rowB_len]
    omega
  · intro p h1 h2
    rw [cellsOf_len] at h2
    rw [List.getElem_append]
    by_cases hp : p < i * c
    · rw [dif_pos (by rw [List.length_take, cellsOf_len]; omega)]
      simp only [cellsOf, List.getElem_take, List.getElem_map, List.getElem_range]
      rw [if_neg]
      rintro ⟨h3, h4⟩
      have := Nat.div_add_mod p c
      rw [h3, Nat.mul_comm] at this
      omega
    · rw [dif_neg (by rw [List.length_take, cellsOf_len]; omega)]
      have hlt : (List.take (i * c) (cellsOf c F N)).length = i * c := by rw [List.length_take, cellsOf_len]; omega
      rw [List.getElem_append]
      by_cases hq : p < i * c + m
      · rw [dif_pos (by rw [rowB_len, hlt]; omega)]
        have hd : p / c = i := by
          rw [show p = c * i + (p - i * c) by rw [Nat.mul_comm]; omega, Nat.mul_add_div (by omega), Nat.div_eq_of_lt (by omega), Nat.add_zero]
        have hmo : p % c = p - i * c := by
          have := Nat.div_add_mod p c
          rw [hd, Nat.mul_comm] at this
          omega
        simp only [cellsOf, rowB, List.getElem_map, List.getElem_range, hd, hmo]
        rw [if_pos ⟨trivial, by omega⟩, List.length_take, List.length_map, List.length_range, Nat.min_eq_left (by omega)]
      · rw [dif_neg (by rw [rowB_len, hlt]; omega)]
        simp only [cellsOf, List.getElem_drop, List.getElem_map, List.getElem_range, rowB_len, List.length_take, List.length_map, List.length_range]
        rw [Nat.min_eq_left (by omega), show i * c + m + (p - i * c - m) = p by omega, if_neg]
        rintro ⟨h3, h4⟩
        have := Nat.div_add_mod p c
        rw [h3, Nat.mul_comm] at this
        omega

variable {o : Oper} {a : Act} {w : World} {K : Act → World → Prop} {Q : Exit → Act → World → Prop}
/-- Cells go over into row i. -/
theorem wp_copyM (d s : Operand) (ho : o.op = .call { callee := .builtin .copy, args := #[d, s], argTypes := #[27, 27] }) {base g r c i m N kN kd ks : Nat} {D A : Option Addr} {F : Mat.M} {f : Nat → UInt8} {B : Nat}
    (hd : a.eval d = .slice D c kd) (hs : a.eval s = .slice A m ks) (hO : OwnB w base (.slice (some ⟨g, 0, none⟩) N kN) (cellsOf c F N)) (hB : Bytes w B A m (rowB m f)) (hN : N = r * c) (hkN : N ≤ kN) (hi : i < r) (hm : m ≤ c) (hD : D = cutAt (some ⟨g, 0, none⟩) kN (i * c))
    (h : ∀ w', OwnB w' base (.slice (some ⟨g, 0, none⟩) N kN) (cellsOf c (fun a b => if a = i ∧ b < m then f b else F a b) N) → w.grownBy w' (some g) → w'.heap.size = w.heap.size → K (a.put o.dst (goInt m)) w') : o.wp Tryd.prog a w K Q := by
  have hinf : (Tryd.prog.info? 5).map (·.size) = some 1 := by kernel_rfl
  subst hD
  by_cases h0 : m = 0
  · subst h0
    have hrun := run_copy_none (P := Tryd.prog) w 27 27 o.type 5 (cutAt (some ⟨g, 0, none⟩) kN (i * c)) A c kd 0 ks Tryd.underlying27 hinf (by simp)
    unfold Oper.wp
    simp [execOp, ho, resolve, invoke, builtin, hd, hs, hrun, Result.andThen]
    refine h w ?_ (World.grownBy.refl w _) rfl
    rw [cells_congr (g := F)]
    · exact hO
    · intro p _
      rw [if_neg (by omega)]
  · obtain ⟨p1, p2⟩ := row_place hi (by omega : 0 < c)
    rw [← hN] at p1 p2
    rw [cutAt_zero (by omega)] at hd
    rcases hB.2 with h1 | ⟨b, off, rfl, _, hcell⟩
    · exact absurd h1 h0
    have hlen : ((rowB m f).map byteV).length = m := by rw [List.length_map, rowB_len]
    have hrun := run_copy_cells (P := Tryd.prog) w 27 27 o.type 5 g (i * c) c kd ⟨b, off, none⟩ m ks ((rowB m f).map byteV) Tryd.underlying27 hinf (by rw [hlen]; exact (Nat.min_eq_left hm).symm)
      (fun j v hj => by
        have hj' : j < m := by have := (List.getElem?_eq_some_iff.1 hj).1; rw [hlen] at this; exact this
        have := hcell j hj'
        rw [show (⟨b, off, none⟩ : Addr).add j = ⟨b, off + j, none⟩ by simp [Addr.add], this, ← hj]
        simp [byteV, rowB, hj'])
      (fun j hj => by
        rw [hlen] at hj
        rw [(hO.cell (i := i * c + j) (by rw [cellsOf_len]; omega)).1]
        rfl)
      (fun j hj => by
        rw [hlen] at hj
        exact (hO.cell (i := i * c + j) (by rw [cellsOf_len]; omega)).2)
      (fun v hv => by
        obtain ⟨x, _, rfl⟩ := List.mem_map.1 hv
        rfl)
    rw [hlen] at hrun
    unfold Oper.wp
    simp [execOp, ho, resolve, invoke, builtin, hd, hs, hrun, Result.andThen]
    have hO2 := hO.setCells (rowB m f) (i * c) (by rw [cellsOf_len, rowB_len]; omega)
    rw [cells_splice c N F f hm (by omega)] at hO2
    obtain ⟨g1, g2⟩ := setCells_grown g ((rowB m f).map byteV) (i * c) w
    exact h _ hO2 g1 g2
theorem wpList_copyM {ops : Array Oper} {rest : List Oper} (hgd : o.guard = none) (d s : Operand) (ho : o.op = .call { callee := .builtin .copy, args := #[d, s], argTypes := #[27, 27] }) {base g r c i m N kN kd ks : Nat} {D A : Option Addr} {F : Mat.M} {f : Nat → UInt8} {B : Nat}
    (hd : a.eval d = .slice D c kd) (hs : a.eval s = .slice A m ks) (hO : OwnB w base (.slice (some ⟨g, 0, none⟩) N kN) (cellsOf c F N)) (hB : Bytes w B A m (rowB m f)) (hN : N = r * c) (hkN : N ≤ kN) (hi : i < r) (hm : m ≤ c) (hD : D = cutAt (some ⟨g, 0, none⟩) kN (i * c))
    (h : ∀ w', OwnB w' base (.slice (some ⟨g, 0, none⟩) N kN) (cellsOf c (fun a b => if a = i ∧ b < m then f b else F a b) N) → w.grownBy w' (some g) → w'.heap.size = w.heap.size → wpList Tryd.prog ops Q rest (a.put o.dst (goInt m)) w') :
    wpList Tryd.prog ops Q (o :: rest) a w :=
  wpList_plain hgd fun _ hK => wp_copyM d s ho hd hs hO hB hN hkN hi hm hD fun w' h1 h2 h3 => hK _ _ (h w' h1 h2 h3)
/-- A row of a matrix, as it reads. -/
theorem rowBytes {B : Nat} {A : Option Addr} {k r c i : Nat} {l : List UInt8} {F : Mat.M} (h : Bytes w B A l.length l) (hl : l.length = r * c) (hk : l.length ≤ k) (hi : i < r) (hF : ∀ a b, F a b = l.getD (a * c + b) 0) : Bytes w B (cutAt A k (i * c)) c (rowB c (F i)) := by
  have hle : i * c + c ≤ r * c := by
    have : (i + 1) * c ≤ r * c := Nat.mul_le_mul_right _ hi
    rw [Nat.add_mul, Nat.one_mul] at this
    exact this
  have h1 := (h.drop (k := i * c) (c := k) (by omega) hk).take (k := c) (by omega)
  have e : (l.drop (i * c)).take c = rowB c (F i) := by
    apply List.ext_getElem
    · rw [rowB_len, List.length_take, List.length_drop]; omega
    · intro p h2 h3
      rw [rowB_len] at h3
      have h4 : i * c + p < l.length := by omega
      simp [rowB, hF, List.getD_eq_getElem?_getD, h4]
  rw [e] at h1
  exact h1
/-- A row of a matrix in own memory, as it reads. -/
theorem ownRow {base g r c i N kN : Nat} {F : Mat.M} (h : OwnB w base (.slice (some ⟨g, 0, none⟩) N kN) (cellsOf c F N)) (hN : N = r * c) (hkN : N ≤ kN) (hi : i < r) : Bytes w w.heap.size (cutAt (some ⟨g, 0, none⟩) kN (i * c)) c (rowB c (F i)) := by
  obtain ⟨A, n, k, hv, _, _, h3⟩ := h.form'
  simp only [Value.slice.injEq] at hv
  obtain ⟨rfl, rfl, rfl⟩ := hv
  have hl := cellsOf_len c F N
  have hB : Bytes w w.heap.size (some ⟨g, 0, none⟩) (cellsOf c F N).length (cellsOf c F N) := by rw [hl]; exact h3
  have := rowBytes (k := kN) (F := fun a b => (cellsOf c F N).getD (a * c + b) 0) hB (by rw [hl, hN]) (by rw [hl]; exact hkN) hi (fun _ _ => rfl)
  rw [rowB_congr (g := F i)] at this
  · exact this
  · intro j hj
    have hle : i * c + c ≤ r * c := by
      have : (i + 1) * c ≤ r * c := Nat.mul_le_mul_right _ hi
      rw [Nat.add_mul, Nat.one_mul] at this
      exact this
    have hd : (i * c + j) / c = i := by rw [Nat.mul_comm, Nat.mul_add_div (by omega), Nat.div_eq_of_lt hj, Nat.add_zero]
    have hm : (i * c + j) % c = j := by rw [Nat.mul_comm, Nat.mul_add_mod, Nat.mod_eq_of_lt hj]
    have hlt : i * c + j < N := by omega
    simp [cellsOf, List.getD_eq_getElem?_getD, hlt, hd, hm]
end Go.Proofs.YtkfipfhmbhmamaaDoor

namespace Go.Proofs.YtkfipfhmbhmamaaDoor
open Go.RowKit

/-- A matrix in the call's own memory, its cells in block g, told by F. -/
def OwnM (w : World) (base g r c k : Nat) (F : Mat.M) : Prop := OwnB w base (.slice (some ⟨g, 0, none⟩) (r * c) k) (cellsOf c F (r * c)) ∧ base ≤ g ∧ g < w.heap.size ∧ r * c ≤ k
def ownV (g r c k : Nat) : Value := matV r c (.slice (some ⟨g, 0, none⟩) (r * c) k)
theorem OwnM.ext {w w' : World} {base g r c k : Nat} {F : Mat.M} (h : OwnM w base g r c k F) (hE : Ext w w') : OwnM w' base g r c k F := ⟨h.1.ext hE, h.2.1, Nat.lt_of_lt_of_le h.2.2.1 hE.le, h.2.2.2⟩
theorem OwnM.congr {w : World} {base g r c k : Nat} {F G : Mat.M} (h : OwnM w base g r c k F) (hF : ∀ i j, i < r → j < c → F i j = G i j) : OwnM w base g r c k G := by
  refine ⟨?_, h.2⟩
  rw [cells_congr (g := F)]
  · exact h.1
  · intro p hp
    have hc : 0 < c := by
      rcases Nat.eq_zero_or_pos c with h0 | h0
      · rw [h0, Nat.mul_zero] at hp; omega
      · exact h0
    exact (hF _ _ (Nat.div_lt_of_lt_mul (by rw [Nat.mul_comm]; exact hp)) (Nat.mod_lt _ hc)).symm
theorem work_info : (Tryd.prog.info? 127).map (·.size) = some 3 := by kernel_rfl
theorem results_work {fn : Func} {p : Tmp} (h : fn.results = #[.cell p 127]) (tmps : Array Value) {w : World} {g : Nat} {cs : Array Value} (hp : tmps.getD p undef = .pointer (some ⟨g, 0, none⟩))
    (hW : Whole w g 127 cs) (hs : cs.size = 3) : (results fn tmps).run Tryd.prog w = .ok (.agg cs) w := by
  have hp' : tmps[p]?.getD undef = .pointer (some ⟨g, 0, none⟩) := by simpa using hp
  have hl := run_loadVar_row (P := Tryd.prog) w g 127 127 cs (0, 0) _ hW Tryd.underlying127 rfl (by rw [hs]; exact work_info)
  simp [results, h, hp', asAddr, hl]
theorem rowB_add (m x : Nat) (hx : x < 256) (F f : Nat → UInt8) : Gf.addR (rowB m F) x (rowB m f) = (rowB m (fun b => F b ^^^ Mat.fm (UInt8.ofNat x) (f b)), 0) := by
  unfold Gf.addR
  rw [if_pos (by rw [rowB_len, rowB_len]), rowB_len]
  have : ∀ k, k ≤ m → Gf.addN (rowB m F) x (rowB m f) k = rowB k (fun b => F b ^^^ Mat.fm (UInt8.ofNat x) (f b)) := by
    intro k
    induction k with
    | zero => intro _; rfl
    | succ k ih =>
      intro hk
      rw [Gf.addN, ih (by omega), rowB_succ, rowB_at F (by omega), rowB_at f (by omega)]
      unfold Mat.fm
      rw [UInt8.toNat_ofNat', Nat.mod_eq_of_lt (by omega)]
  rw [this m (Nat.le_refl _)]

set_option maxHeartbeats 2000000 in
set_option maxRecDepth 100000 in
theorem wadd_any {base g r c k i x : Nat} {F : Mat.M} {A : Option Addr} {ks : Nat} {f : Nat → UInt8} {w : World} (hr : r ≤ 255) (hc : c ≤ 510) (hi : i < r) (hx : x < 256) (hM : OwnM w base g r c k F) (hB : Bytes w w.heap.size A c (rowB c f)) :
    Calls Tryd.prog 99 #[ownV g r c k, .int .i64 (i : Int), .int .u8 (x : Int), .slice A c ks] w fun e w' => e = .returned (.tuple #[]) ∧ OwnM w' base g r c k (fun a b => if a = i then F a b ^^^ Mat.fm (UInt8.ofNat x) (f b) else F a b) ∧ w.grownBy w' (some g) := by
  have hE1 := extNew w (.cells #[.int .i64 r, .int .i64 c, .slice (some ⟨g, 0, none⟩) (r * c) k] 127)
  have hW1 := Whole.new w 127 #[.int .i64 r, .int .i64 c, .slice (some ⟨g, 0, none⟩) (r * c) k]
  unfold ownV matV
  by_cases h0 : x = 0
  · subst h0
    go_enter Tryd.func99, Tryd.ntmps99
    go_wp2
    refine bodyPost_ret (results_none rfl _ _ _) rfl ⟨rfl, (hM.ext hE1).congr fun a b _ _ => ?_, hE1.grown _⟩
    rw [show UInt8.ofNat 0 = 0 from rfl, Mat.zero_fm]
    simp
  · have CR := fun W => row_any' r i c k (r * c) (some ⟨g, 0, none⟩) (by omega) hc (Nat.le_trans (Nat.mul_le_mul_right _ hi) hM.2.2.2) W
    have CA := fun W (h1 : Bytes W W.heap.size _ _ _) h2 => gfAdd_any (cutAt (some ⟨g, 0, none⟩) k (i * c)) A (k - i * c) ks x (rowB c (F i)) (rowB c f) W hx (by rw [rowB_len]; omega) h1 h2
    rw [rowB_add c x hx] at CA
    rw [rowB_len, rowB_len] at CA
    unfold matV at CR
    have HM := hide hM
    have HB := hide hB
    clear hM hB
    go_enter Tryd.func99, Tryd.ntmps99
    go_wp2_with fail
    refine (CR _).mono ?_
    rintro e w2 ⟨rfl, hE2⟩
    have hE12 := hE1.trans hE2
    have hW2 := hW1.ext hE2
    go_wp2_with fail
    refine (CA _ (ownRow (HM.out.1.ext hE12) rfl HM.out.2.2.2 hi) (hE12.bytes HB.out)).mono ?_
    rintro e w3 ⟨v, rfl, hO3, hE3⟩
    obtain ⟨A3, n3, k3, rfl, hk3, hn3, hB3⟩ := hO3.form'
    have hn : n3 = c := by have := hB3.1; rw [rowB_len] at this; exact this.symm
    subst hn
    have hE13 := hE12.trans hE3
    have hW3 := hW2.ext hE3
    have c0 := hW3.at 0 rfl
    have c1 := hW3.at 1 rfl
    have c2 := hW3.at 2 rfl
    go_wp2_with fail
    refine (CR _).mono ?_
    rintro e w4 ⟨rfl, hE4⟩
    have hE14 := hE13.trans hE4
    go_wp2_with (refine wpList_copyM rfl (.tmp 25) (.tmp 26) rfl rfl rfl (HM.out.1.ext hE14) (hE4.bytes hB3) rfl HM.out.2.2.2 hi (Nat.le_refl _) rfl ?_; intro w8 hO8 hG8 hS8)
    refine bodyPost_end (results_none rfl _ _ _) rfl ⟨rfl, ?_, (hE14.grown _).trans hG8⟩
    have hM8 : OwnM w8 base g r n3 k _ := ⟨hO8, HM.out.2.1, by have := HM.out.2.2.1; have := hE14.le; omega, HM.out.2.2.2⟩
    refine hM8.congr fun a b _ hb => ?_
    by_cases h : a = i
    · rw [if_pos ⟨h, hb⟩, if_pos h, h]
    · rw [if_neg (fun e => h e.1), if_neg h]
end Go.Proofs.YtkfipfhmbhmamaaDoor

namespace Go.Proofs.YtkfipfhmbhmamaaDoor
open Go.RowKit

theorem cells_at {c N i j : Nat} {F : Mat.M} (hj : j < c) (hN : i * c + j < N) : (cellsOf c F N).getD (i * c + j) 0 = F i j := by
  have hd : (i * c + j) / c = i := by rw [Nat.mul_comm, Nat.mul_add_div (by omega), Nat.div_eq_of_lt hj, Nat.add_zero]
  have hm : (i * c + j) % c = j := by rw [Nat.mul_comm, Nat.mul_add_mod, Nat.mod_eq_of_lt hj]
  simp [cellsOf, List.getD_eq_getElem?_getD, hN, hd, hm]
/-- Matrices that are being reduced: block gr holds the matrix of block g, and how many rows lead. -/
def Red (w : World) (gr g base r c k l : Nat) (F : Mat.M) : Prop := Whole w gr 130 #[.int .i64 (r : Int), .int .i64 (c : Int), .slice (some ⟨g, 0, none⟩) (r * c) k, .int .i64 (l : Int)] ∧ OwnM w base g r c k F ∧ base ≤ gr ∧ gr ≠ g
theorem Red.ext {w w' : World} {gr g base r c k l : Nat} {F : Mat.M} (h : Red w gr g base r c k l F) (hE : Ext w w') : Red w' gr g base r c k l F := ⟨h.1.ext hE, h.2.1.ext hE, h.2.2⟩

set_option maxHeartbeats 2000000 in
set_option maxRecDepth 100000 in
theorem rfind_any {gr g base r c k l col : Nat} {F : Mat.M} {w : World} (hr : r ≤ 255) (hc : c ≤ 510) (hcol : col < c) (hl : l ≤ r) (h : Red w gr g base r c k l F) :
    Calls Tryd.prog 96 #[.pointer (some ⟨gr, 0, none⟩), .int .i64 (col : Int)] w fun e w' => ∃ p : Nat, e = .returned (.int .i64 (p : Int)) ∧ l ≤ p ∧ p ≤ r ∧ (∀ q, l ≤ q → q < p → F q col = 0) ∧ (p < r → F p col ≠ 0) ∧ Ext w w' := by
  obtain ⟨hW, hM, hb⟩ := h
  have hkk := hM.2.2.2
  have c3 := hW.at 3 (u := .int .i64 (l : Int)) rfl
  go_enter Tryd.func96, Tryd.ntmps96
  go_wp2_with fail
  go_loopw [5] (fun x wr => ∃ j : Nat, l ≤ j ∧ j ≤ r ∧ x = .int .i64 (j : Int) ∧ (∀ q, l ≤ q → q < j → F q col = 0) ∧ Ext w wr) (fun x _ => r - (intOf x).toNat)
  case atStart => exact ⟨l, by omega, hl, rfl, fun q _ _ => by omega, Ext.refl w⟩
  case round =>
    obtain ⟨j, hlj, hjr, rfl, hz, hE⟩ := hrel
    have hW2 := hW.ext hE
    have d0 := hW2.at 0 (u := .int .i64 (r : Int)) rfl
    have d1 := hW2.at 1 (u := .int .i64 (c : Int)) rfl
    have d2 := hW2.at 2 (u := .slice (some ⟨g, 0, none⟩) (r * c) k) rfl
    have HZ := hide hz
    clear hz
    by_cases hlt : j < r
    · have CR := fun W => row_any' r j c k (r * c) (some ⟨g, 0, none⟩) (by omega) hc (Nat.le_trans (Nat.mul_le_mul_right _ hlt) hkk) W
      obtain ⟨p1, p2⟩ := row_place hlt (by omega : 0 < c)
      rw [cutAt_zero (by omega)] at CR
      unfold matV at CR
      go_wp2_with fail
      refine (CR _).mono ?_
      rintro e w2 ⟨rfl, hE2⟩
      have hE12 := hE.trans hE2
      have k1 := ((hM.ext hE12).1.cell (i := j * c + col) (by rw [cellsOf_len]; omega)).1
      rw [cells_at hcol (by omega)] at k1
      have HF := hide (show ∀ x, x = F j col → x = F j col from fun _ h => h)
      by_cases h0 : F j col = 0
      · have hx : (((F j col).toNat : Int) == 0) = true := by rw [h0]; rfl
        have HQ := hide h0
        clear h0 HF
        generalize (F j col).toNat = x at *
        go_wp2
        go_roundw
        case rel =>
          refine ⟨j + 1, by omega, by omega, by go_num, fun q h1 h2 => ?_, hE12⟩
          by_cases hq : q < j
          · exact HZ.out q h1 hq
          · obtain rfl : q = j := by omega
            exact HQ.out
        case measure => simp [intOf]; omega
      · have hx : (((F j col).toNat : Int) == 0) = false := by
          have : (F j col).toNat ≠ 0 := fun e => h0 (Mat.ext8 e)
          simp
          omega
        have HQ := hide h0
        clear h0 HF
        generalize (F j col).toNat = x at *
        go_wp2
        go_ret
        exact ⟨j, rfl, hlj, by omega, HZ.out, fun _ => HQ.out, hE12⟩
    · obtain rfl : j = r := by omega
      go_wp2
      go_ret
      exact ⟨j, rfl, hlj, by omega, HZ.out, fun h => absurd h (by omega), hE⟩
end Go.Proofs.YtkfipfhmbhmamaaDoor

namespace Go.Proofs.YtkfipfhmbhmamaaDoor
open Go.RowKit

/-- The rows that are picked so far. -/
def pickTo (pf : Mat.M) (j : Nat) : Mat.M := fun a b => if a < j then pf a b else 0
theorem pickTo_none (pf : Mat.M) : pickTo pf 0 = fun _ _ => 0 := by
  funext a b
  simp [pickTo]
theorem pickTo_step (pf : Mat.M) (c j N : Nat) (hc : c = 0 → N = 0) : cellsOf c (fun a b => if a = j ∧ b < c then pf j b else pickTo pf j a b) N = cellsOf c (pickTo pf (j + 1)) N := by
  refine cells_congr fun p hp => ?_
  have := Nat.mod_lt p (by omega : 0 < c)
  unfold pickTo
  by_cases h : p / c = j
  · rw [if_pos ⟨h, this⟩, if_pos (by omega), h]
  · rw [if_neg (fun e => h e.1)]
    by_cases h2 : p / c < j
    · rw [if_pos h2, if_pos (by omega)]
    · rw [if_neg h2, if_neg (by omega)]
theorem pickTo_all (pf : Mat.M) (n c : Nat) : cellsOf c (pickTo pf n) (n * c) = cellsOf c pf (n * c) := by
  refine cells_congr fun p hp => ?_
  unfold pickTo
  rw [if_pos (Nat.div_lt_of_lt_mul (by rw [Nat.mul_comm]; exact hp))]

set_option maxHeartbeats 4000000 in
set_option maxRecDepth 100000 in
theorem matPick_any (m : MV) (L : List Int) (A1 A2 : Option Addr) (k1 k2 : Nat) (w : World) (hm : m.lies w A1 k1) (h2 : IntsAt w w.heap.size A2 L.length L) (hl2 : L.length ≤ 140737488355328) :
    Calls Tryd.prog 86 #[m.arg A1 k1, .slice A2 L.length k2] w (MadeM w (m.pickE L).1 (m.pickE L).2) := by
  have M1 := fun W => matMay_any m A1 k1 W hm.2.1
  have hE1 := extNew w (.cells #[.int .i64 m.r, .int .i64 m.c, .slice A1 m.l.length k1] 76)
  have hE2 := extNew (w.alloc (.cells #[.int .i64 m.r, .int .i64 m.c, .slice A1 m.l.length k1] 76)) (.cells #[.int .i64 0, .int .i64 0, .slice none 0 0] 76)
  have hWa := (Whole.new w 76 #[.int .i64 m.r, .int .i64 m.c, .slice A1 m.l.length k1]).ext hE2
  have hWr := Whole.new (w.alloc (.cells #[.int .i64 m.r, .int .i64 m.c, .slice A1 m.l.length k1] 76)) 76 #[.int .i64 0, .int .i64 0, .slice none 0 0]
  have hE := hE1.trans hE2
  rw [World.size_alloc] at hWr
  clear hE1 hE2
  have HP := hide (show m.pickE L = if m.picks L then (m.pickR L, 0) else (MV.zero, 13) from rfl)
  obtain ⟨h1, hl1, hk1⟩ := hm
  unfold MV.arg at M1 ⊢
  by_cases ha : m.may = true
  · rw [ha] at M1
    have CC := counts_any L.length
    by_cases hn : (L.length : Int) ≤ 255
    · rw [decide_eq_true ⟨by omega, hn⟩] at CC
      obtain ⟨q1, q2, q3, q4, q5⟩ := MV.may_iff.1 ha
      have HR := hide (show m.pickR L = ⟨L.length, m.c, cellsOf m.c.toNat (m.pickF L) (L.length * m.c.toNat)⟩ from rfl)
      have HF := hide (show ∀ i j, m.pickF L i j = m.l.getD ((L.getD i 0).toNat * m.c.toNat + j) 0 from fun _ _ => rfl)
      have HK := hide (show (∀ i, i < L.length → 0 ≤ L.getD i 0 ∧ L.getD i 0 < m.r) → m.pickE L = (m.pickR L, 0) from fun h => by rw [HP.out, if_pos]; exact ⟨ha, by omega, h⟩)
      have HX := hide (show (∃ i, i < L.length ∧ ¬ (0 ≤ L.getD i 0 ∧ L.getD i 0 < m.r)) → m.pickE L = (MV.zero, 13) from fun ⟨i, hi, hx⟩ => by rw [HP.out, if_neg]; rintro ⟨_, _, h⟩; exact hx (h i hi))
      clear HP ha
      generalize m.pickE L = res at *
      generalize m.pickR L = pr at *
      generalize m.pickF L = pf at *
      obtain ⟨mr, mc, ml⟩ := m
      dsimp only at *
      obtain ⟨mr, rfl⟩ := Int.eq_ofNat_of_zero_le q1
      obtain ⟨mc, rfl⟩ := Int.eq_ofNat_of_zero_le q3
      simp only [Int.toNat_natCast] at *
      have ml5 : ml.length = mr * mc := by omega
      have hmr : mr ≤ 255 := by omega
      have hmc : mc ≤ 255 := by omega
      have hln : L.length ≤ 255 := by omega
      have CB := fun W => blank_any L.length mc hln (by omega) W
      have HM := hide ml5
      have HA := hide (pickTo_all pf L.length mc)
      have HH1 := hide h1
      have HK1 := hide hk1
      clear q1 q2 q3 q4 q5 ml5 hl1 hl2 h1 hk1
      go_enter Tryd.func86, Tryd.ntmps86
      go_wp2_with (refine wpList_load_row rfl 76 (.tmp 2) rfl _ rfl _ _ _ _ hWa Tryd.underlying76 rfl mat_info ?_)
      refine (M1 _).mono ?_
      rintro e w3 ⟨rfl, hF3⟩
      have hWa3 := hWa.ext hF3
      have hWr3 := hWr.ext hF3
      have hE3 := hE.trans hF3
      have d1 := hWa3.at 1 rfl
      clear M1 hF3 hWa hWr hE
      go_wp2_with fail
      refine (CC _).mono ?_
      rintro e w4 ⟨rfl, rfl⟩
      go_wp2_with fail
      refine (CB _).mono ?_
      rintro e w4 ⟨g, rfl, hg, hO, hE4⟩
      have hg2 := (hO.lt g rfl).2
      have hW2 := Whole.new w4 76 #[.int .i64 0, .int .i64 0, .slice none 0 0]
      have hE5 := extNew w4 (.cells #[.int .i64 0, .int .i64 0, .slice none 0 0] 76)
      unfold matV
      go_wp2_with (refine wpList_storeW rfl 76 (.tmp 6) (.tmp 23) rfl rfl rfl hW2 rfl mat_info (mat_one rfl) ?_; intro w5 hW5 hG5 _)
      have hO5 := (Mod.ofRow (ob := none) hG5).own (hO.ext hE5) (by simp [Value.ownBlock]; omega) (by simp [Classical.em])
      have hF5 : Ext w3 w5 := Below.grown (hE4.trans hE5) hG5 (hE4.trans hE5).le (fun k hk => by cases hk; exact hE4.le)
      rw [cells_zero mc, ← pickTo_none pf] at hO5
      obtain ⟨gb, hgb⟩ : ∃ gb, gb = w4.heap.size := ⟨_, rfl⟩
      rw [← hgb] at hW5 ⊢
      have hb : w3.heap.size ≤ gb := by have := hE4.le; omega
      have hgg : g < gb := by omega
      have hrl := hWr3.lt
      clear hO hW2 hE5 hG5 hg2 hgb CC CB d1 hE4
      go_wp2_with fail
      go_loopw [26] (fun i wr => ∃ j : Nat, j ≤ L.length ∧ i = .int .i64 (j : Int) ∧ (∀ k, k < j → 0 ≤ L.getD k 0 ∧ L.getD k 0 < (mr : Int)) ∧ OwnB wr w3.heap.size (.slice (some ⟨g, 0, none⟩) (L.length * mc) (L.length * mc)) (cellsOf mc (pickTo pf j) (L.length * mc)) ∧ Whole wr gb 76 #[.int .i64 L.length, .int .i64 mc, .slice (some ⟨g, 0, none⟩) (L.length * mc) (L.length * mc)] ∧ Ext w3 wr) (fun i _ => L.length - (intOf i).toNat)
      case atStart => exact ⟨0, by omega, rfl, fun k hk => by omega, hO5, hW5, hF5⟩
      case round =>
        obtain ⟨i, hi, rfl, hall, hOi, hWm, hEr⟩ := hrel
        have hWa' := hWa3.ext hEr
        have d0' := hWa'.at 0 rfl
        by_cases hlt : i < L.length
        · have hEw := hE3.trans hEr
          rcases h2.2 with h0 | ⟨g2, o2, rfl, hg2, hc2⟩
          · omega
          have r0 := (hEw.cell (i := o2 + i) hg2).trans (hc2 i hlt)
          have HL := hide hall
          have HC2 := hide hc2
          clear hc2 hall h2
          obtain ⟨R, hR⟩ : ∃ R, R = L.getD i 0 := ⟨_, rfl⟩
          rw [← hR] at r0
          have HRR := hide hR
          clear hR
          by_cases hbad : R < 0 ∨ (mr : Int) ≤ R
          · have HN := hide (HX.out ⟨i, hlt, by rw [← HRR.out]; omega⟩)
            have hWrr := hWr3.ext hEr
            rcases hbad with hb1 | hb1
            · go_wp2_with (refine wpList_storeW rfl 76 (.tmp 4) (.tmp 39) rfl rfl rfl hWrr rfl mat_info (mat_one rfl) ?_; intro w6 hW6 hG6 _)
              refine bodyPost_ret (results_mat rfl _ rfl rfl hW6 rfl) rfl ?_
              rw [HN.out]
              exact MadeM.zero 13 (Below.grown hEw hG6 hEw.le (fun k hk => by cases hk; omega))
            · have hb2 : ¬ (R < 0) := by omega
              go_wp2_with (refine wpList_storeW rfl 76 (.tmp 4) (.tmp 39) rfl rfl rfl hWrr rfl mat_info (mat_one rfl) ?_; intro w6 hW6 hG6 _)
              refine bodyPost_ret (results_mat rfl _ rfl rfl hW6 rfl) rfl ?_
              rw [HN.out]
              exact MadeM.zero 13 (Below.grown hEw hG6 hEw.le (fun k hk => by cases hk; omega))
          · have hb1 : ¬ (R < 0) := by omega
            have hb2 : ¬ ((mr : Int) ≤ R) := by omega
            obtain ⟨R, rfl⟩ := Int.eq_ofNat_of_zero_le (show 0 ≤ R by omega)
            have hRm : R < mr := by omega
            have CRa := fun W => row_any' L.length i mc (L.length * mc) (L.length * mc) (some ⟨g, 0, none⟩) (by omega) (by omega) (Nat.mul_le_mul_right _ hlt) W
            have CRb := fun W => row_any' mr R mc k1 ml.length A1 (by omega) (by omega) (by have := HM.out; have := HK1.out; have : (R + 1) * mc ≤ mr * mc := Nat.mul_le_mul_right _ hRm; omega) W
            unfold matV at CRa CRb
            have HB0 := hide (show ∀ b, pf i b = ml.getD (R * mc + b) 0 from fun b => by rw [HF.out, ← HRR.out, Int.toNat_natCast])
            have HBy := hide (show ∀ W, Ext wr W → Bytes W W.heap.size (cutAt A1 k1 (R * mc)) mc (rowB mc (pf i)) from fun W hX => by
              have := rowBytes (F := fun a b => ml.getD (a * mc + b) 0) ((hEw.trans hX).bytes HH1.out) HM.out HK1.out hRm (fun _ _ => rfl)
              rwa [rowB_congr (g := pf i) (fun j _ => (HB0.out j).symm)] at this)
            have HPs := hide (pickTo_step pf mc i (L.length * mc) (fun h => by rw [h, Nat.mul_zero]))
            clear hbad
            go_wp2_with fail

            refine wp_region_T (fun W => Ext wr W) 6 7 #[false, false, false, false, false, false, false] (by kernel_rfl) rfl rfl (Ext.refl wr).drew ?_
            intro hS0
            refine wpAnyT_take 0 (some 40) (.agg #[.int .i64 (L.length : Int), .int .i64 (mc : Int), .slice (some ⟨g, 0, none⟩) (L.length * mc) (L.length * mc)]) #[true, false, false, false, false, false, false] rfl rfl rfl (by kernel_rfl) (fun _ _ _ h => h) hS0 (by rfl) (fun W hX => by have s0 := (hWm.ext hX).at 0 (u := .int .i64 (L.length : Int)) rfl; have s1 := (hWm.ext hX).at 1 (u := .int .i64 (mc : Int)) rfl; have s2 := (hWm.ext hX).at 2 (u := .slice (some ⟨g, 0, none⟩) (L.length * mc) (L.length * mc)) rfl; go_simp) ?_
            simp only [Act.put, List.setIfInBounds_toArray, List.set_cons_zero, List.set_cons_succ]
            refine wpAnyT_take 1 (some 41) (.int .i64 (i : Int)) #[true, true, false, false, false, false, false] rfl rfl rfl (by kernel_rfl) (fun _ _ _ h => h) hS0 (by rfl) (fun W hX => by go_simp) ?_
            simp only [Act.put, List.setIfInBounds_toArray, List.set_cons_zero, List.set_cons_succ]
            refine wpAnyT_take 3 (some 43) (.agg #[.int .i64 (mr : Int), .int .i64 (mc : Int), .slice A1 ml.length k1]) #[true, true, false, true, false, false, false] rfl rfl rfl (by kernel_rfl) (fun _ _ _ h => h) hS0 (by rfl) (fun W hX => by have s0 := (hWa'.ext hX).at 0 (u := .int .i64 (mr : Int)) rfl; have s1 := (hWa'.ext hX).at 1 (u := .int .i64 (mc : Int)) rfl; have s2 := (hWa'.ext hX).at 2 (u := .slice A1 ml.length k1) rfl; go_simp) ?_
            simp only [Act.put, List.setIfInBounds_toArray, List.set_cons_zero, List.set_cons_succ]
            refine wpAnyT_take 4 (some 44) (.int .i64 (R : Int)) #[true, true, false, true, true, false, false] rfl rfl rfl (by kernel_rfl) (fun _ _ _ h => h) hS0 (by rfl) (fun W hX => by go_simp) ?_
            simp only [Act.put, List.setIfInBounds_toArray, List.set_cons_zero, List.set_cons_succ]
            refine wpAnyT_only 2 #[true, true, true, true, true, false, false] (by kernel_rfl) rfl rfl (by rfl) (fun K0 hK0 => ?_)
            go_simp
            go_at_call 63
            refine (CRa _).mono ?_
            rintro e w6 ⟨rfl, hE6⟩
            have hX6 := hS0.trans hE6
            refine hK0 _ _ (fun _ => hX6) ?_
            clear hK0 K0
            refine wpAnyT_only 5 #[true, true, true, true, true, true, false] (by kernel_rfl) rfl rfl (by rfl) (fun K1 hK1 => ?_)
            go_simp
            go_at_call 63
            refine (CRb _).mono ?_
            rintro e w7 ⟨rfl, hE7⟩
            have hX7 := hX6.trans hE7
            refine hK1 _ _ (fun _ => hX7) ?_
            clear hK1 K1
            refine wpAnyT_only 6 #[true, true, true, true, true, true, true] (by kernel_rfl) rfl rfl (by rfl) (fun K4 hK4 => ?_)
            refine wp_copyM (.tmp 42) (.tmp 45) rfl rfl rfl (hOi.ext hX7) (HBy.out _ hX7) rfl (Nat.le_refl _) hlt (Nat.le_refl _) rfl ?_
            intro w8 hO8 hG8 hS8
            refine hK4 _ _ (fun h => absurd h (by decide)) (wpAnyT_done (by kernel_rfl) ?_ _)
            clear hK4 K4 hE6 hE7 hX6
            have hE8 : Ext w3 w8 := Below.grown (hEr.trans hX7) hG8 (hEr.trans hX7).le (fun k hk => by cases hk; exact hg)
            have hWm8 := (hWm.ext hX7).grown hG8 (by omega)
            rw [HPs.out] at hO8
            go_wp2
            go_roundw
            case rel =>
              refine ⟨i + 1, by omega, by go_num, fun k hk => ?_, hO8, hWm8, hE8⟩
              by_cases hki : k < i
              · exact HL.out k hki
              · obtain rfl : k = i := by omega
                rw [← HRR.out]
                omega
            case measure => simp [intOf]; omega
        · obtain rfl : i = L.length := by omega
          have hWrr := hWr3.ext hEr
          have HN := hide (HK.out hall)
          rw [HA.out] at hOi
          clear hall
          go_wp2_with (first
            | (refine wpList_load_row rfl 76 (.tmp 6) rfl _ rfl _ _ _ _ hWm Tryd.underlying76 rfl mat_info ?_)
            | (refine wpList_storeW rfl 76 (.tmp 4) (.tmp 48) rfl rfl rfl hWrr rfl mat_info (mat_one rfl) ?_; intro w6 hW6 hG6 _))
          refine bodyPost_ret (results_mat rfl _ rfl rfl hW6 rfl) rfl ?_
          rw [HN.out, HR.out]
          have hne6 : (Value.slice (some ⟨g, 0, none⟩) (L.length * mc) (L.length * mc)).ownBlock ≠ some (w.heap.size + 1) := fun e => by
            have := (hOi.lt _ e).1
            omega
          exact ⟨_, rfl, ((Mod.ofRow (ob := none) hG6).own hOi hne6 (by simp [Classical.em])).mono hE3.le, Below.grown (hE3.trans hEr) hG6 (hE3.trans hEr).le (fun k hk => by cases hk; omega)⟩
    · rw [decide_eq_false (fun h => hn h.2)] at CC
      have HN := hide (show m.pickE L = (MV.zero, 13) by rw [HP.out, if_neg]; rintro ⟨_, h, _⟩; omega)
      clear ha
      go_enter Tryd.func86, Tryd.ntmps86
      go_wp2_with (refine wpList_load_row rfl 76 (.tmp 2) rfl _ rfl _ _ _ _ hWa Tryd.underlying76 rfl mat_info ?_)
      refine (M1 _).mono ?_
      rintro e w2 ⟨rfl, hF2⟩
      have hWr2 := hWr.ext hF2
      go_wp2_with fail
      refine (CC _).mono ?_
      rintro e w4 ⟨rfl, rfl⟩
      go_wp2_with (refine wpList_storeW rfl 76 (.tmp 4) (.tmp 18) rfl rfl rfl hWr2 rfl mat_info (mat_one rfl) ?_; intro w5 hW5 hG5 _)
      refine bodyPost_ret (results_mat rfl _ rfl rfl hW5 rfl) rfl ?_
      rw [HN.out]
      exact MadeM.zero 13 (Below.grown (hE.trans hF2) hG5 (hE.trans hF2).le (fun k hk => by cases hk; omega))
  · have HN := hide (show m.pickE L = (MV.zero, 13) by rw [HP.out, if_neg]; rintro ⟨h, _, _⟩; exact ha h)
    rw [Bool.not_eq_true] at ha
    rw [ha] at M1
    clear ha
    go_enter Tryd.func86, Tryd.ntmps86
    go_wp2_with (refine wpList_load_row rfl 76 (.tmp 2) rfl _ rfl _ _ _ _ hWa Tryd.underlying76 rfl mat_info ?_)
    refine (M1 _).mono ?_
    rintro e w2 ⟨rfl, hF2⟩
    have hWr2 := hWr.ext hF2
    go_wp2_with (refine wpList_storeW rfl 76 (.tmp 4) (.tmp 18) rfl rfl rfl hWr2 rfl mat_info (mat_one rfl) ?_; intro w5 hW5 hG5 _)
    refine bodyPost_ret (results_mat rfl _ rfl rfl hW5 rfl) rfl ?_
    rw [HN.out]
    exact MadeM.zero 13 (Below.grown (hE.trans hF2) hG5 (hE.trans hF2).le (fun k hk => by cases hk; omega))
end Go.Proofs.YtkfipfhmbhmamaaDoor

namespace Go.Proofs.YtkfipfhmbhmamaaDoor
open Go.RowKit

theorem rowB_drop' (n m : Nat) (f : Nat → UInt8) : (rowB n f).drop m = rowB (n - m) (fun j => f (m + j)) := by
  apply List.ext_getElem
  · rw [List.length_drop, rowB_len, rowB_len]
  · intro p h1 h2
    simp [rowB]
theorem both_step (n : Nat) (A : Mat.M) (i N : Nat) (hN : N = n * (2 * n)) : cellsOf (2 * n) (fun a b => if a = i ∧ b = n + i then 1 else if a = i ∧ b < n then A i b else pickTo (Mat.both n A) i a b) N = cellsOf (2 * n) (pickTo (Mat.both n A) (i + 1)) N := by
  refine cells_congr fun p hp => ?_
  have hn : 0 < n := by
    rcases Nat.eq_zero_or_pos n with h | h
    · rw [h] at hN; omega
    · exact h
  have hlt := Nat.mod_lt p (by omega : 0 < 2 * n)
  generalize p / (2 * n) = a at *
  generalize p % (2 * n) = b at *
  unfold pickTo Mat.both
  by_cases h : a = i
  · subst h
    rw [if_pos (by omega : a < a + 1)]
    by_cases h1 : b = n + a
    · rw [if_pos ⟨rfl, h1⟩, if_neg (by omega), if_pos (by omega)]
    · rw [if_neg (fun e => h1 e.2)]
      by_cases h2 : b < n
      · rw [if_pos ⟨rfl, h2⟩, if_pos h2]
      · rw [if_neg (fun e => h2 e.2), if_neg (by omega), if_neg h2, if_neg (by omega)]
  · rw [if_neg (fun e => h e.1), if_neg (fun e => h e.1)]
    by_cases h3 : a < i
    · rw [if_pos h3, if_pos (show a < i + 1 by omega)]
    · rw [if_neg h3, if_neg (show ¬ a < i + 1 by omega)]

set_option maxHeartbeats 4000000 in
set_option maxRecDepth 100000 in
theorem beside_any {n k : Nat} {A : Option Addr} {l : List UInt8} {fa : Mat.M} {w : World} (hn : n ≤ 255) (hk : l.length ≤ k) (hl : l.length = n * n) (hB : Bytes w w.heap.size A l.length l) (hfa : ∀ i j, fa i j = l.getD (i * n + j) 0) :
    Calls Tryd.prog 93 #[.agg #[.int .i64 (n : Int), .int .i64 (n : Int), .slice A l.length k]] w fun e w' => ∃ g, e = .returned (ownV g n (2 * n) (n * (2 * n))) ∧ OwnM w' w.heap.size g n (2 * n) (n * (2 * n)) (Mat.both n fa) ∧ Ext w w' := by
  have hE1 := extNew w (.cells #[.int .i64 n, .int .i64 n, .slice A l.length k] 76)
  have hE2 := extNew (w.alloc (.cells #[.int .i64 n, .int .i64 n, .slice A l.length k] 76)) (.cells #[.int .i64 0, .int .i64 0, .slice none 0 0] 127)
  have hWa := (Whole.new w 76 #[.int .i64 n, .int .i64 n, .slice A l.length k]).ext hE2
  have hWr := Whole.new (w.alloc (.cells #[.int .i64 n, .int .i64 n, .slice A l.length k] 76)) 127 #[.int .i64 0, .int .i64 0, .slice none 0 0]
  have hE := hE1.trans hE2
  rw [World.size_alloc] at hWr
  clear hE1 hE2
  have CB := fun W => blank_any n (2 * n) hn (by omega) W
  have h2n : ((2 * n : Nat) : Int) = 2 * (n : Int) := by omega
  rw [h2n] at CB
  have HBy := hide (show ∀ i, i < n → ∀ W, Ext w W → Bytes W W.heap.size (cutAt A k (i * n)) n (rowB n (fa i)) from fun i hi W hX => rowBytes (hX.bytes hB) hl hk hi hfa)
  have HC := hide (show ∀ i, i < n → (i + 1) * n ≤ k from fun i hi => by have : (i + 1) * n ≤ n * n := Nat.mul_le_mul_right _ hi; omega)
  have H2n := hide h2n
  clear hB hl hk hfa h2n
  go_enter Tryd.func93, Tryd.ntmps93
  go_wp2_with fail
  refine (CB _).mono ?_
  rintro e w4 ⟨g, rfl, hg, hO, hE4⟩
  have hE04 := hE.trans hE4
  have hg0 : w.heap.size + 1 < g := by have := hWr.lt; omega
  have hg2 := (hO.lt g rfl).2
  have hW2 := Whole.new w4 127 #[.int .i64 0, .int .i64 0, .slice none 0 0]
  have hE5 := extNew w4 (.cells #[.int .i64 0, .int .i64 0, .slice none 0 0] 127)
  have hWa4 := hWa.ext hE4
  have hWr4 := hWr.ext hE4
  obtain ⟨N, hN⟩ : ∃ N, N = n * (2 * n) := ⟨_, rfl⟩
  have HN := hide hN
  rw [← hN] at hO ⊢
  rw [H2n.out]
  clear hN
  unfold matV
  go_wp2_with (refine wpList_storeW rfl 127 (.tmp 3) (.tmp 12) rfl rfl rfl hW2 rfl work_info (mat_one rfl) ?_; intro w5 hW5 hG5 _; have hWa5 := (hWa4.ext hE5).grown hG5 (by have := hWa4.lt; omega); have d0 := hWa5.at 0 (u := .int .i64 (n : Int)) rfl)
  have hO5 := (Mod.ofRow (ob := none) hG5).own (hO.ext hE5) (by simp [Value.ownBlock]; omega) (by simp [Classical.em])
  have hWr5 := (hWr4.ext hE5).grown hG5 (by have := hWr4.lt; omega)
  have hF5 : Ext w w5 := Below.grown (hE04.trans hE5) hG5 (hE04.trans hE5).le (fun k hk => by cases hk; exact hE04.le)
  rw [cells_zero (2 * n), ← pickTo_none (Mat.both n fa)] at hO5
  have hO5' := hO5.mono (base' := w.heap.size) (by simp; omega)
  obtain ⟨gb, hgb⟩ : ∃ gb, gb = w4.heap.size := ⟨_, rfl⟩
  rw [← hgb] at hW5 ⊢
  have hgg : g < gb := by omega
  clear hO hW2 hE5 hG5 hg2 hgb CB hE4 hO5 hWa hWr hWa4 hWr4 hE hE04 hg
  go_loopw [15] (fun i wr => ∃ j : Nat, j ≤ n ∧ i = .int .i64 (j : Int) ∧ OwnB wr w.heap.size (.slice (some ⟨g, 0, none⟩) N N) (cellsOf (2 * n) (pickTo (Mat.both n fa) j) N) ∧ Whole wr gb 127 #[.int .i64 (n : Int), .int .i64 (2 * (n : Int)), .slice (some ⟨g, 0, none⟩) N N] ∧ Whole wr w.heap.size 76 #[.int .i64 n, .int .i64 n, .slice A l.length k] ∧ Whole wr (w.heap.size + 1) 127 #[.int .i64 0, .int .i64 0, .slice none 0 0] ∧ Ext w wr) (fun i _ => n - (intOf i).toNat)
  case atStart => exact ⟨0, by omega, rfl, hO5', hW5, hWa5, hWr5, hF5⟩
  case round =>
    obtain ⟨i, hi, rfl, hOi, hWm, hWa, hWr, hEr⟩ := hrel
    have d1 := hWa.at 1 (u := .int .i64 (n : Int)) rfl
    by_cases hlt : i < n
    · have hpl := row_place (c := 2 * n) hlt (by omega)
      rw [← HN.out] at hpl
      have CR := fun W => row_any' n i (2 * n) N N (some ⟨g, 0, none⟩) (by omega) (by omega) (by rw [Nat.add_mul, Nat.one_mul]; exact hpl.1) W
      rw [cutAt_zero hpl.2, H2n.out] at CR
      have CA := fun W => row_any' n i n k l.length A (by omega) (by omega) (HC.out i hlt) W
      unfold matV at CR CA
      have HHS := hide (both_step n fa i N HN.out)
      have HP1 := hide hpl.1
      have HD := hide (cutAt_zero (g := g) hpl.2)
      have HS := hide (fun x => cells_set (2 * n) N (fun a b => if a = i ∧ b < n then fa i b else pickTo (Mat.both n fa) i a b) (i := i) (j := n + i) (by omega) x)
      generalize hio : i * (2 * n) = io at *
      have HIO := hide hio
      clear hio
      clear hpl
      go_wp2_with (refine wpList_load_row rfl 76 (.tmp 18) rfl _ rfl _ _ _ _ hWm Tryd.underlying76 rfl mat_info ?_)
      refine (CR _).mono ?_
      rintro e w6 ⟨rfl, hE6⟩
      have hWa6 := hWa.ext hE6
      go_wp2_with (refine wpList_load_row rfl 76 (.tmp 1) rfl _ rfl _ _ _ _ hWa6 Tryd.underlying76 rfl mat_info ?_)
      refine (CA _).mono ?_
      rintro e w7 ⟨rfl, hE7⟩
      have hE67 := hE6.trans hE7
      have hX := hEr.trans hE67
      go_wp2_with (refine wpList_copyM (kd := N - io) rfl (.tmp 22) (.tmp 25) rfl rfl rfl (hOi.ext hE67) (HBy.out i hlt _ hX) HN.out (Nat.le_refl _) hlt (by omega) (by rw [HIO.out, HD.out]) ?_; intro w8 hO8 hG8 hS8; have hWa8 := (hWa.ext hE67).grown hG8 (by omega); have d18 := hWa8.at 1 (u := .int .i64 (n : Int)) rfl; have k8 := hO8.cell (i := io + (n + i)) (by rw [cellsOf_len]; have := HP1.out; omega); have k81 := k8.1; have k82 := k8.2)
      have hO9 := hO8.set (io + (n + i)) 1
      have hE8 : Ext w w8 := Below.grown (hEr.trans hE67) hG8 (hEr.trans hE67).le (fun k hk => by cases hk; omega)
      have hE9 := hE8.setCell (g := g) (i := io + (n + i)) (by omega) (.int .u8 1)
      have hWm9 := ((hWm.ext hE67).grown hG8 (by omega)).far (b := g) (by omega) (io + (n + i)) (.int .u8 1)
      have hWa9 := hWa8.far (b := g) (by omega) (io + (n + i)) (.int .u8 1)
      have hWr9 := ((hWr.ext hE67).grown hG8 (by omega)).far (b := g) (by omega) (io + (n + i)) (.int .u8 1)
      rw [HS.out, HHS.out] at hO9
      go_wp2
      go_roundw
      case rel => exact ⟨i + 1, by omega, by go_num, hO9, hWm9, hWa9, hWr9, hE9⟩
      case measure => simp [intOf]; omega
    · obtain rfl : i = n := by omega
      go_wp2_with (first
        | (refine wpList_load_row rfl 127 (.tmp 3) rfl _ rfl _ _ _ _ hWm Tryd.underlying127 rfl work_info ?_)
        | (refine wpList_storeW rfl 127 (.tmp 2) (.tmp 34) rfl rfl rfl hWr rfl work_info (mat_one rfl) ?_; intro w6 hW6 hG6 _))
      have hO6 := (Mod.ofRow (ob := none) hG6).own hOi (by simp [Value.ownBlock]; omega) (by simp [Classical.em])
      refine bodyPost_ret (results_work rfl _ rfl hW6 rfl) rfl ⟨g, ?_, ?_, Below.grown hEr hG6 hEr.le (fun k hk => by cases hk; omega)⟩
      · unfold ownV matV
        rw [H2n.out, HN.out]
      · have hM6 : OwnM w6 w.heap.size g i (2 * i) (i * (2 * i)) _ := ⟨by rw [HN.out] at hO6; exact hO6, by omega, by have := (hO6.lt g rfl).2; exact this, Nat.le_refl _⟩
        refine hM6.congr fun a b ha _ => ?_
        unfold pickTo
        rw [if_pos ha]
end Go.Proofs.YtkfipfhmbhmamaaDoor

namespace Go.Proofs.YtkfipfhmbhmamaaDoor
open Go.RowKit

set_option maxHeartbeats 4000000 in
set_option maxRecDepth 100000 in
theorem from_any {base g r c k col d : Nat} {F : Mat.M} {w : World} (hr : r ≤ 255) (hc : c ≤ 510) (hd : c = col + d) (hd0 : 0 < d ∨ r = 0) (hM : OwnM w base g r c k F) :
    Calls Tryd.prog 95 #[ownV g r c k, .int .i64 (col : Int)] w fun e w' => ∃ g2, e = .returned (ownV g2 r d (r * d)) ∧ OwnM w' w.heap.size g2 r d (r * d) (fun a b => F a (col + b)) ∧ Ext w w' := by
  have hE1 := extNew w (.cells #[.int .i64 r, .int .i64 c, .slice (some ⟨g, 0, none⟩) (r * c) k] 127)
  have hE2 := extNew (w.alloc (.cells #[.int .i64 r, .int .i64 c, .slice (some ⟨g, 0, none⟩) (r * c) k] 127)) (.cells #[.int .i64 0, .int .i64 0, .slice none 0 0] 76)
  have hWa := (Whole.new w 127 #[.int .i64 r, .int .i64 c, .slice (some ⟨g, 0, none⟩) (r * c) k]).ext hE2
  have hWr := Whole.new (w.alloc (.cells #[.int .i64 r, .int .i64 c, .slice (some ⟨g, 0, none⟩) (r * c) k] 127)) 76 #[.int .i64 0, .int .i64 0, .slice none 0 0]
  have hE := hE1.trans hE2
  rw [World.size_alloc] at hWr
  clear hE1 hE2
  have CB := fun W => blank_any r d hr (by omega) W
  have hsub : (c : Int) - (col : Int) = (d : Int) := by omega
  have HD := hide hd
  have HD0 := hide hd0
  have hdc : d ≤ c := by omega
  have HM := hide hM
  have hg0 := hM.2.2.1
  have hkk := hM.2.2.2
  clear hM hd hd0
  unfold ownV matV
  go_enter Tryd.func95, Tryd.ntmps95
  go_wp2_with fail
  refine (CB _).mono ?_
  rintro e w4 ⟨g2, rfl, hg, hO, hE4⟩
  have hE04 := hE.trans hE4
  have hgw : w.heap.size + 1 < g2 := by have := hWr.lt; omega
  have hg2 := (hO.lt g2 rfl).2
  have hW2 := Whole.new w4 76 #[.int .i64 0, .int .i64 0, .slice none 0 0]
  have hE5 := extNew w4 (.cells #[.int .i64 0, .int .i64 0, .slice none 0 0] 76)
  have hWa4 := hWa.ext hE4
  have hWr4 := hWr.ext hE4
  unfold matV
  go_wp2_with (refine wpList_storeW rfl 76 (.tmp 5) (.tmp 15) rfl rfl rfl hW2 rfl mat_info (mat_one rfl) ?_; intro w5 hW5 hG5 _; have hWa5 := (hWa4.ext hE5).grown hG5 (by have := hWa4.lt; omega); have d0 := hWa5.at 0 (u := .int .i64 (r : Int)) rfl)
  have hO5 := (Mod.ofRow (ob := none) hG5).own (hO.ext hE5) (by simp [Value.ownBlock]; omega) (by simp [Classical.em])
  have hWr5 := (hWr4.ext hE5).grown hG5 (by have := hWr4.lt; omega)
  have hF5 : Ext w w5 := Below.grown (hE04.trans hE5) hG5 (hE04.trans hE5).le (fun k hk => by cases hk; exact hE04.le)
  rw [cells_zero d, ← pickTo_none (fun a b => F a (col + b))] at hO5
  have hO5' := hO5.mono (base' := w.heap.size) (by simp; omega)
  obtain ⟨gb, hgb⟩ : ∃ gb, gb = w4.heap.size := ⟨_, rfl⟩
  rw [← hgb] at hW5 ⊢
  have hgg : g2 < gb := by omega
  clear hO hW2 hE5 hG5 hg2 hgb CB hE4 hO5 hWa hWr hWa4 hWr4 hE hE04 hg
  go_loopw [19] (fun i wr => ∃ j : Nat, j ≤ r ∧ i = .int .i64 (j : Int) ∧ OwnB wr w.heap.size (.slice (some ⟨g2, 0, none⟩) (r * d) (r * d)) (cellsOf d (pickTo (fun a b => F a (col + b)) j) (r * d)) ∧ Whole wr gb 76 #[.int .i64 (r : Int), .int .i64 (d : Int), .slice (some ⟨g2, 0, none⟩) (r * d) (r * d)] ∧ Whole wr w.heap.size 127 #[.int .i64 r, .int .i64 c, .slice (some ⟨g, 0, none⟩) (r * c) k] ∧ Whole wr (w.heap.size + 1) 76 #[.int .i64 0, .int .i64 0, .slice none 0 0] ∧ Ext w wr) (fun i _ => r - (intOf i).toNat)
  case atStart => exact ⟨0, by omega, rfl, hO5', hW5, hWa5, hWr5, hF5⟩
  case round =>
    obtain ⟨i, hi, rfl, hOi, hWm, hWa, hWr, hEr⟩ := hrel
    by_cases hlt : i < r
    · have hdp : 0 < d := by have := HD0.out; omega
      have hpc := row_place (c := c) hlt (by omega)
      have CRa := fun W => row_any' r i d (r * d) (r * d) (some ⟨g2, 0, none⟩) (by omega) (by omega) (Nat.mul_le_mul_right _ hlt) W
      have CRb := fun W => row_any' r i c k (r * c) (some ⟨g, 0, none⟩) (by omega) hc (Nat.le_trans (Nat.mul_le_mul_right _ hlt) hkk) W
      rw [cutAt_zero (show k ≠ i * c by omega)] at CRb
      unfold matV at CRa CRb
      have HPs := hide (pickTo_step (fun a b => F a (col + b)) d i (r * d) (fun h => by omega))
      have HBy := hide (show ∀ W, Ext w W → Bytes W W.heap.size (some ⟨g, i * c + col, none⟩) d (rowB d (fun b => F i (col + b))) from fun W hX => by
        have h1 := ownRow (HM.out.ext hX).1 rfl hkk hlt
        rw [cutAt_zero (show k ≠ i * c by omega)] at h1
        have h2 := h1.drop (k := col) (c := k - i * c) (by have := HD.out; omega) (by omega)
        rw [rowB_drop', show cutAt (some ⟨g, i * c, none⟩) (k - i * c) col = some ⟨g, i * c + col, none⟩ by unfold cutAt; rw [if_neg (by have := HD.out; omega)]; simp [Addr.add], show c - col = d by have := HD.out; omega] at h2
        exact h2)
      have hk1 : i * c + c ≤ k := by omega
      generalize i * c = io at *
      obtain ⟨kd, hkd⟩ : ∃ kd, kd = k - io := ⟨_, rfl⟩
      rw [← hkd] at CRb
      have HKD := hide hkd
      have hkd1 : c ≤ kd := by omega
      have hkd2 : ¬ kd = col := by have := HD.out; omega
      clear hkd hpc
      go_wp2_with fail
      have hcc : (col : Int) ≤ (c : Int) := by have := HD.out; omega
      refine wp_region_T (fun W => Ext wr W) 9 10 #[false, false, false, false, false, false, false, false, false, false] (by kernel_rfl) rfl rfl (Ext.refl wr).drew ?_
      intro hS0
      refine wpAnyT_take 0 (some 22) (.agg #[.int .i64 (r : Int), .int .i64 (d : Int), .slice (some ⟨g2, 0, none⟩) (r * d) (r * d)]) #[true, false, false, false, false, false, false, false, false, false] rfl rfl rfl (by kernel_rfl) (fun _ _ _ h => h) hS0 (by rfl) (fun W hX => by have s0 := (hWm.ext hX).at 0 (u := .int .i64 (r : Int)) rfl; have s1 := (hWm.ext hX).at 1 (u := .int .i64 (d : Int)) rfl; have s2 := (hWm.ext hX).at 2 (u := .slice (some ⟨g2, 0, none⟩) (r * d) (r * d)) rfl; go_simp) ?_
      simp only [Act.put, List.setIfInBounds_toArray, List.set_cons_zero, List.set_cons_succ]
      refine wpAnyT_take 1 (some 23) (.int .i64 (i : Int)) #[true, true, false, false, false, false, false, false, false, false] rfl rfl rfl (by kernel_rfl) (fun _ _ _ h => h) hS0 (by rfl) (fun W hX => by go_simp) ?_
      simp only [Act.put, List.setIfInBounds_toArray, List.set_cons_zero, List.set_cons_succ]
      refine wpAnyT_take 3 (some 25) (.pointer (some ⟨w.heap.size, 0, none⟩)) #[true, true, false, true, false, false, false, false, false, false] rfl rfl rfl (by kernel_rfl) (fun _ _ _ h => h) hS0 (by rfl) (fun W hX => by go_simp) ?_
      simp only [Act.put, List.setIfInBounds_toArray, List.set_cons_zero, List.set_cons_succ]
      refine wpAnyT_take 4 (some 26) (.agg #[.int .i64 (r : Int), .int .i64 (c : Int), .slice (some ⟨g, 0, none⟩) (r * c) k]) #[true, true, false, true, true, false, false, false, false, false] rfl rfl rfl (by kernel_rfl) (fun _ _ _ h => h) hS0 (by rfl) (fun W hX => by have s0 := (hWa.ext hX).at 0 (u := .int .i64 (r : Int)) rfl; have s1 := (hWa.ext hX).at 1 (u := .int .i64 (c : Int)) rfl; have s2 := (hWa.ext hX).at 2 (u := .slice (some ⟨g, 0, none⟩) (r * c) k) rfl; go_simp) ?_
      simp only [Act.put, List.setIfInBounds_toArray, List.set_cons_zero, List.set_cons_succ]
      refine wpAnyT_take 5 (some 27) (.int .i64 (i : Int)) #[true, true, false, true, true, true, false, false, false, false] rfl rfl rfl (by kernel_rfl) (fun _ _ _ h => h) hS0 (by rfl) (fun W hX => by go_simp) ?_
      simp only [Act.put, List.setIfInBounds_toArray, List.set_cons_zero, List.set_cons_succ]
      refine wpAnyT_take 7 (some 29) (.int .i64 (col : Int)) #[true, true, false, true, true, true, false, true, false, false] rfl rfl rfl (by kernel_rfl) (fun _ _ _ h => h) hS0 (by rfl) (fun W hX => by go_simp) ?_
      simp only [Act.put, List.setIfInBounds_toArray, List.set_cons_zero, List.set_cons_succ]
      refine wpAnyT_only 2 #[true, true, true, true, true, true, false, true, false, false] (by kernel_rfl) rfl rfl (by rfl) (fun K0 hK0 => ?_)
      go_simp
      go_at_call 63
      refine (CRa _).mono ?_
      rintro e wc0 ⟨rfl, hC0⟩
      have hX0 := hS0.trans hC0
      refine hK0 _ _ (fun _ => hX0) ?_
      clear hK0 K0
      refine wpAnyT_only 6 #[true, true, true, true, true, true, true, true, false, false] (by kernel_rfl) rfl rfl (by rfl) (fun K1 hK1 => ?_)
      go_simp
      go_at_call 63
      refine (CRb _).mono ?_
      rintro e wc1 ⟨rfl, hC1⟩
      have hX1 := hX0.trans hC1
      refine hK1 _ _ (fun _ => hX1) ?_
      clear hK1 K1
      refine wpAnyT_take 8 (some 30) (.slice (some ⟨g, io + col, none⟩) (c - col) (kd - col)) #[true, true, true, true, true, true, true, true, true, false] rfl rfl rfl (by kernel_rfl) (fun _ _ _ h => h) hX1 (by rfl) (fun W hX => by go_simp) ?_
      simp only [Act.put, List.setIfInBounds_toArray, List.set_cons_zero, List.set_cons_succ]
      rw [show c - col = d by have := HD.out; omega]
      refine wpAnyT_only 9 #[true, true, true, true, true, true, true, true, true, true] (by kernel_rfl) rfl rfl (by rfl) (fun K2 hK2 => ?_)
      refine wp_copyM (.tmp 24) (.tmp 30) rfl rfl rfl (hOi.ext hX1) (HBy.out _ (hEr.trans hX1)) rfl (Nat.le_refl _) hlt (Nat.le_refl _) rfl ?_
      intro w8 hO8 hG8 hS8
      refine hK2 _ _ (fun h => absurd h (by decide)) (wpAnyT_done (by kernel_rfl) ?_ _)
      clear hK2 K2
      rw [HPs.out] at hO8
      have hX := hEr.trans hX1
      have hE8 : Ext w w8 := Below.grown hX hG8 hX.le (fun k hk => by cases hk; omega)
      have hWm8 := (hWm.ext hX1).grown hG8 (by omega)
      have hWa8 := (hWa.ext hX1).grown hG8 (by omega)
      have hWr8 := (hWr.ext hX1).grown hG8 (by omega)
      go_wp2
      go_roundw
      case rel => exact ⟨i + 1, by omega, by go_num, hO8, hWm8, hWa8, hWr8, hE8⟩
      case measure => simp [intOf]; omega
    · obtain rfl : i = r := by omega
      go_wp2_with (first
        | (refine wpList_load_row rfl 76 (.tmp 5) rfl _ rfl _ _ _ _ hWm Tryd.underlying76 rfl mat_info ?_)
        | (refine wpList_storeW rfl 76 (.tmp 4) (.tmp 33) rfl rfl rfl hWr rfl mat_info (mat_one rfl) ?_; intro w6 hW6 hG6 _))
      have hO6 := (Mod.ofRow (ob := none) hG6).own hOi (by simp [Value.ownBlock]; omega) (by simp [Classical.em])
      refine bodyPost_ret (results_mat1 rfl _ rfl hW6 rfl) rfl ⟨g2, rfl, ?_, Below.grown hEr hG6 hEr.le (fun k hk => by cases hk; omega)⟩
      have hM6 : OwnM w6 w.heap.size g2 i d (i * d) _ := ⟨hO6, by omega, (hO6.lt g2 rfl).2, Nat.le_refl _⟩
      refine hM6.congr fun a b ha _ => ?_
      unfold pickTo
      rw [if_pos ha]
end Go.Proofs.YtkfipfhmbhmamaaDoor

namespace Go.Proofs.YtkfipfhmbhmamaaDoor
open Go.RowKit

theorem OwnB.bytesAt {w : World} {base n k : Nat} {A : Option Addr} {l : List UInt8} (h : OwnB w base (.slice A n k) l) : Bytes w w.heap.size A n l := by
  obtain ⟨A', n', k', hv, _, _, h3⟩ := h.form'
  simp only [Value.slice.injEq] at hv
  obtain ⟨rfl, rfl, rfl⟩ := hv
  exact h3
theorem u8_ofNat_xor (x y : Nat) : UInt8.ofNat (x ^^^ y) = UInt8.ofNat x ^^^ UInt8.ofNat y := by
  apply Mat.ext8
  rw [UInt8.toNat_xor, UInt8.toNat_ofNat', UInt8.toNat_ofNat', UInt8.toNat_ofNat', Nat.xor_mod_two_pow (n := 8)]
theorem fm_less (x : Nat) (y : UInt8) : y ^^^ Mat.fm (UInt8.ofNat (x ^^^ 1)) y = Mat.fm (UInt8.ofNat x) y := by
  rw [u8_ofNat_xor, Mat.xor_fm, show UInt8.ofNat 1 = 1 from rfl, Mat.one_fm, UInt8.xor_comm, UInt8.xor_assoc, UInt8.xor_self, UInt8.xor_zero]

set_option maxHeartbeats 2000000 in
set_option maxRecDepth 100000 in
theorem wscale_any {base g r c k i x : Nat} {F : Mat.M} {w : World} (hr : r ≤ 255) (hc : c ≤ 510) (hi : i < r) (hx : x < 256) (hM : OwnM w base g r c k F) :
    Calls Tryd.prog 98 #[ownV g r c k, .int .i64 (i : Int), .int .u8 (x : Int)] w fun e w' => e = .returned (.tuple #[]) ∧ OwnM w' base g r c k (fun a b => if a = i then Mat.fm (UInt8.ofNat x) (F a b) else F a b) ∧ w.grownBy w' (some g) := by
  have hE1 := extNew w (.cells #[.int .i64 r, .int .i64 c, .slice (some ⟨g, 0, none⟩) (r * c) k] 127)
  have hW1 := Whole.new w 127 #[.int .i64 r, .int .i64 c, .slice (some ⟨g, 0, none⟩) (r * c) k]
  have CR := fun W => row_any' r i c k (r * c) (some ⟨g, 0, none⟩) (by omega) hc (Nat.le_trans (Nat.mul_le_mul_right _ hi) hM.2.2.2) W
  have hx1 : x ^^^ 1 < 256 := Nat.xor_lt_two_pow (n := 8) hx (by omega)
  have CA := fun W hM hB => wadd_any (w := W) (base := base) (g := g) (r := r) (c := c) (k := k) (i := i) (x := x ^^^ 1) (F := F) (A := cutAt (some ⟨g, 0, none⟩) k (i * c)) (ks := k - i * c) (f := F i) hr hc hi hx1 hM hB
  have hxor : bits .xor .u8 (x : Int) 1 = ((x ^^^ 1 : Nat) : Int) := u8_xor_nat x 1 hx (by omega)
  have HX := hide (show (fun a b => if a = i then F a b ^^^ Mat.fm (UInt8.ofNat (x ^^^ 1)) (F i b) else F a b) = fun a b => if a = i then Mat.fm (UInt8.ofNat x) (F a b) else F a b by
    funext a b
    by_cases h : a = i
    · rw [if_pos h, if_pos h, h, fm_less]
    · rw [if_neg h, if_neg h])
  rw [HX.out] at CA
  generalize x ^^^ 1 = y at *
  have HM := hide hM
  clear hM
  unfold ownV matV at CA ⊢
  unfold matV at CR
  obtain ⟨wb, hwb⟩ : ∃ wb, wb = w.alloc (.cells #[.int .i64 r, .int .i64 c, .slice (some ⟨g, 0, none⟩) (r * c) k] 127) := ⟨_, rfl⟩
  obtain ⟨gb, hgb⟩ : ∃ gb, gb = w.heap.size := ⟨_, rfl⟩
  go_enter Tryd.func98, Tryd.ntmps98
  go_wp2_with fail
  rw [← hwb] at hE1 hW1 ⊢
  rw [← hgb] at hW1 ⊢
  clear hwb hgb
  refine wp_region_T (fun W => Ext wb W) 8 9 #[false, false, false, false, false, false, false, false, false] (by kernel_rfl) rfl rfl (Ext.refl wb).drew ?_
  intro hS0
  refine wpAnyT_take 0 (some 6) (.agg #[.int .i64 (r : Int), .int .i64 (c : Int), .slice (some ⟨g, 0, none⟩) (r * c) k]) #[true, false, false, false, false, false, false, false, false] rfl rfl rfl (by kernel_rfl) (fun _ _ _ h => h) hS0 (by rfl) (fun W hX => by have s0 := (hW1.ext hX).at 0 (u := .int .i64 (r : Int)) rfl; have s1 := (hW1.ext hX).at 1 (u := .int .i64 (c : Int)) rfl; have s2 := (hW1.ext hX).at 2 (u := .slice (some ⟨g, 0, none⟩) (r * c) k) rfl; go_simp) ?_
  simp only [Act.put, List.setIfInBounds_toArray, List.set_cons_zero, List.set_cons_succ]
  refine wpAnyT_take 1 (some 7) (.int .i64 (i : Int)) #[true, true, false, false, false, false, false, false, false] rfl rfl rfl (by kernel_rfl) (fun _ _ _ h => h) hS0 (by rfl) (fun W hX => by go_simp) ?_
  simp only [Act.put, List.setIfInBounds_toArray, List.set_cons_zero, List.set_cons_succ]
  refine wpAnyT_take 2 (some 8) (.int .u8 (x : Int)) #[true, true, true, false, false, false, false, false, false] rfl rfl rfl (by kernel_rfl) (fun _ _ _ h => h) hS0 (by rfl) (fun W hX => by go_simp) ?_
  simp only [Act.put, List.setIfInBounds_toArray, List.set_cons_zero, List.set_cons_succ]
  refine wpAnyT_take 3 (some 9) (.int .u8 (y : Int)) #[true, true, true, true, false, false, false, false, false] rfl rfl rfl (by kernel_rfl) (fun _ _ _ h => h) hS0 (by rfl) (fun W hX => by go_simp) ?_
  simp only [Act.put, List.setIfInBounds_toArray, List.set_cons_zero, List.set_cons_succ]
  refine wpAnyT_take 4 (some 10) (.pointer (some ⟨gb, 0, none⟩)) #[true, true, true, true, true, false, false, false, false] rfl rfl rfl (by kernel_rfl) (fun _ _ _ h => h) hS0 (by rfl) (fun W hX => by go_simp) ?_
  simp only [Act.put, List.setIfInBounds_toArray, List.set_cons_zero, List.set_cons_succ]
  refine wpAnyT_take 5 (some 11) (.agg #[.int .i64 (r : Int), .int .i64 (c : Int), .slice (some ⟨g, 0, none⟩) (r * c) k]) #[true, true, true, true, true, true, false, false, false] rfl rfl rfl (by kernel_rfl) (fun _ _ _ h => h) hS0 (by rfl) (fun W hX => by have s0 := (hW1.ext hX).at 0 (u := .int .i64 (r : Int)) rfl; have s1 := (hW1.ext hX).at 1 (u := .int .i64 (c : Int)) rfl; have s2 := (hW1.ext hX).at 2 (u := .slice (some ⟨g, 0, none⟩) (r * c) k) rfl; go_simp) ?_
  simp only [Act.put, List.setIfInBounds_toArray, List.set_cons_zero, List.set_cons_succ]
  refine wpAnyT_take 6 (some 12) (.int .i64 (i : Int)) #[true, true, true, true, true, true, true, false, false] rfl rfl rfl (by kernel_rfl) (fun _ _ _ h => h) hS0 (by rfl) (fun W hX => by go_simp) ?_
  simp only [Act.put, List.setIfInBounds_toArray, List.set_cons_zero, List.set_cons_succ]
  refine wpAnyT_only 7 #[true, true, true, true, true, true, true, true, false] (by kernel_rfl) rfl rfl (by rfl) (fun K0 hK0 => ?_)
  go_simp
  go_at_call 63
  refine (CR _).mono ?_
  rintro e wc0 ⟨rfl, hC0⟩
  have hX0 := hS0.trans hC0
  refine hK0 _ _ (fun _ => hX0) ?_
  clear hK0 K0
  refine wpAnyT_only 8 #[true, true, true, true, true, true, true, true, true] (by kernel_rfl) rfl rfl (by rfl) (fun K1 hK1 => ?_)
  go_simp
  go_at_call 99
  refine (CA _ (HM.out.ext (hE1.trans hX0)) (ownRow (HM.out.ext (hE1.trans hX0)).1 rfl HM.out.2.2.2 hi)).mono ?_
  rintro e w8 ⟨rfl, hM8, hG8⟩
  refine hK1 _ _ (fun h => absurd h (by decide)) (wpAnyT_done (by kernel_rfl) ?_ _)
  clear hK1 K1
  go_wp2
  refine bodyPost_end (results_none rfl _ _ _) rfl ⟨rfl, hM8, ((hE1.trans hX0).grown _).trans hG8⟩

set_option maxHeartbeats 2000000 in
set_option maxRecDepth 100000 in
theorem wswap_any {base g r c k i j : Nat} {F : Mat.M} {w : World} (hr : r ≤ 255) (hc : c ≤ 510) (hi : i < r) (hj : j < r) (hM : OwnM w base g r c k F) :
    Calls Tryd.prog 97 #[ownV g r c k, .int .i64 (i : Int), .int .i64 (j : Int)] w fun e w' => e = .returned (.tuple #[]) ∧ OwnM w' base g r c k (fun a b => F (Mat.sw i j a) b) ∧ w.grownBy w' (some g) := by
  have hE1 := extNew w (.cells #[.int .i64 r, .int .i64 c, .slice (some ⟨g, 0, none⟩) (r * c) k] 127)
  have hW1 := Whole.new w 127 #[.int .i64 r, .int .i64 c, .slice (some ⟨g, 0, none⟩) (r * c) k]
  have CRi := fun W => row_any' r i c k (r * c) (some ⟨g, 0, none⟩) (by omega) hc (Nat.le_trans (Nat.mul_le_mul_right _ hi) hM.2.2.2) W
  have CRj := fun W => row_any' r j c k (r * c) (some ⟨g, 0, none⟩) (by omega) hc (Nat.le_trans (Nat.mul_le_mul_right _ hj) hM.2.2.2) W
  have hle : i * c + c ≤ k := by
    have : (i + 1) * c ≤ r * c := Nat.mul_le_mul_right _ hi
    rw [Nat.add_mul, Nat.one_mul] at this
    exact Nat.le_trans this hM.2.2.2
  have CC := fun W hB => sliceClone8_any (cutAt (some ⟨g, 0, none⟩) k (i * c)) c (k - i * c) (rowB c (F i)) W (by omega) (by omega) hB
  have HM := hide hM
  have HMj := hide hM
  clear hM hle
  unfold ownV matV
  unfold matV at CRi CRj
  go_enter Tryd.func97, Tryd.ntmps97
  go_wp2_with (refine wpList_load_row rfl 76 (.tmp 7) rfl _ rfl _ _ _ _ hW1 Tryd.underlying76 rfl mat_info ?_)
  refine (CRi _).mono ?_
  rintro e w2 ⟨rfl, hE2⟩
  have hE12 := hE1.trans hE2
  have hW2 := hW1.ext hE2
  go_wp2_with fail
  refine (CC _ (ownRow (HM.out.ext hE12).1 rfl HM.out.2.2.2 hi)).mono ?_
  rintro e w3 ⟨v, rfl, hO3, hE3⟩
  obtain ⟨A3, n3, k3, rfl, hk3, hn3, hB3⟩ := hO3.form'
  have hn : n3 = c := by have := hB3.1; rw [rowB_len] at this; exact this.symm
  subst hn
  have hE13 := hE12.trans hE3
  have hW3 := hW2.ext hE3
  have hg3 := (HM.out.ext hE12).2.2.1
  have hne3 : ∀ b, (Value.slice A3 n3 k3).ownBlock = some b → b ≠ g := fun b hk e => by
    have := (hO3.lt b hk).1
    omega
  obtain ⟨gb, hgb⟩ : ∃ gb, gb = w.heap.size := ⟨_, rfl⟩
  have hgbg : gb ≠ g := by have := HM.out.2.2.1; omega
  go_wp2_with fail
  rw [← hgb] at hW3 ⊢
  clear hgb
  refine wp_region_T (fun W => Ext w3 W) 8 9 #[false, false, false, false, false, false, false, false, false] (by kernel_rfl) rfl rfl (Ext.refl w3).drew ?_
  intro hS0
  refine wpAnyT_take 0 (some 12) (.pointer (some ⟨gb, 0, none⟩)) #[true, false, false, false, false, false, false, false, false] rfl rfl rfl (by kernel_rfl) (fun _ _ _ h => h) hS0 (by rfl) (fun W hX => by go_simp) ?_
  simp only [Act.put, List.setIfInBounds_toArray, List.set_cons_zero, List.set_cons_succ]
  refine wpAnyT_take 1 (some 13) (.agg #[.int .i64 (r : Int), .int .i64 (n3 : Int), .slice (some ⟨g, 0, none⟩) (r * n3) k]) #[true, true, false, false, false, false, false, false, false] rfl rfl rfl (by kernel_rfl) (fun _ _ _ h => h) hS0 (by rfl) (fun W hX => by have s0 := (hW3.ext hX).at 0 (u := .int .i64 (r : Int)) rfl; have s1 := (hW3.ext hX).at 1 (u := .int .i64 (n3 : Int)) rfl; have s2 := (hW3.ext hX).at 2 (u := .slice (some ⟨g, 0, none⟩) (r * n3) k) rfl; go_simp) ?_
  simp only [Act.put, List.setIfInBounds_toArray, List.set_cons_zero, List.set_cons_succ]
  refine wpAnyT_take 2 (some 14) (.int .i64 (i : Int)) #[true, true, true, false, false, false, false, false, false] rfl rfl rfl (by kernel_rfl) (fun _ _ _ h => h) hS0 (by rfl) (fun W hX => by go_simp) ?_
  simp only [Act.put, List.setIfInBounds_toArray, List.set_cons_zero, List.set_cons_succ]
  refine wpAnyT_take 4 (some 16) (.pointer (some ⟨gb, 0, none⟩)) #[true, true, true, false, true, false, false, false, false] rfl rfl rfl (by kernel_rfl) (fun _ _ _ h => h) hS0 (by rfl) (fun W hX => by go_simp) ?_
  simp only [Act.put, List.setIfInBounds_toArray, List.set_cons_zero, List.set_cons_succ]
  refine wpAnyT_take 5 (some 17) (.agg #[.int .i64 (r : Int), .int .i64 (n3 : Int), .slice (some ⟨g, 0, none⟩) (r * n3) k]) #[true, true, true, false, true, true, false, false, false] rfl rfl rfl (by kernel_rfl) (fun _ _ _ h => h) hS0 (by rfl) (fun W hX => by have s0 := (hW3.ext hX).at 0 (u := .int .i64 (r : Int)) rfl; have s1 := (hW3.ext hX).at 1 (u := .int .i64 (n3 : Int)) rfl; have s2 := (hW3.ext hX).at 2 (u := .slice (some ⟨g, 0, none⟩) (r * n3) k) rfl; go_simp) ?_
  simp only [Act.put, List.setIfInBounds_toArray, List.set_cons_zero, List.set_cons_succ]
  refine wpAnyT_take 6 (some 18) (.int .i64 (j : Int)) #[true, true, true, false, true, true, true, false, false] rfl rfl rfl (by kernel_rfl) (fun _ _ _ h => h) hS0 (by rfl) (fun W hX => by go_simp) ?_
  simp only [Act.put, List.setIfInBounds_toArray, List.set_cons_zero, List.set_cons_succ]
  refine wpAnyT_only 3 #[true, true, true, true, true, true, true, false, false] (by kernel_rfl) rfl rfl (by rfl) (fun K0 hK0 => ?_)
  go_simp
  go_at_call 63
  refine (CRi _).mono ?_
  rintro e w6 ⟨rfl, hE6⟩
  have hX6 := hS0.trans hE6
  refine hK0 _ _ (fun _ => hX6) ?_
  clear hK0 K0
  refine wpAnyT_only 7 #[true, true, true, true, true, true, true, true, false] (by kernel_rfl) rfl rfl (by rfl) (fun K1 hK1 => ?_)
  go_simp
  go_at_call 63
  refine (CRj _).mono ?_
  rintro e w7 ⟨rfl, hE7⟩
  have hX7 := hX6.trans hE7
  refine hK1 _ _ (fun _ => hX7) ?_
  clear hK1 K1
  refine wpAnyT_only 8 #[true, true, true, true, true, true, true, true, true] (by kernel_rfl) rfl rfl (by rfl) (fun K4 hK4 => ?_)
  refine wp_copyM (.tmp 15) (.tmp 19) rfl rfl rfl (HM.out.ext (hE13.trans hX7)).1 (ownRow (HM.out.ext (hE13.trans hX7)).1 rfl HM.out.2.2.2 hj) rfl HM.out.2.2.2 hi (Nat.le_refl _) rfl ?_
  intro w8 hO8 hG8 hS8
  refine hK4 _ _ (fun h => absurd h (by decide)) (wpAnyT_done (by kernel_rfl) ?_ _)
  clear hK4 K4 hE6 hE7 hX6
  have hW8 := (hW3.ext hX7).grown hG8 hgbg
  have hB8 : Bytes w8 w8.heap.size A3 n3 (rowB n3 (F i)) := ((Mod.ofRow (ob := none) hG8).own (hO3.ext hX7) (fun e => hne3 g e rfl) (by simp [Classical.em])).bytesAt
  go_wp2_with (refine wpList_load_row rfl 76 (.tmp 21) rfl _ rfl _ _ _ _ hW8 Tryd.underlying76 rfl mat_info ?_)
  refine (CRj _).mono ?_
  rintro e w9 ⟨rfl, hE9⟩
  go_wp2_with (refine wpList_copyM rfl (.tmp 24) (.tmp 25) rfl rfl rfl (hO8.ext hE9) (hE9.bytes hB8) rfl HM.out.2.2.2 hj (Nat.le_refl _) rfl ?_; intro w10 hO10 hG10 hS10)
  have hM10 : OwnM w10 base g r n3 k _ := ⟨hO10, HM.out.2.1, by have := HM.out.2.2.1; have := (hE13.trans hX7).le; have := hE9.le; omega, HM.out.2.2.2⟩
  refine bodyPost_end (results_none rfl _ _ _) rfl ⟨rfl, hM10.congr fun a b _ hb => ?_, ((((hE13.trans hX7).grown _).trans hG8).trans (hE9.grown _)).trans hG10⟩
  unfold Mat.sw
  by_cases h1 : a = j
  · rw [if_pos ⟨h1, hb⟩]
    by_cases h2 : a = i
    · rw [if_pos h2, ← h1, h2]
    · rw [if_neg h2, if_pos h1]
  · rw [if_neg (fun e => h1 e.1)]
    by_cases h2 : a = i
    · rw [if_pos ⟨h2, hb⟩, if_pos h2]
    · rw [if_neg (fun e => h2 e.1), if_neg h2, if_neg h1]
end Go.Proofs.YtkfipfhmbhmamaaDoor

namespace Go.Proofs.YtkfipfhmbhmamaaDoor
open Go.RowKit

/-- Row p stands at place l, scaled so that it has 1 in the column. -/
def leadS (l p col : Nat) (F : Mat.M) : Mat.M := fun a b => if a = l then Mat.fm (Mat.fi (F p col)) (F (Mat.sw l p a) b) else F (Mat.sw l p a) b
/-- The rows above i, but row l, are cleared in the column. -/
def clearTo (l col i : Nat) (F : Mat.M) : Mat.M := fun a b => if a < i ∧ a ≠ l then F a b ^^^ Mat.fm (F a col) (F l b) else F a b
theorem clearTo_none (l col : Nat) (F : Mat.M) : clearTo l col 0 F = F := by
  funext a b
  unfold clearTo
  rw [if_neg (by omega)]
theorem clearTo_at {l col i : Nat} {F : Mat.M} : clearTo l col i F i = F i := by
  funext b
  unfold clearTo
  rw [if_neg (by omega)]
theorem clearTo_lead {l col i : Nat} {F : Mat.M} : clearTo l col i F l = F l := by
  funext b
  unfold clearTo
  rw [if_neg (by omega)]
theorem clearTo_step {l col i : Nat} {F : Mat.M} (h : i ≠ l) : (fun a b => if a = i then clearTo l col i F a b ^^^ Mat.fm (F i col) (F l b) else clearTo l col i F a b) = clearTo l col (i + 1) F := by
  funext a b
  unfold clearTo
  by_cases h1 : a = i
  · rw [if_pos h1, if_neg (by omega), if_pos ⟨by omega, by omega⟩, h1]
  · rw [if_neg h1]
    by_cases h2 : a < i ∧ a ≠ l
    · rw [if_pos h2, if_pos ⟨by omega, h2.2⟩]
    · rw [if_neg h2, if_neg (by omega)]
theorem clearTo_same {l col : Nat} {F : Mat.M} : clearTo l col l F = clearTo l col (l + 1) F := by
  funext a b
  unfold clearTo
  by_cases h2 : a < l ∧ a ≠ l
  · rw [if_pos h2, if_pos ⟨by omega, h2.2⟩]
  · rw [if_neg h2, if_neg (by omega)]
/-- Behind a call of lead. -/
def Led (w : World) (gr g base r c k l col : Nat) (F : Mat.M) (e : Ending) (w' : World) : Prop :=
  (e = .returned (.bool false) ∧ (∀ q, l ≤ q → q < r → F q col = 0) ∧ Ext w w') ∨
  (e = .returned (.bool true) ∧ ∃ p, l ≤ p ∧ p < r ∧ (∀ q, l ≤ q → q < p → F q col = 0) ∧ F p col ≠ 0 ∧ Red w' gr g base r c k (l + 1) (clearTo l col r (leadS l p col F)) ∧ Mod w w' g (some gr))

set_option maxHeartbeats 4000000 in
set_option maxRecDepth 100000 in
theorem lead_any {gr g base r c k l col : Nat} {F : Mat.M} {w : World} (hr : r ≤ 255) (hc : c ≤ 510) (hcol : col < c) (hl : l ≤ r) (h : Red w gr g base r c k l F) :
    Calls Tryd.prog 94 #[.pointer (some ⟨gr, 0, none⟩), .int .i64 (col : Int)] w (Led w gr g base r c k l col F) := by
  have CF := rfind_any hr hc hcol hl h
  have HR := hide h
  clear h
  go_enter Tryd.func94, Tryd.ntmps94
  go_wp2_with fail
  refine CF.mono ?_
  rintro e w2 ⟨p, rfl, hlp, hpr, hz, hnz, hE2⟩
  have hW2 := HR.out.1.ext hE2
  have d0 := hW2.at 0 (u := .int .i64 (r : Int)) rfl
  by_cases hp : p = r
  · subst hp
    have hpp : ((p : Int) == (p : Int)) = true := by simp
    have HZ := hide hz
    clear CF hz hnz
    go_wp2
    go_ret
    exact .inl ⟨rfl, HZ.out, hE2⟩
  · have hpp : ((p : Int) == (r : Int)) = false := by simp; omega
    have hpr' : p < r := by omega
    have hlr : l < r := by omega
    have HZ := hide hz
    have hne := hnz hpr'
    have HNZ := hide hne
    clear CF hz hnz
    go_wp2_with fail
    have hgr := HR.out.2.2.2
    have hkk := HR.out.2.1.2.2.2
    have CS := fun W (hM : OwnM W base g r c k F) => wswap_any hr hc hlr hpr' hM
    unfold ownV matV at CS
    clear d0
    refine wp_region_T (fun W => Ext w2 W) 9 10 #[false, false, false, false, false, false, false, false, false, false] (by kernel_rfl) rfl rfl (Ext.refl w2).drew ?_
    intro hS0
    refine wpAnyT_take 0 (some 21) (.pointer (some ⟨gr, 0, none⟩)) #[true, false, false, false, false, false, false, false, false, false] rfl rfl rfl (by kernel_rfl) (fun _ _ _ h => h) hS0 (by rfl) (fun W hX => by go_simp) ?_
    simp only [Act.put, List.setIfInBounds_toArray, List.set_cons_zero, List.set_cons_succ]
    refine wpAnyT_take 1 (some 22) (.pointer (some ⟨gr, 0, none⟩)) #[true, true, false, false, false, false, false, false, false, false] rfl rfl rfl (by kernel_rfl) (fun _ _ _ h => h) hS0 (by rfl) (fun W hX => by go_simp) ?_
    simp only [Act.put, List.setIfInBounds_toArray, List.set_cons_zero, List.set_cons_succ]
    refine wpAnyT_take 2 (some 23) (.pointer (some ⟨gr, 0, none⟩)) #[true, true, true, false, false, false, false, false, false, false] rfl rfl rfl (by kernel_rfl) (fun _ _ _ h => h) hS0 (by rfl) (fun W hX => by go_simp) ?_
    simp only [Act.put, List.setIfInBounds_toArray, List.set_cons_zero, List.set_cons_succ]
    refine wpAnyT_take 3 (some 24) (.agg #[.int .i64 (r : Int), .int .i64 (c : Int), .slice (some ⟨g, 0, none⟩) (r * c) k]) #[true, true, true, true, false, false, false, false, false, false] rfl rfl rfl (by kernel_rfl) (fun _ _ _ h => h) hS0 (by rfl) (fun W hX => by have s0 := (hW2.ext hX).at 0 (u := .int .i64 (r : Int)) rfl; have s1 := (hW2.ext hX).at 1 (u := .int .i64 (c : Int)) rfl; have s2 := (hW2.ext hX).at 2 (u := .slice (some ⟨g, 0, none⟩) (r * c) k) rfl; have s3 := (hW2.ext hX).at 3 (u := .int .i64 (l : Int)) rfl; go_simp) ?_
    simp only [Act.put, List.setIfInBounds_toArray, List.set_cons_zero, List.set_cons_succ]
    refine wpAnyT_take 4 (some 25) (.pointer (some ⟨gr, 0, none⟩)) #[true, true, true, true, true, false, false, false, false, false] rfl rfl rfl (by kernel_rfl) (fun _ _ _ h => h) hS0 (by rfl) (fun W hX => by go_simp) ?_
    simp only [Act.put, List.setIfInBounds_toArray, List.set_cons_zero, List.set_cons_succ]
    refine wpAnyT_take 5 (some 26) (.pointer (some ⟨gr, 0, none⟩)) #[true, true, true, true, true, true, false, false, false, false] rfl rfl rfl (by kernel_rfl) (fun _ _ _ h => h) hS0 (by rfl) (fun W hX => by go_simp) ?_
    simp only [Act.put, List.setIfInBounds_toArray, List.set_cons_zero, List.set_cons_succ]
    refine wpAnyT_take 6 (some 27) (.pointer (some ⟨gr, 3, none⟩)) #[true, true, true, true, true, true, true, false, false, false] rfl rfl rfl (by kernel_rfl) (fun _ _ _ h => h) hS0 (by rfl) (fun W hX => by go_simp) ?_
    simp only [Act.put, List.setIfInBounds_toArray, List.set_cons_zero, List.set_cons_succ]
    refine wpAnyT_take 7 (some 28) (.int .i64 (l : Int)) #[true, true, true, true, true, true, true, true, false, false] rfl rfl rfl (by kernel_rfl) (fun _ _ _ h => h) hS0 (by rfl) (fun W hX => by have s0 := (hW2.ext hX).at 0 (u := .int .i64 (r : Int)) rfl; have s1 := (hW2.ext hX).at 1 (u := .int .i64 (c : Int)) rfl; have s2 := (hW2.ext hX).at 2 (u := .slice (some ⟨g, 0, none⟩) (r * c) k) rfl; have s3 := (hW2.ext hX).at 3 (u := .int .i64 (l : Int)) rfl; go_simp) ?_
    simp only [Act.put, List.setIfInBounds_toArray, List.set_cons_zero, List.set_cons_succ]
    refine wpAnyT_take 8 (some 29) (.int .i64 (p : Int)) #[true, true, true, true, true, true, true, true, true, false] rfl rfl rfl (by kernel_rfl) (fun _ _ _ h => h) hS0 (by rfl) (fun W hX => by go_simp) ?_
    simp only [Act.put, List.setIfInBounds_toArray, List.set_cons_zero, List.set_cons_succ]
    refine wpAnyT_only 9 #[true, true, true, true, true, true, true, true, true, true] (by kernel_rfl) rfl rfl (by rfl) (fun K0 hK0 => ?_)
    go_simp
    go_at_call 97
    refine (CS _ (HR.out.2.1.ext (hE2.trans hS0))).mono ?_
    rintro e w3 ⟨rfl, hM3, hG3⟩
    refine hK0 _ _ (fun h => absurd h (by decide)) (wpAnyT_done (by kernel_rfl) ?_ _)
    clear hK0 K0
    have hW3 := (hW2.ext hS0).grown hG3 hgr
    have hF3 : Mod w w3 g (some gr) := (Mod.ofExt (hE2.trans hS0)).trans (Mod.ofRow (ob := some gr) hG3) (NewOb.same _ _)
    have CR := fun W => row_any' r l c k (r * c) (some ⟨g, 0, none⟩) (by omega) hc (Nat.le_trans (Nat.mul_le_mul_right _ hlr) hkk) W
    unfold matV at CR
    clear hS0 hG3 CS hW2
    go_wp2_with fail
    refine wp_region_T (fun W => Ext w3 W) 10 11 #[false, false, false, false, false, false, false, false, false, false, false] (by kernel_rfl) rfl rfl (Ext.refl w3).drew ?_
    intro hS0
    refine wpAnyT_take 0 (some 31) (.pointer (some ⟨gr, 0, none⟩)) #[true, false, false, false, false, false, false, false, false, false, false] rfl rfl rfl (by kernel_rfl) (fun _ _ _ h => h) hS0 (by rfl) (fun W hX => by go_simp) ?_
    simp only [Act.put, List.setIfInBounds_toArray, List.set_cons_zero, List.set_cons_succ]
    refine wpAnyT_take 1 (some 32) (.pointer (some ⟨gr, 0, none⟩)) #[true, true, false, false, false, false, false, false, false, false, false] rfl rfl rfl (by kernel_rfl) (fun _ _ _ h => h) hS0 (by rfl) (fun W hX => by go_simp) ?_
    simp only [Act.put, List.setIfInBounds_toArray, List.set_cons_zero, List.set_cons_succ]
    refine wpAnyT_take 2 (some 33) (.pointer (some ⟨gr, 0, none⟩)) #[true, true, true, false, false, false, false, false, false, false, false] rfl rfl rfl (by kernel_rfl) (fun _ _ _ h => h) hS0 (by rfl) (fun W hX => by go_simp) ?_
    simp only [Act.put, List.setIfInBounds_toArray, List.set_cons_zero, List.set_cons_succ]
    refine wpAnyT_take 3 (some 34) (.pointer (some ⟨gr, 0, none⟩)) #[true, true, true, true, false, false, false, false, false, false, false] rfl rfl rfl (by kernel_rfl) (fun _ _ _ h => h) hS0 (by rfl) (fun W hX => by go_simp) ?_
    simp only [Act.put, List.setIfInBounds_toArray, List.set_cons_zero, List.set_cons_succ]
    refine wpAnyT_take 4 (some 35) (.agg #[.int .i64 (r : Int), .int .i64 (c : Int), .slice (some ⟨g, 0, none⟩) (r * c) k]) #[true, true, true, true, true, false, false, false, false, false, false] rfl rfl rfl (by kernel_rfl) (fun _ _ _ h => h) hS0 (by rfl) (fun W hX => by have s0 := (hW3.ext hX).at 0 (u := .int .i64 (r : Int)) rfl; have s1 := (hW3.ext hX).at 1 (u := .int .i64 (c : Int)) rfl; have s2 := (hW3.ext hX).at 2 (u := .slice (some ⟨g, 0, none⟩) (r * c) k) rfl; have s3 := (hW3.ext hX).at 3 (u := .int .i64 (l : Int)) rfl; go_simp) ?_
    simp only [Act.put, List.setIfInBounds_toArray, List.set_cons_zero, List.set_cons_succ]
    refine wpAnyT_take 5 (some 36) (.pointer (some ⟨gr, 0, none⟩)) #[true, true, true, true, true, true, false, false, false, false, false] rfl rfl rfl (by kernel_rfl) (fun _ _ _ h => h) hS0 (by rfl) (fun W hX => by go_simp) ?_
    simp only [Act.put, List.setIfInBounds_toArray, List.set_cons_zero, List.set_cons_succ]
    refine wpAnyT_take 6 (some 37) (.pointer (some ⟨gr, 0, none⟩)) #[true, true, true, true, true, true, true, false, false, false, false] rfl rfl rfl (by kernel_rfl) (fun _ _ _ h => h) hS0 (by rfl) (fun W hX => by go_simp) ?_
    simp only [Act.put, List.setIfInBounds_toArray, List.set_cons_zero, List.set_cons_succ]
    refine wpAnyT_take 7 (some 38) (.pointer (some ⟨gr, 3, none⟩)) #[true, true, true, true, true, true, true, true, false, false, false] rfl rfl rfl (by kernel_rfl) (fun _ _ _ h => h) hS0 (by rfl) (fun W hX => by go_simp) ?_
    simp only [Act.put, List.setIfInBounds_toArray, List.set_cons_zero, List.set_cons_succ]
    refine wpAnyT_take 8 (some 39) (.int .i64 (l : Int)) #[true, true, true, true, true, true, true, true, true, false, false] rfl rfl rfl (by kernel_rfl) (fun _ _ _ h => h) hS0 (by rfl) (fun W hX => by have s0 := (hW3.ext hX).at 0 (u := .int .i64 (r : Int)) rfl; have s1 := (hW3.ext hX).at 1 (u := .int .i64 (c : Int)) rfl; have s2 := (hW3.ext hX).at 2 (u := .slice (some ⟨g, 0, none⟩) (r * c) k) rfl; have s3 := (hW3.ext hX).at 3 (u := .int .i64 (l : Int)) rfl; go_simp) ?_
    simp only [Act.put, List.setIfInBounds_toArray, List.set_cons_zero, List.set_cons_succ]
    refine wpAnyT_only 9 #[true, true, true, true, true, true, true, true, true, true, false] (by kernel_rfl) rfl rfl (by rfl) (fun K0 hK0 => ?_)
    go_simp
    go_at_call 63
    refine (CR _).mono ?_
    rintro e wc0 ⟨rfl, hC0⟩
    have hX0 := hS0.trans hC0
    refine hK0 _ _ (fun _ => hX0) ?_
    clear hK0 K0
    refine wpAnyT_only 10 #[true, true, true, true, true, true, true, true, true, true, true] (by kernel_rfl) rfl rfl (by rfl) (fun K1 hK1 => ?_)
    go_simp
    refine hK1 _ _ (fun h => absurd h (by decide)) (wpAnyT_done (by kernel_rfl) ?_ _)
    clear hK1 K1
    have hW4 := hW3.ext hX0
    have hM4 := hM3.ext hX0
    have hF4 := hF3.trans (Mod.ofExt (g := g) (ob := some gr) hX0) (NewOb.same _ _)
    obtain ⟨p1, p2'⟩ := row_place hlr (by omega : 0 < c)
    have p2 : k ≠ l * c := by omega
    rw [cutAt_zero p2] at *
    have k1 := (hM4.1.cell (i := l * c + col) (by rw [cellsOf_len]; omega)).1
    rw [cells_at hcol (by omega), show Mat.sw l p l = p from if_pos rfl] at k1
    have CI := fun W => inv_any (F p col).toNat W (Mat.lt _)
    rw [inv_byte hne] at CI
    have CC := fun W (hM : OwnM W base g r c k fun a b => F (Mat.sw l p a) b) => wscale_any hr hc hlr (Mat.lt (Mat.fi (F p col))) hM
    have HL := hide (show (fun a b => if a = l then Mat.fm (UInt8.ofNat (Mat.fi (F p col)).toNat) (F (Mat.sw l p a) b) else F (Mat.sw l p a) b) = leadS l p col F by rw [UInt8.ofNat_toNat]; rfl)
    rw [HL.out] at CC
    clear HL hne CR
    have hic : (0 : Int) ≤ (col : Int) := by omega
    have hic2 : (col : Int) < (c : Int) := by omega
    unfold ownV matV at CC
    generalize (Mat.fi (F p col)).toNat = xi at *
    generalize (F p col).toNat = xp at *
    obtain ⟨F2, hF2⟩ : ∃ F2, F2 = leadS l p col F := ⟨_, rfl⟩
    rw [← hF2] at CC
    have HF2 := hide hF2
    clear hF2
    go_wp2_with fail
    refine (CI _).mono ?_
    rintro e w5 ⟨rfl, hE5⟩
    have hW5 := hW4.ext hE5
    have hM5 := hM4.ext hE5
    have hF5 := hF4.trans (Mod.ofExt (g := g) (ob := some gr) hE5) (NewOb.same _ _)
    clear hE5 hX0 k1
    go_wp2_with fail
    refine wp_region_T (fun W => Ext w5 W) 9 10 #[false, false, false, false, false, false, false, false, false, false] (by kernel_rfl) rfl rfl (Ext.refl w5).drew ?_
    intro hS0
    refine wpAnyT_take 0 (some 49) (.pointer (some ⟨gr, 0, none⟩)) #[true, false, false, false, false, false, false, false, false, false] rfl rfl rfl (by kernel_rfl) (fun _ _ _ h => h) hS0 (by rfl) (fun W hX => by go_simp) ?_
    simp only [Act.put, List.setIfInBounds_toArray, List.set_cons_zero, List.set_cons_succ]
    refine wpAnyT_take 1 (some 50) (.pointer (some ⟨gr, 0, none⟩)) #[true, true, false, false, false, false, false, false, false, false] rfl rfl rfl (by kernel_rfl) (fun _ _ _ h => h) hS0 (by rfl) (fun W hX => by go_simp) ?_
    simp only [Act.put, List.setIfInBounds_toArray, List.set_cons_zero, List.set_cons_succ]
    refine wpAnyT_take 2 (some 51) (.pointer (some ⟨gr, 0, none⟩)) #[true, true, true, false, false, false, false, false, false, false] rfl rfl rfl (by kernel_rfl) (fun _ _ _ h => h) hS0 (by rfl) (fun W hX => by go_simp) ?_
    simp only [Act.put, List.setIfInBounds_toArray, List.set_cons_zero, List.set_cons_succ]
    refine wpAnyT_take 3 (some 52) (.agg #[.int .i64 (r : Int), .int .i64 (c : Int), .slice (some ⟨g, 0, none⟩) (r * c) k]) #[true, true, true, true, false, false, false, false, false, false] rfl rfl rfl (by kernel_rfl) (fun _ _ _ h => h) hS0 (by rfl) (fun W hX => by have s0 := (hW5.ext hX).at 0 (u := .int .i64 (r : Int)) rfl; have s1 := (hW5.ext hX).at 1 (u := .int .i64 (c : Int)) rfl; have s2 := (hW5.ext hX).at 2 (u := .slice (some ⟨g, 0, none⟩) (r * c) k) rfl; have s3 := (hW5.ext hX).at 3 (u := .int .i64 (l : Int)) rfl; go_simp) ?_
    simp only [Act.put, List.setIfInBounds_toArray, List.set_cons_zero, List.set_cons_succ]
    refine wpAnyT_take 4 (some 53) (.pointer (some ⟨gr, 0, none⟩)) #[true, true, true, true, true, false, false, false, false, false] rfl rfl rfl (by kernel_rfl) (fun _ _ _ h => h) hS0 (by rfl) (fun W hX => by go_simp) ?_
    simp only [Act.put, List.setIfInBounds_toArray, List.set_cons_zero, List.set_cons_succ]
    refine wpAnyT_take 5 (some 54) (.pointer (some ⟨gr, 0, none⟩)) #[true, true, true, true, true, true, false, false, false, false] rfl rfl rfl (by kernel_rfl) (fun _ _ _ h => h) hS0 (by rfl) (fun W hX => by go_simp) ?_
    simp only [Act.put, List.setIfInBounds_toArray, List.set_cons_zero, List.set_cons_succ]
    refine wpAnyT_take 6 (some 55) (.pointer (some ⟨gr, 3, none⟩)) #[true, true, true, true, true, true, true, false, false, false] rfl rfl rfl (by kernel_rfl) (fun _ _ _ h => h) hS0 (by rfl) (fun W hX => by go_simp) ?_
    simp only [Act.put, List.setIfInBounds_toArray, List.set_cons_zero, List.set_cons_succ]
    refine wpAnyT_take 7 (some 56) (.int .i64 (l : Int)) #[true, true, true, true, true, true, true, true, false, false] rfl rfl rfl (by kernel_rfl) (fun _ _ _ h => h) hS0 (by rfl) (fun W hX => by have s0 := (hW5.ext hX).at 0 (u := .int .i64 (r : Int)) rfl; have s1 := (hW5.ext hX).at 1 (u := .int .i64 (c : Int)) rfl; have s2 := (hW5.ext hX).at 2 (u := .slice (some ⟨g, 0, none⟩) (r * c) k) rfl; have s3 := (hW5.ext hX).at 3 (u := .int .i64 (l : Int)) rfl; go_simp) ?_
    simp only [Act.put, List.setIfInBounds_toArray, List.set_cons_zero, List.set_cons_succ]
    refine wpAnyT_take 8 (some 57) (.int .u8 (xi : Int)) #[true, true, true, true, true, true, true, true, true, false] rfl rfl rfl (by kernel_rfl) (fun _ _ _ h => h) hS0 (by rfl) (fun W hX => by go_simp) ?_
    simp only [Act.put, List.setIfInBounds_toArray, List.set_cons_zero, List.set_cons_succ]
    refine wpAnyT_only 9 #[true, true, true, true, true, true, true, true, true, true] (by kernel_rfl) rfl rfl (by rfl) (fun K0 hK0 => ?_)
    go_simp
    go_at_call 98
    refine (CC _ (hM5.ext hS0)).mono ?_
    rintro e w6 ⟨rfl, hM6, hG6⟩
    refine hK0 _ _ (fun h => absurd h (by decide)) (wpAnyT_done (by kernel_rfl) ?_ _)
    clear hK0 K0
    have hW6 := (hW5.ext hS0).grown hG6 hgr
    have hF6 := (hF5.trans (Mod.ofExt (g := g) (ob := some gr) hS0) (NewOb.same _ _)).trans (Mod.ofRow (ob := some gr) hG6) (NewOb.same _ _)
    have d0 := hW6.at 0 (u := .int .i64 (r : Int)) rfl
    have hp2 : k ≠ l * c := p2
    clear hS0 hG6 CC CI hW5 hM5 hF5 hW4 hM4 hF4 hW3 hM3 hF3
    go_wp2_with fail
    go_loopw [65] (fun x wq => ∃ j : Nat, j ≤ r ∧ x = .int .i64 (j : Int) ∧ OwnM wq base g r c k (clearTo l col j F2) ∧ Whole wq gr 130 #[.int .i64 (r : Int), .int .i64 (c : Int), .slice (some ⟨g, 0, none⟩) (r * c) k, .int .i64 (l : Int)] ∧ Mod w wq g (some gr)) (fun x _ => r - (intOf x).toNat)
    case atStart => exact ⟨0, by omega, rfl, by rw [clearTo_none]; exact hM6, hW6, hF6⟩
    case round =>
      obtain ⟨i, hi, rfl, hMi, hWi, hFi⟩ := hrel
      have d0 := hWi.at 0 (u := .int .i64 (r : Int)) rfl
      have d3 := hWi.at 3 (u := .int .i64 (l : Int)) rfl
      by_cases hlt : i < r
      · by_cases hil : i = l
        · subst hil
          have hne1 : ((i : Int) != (i : Int)) = false := by simp
          go_wp2
          go_roundw
          case rel => exact ⟨i + 1, by omega, by go_num, by rw [← clearTo_same]; exact hMi, hWi, hFi⟩
          case measure => simp [intOf]; omega
        · have hne1 : ((i : Int) != (l : Int)) = true := by simp; omega
          have CR := fun W => row_any' r i c k (r * c) (some ⟨g, 0, none⟩) (by omega) hc (Nat.le_trans (Nat.mul_le_mul_right _ hlt) hkk) W
          obtain ⟨q1, q2⟩ := row_place hlt (by omega : 0 < c)
          rw [cutAt_zero (by omega)] at CR
          unfold matV at CR
          have KC := hide (show ∀ W, Ext wr W → W.cell? ⟨g, i * c + col, none⟩ = some (.int .u8 ((F2 i col).toNat : Int)) from fun W hX => by
            have := ((hMi.ext hX).1.cell (i := i * c + col) (by rw [cellsOf_len]; omega)).1
            rw [cells_at hcol (by omega), clearTo_at] at this
            exact this)
          have CA := fun W hM hB => wadd_any (w := W) (base := base) (g := g) (r := r) (c := c) (k := k) (i := i) (x := (F2 i col).toNat) (F := clearTo l col i F2) (A := some ⟨g, l * c, none⟩) (ks := k - l * c) (f := F2 l) hr hc hlt (Mat.lt _) hM hB
          rw [UInt8.ofNat_toNat, clearTo_step hil] at CA
          unfold ownV matV at CA
          have KB := hide (show ∀ W, Ext wr W → Bytes W W.heap.size (some ⟨g, l * c, none⟩) c (rowB c (F2 l)) from fun W hX => by
            have := ownRow (hMi.ext hX).1 rfl hkk hlr
            rw [cutAt_zero hp2, clearTo_lead] at this
            exact this)
          generalize F2 i col = bt at *
          clear d0
          go_wp2_with fail
          refine wp_region_T (fun W => Ext wr W) 16 17 #[false, false, false, false, false, false, false, false, false, false, false, false, false, false, false, false, false] (by kernel_rfl) rfl rfl (Ext.refl wr).drew ?_
          intro hS0
          refine wpAnyT_take 0 (some 74) (.pointer (some ⟨gr, 0, none⟩)) #[true, false, false, false, false, false, false, false, false, false, false, false, false, false, false, false, false] rfl rfl rfl (by kernel_rfl) (fun _ _ _ h => h) hS0 (by rfl) (fun W hX => by go_simp) ?_
          simp only [Act.put, List.setIfInBounds_toArray, List.set_cons_zero, List.set_cons_succ]
          refine wpAnyT_take 1 (some 75) (.pointer (some ⟨gr, 0, none⟩)) #[true, true, false, false, false, false, false, false, false, false, false, false, false, false, false, false, false] rfl rfl rfl (by kernel_rfl) (fun _ _ _ h => h) hS0 (by rfl) (fun W hX => by go_simp) ?_
          simp only [Act.put, List.setIfInBounds_toArray, List.set_cons_zero, List.set_cons_succ]
          refine wpAnyT_take 2 (some 76) (.pointer (some ⟨gr, 0, none⟩)) #[true, true, true, false, false, false, false, false, false, false, false, false, false, false, false, false, false] rfl rfl rfl (by kernel_rfl) (fun _ _ _ h => h) hS0 (by rfl) (fun W hX => by go_simp) ?_
          simp only [Act.put, List.setIfInBounds_toArray, List.set_cons_zero, List.set_cons_succ]
          refine wpAnyT_take 3 (some 77) (.agg #[.int .i64 (r : Int), .int .i64 (c : Int), .slice (some ⟨g, 0, none⟩) (r * c) k]) #[true, true, true, true, false, false, false, false, false, false, false, false, false, false, false, false, false] rfl rfl rfl (by kernel_rfl) (fun _ _ _ h => h) hS0 (by rfl) (fun W hX => by have s0 := (hWi.ext hX).at 0 (u := .int .i64 (r : Int)) rfl; have s1 := (hWi.ext hX).at 1 (u := .int .i64 (c : Int)) rfl; have s2 := (hWi.ext hX).at 2 (u := .slice (some ⟨g, 0, none⟩) (r * c) k) rfl; have s3 := (hWi.ext hX).at 3 (u := .int .i64 (l : Int)) rfl; go_simp) ?_
          simp only [Act.put, List.setIfInBounds_toArray, List.set_cons_zero, List.set_cons_succ]
          refine wpAnyT_take 4 (some 78) (.int .i64 (i : Int)) #[true, true, true, true, true, false, false, false, false, false, false, false, false, false, false, false, false] rfl rfl rfl (by kernel_rfl) (fun _ _ _ h => h) hS0 (by rfl) (fun W hX => by go_simp) ?_
          simp only [Act.put, List.setIfInBounds_toArray, List.set_cons_zero, List.set_cons_succ]
          refine wpAnyT_take 5 (some 79) (.pointer (some ⟨gr, 0, none⟩)) #[true, true, true, true, true, true, false, false, false, false, false, false, false, false, false, false, false] rfl rfl rfl (by kernel_rfl) (fun _ _ _ h => h) hS0 (by rfl) (fun W hX => by go_simp) ?_
          simp only [Act.put, List.setIfInBounds_toArray, List.set_cons_zero, List.set_cons_succ]
          refine wpAnyT_take 6 (some 80) (.pointer (some ⟨gr, 0, none⟩)) #[true, true, true, true, true, true, true, false, false, false, false, false, false, false, false, false, false] rfl rfl rfl (by kernel_rfl) (fun _ _ _ h => h) hS0 (by rfl) (fun W hX => by go_simp) ?_
          simp only [Act.put, List.setIfInBounds_toArray, List.set_cons_zero, List.set_cons_succ]
          refine wpAnyT_take 7 (some 81) (.pointer (some ⟨gr, 0, none⟩)) #[true, true, true, true, true, true, true, true, false, false, false, false, false, false, false, false, false] rfl rfl rfl (by kernel_rfl) (fun _ _ _ h => h) hS0 (by rfl) (fun W hX => by go_simp) ?_
          simp only [Act.put, List.setIfInBounds_toArray, List.set_cons_zero, List.set_cons_succ]
          refine wpAnyT_take 8 (some 82) (.pointer (some ⟨gr, 0, none⟩)) #[true, true, true, true, true, true, true, true, true, false, false, false, false, false, false, false, false] rfl rfl rfl (by kernel_rfl) (fun _ _ _ h => h) hS0 (by rfl) (fun W hX => by go_simp) ?_
          simp only [Act.put, List.setIfInBounds_toArray, List.set_cons_zero, List.set_cons_succ]
          refine wpAnyT_take 9 (some 83) (.agg #[.int .i64 (r : Int), .int .i64 (c : Int), .slice (some ⟨g, 0, none⟩) (r * c) k]) #[true, true, true, true, true, true, true, true, true, true, false, false, false, false, false, false, false] rfl rfl rfl (by kernel_rfl) (fun _ _ _ h => h) hS0 (by rfl) (fun W hX => by have s0 := (hWi.ext hX).at 0 (u := .int .i64 (r : Int)) rfl; have s1 := (hWi.ext hX).at 1 (u := .int .i64 (c : Int)) rfl; have s2 := (hWi.ext hX).at 2 (u := .slice (some ⟨g, 0, none⟩) (r * c) k) rfl; have s3 := (hWi.ext hX).at 3 (u := .int .i64 (l : Int)) rfl; go_simp) ?_
          simp only [Act.put, List.setIfInBounds_toArray, List.set_cons_zero, List.set_cons_succ]
          refine wpAnyT_take 10 (some 84) (.int .i64 (i : Int)) #[true, true, true, true, true, true, true, true, true, true, true, false, false, false, false, false, false] rfl rfl rfl (by kernel_rfl) (fun _ _ _ h => h) hS0 (by rfl) (fun W hX => by go_simp) ?_
          simp only [Act.put, List.setIfInBounds_toArray, List.set_cons_zero, List.set_cons_succ]
          refine wpAnyT_take 12 (some 86) (.int .i64 (col : Int)) #[true, true, true, true, true, true, true, true, true, true, true, false, true, false, false, false, false] rfl rfl rfl (by kernel_rfl) (fun _ _ _ h => h) hS0 (by rfl) (fun W hX => by go_simp) ?_
          simp only [Act.put, List.setIfInBounds_toArray, List.set_cons_zero, List.set_cons_succ]
          refine wpAnyT_take 15 (some 89) (.slice (some ⟨g, l * c, none⟩) c (k - l * c)) #[true, true, true, true, true, true, true, true, true, true, true, false, true, false, false, true, false] rfl rfl rfl (by kernel_rfl) (fun _ _ _ h => h) hS0 (by rfl) (fun W hX => by go_simp) ?_
          simp only [Act.put, List.setIfInBounds_toArray, List.set_cons_zero, List.set_cons_succ]
          refine wpAnyT_only 11 #[true, true, true, true, true, true, true, true, true, true, true, true, true, false, false, true, false] (by kernel_rfl) rfl rfl (by rfl) (fun K0 hK0 => ?_)
          go_simp
          go_at_call 63
          refine (CR _).mono ?_
          rintro e wc0 ⟨rfl, hC0⟩
          have hX0 := hS0.trans hC0
          refine hK0 _ _ (fun _ => hX0) ?_
          clear hK0 K0
          refine wpAnyT_take 13 (some 87) (.pointer (some ⟨g, i * c + col, none⟩)) #[true, true, true, true, true, true, true, true, true, true, true, true, true, true, false, true, false] rfl rfl rfl (by kernel_rfl) (fun _ _ _ h => h) hX0 (by rfl) (fun W hX => by go_simp) ?_
          simp only [Act.put, List.setIfInBounds_toArray, List.set_cons_zero, List.set_cons_succ]
          refine wpAnyT_take 14 (some 88) (.int .u8 (bt.toNat : Int)) #[true, true, true, true, true, true, true, true, true, true, true, true, true, true, true, true, false] rfl rfl rfl (by kernel_rfl) (fun _ _ _ h => h) hX0 (by rfl) (fun W hX => by have s0 := KC.out W hX; go_simp) ?_
          simp only [Act.put, List.setIfInBounds_toArray, List.set_cons_zero, List.set_cons_succ]
          refine wpAnyT_only 16 #[true, true, true, true, true, true, true, true, true, true, true, true, true, true, true, true, true] (by kernel_rfl) rfl rfl (by rfl) (fun K1 hK1 => ?_)
          go_simp
          go_at_call 99
          refine (CA _ (hMi.ext hX0) (KB.out _ hX0)).mono ?_
          rintro e w8 ⟨rfl, hM8, hG8⟩
          refine hK1 _ _ (fun h => absurd h (by decide)) (wpAnyT_done (by kernel_rfl) ?_ _)
          clear hK1 K1
          have hW8 := (hWi.ext hX0).grown hG8 hgr
          have hF8 := (hFi.trans (Mod.ofExt (g := g) (ob := some gr) hX0) (NewOb.same _ _)).trans (Mod.ofRow (ob := some gr) hG8) (NewOb.same _ _)
          go_wp2
          go_roundw
          case rel => exact ⟨i + 1, by omega, by go_num, hM8, hW8, hF8⟩
          case measure => simp [intOf]; omega
      · obtain rfl : i = r := by omega
        have hl1 : (l : Int) ≤ 255 := by omega
        go_wp2_with (refine wpList_storeC rfl 3 (.tmp 98) (.tmp 96) rfl #[.int .i64 (i : Int), .int .i64 (c : Int), .slice (some ⟨g, 0, none⟩) (i * c) k, .int .i64 ((l : Int) + 1)] rfl rfl hWi (by simp) (by kernel_rfl) rfl rfl rfl ?_; intro w9 hW9 hG9)
        go_ret
        have hF9 := hFi.trans (Mod.ofOwn (g := g) hG9) (NewOb.same _ _)
        have hM9 : OwnM w9 base g i c k (clearTo l col i F2) := ⟨(Mod.ofRow (ob := none) hG9).own hMi.1 (by simp [Value.ownBlock]; exact fun e => hgr e.symm) (by simp [Classical.em]), hMi.2.1, Nat.lt_of_lt_of_le hMi.2.2.1 hG9.size, hkk⟩
        rw [HF2.out] at hM9
        exact .inr ⟨rfl, p, hlp, hpr', HZ.out, HNZ.out, ⟨hW9, hM9, HR.out.2.2⟩, hF9⟩
end Go.Proofs.YtkfipfhmbhmamaaDoor

namespace Go.Proofs.YtkfipfhmbhmamaaDoor
open Go.RowKit

/-- One column more is cleared. -/
theorem inner_lead {n i p : Nat} {A F : Mat.M} (h : Mat.Inner n i A F) (hi : i < n) (hip : i ≤ p) (hp : p < n) (h0 : F p i ≠ 0) : Mat.Inner n (i + 1) A (clearTo i i n (leadS i p i F)) := by
  have h1 := h.swap hi hp hip
  have hs : Mat.sw i p i = p := if_pos rfl
  have h2 := h1.scale (by show F (Mat.sw i p i) i ≠ 0; rw [hs]; exact h0)
  have e : (fun a b => if a = i then Mat.fm ((fun a => F (Mat.sw i p a)) a b) (Mat.fi ((fun a => F (Mat.sw i p a)) i i)) else (fun a => F (Mat.sw i p a)) a b) = leadS i p i F := by
    funext a b
    unfold leadS
    dsimp only
    rw [hs, Mat.fm_comm]
  rw [e] at h2
  obtain ⟨h2, h3⟩ := h2
  have h4 : leadS i p i F i i = 1 := by
    unfold leadS
    rw [if_pos rfl, hs, Mat.fi_fm h0]
  clear e h1 h3
  generalize leadS i p i F = G at *
  have key : ∀ k, k ≤ n → Mat.Inner n i A (clearTo i i k G) ∧ ∀ a, a < k → clearTo i i k G a i = Mat.one a i := by
    intro k
    induction k with
    | zero => intro _; rw [clearTo_none]; exact ⟨h2, fun a ha => absurd ha (by omega)⟩
    | succ k ih =>
      intro hk
      obtain ⟨q1, q2⟩ := ih (by omega)
      by_cases hki : k = i
      · subst hki
        rw [← clearTo_same]
        refine ⟨q1, fun a ha => ?_⟩
        by_cases h5 : a < k
        · exact q2 a h5
        · obtain rfl : a = k := by omega
          rw [clearTo_lead, h4]
          unfold Mat.one
          rw [if_pos rfl]
      · have q3 := q1.add hi (by rw [clearTo_lead]; exact h4) hki q2
        rw [clearTo_at, clearTo_lead] at q3
        have e2 := clearTo_step (col := i) (F := G) hki
        rw [e2] at q3
        refine ⟨q3.1, fun a ha => ?_⟩
        have := q3.2.2 a ha
        rw [← this, ← e2]
  obtain ⟨k1, k2⟩ := key n (Nat.le_refl _)
  exact k1.next k2

theorem red_info : (Tryd.prog.info? 130).map (·.size) = some 4 := by kernel_rfl

theorem red_one {r c l : Int} {v : Value} (h : v.oneCell' = true) : (#[.int .i64 r, .int .i64 c, v, .int .i64 l] : Array Value).all (·.oneCell') = true := by
  simp [h]
  exact ⟨rfl, rfl, rfl⟩

set_option maxHeartbeats 4000000 in
set_option maxRecDepth 100000 in
theorem matInverse_any (m : MV) (A : Option Addr) (k : Nat) (w : World) (hm : m.lies w A k) :
    Calls Tryd.prog 88 #[m.arg A k] w (MadeM w m.invE.1 m.invE.2) := by
  have M1 := fun W => matMay_any m A k W hm.2.1
  have hE1 := extNew w (.cells #[.int .i64 m.r, .int .i64 m.c, .slice A m.l.length k] 76)
  have hE2 := extNew (w.alloc (.cells #[.int .i64 m.r, .int .i64 m.c, .slice A m.l.length k] 76)) (.cells #[.int .i64 0, .int .i64 0, .slice none 0 0] 76)
  have hWa := (Whole.new w 76 #[.int .i64 m.r, .int .i64 m.c, .slice A m.l.length k]).ext hE2
  have hWr := Whole.new (w.alloc (.cells #[.int .i64 m.r, .int .i64 m.c, .slice A m.l.length k] 76)) 76 #[.int .i64 0, .int .i64 0, .slice none 0 0]
  have hE := hE1.trans hE2
  rw [World.size_alloc] at hWr
  clear hE1 hE2
  unfold MV.arg at M1 ⊢
  by_cases hmay : m.may = true
  · rw [hmay] at M1
    by_cases hrc : m.r = m.c
    · have HI := hide (fun (n : Nat) (hr : m.r = n) (v : Nat → UInt8) hv => MV.invE_flat (n := n) hmay hr (by rw [← hrc]; exact hr) (v := v) hv)
      have HV := hide (fun (X : Mat.M) hX => MV.invE_of hmay hrc (X := X) hX)
      obtain ⟨q1, q2, q3, q4, q5⟩ := MV.may_iff.1 hmay
      have HF := hide (show ∀ i j, m.at i j = m.l.getD (i * m.c.toNat + j) 0 from fun _ _ => rfl)
      generalize m.invE = res at *
      generalize m.at = fa at *
      clear hmay
      obtain ⟨mr, mc, ml⟩ := m
      dsimp only at *
      subst hrc
      obtain ⟨n, rfl⟩ := Int.eq_ofNat_of_zero_le q1
      simp only [Int.toNat_natCast] at *
      have hn : n ≤ 255 := by omega
      have ml5 : ml.length = n * n := by omega
      have CB := fun W (hX : Ext w W) => beside_any (n := n) (k := k) (A := A) (l := ml) (fa := fa) (w := W) hn hm.2.2 ml5 (hX.bytes hm.1) HF.out
      have hne : ((n : Int) != (n : Int)) = false := by simp
      obtain ⟨c2, hc2⟩ : ∃ c2, c2 = 2 * n := ⟨_, rfl⟩
      rw [← hc2] at CB
      have hcb : c2 ≤ 510 := by omega
      have hcn : n ≤ c2 := by omega
      have HC2 := hide hc2
      unfold ownV matV at CB
      clear q1 q2 q3 q4 q5 ml5 hm HF hc2
      go_enter Tryd.func88, Tryd.ntmps88
      go_wp2_with (refine wpList_load_row rfl 76 (.tmp 6) rfl _ rfl _ _ _ _ hWa Tryd.underlying76 rfl mat_info ?_)
      refine (M1 _).mono ?_
      rintro e w2 ⟨rfl, hF2⟩
      have hE2 := hE.trans hF2
      have hWa2 := hWa.ext hF2
      have hWr2 := hWr.ext hF2
      have d0 := hWa2.at 0 (u := .int .i64 (n : Int)) rfl
      have d1 := hWa2.at 1 (u := .int .i64 (n : Int)) rfl
      clear M1 hF2 hWa hWr hE
      go_wp2_with (refine wpList_load_row rfl 76 (.tmp 1) rfl _ rfl _ _ _ _ hWa2 Tryd.underlying76 rfl mat_info ?_)
      refine (CB _ hE2).mono ?_
      rintro e w3 ⟨g, rfl, hM3, hF3⟩
      have hE3 := hE2.trans hF3
      have hW2 := Whole.new w3 130 #[.int .i64 0, .int .i64 0, .slice none 0 0, .int .i64 0]
      have hE4 := extNew w3 (.cells #[.int .i64 0, .int .i64 0, .slice none 0 0, .int .i64 0] 130)
      have hbase : w.heap.size + 1 < w2.heap.size := hWr2.lt
      have hgl := hM3.2.2.1
      have hgb := hM3.2.1
      go_wp2_with (refine wpList_storeW rfl 130 (.tmp 4) (.tmp 19) rfl rfl rfl hW2 rfl red_info (red_one rfl) ?_; intro w5 hW5 hG5 _; have hWa5 := (((hWa2.ext hF3).ext hE4).grown hG5 (by have := (hWa2.ext hF3).lt; omega)); have d15 := hWa5.at 1 (u := .int .i64 (n : Int)) rfl)
      have hWr5 := ((hWr2.ext hF3).ext hE4).grown hG5 (by have := (hWr2.ext hF3).lt; omega)
      have hE5 : Ext w w5 := Below.grown (hE3.trans hE4) hG5 (hE3.trans hE4).le (fun k hk => by cases hk; exact hE3.le)
      have hM5 : OwnM w5 w2.heap.size g n c2 (n * c2) (Mat.both n fa) := ⟨(Mod.ofRow (ob := none) hG5).own (hM3.1.ext hE4) (by simp [Value.ownBlock]; omega) (by simp [Classical.em]), hgb, by have := hE4.le; have := hG5.size; omega, Nat.le_refl _⟩
      obtain ⟨gr, hgr⟩ : ∃ gr, gr = w3.heap.size := ⟨_, rfl⟩
      rw [← hgr] at hW5 ⊢
      have hgrg : gr ≠ g := by omega
      have hgrb : w2.heap.size ≤ gr := by have := hF3.le; omega
      have hR5 : Red w5 gr g w2.heap.size n c2 (n * c2) 0 (Mat.both n fa) := ⟨hW5, hM5, hgrb, hgrg⟩
      clear hgr hG5 hE4 hW2 hM3 hF3 hE3 d0 d1 hWa2 hWr2 CB hM5 hW5 hgl
      go_loopw [22] (fun x wr => ∃ j : Nat, j ≤ n ∧ x = .int .i64 (j : Int) ∧ (∃ F, Red wr gr g w2.heap.size n c2 (n * c2) j F ∧ Mat.Inner n j fa F) ∧ Whole wr w.heap.size 76 #[.int .i64 n, .int .i64 n, .slice A ml.length k] ∧ Whole wr (w.heap.size + 1) 76 #[.int .i64 0, .int .i64 0, .slice none 0 0] ∧ Ext w wr) (fun x _ => n - (intOf x).toNat)
      case atStart => exact ⟨0, by omega, rfl, ⟨_, hR5, Mat.Inner.start n fa⟩, hWa5, hWr5, hE5⟩
      case round =>
        obtain ⟨j, hj, rfl, ⟨F, hR, hIn⟩, hWa, hWr, hEr⟩ := hrel
        by_cases hlt : j < n
        · have CL := lead_any hn hcb (col := j) (by omega) hj hR
          have HIn := hide hIn
          have HR := hide hR
          clear hIn hR
          go_wp2_with fail
          refine CL.mono ?_
          rintro e w6 (⟨rfl, hz, hE6⟩ | ⟨rfl, p, hp1, hp2, hz, hp0, hR6, hM6⟩)
          · have HK := hide (HIn.out.flat hlt hz)
            have hWr6 := hWr.ext hE6
            have hE06 := hEr.trans hE6
            clear hz CL
            go_wp2_with (refine wpList_storeW rfl 76 (.tmp 2) (.tmp 28) rfl rfl rfl hWr6 rfl mat_info (mat_one rfl) ?_; intro w7 hW7 hG7 _)
            refine bodyPost_ret (results_mat rfl _ rfl rfl hW7 rfl) rfl ?_
            obtain ⟨v, hv⟩ := HK.out
            rw [HI.out n rfl v hv]
            exact MadeM.zero 14 (Below.grown hE06 hG7 hE06.le (fun k hk => by cases hk; omega))
          · have HIn6 := hide (inner_lead HIn.out hlt hp1 hp2 hp0)
            have hWa6 := hM6.whole hWa (by omega) (by simp; omega)
            have hWr6 := hM6.whole hWr (by omega) (by simp; omega)
            have hE6 : Ext w w6 := Below.trans hEr (hM6.below hEr.le (by omega) (fun k hk => by cases hk; omega))
            clear hz hp0 CL hM6
            go_wp2
            go_roundw
            case rel => exact ⟨j + 1, by omega, by go_num, ⟨_, hR6, HIn6.out⟩, hWa6, hWr6, hE6⟩
            case measure => simp [intOf]; omega
        · obtain rfl : j = n := by omega
          have d0 := hR.1.at 0 (u := .int .i64 (j : Int)) rfl
          have d1 := hR.1.at 1 (u := .int .i64 (c2 : Int)) rfl
          have d2 := hR.1.at 2 (u := .slice (some ⟨g, 0, none⟩) (j * c2) (j * c2)) rfl
          have e1 := hWa.at 1 (u := .int .i64 (j : Int)) rfl
          have CF := from_any (col := j) (d := j) hn hcb (by rw [HC2.out]; omega) (by omega) hR.2.1
          have HX := hide (HV.out _ hIn.done)
          have HIn := hide hIn
          clear hIn hR
          unfold ownV matV at CF
          go_wp2_with fail
          refine CF.mono ?_
          rintro e w6 ⟨g2, rfl, hM6, hE6⟩
          have hWr6 := hWr.ext hE6
          have hE06 := hEr.trans hE6
          go_wp2_with (refine wpList_storeW rfl 76 (.tmp 2) (.tmp 34) rfl rfl rfl hWr6 rfl mat_info (mat_one rfl) ?_; intro w7 hW7 hG7 _)
          refine bodyPost_ret (results_mat rfl _ rfl rfl hW7 rfl) rfl ?_
          rw [HX.out]
          have hO7 := (Mod.ofRow (ob := none) hG7).own hM6.1 (by simp [Value.ownBlock]; have := hM6.2.1; have := hWr.lt; omega) (by simp [Classical.em])
          exact ⟨_, rfl, hO7.mono hEr.le, Below.grown hE06 hG7 hE06.le (fun k hk => by cases hk; omega)⟩
    · have HN := hide (MV.invE_not fun h => hrc h.2)
      have hne : (m.r != m.c) = true := by simpa using hrc
      clear hrc hmay
      go_enter Tryd.func88, Tryd.ntmps88
      go_wp2_with (refine wpList_load_row rfl 76 (.tmp 6) rfl _ rfl _ _ _ _ hWa Tryd.underlying76 rfl mat_info ?_)
      refine (M1 _).mono ?_
      rintro e w2 ⟨rfl, hF2⟩
      have hE2 := hE.trans hF2
      have hWa2 := hWa.ext hF2
      have hWr2 := hWr.ext hF2
      have d0 := hWa2.at 0 (u := .int .i64 m.r) rfl
      have d1 := hWa2.at 1 (u := .int .i64 m.c) rfl
      go_wp2_with (refine wpList_storeW rfl 76 (.tmp 2) (.tmp 16) rfl rfl rfl hWr2 rfl mat_info (mat_one rfl) ?_; intro w7 hW7 hG7 _)
      refine bodyPost_ret (results_mat rfl _ rfl rfl hW7 rfl) rfl ?_
      rw [HN.out]
      exact MadeM.zero 13 (Below.grown hE2 hG7 hE2.le (fun k hk => by cases hk; omega))
  · have HN := hide (MV.invE_not fun h => hmay h.1)
    rw [Bool.not_eq_true] at hmay
    rw [hmay] at M1
    clear hmay
    go_enter Tryd.func88, Tryd.ntmps88
    go_wp2_with (refine wpList_load_row rfl 76 (.tmp 6) rfl _ rfl _ _ _ _ hWa Tryd.underlying76 rfl mat_info ?_)
    refine (M1 _).mono ?_
    rintro e w2 ⟨rfl, hF2⟩
    have hE2 := hE.trans hF2
    have hWr2 := hWr.ext hF2
    go_wp2_with (refine wpList_storeW rfl 76 (.tmp 2) (.tmp 16) rfl rfl rfl hWr2 rfl mat_info (mat_one rfl) ?_; intro w7 hW7 hG7 _)
    refine bodyPost_ret (results_mat rfl _ rfl rfl hW7 rfl) rfl ?_
    rw [HN.out]
    exact MadeM.zero 13 (Below.grown hE2 hG7 hE2.le (fun k hk => by cases hk; omega))
end Go.Proofs.YtkfipfhmbhmamaaDoor

namespace Go.Proofs.YtkfipfhmbhmamaaDoor
open Go.RowKit

/-- The cells that are made so far: the rows above i, and j cells of row i. -/
def cauTo (k i j : Nat) : Mat.M := fun a b => if a < i ∨ (a = i ∧ b < j) then cauchyF k a b else 0
theorem cauTo_none (k : Nat) : cauTo k 0 0 = fun _ _ => 0 := by
  funext a b
  simp [cauTo]
theorem cauTo_step (k i j : Nat) : (fun a b => if a = i ∧ b = j then cauchyF k i j else cauTo k i j a b) = cauTo k i (j + 1) := by
  funext a b
  unfold cauTo
  by_cases h : a = i ∧ b = j
  · obtain ⟨rfl, rfl⟩ := h
    rw [if_pos ⟨rfl, rfl⟩, if_pos (.inr ⟨rfl, by omega⟩)]
  · rw [if_neg h]
    by_cases h2 : a < i ∨ (a = i ∧ b < j)
    · rw [if_pos h2, if_pos (by omega)]
    · rw [if_neg h2, if_neg (by omega)]
theorem cauTo_row (k i N : Nat) (hk : 0 < k) : cellsOf k (cauTo k i k) N = cellsOf k (cauTo k (i + 1) 0) N := by
  refine cells_congr fun p _ => ?_
  have := Nat.mod_lt p hk
  unfold cauTo
  by_cases h : p / k < i + 1
  · rw [if_pos (by omega), if_pos (.inl h)]
  · rw [if_neg (by omega), if_neg (by omega)]
theorem cauTo_all (k m : Nat) : cellsOf k (cauTo k m 0) (m * k) = cellsOf k (cauchyF k) (m * k) := by
  refine cells_congr fun p hp => ?_
  unfold cauTo
  rw [if_pos (.inl (Nat.div_lt_of_lt_mul (by rw [Nat.mul_comm]; exact hp)))]

/-- A table of inverses: each cell is 0, or the inverse of its number. -/
def InvT (w : World) (g : Nat) : Prop := ∃ cs : Array Value, Whole w g 97 cs ∧ cs.size = 256 ∧ ∀ x : UInt8, cs[x.toNat]? = some (.int .u8 0) ∨ cs[x.toNat]? = some (.int .u8 ((Mat.fi x).toNat : Int))
theorem InvT.ext {w W : World} {g : Nat} (h : InvT w g) (hE : Ext w W) : InvT W g := by
  obtain ⟨cs, h1, h2⟩ := h
  exact ⟨cs, h1.ext hE, h2⟩
theorem InvT.far {w : World} {g b : Nat} (h : InvT w g) (hb : g ≠ b) (i : Nat) (u : Value) : InvT (w.setCell ⟨b, i, none⟩ u) g := by
  obtain ⟨cs, h1, h2⟩ := h
  exact ⟨cs, h1.far hb i u, h2⟩
theorem inv_ne {x : UInt8} (h : x ≠ 0) : Mat.fi x ≠ 0 := fun e => by
  have := Mat.fm_fi h
  rw [e, Mat.fm_zero] at this
  exact Mat.one_ne this.symm
theorem invT_set {cs : Array Value} (hs : cs.size = 256) (hv : ∀ x : UInt8, cs[x.toNat]? = some (.int .u8 0) ∨ cs[x.toNat]? = some (.int .u8 ((Mat.fi x).toNat : Int))) (y : UInt8) :
    ∀ x : UInt8, (cs.setIfInBounds y.toNat (.int .u8 ((Mat.fi y).toNat : Int)))[x.toNat]? = some (.int .u8 0) ∨ (cs.setIfInBounds y.toNat (.int .u8 ((Mat.fi y).toNat : Int)))[x.toNat]? = some (.int .u8 ((Mat.fi x).toNat : Int)) := fun x => by
  by_cases h : y.toNat = x.toNat
  · obtain rfl := Mat.ext8 h
    exact .inr (Array.getElem?_setIfInBounds_self_of_lt (by have := Mat.lt y; omega))
  · rw [Array.getElem?_setIfInBounds_ne h]
    exact hv x

set_option maxHeartbeats 4000000 in
set_option maxRecDepth 100000 in
theorem matCauchy_any (k m : Int) (w : World) : Calls Tryd.prog 42 #[.int .i64 k, .int .i64 m] w (MadeM w (cauchyE k m).1 (cauchyE k m).2) := by
  have hE1 := extNew w (.cells #[.int .i64 0, .int .i64 0, .slice none 0 0] 76)
  have hW1 := Whole.new w 76 #[.int .i64 0, .int .i64 0, .slice none 0 0]
  have C1 := counts_any k
  have C2 := counts_any m
  obtain ⟨Z, hZ, hzero, hz⟩ := row_zero'
  have HZI := hide (show ∀ W : World, InvT (W.alloc (.cells Z 97)) W.heap.size from fun W => ⟨Z, Whole.new W _ _, hZ, fun x => .inl (hz _ (Mat.lt x))⟩)
  clear hZ hz
  have HI := hide (show cauchyE k m = if 0 ≤ k ∧ 0 ≤ m ∧ k + m ≤ 255 then (⟨m, k, cellsOf k.toNat (cauchyF k.toNat) (m.toNat * k.toNat)⟩, 0) else (MV.zero, 13) from rfl)
  by_cases hk : 0 ≤ k ∧ k ≤ 255
  · rw [decide_eq_true hk] at C1
    by_cases hm : 0 ≤ m ∧ m ≤ 255
    · rw [decide_eq_true hm] at C2
      have C3 := counts_any (k + m)
      by_cases hkm : 0 ≤ k + m ∧ k + m ≤ 255
      · rw [decide_eq_true hkm] at C3
        rw [HI.out, if_pos ⟨hk.1, hm.1, hkm.2⟩]
        obtain ⟨k, rfl⟩ := Int.eq_ofNat_of_zero_le hk.1
        obtain ⟨m, rfl⟩ := Int.eq_ofNat_of_zero_le hm.1
        simp only [Int.toNat_natCast]
        have hkm' : k + m ≤ 255 := by omega
        have C4 := fun W => blank_any m k (by omega) (by omega) W
        have HA := hide (cauTo_all k m)
        clear hk hm hkm HI
        go_enter Tryd.func42, Tryd.ntmps42
        go_wp2_with fail
        refine (C1 _).mono ?_
        rintro e w1 ⟨rfl, rfl⟩
        go_wp2_with fail
        refine (C2 _).mono ?_
        rintro e w1 ⟨rfl, rfl⟩
        go_wp2_with fail
        refine (C3 _).mono ?_
        rintro e w1 ⟨rfl, rfl⟩
        go_wp2_with fail
        refine (C4 _).mono ?_
        rintro e w2 ⟨g, rfl, hg, hO, hE2⟩
        rw [World.size_alloc] at hg hO
        have hg2 := (hO.lt g rfl).2
        have hW2 := Whole.new w2 76 #[.int .i64 0, .int .i64 0, .slice none 0 0]
        have hWr2 := hW1.ext hE2
        have hE3 := extNew w2 (.cells #[.int .i64 0, .int .i64 0, .slice none 0 0] 76)
        unfold matV
        go_wp2_with (refine wpList_storeW rfl 76 (.tmp 6) (.tmp 30) rfl rfl rfl hW2 rfl mat_info (mat_one rfl) ?_; intro w3 hW3 hG3 hS3; clear hS3)
        have hO3 := (Mod.ofRow (ob := none) hG3).own (hO.ext hE3) (by simp [Value.ownBlock]; omega) (by simp [Classical.em])
        have hWr3 := (hWr2.ext hE3).grown hG3 (by have := hWr2.lt; omega)
        have hF3 : Ext w w3 := Below.grown ((hE1.trans hE2).trans hE3) hG3 ((hE1.trans hE2).trans hE3).le (fun k hk => by cases hk; exact (hE1.trans hE2).le)
        rw [cells_zero k, ← cauTo_none k] at hO3
        have hIv := HZI.out w3
        have hE4 := extNew w3 (.cells Z 97)
        have hO4 := hO3.ext hE4
        have hW4 := hW3.ext hE4
        have hWr4 := hWr3.ext hE4
        have hF4 := hF3.trans hE4
        have hgi3 : w2.heap.size + 1 ≤ w3.heap.size := by have := hG3.size; rw [World.size_alloc] at this; exact this
        obtain ⟨gi, hgi⟩ : ∃ gi, gi = w3.heap.size := ⟨_, rfl⟩
        rw [← hgi] at hIv hgi3
        obtain ⟨gb, hgb⟩ : ∃ gb, gb = w2.heap.size := ⟨_, rfl⟩
        rw [← hgb] at hW3 hW4 hgi3 ⊢
        have hb : w.heap.size < gb := by have := (hE1.trans hE2).le; have := hE2.le; rw [World.size_alloc] at this; omega
        have hgg : g < gb := by omega
        clear hO hE2 hW2 hWr2 hE3 hG3 hg2 hgb C1 C2 C3 C4 hW1 hE1 hO3 hW3 hWr3 hF3 HZI hE4
        go_wp2_with fail
        rw [← hgi]
        clear hgi
        go_loopw [32] (fun i wr => ∃ j : Nat, j ≤ m ∧ i = .int .i64 (j : Int) ∧ OwnB wr (w.heap.size + 1) (.slice (some ⟨g, 0, none⟩) (m * k) (m * k)) (cellsOf k (cauTo k j 0) (m * k)) ∧ Whole wr gb 76 #[.int .i64 m, .int .i64 k, .slice (some ⟨g, 0, none⟩) (m * k) (m * k)] ∧ Whole wr w.heap.size 76 #[.int .i64 0, .int .i64 0, .slice none 0 0] ∧ InvT wr gi ∧ Ext w wr) (fun i _ => m - (intOf i).toNat)
        case atStart => exact ⟨0, by omega, rfl, hO4, hW4, hWr4, hIv, hF4⟩
        case round =>
          obtain ⟨i, hi, rfl, hOi, hWm, hWr, hIi, hE⟩ := hrel
          by_cases hlt : i < m
          · have CR := fun W => row_any' m i k (m * k) (m * k) (some ⟨g, 0, none⟩) (by omega) (by omega) (Nat.mul_le_mul_right _ hlt) W
            unfold matV at CR
            go_wp2_with (refine wpList_load_row rfl 76 (.tmp 6) rfl _ rfl _ _ _ _ hWm Tryd.underlying76 rfl mat_info ?_)
            refine (CR _).mono ?_
            rintro e w4 ⟨rfl, hE4⟩
            clear CR
            obtain ⟨R, hR⟩ : ∃ R, R = cutAt (some ⟨g, 0, none⟩) (m * k) (i * k) := ⟨_, rfl⟩
            rw [← hR]
            have HRr := hide hR
            clear hR
            go_wp2_with fail
            go_loopw [40] (fun x wq => ∃ j : Nat, j ≤ k ∧ x = .int .i64 (j : Int) ∧ OwnB wq (w.heap.size + 1) (.slice (some ⟨g, 0, none⟩) (m * k) (m * k)) (cellsOf k (cauTo k i j) (m * k)) ∧ Whole wq gb 76 #[.int .i64 m, .int .i64 k, .slice (some ⟨g, 0, none⟩) (m * k) (m * k)] ∧ Whole wq w.heap.size 76 #[.int .i64 0, .int .i64 0, .slice none 0 0] ∧ InvT wq gi ∧ Ext w wq) (fun x _ => k - (intOf x).toNat)
            case atStart => exact ⟨0, by omega, rfl, hOi.ext hE4, hWm.ext hE4, hWr.ext hE4, hIi.ext hE4, hE.trans hE4⟩
            case round =>
              obtain ⟨j, hj, rfl, hOj, hWm2, hWr2, hIj, hE2⟩ := hrel
              by_cases hjt : j < k
              · obtain ⟨p1, p2⟩ := row_place hlt (by omega : 0 < k)
                have hR2 := HRr.out
                rw [cutAt_zero p2] at hR2
                subst hR2
                have hx0 : UInt8.ofNat (k + i) ^^^ UInt8.ofNat j ≠ 0 := fun e => by
                  have := Mat.ofNat_inj (by omega) (by omega) (Mat.xor_eq_zero e)
                  omega
                have hxb' : bits .xor .i64 ((k : Int) + (i : Int)) (j : Int) = ((UInt8.ofNat (k + i) ^^^ UInt8.ofNat j).toNat : Int) := by
                  have := i64_xor_nat (k + i) j (by omega) (by omega)
                  rw [UInt8.toNat_xor, UInt8.toNat_ofNat', UInt8.toNat_ofNat', Nat.mod_eq_of_lt (by omega), Nat.mod_eq_of_lt (by omega)]
                  exact this
                have HS := hide (cells_set k (m * k) (cauTo k i j) hjt (cauchyF k i j) (i := i))
                have hcell : cauchyF k i j = Mat.fi (UInt8.ofNat (k + i) ^^^ UInt8.ofNat j) := rfl
                have C := fun W => inv_any (UInt8.ofNat (k + i) ^^^ UInt8.ofNat j).toNat W (Mat.lt _)
                rw [inv_byte hx0, ← hcell] at C
                have hne := inv_ne hx0
                rw [← hcell] at hne
                obtain ⟨cs, hWi, hcs, hvals⟩ := hIj
                have HV := hide hvals
                have hv := hvals (UInt8.ofNat (k + i) ^^^ UInt8.ofNat j)
                have HSV := hide (invT_set hcs hvals (UInt8.ofNat (k + i) ^^^ UInt8.ofNat j))
                rw [← hcell] at hv HSV
                clear hvals
                have HT := hide (cauTo_step k i j)
                generalize cauchyF k i j = bt at *
                have hbx := Mat.lt (UInt8.ofNat (k + i) ^^^ UInt8.ofNat j)
                generalize (UInt8.ofNat (k + i) ^^^ UInt8.ofNat j).toNat = xx at *
                have b1 : ((k : Int) + (i : Int)) ≤ 255 := by omega
                have b2 : (j : Int) ≤ 255 := by omega
                have b0 : (0 : Int) ≤ (k : Int) + (i : Int) := by omega
                have hbx2 : (xx : Int) < 256 := by omega
                clear hcell hx0
                clear HRr
                have hgg1 : gi ≠ g := by omega
                rcases hv with h0 | h1
                · have d0 := hWi.at xx h0
                  have hxc : xx < cs.size := by omega
                  have hb1 : (Tryd.prog.info? 5).map (·.size) = some 1 := by kernel_rfl
                  have HC := hide hcs
                  clear hcs
                  go_wp2_with fail
                  refine (C _).mono ?_
                  rintro e w5 ⟨rfl, hE5⟩
                  have hWi5 := hWi.ext hE5
                  have HXC := hide hxc
                  clear d0 hxc
                  go_wp2_with (refine wpList_storeC rfl 5 (.tmp 59) (.tmp 57) rfl _ rfl rfl hWi5 HXC.out hb1 rfl rfl rfl ?_; intro w6 hWi6 hG6; have d6 : w6.cell? ⟨gi, xx, none⟩ = some (.int .u8 (bt.toNat : Int)) := hWi6.at xx (Array.getElem?_setIfInBounds_self_of_lt HXC.out); have hOj6 := (Mod.ofRow (ob := none) hG6).own (hOj.ext hE5) (by simp [Value.ownBlock]; omega) (by simp [Classical.em]); obtain ⟨hc5, hf5⟩ := hOj6.cell (i := i * k + j) (by rw [cellsOf_len]; omega))
                  have hO6 := hOj6.set (i * k + j) bt
                  have hE5' := hE2.trans hE5
                  have hE6' : Ext w w6 := Below.grown hE5' hG6 hE5'.le (fun k hk => by cases hk; omega)
                  have hE6 := hE6'.setCell (g := g) (i := i * k + j) (by omega) (.int .u8 (bt.toNat : Int))
                  have hWm6 := ((hWm2.ext hE5).grown hG6 (by omega)).far (b := g) (by omega) (i * k + j) (.int .u8 (bt.toNat : Int))
                  have hWr6 := ((hWr2.ext hE5).grown hG6 (by omega)).far (b := g) (by omega) (i * k + j) (.int .u8 (bt.toNat : Int))
                  have hI6 : InvT w6 gi := ⟨_, hWi6, by rw [Array.size_setIfInBounds]; exact HC.out, HSV.out⟩
                  have hI7 := hI6.far hgg1 (i * k + j) (.int .u8 (bt.toNat : Int))
                  rw [HS.out, HT.out] at hO6
                  go_roundw
                  case rel => exact ⟨j + 1, by omega, by go_num, hO6, hWm6, hWr6, hI7, hE6⟩
                  case measure => simp [intOf]; omega
                · have d0 := hWi.at xx h1
                  have hbt : ((bt.toNat : Int) == 0) = false := by
                    have : bt.toNat ≠ 0 := fun e => hne (Mat.ext8 e)
                    simp only [beq_eq_false_iff_ne, ne_eq]
                    omega
                  obtain ⟨hc5, hf5⟩ := hOj.cell (i := i * k + j) (by rw [cellsOf_len]; omega)
                  have hO6 := hOj.set (i * k + j) bt
                  have hE6 := hE2.setCell (g := g) (i := i * k + j) (by omega) (.int .u8 (bt.toNat : Int))
                  have hWm6 := hWm2.far (b := g) (by omega) (i * k + j) (.int .u8 (bt.toNat : Int))
                  have hWr6 := hWr2.far (b := g) (by omega) (i * k + j) (.int .u8 (bt.toNat : Int))
                  have hI7 := InvT.far ⟨cs, hWi, hcs, HV.out⟩ hgg1 (i * k + j) (.int .u8 (bt.toNat : Int))
                  rw [HS.out, HT.out] at hO6
                  clear C hne hcs
                  go_wp2
                  go_roundw
                  case rel => exact ⟨j + 1, by omega, by go_num, hO6, hWm6, hWr6, hI7, hE6⟩
                  case measure => simp [intOf]; omega
              · obtain rfl : j = k := by omega
                go_wp2
                go_roundw
                case rel =>
                  refine ⟨i + 1, by omega, by go_num, ?_, hWm2, hWr2, hIj, hE2⟩
                  rcases Nat.eq_zero_or_pos j with h0 | h0
                  · subst h0
                    simpa [cellsOf] using hOj
                  · rw [← cauTo_row j i _ h0]
                    exact hOj
                case measure => simp [intOf]; omega
          · obtain rfl : i = m := by omega
            rw [HA.out] at hOi
            go_wp2_with (first
              | (refine wpList_load_row rfl 76 (.tmp 6) rfl _ rfl _ _ _ _ hWm Tryd.underlying76 rfl mat_info ?_)
              | (refine wpList_storeW rfl 76 (.tmp 4) (.tmp 68) rfl rfl rfl hWr rfl mat_info (mat_one rfl) ?_; intro w5 hW5 hG5 _))
            refine bodyPost_ret (results_mat rfl _ rfl rfl hW5 rfl) rfl ?_
            exact made_end hE hG5 hOi (by omega)
      · rw [decide_eq_false hkm] at C3
        rw [HI.out, if_neg (by omega)]
        obtain ⟨k0, k1⟩ := hk
        obtain ⟨m0, m1⟩ := hm
        clear hkm
        go_enter Tryd.func42, Tryd.ntmps42
        go_wp2_with fail
        refine (C1 _).mono ?_
        rintro e w1 ⟨rfl, rfl⟩
        go_wp2_with fail
        refine (C2 _).mono ?_
        rintro e w1 ⟨rfl, rfl⟩
        go_wp2_with fail
        refine (C3 _).mono ?_
        rintro e w1 ⟨rfl, rfl⟩
        go_wp2_with (refine wpList_storeW rfl 76 (.tmp 4) (.tmp 27) rfl rfl rfl hW1 rfl mat_info (mat_one rfl) ?_; intro w5 hW5 hG5 _)
        refine bodyPost_ret (results_mat rfl _ rfl rfl hW5 rfl) rfl ?_
        exact MadeM.zero 13 (Below.grown hE1 hG5 hE1.le (fun k hk => by cases hk; exact Nat.le_refl _))
    · rw [decide_eq_false hm] at C2
      rw [HI.out, if_neg (by omega)]
      clear hk hm
      go_enter Tryd.func42, Tryd.ntmps42
      go_wp2_with fail
      refine (C1 _).mono ?_
      rintro e w1 ⟨rfl, rfl⟩
      go_wp2_with fail
      refine (C2 _).mono ?_
      rintro e w1 ⟨rfl, rfl⟩
      go_wp2_with (refine wpList_storeW rfl 76 (.tmp 4) (.tmp 27) rfl rfl rfl hW1 rfl mat_info (mat_one rfl) ?_; intro w5 hW5 hG5 _)
      refine bodyPost_ret (results_mat rfl _ rfl rfl hW5 rfl) rfl ?_
      exact MadeM.zero 13 (Below.grown hE1 hG5 hE1.le (fun k hk => by cases hk; exact Nat.le_refl _))
  · rw [decide_eq_false hk] at C1
    rw [HI.out, if_neg (by omega)]
    clear hk
    go_enter Tryd.func42, Tryd.ntmps42
    go_wp2_with fail
    refine (C1 _).mono ?_
    rintro e w1 ⟨rfl, rfl⟩
    go_wp2_with (refine wpList_storeW rfl 76 (.tmp 4) (.tmp 27) rfl rfl rfl hW1 rfl mat_info (mat_one rfl) ?_; intro w5 hW5 hG5 _)
    refine bodyPost_ret (results_mat rfl _ rfl rfl hW5 rfl) rfl ?_
    exact MadeM.zero 13 (Below.grown hE1 hG5 hE1.le (fun k hk => by cases hk; exact Nat.le_refl _))
end Go.Proofs.YtkfipfhmbhmamaaDoor

