/- Lists side by side, as the program's dataOf has them. What the steps of the program's dataOf come to. Contract of the program's dataOf. -/
import Derived.Test.YtbfkknoeaekajaaRsPSpread
import Derived.Test.YtbfkknoeaekajaaMatPPick
import Derived.Test.YtbfkknoeaekajaaMatPInverse
namespace Go.Proofs.Ytbfkknoeaekajaa
open Go.RowKit

theorem zero_ints (n : Nat) : (madeCells (Value.int .i64 0).cells n).toList = (List.replicate n (0 : Int)).map (Value.int .i64) := by
  have : madeCells (Value.int .i64 0).cells n = ((List.replicate n (0 : Int)).map (Value.int .i64)).toArray := by
    apply Array.ext
    · simp [size_madeCells, Value.cells]
    · intro i h1 h2
      simp [madeCells, Value.cells, Nat.mod_one]
  rw [this]
section
variable {w w' : World} {base g n c i : Nat} {L : List Int} {v : Value} {ob : Option Nat}
theorem own_mod {e : TypeId} {size m : Nat} {xs : List Value} (h : w.ownsRow base e size v m xs) (hM : Mod w w' g ob) (hg : v.ownBlock ≠ some g) (ho : v.ownBlock = none ∨ v.ownBlock ≠ ob) : w'.ownsRow base e size v m xs := by
  refine ⟨h.1, ?_⟩
  rcases h.2 with hn | ⟨x, cap, cur, rfl, hb, hgg, rest⟩
  · exact .inl hn
  · refine .inr ⟨x, cap, cur, rfl, hb, ?_, rest⟩
    rw [hM.block x (Array.getElem?_eq_some_iff.1 hgg).1 (by intro e; subst e; simp [Value.ownBlock] at hg) (by
      intro e
      rcases ho with ho | ho
      · simp [Value.ownBlock] at ho
      · exact ho (by simpa [Value.ownBlock] using e))]
    exact hgg
theorem OwnI.mod (h : OwnI w base v L) (hM : Mod w w' g ob) (hg : v.ownBlock ≠ some g) (ho : v.ownBlock = none ∨ v.ownBlock ≠ ob) : OwnI w' base v L := own_mod h hM hg ho
theorem OwnI.cellI (h : OwnI w base (.slice (some ⟨g, 0, none⟩) n c) L) (hn : L.length = n) (hi : i < n) : w.cell? ⟨g, i, none⟩ = some (.int .i64 (L.getD i 0)) ∧ w.frozen? ⟨g, i, none⟩ = false := by
  subst hn
  refine ⟨?_, World.ownsRow.frozenAt h i⟩
  rw [World.ownsRow.cellAt h i (by omega)]
  simp [hi, List.getD_eq_getElem?_getD]
theorem OwnI.setI (h : OwnI w base (.slice (some ⟨g, 0, none⟩) n c) L) (hn : L.length = n) (i : Nat) (x : Int) : OwnI (w.setCell ⟨g, i, none⟩ (.int .i64 x)) base (.slice (some ⟨g, 0, none⟩) n c) (L.set i x) := by
  subst hn
  have := (World.ownsRow.stored h i (.int .i64 x)).1
  unfold OwnI
  rw [List.length_set, List.map_set]
  exact this
theorem OwnI.form2 (h : OwnI w base v L) (hn : L.length = n) : ∃ A c, v = .slice A n c ∧ n ≤ c ∧ IntsAt w w.heap.size A n L := by
  subst hn
  exact h.form
end
section
variable {w w' : World} {base g r lo B i gt : Nat} {R : Nat → Value} {ls : List (List UInt8)}
theorem Lst.mono {b' : Nat} (h : Lst w base g r R) (hb : b' ≤ base) : Lst w b' g r R := ⟨h.1, h.2.elim Or.inl fun ⟨g, cap, cur, hv, hg, r⟩ => Or.inr ⟨g, cap, cur, hv, Nat.le_trans hb hg, r⟩⟩
theorem RowOf.gLow {x : Value} {l : List UInt8} (h : RowOf w B x l) (hn : NewX lo x) (hG : w.grownBy w' (some g)) (hg : g < lo) (hB : B ≤ w.heap.size) : RowOf w' B x l := by
  obtain ⟨A, k, e, h2, h3, h4⟩ := h
  refine ⟨A, k, e, h2, h3, h4.1, ?_⟩
  rcases h4.2 with h0 | ⟨b, off, rfl, hb, hc⟩
  · exact .inl h0
  rcases hn _ _ _ e with h0 | h1
  · exact .inl h0
  refine .inr ⟨b, off, rfl, hb, fun j hj => ?_⟩
  have := h1 b off rfl
  rw [← hc j hj]
  exact World.cell?_of_block (a := ⟨b, off + j, none⟩) (hG.block b (by omega) (by simp; omega))
/-- The rows as a function. -/
def RowsF (w : World) (lo B : Nat) (R : Nat → Value) (F : Nat → List UInt8) (r : Nat) : Prop := ∀ a, a < r → RowOf w B (R a) (F a) ∧ NewX lo (R a)
theorem RowsTo.toF (h : RowsTo w lo B R ls i) : RowsF w lo B R (fun a => ls.getD a []) i := h
section
variable {F G : Nat → List UInt8} {B' : Nat}
theorem RowsF.congr (h : RowsF w lo B R F r) (hF : ∀ a, a < r → G a = F a) : RowsF w lo B R G r := fun a ha => by
  rw [hF a ha]
  exact h a ha
theorem RowsF.mono (h : RowsF w lo B R F r) (hB : B ≤ B') : RowsF w lo B' R F r := fun a ha => ⟨(h a ha).1.up hB, (h a ha).2⟩
theorem RowsF.below (h : RowsF w lo B R F r) (hE : Below B w w') : RowsF w' lo B R F r := fun a ha => ⟨(h a ha).1.below hE, (h a ha).2⟩
theorem RowsF.gLow (h : RowsF w lo B R F r) (hG : w.grownBy w' (some g)) (hg : g < lo) (hB : B ≤ w.heap.size) : RowsF w' lo B R F r := fun a ha => ⟨(h a ha).1.gLow (h a ha).2 hG hg hB, (h a ha).2⟩
theorem RowsF.lower {lo' : Nat} (h : RowsF w lo B R F r) (hl : lo' ≤ lo) : RowsF w lo' B R F r := fun a ha => ⟨(h a ha).1, (h a ha).2.mono hl⟩
theorem RowsF.put {x : Value} {l : List UInt8} (h : RowsF w lo B R F r) (hx : RowOf w B x l) (hn : NewX lo x) (i : Nat) : RowsF w lo B (fun a => if a = i then x else R a) (fun a => if a = i then l else F a) r := fun a ha => by
  by_cases e : a = i
  · simp only [e, if_true]
    exact ⟨hx, hn⟩
  · simp only [e, if_false]
    exact h a ha
theorem Lst.at (h : Lst w base g r R) (hr : RowsF w lo B R F r) (hF : ∀ a, a < r → F a = ls.getD a []) (hl : ls.length = r) (hB : B ≤ w.heap.size) : RowsAt w w.heap.size (some ⟨g, 0, none⟩) r ls := by
  refine ⟨hl, .inr ⟨g, 0, rfl, h.lt.2, fun i hi => ⟨R i, ?_, ?_⟩⟩⟩
  · rw [Nat.zero_add]
    exact (h.cell hi).1
  · rw [← hF i hi]
    exact (hr i hi).1.up hB
end
end
/-- The rows of the parities that are asked for, as numbers. -/
def pks (L : List Nat) (k h l i : Nat) : List Int := (List.range l).map fun a => if a < i then ((L.getD (h + a) 0 : Nat) : Int) - (k : Int) else 0
theorem pks_len (L : List Nat) (k h l i : Nat) : (pks L k h l i).length = l := by simp [pks]
theorem pks_zero (L : List Nat) (k h l : Nat) : pks L k h l 0 = List.replicate l 0 := by
  unfold pks
  apply List.ext_getElem
  · simp
  · intro i h1 h2
    simp
theorem pks_at {L : List Nat} {k h l i a : Nat} (ha : a < l) : (pks L k h l i).getD a 0 = if a < i then ((L.getD (h + a) 0 : Nat) : Int) - (k : Int) else 0 := by simp [pks, List.getD_eq_getElem?_getD, ha]
theorem pks_set {L : List Nat} {k h l i : Nat} : (pks L k h l i).set i (((L.getD (h + i) 0 : Nat) : Int) - (k : Int)) = pks L k h l (i + 1) := by
  apply List.ext_getElem
  · rw [List.length_set, pks_len, pks_len]
  · intro a h1 h2
    rw [pks_len] at h2
    rw [List.getElem_set]
    simp only [pks, List.getElem_map, List.getElem_range]
    by_cases e : i = a
    · rw [if_pos e, if_pos (by omega), e]
    · rw [if_neg e]
      by_cases h3 : a < i
      · rw [if_pos h3, if_pos (by omega)]
      · rw [if_neg h3, if_neg (by omega)]
end Go.Proofs.Ytbfkknoeaekajaa

namespace Go.Proofs.Ytbfkknoeaekajaa
open Go.RowKit

theorem cells_square {c n : Nat} {f g : Mat.M} (h : ∀ i j, i < n → j < c → f i j = g i j) : cellsOf c f (n * c) = cellsOf c g (n * c) := cells_congr fun p hp => by
  have hc : 0 < c := by
    rcases Nat.eq_zero_or_pos c with e | e
    · rw [e, Nat.mul_zero] at hp
      omega
    · exact e
  exact h _ _ (Nat.div_lt_of_lt_mul (by rw [Nat.mul_comm]; exact hp)) (Nat.mod_lt _ hc)
/-- The first i rows are the new ones. -/
def mixA (F G : Nat → List UInt8) (i : Nat) : Nat → List UInt8 := fun a => if a < i then G a else F a
theorem mixA_0 (F G : Nat → List UInt8) : mixA F G 0 = F := by
  funext a
  exact if_neg (by omega)
theorem mixA_put (F G : Nat → List UInt8) (i : Nat) : (fun a => if a = i then G i else mixA F G i a) = mixA F G (i + 1) := by
  funext a
  unfold mixA
  by_cases e : a = i
  · rw [if_pos e, if_pos (by omega), e]
  · rw [if_neg e]
    by_cases h : a < i
    · rw [if_pos h, if_pos (by omega)]
    · rw [if_neg h, if_neg (by omega)]
theorem mixA_at (F G : Nat → List UInt8) (i : Nat) : mixA F G i i = F i := if_neg (Nat.lt_irrefl _)
theorem mixA_all (F G : Nat → List UInt8) {i a : Nat} (h : a < i) : G a = mixA F G i a := (if_pos h).symm
theorem times_row {l k N : Nat} {f : Mat.M} {D : List (List UInt8)} (hd : (D.getD 0 []).length = N) {a : Nat} (ha : a < l) : ((timesL l k f D).getD a []).length = N := by rw [timesL_at ha, hd, rowB_len]
section
variable {k m h l N : Nat} {L : List Nat} {ch : List (List UInt8)} {X : Mat.M}
/-- The rows of Cauchy that are there. -/
def haveC (k h : Nat) (L : List Nat) : Mat.M := fun a j => cauchyF k (L.getD (h + a) 0 - k) j
theorem pick_lost (hkm : k + m ≤ 255) (p : Plc k (k + m) L) (c : Cut L h k) (hh : h + l = k) : (⟨m, k, cellsOf k (cauchyF k) (m * k)⟩ : MV).pickE (pks L k h l l) = (⟨l, k, cellsOf k (haveC k h L) (l * k)⟩, 0) := by
  have hpl := p.len
  have hin : ∀ i, i < l → k ≤ L.getD (h + i) 0 ∧ L.getD (h + i) 0 < k + m := fun i hi => ⟨c.hi _ (by omega) (by omega), p.lt _ (Plc.get_mem (by omega))⟩
  have hpk : (⟨m, k, cellsOf k (cauchyF k) (m * k)⟩ : MV).picks (pks L k h l l) := by
    refine ⟨rect_may _ (by omega) (by omega), by rw [pks_len]; omega, fun i hi => ?_⟩
    rw [pks_len] at hi
    have := hin i hi
    rw [pks_at hi, if_pos hi]
    dsimp only
    omega
  unfold MV.pickE
  rw [if_pos hpk]
  unfold MV.pickR
  rw [pks_len]
  dsimp only
  rw [Int.toNat_natCast]
  have e : cellsOf k ((⟨m, k, cellsOf k (cauchyF k) (m * k)⟩ : MV).pickF (pks L k h l l)) (l * k) = cellsOf k (haveC k h L) (l * k) := cells_square fun i j hi hj => by
    have := hin i hi
    unfold MV.pickF
    rw [pks_at hi, if_pos hi, show (((L.getD (h + i) 0 : Nat) : Int) - (k : Int)).toNat = L.getD (h + i) 0 - k by omega, at_cells (by omega) hj]
    rfl
  rw [e]
theorem inv_lostE (hkm : k ≤ 255) (hl : l = (lostTo L k).length) (hlk : l ≤ k) (hI : Mat.Inv (lostTo L k).length (lostC k L) (lostY k L X)) :
    (⟨l, l, cellsOf l (lostC k L) (l * l)⟩ : MV).invE = (⟨l, l, cellsOf l (lostY k L X) (l * l)⟩, 0) := by
  rw [← hl] at hI
  have := MV.invE_of (m := ⟨l, l, cellsOf l (lostC k L) (l * l)⟩) (X := lostY k L X) (square_may _ (by omega)) rfl (by
    dsimp only
    rw [Int.toNat_natCast]
    exact inv_congr (fun i j hi hj => at_cells hi hj) hI)
  rw [this]
  dsimp only
  rw [Int.toNat_natCast]
theorem cols_lost (hl : l = (lostTo L k).length) (hh : h + l = k) : cellsOf l (fun a b => (⟨l, k, cellsOf k (haveC k h L) (l * k)⟩ : MV).at a ((lostTo L k).getD b 0)) (l * l) = cellsOf l (lostC k L) (l * l) := cells_square fun i j hi hj => by
  rw [at_cells hi (lostTo_at (by omega)).1]
  unfold lostC haveC
  rw [show k - (lostTo L k).length = h by omega]
theorem times_have (ls : List (List UInt8)) : timesL l k (⟨l, k, cellsOf k (haveC k h L) (l * k)⟩ : MV).at ls = timesL l k (haveC k h L) ls := timesL_congr ls fun _ _ hi hj => at_cells hi hj
theorem times_lost (ls : List (List UInt8)) : timesL l l (⟨l, l, cellsOf l (lostY k L X) (l * l)⟩ : MV).at ls = timesL l l (lostY k L X) ls := timesL_congr ls fun _ _ hi hj => at_cells hi hj
theorem add_lack (hl : l = (lostTo L k).length) (hh : h + l = k) (hal : ∀ i, i < k → (ch.getD i []).length = N) (hd0 : ((dataTo L ch N k).getD 0 []).length = N) {a : Nat} (ha : a < l) :
    Gf.addR ((timesL l k (haveC k h L) (dataTo L ch N k)).getD a []) 1 (ch.getD (h + a) []) = ((lackL k L ch N).getD a [], 0) := by
  have h1 := rowB_of (ch.getD (h + a) [])
  rw [hal _ (by omega)] at h1
  rw [timesL_at ha, hd0, h1, rowB_add _ _ (by omega), lackL_at (by omega), show k - (lostTo L k).length = h by omega]
  refine Prod.ext (rowB_congr fun n hn => ?_) rfl
  rw [show (UInt8.ofNat 1) = 1 from rfl, Mat.one_fm]
  rfl
theorem data_row (p : Plc k (k + m) L) (hal : ∀ i, i < k → (ch.getD i []).length = N) {j : Nat} (hj : j < k) : ((dataTo L ch N k).getD j []).length = N := by
  rw [dataTo_at hj]
  by_cases hm : j ∈ L
  · rw [if_pos hm]
    exact hal _ (by have := List.idxOf_lt_length_of_mem hm; have := p.len; omega)
  · rw [if_neg hm, List.length_replicate]
end
section
variable {w w' : World} {base g r lo B i : Nat} {R : Nat → Value} {F : Nat → List UInt8}
/-- A row of the call's own put in another's place. -/
theorem RowsF.store {x : Value} {l : List UInt8} (h : RowsF w lo B R F r) (hx : RowOf w B x l) (hn : NewX lo x) (hg : g < lo) (hB : B ≤ w.heap.size) (i : Nat) :
    RowsF (w.setCell ⟨g, i, none⟩ x) lo (w.setCell ⟨g, i, none⟩ x).heap.size (fun a => if a = i then x else R a) (fun a => if a = i then l else F a) r := by
  have hG := grown_setCell w g i x
  have hs : B ≤ (w.setCell ⟨g, i, none⟩ x).heap.size := by rw [World.size_setCell]; exact hB
  exact ((h.gLow hG hg hB).put (hx.gLow hn hG hg hB) hn i).mono hs
end
theorem Mod.toG {w w' : World} {g : Nat} (h : Mod w w' g none) : w.grownBy w' (some g) := ⟨h.os, h.tape, h.output, h.size, fun k hk hne => h.block k hk (fun e => hne (by rw [e])) (by simp)⟩
theorem placed_next {Z : List Nat} {D rows : List (List UInt8)} {i a : Nat} (hz : Z.getD i 0 < D.length) : (placed Z D rows (i + 1)).getD a [] = if a = Z.getD i 0 then rows.getD i [] else (placed Z D rows i).getD a [] := by
  have hl := placed_len Z D rows i
  rw [placed]
  by_cases e : a = Z.getD i 0
  · rw [if_pos e, e, List.getD_eq_getElem?_getD, List.getElem?_set_self (by omega)]
    rfl
  · rw [if_neg e, List.getD_eq_getElem?_getD, List.getElem?_set_ne (fun h => e h.symm), ← List.getD_eq_getElem?_getD]
end Go.Proofs.Ytbfkknoeaekajaa

namespace Go.Proofs.Ytbfkknoeaekajaa
open Go.RowKit

set_option maxHeartbeats 16000000 in
set_option maxRecDepth 100000 in
theorem dataOf_any {k m N : Nat} {L : List Nat} {A A1 A2 : Option Addr} {ka c1 c2 : Nat} {ch : List (List UInt8)} {w : World} (p : Plc k (k + m) L) (hk1 : 1 ≤ k) (hkm : k + m ≤ 255)
    (hl : (⟨m, k, cellsOf k (cauchyF k) (m * k)⟩ : MV).lies w A ka) (h1 : IntsAt w w.heap.size A1 k (L.map Int.ofNat)) (h2 : RowsAt w w.heap.size A2 k ch) (hal : ∀ i, i < k → (ch.getD i []).length = N) (hN : N ≤ 1000) :
    Calls Try.prog 47 #[(⟨m, k, cellsOf k (cauchyF k) (m * k)⟩ : MV).arg A ka, .slice A1 k c1, .slice A2 k c2] w (MadeN w (timesL k k (backX k L) ch)) := by
  have hpl := p.len
  have hX := backX_inv (k := k) (L := L) (by omega) hpl p.nodup (fun x hx => by have := p.lt x hx; omega)
  have HBack := hide (fun h (c : Cut L h k) (hh : h + (lostTo L k).length = k) => back_all p c hh hX (hal 0 (by omega)) hal)
  have HInv := hide (fun h (c : Cut L h k) (hh : h + (lostTo L k).length = k) => lost_inv p c hh hX)
  have HTL := hide (timesL_len k k (backX k L) ch)
  have HDR := hide (fun j (hj : j < k) => data_row p hal hj)
  have HDL := hide (dataTo_len L ch N k)
  have HAdd := hide (fun h l (hl : l = (lostTo L k).length) (hh : h + l = k) a (ha : a < l) => add_lack (N := N) hl hh hal (data_row p hal (by omega)) ha)
  have HAL := hide hal
  clear hX hal
  obtain ⟨res, hres⟩ : ∃ R, R = timesL k k (backX k L) ch := ⟨_, rfl⟩
  rw [← hres] at HBack HTL ⊢
  generalize backX k L = X at *
  clear hres
  obtain ⟨mv, hmv⟩ : ∃ M : MV, M = ⟨m, k, cellsOf k (cauchyF k) (m * k)⟩ := ⟨_, rfl⟩
  have HPick := hide (fun h l (c : Cut L h k) (hh : h + l = k) => pick_lost hkm p c hh)
  rw [← hmv] at hl HPick ⊢
  have hmr : mv.r = (m : Int) := by rw [hmv]
  have hmc : mv.c = (k : Int) := by rw [hmv]
  have hml : mv.l.length = m * k := by rw [hmv, cellsOf_len]
  clear hmv
  obtain ⟨r0, c0, cl⟩ := mv
  dsimp only at hmr hmc hml
  subst hmr
  subst hmc
  have HML := hide hml
  clear hml
  have HPl := hide p
  have hE0 := extNew w (.cells #[.int .i64 (m : Int), .int .i64 (k : Int), .slice A cl.length ka] 42)
  have hW0 := Whole.new w 42 #[.int .i64 (m : Int), .int .i64 (k : Int), .slice A cl.length ka]
  have hI0 := h1.below hE0 (Nat.le_refl _)
  have CS := spread_any (c1 := c1) (c2 := c2) (N := N) p hk1 (by omega) (show IntsAt (w.alloc (.cells #[.int .i64 (m : Int), .int .i64 (k : Int), .slice A cl.length ka] 42)) (w.alloc (.cells #[.int .i64 (m : Int), .int .i64 (k : Int), .slice A cl.length ka] 42)).heap.size A1 k (L.map Int.ofNat) from h1.ext hE0) (h2.ext hE0) HAL.out hN
  have hk0 : (0 : Int) ≤ (k : Int) := by omega
  rcases h1.2 with h0 | ⟨b1, o1, rfl, hb1, hc1⟩
  · omega
  rcases h2.2 with h0 | ⟨b2, o2, rfl, hb2, hc2⟩
  · omega
  have HC1 := hide hc1
  have HC2 := hide hc2
  have HLies := hide hl
  unfold MV.arg
  dsimp only
  obtain ⟨iI, hiI, hzI, hszI, hbyI⟩ := info_parts int_info
  clear hI0 h1 h2 hc1 hc2 hl p
  go_enter Try.func47, Try.ntmps47
  go_wp2_with fail
  refine CS.mono ?_
  rintro e w1 ⟨gd, u, h, R1, rfl, hCut, hcnt, hI1, hL1, hR1, hE1⟩
  obtain ⟨l, hl⟩ : ∃ l, l = (lostTo L k).length := ⟨_, rfl⟩
  have hlk : h + l = k := by omega
  have hlenI : ((lostTo L k).map Int.ofNat).length = l := by rw [List.length_map, hl]
  obtain ⟨Au, cu, rfl, hcu, _⟩ := hI1.form2 hlenI
  have hW1 := hW0.ext hE1
  have hF1 := hE0.trans hE1
  have hi4 : l ≤ maxLen := by unfold maxLen; omega
  have hi5 : iI.bytes * l ≤ 281474976710656 := by rw [hbyI]; omega
  have hl0 : 0 ≤ (l : Int) := by omega
  have hsub : IntKind.i64.wrap ((k : Int) - (l : Int)) = (h : Int) := by rw [IntKind.wrap_i64]; omega
  have hgdl := hL1.lt
  rw [World.size_alloc] at hgdl
  have hl255 : l ≤ 255 := by omega
  have HCut := hide hCut
  have HCnt := hide hcnt
  have HLK := hide hlk
  have HLN := hide hl
  clear hCut hcnt hlk hlenI hl CS
  go_wp2_with (at_make; refine wpList_make_full _ rfl _ _ _ rfl w.heap.size 3 iI _ 1 Try.underlying53 hiI hzI hszI _ _ _ _ l rfl rfl rfl rfl hi5 hi4 hF1.le ?_; intro w2 hO2 hG2)
  have hF2 : Ext w1 w2 := ⟨hG2.os, hG2.tape, hG2.output, hG2.size, fun b hb => hG2.block b hb (by simp)⟩
  obtain ⟨gr, hgr⟩ : ∃ g, g = w1.heap.size := ⟨_, rfl⟩
  have hP2 : OwnI w2 w.heap.size (.slice (some ⟨gr, 0, none⟩) l l) (pks L k h l 0) := by
    unfold OwnI
    rw [pks_zero, List.length_replicate, hgr, ← zero_ints]
    rw [Nat.mul_one] at hO2
    exact hO2
  have hL2 := (hL1.ext hF2).mono hE0.le
  have hI2 := hI1.ext hF2
  have hI2u := hI1.lt
  have hR2 : RowsF w2 (gd + 1) gr R1 (fun a => (dataTo L ch N k).getD a []) k := (RowsTo.toF (by rw [hgr]; exact hR1)).below (hF2.belowAt (by omega))
  have hW2 := hW1.ext hF2
  have hE2 := hF1.trans hF2
  have hgl1 : gd < gr := by omega
  have hgr2 : gr < w2.heap.size := (hP2.lt gr rfl).2
  have hwg : w.heap.size < gd := by omega
  have hub : ∀ b, (Value.slice Au l cu).ownBlock = some b → w.heap.size < b ∧ b < gr := fun b hb => by
    have := hI2u b hb
    rw [World.size_alloc] at this
    omega
  rw [← hgr]
  clear hO2 hG2 hF2 hL1 hI1 hR1 hW1 hW0 hE0 hE1 hF1 hgr hi4 hi5 hiI hzI hszI hbyI hgdl hI2u hsub
  have HUB := hide hub
  clear hub
  go_loopw [37] (fun x wr => ∃ i : Nat, i ≤ l ∧ x = .int .i64 (i : Int) ∧ OwnI wr w.heap.size (.slice (some ⟨gr, 0, none⟩) l l) (pks L k h l i) ∧ Mod w2 wr gr none) (fun x _ => l - (intOf x).toNat)
  case atStart => exact ⟨0, by omega, rfl, hP2, Mod.refl _ _ _⟩
  case round =>
    obtain ⟨i, hi, rfl, hPi, hMi⟩ := hrel
    have hEr : Ext w wr := Below.trans hE2 (hMi.below (by omega) (by omega) (fun k hk => by cases hk))
    by_cases hlt : i < l
    · have kq := (hEr.cell hb1).trans (HC1.out (h + i) (by have := HLK.out; omega))
      rw [getD_mapI (by have := HLK.out; omega)] at kq
      have hq : L.getD (h + i) 0 < k + m := HPl.out.lt _ (Plc.get_mem (by have := HLK.out; omega))
      have HSet := hide (pks_set (L := L) (k := k) (h := h) (l := l) (i := i))
      have hhi : (h : Int) + (i : Int) < (k : Int) := by have := HLK.out; omega
      generalize L.getD (h + i) 0 = q at *
      obtain ⟨hcP, hfP⟩ := hPi.cellI (pks_len _ _ _ _ _) hlt
      have hP3 := hPi.setI (pks_len _ _ _ _ _) i ((q : Int) - (k : Int))
      rw [HSet.out] at hP3
      have hM3 := hMi.trans (Mod.ofRow (ob := none) (grown_setCell wr gr i (.int .i64 ((q : Int) - (k : Int))))) (.inl rfl)
      have hil : (i : Int) < (l : Int) := by omega
      have hsum : IntKind.i64.wrap ((h : Int) + (i : Int)) = ((h + i : Nat) : Int) := by rw [IntKind.wrap_i64]; omega
      have hsq : IntKind.i64.wrap ((q : Int) - (k : Int)) = (q : Int) - (k : Int) := by rw [IntKind.wrap_i64]; omega
      have hhi2 : ((h + i : Nat) : Int) < (k : Int) := by omega
      generalize h + i = hi' at *
      clear hhi
      go_wp2
      go_roundw
      case rel => exact ⟨i + 1, by omega, by go_num, hP3, hM3⟩
      case measure => simp [intOf]; omega
    · obtain rfl : l = i := by omega
      have hL3 := hL2.mod hMi (by omega) (by simp)
      have hI3 : OwnI wr _ _ _ := hI2.mod hMi (fun e => by have := HUB.out _ e; omega) (by simp [Classical.em])
      have hR3 : RowsF wr (gd + 1) gr R1 (fun a => (dataTo L ch N k).getD a []) k := hR2.below (hMi.below (by omega) (Nat.le_refl _) (fun k hk => by cases hk))
      have hW3 := hMi.whole hW2 (by omega) (by simp)
      have hgr3 : gr < wr.heap.size := (hPi.lt gr rfl).2
      obtain ⟨A3, c3, he3, _, hIA3⟩ := hPi.form2 (pks_len _ _ _ _ _)
      simp only [Value.slice.injEq] at he3
      obtain ⟨rfl, _, rfl⟩ := he3
      have CPk := matPick_any ⟨m, k, cl⟩ (pks L k h l l) A (some ⟨gr, 0, none⟩) ka l wr (HLies.out.ext hEr) (by rw [pks_len]; exact hIA3) (by rw [pks_len]; omega)
      rw [HPick.out h l HCut.out HLK.out, pks_len] at CPk
      unfold MV.arg at CPk
      dsimp only at CPk
      obtain ⟨pl, hpl2⟩ : ∃ P, P = cellsOf k (haveC k h L) (l * k) := ⟨_, rfl⟩
      rw [← hpl2] at CPk
      obtain ⟨w3, rfl⟩ : ∃ W, W = wr := ⟨_, rfl⟩
      have HPL := hide hpl2
      clear hL2 hI2 hR2 hW2 hMi hP2 hPi hIA3 hlt hpl2
      go_wp2_with (refine wpList_load_row rfl 42 (.tmp 3) rfl _ rfl _ _ _ _ hW3 Try.underlying42 rfl mat_info ?_)
      refine CPk.mono ?_
      rintro e w4 ⟨v4, rfl, hO4, hE4⟩
      dsimp only at hO4
      obtain ⟨A4, c4, rfl, hc4, hm4, hB4⟩ := hO4.form
      have hW4 := hW3.ext hE4
      have hF4 := hEr.trans hE4
      unfold matV
      go_wp2_with (first
        | (refine wpList_storeW rfl 42 (.tmp 3) (.tmp 57) rfl rfl rfl hW4 rfl mat_info (mat_one rfl) ?_; intro w5 hW5 hG5 hS5; clear hS5)
        | (refine wpList_load_row rfl 42 (.tmp 3) rfl _ rfl _ _ _ _ hW5 Try.underlying42 rfl mat_info ?_))
      have hF5 : Ext w w5 := Below.grown hF4 hG5 hF4.le (fun k hk => by cases hk; omega)
      have hL5 := (hL3.ext hE4).mod (Mod.ofRow (ob := none) hG5) (by omega) (by simp)
      have hI5 : OwnI w5 _ _ _ := (hI3.ext hE4).mod (Mod.ofRow (ob := none) hG5) (fun e => by have := HUB.out _ e; omega) (by simp [Classical.em])
      have hR5 : RowsF w5 (gd + 1) gr R1 (fun a => (dataTo L ch N k).getD a []) k := (hR3.below (hE4.belowAt (by omega))).gLow hG5 (by omega) (by have := hE4.le; omega)
      have hO5 := (Mod.ofRow (ob := none) hG5).own hO4 (fun e => by have := (hO4.lt _ e).1; omega) (by simp [Classical.em])
      have hgr5 : gr < w5.heap.size := by have := hE4.le; have := hG5.size; omega
      have hD5 : RowsAt w5 w5.heap.size (some ⟨gd, 0, none⟩) (dataTo L ch N k).length (dataTo L ch N k) := by
        rw [HDL.out]
        exact hL5.at hR5 (fun _ _ => rfl) HDL.out (by omega)
      have hplm : (⟨l, k, pl⟩ : MV).may = true := by
        have hp := HPL.out
        rw [hp]
        exact rect_may _ (by omega) (by omega)
      have hal5 : alike (dataTo L ch N k) := alike_of fun i hi => HDR.out i (by rw [← HDL.out]; exact hi)
      have CT := rsTimesL_any ⟨l, k, pl⟩ A4 (some ⟨gd, 0, none⟩) c4 k (dataTo L ch N k) w5 hplm ⟨hO5.bytesR, by dsimp only; omega, hc4⟩ hD5 (by dsimp only; rw [HDL.out]; omega) (fun _ => by rw [HDL.out]; omega) hal5 (by rw [HDR.out 0 (by omega)]; exact hN)
      unfold MV.arg at CT
      dsimp only at CT
      rw [HDL.out, Int.toNat_natCast, Int.toNat_natCast] at CT
      have HT0 := hide (show timesL l k (⟨l, k, pl⟩ : MV).at (dataTo L ch N k) = timesL l k (haveC k h L) (dataTo L ch N k) by have hp := HPL.out; rw [hp]; exact times_have _)
      rw [HT0.out] at CT
      have hBp5 := hO5.bytesR
      clear hL3 hI3 hR3 hW3 hE4 hW4 hF4 hG5 hO4 hB4 hEr CPk hD5 hal5 hO5
      have HMay := hide hplm
      clear hplm
      refine CT.mono ?_
      rintro e w6 ⟨gl, R6, rfl, hL6, hR6, hE6⟩
      have hF6 := hF5.trans hE6
      have hLd6 := hL5.ext hE6
      have hI6 := hI5.ext hE6
      have hRd6 := hR5.below (hE6.belowAt (by omega))
      have hW6 := hW5.ext hE6
      have hL6' := hL6.mono hF5.le
      have hgl2 := hL6.lt
      have hgl3 : gr < gl := by omega
      have hBp6 := hBp5.below hE6 (Nat.le_refl _)
      clear hL5 hI5 hR5 hW5 hE6 CT hL6 hBp5
      have HNew := hide (fun a (ha : a < l) => HAdd.out h l HLN.out HLK.out a ha)
      have HOl := hide (fun a (ha : a < l) => times_row (l := l) (k := k) (f := haveC k h L) (HDR.out 0 (by omega)) ha)
      have hR6' : RowsF w6 (gl + 1) w6.heap.size R6 (mixA (fun a => (timesL l k (haveC k h L) (dataTo L ch N k)).getD a []) (fun a => (lackL k L ch N).getD a []) 0) l := by
        rw [mixA_0]
        exact hR6.toF
      obtain ⟨oldF, hOF⟩ : ∃ F : Nat → List UInt8, F = fun a => (timesL l k (haveC k h L) (dataTo L ch N k)).getD a [] := ⟨_, rfl⟩
      obtain ⟨newF, hNF⟩ : ∃ F : Nat → List UInt8, F = fun a => (lackL k L ch N).getD a [] := ⟨_, rfl⟩
      have HOF := hide (fun a => congrFun hOF a)
      have HNF := hide (fun a => congrFun hNF a)
      rw [← hOF, ← hNF] at hR6'
      clear hOF hNF hR6
      go_wp2_with fail
      go_loopw [64] (fun x wr => ∃ i : Nat, i ≤ l ∧ x = .int .i64 (i : Int) ∧ (∃ R', Lst wr w.heap.size gl l R' ∧ RowsF wr (gl + 1) wr.heap.size R' (mixA oldF newF i) l) ∧ Mod w6 wr gl none) (fun x _ => l - (intOf x).toNat)
      case atStart => exact ⟨0, by omega, rfl, ⟨R6, hL6', hR6'⟩, Mod.refl _ _ _⟩
      case round =>
        obtain ⟨i, hi, rfl, ⟨R', hLi, hRi⟩, hMi⟩ := hrel
        have hw6 := hF6.le
        have hEr : Ext w wr := Below.trans hF6 (hMi.below (by omega) (by omega) (fun k hk => by cases hk))
        by_cases hlt : i < l
        · obtain ⟨⟨Al, kl, hRe, hkl, hml, hBl⟩, _⟩ := hRi i hlt
          obtain ⟨hcL, hfL⟩ := hLi.cell hlt
          rw [hRe] at hcL
          obtain ⟨xb, kb, hxb⟩ := HC2.out (h + i) (by have := HLK.out; omega)
          obtain ⟨Ab, kkb, rfl, _, _, hBb⟩ := hxb
          have kb' := (hEr.cell hb2).trans kb
          have hBb' := hEr.bytes hBb
          have hto : (mixA oldF newF i i).length = N := by rw [mixA_at, HOF.out]; exact HOl.out i hlt
          have CA := add_any Al Ab kl kkb 1 (mixA oldF newF i i) (ch.getD (h + i) []) wr (by omega) (by omega) hBl hBb'
          have hnew : Gf.addR (mixA oldF newF i i) 1 (ch.getD (h + i) []) = (newF i, 0) := by
            rw [mixA_at, HOF.out, HNF.out]
            exact HNew.out i hlt
          rw [hnew] at CA
          have HPut := hide (mixA_put oldF newF i)
          have hil : (i : Int) < (l : Int) := by omega
          have hhi3 : h + i < k := by have := HLK.out; omega
          have hsum : IntKind.i64.wrap ((h : Int) + (i : Int)) = ((h + i : Nat) : Int) := by rw [IntKind.wrap_i64]; omega
          have hhi2 : ((h + i : Nat) : Int) < (k : Int) := by omega
          have HRi := hide hRi
          have HHI := hide hhi3
          clear hnew hto hRi hBl hBb hBb' kb hRe hkl hml hhi3
          generalize ch.getD (h + i) [] = bb at *
          generalize mixA oldF newF i i = to at *
          generalize newF i = nw at *
          generalize h + i = hi' at *
          go_wp2_with fail
          refine CA.mono ?_
          rintro e w7 ⟨v7, rfl, hO7, hE7⟩
          obtain ⟨A7, c7, rfl, _, _, _⟩ := hO7.form
          have hL7 := hLi.ext hE7
          obtain ⟨hc7, hf7⟩ := hL7.cell hlt
          obtain ⟨hL8, hG8⟩ := hL7.set hlt (.slice A7 nw.length c7)
          have hgl7 := hLi.lt
          have hnx : NewX (gl + 1) (.slice A7 nw.length c7) := (NewX.own hO7).mono (by omega)
          have hR8 := ((HRi.out.below hE7).mono hE7.le).store hO7.row hnx (Nat.lt_succ_self gl) (Nat.le_refl _) i
          rw [HPut.out] at hR8
          have hM8 := (hMi.trans (Mod.ofExt hE7) (.inl rfl)).trans (Mod.ofRow (ob := none) hG8) (.inl rfl)
          clear hO7 hE7 hG8 hnx hL7
          go_wp2
          go_roundw
          case rel => exact ⟨i + 1, by omega, by go_num, ⟨_, hL8, hR8⟩, hM8⟩
          case measure => simp [intOf]; omega
        · obtain rfl : l = i := by omega
          have hRk : RowsF wr (gl + 1) wr.heap.size R' (fun a => (lackL k L ch N).getD a []) l := hRi.congr fun a ha => by rw [← mixA_all oldF newF ha, HNF.out]
          have hLd7 := hLd6.mod hMi (by omega) (by simp)
          have hI7 : OwnI wr _ _ _ := hI6.mod hMi (fun e => by have := HUB.out _ e; omega) (by simp [Classical.em])
          have hB7 : Below gl w6 wr := hMi.below (by omega) (Nat.le_refl _) (fun k hk => by cases hk)
          have hRd7 := hRd6.below (Below.mono hB7 (by omega))
          have hW7 := hMi.whole hW6 (by omega) (by simp)
          have hBp7 := hBp6.below hB7 (by omega)
          have hgl7 := hLi.lt
          obtain ⟨w7, rfl⟩ : ∃ W, W = wr := ⟨_, rfl⟩
          obtain ⟨Au', cu', hue, _, hIA7⟩ := hI7.form2 (show ((lostTo L k).map Int.ofNat).length = l by rw [List.length_map]; exact HLN.out.symm)
          simp only [Value.slice.injEq] at hue
          obtain ⟨rfl, _, rfl⟩ := hue
          have CC := columns_any ⟨l, k, pl⟩ A4 Au c4 cu (lostTo L k) w7 HMay.out ⟨hBp7.mono (by omega), by dsimp only; omega, hc4⟩ (by rw [← HLN.out]; exact hIA7) (by rw [← HLN.out]; exact hl255) (fun b hb => by have := (lostTo_at hb).1; dsimp only; omega)
          unfold MV.arg at CC
          dsimp only at CC
          rw [← HLN.out, Int.toNat_natCast] at CC
          have HCo := hide (show cellsOf l (fun a b => (⟨l, k, pl⟩ : MV).at a ((lostTo L k).getD b 0)) (l * l) = cellsOf l (lostC k L) (l * l) by have hp := HPL.out; rw [hp]; exact cols_lost HLN.out HLK.out)
          rw [HCo.out] at CC
          obtain ⟨sl, hsl⟩ : ∃ S, S = cellsOf l (lostC k L) (l * l) := ⟨_, rfl⟩
          rw [← hsl] at CC
          have HSL := hide hsl
          clear hLd6 hI6 hRd6 hW6 hBp6 hB7 hMi hL6' hR6' hRi hlt hIA7 hBp7 hsl
          go_wp2_with (refine wpList_load_row rfl 42 (.tmp 3) rfl _ rfl _ _ _ _ hW7 Try.underlying42 rfl mat_info ?_)
          refine CC.mono ?_
          rintro e w8 ⟨v8, rfl, hO8, hE8⟩
          obtain ⟨A8, c8, rfl, hc8, hm8, hB8⟩ := hO8.form
          have CI := matInverse_any ⟨l, l, sl⟩ A8 c8 w8 ⟨hB8, by dsimp only; omega, hc8⟩
          have HIE := hide (show (⟨l, l, sl⟩ : MV).invE = (⟨l, l, cellsOf l (lostY k L X) (l * l)⟩, 0) by have hs := HSL.out; rw [hs]; exact inv_lostE (by omega) HLN.out (by have := HLK.out; omega) (HInv.out h HCut.out HCnt.out))
          rw [HIE.out] at CI
          unfold MV.arg at CI
          dsimp only at CI
          obtain ⟨yl, hyl⟩ : ∃ S, S = cellsOf l (lostY k L X) (l * l) := ⟨_, rfl⟩
          rw [← hyl] at CI
          have HYL := hide hyl
          clear hyl hB8 hO8
          unfold matV
          go_wp2_with fail
          refine CI.mono ?_
          rintro e w9 ⟨v9, rfl, hO9, hE9⟩
          dsimp only at hO9
          obtain ⟨A9, c9, rfl, hc9, hm9, hB9⟩ := hO9.form
          have hE79 := hE8.trans hE9
          have hWn := Whole.new w9 42 #[.int .i64 0, .int .i64 0, .slice none 0 0]
          have hEn := extNew w9 (.cells #[.int .i64 0, .int .i64 0, .slice none 0 0] 42)
          unfold matV
          go_wp2_with (first
            | (refine wpList_storeW rfl 42 (.tmp 15) (.tmp 89) rfl rfl rfl hWn rfl mat_info (mat_one rfl) ?_; intro w10 hW10 hG10 hS10; clear hS10)
            | (refine wpList_load_row rfl 42 (.tmp 15) rfl _ rfl _ _ _ _ hW10 Try.underlying42 rfl mat_info ?_))
          have hE7n := hE79.trans hEn
          have hE10 : Ext w7 w10 := Below.grown hE7n hG10 hE7n.le (fun k hk => by cases hk; exact hE79.le)
          have hL10 := hLi.ext hE10
          have hI10 : OwnI w10 _ _ _ := hI7.ext hE10
          have hLd10 := hLd7.ext hE10
          have hRk10 := hRk.below hE10
          have hRd10 := hRd7.below (hE10.belowAt (by omega))
          have hF10 := hEr.trans hE10
          have hB10 := hB9.below (Below.grown hEn hG10 hEn.le (fun k hk => by cases hk; exact Nat.le_refl _)) (Nat.le_refl _)
          have hs10 := hE10.le
          have hlk10 : RowsAt w10 w10.heap.size (some ⟨gl, 0, none⟩) (lackL k L ch N).length (lackL k L ch N) := by
            rw [lackL_len, ← HLN.out]
            exact hL10.at hRk10 (fun _ _ => rfl) (by rw [lackL_len]; exact HLN.out.symm) hs10
          have hLkL := hide (show (lackL k L ch N).length = l by rw [lackL_len]; exact HLN.out.symm)
          have hLkR := hide (fun i (hi : i < l) => show ((lackL k L ch N).getD i []).length = N by rw [lackL_at (by rw [← HLN.out]; exact hi), rowB_len])
          have hyM : (⟨l, l, yl⟩ : MV).may = true := by
            have hy := HYL.out
            rw [hy]
            exact square_may _ hl255
          have CT := rsTimesL_any ⟨l, l, yl⟩ A9 (some ⟨gl, 0, none⟩) c9 l (lackL k L ch N) w10 hyM ⟨hB10.mono (by have := hEn.le; have := hG10.size; omega), by dsimp only; omega, hc9⟩ hlk10 (by dsimp only; rw [hLkL.out]; omega) (fun h => by rw [hLkL.out]; dsimp only at h; omega) (alike_of fun i hi => hLkR.out i (by rw [← hLkL.out]; exact hi)) (by
            rcases Nat.eq_zero_or_pos l with h0 | h0
            · have := hLkL.out
              rw [h0] at this
              rw [List.eq_nil_of_length_eq_zero this]
              simp
            · rw [hLkR.out 0 h0]
              exact hN)
          unfold MV.arg at CT
          dsimp only at CT
          rw [hLkL.out, Int.toNat_natCast] at CT
          have HT0' := hide (show timesL l l (⟨l, l, yl⟩ : MV).at (lackL k L ch N) = timesL l l (lostY k L X) (lackL k L ch N) by have hy := HYL.out; rw [hy]; exact times_lost _)
          rw [HT0'.out] at CT
          clear hI7 hLi hLd7 hRk hRd7 hW7 hE8 hE9 hE79 hE7n hEn hWn hG10 hW10 hO9 hB9 hB10 hlk10 hyM CC CI hL10 hRk10
          refine CT.mono ?_
          rintro e w11 ⟨g3, R11, rfl, hL11, hR11, hE11⟩
          have hF11 := hF10.trans hE11
          have hLd11 := hLd10.ext hE11
          have hRd11 := hRd10.below (hE11.belowAt (by omega))
          have hg3 := hL11.lt
          have hgd3 : gd < g3 := by omega
          have hFin := hide (show placed (lostTo L k) (dataTo L ch N k) (timesL l l (lostY k L X) (lackL k L ch N)) l = res by
            have := HBack.out h HCut.out HCnt.out
            rwa [← HLN.out] at this)
          generalize timesL l l (lostY k L X) (lackL k L ch N) = rows at *
          have hI11 : OwnI w11 _ _ _ := hI10.ext hE11
          have hR11' := hR11.toF
          have hgr11 : gr ≤ w11.heap.size := by have := hE11.le; omega
          clear hLd10 hRd10 hE10 hE11 CT hF10 hI10 hR11 hs10
          go_wp2_with fail
          go_loopw [95] (fun x wr => ∃ i : Nat, i ≤ l ∧ x = .int .i64 (i : Int) ∧ (∃ R', Lst wr w.heap.size gd k R' ∧ RowsF wr (gd + 1) wr.heap.size R' (fun a => (placed (lostTo L k) (dataTo L ch N k) rows i).getD a []) k) ∧ Mod w11 wr gd none) (fun x _ => l - (intOf x).toNat)
          case atStart => exact ⟨0, by omega, rfl, ⟨R1, hLd11, hRd11.mono (by omega)⟩, Mod.refl _ _ _⟩
          case round =>
            obtain ⟨i, hi, rfl, ⟨R', hLi, hRi⟩, hMi⟩ := hrel
            have hw11 := hF11.le
            have hEr2 : Ext w wr := Below.trans hF11 (hMi.below (by omega) (by omega) (fun k hk => by cases hk))
            by_cases hlt : i < l
            · have hI12 : OwnI wr _ _ _ := hI11.mod hMi (hI11.notLst hLd11) (by simp [Classical.em])
              obtain ⟨Au', cu', hue, _, hIA⟩ := hI12.form2 (show ((lostTo L k).map Int.ofNat).length = l by rw [List.length_map]; exact HLN.out.symm)
              simp only [Value.slice.injEq] at hue
              obtain ⟨rfl, _, rfl⟩ := hue
              rcases hIA.2 with h0 | ⟨bu, ou, rfl, hbu, hcu2⟩
              · omega
              have kz := hcu2 i hlt
              rw [getD_mapI (by rw [← HLN.out]; exact hlt)] at kz
              have hzk := (lostTo_at (show i < (lostTo L k).length by rw [← HLN.out]; exact hlt)).1
              have hL12 := hL11.mod hMi (by omega) (by simp)
              obtain ⟨kr, _⟩ := hL12.cell hlt
              have hR12 := (hR11'.gLow hMi.toG (by omega) (Nat.le_refl _)) i hlt
              obtain ⟨hro, hnx⟩ := hR12
              have hPN := hide (fun a => placed_next (rows := rows) (a := a) (show (lostTo L k).getD i 0 < (dataTo L ch N k).length by rw [HDL.out]; exact hzk))
              generalize (lostTo L k).getD i 0 = z at *
              obtain ⟨As, ks, hRe, q1, q2, q3⟩ := hro
              replace hRe : R11 i = .slice As (rows.getD i []).length ks := hRe
              rw [hRe] at kr hnx
              obtain ⟨hcz, hfz⟩ := hLi.cell hzk
              have hro2 : RowOf wr w11.heap.size (.slice As (rows.getD i []).length ks) (rows.getD i []) := ⟨As, ks, rfl, q1, q2, q3⟩
              have hL13 := (hLi.set hzk (.slice As (rows.getD i []).length ks)).1
              have hM13 := hMi.trans (Mod.ofRow (ob := none) (hLi.set hzk (.slice As (rows.getD i []).length ks)).2) (.inl rfl)
              have hR13 := (hRi.store (hro2.up hMi.size) (hnx.mono (by omega)) (Nat.lt_succ_self gd) (Nat.le_refl _) z).congr (fun a _ => hPN.out a)
              have hil : (i : Int) < (l : Int) := by omega
              have hzkI : (z : Int) < (k : Int) := by omega
              clear hro2 hRi hIA hcu2 hRe q1 q2 q3 hI12
              generalize rows.getD i [] = rw' at *
              go_wp2
              go_roundw
              case rel => exact ⟨i + 1, by omega, by go_num, ⟨_, hL13, hR13⟩, hM13⟩
              case measure => simp [intOf]; omega
            · obtain rfl : l = i := by omega
              have hFinal := hLi.made (lo := gd + 1) (ls := res) (fun a ha => by
                have := hRi a ha
                rw [hFin.out] at this
                exact this) HTL.out (Nat.lt_succ_self gd) (by omega)
              clear hLi hRi
              go_wp2
              go_ret
              exact ⟨_, rfl, hFinal, hEr2⟩
end Go.Proofs.Ytbfkknoeaekajaa
