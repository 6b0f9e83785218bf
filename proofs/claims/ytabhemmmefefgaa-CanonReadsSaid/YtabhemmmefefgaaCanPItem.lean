/- Contracts of the program's items: itemOf, isRow, write, readItem. Contract of the program's readItem. -/
import Derived.Test.YtabhemmmefefgaaCanBits
import Derived.Test.YtabhemmmefefgaaCanPCount
import Derived.Test.YtabhemmmefefgaaBitWriter
import Derived.Test.YtabhemmmefefgaaBitReader
import Derived.Test.YtabhemmmefefgaaCanRefGet
namespace Go.Proofs.Ytabhemmmefefgaa
open Go.RowKit Len Can

/-- An item. -/
def Can.itemV (x m : Nat) : Array Value := #[.int .u8 (x : Int), .int .i64 (m : Int)]
theorem item_info : (Try.prog.info? 67).map (·.size) = some 2 := by kernel_rfl
theorem Can.itemV_one (x m : Nat) : (itemV x m).all (·.oneCell') = true := by
  simp [itemV]
  exact ⟨rfl, rfl⟩

set_option maxHeartbeats 1000000 in
theorem isRow_any (x m : Nat) (hx : x < 256) (w : World) : Calls Try.prog 39 #[.agg (itemV x m)] w fun e w' => e = .returned (.bool (decide (x = 0))) ∧ Ext w w' := by
  have hE1 := extNew w (.cells (itemV x m) 67)
  have hW1 := Whole.new w 67 (itemV x m)
  have c0 := hW1.at 0 (u := .int .u8 (x : Int)) rfl
  have HG := hide (show decide (x = 0) = ((x : Int) == 0) by
    by_cases h : x = 0
    · subst h; rfl
    · rw [decide_eq_false h]
      symm
      rw [beq_eq_false_iff_ne]
      omega)
  generalize decide (x = 0) = r at *
  generalize itemV x m = V at *
  go_enter Try.func39, Try.ntmps39
  go_wp2
  go_ret
  exact ⟨ret_bool HG.out.symm, hE1⟩

/-- The item that lengths begin with. -/
def Can.headM (x : UInt8) (r : List UInt8) : Nat := if x = 0 then zrun 63 r + 1 else 1
set_option maxHeartbeats 1000000 in
theorem itemOf_any (A : Option Addr) (n c : Nat) (x : UInt8) (r : List UInt8) (w : World) (hr : r.length ≤ 400) (h : Bytes w w.heap.size A n (x :: r)) : Calls Try.prog 34 #[.slice A n c] w fun e w' => e = .returned (.agg (itemV x.toNat (headM x r))) ∧ Ext w w' := by
  have hl := h.1
  subst hl
  have hE1 := extNew w (.cells #[.int .u8 0, .int .i64 0] 67)
  have hW1 := Whole.new w 67 #[.int .u8 0, .int .i64 0]
  rcases (hE1.bytes h).2 with h0 | ⟨b, o, rfl, hB, hc⟩
  · simp at h0
  have hc0 := hc 0 (by simp)
  rw [Nat.add_zero, List.getD_cons_zero] at hc0
  have hx8 := UInt8.toNat_lt x
  have hinf : (Try.prog.info? 67).map (·.size) = some (itemV x.toNat (headM x r)).size := item_info
  by_cases h0 : x = 0
  · subst h0
    have hz := zrun_le 63 r
    have HZ := hide (show ∀ i, i < zrun 63 r → r.getD i 0 = 0 from fun i hi => by
      have := congrArg (fun l => l[i]?) (zrun_zero 63 r)
      simp only [List.getElem?_take, if_pos hi, List.getElem?_replicate] at this
      rw [List.getD_eq_getElem?_getD, this]
      rfl)
    have HS := hide (show zrun 63 r < 63 → zrun 63 r < r.length → r.getD (zrun 63 r) 0 ≠ 0 from fun h1 h2 => zrun_stop 63 r h1 _ (by rw [List.head?_drop, List.getD_eq_getElem?_getD, List.getElem?_eq_getElem h2]; rfl))
    have HM := hide (show headM 0 r = zrun 63 r + 1 from if_pos rfl)
    generalize zrun 63 r = m at *
    have HC := hide (show ∀ i, i < r.length → (w.alloc (.cells #[.int .u8 0, .int .i64 0] 67)).cell? ⟨b, o + (i + 1), none⟩ = some (.int .u8 ((r.getD i 0).toNat : Int)) from fun i hi => hc (i + 1) (by simp; omega))
    have hmin : ∃ M : Int, (if (64 : Int) < ((r.length : Int) + 1) then 64 else (r.length : Int) + 1) = M ∧ M = (min (r.length + 1) 64 : Nat) := ⟨_, rfl, by split <;> omega⟩
    obtain ⟨M, hM, hM2⟩ := hmin
    have HMn := hide hM
    have HM2 := hide hM2
    clear hc h hM hM2
    change (w.alloc (.cells #[.int .u8 0, .int .i64 0] 67)).cell? ⟨b, o, none⟩ = some (.int .u8 0) at hc0
    clear hinf
    go_enter Try.func34, Try.ntmps34
    go_wp2_with fail
    go_loopw [3] (fun a wq => ∃ j : Nat, j ≤ m ∧ a = .int .i64 ((j + 1 : Nat) : Int) ∧ wq = w.alloc (.cells #[.int .u8 0, .int .i64 0] 67)) (fun a _ => 64 - (intOf a).toNat)
    case atStart => exact ⟨0, by omega, rfl, rfl⟩
    case round =>
      obtain ⟨j, hj, rfl, rfl⟩ := hrel
      have hM2 := HM2.out
      by_cases hjm : j < m
      · have h0j := HZ.out j hjm
        have hcj := HC.out j (by omega)
        rw [h0j] at hcj
        change (w.alloc (.cells #[.int .u8 0, .int .i64 0] 67)).cell? ⟨b, o + (j + 1), none⟩ = some (.int .u8 0) at hcj
        have hjM : ((j + 1 : Nat) : Int) < M := by omega
        have hjr : j + 1 < r.length + 1 := by omega
        clear h0j hM2
        go_wp2_with (refine wpList_min rfl (.tmp 14) (.const (.int .i64 64)) rfl rfl rfl HMn.out ?_)
        go_roundw
        case rel => exact ⟨j + 1, by omega, by go_num, trivial⟩
        case measure => simp [intOf]; omega
      · obtain rfl : j = m := by omega
        by_cases hjM : ((j + 1 : Nat) : Int) < M
        · have hne := HS.out (by omega) (by omega)
          have hcj := HC.out j (by omega)
          have hy8 := UInt8.toNat_lt (r.getD j 0)
          have hyne : (r.getD j 0).toNat ≠ 0 := fun e => hne (UInt8.toNat_inj.1 e)
          generalize (r.getD j 0).toNat = y at *
          have hyb : ((y : Int) == 0) = false := by rw [beq_eq_false_iff_ne]; omega
          have hjr : j + 1 < r.length + 1 := by omega
          clear hne hM2 hyne
          go_wp2_with (refine wpList_min rfl (.tmp 14) (.const (.int .i64 64)) rfl rfl rfl HMn.out ?_)
          refine bodyPost_ret (results_cell_row rfl _ _ _ _ _ _ _ rfl (Whole.new w _ _) Try.underlying67 rfl item_info) rfl ?_
          exact ⟨by rw [HM.out]; rfl, extNew w _⟩
        · clear hM2
          go_wp2_with (refine wpList_min rfl (.tmp 14) (.const (.int .i64 64)) rfl rfl rfl HMn.out ?_)
          refine bodyPost_ret (results_cell_row rfl _ _ _ _ _ _ _ rfl (Whole.new w _ _) Try.underlying67 rfl item_info) rfl ?_
          exact ⟨by rw [HM.out]; rfl, extNew w _⟩
  · have hx0 : (0 : Int) < (x.toNat : Int) := by
      have : x.toNat ≠ 0 := fun e => h0 (UInt8.toNat_inj.1 e)
      omega
    have HM := hide (show headM x r = 1 from if_neg h0)
    have hE5 := extNew w (.cells (itemV x.toNat 1) 67)
    have hW5 := Whole.new w 67 (itemV x.toNat 1)
    go_enter Try.func34, Try.ntmps34
    go_wp2
    refine bodyPost_ret (results_cell_row rfl _ _ _ _ _ _ _ rfl hW5 Try.underlying67 rfl item_info) rfl ?_
    exact ⟨by rw [HM.out], hE5⟩

/-- The bits of an item. -/
def Can.itemB (x m : Nat) : List Bool := Bit.num x 4 ++ if x = 0 then Bit.num (m - 1) 6 else []
theorem Can.put4I {x : Nat} (h : x < 16) : Bit.putErr x 4 = 0 ∧ Bit.putBits x 4 = Bit.num x 4 := Bit.put_good (decide_eq_true ⟨by omega, by omega, h⟩)
theorem Can.put6I {x : Nat} (h : x < 64) : Bit.putErr x 6 = 0 ∧ Bit.putBits x 6 = Bit.num x 6 := Bit.put_good (decide_eq_true ⟨by omega, by omega, h⟩)
set_option maxHeartbeats 100000 in
set_option maxRecDepth 100000 in
theorem itemWrite_any (x m : Nat) (hx : x < 16) (hm : x = 0 → 1 ≤ m ∧ m ≤ 64) {w : World} {base g : Nat} {ob : Option Nat} {B : List Bool} (h : Wrt w base g ob B) (hfit : B.length ≤ 800000000) :
    Calls Try.prog 35 #[.agg (itemV x m), .pointer (some ⟨g, 0, none⟩)] w fun e w' => e = .returned (.tuple #[]) ∧ ∃ ob', Wrt w' base g ob' (B ++ itemB x m) ∧ NewOb w ob ob' ∧ Mod w w' g ob := by
  have hE1 := extNew w (.cells (itemV x m) 67)
  have hW1 := Whole.new w 67 (itemV x m)
  have c0 := hW1.at 0 (u := .int .u8 (x : Int)) rfl
  have CP := put_any (h.ext hE1) x 4 (by omega)
  rw [(put4I hx).1, (put4I hx).2] at CP
  have CR := fun W => isRow_any x m (by omega) W
  have HN := hide (Bit.num_length x 4)
  have HI := hide (show itemB x m = Bit.num x 4 ++ if x = 0 then Bit.num (m - 1) 6 else [] from rfl)
  have hgl := h.lt
  have hne := h.ne
  have hob := h.ob
  obtain ⟨V, hV⟩ : ∃ V, V = itemV x m := ⟨_, rfl⟩
  have HVs := hide (show V.size = 2 by rw [hV]; rfl)
  have HV1 := hide (show V[1]? = some (.int .i64 (m : Int)) by rw [hV]; rfl)
  rw [← hV] at hE1 hW1 c0 CP CR ⊢
  clear hV
  go_enter Try.func35, Try.ntmps35
  go_wp2_with fail
  refine CP.mono ?_
  rintro e w2 ⟨rfl, ob2, hR2, hO2, hM2⟩
  have hW2 := hM2.whole hW1 (by omega) (fun e => by have := (hob _ e).2; omega)
  have hMw : Mod w w2 g ob := (Mod.ofExt hE1).trans hM2 (.inl rfl)
  have hNw : NewOb w ob ob2 := (NewOb.same w ob).trans hE1.le hO2
  have hsz := hE1.le
  have hg2 : w.heap.size < w2.heap.size := hW2.lt
  clear hW1 c0 CP hE1 hO2 hM2
  have hinf : (Try.prog.info? 67).map (·.size) = some V.size := by rw [HVs.out]; exact item_info
  by_cases h0 : x = 0
  · rw [decide_eq_true h0] at CR
    have hm0 := hm h0
    have HI2 := hide (show itemB x m = Bit.num x 4 ++ Bit.num (m - 1) 6 by rw [HI.out, if_pos h0])
    go_wp2_with (refine wpList_load_row rfl 67 (.tmp 2) rfl _ rfl _ _ _ _ hW2 Try.underlying67 rfl hinf ?_)
    refine (CR _).mono ?_
    rintro e w3 ⟨rfl, hE3⟩
    have hW3 := hW2.ext hE3
    have c1 := hW3.at 1 HV1.out
    have CP := put_any (hR2.ext hE3) (m - 1) 6 (by rw [List.length_append, HN.out]; omega)
    rw [(put6I (x := m - 1) (by omega)).1, (put6I (x := m - 1) (by omega)).2] at CP
    have hm1 : (1 : Int) ≤ (m : Int) := by omega
    have hm64 : (m : Int) ≤ 64 := by omega
    have hcv : ((m - 1 : Nat) : Int) = (m : Int) - 1 := by omega
    rw [hcv] at CP
    have HCv := hide hcv
    clear hcv CR hm hm0
    go_wp2_with fail
    refine CP.mono ?_
    rintro e w4 ⟨rfl, ob4, hR4, hO4, hM4⟩
    have hE23 := Mod.ofExt (g := g) (ob := ob2) hE3
    have hMf := hMw.trans (hE23.trans hM4 (.inl rfl)) hNw
    have hNf := hNw.trans hMw.size ((NewOb.same w2 ob2).trans hE3.le hO4)
    go_wp2
    go_end0
    refine ⟨rfl, ob4, ?_, hNf, hMf⟩
    rw [HI2.out, ← List.append_assoc]
    exact hR4
  · rw [decide_eq_false h0] at CR
    have HI2 := hide (show itemB x m = Bit.num x 4 by rw [HI.out, if_neg h0, List.append_nil])
    go_wp2_with (refine wpList_load_row rfl 67 (.tmp 2) rfl _ rfl _ _ _ _ hW2 Try.underlying67 rfl hinf ?_)
    refine (CR _).mono ?_
    rintro e w3 ⟨rfl, hE3⟩
    clear CR
    go_wp2
    go_end0
    refine ⟨rfl, ob2, ?_, hNw, hMw.trans (Mod.ofExt (ob := ob2) hE3) hNw⟩
    rw [HI2.out]
    exact hR2.ext hE3
end Go.Proofs.Ytabhemmmefefgaa

namespace Go.Proofs.Ytabhemmmefefgaa
open Go.RowKit Len Can

/-- The item at place q: its length, its symbols, the error, the place behind it. -/
def Can.itemE (b : List UInt8) (q : Nat) : (Nat × Nat) × Int × Nat :=
  if Bit.getErr (8 * b.length - q) 4 = 0 then
    if Bit.getNum b q 4 = 0 then
      if Bit.getErr (8 * b.length - (q + 4)) 6 = 0 then ((0, Bit.getNum b (q + 4) 6 + 1), 0, q + 10)
      else ((0, 0), 1, q + 4)
    else ((Bit.getNum b q 4, 1), 0, q + 4)
  else ((0, 0), 1, q)
def ItemAt (w : World) (base g : Nat) (b : List UInt8) (r : (Nat × Nat) × Int × Nat) (e : Ending) (w' : World) : Prop :=
  e = .returned (.tuple #[.agg (itemV r.1.1 r.1.2), .int .i64 r.2.1]) ∧ Rdr w' base g b r.2.2 ∧ Mod w w' g none

set_option maxHeartbeats 1000000 in
set_option maxRecDepth 100000 in
theorem readItem_any {w : World} {base g q : Nat} {b : List UInt8} (h : Rdr w base g b q) : Calls Try.prog 38 #[.pointer (some ⟨g, 0, none⟩)] w (ItemAt w base g b (itemE b q)) := by
  have hE1 := extNew w (.cells (itemV 0 0) 67)
  have hW1 := Whole.new w 67 (itemV 0 0)
  have hgl := h.lt
  have CG := get_any (h.ext hE1) 4
  have hL := getNum_lt b q 4
  change Bit.getNum b q 4 < 16 at hL
  by_cases h4 : Bit.getErr (8 * b.length - q) 4 = 0
  · unfold Bit.getTo at CG
    rw [h4, if_pos rfl] at CG
    rw [show (4 : Int).toNat = 4 from rfl] at CG
    have HU := hide (show Bit.getNum b q 4 ≠ 0 → itemE b q = ((Bit.getNum b q 4, 1), 0, q + 4) from fun h0 => by unfold itemE; rw [if_pos h4, if_neg h0])
    have HZ := hide (show Bit.getNum b q 4 = 0 → Bit.getErr (8 * b.length - (q + 4)) 6 = 0 → itemE b q = ((0, Bit.getNum b (q + 4) 6 + 1), 0, q + 10) from fun h0 h6 => by unfold itemE; rw [if_pos h4, if_pos h0, if_pos h6])
    have HZ1 := hide (show Bit.getNum b q 4 = 0 → Bit.getErr (8 * b.length - (q + 4)) 6 ≠ 0 → itemE b q = ((0, 0), 1, q + 4) from fun h0 h6 => by unfold itemE; rw [if_pos h4, if_pos h0, if_neg h6])
    generalize Bit.getNum b q 4 = L at *
    generalize itemE b q = res at *
    clear h4
    unfold itemV at hW1 hE1 CG
    go_enter Try.func38, Try.ntmps38
    go_wp2_with fail
    refine CG.mono ?_
    rintro e w2 ⟨rfl, hR2, hM2⟩
    have hW2 := hM2.whole hW1 (by omega) (by simp)
    have hMw : Mod w w2 g none := (Mod.ofExt hE1).trans hM2 (.inl rfl)
    have hsz := hE1.le
    clear CG hE1 hW1 hM2
    by_cases h0 : L = 0
    · subst h0
      have CG := get_any hR2 6
      have hK := getNum_lt b (q + 4) 6
      change Bit.getNum b (q + 4) 6 < 64 at hK
      by_cases h6 : Bit.getErr (8 * b.length - (q + 4)) 6 = 0
      · unfold Bit.getTo at CG
        rw [h6, if_pos rfl] at CG
        rw [show q + 4 + (6 : Int).toNat = q + 10 by rw [show (6 : Int).toNat = 6 from rfl]] at CG
        have HRes := hide (HZ.out rfl h6)
        clear h6 HU HZ HZ1
        generalize Bit.getNum b (q + 4) 6 = K at *
        go_wp2_with fail
        refine CG.mono ?_
        rintro e w3 ⟨rfl, hR3, hM3⟩
        have hgw : w.heap.size < w2.heap.size := hW2.lt
        have hW3 := hM3.whole hW2 (by omega) (by simp)
        have hMv := hMw.trans hM3 (.inl rfl)
        have hgw3 := hW3.lt
        clear CG hW2 hR2 hM3
        have hinf : (Try.prog.info? 67).map (·.size) = some (itemV 0 (K + 1)).size := item_info
        have hone := itemV_one 0 (K + 1)
        have he : Value.agg #[.int .u8 0, .int .i64 ((K : Int) + 1)] = .agg (itemV 0 (K + 1)) := rfl
        have HE := hide he
        clear he
        obtain ⟨V, hV⟩ : ∃ V, V = itemV 0 (K + 1) := ⟨_, rfl⟩
        rw [← hV] at HE hinf hone
        have HV := hide hV
        have hss : V.size = 2 := by rw [hV]; rfl
        clear hV
        go_wp2_with (refine wpList_storeW rfl 67 (.tmp 2) (.tmp 33) rfl rfl HE.out hW3 hss hinf hone ?_; intro w5 hW5 hG5 _)
        refine bodyPost_ret (results_row2 rfl _ rfl rfl (run_loadVar_row _ _ _ _ _ _ _ hW5 Try.underlying67 rfl hinf)) rfl ?_
        rw [HRes.out, HV.out]
        refine ⟨rfl, hR3.below (B := w.heap.size) (Below.grown (Below.refl _ _) hG5 (by omega) (fun k hk => by cases hk; omega)) hgl, hMv.fresh hG5 (fun k hk => by cases hk; omega)⟩
      · have hg1 : Bit.getErr (8 * b.length - (q + 4)) 6 = 1 := getErr_le (n := 6) (by omega) h6
        unfold Bit.getTo at CG
        rw [hg1, if_neg (by omega)] at CG
        have HRes := hide (HZ1.out rfl h6)
        clear h6 HU HZ HZ1 hg1
        generalize Bit.getNum b (q + 4) 6 = K at *
        go_wp2_with fail
        refine CG.mono ?_
        rintro e w3 ⟨rfl, hR3, hM3⟩
        have hgw : w.heap.size < w2.heap.size := hW2.lt
        have hW3 := hM3.whole hW2 (by omega) (by simp)
        have hMv := hMw.trans hM3 (.inl rfl)
        have hgw3 := hW3.lt
        clear CG hW2 hR2 hM3
        have hinf : (Try.prog.info? 67).map (·.size) = some (itemV 0 0).size := item_info
        have hone := itemV_one 0 0
        have HE := hide (show Value.agg #[.int .u8 0, .int .i64 0] = .agg (itemV 0 0) from rfl)
        obtain ⟨V, hV⟩ : ∃ V, V = itemV 0 0 := ⟨_, rfl⟩
        rw [← hV] at HE hinf hone
        have HV := hide hV
        have hss : V.size = 2 := by rw [hV]; rfl
        clear hV
        go_wp2_with (refine wpList_storeW rfl 67 (.tmp 2) (.tmp 28) rfl rfl HE.out hW3 hss hinf hone ?_; intro w5 hW5 hG5 _)
        refine bodyPost_ret (results_row2 rfl _ rfl rfl (run_loadVar_row _ _ _ _ _ _ _ hW5 Try.underlying67 rfl hinf)) rfl ?_
        rw [HRes.out, HV.out]
        refine ⟨rfl, hR3.below (B := w.heap.size) (Below.grown (Below.refl _ _) hG5 (by omega) (fun k hk => by cases hk; omega)) hgl, hMv.fresh hG5 (fun k hk => by cases hk; omega)⟩
    · have HRes := hide (HU.out h0)
      have hL0 : (0 : Int) < (L : Int) := by omega
      have hL256 : L < 256 := by omega
      have hu8 : IntKind.u8.wrap (L : Int) = (L : Int) := by simp [IntKind.wrap, IntKind.bits, IntKind.signed]; omega
      have hgw : w.heap.size < w2.heap.size := hW2.lt
      have hinf : (Try.prog.info? 67).map (·.size) = some (itemV L 1).size := item_info
      have hone := itemV_one L 1
      have HE := hide (show Value.agg #[.int .u8 (L : Int), .int .i64 1] = .agg (itemV L 1) from rfl)
      clear HU HZ HZ1
      obtain ⟨V, hV⟩ : ∃ V, V = itemV L 1 := ⟨_, rfl⟩
      rw [← hV] at HE hinf hone
      have HV := hide hV
      have hss : V.size = 2 := by rw [hV]; rfl
      clear hV
      go_wp2_with (refine wpList_storeW rfl 67 (.tmp 2) (.tmp 20) rfl rfl HE.out hW2 hss hinf hone ?_; intro w5 hW5 hG5 _)
      refine bodyPost_ret (results_row2 rfl _ rfl rfl (run_loadVar_row _ _ _ _ _ _ _ hW5 Try.underlying67 rfl hinf)) rfl ?_
      rw [HRes.out, HV.out]
      refine ⟨rfl, hR2.below (B := w.heap.size) (Below.grown (Below.refl _ _) hG5 (by omega) (fun k hk => by cases hk; omega)) hgl, hMw.fresh hG5 (fun k hk => by cases hk; omega)⟩
  · have hg1 : Bit.getErr (8 * b.length - q) 4 = 1 := getErr_le (n := 4) (by omega) h4
    unfold Bit.getTo at CG
    rw [hg1, if_neg (by omega)] at CG
    have HRes := hide (show itemE b q = ((0, 0), 1, q) by unfold itemE; rw [if_neg h4])
    generalize Bit.getNum b q 4 = L at *
    generalize itemE b q = res at *
    clear h4 hg1
    unfold itemV at hW1 hE1 CG
    go_enter Try.func38, Try.ntmps38
    go_wp2_with fail
    refine CG.mono ?_
    rintro e w2 ⟨rfl, hR2, hM2⟩
    have hW2 := hM2.whole hW1 (by omega) (by simp)
    have hMw : Mod w w2 g none := (Mod.ofExt hE1).trans hM2 (.inl rfl)
    have hgw : w.heap.size < w2.heap.size := hW2.lt
    clear CG hE1 hW1 hM2
    have hinf : (Try.prog.info? 67).map (·.size) = some (itemV 0 0).size := item_info
    have hone := itemV_one 0 0
    have HE := hide (show Value.agg #[.int .u8 0, .int .i64 0] = .agg (itemV 0 0) from rfl)
    obtain ⟨V, hV⟩ : ∃ V, V = itemV 0 0 := ⟨_, rfl⟩
    rw [← hV] at HE hinf hone
    have HV := hide hV
    have hss : V.size = 2 := by rw [hV]; rfl
    clear hV
    go_wp2_with (refine wpList_storeW rfl 67 (.tmp 2) (.tmp 14) rfl rfl HE.out hW2 hss hinf hone ?_; intro w5 hW5 hG5 _)
    refine bodyPost_ret (results_row2 rfl _ rfl rfl (run_loadVar_row _ _ _ _ _ _ _ hW5 Try.underlying67 rfl hinf)) rfl ?_
    rw [HRes.out, HV.out]
    refine ⟨rfl, hR2.below (B := w.heap.size) (Below.grown (Below.refl _ _) hG5 (by omega) (fun k hk => by cases hk; omega)) hgl, hMw.fresh hG5 (fun k hk => by cases hk; omega)⟩
end Go.Proofs.Ytabhemmmefefgaa
