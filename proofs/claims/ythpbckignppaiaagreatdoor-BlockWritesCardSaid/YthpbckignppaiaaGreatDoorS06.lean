/- Contract of the program's Codes. The contract of the library's slices.Clone at bytes (named uint8). Lists of numbers of the call's own. The program's tableOf. The contract of the program's tableOf. What the laws of chapter 9 ask of the program's coder. The program's coder: New, Len, Put, Get. make([]byte, n), told as a slice of the call's own. The program's rows: what is put together bears no symbols; what is counted from the last row back is what lists of symbols would say. Plain mathematics of chapter 7. Rows of the program's items, in the call's own memory and as they are read; appends; parts of rows. Contract of the program's order: weights first, then symbols. Contract of the program's leavesOf: the leaves in order, given what the library's sort does. The library's sort at the program's items: its contract laid at this program, and what it leaves of a row of the call's own. -/
import Derived.Test.YthpbckignppaiaaGreatDoorS01
import Derived.Test.YthpbckignppaiaaGreatDoorS02
import Derived.Test.YthpbckignppaiaaGreatDoorS03
import Derived.Test.YthpbckignppaiaaGreatDoorS04
import Derived.Test.YthpbckignppaiaaGreatDoorS05
import Derived.Deep.QuietTactic
import Derived.BigQuiet
import Derived.Lib.SliceRun
import Derived.Laws.OwnMore
import Derived.Maps.AppendAt
import Derived.Deep.RegionLaw
import Derived.StillTailTactics
import Derived.OwnWalkIn
import Derived.Sort.Grow
import Derived.Shelf.SlSortCmp.NoneTotal
import Derived.Ground.SlsfProg
namespace Go.Proofs.YthpbckignppaiaaGreatDoor
open Go.RowKit Len Can
theorem wpList_makeH {ops : Array Oper} {rest : List Oper} {o : Oper} {a : Act} {Q : Exit → Act → World → Prop} {w : World} (hgd : o.guard = none) (x y : Operand) (ho : o.op = .makeSlice 50 x y) {n : Nat} (hx : a.eval x = .int .i64 (n : Int)) (hy : a.eval y = .int .i64 (n : Int)) (hn : n ≤ 1000)
    (h : ∀ w', OwnH w' w.heap.size (.slice (some ⟨w.heap.size, 0, none⟩) n n) (List.replicate n 0) → Ext w w' → wpList Tryz.prog ops Q rest (a.put o.dst (.slice (some ⟨w.heap.size, 0, none⟩) n n)) w') : wpList Tryz.prog ops Q (o :: rest) a w := by
  obtain ⟨i, hi, hz, hsz, hby⟩ := info_parts h16_info
  refine wpList_make_full w hgd x y 50 ho w.heap.size 93 i _ 1 Tryz.underlying50 hi hz hsz .i64 .i64 _ _ n hx hy rfl rfl (by rw [hby]; omega) (by unfold maxLen; omega) (Nat.le_refl _) ?_
  intro w' h1 h2
  refine h w' ?_ (Below.grown (Ext.refl w) h2 (Nat.le_refl _) fun k hk => by cases hk)
  unfold OwnH
  have e : (madeCells (Value.int .u16 0).cells (n * 1)).toList = (List.replicate n (0 : Nat)).map h16V := by
    have : madeCells (Value.int .u16 0).cells n = ((List.replicate n (0 : Nat)).map h16V).toArray := by
      apply Array.ext
      · simp [size_madeCells]
      · intro i h1 h2
        simp [madeCells, Value.cells, h16V, Nat.mod_one]
    rw [Nat.mul_one, this]
  rw [e] at h1
  simpa using h1
def Can.nextF (l : List UInt8) (s k : Nat) : Nat := if k = 0 then 0 else fst l k + cnt l s k
theorem Can.next_none (l : List UInt8) : h16A (fst l) = h16A (nextF l 0) := rfl
theorem Can.next_pass (l : List UInt8) {s : Nat} (h : lenAt l s = 0) : h16A (nextF l s) = h16A (nextF l (s + 1)) := by
  congr 1
  funext k
  unfold nextF
  by_cases h0 : k = 0
  · rw [if_pos h0, if_pos h0]
  · rw [if_neg h0, if_neg h0, cnt_succ, if_neg (by omega), Nat.add_zero]
theorem Can.next_step (l : List UInt8) {s : Nat} (hs : s < l.length) (h : lenAt l s ≠ 0) : nextF l s (lenAt l s) = word l s ∧ (h16A (nextF l s)).setIfInBounds (lenAt l s) (.int .u16 ((word l s + 1 : Nat) : Int)) = h16A (nextF l (s + 1)) := by
  have e : nextF l s (lenAt l s) = word l s := by
    unfold nextF
    rw [if_neg h, word_fst l hs h]
  refine ⟨e, h16A_set _ _ _ _ fun j _ => ?_⟩
  by_cases hj : j = lenAt l s
  · rw [if_pos hj, ← e, hj]
    unfold nextF
    rw [if_neg h, if_neg h, cnt_succ, if_pos rfl]
    omega
  · rw [if_neg hj]
    unfold nextF
    by_cases h0 : j = 0
    · rw [if_pos h0, if_pos h0]
    · rw [if_neg h0, if_neg h0, cnt_succ, if_neg (fun e => hj e.symm), Nat.add_zero]
set_option maxHeartbeats 2000000 in
set_option maxRecDepth 100000 in
theorem codes_any (A : Option Addr) (n c : Nat) (l : List UInt8) (w : World) (h : Bytes w w.heap.size A n l) : Calls Tryz.prog 91 #[.slice A n c] w (TellsH w (codesE l)) := by
  have C := countOut_any A n c l w h
  unfold Counted at C
  have hl := h.1
  subst hl
  have HZ := hide cntV_zero
  have hsz := cntV_size (outF l)
  have hone := cntV_one (outF l)
  have hinf : (Tryz.prog.info? 151).map (·.size) = some (cntV (outF l)).size := by rw [hsz]; exact cnt_info
  have hss : (cntV (outF l)).size = (cntV fun _ => 0).size := by rw [hsz, cntV_size]
  rw [HZ.out] at hss
  cases hr : right l with
  | false =>
    have HN := hide (show codesE l = ([], 7) by unfold codesE; rw [hr]; rfl)
    rw [check_wrong hr] at C
    clear hr h
    generalize cntV (outF l) = V at *
    go_enter Tryz.func91, Tryz.ntmps91
    go_wp2_with fail
    refine C.mono ?_
    rintro e w2 ⟨rfl, hE⟩
    have hM := Whole.new w2 151 (cntV fun _ => 0)
    have hE2 := hE.alloc (.cells (cntV fun _ => 0) 151)
    rw [HZ.out] at hM hE2
    go_wp2_with (refine wpList_storeW rfl 151 (.tmp 4) (.tmp 13) rfl rfl rfl hM hss hinf hone ?_; intro w5 hW5 hG5 _)
    go_ret2
    rw [HN.out]
    exact ⟨_, rfl, OwnH.nil _ _, Below.grown hE2 hG5 hE2.le (fun k hk => by cases hk; exact hE.le)⟩
  | true =>
    have HN := hide (show codesE l = (codesL l, 0) by unfold codesE; rw [hr]; rfl)
    rw [check_right hr] at C
    obtain ⟨h300, h15, _⟩ := right_facts hr
    have HF := fun W => cFirsts_any l hr W
    have HO : outF l = cnt l l.length := by unfold outF; rw [hr]; rfl
    rw [← HO] at HF
    have HLt := hide (show ∀ s, s < l.length → word l s < 32768 from fun s hs => word_lt hr hs)
    have H15 := hide h15
    have HNone := hide (codesTo_none l)
    have HAll := hide (codesTo_all l)
    have HLen := hide (codesTo_len l)
    have HSet := hide (codesTo_set l)
    have HPass := hide (show ∀ s, lenAt l s = 0 → codesTo l s = codesTo l (s + 1) from fun s hs => codesTo_pass l hs)
    have HNx0 := hide (next_none l)
    have HNxP := hide (show ∀ s, lenAt l s = 0 → h16A (nextF l s) = h16A (nextF l (s + 1)) from fun s hs => next_pass l hs)
    have HNxS := hide (show ∀ s, s < l.length → lenAt l s ≠ 0 → nextF l s (lenAt l s) = word l s ∧ (h16A (nextF l s)).setIfInBounds (lenAt l s) (.int .u16 ((word l s + 1 : Nat) : Int)) = h16A (nextF l (s + 1)) from fun s hs h => next_step l hs h)
    have HSzA := hide (show ∀ f, (h16A f).size = 16 from h16A_size)
    have HAtA := hide (show ∀ f k, k < 16 → (h16A f)[k]? = some (.int .u16 ((f k : Nat) : Int)) from fun f k h => h16A_at f h)
    have honeF := h16A_one (fst l)
    have hinfF : (Tryz.prog.info? 160).map (·.size) = some (h16A (fst l)).size := by rw [h16A_size]; exact f16_info
    have hssF : (h16A (fst l)).size = (#[.int .u16 0, .int .u16 0, .int .u16 0, .int .u16 0, .int .u16 0, .int .u16 0, .int .u16 0, .int .u16 0, .int .u16 0, .int .u16 0, .int .u16 0, .int .u16 0, .int .u16 0, .int .u16 0, .int .u16 0, .int .u16 0] : Array Value).size := by rw [h16A_size]; rfl
    have hl300 : l.length ≤ 1000 := by omega
    clear hr h15 HO hsz
    generalize cntV (outF l) = V at *
    obtain ⟨F, hFe⟩ : ∃ F, F = h16A (fst l) := ⟨_, rfl⟩
    rw [← hFe] at HF hinfF hssF honeF
    have HFe := hide hFe
    clear hFe
    go_enter Tryz.func91, Tryz.ntmps91
    go_wp2_with fail
    refine C.mono ?_
    rintro e w2 ⟨rfl, hE⟩
    have hM := Whole.new w2 151 (cntV fun _ => 0)
    have hE2 := hE.alloc (.cells (cntV fun _ => 0) 151)
    rw [HZ.out] at hM hE2
    have hle := hE.le
    clear C hE
    go_wp2_with (first
      | (refine wpList_storeW rfl 151 (.tmp 4) (.tmp 13) rfl rfl rfl hM hss hinf hone ?_; intro w5 hW5 hG5 hS5; clear hS5)
      | (refine wpList_load_row rfl 151 (.tmp 4) rfl _ rfl _ _ _ _ hW5 Tryz.underlying151 rfl hinf ?_))
    have hF5 : Ext w w5 := Below.grown hE2 hG5 hE2.le (fun k hk => by cases hk; exact hle)
    clear hE2 hG5 hM
    refine (HF _).mono ?_
    rintro e w6 ⟨rfl, hE6⟩
    have hF6 := hF5.trans hE6
    have hM6 := Whole.new w6 160 #[.int .u16 0, .int .u16 0, .int .u16 0, .int .u16 0, .int .u16 0, .int .u16 0, .int .u16 0, .int .u16 0, .int .u16 0, .int .u16 0, .int .u16 0, .int .u16 0, .int .u16 0, .int .u16 0, .int .u16 0, .int .u16 0]
    have hF7 := hF6.alloc (.cells #[.int .u16 0, .int .u16 0, .int .u16 0, .int .u16 0, .int .u16 0, .int .u16 0, .int .u16 0, .int .u16 0, .int .u16 0, .int .u16 0, .int .u16 0, .int .u16 0, .int .u16 0, .int .u16 0, .int .u16 0, .int .u16 0] 160)
    have hle6 := hF6.le
    clear hF5 hE6 hF6 HF
    obtain ⟨g6, hg6⟩ : ∃ g, g = w6.heap.size := ⟨_, rfl⟩
    rw [← hg6] at hM6 hle6
    have Hg6 := hide hg6
    clear hg6
    go_wp2_with (first
      | (refine wpList_storeW rfl 160 (.tmp 6) (.tmp 19) rfl (by rw [Hg6.out]; rfl) rfl hM6 hssF hinfF honeF ?_; intro w7 hW7 hG7 hS7; clear hS7)
      | (refine wpList_makeH (n := l.length) rfl (.tmp 21) (.tmp 21) rfl rfl rfl hl300 ?_; intro w8 hO8 hE8))
    have hF7' : Ext w w7 := Below.grown hF7 hG7 hF7.le (fun k hk => by cases hk; exact hle6)
    have hF8 := hF7'.trans hE8
    clear hF7'
    have hW8 := hW7.ext hE8
    have hlt7 := hW7.lt
    have hle7 : w.heap.size ≤ w7.heap.size := by omega
    rw [HFe.out, HNx0.out] at hW8
    rw [← HNone.out] at hO8
    rw [← Hg6.out]
    generalize w7.heap.size = g7 at *
    have hg67 : g6 ≠ g7 := by omega
    clear hE8 hW7 hG7 hF7 hM6 hssF hinfF honeF hss hinf hone hW5 Hg6 HFe
    go_loopw [25] (fun x wr => ∃ s : Nat, s ≤ l.length ∧ x = .int .i64 (s : Int) ∧ Whole wr g6 160 (h16A (nextF l s)) ∧ OwnH wr w.heap.size (.slice (some ⟨g7, 0, none⟩) l.length l.length) (codesTo l s) ∧ Ext w wr) (fun x _ => l.length - (intOf x).toNat)
    case atStart => exact ⟨0, by omega, rfl, hW8, hO8.mono hle7, hF8⟩
    case round =>
      clear hW8 hO8 hF8
      obtain ⟨s, hs, rfl, hW, hO, hE⟩ := hrel
      by_cases hlt : s < l.length
      · rcases (hE.bytes h).2 with h0 | ⟨b, o, rfl, hB, hc⟩
        · omega
        have hk := hc s hlt
        have hy15 := H15.out s hlt
        have hP := HPass.out s
        have hNP := HNxP.out s
        have hNS := HNxS.out s hlt
        have hx := HLt.out s hlt
        obtain ⟨y, hy⟩ : ∃ y, y = lenAt l s := ⟨_, rfl⟩
        have hk2 : wr.cell? ⟨b, o + s, none⟩ = some (.int .u8 (y : Int)) := by rw [hy]; exact hk
        rw [← hy] at hP hNP hNS hy15
        have hil : (s : Int) < (l.length : Int) := by omega
        clear hc hy hk
        by_cases y0 : y = 0
        · have HP := hide (hP y0)
          have HNP := hide (hNP y0)
          clear hP hNP hNS
          subst y0
          go_wp2
          go_roundw
          case rel => exact ⟨s + 1, by omega, by go_num, by rw [← HNP.out]; exact hW, by rw [← HP.out]; exact hO, hE⟩
          case measure => simp [intOf]; omega
        · obtain ⟨hn1, hn2⟩ := hNS y0
          have hSt := HSet.out s
          have hcx := hW.at y (HAtA.out _ y (by omega))
          rw [hn1] at hcx
          have hO' := hO
          have hlenO := HLen.out s
          rw [← hlenO] at hO'
          obtain ⟨k1, k2⟩ := hO'.cell (i := s) (by rw [hlenO]; exact hlt)
          have hO2 := hO'.set s (word l s)
          rw [hSt, hlenO] at hO2
          have hW2 := hW.far (b := g7) hg67 s (.int .u16 ((word l s : Nat) : Int))
          have hcx2 := hW2.at y (HAtA.out _ y (by omega))
          rw [hn1] at hcx2
          have hsz := HSzA.out (nextF l s)
          have hsy : y < (h16A (nextF l s)).size := by rw [hsz]; omega
          have HSy := hide hsy
          have HN2 := hide hn2
          have HO2 := hide hO2
          have hb1 : (Tryz.prog.info? 93).map (·.size) = some 1 := by kernel_rfl
          have hE2 := hE.setCell (g := g7) (i := s) hle7 (.int .u16 ((word l s : Nat) : Int))
          have hgl : g7 < wr.heap.size := (hO.lt g7 rfl).2
          have hy0 : (0 : Int) < (y : Int) := by omega
          clear hP hNP hNS hn1 hn2 hSt hO' hlenO hO2 hsz hsy hO
          generalize word l s = x at *
          generalize (codesTo l s).getD s 0 = x0 at *
          obtain ⟨V1, hV1⟩ : ∃ V1, V1 = h16A (nextF l s) := ⟨_, rfl⟩
          rw [← hV1] at hW hW2 HSy HN2
          clear hV1
          obtain ⟨V2, hV2⟩ : ∃ V2, V2 = h16A (nextF l (s + 1)) := ⟨_, rfl⟩
          rw [← hV2] at HN2
          have HV2 := hide hV2
          clear hV2
          go_wp2_with (refine wpList_storeC rfl 93 (.tmp 42) (.tmp 41) rfl _ rfl rfl hW2 HSy.out hb1 rfl rfl HN2.out ?_; intro w9 hW9 hG9)
          go_roundw
          case rel =>
            have hO9 := World.ownsRow.kept HO2.out hG9 (by simp [Value.ownBlock]; omega)
            exact ⟨s + 1, by omega, by go_num, by rw [← HV2.out]; exact hW9, hO9, Below.grown hE2 hG9 hE2.le (fun k hk => by cases hk; exact hle6)⟩
          case measure => simp [intOf]; omega
      · obtain rfl : l.length = s := by omega
        rw [HAll.out] at hO
        have HO := hide hO
        clear hO
        go_wp2
        go_ret2
        rw [HN.out]
        exact ⟨_, rfl, HO.out, hE⟩
end Go.Proofs.YthpbckignppaiaaGreatDoor

namespace Go.Proofs.YthpbckignppaiaaGreatDoor
open Go.RowKit
set_option maxHeartbeats 1000000 in
theorem sliceClone8_any (A : Option Addr) (n c : Nat) (l : List UInt8) (w : World) (hc : n ≤ c) (hn : n ≤ 140737488355328) (hb : Bytes w w.heap.size A n l) :
    Calls Tryz.prog 54 #[.slice A n c] w (MadeB w l) := by
  have hnil := fun (W : World) (a : Option Addr) (n c n' c' : Nat) => Lib.run_eql_slice_nil (P := Tryz.prog) W 22 5 a n c n' c' Tryz.underlying22
  rcases A with _ | ad
  · have hl : l = [] := by
      rcases hb.2 with h0 | ⟨_, _, h, _⟩
      · exact List.eq_nil_of_length_eq_zero (by rw [hb.1, h0])
      · cases h
    subst hl
    have hn0 : n = 0 := hb.1.symm
    subst hn0
    go_enter Tryz.func54, Tryz.ntmps54
    go_wp2
    go_ret
    exact ⟨_, rfl, OwnB.nil _ _, Ext.refl _⟩
  · have ho := OwnB.empty w (Nat.le_refl _)
    have hb' := (extNew w (.cells #[] 5)).bytes hb
    have hB : w.heap.size ≤ (w.alloc (.cells #[] 5)).heap.size := by simp
    have hl0 : ([] : List UInt8).length + n ≤ 140737488355328 := by simpa using hn
    have hE := extNew w (.cells #[] 5)
    go_enter Tryz.func54, Tryz.ntmps54
    go_wp2_with (at_builtin; refine wpList_app rfl (.tmp 5) (.tmp 6) rfl rfl ho rfl hb' hl0 hB ?_; intro v1 w1 hown1 hg1)
    go_ret
    exact ⟨v1, rfl, hown1, ho.below hE hg1 hB⟩
end Go.Proofs.YthpbckignppaiaaGreatDoor

namespace Go.Proofs.YthpbckignppaiaaGreatDoor
open Go.RowKit
def OwnI (w : World) (base : Nat) (v : Value) (L : List Int) : Prop := w.ownsRow base 3 1 v L.length (L.map (Value.int .i64))
theorem int_info : (Tryz.prog.info? 3).map (fun i => (i.zero, i.size, i.bytes)) = some (some (.int .i64 0), 1, 8) := by kernel_rfl
theorem OwnI.nil (w : World) (base : Nat) : OwnI w base (.slice none 0 0) [] := World.ownsRow_nil w base _ _
theorem OwnI.ext {w w' : World} {base : Nat} {v : Value} {L : List Int} (h : OwnI w base v L) (hE : Ext w w') : OwnI w' base v L :=
  World.ownsRow.kept h (hE.grown none) (by cases hv : v.ownBlock <;> simp)
theorem OwnI.lt {w : World} {base : Nat} {v : Value} {L : List Int} (h : OwnI w base v L) : ∀ k, v.ownBlock = some k → base ≤ k ∧ k < w.heap.size := World.ownsRow.lt h
theorem OwnI.form {w : World} {base : Nat} {v : Value} {L : List Int} (h : OwnI w base v L) : ∃ A c, v = .slice A L.length c ∧ L.length ≤ c ∧ IntsAt w w.heap.size A L.length L := by
  have hl := h.lt
  rcases h.2 with ⟨rfl, h0⟩ | ⟨g, cap, cur, rfl, hb, hg, hn, hc, hs, ht⟩
  · exact ⟨none, 0, by rw [h0], by omega, rfl, .inl h0⟩
  · refine ⟨_, cap, rfl, hn, rfl, .inr ⟨g, 0, rfl, (hl g rfl).2, fun i hi => ?_⟩⟩
    have hk := World.ownsRow.cellAt h i (by omega)
    rw [Nat.zero_add, hk]
    simp [hi]
section
variable {o : Oper} {a : Act} {Q : Exit → Act → World → Prop} {w : World} {base : Nat} {v : Value} {L : List Int}
theorem wpList_appIB {ops : Array Oper} {rest : List Oper} (hgd : o.guard = none) (s x : Operand) (ho : o.op = .call { callee := .builtin .append, args := #[s, x], argTypes := #[83, 83] }) (hs : a.eval s = v) (p : Int)
    (hown : OwnI (w.alloc (.cells #[.int .i64 p] 3)) base v L) {c : Nat} (hx : a.eval x = .slice (some ⟨w.heap.size, 0, none⟩) 1 c) (hlen : L.length ≤ 1000000) (hbase : base ≤ w.heap.size)
    (h : ∀ v' w', OwnI w' base v' (L ++ [p]) → (w.alloc (.cells #[.int .i64 p] 3)).grownBy w' v.ownBlock → wpList Tryz.prog ops Q rest (a.put o.dst v') w') :
    wpList Tryz.prog ops Q (o :: rest) a (w.alloc (.cells #[.int .i64 p] 3)) := by
  obtain ⟨i, hi, hz, hsz, hby⟩ := info_parts int_info
  refine wpList_append_own_at _ hgd s x 83 ho base 3 i _ 1 8 Tryz.underlying83 hi hz hsz hby rfl (by omega) v L.length (L.map (Value.int .i64)) hs hown ⟨w.heap.size, 0, none⟩ 1 c [.int .i64 p] hx rfl (by
    intro j u hu
    match j, hu with
    | 0, hu =>
      have : (⟨w.heap.size, 0, none⟩ : Addr).add 0 = ⟨w.heap.size, 0, none⟩ := rfl
      rw [this, cellNew]
      simpa using hu
    | j + 1, hu => simp at hu) (by
    intro u hu
    simp at hu
    subst hu
    rfl) (by unfold maxLen; omega) (by omega) (by simp; omega) ?_
  intro v' w' h2 h3 _ h5
  refine h v' w' ?_ h3
  unfold OwnI
  rw [List.length_append, List.map_append]
  exact h2
end
end Go.Proofs.YthpbckignppaiaaGreatDoor

namespace Go.Proofs.YthpbckignppaiaaGreatDoor
open Go.RowKit Len Can Huf
theorem ownsRow_low {w : World} {base size m : Nat} {E : TypeId} {A : Option Addr} {n c : Nat} {cs : List Value} (h : w.ownsRow base E size (.slice A n c) m cs) : ∀ b o, A = some ⟨b, o, none⟩ → base ≤ b := by
  intro b o hA
  rcases h.2 with ⟨hv, _⟩ | ⟨g, cap, cur, hv, hb, _⟩
  · simp only [Value.slice.injEq] at hv
    rw [hv.1] at hA
    cases hA
  · simp only [Value.slice.injEq] at hv
    rw [hv.1] at hA
    injection hA with hA
    injection hA with hA
    omega
theorem ownsRow_apart {w : World} {base base' size size' m m' : Nat} {E E' : TypeId} {v v' : Value} {cs cs' : List Value} (h : w.ownsRow base E size v m cs) (h' : w.ownsRow base' E' size' v' m' cs') (hne : E ≠ E') : v.ownBlock = none ∨ v.ownBlock ≠ v'.ownBlock := by
  rcases h.2 with ⟨rfl, _⟩ | ⟨g, cap, cur, rfl, hb, hg, _⟩
  · exact .inl rfl
  rcases h'.2 with ⟨rfl, _⟩ | ⟨g', cap', cur', rfl, hb', hg', _⟩
  · refine .inr ?_
    simp [Value.ownBlock]
  · refine .inr fun e => hne ?_
    have e2 : g = g' := by simpa [Value.ownBlock] using e
    subst e2
    rw [hg] at hg'
    simp only [Option.some.injEq, Obj.cells.injEq] at hg'
    exact hg'.2.1
theorem app16_run {w : World} (ty : TypeId) {base : Nat} {v : Value} {T : List Nat} (hown : OwnH w base v T) {gx m c p : Nat} (hm : m = 1) (hc : w.cell? ⟨gx, 0, none⟩ = some (.int .u16 (p : Int))) (hlen : T.length ≤ 1000000) (hbase : base ≤ w.heap.size) :
    ∃ v' w', (Builtin.append_ #[50, 50] ty #[v, .slice (some ⟨gx, 0, none⟩) m c]).run Tryz.prog w = .ok v' w' ∧ OwnH w' base v' (T ++ [p]) ∧ w.grownBy w' v.ownBlock := by
  subst hm
  obtain ⟨i, hi, hz, hs, hby⟩ := info_parts h16_info
  obtain ⟨v', w', hr, h2, h3, _, _⟩ := run_append_own_at (P := Tryz.prog) w base 50 ty 93 i _ 1 2 Tryz.underlying50 hi hz hs hby rfl (by omega) v T.length (T.map h16V) hown
    ⟨gx, 0, none⟩ 1 c [h16V p] rfl (by
      intro j u hu
      match j, hu with
      | 0, hu =>
        have : (⟨gx, 0, none⟩ : Addr).add 0 = ⟨gx, 0, none⟩ := rfl
        rw [this, hc]
        simpa [h16V] using hu
      | j + 1, hu => simp at hu) (by
      intro u hu
      simp at hu
      subst hu
      rfl) (by unfold maxLen; omega) (by omega) hbase
  refine ⟨v', w', hr, ?_, h3⟩
  unfold OwnH
  rw [List.length_append, List.map_append]
  exact h2
theorem step_app16 {ops : Array Oper} {o : Oper} {a : Act} {K : Act → World → Prop} {Q : Exit → Act → World → Prop} {E : Prop} {w : World} {base : Nat} {v : Value} {T : List Nat} (hgd : o.guard = none) (s x : Operand)
    (ho : o.op = .call { callee := .builtin .append, args := #[s, x], argTypes := #[50, 50] }) (hs : a.eval s = v) (hown : OwnH w base v T) {gx m c p : Nat} (hm : m = 1) (hx : a.eval x = .slice (some ⟨gx, 0, none⟩) m c) (hc : w.cell? ⟨gx, 0, none⟩ = some (.int .u16 (p : Int)))
    (hlen : T.length ≤ 1000000) (hbase : base ≤ w.heap.size) (h : ∀ v' w', OwnH w' base v' (T ++ [p]) → w.grownBy w' v.ownBlock → K (a.put o.dst v') w') :
    if Region.wanted o (yielded ops a.tmps) = true then Oper.wp Tryz.prog o a w K Q else E := by
  have hw : Region.wanted o (yielded ops a.tmps) = true := by simp [Region.wanted, hgd]
  rw [if_pos hw]
  obtain ⟨v', w', hr, h2, h3⟩ := app16_run (c := c) o.type hown hm hc hlen hbase
  unfold Oper.wp execOp
  simp only [ho, resolve, invoke, builtin, Sem.run_bind, Sem.run_pure, Result.andThen_ok, List.map_toArray, List.map_cons, List.map_nil, hs, hx, hr]
  exact h v' w' h2 h3
structure TabS (w : World) (g : Nat) (A1 : Option Addr) (c1 : Nat) (A2 : Option Addr) (c2 : Nat) (v3 v4 : Value) (l : List UInt8) (L : List Int) (T : List Nat) : Prop where
  whole : Whole w g 116 #[.slice A1 l.length c1, .slice A2 l.length c2, v3, v4]
  syms : OwnI w (g + 1) v3 L
  starts : OwnH w (g + 1) v4 T
  lens : Bytes w g A1 l.length l
  words : H16At w g A2 l.length (codesL l)
section
variable {w w' : World} {g : Nat} {A1 : Option Addr} {c1 : Nat} {A2 : Option Addr} {c2 : Nat} {v3 v4 v3' v4' : Value} {l : List UInt8} {L : List Int} {T : List Nat}
theorem TabS.ext (h : TabS w g A1 c1 A2 c2 v3 v4 l L T) (hE : Ext w w') : TabS w' g A1 c1 A2 c2 v3 v4 l L T :=
  ⟨h.whole.ext hE, h.syms.ext hE, h.starts.ext hE, h.lens.below (Below.mono hE (Nat.le_of_lt h.whole.lt)) (Nat.le_refl _), h.words.below (Below.mono hE (Nat.le_of_lt h.whole.lt)) (Nat.le_refl _)⟩
theorem TabS.appI (h : TabS w g A1 c1 A2 c2 v3 v4 l L T) (hG : w.grownBy w' v3.ownBlock) : Whole w' g 116 #[.slice A1 l.length c1, .slice A2 l.length c2, v3, v4] ∧ OwnH w' (g + 1) v4 T ∧ Below (g + 1) w w' ∧ Bytes w' g A1 l.length l ∧ H16At w' g A2 l.length (codesL l) := by
  have hlt := h.syms.lt
  have hB : Below (g + 1) w w' := Below.grown (Below.refl (g + 1) w) hG h.whole.lt (fun k hk => (hlt k hk).1)
  refine ⟨h.whole.ownGrown hG (fun e => by have := hlt g e; omega), World.ownsRow.kept h.starts hG (ownsRow_apart h.starts h.syms (by decide)), hB, h.lens.below hB (by omega), h.words.below hB (by omega)⟩
theorem TabS.appH (h : TabS w g A1 c1 A2 c2 v3 v4 l L T) (hG : w.grownBy w' v4.ownBlock) : Whole w' g 116 #[.slice A1 l.length c1, .slice A2 l.length c2, v3, v4] ∧ OwnI w' (g + 1) v3 L ∧ Below (g + 1) w w' ∧ Bytes w' g A1 l.length l ∧ H16At w' g A2 l.length (codesL l) := by
  have hlt := h.starts.lt
  have hB : Below (g + 1) w w' := Below.grown (Below.refl (g + 1) w) hG h.whole.lt (fun k hk => (hlt k hk).1)
  refine ⟨h.whole.ownGrown hG (fun e => by have := hlt g e; omega), World.ownsRow.kept h.syms hG (ownsRow_apart h.syms h.starts (by decide)), hB, h.lens.below hB (by omega), h.words.below hB (by omega)⟩
theorem tabS_store (hW : Whole w' g 116 #[.slice A1 l.length c1, .slice A2 l.length c2, v3', v4']) (hG : w.grownBy w' (some g)) (h3 : OwnI w (g + 1) v3' L) (h4 : OwnH w (g + 1) v4' T) (h1 : Bytes w g A1 l.length l) (h2 : H16At w g A2 l.length (codesL l)) (hg : g ≤ w.heap.size) :
    TabS w' g A1 c1 A2 c2 v3' v4' l L T ∧ Below g w w' := by
  have hB : Below g w w' := Below.grown (Below.refl g w) hG hg (fun k hk => by cases hk; omega)
  refine ⟨⟨hW, World.ownsRow.kept h3 hG ?_, World.ownsRow.kept h4 hG ?_, h1.below hB (Nat.le_refl _), h2.below hB (Nat.le_refl _)⟩, hB⟩
  · cases hv : v3'.ownBlock with
    | none => simp
    | some k => have := h3.lt k hv; simp; omega
  · cases hv : v4'.ownBlock with
    | none => simp
    | some k => have := h4.lt k hv; simp; omega
end
end Go.Proofs.YthpbckignppaiaaGreatDoor

namespace Go.Proofs.YthpbckignppaiaaGreatDoor
open Go.RowKit Len Can Huf
section
variable {w w' : World} {B n r : Nat} {A : Option Addr}
theorem cell_off (hG : w.grownBy w' (some r)) {b i : Nat} {v : Value} (hc : w.cell? ⟨b, i, none⟩ = some v) (hb : r < b) : w'.cell? ⟨b, i, none⟩ = some v :=
  (World.cell?_of_block (a := ⟨b, i, none⟩) (hG.block b (World.block_lt_of_cell? w _ hc) (by simp; omega))).trans hc
theorem bytes_off {l : List UInt8} (h : Bytes w B A n l) (hG : w.grownBy w' (some r)) (hl : ∀ b o, A = some ⟨b, o, none⟩ → r < b) : Bytes w' B A n l := by
  refine ⟨h.1, h.2.imp_right fun ⟨b, o, hA, hB, hc⟩ => ⟨b, o, hA, hB, fun i hi => cell_off hG (hc i hi) (hl b o hA)⟩⟩
theorem h16_off {L : List Nat} (h : H16At w B A n L) (hG : w.grownBy w' (some r)) (hl : ∀ b o, A = some ⟨b, o, none⟩ → r < b) : H16At w' B A n L := by
  refine ⟨h.1, h.2.imp_right fun ⟨b, o, hA, hB, hc⟩ => ⟨b, o, hA, hB, fun i hi => cell_off hG (hc i hi) (hl b o hA)⟩⟩
theorem ints_off {L : List Int} (h : IntsAt w B A n L) (hG : w.grownBy w' (some r)) (hl : ∀ b o, A = some ⟨b, o, none⟩ → r < b) : IntsAt w' B A n L := by
  refine ⟨h.1, h.2.imp_right fun ⟨b, o, hA, hB, hc⟩ => ⟨b, o, hA, hB, fun i hi => cell_off hG (hc i hi) (hl b o hA)⟩⟩
theorem ints_mono {C : Nat} {L : List Int} (h : IntsAt w B A n L) (hC : B ≤ C) : IntsAt w C A n L :=
  ⟨h.1, h.2.imp_right fun ⟨b, o, hA, hB, hc⟩ => ⟨b, o, hA, Nat.lt_of_lt_of_le hB hC, hc⟩⟩
end
structure Tabs (w : World) (lo hi : Nat) (A1 A2 A3 A4 : Option Addr) (l : List UInt8) (O : List Nat) : Prop where
  lens : Bytes w hi A1 l.length l
  words : H16At w hi A2 l.length (codesL l)
  syms : IntsAt w hi A3 O.length (O.map fun s : Nat => (s : Int))
  starts : H16At w hi A4 O.length (starts l O)
  ord : Ord l 16 0 O
  low1 : ∀ b o, A1 = some ⟨b, o, none⟩ → lo ≤ b
  low2 : ∀ b o, A2 = some ⟨b, o, none⟩ → lo ≤ b
  low3 : ∀ b o, A3 = some ⟨b, o, none⟩ → lo ≤ b
  low4 : ∀ b o, A4 = some ⟨b, o, none⟩ → lo ≤ b
def TabTo (w : World) (l : List UInt8) (e : Ending) (w' : World) : Prop :=
  (right l = true → ∃ A1 c1 A2 c2 A3 c3 A4 c4 O, e = .returned (.tuple #[.agg #[.slice A1 l.length c1, .slice A2 l.length c2, .slice A3 O.length c3, .slice A4 O.length c4], .int .i64 0]) ∧ Tabs w' w.heap.size w'.heap.size A1 A2 A3 A4 l O) ∧
    (right l = false → e = .returned (.tuple #[.agg #[.slice none 0 0, .slice none 0 0, .slice none 0 0, .slice none 0 0], .int .i64 7])) ∧ Ext w w'
theorem tab_info : (Tryz.prog.info? 116).map (·.size) = some 4 := by kernel_rfl
theorem four_slices (A1 : Option Addr) (n1 c1 : Nat) (A2 : Option Addr) (n2 c2 : Nat) (A3 : Option Addr) (n3 c3 : Nat) (A4 : Option Addr) (n4 c4 : Nat) : (#[.slice A1 n1 c1, .slice A2 n2 c2, .slice A3 n3 c3, .slice A4 n4 c4] : Array Value).all (·.oneCell') = true := by
  simp
  exact ⟨rfl, rfl, rfl, rfl⟩
set_option maxHeartbeats 4000000 in
set_option maxRecDepth 100000 in
theorem tableOf_any (A : Option Addr) (n c : Nat) (l : List UInt8) (w : World) (hc : n ≤ c) (h : Bytes w w.heap.size A n l) : Calls Tryz.prog 78 #[.slice A n c] w (TabTo w l) := by
  have hl := h.1
  subst hl
  have hE1 := extNew w (.cells #[.slice none 0 0, .slice none 0 0, .slice none 0 0, .slice none 0 0] 116)
  have hR1 := Whole.new w 116 #[.slice none 0 0, .slice none 0 0, .slice none 0 0, .slice none 0 0]
  have C1 := codes_any A l.length c l _ (hE1.bytes h)
  cases hr : right l with
  | false =>
    have HR := hide hr
    rw [show codesE l = ([], 7) by unfold codesE; rw [hr]; rfl] at C1
    clear h hr
    go_enter Tryz.func78, Tryz.ntmps78
    go_wp2_with fail
    refine C1.mono ?_
    rintro e w2 ⟨v, rfl, hO, hE2⟩
    obtain ⟨A2, c2, rfl, _⟩ := hO.reads
    have hR2 := hR1.ext hE2
    clear C1 hO
    go_wp2_with (refine wpList_storeW rfl 116 (.tmp 2) (.tmp 16) rfl rfl rfl hR2 rfl tab_info (four_slices ..) ?_; intro w5 hR5 hG5 _)
    refine bodyPost_ret (results_row2 rfl _ rfl rfl (run_loadVar_row _ _ _ _ _ _ _ hR5 Tryz.underlying116 rfl tab_info)) rfl ?_
    have hE := hE1.trans hE2
    exact ⟨(fun h => by rw [HR.out] at h; cases h), fun _ => rfl, Below.grown hE hG5 hE.le (fun k hk => by cases hk; exact Nat.le_refl _)⟩
  | true =>
    have HR := hide hr
    have hl300 := (right_facts hr).1
    rw [show codesE l = (codesL l, 0) by unfold codesE; rw [hr]; rfl] at C1
    have HB := hide (hE1.bytes h)
    have HL := hide (codesL_len l)
    clear h hr
    go_enter Tryz.func78, Tryz.ntmps78
    go_wp2_with fail
    refine C1.mono ?_
    rintro e w2 ⟨v, rfl, hO, hE2⟩
    obtain ⟨A2, c2, rfl, h2c, h2m, h2⟩ := hO.reads
    have HLow2 := hide (ownsRow_low hO)
    rw [HL.out] at h2 h2c
    have H2 := hide h2
    rw [HL.out]
    have hR2 := hR1.ext hE2
    have C2 := sliceClone8_any A l.length c l w2 hc (by omega) (hE2.bytes HB.out)
    clear C1 hO h2
    go_wp2_with fail
    refine C2.mono ?_
    rintro e w3 ⟨v, rfl, hO3, hE3⟩
    obtain ⟨A1, c1, rfl, h1c, h1m, h1⟩ := hO3.form
    have HLow1 := hide (ownsRow_low hO3)
    have hR3 := hR2.ext hE3
    have h2w := H2.out.below hE3 (Nat.le_refl _)
    have h2v := h2w.mono hE3.le
    have hF3 := (hE1.trans hE2).trans hE3
    have hle1 : w.heap.size < w2.heap.size := by have := hE2.le; rw [World.size_alloc] at this; omega
    have hle2 := hE2.le
    have hle3 := hE3.le
    have Hle := hide (And.intro hle1 (And.intro hle2 hle3))
    have hlt3 : w.heap.size < w3.heap.size := by omega
    clear C2 hO3 hR1 hR2 hE1 hE2 hE3 h2w hle1 hle2 hle3
    obtain ⟨g, hg⟩ : ∃ g, g = w3.heap.size := ⟨_, rfl⟩
    have hE4 := extNew w3 (.cells #[.slice none 0 0, .slice none 0 0, .slice none 0 0, .slice none 0 0] 116)
    have hW4 := Whole.new w3 116 #[.slice none 0 0, .slice none 0 0, .slice none 0 0, .slice none 0 0]
    have hR4 := hR3.ext hE4
    have hF4 := hF3.trans hE4
    have h1' : Bytes (w3.alloc (.cells #[.slice none 0 0, .slice none 0 0, .slice none 0 0, .slice none 0 0] 116)) g A1 l.length l := by rw [hg]; exact h1.below hE4 (Nat.le_refl _)
    have h2' : H16At (w3.alloc (.cells #[.slice none 0 0, .slice none 0 0, .slice none 0 0, .slice none 0 0] 116)) g A2 l.length (codesL l) := by rw [hg]; exact h2v.below hE4 (Nat.le_refl _)
    have HG := hide hg
    rw [← hg] at hW4
    have hgw : w.heap.size < g := by omega
    clear h1 h2v hF3 hR3 hE4 hg hlt3
    go_wp2_with (refine wpList_storeW rfl 116 (.tmp 6) (.tmp 21) rfl (by rw [HG.out]; rfl) rfl hW4 rfl tab_info (four_slices ..) ?_; intro w5 hW5 hG5 hS5; clear hS5)
    rw [← HG.out]
    have hT5 := (tabS_store hW5 hG5 (OwnI.nil _ (g + 1)) (OwnH.nil _ (g + 1)) h1' h2' (by rw [World.size_alloc, HG.out]; omega)).1
    have hF5 : Ext w w5 := Below.grown hF4 hG5 hF4.le (fun k hk => by cases hk; omega)
    have hR5 := hR4.grown hG5 (by omega)
    clear hW5 hG5 hW4 hR4 hF4 h1' h2'
    have H15 := hide (right_facts HR.out).2.1
    have HWl := hide (show ∀ s, s < l.length → word l s < 2 ^ 15 from fun s hs => word_lt HR.out hs)
    go_loopw [7] (fun x wr => ∃ k v3 v4 O, 1 ≤ k ∧ k ≤ 16 ∧ x = .int .i64 ((k : Nat) : Int) ∧ TabS wr g A1 c1 A2 c2 v3 v4 l (O.map fun s : Nat => (s : Int)) (starts l O) ∧ Ord l k 0 O ∧ Whole wr w.heap.size 116 #[.slice none 0 0, .slice none 0 0, .slice none 0 0, .slice none 0 0] ∧ Ext w wr) (fun x _ => 17 - (intOf x).toNat)
    case atStart => exact ⟨1, _, _, [], by omega, by omega, rfl, hT5, Ord.start, hR5, hF5⟩
    case round =>
      clear hT5 hF5 hR5
      obtain ⟨k, v3, v4, O, hk1, hk16, rfl, hT, hO, hR, hE⟩ := hrel
      by_cases hk : k ≤ 15
      · have hkI : (k : Int) ≤ 15 := by omega
        obtain ⟨wa, rfl⟩ : ∃ W, W = wr := ⟨_, rfl⟩
        go_wp2_with fail
        go_loopw [28] (fun x wr => ∃ i v3 v4 O, i ≤ l.length ∧ x = .int .i64 ((i : Nat) : Int) ∧ TabS wr g A1 c1 A2 c2 v3 v4 l (O.map fun s : Nat => (s : Int)) (starts l O) ∧ Ord l k i O ∧ Whole wr w.heap.size 116 #[.slice none 0 0, .slice none 0 0, .slice none 0 0, .slice none 0 0] ∧ Ext w wr) (fun x _ => l.length - (intOf x).toNat)
        case atStart => exact ⟨0, v3, v4, O, by omega, rfl, hT, hO, hR, hE⟩
        case round =>
          clear hT hO hR hE
          obtain ⟨i, v3, v4, O, hi, rfl, hT, hO, hR, hE⟩ := hrel
          by_cases hlt : i < l.length
          · have hltI : (i : Int) < (l.length : Int) := by omega
            have CL := hlength_any (hT.whole.at 0 rfl) hT.lens (i : Int)
            rw [lenX_at hlt] at CL
            by_cases hy : lenAt l i = k
            · have hyb : ((lenAt l i : Int) == (k : Int)) = true := by simp [hy]
              have hOn := hO.put hk1 hlt hy
              have hlenO := hO.len_300 HR.out
              have HOn := hide hOn
              have hwl := HWl.out i hlt
              have hst : startOf l i = word l i * 2 ^ (15 - k) := by unfold startOf; rw [hy]
              have hst2 : startOf l i < 32768 := by
                have h1 := startOf_lt HR.out hlt (by omega)
                have h2 : 0 < 2 ^ (15 - lenAt l i) := Nat.pow_pos (by omega)
                omega
              have HT := hide hT
              have hEa := extNew wr (.cells #[.int .i64 (i : Int)] 3)
              have hTa := hT.ext hEa
              have d2 : wr.cell? ⟨g, 2, none⟩ = some v3 := hT.whole.at 2 rfl
              have hi1 : (Tryz.prog.info? 83).map (·.size) = some 1 := by kernel_rfl
              have hlen1 : (O.map fun s : Nat => (s : Int)).length ≤ 1000000 := by rw [List.length_map]; omega
              have hb1 : g + 1 ≤ wr.heap.size := hT.whole.lt
              have hln : ((O.map fun s : Nat => (s : Int)) ++ [(i : Int)]).length = O.length + 1 := by simp
              rcases hT.words.2 with h0 | ⟨b2, o2, rfl, hb2, hc2⟩
              · omega
              have e2 := hc2 i hlt
              rw [codesL_at hlt] at e2
              clear hT hO hOn hc2
              have HY := hide hy
              clear hy
              generalize lenAt l i = y at *
              go_wp2_with fail
              refine CL.mono ?_
              rintro e w' ⟨rfl, rfl⟩
              clear CL
              go_wp2_with (first
                | (at_builtin; refine wpList_appIB rfl (.tmp 36) (.tmp 38) rfl rfl (i : Int) hTa.syms rfl hlen1 hb1 ?_; intro v6 w6 hO6 hG6; obtain ⟨hW6, hH6, hB6, hl6, hw6⟩ := hTa.appI hG6; obtain ⟨A3, c3, rfl, h3c, h3⟩ := hO6.form; rw [hln] at hO6)
                | (refine wpList_storeC (u := .slice A3 (O.length + 1) c3) rfl 83 (.tmp 40) (.tmp 39) rfl _ rfl rfl hW6 (by simp) hi1 rfl rfl rfl ?_; intro w7 hW7 hG7))
              obtain ⟨hT7, hB7⟩ := tabS_store hW7 hG7 hO6 hH6 hl6 hw6 (Nat.le_of_lt hW6.lt)
              have hB67 : Below g wr w7 := ((Below.mono hEa (Nat.le_of_succ_le hb1)).trans (Below.mono hB6 (by omega))).trans hB7
              have hR7 := hR.below hB67 hgw
              have hF7 : Ext w w7 := Below.trans hE (Below.mono hB67 (Nat.le_of_lt hgw))
              have e7 : w7.cell? ⟨b2, o2 + i, none⟩ = some (.int .u16 ((word l i : Nat) : Int)) := (hB67.cell (p := ⟨b2, o2 + i, none⟩) hb2).trans e2
              have d3 : w7.cell? ⟨g, 3, none⟩ = some v4 := hT7.whole.at 3 rfl
              have hsv : IntKind.u16.wrap ((word l i : Int) * 2 ^ (15 - k)) = ((startOf l i : Nat) : Int) := by
                have e : (word l i : Int) * 2 ^ (15 - k) = ((startOf l i : Nat) : Int) := by rw [hst]; simp
                rw [e]
                simp [IntKind.wrap, IntKind.bits, IntKind.signed]
                omega
              have hsh : IntKind.i64.wrap (15 - (k : Int)) = 15 - (k : Int) := IntWalk.i64_in _ (by omega)
              have hsh0 : (0 : Int) ≤ 15 - (k : Int) := by omega
              have hsh1 : (15 - (k : Int)).toNat = 15 - k := by omega
              have hEb := extNew w7 (.cells #[.int .u16 ((startOf l i : Nat) : Int)] 93)
              have d3' : (w7.alloc (.cells #[.int .u16 ((startOf l i : Nat) : Int)] 93)).cell? ⟨g, 3, none⟩ = some v4 := (hT7.whole.ext hEb).at 3 rfl
              have hT8 := hT7.ext hEb.drew
              have hc8 : (w7.alloc (.cells #[.int .u16 ((startOf l i : Nat) : Int)] 93)).drew.cell? ⟨w7.heap.size, 0, none⟩ = some (.int .u16 ((startOf l i : Nat) : Int)) := cellNew w7 _ _ _ 0
              have hlen2 : (starts l O).length ≤ 1000000 := by rw [starts_len]; omega
              have hb2' : g + 1 ≤ (w7.alloc (.cells #[.int .u16 ((startOf l i : Nat) : Int)] 93)).drew.heap.size := hT8.whole.lt
              have hi2 : (Tryz.prog.info? 50).map (·.size) = some 1 := by kernel_rfl
              have HST := hide (starts_snoc l O i)
              have HMP := hide (show (O ++ [i]).map (fun s : Nat => (s : Int)) = (O.map fun s : Nat => (s : Int)) ++ [(i : Int)] by simp)
              have hltI2 : (0 : Int) ≤ (i : Int) := by omega
              clear hln hst hst2 hTa hEa d2 hb1 e2 hW6 hH6 hB6 hl6 hw6 hO6 hG6 hW7 hG7 hB7 hR hE hlen1 hi1 h3
              generalize startOf l i = p at *
              generalize word l i = x at *
              have HLn := hide (show (starts l O ++ [p]).length = (starts l O).length + 1 by simp)
              go_region_law (refine step_app16 rfl (.tmp 42) (.tmp 50) rfl rfl hT8.starts rfl rfl hc8 hlen2 hb2' ?_; intro v9 w9 hO9 hG9'; have hG9 : (w7.alloc (.cells #[.int .u16 (p : Int)] 93)).drew.grownBy w9 v4.ownBlock := hG9'; clear hG9'; obtain ⟨hW9, hS9, hB9, hl9, hw9⟩ := hT8.appH hG9; obtain ⟨A4, c4, hv9, _⟩ := OwnH.form hO9; rw [HLn.out] at hv9; subst hv9; have e9 := hW9.at 3 rfl; have f9 := hW9.frozen 3)
              all_goals (
                have hG10 := grown_setCell w9 g 3 (.slice A4 ((starts l O).length + 1) c4)
                have hW10 : Whole (w9.setCell ⟨g, 3, none⟩ (.slice A4 ((starts l O).length + 1) c4)) g 116 #[.slice A1 l.length c1, .slice (some ⟨b2, o2, none⟩) l.length c2, .slice A3 (O.length + 1) c3, .slice A4 ((starts l O).length + 1) c4] := hW9.set 3 _
                obtain ⟨hT10, hB10⟩ := tabS_store hW10 hG10 hS9 hO9 hl9 hw9 (Nat.le_of_lt hW9.lt)
                have hB79 : Below g w7 (w9.setCell ⟨g, 3, none⟩ (.slice A4 ((starts l O).length + 1) c4)) := ((Below.mono hEb.drew (Nat.le_of_lt hT7.whole.lt)).trans (Below.mono hB9 (by omega))).trans hB10
                have hR10 := hR7.below hB79 hgw
                have hF10 : Ext w (w9.setCell ⟨g, 3, none⟩ (.slice A4 ((starts l O).length + 1) c4)) := Below.trans hF7 (Below.mono hB79 (Nat.le_of_lt hgw))
                rw [← HMP.out, ← HST.out] at hT10
                have HT10 := hide hT10
                clear hG10 hW10 hT10 hB10 hB79 hW9 hS9 hB9 hl9 hw9 hO9 hG9 e9 f9
                go_wp2
                go_roundw
                case rel => exact ⟨i + 1, _, _, O ++ [i], by omega, by go_num, HT10.out, HOn.out, hR10, hF10⟩
                case measure => simp [intOf]; omega)
            · have hyb : ((lenAt l i : Int) == (k : Int)) = false := by rw [beq_eq_false_iff_ne]; omega
              have HOn := hide (hO.pass hk1 hlt hy)
              have HT := hide hT
              clear hT hO hy
              generalize lenAt l i = y at *
              go_wp2_with fail
              refine CL.mono ?_
              rintro e w' ⟨rfl, rfl⟩
              clear CL
              go_wp2
              go_roundw
              case rel => exact ⟨i + 1, v3, v4, O, by omega, by go_num, HT.out, HOn.out, hR, hE⟩
              case measure => simp [intOf]; omega
          · obtain rfl : l.length = i := by omega
            have HOn := hide hO.turn
            have HT := hide hT
            clear hT hO
            go_wp2
            go_roundw
            case rel => exact ⟨k + 1, v3, v4, O, by omega, by omega, by go_num, HT.out, HOn.out, hR, hE⟩
            case measure => simp [intOf]; omega
      · obtain rfl : k = 16 := by omega
        obtain ⟨A3, c3, rfl, h3c, h3⟩ := hT.syms.form
        obtain ⟨A4, c4, rfl, h4c, h4m, h4⟩ := OwnH.reads hT.starts
        have HLow3 := hide (ownsRow_low hT.syms)
        have HLow4 := hide (ownsRow_low hT.starts)
        rw [List.length_map] at h3 h3c
        rw [starts_len] at h4 h4c
        have hW := hT.whole
        rw [List.length_map, starts_len] at hW
        have HT := hide (And.intro hT.lens hT.words)
        have H3 := hide h3
        have H4 := hide h4
        have HO := hide hO
        clear hT h3 h4 hO
        go_wp2_with (first
          | (refine wpList_load_row rfl 116 (.tmp 6) rfl _ rfl _ _ _ _ hW Tryz.underlying116 rfl tab_info ?_)
          | (refine wpList_storeW rfl 116 (.tmp 2) (.tmp 54) rfl rfl rfl hR rfl tab_info (four_slices ..) ?_; intro w5 hR5 hG5 hS5))
        refine bodyPost_ret (results_row2 rfl _ rfl rfl (run_loadVar_row _ _ _ _ _ _ _ hR5 Tryz.underlying116 rfl tab_info)) rfl ?_
        obtain ⟨k1, k2, k3⟩ := Hle.out
        have l1 : ∀ b o, A1 = some ⟨b, o, none⟩ → w.heap.size < b := fun b o e => by have := HLow1.out b o e; omega
        have l2 : ∀ b o, A2 = some ⟨b, o, none⟩ → w.heap.size < b := fun b o e => by have := HLow2.out b o e; rw [World.size_alloc] at this; omega
        have l3 : ∀ b o, A3 = some ⟨b, o, none⟩ → w.heap.size < b := fun b o e => by have := HLow3.out b o e; omega
        have l4 : ∀ b o, A4 = some ⟨b, o, none⟩ → w.heap.size < b := fun b o e => by have := HLow4.out b o e; omega
        have hgl := hW.lt
        have hsz := hG5.size
        refine ⟨fun _ => ⟨_, _, _, _, _, _, _, _, O, rfl, ⟨(bytes_off HT.out.1 hG5 l1).mono (by omega), (h16_off HT.out.2 hG5 l2).mono (by omega), ints_mono (ints_off H3.out hG5 l3) hsz, (h16_off H4.out hG5 l4).mono hsz, HO.out, fun b o e => Nat.le_of_lt (l1 b o e), fun b o e => Nat.le_of_lt (l2 b o e), fun b o e => Nat.le_of_lt (l3 b o e), fun b o e => Nat.le_of_lt (l4 b o e)⟩⟩, (fun h => by rw [HR.out] at h; cases h), Below.grown hE hG5 hE.le (fun k hk => by cases hk; exact Nat.le_refl _)⟩
end Go.Proofs.YthpbckignppaiaaGreatDoor

namespace Go.Proofs.YthpbckignppaiaaGreatDoor
open Go.RowKit Len Can Huf
abbrev CodP := World → Nat → Nat → Nat → List UInt8 → Prop
structure CodKeep (CP : CodP) : Prop where
  le : ∀ {W lo hi g l}, CP W lo hi g l → hi ≤ W.heap.size ∧ g < hi
  keep : ∀ {W W' lo hi g l}, CP W lo hi g l → (∀ k, lo ≤ k → k < hi → W'.heap[k]? = W.heap[k]?) → W.heap.size ≤ W'.heap.size → CP W' lo hi g l
theorem CodKeep.below {CP : CodP} (h : CodKeep CP) {W W' : World} {lo hi g B : Nat} {l : List UInt8} (hc : CP W lo hi g l) (hb : Below B W W') (hB : hi ≤ B) : CP W' lo hi g l :=
  h.keep hc (fun k _ hk => hb.block k (by omega)) hb.size
theorem CodKeep.ext {CP : CodP} (h : CodKeep CP) {W W' : World} {lo hi g : Nat} {l : List UInt8} (hc : CP W lo hi g l) (hE : Ext W W') : CP W' lo hi g l := h.below hc hE (h.le hc).1
theorem CodKeep.mod {CP : CodP} (h : CodKeep CP) {W W' : World} {lo hi g gw : Nat} {ob : Option Nat} {l : List UInt8} (hc : CP W lo hi g l) (hM : Mod W W' gw ob) (hg : gw < lo ∨ hi ≤ gw) (ho : ∀ k, ob = some k → k < lo ∨ hi ≤ k) : CP W' lo hi g l :=
  h.keep hc (fun k h1 h2 => hM.block k (by have := (h.le hc).1; omega) (by omega) (fun e => by have := ho k e.symm; omega)) hM.size
def NewTo (CP : CodP) (W : World) (l : List UInt8) (e : Ending) (w' : World) : Prop :=
  (right l = true → ∃ g, e = .returned (.tuple #[.pointer (some ⟨g, 0, none⟩), .int .i64 0]) ∧ CP w' W.heap.size w'.heap.size g l) ∧ (right l = false → e = .returned (.tuple #[.pointer none, .int .i64 7])) ∧ Ext W w'
end Go.Proofs.YthpbckignppaiaaGreatDoor

namespace Go.Proofs.YthpbckignppaiaaGreatDoor
open Go.RowKit Len Can Huf
def CodR (W : World) (lo hi g : Nat) (l : List UInt8) : Prop :=
  lo ≤ g ∧ g < hi ∧ hi ≤ W.heap.size ∧ ∃ A1 c1 A2 c2 A3 c3 A4 c4 O, Whole W g 118 #[.slice A1 l.length c1, .slice A2 l.length c2, .slice A3 O.length c3, .slice A4 O.length c4] ∧ Tabs W lo hi A1 A2 A3 A4 l O
theorem CodR.keeps : CodKeep CodR where
  le := fun h => ⟨h.2.2.1, h.2.1⟩
  keep := fun {W W' lo hi g l} ⟨h1, h2, h3, A1, c1, A2, c2, A3, c3, A4, c4, O, hW, hT⟩ hk hs => by
    have cell : ∀ {b i : Nat} {v : Value}, W.cell? ⟨b, i, none⟩ = some v → lo ≤ b → b < hi → W'.cell? ⟨b, i, none⟩ = some v := fun hc h1 h2 => (World.cell?_of_block (a := ⟨_, _, none⟩) (hk _ h1 h2)).trans hc
    refine ⟨h1, h2, Nat.le_trans h3 hs, A1, c1, A2, c2, A3, c3, A4, c4, O, (hk g h1 h2).trans hW, ⟨⟨hT.lens.1, ?_⟩, ⟨hT.words.1, ?_⟩, ⟨hT.syms.1, ?_⟩, ⟨hT.starts.1, ?_⟩, hT.ord, hT.low1, hT.low2, hT.low3, hT.low4⟩⟩
    · exact hT.lens.2.imp_right fun ⟨b, o, hA, hB, hc⟩ => ⟨b, o, hA, hB, fun i hi => cell (hc i hi) (hT.low1 b o hA) hB⟩
    · exact hT.words.2.imp_right fun ⟨b, o, hA, hB, hc⟩ => ⟨b, o, hA, hB, fun i hi => cell (hc i hi) (hT.low2 b o hA) hB⟩
    · exact hT.syms.2.imp_right fun ⟨b, o, hA, hB, hc⟩ => ⟨b, o, hA, hB, fun i hi => cell (hc i hi) (hT.low3 b o hA) hB⟩
    · exact hT.starts.2.imp_right fun ⟨b, o, hA, hB, hc⟩ => ⟨b, o, hA, hB, fun i hi => cell (hc i hi) (hT.low4 b o hA) hB⟩
theorem CodR.tab {W : World} {lo hi g : Nat} {l : List UInt8} (h : CodR W lo hi g l) : TabAt W hi g l := by
  obtain ⟨_, _, _, A1, c1, A2, c2, A3, c3, A4, c4, O, hW, hT⟩ := h
  exact ⟨A1, c1, A2, c2, A3, c3, A4, c4, O, hW.at 0 rfl, hW.at 1 rfl, hW.at 2 rfl, hW.at 3 rfl, hT.lens, hT.words, hT.syms, hT.starts, hT.ord⟩
theorem Tabs.ext {w w' : World} {lo hi : Nat} {A1 A2 A3 A4 : Option Addr} {l : List UInt8} {O : List Nat} (h : Tabs w lo hi A1 A2 A3 A4 l O) (hE : Below hi w w') {hi' : Nat} (hh : hi ≤ hi') : Tabs w' lo hi' A1 A2 A3 A4 l O :=
  ⟨(h.lens.below hE (Nat.le_refl _)).mono hh, (h.words.below hE (Nat.le_refl _)).mono hh, ints_mono (h.syms.below hE (Nat.le_refl _)) hh, (h.starts.below hE (Nat.le_refl _)).mono hh, h.ord, h.low1, h.low2, h.low3, h.low4⟩
set_option maxHeartbeats 1000000 in
set_option maxRecDepth 100000 in
theorem hufNew_any (A : Option Addr) (n c : Nat) (l : List UInt8) (w : World) (hc : n ≤ c) (h : Bytes w w.heap.size A n l) : Calls Tryz.prog 62 #[.slice A n c] w (NewTo CodR w l) := by
  have C := tableOf_any A n c l w hc h
  cases hr : right l with
  | false =>
    have HR := hide hr
    clear hr h
    go_enter Tryz.func62, Tryz.ntmps62
    go_wp2_with fail
    refine C.mono ?_
    rintro e w2 ⟨_, hno, hE⟩
    obtain rfl := hno HR.out
    have hW := Whole.new w2 116 #[.slice none 0 0, .slice none 0 0, .slice none 0 0, .slice none 0 0]
    have hE2 := hE.alloc (.cells #[.slice none 0 0, .slice none 0 0, .slice none 0 0, .slice none 0 0] 116)
    have hle := hE.le
    clear C hno
    go_wp2_with (refine wpList_storeW rfl 116 (.tmp 4) (.tmp 9) rfl rfl rfl hW rfl tab_info (four_slices ..) ?_; intro w5 hW5 hG5 hS5; clear hS5)
    go_ret2
    exact ⟨(fun h => by rw [HR.out] at h; cases h), fun _ => rfl, Below.grown hE2 hG5 hE2.le (fun k hk => by cases hk; exact hle)⟩
  | true =>
    have HR := hide hr
    clear hr h
    go_enter Tryz.func62, Tryz.ntmps62
    go_wp2_with fail
    refine C.mono ?_
    rintro e w2 ⟨hyes, _, hE⟩
    obtain ⟨A1, c1, A2, c2, A3, c3, A4, c4, O, rfl, hT⟩ := hyes HR.out
    have hW := Whole.new w2 116 #[.slice none 0 0, .slice none 0 0, .slice none 0 0, .slice none 0 0]
    have hE2 := hE.alloc (.cells #[.slice none 0 0, .slice none 0 0, .slice none 0 0, .slice none 0 0] 116)
    have hT2 := hT.ext (extNew w2 (.cells #[.slice none 0 0, .slice none 0 0, .slice none 0 0, .slice none 0 0] 116)) (Nat.le_refl _)
    have HT := hide hT2
    have hle := hE.le
    clear C hyes hT hT2
    go_wp2_with (first
      | (refine wpList_storeW rfl 116 (.tmp 4) (.tmp 9) rfl rfl rfl hW rfl tab_info (four_slices ..) ?_; intro w5 hW5 hG5 hS5; clear hS5)
      | (refine wpList_load_row rfl 116 (.tmp 4) rfl _ rfl _ _ _ _ hW5 Tryz.underlying116 rfl tab_info ?_))
    go_ret2
    have hB5 : Below w2.heap.size (w2.alloc (.cells #[.slice none 0 0, .slice none 0 0, .slice none 0 0, .slice none 0 0] 116)) w5 := Below.grown (Below.refl _ _) hG5 (by simp) (fun k hk => by cases hk; exact Nat.le_refl _)
    have hF5 : Ext w w5 := Below.grown hE2 hG5 hE2.le (fun k hk => by cases hk; exact hle)
    have hsz := hG5.size
    rw [World.size_alloc] at hsz
    have hT5 := HT.out.ext hB5 (hi' := w2.heap.size) (Nat.le_refl _)
    have hT6 := hT5.ext (Below.mono (extNew w5 (.cells #[.slice A1 l.length c1, .slice A2 l.length c2, .slice A3 O.length c3, .slice A4 O.length c4] 118)) (by omega)) (hi' := w5.heap.size + 1) (by omega)
    refine ⟨fun _ => ⟨w5.heap.size, rfl, by omega, by simp, Nat.le_refl _, A1, c1, A2, c2, A3, c3, A4, c4, O, Whole.new w5 _ _, ?_⟩, (fun h => by rw [HR.out] at h; cases h), hF5.alloc _⟩
    rw [World.size_alloc]
    exact hT6
set_option maxHeartbeats 1000000 in
set_option maxRecDepth 100000 in
theorem hufPut_any {t : TypeId} {R : List Value} {w : World} {lo hi g gw base : Nat} {ob : Option Nat} {B : List Bool} {l : List UInt8} (h : CodR w lo hi g l) (hr : right l = true) (hw : WrtX t R w base gw ob B) (hB : B.length ≤ 800000000) (s : Int) :
    Calls Tryz.prog 51 #[.pointer (some ⟨g, 0, none⟩), .pointer (some ⟨gw, 0, none⟩), .int .i64 s] w (PutsX t R w base gw ob (B ++ putX l s) (putE l s)) := by
  obtain ⟨A1, c1, A2, c2, A3, c3, A4, c4, O, e1, e2, _, _, h1, h2, _⟩ := h.tab
  have CL := fun W (hE : Ext w W) => hlength_any (w := W) ((hE.cell (World.block_lt_of_cell? w _ e1)).trans e1) (h1.below hE h.2.2.1) s
  cases hf : fine l s with
  | false =>
    rw [(lenX_fine l s).2 hf] at CL
    have HX := hide (show putX l s = [] by unfold putX; rw [hf]; rfl)
    have HP := hide (put_bad hf)
    have HW := hide hw
    have CL0 := CL w (Ext.refl w)
    clear h hr hw h1 h2 CL hf
    go_enter Tryz.func51, Tryz.ntmps51
    go_wp2_with fail
    refine CL0.mono ?_
    rintro e w' ⟨rfl, rfl⟩
    go_wp2
    go_ret
    exact ⟨ret_i64 HP.out.symm, ob, by rw [HX.out, List.append_nil]; exact HW.out, .inl rfl, Mod.refl _ _ _⟩
  | true =>
    obtain ⟨k0, k1, k2⟩ := of_decide_eq_true hf
    obtain ⟨k, rfl⟩ := Int.eq_ofNat_of_zero_le k0
    rw [Int.toNat_natCast] at k2
    have hkl : k < l.length := by omega
    rw [lenX_at hkl] at CL
    obtain ⟨_, h15, _⟩ := right_facts hr
    have hy15 := h15 k hkl
    rcases h2.2 with hn | ⟨b2, o2, rfl, hb2, hc2⟩
    · omega
    have e3 := hc2 k hkl
    rw [codesL_at hkl] at e3
    have hwf := word_fits hr hkl k2
    have hwl := word_lt hr hkl
    have HX := hide (show putX l (k : Int) = Bit.num (word l k) (lenAt l k) by unfold putX; rw [if_pos hf]; unfold putB; rw [Int.toNat_natCast])
    have HP := hide (put_fine hf)
    have CP := fun W (hW : WrtX t R W base gw ob B) => put_any hW (word l k) ((lenAt l k : Nat) : Int) (by omega)
    have hg := Bit.put_good (x := word l k) (n := ((lenAt l k : Nat) : Int)) (decide_eq_true ⟨by omega, by omega, by rw [Int.toNat_natCast]; exact hwf⟩)
    simp only [hg.1, hg.2, Int.toNat_natCast] at CP
    have HW := hide hw
    have hyb : ((lenAt l k : Int) == 0) = false := by rw [beq_eq_false_iff_ne]; omega
    have CL0 := CL w (Ext.refl w)
    have CL1 := CL w.drew (Ext.refl w).drew
    clear h hr hw h1 h2 CL hf hg hwf hc2 h15
    generalize word l k = x at *
    generalize lenAt l k = y at *
    go_enter Tryz.func51, Tryz.ntmps51
    go_wp2_with fail
    refine CL0.mono ?_
    rintro e w' ⟨rfl, rfl⟩
    clear CL0
    go_wp2_with fail
    refine wp_region_still_tail 15 (by kernel_rfl) (by kernel_rfl) ?_
    simp only [List.take_succ_cons, List.take_zero, List.drop_succ_cons, List.drop_zero]
    repeat still_step
    still_call (CL1.mono fun _ _ ⟨h1, h2⟩ => ⟨h1, h2.symm⟩)
    repeat still_step
    try refine wpStill_nil ?_
    change wpList _ _ _ _ _ (World.drew _)
    go_wp2_with fail
    refine (CP _ (HW.out.ext (Ext.refl w).drew)).mono ?_
    rintro e w2 ⟨rfl, ob2, hW2, hN2, hM2⟩
    go_wp2
    go_ret
    exact ⟨ret_i64 HP.out.symm, ob2, by rw [HX.out]; exact hW2, hN2, (Mod.ofExt (Ext.refl w).drew).trans hM2 (.inl rfl)⟩
end Go.Proofs.YthpbckignppaiaaGreatDoor

namespace Go.Proofs.YthpbckignppaiaaGreatDoor
open Go.RowKit
theorem wpList_makeB {ops : Array Oper} {rest : List Oper} {o : Oper} {a : Act} {Q : Exit → Act → World → Prop} {w : World} (hgd : o.guard = none) (x y : Operand) (ho : o.op = .makeSlice 22 x y) {n : Nat} (hx : a.eval x = .int .i64 (n : Int)) (hy : a.eval y = .int .i64 (n : Int)) (hn : n ≤ 1000)
    (h : ∀ w', OwnB w' w.heap.size (.slice (some ⟨w.heap.size, 0, none⟩) n n) (List.replicate n 0) → Ext w w' → wpList Tryz.prog ops Q rest (a.put o.dst (.slice (some ⟨w.heap.size, 0, none⟩) n n)) w') : wpList Tryz.prog ops Q (o :: rest) a w := by
  obtain ⟨i, hi, hz, hsz, hby⟩ := info_parts byte_info
  refine wpList_make_full w hgd x y 22 ho w.heap.size 5 i _ 1 Tryz.underlying22 hi hz hsz .i64 .i64 _ _ n hx hy rfl rfl (by rw [hby]; omega) (by unfold maxLen; omega) (Nat.le_refl _) ?_
  intro w' h1 h2
  refine h w' ?_ (Below.grown (Ext.refl w) h2 (Nat.le_refl _) fun k hk => by cases hk)
  unfold OwnB
  have e : (madeCells (Value.int .u8 0).cells (n * 1)).toList = (List.replicate n (0 : UInt8)).map byteV := by
    have : madeCells (Value.int .u8 0).cells n = ((List.replicate n (0 : UInt8)).map byteV).toArray := by
      apply Array.ext
      · simp [size_madeCells]
      · intro i h1 h2
        simp [madeCells, Value.cells, byteV, Nat.mod_one]
    rw [Nat.mul_one, this]
  rw [e] at h1
  simpa using h1
end Go.Proofs.YthpbckignppaiaaGreatDoor

namespace Go.Proofs.YthpbckignppaiaaGreatDoor.Len
abbrev PI := Nat × Nat
def pSym : List Nat → Nat
  | [s] => s
  | _ => 300
def pOf (x : Item) : PI := (x.1, pSym x.2)
def pairsP : List PI → List PI
  | a :: b :: r => (a.1 + b.1, 300) :: pairsP r
  | _ => []
def mergeP : List PI → List PI → List PI
  | [], ps => ps
  | ls, [] => ls
  | a :: ls, b :: ps => if a.1 ≤ b.1 then a :: mergeP ls (b :: ps) else b :: mergeP (a :: ls) ps
termination_by ls ps => ls.length + ps.length
theorem mergeP_nil (l : List PI) : mergeP l [] = l := by cases l <;> simp [mergeP]
theorem nil_mergeP (l : List PI) : mergeP [] l = l := by simp [mergeP]
theorem mergeP_cons (a b : PI) (ls ps : List PI) : mergeP (a :: ls) (b :: ps) = if a.1 ≤ b.1 then a :: mergeP ls (b :: ps) else b :: mergeP (a :: ls) ps := by rw [mergeP]
def rowP (lv : List PI) : Nat → List PI
  | 0 => lv
  | r + 1 => mergeP lv (pairsP (rowP lv r))
theorem mergeP_len : ∀ (ls ps : List PI), (mergeP ls ps).length = ls.length + ps.length
  | [], ps => by rw [nil_mergeP]; simp
  | a :: ls, [] => by rw [mergeP_nil]; simp
  | a :: ls, b :: ps => by
    rw [mergeP_cons]
    split
    · rw [List.length_cons, mergeP_len ls (b :: ps)]; simp; omega
    · rw [List.length_cons, mergeP_len (a :: ls) ps]; simp; omega
termination_by ls ps => ls.length + ps.length
theorem pairsP_len : ∀ l : List PI, (pairsP l).length = l.length / 2
  | [] => rfl
  | [_] => by simp [pairsP]
  | a :: b :: r => by rw [pairsP, List.length_cons, pairsP_len r]; simp; omega
theorem pairsP_get : ∀ (l : List PI) (k : Nat), 2 * k + 1 < l.length → (pairsP l).getD k (0, 0) = ((l.getD (2 * k) (0, 0)).1 + (l.getD (2 * k + 1) (0, 0)).1, 300)
  | [], k, h => by simp at h
  | [_], k, h => by simp at h
  | a :: b :: r, 0, _ => by simp [pairsP]
  | a :: b :: r, k + 1, h => by
    have := pairsP_get r k (by simp at h; omega)
    rw [pairsP]
    simp only [List.getD_cons_succ, show 2 * (k + 1) = 2 * k + 1 + 1 by omega]
    exact this
def Full (l : List Item) : Prop := ∀ x ∈ l, 1 ≤ x.2.length
theorem merge_map (f : Item → PI) (hf : ∀ x, (f x).1 = x.1) : ∀ (ls ps : List Item), (mergeI ls ps).map f = mergeP (ls.map f) (ps.map f)
  | [], ps => by rw [nil_mergeI, List.map_nil, nil_mergeP]
  | a :: ls, [] => by rw [mergeI_nil, List.map_nil, mergeP_nil]
  | a :: ls, b :: ps => by
    rw [mergeI_cons, List.map_cons, List.map_cons, mergeP_cons, hf, hf]
    by_cases h : a.1 ≤ b.1
    · rw [if_pos h, if_pos h, List.map_cons, merge_map f hf ls (b :: ps), List.map_cons]
    · rw [if_neg h, if_neg h, List.map_cons, merge_map f hf (a :: ls) ps, List.map_cons]
termination_by ls ps => ls.length + ps.length
theorem pSym_two {a b : List Nat} (ha : 1 ≤ a.length) (hb : 1 ≤ b.length) : pSym (a ++ b) = 300 := by
  match a, b, ha, hb with
  | x :: a, y :: b, _, _ =>
    cases a <;> rfl
theorem pairs_map : ∀ {l : List Item}, Full l → (pairsOf l).map pOf = pairsP (l.map pOf)
  | [], _ => rfl
  | [_], _ => by simp [pairsOf, pairsP]
  | a :: b :: r, h => by
    rw [pairsOf, List.map_cons, List.map_cons, List.map_cons, pairsP, pairs_map (l := r) fun x hx => h x (by simp [hx])]
    congr 1
    unfold pOf
    simp only
    rw [pSym_two (h a (by simp)) (h b (by simp))]
theorem pairs_full : ∀ {l : List Item}, Full l → Full (pairsOf l)
  | [], _ => by simp [pairsOf, Full]
  | [_], _ => by simp [pairsOf, Full]
  | a :: b :: r, h => by
    intro x hx
    rw [pairsOf] at hx
    rcases List.mem_cons.1 hx with e | e
    · rw [e]
      have := h a (by simp)
      simp only [List.length_append]
      omega
    · exact pairs_full (l := r) (fun y hy => h y (by simp [hy])) x e
theorem pairs_two : ∀ {l : List Item}, Full l → ∀ x ∈ pairsOf l, pSym x.2 = 300
  | [], _, x, hx => by simp [pairsOf] at hx
  | [_], _, x, hx => by simp [pairsOf] at hx
  | a :: b :: r, h, x, hx => by
    rw [pairsOf] at hx
    rcases List.mem_cons.1 hx with e | e
    · rw [e]
      exact pSym_two (h a (by simp)) (h b (by simp))
    · exact pairs_two (l := r) (fun y hy => h y (by simp [hy])) x e
theorem row_full {lv : List Item} (h : Full lv) : ∀ r, Full (row lv r)
  | 0 => h
  | r + 1 => fun x hx => by
    rw [row] at hx
    rcases merge_mem hx with e | e
    · exact h x e
    · exact pairs_full (row_full h r) x e
theorem row_map {lv : List Item} (h : Full lv) : ∀ r, (row lv r).map pOf = rowP (lv.map pOf) r
  | 0 => rfl
  | r + 1 => by rw [row, rowP, merge_map pOf (fun _ => rfl), pairs_map (row_full h r), row_map h r]
theorem merge_takeF : ∀ (ls ps : List Item) (m : Nat), m ≤ ls.length + ps.length → ∃ a, a ≤ m ∧ a ≤ ls.length ∧ m - a ≤ ps.length ∧
    ∀ F : Item → Nat, (((mergeI ls ps).take m).map F).sum = ((ls.take a).map F).sum + ((ps.take (m - a)).map F).sum
  | ls, ps, 0, _ => ⟨0, by omega, by omega, by omega, fun F => by simp⟩
  | [], ps, m + 1, h => ⟨0, by omega, by omega, by simpa using h, fun F => by rw [nil_mergeI]; simp⟩
  | a :: ls, [], m + 1, h => ⟨m + 1, by omega, by simpa using h, by omega, fun F => by rw [mergeI_nil]; simp⟩
  | a :: ls, b :: ps, m + 1, h => by
    rw [mergeI_cons]
    by_cases hab : a.1 ≤ b.1
    · rw [if_pos hab]
      obtain ⟨k, h1, h2, h3, h4⟩ := merge_takeF ls (b :: ps) m (by simp at h ⊢; omega)
      refine ⟨k + 1, by omega, by simpa using h2, by rw [show m + 1 - (k + 1) = m - k by omega]; exact h3, fun F => ?_⟩
      rw [List.take_succ_cons, List.take_succ_cons, List.map_cons, List.map_cons, List.sum_cons, List.sum_cons, h4 F, show m + 1 - (k + 1) = m - k by omega]
      omega
    · rw [if_neg hab]
      obtain ⟨k, h1, h2, h3, h4⟩ := merge_takeF (a :: ls) ps m (by simp at h ⊢; omega)
      refine ⟨k, by omega, h2, by simp; omega, fun F => ?_⟩
      rw [show m + 1 - k = (m - k) + 1 by omega, List.take_succ_cons, List.take_succ_cons, List.map_cons, List.map_cons, List.sum_cons, List.sum_cons, h4 F]
      omega
termination_by ls ps => ls.length + ps.length
theorem count_syms (q : Nat) : ∀ l : List Item, (syms l).count q = (l.map fun x => x.2.count q).sum
  | [] => rfl
  | a :: l => by rw [syms_cons, List.count_append, count_syms q l, List.map_cons, List.sum_cons]
theorem countP_map (p : PI → Bool) (f : Item → PI) : ∀ l : List Item, ((l.map f).countP p) = (l.map fun x => if p (f x) then 1 else 0).sum
  | [] => rfl
  | a :: l => by rw [List.map_cons, List.countP_cons, countP_map p f l, List.map_cons, List.sum_cons]; omega
def packs (l : List PI) : Nat := l.countP fun x => x.2 == 300
def cntP (lv : List PI) (q : Nat) : Nat → Nat → Nat
  | 0, m => ((rowP lv 0).take m).countP fun x => x.2 == q
  | r + 1, m => (((rowP lv (r + 1)).take m).countP fun x => x.2 == q) + cntP lv q r (2 * packs ((rowP lv (r + 1)).take m))
def Single (l : List Item) : Prop := ∀ x ∈ l, ∃ s, x.2 = [s] ∧ s < 300
theorem Single.full {l : List Item} (h : Single l) : Full l := fun x hx => by obtain ⟨s, e, _⟩ := h x hx; rw [e]; simp
theorem sum_congr_mem (F G : Item → Nat) : ∀ {l : List Item}, (∀ x ∈ l, F x = G x) → (l.map F).sum = (l.map G).sum
  | [], _ => rfl
  | a :: l, h => by rw [List.map_cons, List.map_cons, List.sum_cons, List.sum_cons, h a (by simp), sum_congr_mem F G fun x hx => h x (by simp [hx])]
theorem sum_zero_mem (F : Item → Nat) {l : List Item} (h : ∀ x ∈ l, F x = 0) : (l.map F).sum = 0 := by
  rw [sum_congr_mem F (fun _ => 0) h]
  induction l with
  | nil => rfl
  | cons a l ih => rw [List.map_cons, List.sum_cons, ih fun x hx => h x (by simp [hx])]
theorem sum_one_mem (F : Item → Nat) {l : List Item} (h : ∀ x ∈ l, F x = 1) : (l.map F).sum = l.length := by
  induction l with
  | nil => rfl
  | cons a l ih => rw [List.map_cons, List.sum_cons, ih fun x hx => h x (by simp [hx]), h a (by simp), List.length_cons]; omega
section
variable {lv : List Item}
theorem single_count (q s : Nat) : [s].count q = if s == q then 1 else 0 := by rw [List.count_singleton]
theorem row_parts (h : Single lv) (r m : Nat) (hm : m ≤ (row lv (r + 1)).length) : ∃ k, k ≤ m ∧ 2 * k ≤ (row lv r).length ∧ packs ((rowP (lv.map pOf) (r + 1)).take m) = k ∧
    ∀ q, q < 300 → (syms ((row lv (r + 1)).take m)).count q = (((rowP (lv.map pOf) (r + 1)).take m).countP fun x => x.2 == q) + (syms ((row lv r).take (2 * k))).count q := by
  rw [row_len] at hm
  obtain ⟨a, h1, h2, h3, h4⟩ := merge_takeF lv (pairsOf (row lv r)) m (by rw [pairsOf_len]; exact hm)
  rw [pairsOf_len] at h3
  have hF := row_full h.full r
  refine ⟨m - a, by omega, by omega, ?_, fun q hq => ?_⟩
  · unfold packs
    rw [← row_map h.full, ← List.map_take, countP_map, row, h4, sum_zero_mem _ fun x hx => ?_, sum_one_mem _ fun x hx => ?_, List.length_take, pairsOf_len]
    · omega
    · have := pairs_two hF x (List.mem_of_mem_take hx)
      simp [pOf, this]
    · obtain ⟨s, e, hs⟩ := h x (List.mem_of_mem_take hx)
      simp only [pOf, e, pSym, beq_iff_eq]
      rw [if_neg (by omega)]
  · rw [count_syms, ← row_map h.full, ← List.map_take, countP_map, row, h4, h4]
    have e1 : (((pairsOf (row lv r)).take (m - a)).map fun x => x.2.count q).sum = (syms ((row lv r).take (2 * (m - a)))).count q := by
      rw [← count_syms]
      exact (pairs_take (row lv r) (m - a) (by omega)).2 q
    have e2 : (((pairsOf (row lv r)).take (m - a)).map fun x => if (pOf x).2 == q then 1 else 0).sum = 0 := sum_zero_mem _ fun x hx => by
      have := pairs_two hF x (List.mem_of_mem_take hx)
      simp only [pOf, this, beq_iff_eq]
      rw [if_neg (by omega)]
    have e3 : ((lv.take a).map fun x => x.2.count q).sum = ((lv.take a).map fun x => if (pOf x).2 == q then 1 else 0).sum := sum_congr_mem _ _ fun x hx => by
      obtain ⟨s, e, hs⟩ := h x (List.mem_of_mem_take hx)
      simp only [pOf, e, pSym]
      exact single_count q s
    rw [e1, e2, e3, Nat.add_zero]
theorem cntP_eq (h : Single lv) (q : Nat) (hq : q < 300) : ∀ (r m : Nat), m ≤ (row lv r).length → cntP (lv.map pOf) q r m = (syms ((row lv r).take m)).count q
  | 0, m, _ => by
    rw [cntP, rowP, ← List.map_take, countP_map, count_syms, row]
    refine sum_congr_mem _ _ fun x hx => ?_
    obtain ⟨s, e, hs⟩ := h x (List.mem_of_mem_take hx)
    simp only [pOf, e, pSym]
    exact (single_count q s).symm
  | r + 1, m, hm => by
    obtain ⟨k, _, h2, h3, h4⟩ := row_parts h r m hm
    rw [cntP, h3, cntP_eq h q hq r (2 * k) h2, h4 q hq]
theorem packs_le (h : Single lv) (r m : Nat) (hm : m ≤ (row lv (r + 1)).length) : 2 * packs ((rowP (lv.map pOf) (r + 1)).take m) ≤ (row lv r).length := by
  obtain ⟨k, _, h2, h3, _⟩ := row_parts h r m hm
  rw [h3]
  exact h2
end
def metTo (often : List Nat) : Nat → List PI
  | 0 => []
  | j + 1 => if often.getD j 0 = 0 then metTo often j else metTo often j ++ [(often.getD j 0, j)]
theorem insI_perm (x : Item) : ∀ l : List Item, (insI x l).Perm (x :: l)
  | [] => .refl _
  | a :: l => by
    rw [insI]
    split
    · exact ((insI_perm x l).cons a).trans (.swap x a l)
    · exact .refl _
theorem met_perm (often : List Nat) : ∀ j, (metTo often j).Perm ((usedTo often j).map pOf)
  | 0 => .refl _
  | j + 1 => by
    rw [metTo, usedTo]
    split
    · exact met_perm often j
    · refine .trans ?_ ((insI_perm _ _).map pOf).symm
      rw [List.map_cons]
      exact (List.perm_append_singleton _ _).trans ((met_perm often j).cons _)
theorem met_len (often : List Nat) (j : Nat) : (metTo often j).length = (usedTo often j).length := by rw [(met_perm often j).length_eq, List.length_map]
theorem used_single {often : List Nat} {j : Nat} (hj : j ≤ 300) : Single (usedTo often j) := fun x hx => by
  obtain ⟨q, h1, _, e⟩ := used_each hx
  rw [e]
  exact ⟨q, rfl, by omega⟩
def LexP (a b : PI) : Prop := a.1 < b.1 ∨ a.1 = b.1 ∧ a.2 < b.2
theorem used_lexP (often : List Nat) (j : Nat) : ((usedTo often j).map pOf).Pairwise LexP := by
  rw [List.pairwise_map]
  refine (used_lex j).imp_of_mem fun {a b} ha hb hl => ?_
  obtain ⟨q, _, _, rfl⟩ := used_each ha
  obtain ⟨p, _, _, rfl⟩ := used_each hb
  exact hl
theorem met_sorted {often : List Nat} {j : Nat} {l : List PI} (hp : l.Perm (metTo often j)) (hs : l.Pairwise fun a b => LexP a b ∨ a = b) : l = (usedTo often j).map pOf :=
  (hp.trans (met_perm often j)).eq_of_pairwise (le := fun a b => LexP a b ∨ a = b) (fun a b _ _ h1 h2 => by
    rcases h1 with h1 | h1
    · rcases h2 with h2 | h2
      · unfold LexP at h1 h2
        omega
      · exact h2.symm
    · exact h1) hs ((used_lexP often j).imp fun h => .inl h)
end Go.Proofs.YthpbckignppaiaaGreatDoor.Len

namespace Go.Proofs.YthpbckignppaiaaGreatDoor
open Go.RowKit Len
def pC (x : PI) : List Value := [.int .u64 (x.1 : Int), .int .i64 (x.2 : Int)]
theorem pitem_info : (Tryz.prog.info? 121).map (fun i => (i.zero, i.size, i.bytes)) = some (some (.agg #[.int .u64 0, .int .i64 0]), 2, 16) := by kernel_rfl
theorem pC_len : ∀ L : List PI, (L.flatMap pC).length = L.length * 2
  | [] => rfl
  | y :: Y => by rw [List.flatMap_cons, List.length_append, pC_len Y]; simp [pC]; omega
theorem pC_get : ∀ (Y : List PI) (i j : Nat), i < Y.length → j < 2 → (Y.flatMap pC)[i * 2 + j]? = (pC (Y.getD i (0, 0)))[j]?
  | y :: Y, 0, j, _, hj => by
    rw [List.flatMap_cons, Nat.zero_mul, Nat.zero_add, List.getElem?_append_left (by simp [pC]; omega)]
    rfl
  | y :: Y, i + 1, j, h, hj => by
    rw [List.flatMap_cons, List.getElem?_append_right (by simp [pC]; omega)]
    have := pC_get Y i j (by simpa using h) hj
    rw [show (i + 1) * 2 + j - (pC y).length = i * 2 + j by simp [pC]; omega, this]
    simp
def OwnPI (w : World) (base : Nat) (v : Value) (L : List PI) : Prop := w.ownsRow base 121 2 v L.length (L.flatMap pC)
def PIAt (w : World) (B : Nat) (A : Option Addr) (n : Nat) (L : List PI) : Prop :=
  L.length = n ∧ (n = 0 ∨ ∃ b off, A = some ⟨b, off, none⟩ ∧ b < B ∧ ∀ i, i < n → w.cell? ⟨b, off + i * 2, none⟩ = some (.int .u64 ((L.getD i (0, 0)).1 : Int)) ∧ w.cell? ⟨b, off + i * 2 + 1, none⟩ = some (.int .i64 ((L.getD i (0, 0)).2 : Int)))
section
variable {w w' : World} {base B : Nat} {v : Value} {L M : List PI} {A : Option Addr} {n : Nat}
theorem PIAt.ext (h : PIAt w w.heap.size A n L) (hE : Ext w w') : PIAt w' w'.heap.size A n L := by
  refine ⟨h.1, h.2.imp_right fun ⟨b, off, e, hb, hc⟩ => ⟨b, off, e, Nat.lt_of_lt_of_le hb hE.le, fun i hi => ?_⟩⟩
  obtain ⟨k1, k2⟩ := hc i hi
  exact ⟨(hE.cell hb).trans k1, (hE.cell hb).trans k2⟩
theorem PIAt.take {k : Nat} (h : PIAt w B A n L) (hk : k ≤ n) : PIAt w B A k (L.take k) := by
  refine ⟨by rw [List.length_take, h.1]; omega, ?_⟩
  rcases h.2 with h0 | ⟨b, off, e, hb, hc⟩
  · exact .inl (by omega)
  · refine .inr ⟨b, off, e, hb, fun i hi => ?_⟩
    have e2 : (L.take k).getD i (0, 0) = L.getD i (0, 0) := by simp [List.getD_eq_getElem?_getD, hi]
    rw [e2]
    exact hc i (by omega)
theorem PIAt.drop {k c : Nat} (h : PIAt w B A n L) (hk : k ≤ n) (hc : n ≤ c) : PIAt w B (cutAt A (c * 2) (k * 2)) (n - k) (L.drop k) := by
  refine ⟨by rw [List.length_drop, h.1], ?_⟩
  by_cases hkn : k = n
  · exact .inl (by omega)
  rcases h.2 with h0 | ⟨b, off, rfl, hb, hcell⟩
  · exact .inl (by omega)
  · refine .inr ⟨b, off + k * 2, by simp [cutAt, show ¬ c * 2 = k * 2 by omega, Addr.add], hb, fun i hi => ?_⟩
    have e2 : (L.drop k).getD i (0, 0) = L.getD (k + i) (0, 0) := by simp [List.getD_eq_getElem?_getD]
    rw [e2, show off + k * 2 + i * 2 = off + (k + i) * 2 by omega]
    exact hcell (k + i) (by omega)
theorem OwnPI.nil (w : World) (base : Nat) : OwnPI w base (.slice none 0 0) [] := World.ownsRow_nil w base _ _
theorem OwnPI.ext (h : OwnPI w base v L) (hE : Ext w w') : OwnPI w' base v L := World.ownsRow.kept h (hE.grown none) (by cases hv : v.ownBlock <;> simp)
theorem OwnPI.kept {row : Option Nat} (h : OwnPI w base v L) (hg : w.grownBy w' row) (hne : v.ownBlock = none ∨ v.ownBlock ≠ row) : OwnPI w' base v L := World.ownsRow.kept h hg hne
theorem OwnPI.mono {b' : Nat} (h : OwnPI w base v L) (hb : b' ≤ base) : OwnPI w b' v L := ⟨h.1, h.2.elim Or.inl fun ⟨g, cap, cur, hv, hg, r⟩ => Or.inr ⟨g, cap, cur, hv, Nat.le_trans hb hg, r⟩⟩
theorem OwnPI.lt (h : OwnPI w base v L) : ∀ k, v.ownBlock = some k → base ≤ k ∧ k < w.heap.size := World.ownsRow.lt h
theorem OwnPI.form (h : OwnPI w base v L) : ∃ A c, v = .slice A L.length c ∧ L.length ≤ c ∧ c ≤ maxLen ∧ PIAt w w.heap.size A L.length L := by
  rcases h.2 with ⟨rfl, h0⟩ | ⟨g, cap, cur, rfl, hb, hgg, hn, hc, hs, ht⟩
  · exact ⟨none, 0, by rw [h0], by omega, by unfold maxLen; omega, rfl, .inl h0⟩
  · refine ⟨_, cap, rfl, hn, hc, rfl, .inr ⟨g, 0, rfl, (Array.getElem?_eq_some_iff.1 hgg).1, fun i hi => ?_⟩⟩
    have hcell : ∀ j, j < 2 → w.cell? ⟨g, i * 2 + j, none⟩ = (pC (L.getD i (0, 0)))[j]? := fun j hj => by
      rw [cell_of_row w g (i * 2 + j) cur _ _ hgg, ← pC_get L i j hi hj, ← ht, List.getElem?_take, if_pos (by omega)]
      simp
    rw [Nat.zero_add]
    exact ⟨(hcell 0 (by omega)).trans (by simp [pC]), (hcell 1 (by omega)).trans (by simp [pC])⟩
theorem PIAt.one (w : World) (x : PI) : PIAt (w.alloc (.cells #[.int .u64 (x.1 : Int), .int .i64 (x.2 : Int)] 121)) (w.alloc (.cells #[.int .u64 (x.1 : Int), .int .i64 (x.2 : Int)] 121)).heap.size (some ⟨w.heap.size, 0, none⟩) 1 [x] := by
  refine ⟨rfl, .inr ⟨w.heap.size, 0, rfl, by simp, fun i hi => ?_⟩⟩
  obtain rfl : i = 0 := by omega
  exact ⟨cellNew w _ _ _ 0, cellNew w _ _ _ 1⟩
end
theorem run_appPI_zero (w : World) (ty : TypeId) (base : Nat) (v : Value) (L : List PI) (hown : OwnPI w base v L) (A : Option Addr) (c : Nat) :
    (Builtin.append_ #[126, 126] ty #[v, .slice A 0 c]).run Tryz.prog w = .ok v w := by
  obtain ⟨i, hi, _, _, _⟩ := info_parts pitem_info
  rcases hown.2 with ⟨rfl, _⟩ | ⟨g, cap, cur, rfl, _, _, hnc, _⟩
  · cases A <;> simp [Builtin.append_, run_underlying Tryz.underlying126, sizeOf, typeInfo, hi, Builtin.lenOf, Builtin.firstCells, loadCells, loadCellsFrom]
  · cases A <;> simp [Builtin.append_, run_underlying Tryz.underlying126, sizeOf, typeInfo, hi, Builtin.lenOf, Builtin.firstCells, loadCells, loadCellsFrom, hnc, storeCells]
theorem run_appPI {w : World} (ty : TypeId) {base : Nat} {v : Value} {L M : List PI} (hown : OwnPI w base v L) {S : Option Addr} {m : Nat} (c : Nat) {B : Nat} (hsrc : PIAt w B S m M) (hlen : L.length ≤ 100000) (hm : m ≤ 100000) (hbase : base ≤ w.heap.size) :
    ∃ v' w', (Builtin.append_ #[126, 126] ty #[v, .slice S m c]).run Tryz.prog w = .ok v' w' ∧ OwnPI w' base v' (L ++ M) ∧ w.grownBy w' v.ownBlock ∧ (v'.ownBlock = v.ownBlock ∨ v'.ownBlock = some w.heap.size) := by
  obtain ⟨hl2, hcs⟩ := hsrc
  rcases hcs with rfl | ⟨g, off, rfl, _, hc⟩
  · obtain rfl := List.eq_nil_of_length_eq_zero hl2
    exact ⟨v, w, run_appPI_zero w ty base v L hown S c, by rw [List.append_nil]; exact hown, World.grownBy.refl w _, .inl rfl⟩
  · obtain ⟨i, hi, hz, hsz, hby⟩ := info_parts pitem_info
    obtain ⟨v', w', hr, h2, h3, _, h5⟩ := run_append_own_at (P := Tryz.prog) w base 126 ty 121 i _ 2 16 Tryz.underlying126 hi hz hsz hby rfl (by omega) v L.length (L.flatMap pC) hown ⟨g, off, none⟩ m c (M.flatMap pC) (by rw [pC_len, hl2]) (by
      intro j u hu
      have hj : j < m * 2 := by
        have := (List.getElem?_eq_some_iff.1 hu).1
        rw [pC_len, hl2] at this
        exact this
      rw [show (⟨g, off, none⟩ : Addr).add j = ⟨g, off + j, none⟩ by unfold Addr.add; split <;> simp_all]
      obtain ⟨k1, k2⟩ := hc (j / 2) (by omega)
      have hd : j = j / 2 * 2 + j % 2 := by omega
      rw [hd, pC_get M (j / 2) (j % 2) (by omega) (by omega)] at hu
      rcases (show j % 2 = 0 ∨ j % 2 = 1 by omega) with e | e
      · rw [e] at hu
        rw [show off + j = off + j / 2 * 2 by omega, k1]
        simpa [pC] using hu
      · rw [e] at hu
        rw [show off + j = off + j / 2 * 2 + 1 by omega, k2]
        simpa [pC] using hu) (by
      intro u hu
      obtain ⟨y, hy, hu2⟩ := List.mem_flatMap.1 hu
      simp only [pC, List.mem_cons, List.not_mem_nil, or_false] at hu2
      rcases hu2 with rfl | rfl <;> rfl) (by unfold maxLen; omega) (by omega) hbase
    refine ⟨v', w', hr, ?_, h3, h5⟩
    unfold OwnPI
    rw [List.length_append, List.flatMap_append, hl2]
    exact h2
section
variable {o : Oper} {a : Act} {Q : Exit → Act → World → Prop} {w : World} {base B : Nat} {v : Value} {L M : List PI}
theorem wp_appPI {K : Act → World → Prop} (s x : Operand) (ho : o.op = .call { callee := .builtin .append, args := #[s, x], argTypes := #[126, 126] }) (hs : a.eval s = v)
    (hown : OwnPI w base v L) {S : Option Addr} {m c : Nat} (hx : a.eval x = .slice S m c) (hsrc : PIAt w B S m M) (hlen : L.length ≤ 100000) (hm : m ≤ 100000) (hbase : base ≤ w.heap.size)
    (h : ∀ v' w', OwnPI w' base v' (L ++ M) → w.grownBy w' v.ownBlock → (v'.ownBlock = v.ownBlock ∨ v'.ownBlock = some w.heap.size) → K (a.put o.dst v') w') : o.wp Tryz.prog a w K Q := by
  obtain ⟨v', w', hr, h2, h3, h4⟩ := run_appPI o.type hown c hsrc hlen hm hbase
  unfold Oper.wp execOp
  simp only [ho, resolve, invoke, builtin, Sem.run_bind, Sem.run_pure, Result.andThen_ok, List.map_toArray, List.map_cons, List.map_nil, hs, hx, hr]
  exact h v' w' h2 h3 h4
theorem wpList_appPI {ops : Array Oper} {rest : List Oper} (hgd : o.guard = none) (s x : Operand) (ho : o.op = .call { callee := .builtin .append, args := #[s, x], argTypes := #[126, 126] }) (hs : a.eval s = v)
    (hown : OwnPI w base v L) {S : Option Addr} {m c : Nat} (hx : a.eval x = .slice S m c) (hsrc : PIAt w B S m M) (hlen : L.length ≤ 100000) (hm : m ≤ 100000) (hbase : base ≤ w.heap.size)
    (h : ∀ v' w', OwnPI w' base v' (L ++ M) → w.grownBy w' v.ownBlock → (v'.ownBlock = v.ownBlock ∨ v'.ownBlock = some w.heap.size) → wpList Tryz.prog ops Q rest (a.put o.dst v') w') : wpList Tryz.prog ops Q (o :: rest) a w :=
  wpList_plain hgd fun _ hK => wp_appPI s x ho hs hown hx hsrc hlen hm hbase fun v' w' h2 h3 h4 => hK _ _ (h v' w' h2 h3 h4)
end
theorem run_headP (W : World) (a : Option Addr) (n c : Nat) (k : IntKind) (h : Int) (h0 : 0 ≤ h) (h1 : h ≤ c) :
    (Instr.slice 126 (.slice a n c) none (some (.int k h)) none).run Tryz.prog W = .ok (.slice (cutAt a (c * 2) (0 * 2)) h.toNat c) W := by
  rw [run_slice_h (P := Tryz.prog) (w := W) 126 a n c (by kernel_rfl) k h h0 h1]
  have hs : (sizeOf (Tryz.prog.elem 126)).run Tryz.prog W = .ok 2 W := by kernel_rfl
  rw [hs]
  have e : (c * 2 = 0 * 2) = (c = 0) := propext ⟨fun h => by omega, fun h => by omega⟩
  simp only [Result.andThen, sliced, cutAt, e, Nat.sub_zero]
theorem run_cutP (W : World) (a : Option Addr) (n c : Nat) (k : IntKind) (l : Int) (h0 : 0 ≤ l) (h1 : l ≤ n) :
    (Instr.slice 126 (.slice a n c) (some (.int k l)) none none).run Tryz.prog W = .ok (.slice (cutAt a (c * 2) (l.toNat * 2)) (n - l.toNat) (c - l.toNat)) W := by
  rw [run_slice_l (P := Tryz.prog) (w := W) 126 a n c (by kernel_rfl) k l h0 h1]
  have hs : (sizeOf (Tryz.prog.elem 126)).run Tryz.prog W = .ok 2 W := by kernel_rfl
  rw [hs]
  have e : (c * 2 = l.toNat * 2) = (c = l.toNat) := propext ⟨fun h => by omega, fun h => by omega⟩
  simp only [Result.andThen, sliced, cutAt, e]
theorem PIAt.head {w : World} {B : Nat} {A : Option Addr} {n c k : Nat} {L : List PI} (h : PIAt w B A n L) (hk : k ≤ n) (hc : n ≤ c) : PIAt w B (cutAt A (c * 2) (0 * 2)) k (L.take k) := by
  have := (h.drop (k := 0) (Nat.zero_le n) hc).take (k := k) (by omega)
  simpa using this
end Go.Proofs.YthpbckignppaiaaGreatDoor

namespace Go.Proofs.YthpbckignppaiaaGreatDoor
open Go.RowKit
def Gr (w w' : World) : Prop := ∃ q os, w' = Go.Sort.grow (w.drewN q) os
theorem Gr.refl (w : World) : Gr w w := ⟨0, #[], by rw [Go.Sort.grow_empty]; rfl⟩
theorem Gr.drewN {a b : World} (h : Gr a b) (n : Nat) : Gr a (b.drewN n) := by
  obtain ⟨q, os, rfl⟩ := h
  refine ⟨q + n, os, ?_⟩
  rw [← World.drewN_drewN]
  rfl
theorem Gr.drew {a b : World} (h : Gr a b) : Gr a b.drew := h.drewN 1
theorem Gr.alloc {a b : World} (h : Gr a b) (o : Obj) : Gr a (b.alloc o) := by
  obtain ⟨q, os, rfl⟩ := h
  exact ⟨q, os ++ #[o], by rw [Go.Sort.alloc_eq_grow, Go.Sort.grow_grow]⟩
theorem Gr.trans {a b c : World} (h : Gr a b) (k : Gr b c) : Gr a c := by
  obtain ⟨q, os, rfl⟩ := h
  obtain ⟨p, os', rfl⟩ := k
  refine ⟨q + p, os ++ os', ?_⟩
  rw [← Go.Sort.grow_grow, ← World.drewN_drewN]
  rfl
theorem Gr.ext {a b : World} (h : Gr a b) : Ext a b := by
  obtain ⟨q, os, rfl⟩ := h
  exact ⟨rfl, rfl, rfl, by simp, fun k hk => by
    have := Go.Sort.cell?_grow (a.drewN q) os
    show (a.heap ++ os)[k]? = a.heap[k]?
    rw [Array.getElem?_append_left hk]⟩
def cmpN (x y : Int) : Int := if x < y then -1 else if y < x then 1 else 0
def orN (x y : Int) : Int := if x = 0 then y else x
def cmpPI (x y : Nat × Nat) : Int := orN (cmpN x.1 y.1) (cmpN x.2 y.2)
theorem isNaNU_any (x : Int) (w : World) : Calls Tryz.prog 83 #[.int .u64 x] w fun e w' => e = .returned (.bool false) ∧ w = w' := by
  go_enter Tryz.func83, Tryz.ntmps83
  go_wp2
  go_ret
  exact ⟨by simp, rfl⟩
theorem isNaNI_any (x : Int) (w : World) : Calls Tryz.prog 84 #[.int .i64 x] w fun e w' => e = .returned (.bool false) ∧ w = w' := by
  go_enter Tryz.func84, Tryz.ntmps84
  go_wp2
  go_ret
  exact ⟨by simp, rfl⟩
set_option maxHeartbeats 1000000 in
theorem compareU_any (x y : Int) (w : World) : Calls Tryz.prog 70 #[.int .u64 x, .int .u64 y] w fun e w' => e = .returned (.int .i64 (cmpN x y)) ∧ Gr w w' := by
  have HC : ∀ c, cmpN x y = c → Ending.returned (.int .i64 c) = .returned (.int .i64 (cmpN x y)) := fun c h => by rw [h]
  have H1 : x < y → cmpN x y = -1 := fun h => if_pos h
  have H2 : ¬ x < y → y < x → cmpN x y = 1 := fun h k => by unfold cmpN; rw [if_neg h, if_pos k]
  have H3 : ¬ x < y → ¬ y < x → cmpN x y = 0 := fun h k => by unfold cmpN; rw [if_neg h, if_neg k]
  go_enter Tryz.func70, Tryz.ntmps70
  go_wp2_with (first | (go_at_call 83; refine (isNaNU_any _ _).mono ?_; rintro e w' ⟨rfl, rfl⟩))
  all_goals
    go_ret
    exact ⟨by first | exact HC _ (H1 (by assumption)) | exact HC _ (H2 (by omega) (by omega)) | exact HC _ (H3 (by omega) (by omega)), Gr.refl _⟩
set_option maxHeartbeats 1000000 in
theorem compareI_any (x y : Int) (w : World) : Calls Tryz.prog 71 #[.int .i64 x, .int .i64 y] w fun e w' => e = .returned (.int .i64 (cmpN x y)) ∧ Gr w w' := by
  have HC : ∀ c, cmpN x y = c → Ending.returned (.int .i64 c) = .returned (.int .i64 (cmpN x y)) := fun c h => by rw [h]
  have H1 : x < y → cmpN x y = -1 := fun h => if_pos h
  have H2 : ¬ x < y → y < x → cmpN x y = 1 := fun h k => by unfold cmpN; rw [if_neg h, if_pos k]
  have H3 : ¬ x < y → ¬ y < x → cmpN x y = 0 := fun h k => by unfold cmpN; rw [if_neg h, if_neg k]
  go_enter Tryz.func71, Tryz.ntmps71
  go_wp2_with (first | (go_at_call 84; refine (isNaNI_any _ _).mono ?_; rintro e w' ⟨rfl, rfl⟩))
  all_goals
    go_ret
    exact ⟨by first | exact HC _ (H1 (by assumption)) | exact HC _ (H2 (by omega) (by omega)) | exact HC _ (H3 (by omega) (by omega)), Gr.refl _⟩
set_option maxHeartbeats 1000000 in
theorem or_any (x y : Int) (g : Nat) (w : World) (h0 : w.cell? ⟨g, 0, none⟩ = some (.int .i64 x)) (h1 : w.cell? ⟨g, 1, none⟩ = some (.int .i64 y)) :
    Calls Tryz.prog 69 #[.slice (some ⟨g, 0, none⟩) 2 2] w fun e w' => e = .returned (.int .i64 (orN x y)) ∧ Gr w w' := by
  have HX : ∀ c, (orN x y) = c → Ending.returned (.int .i64 c) = .returned (.int .i64 (orN x y)) := fun c h => by rw [h]
  have HXH := hide HX
  clear HX
  go_enter Tryz.func69, Tryz.ntmps69
  go_wp2
  go_loop [8] (fun i => ∃ k : Nat, k ≤ 2 ∧ i = .int .i64 k ∧ (1 ≤ k → x = 0) ∧ (2 ≤ k → y = 0)) (fun i => 2 - (intOf i).toNat)
  case atStart => exact ⟨0, by omega, rfl, fun h => by omega, fun h => by omega⟩
  case round =>
    obtain ⟨k, hk, rfl, hx, hy⟩ := hrel
    match k, hk with
    | 0, _ =>
      by_cases h : x = 0
      · have hb : (x != 0) = false := by rw [h]; rfl
        clear hx hy
        have HH := hide h
        clear h
        go_wp2
        go_round
        case rel => exact ⟨1, by omega, rfl, fun _ => HH.out, fun h => by omega⟩
        case measure => simp [intOf]
      · have hb : (x != 0) = true := by simpa using h
        clear hx hy
        have HH := hide h
        clear h
        go_wp2
        go_ret
        exact ⟨HXH.out _ (if_neg HH.out), Gr.refl _⟩
    | 1, _ =>
      have HX0 := hide (hx (by omega))
      clear hx
      by_cases h : y = 0
      · have hb : (y != 0) = false := by rw [h]; rfl
        clear hy
        have HH := hide h
        clear h
        go_wp2
        go_round
        case rel => exact ⟨2, by omega, rfl, fun _ => HX0.out, fun _ => HH.out⟩
        case measure => simp [intOf]
      · have hb : (y != 0) = true := by simpa using h
        clear hy h
        go_wp2
        go_ret
        exact ⟨HXH.out _ (if_pos HX0.out), Gr.refl _⟩
    | 2, _ =>
      have HX0 := hide (hx (by omega))
      have HY0 := hide (hy (by omega))
      clear hx hy
      go_wp2
      go_ret
      exact ⟨HXH.out _ (by unfold orN; rw [if_pos HX0.out]; exact HY0.out), Gr.refl _⟩
set_option maxHeartbeats 2000000 in
set_option maxRecDepth 100000 in
theorem order_any (x y : Nat × Nat) (w : World) :
    Calls Tryz.prog 68 #[.agg #[.int .u64 (x.1 : Int), .int .i64 (x.2 : Int)], .agg #[.int .u64 (y.1 : Int), .int .i64 (y.2 : Int)]] w fun e w' => e = .returned (.int .i64 (cmpPI x y)) ∧ Gr w w' := by
  unfold cmpPI
  have hC : ∀ W, Ext ((w.alloc (.cells #[.int .u64 (x.1 : Int), .int .i64 (x.2 : Int)] 121)).alloc (.cells #[.int .u64 (y.1 : Int), .int .i64 (y.2 : Int)] 121)) W →
      W.cell? ⟨w.heap.size, 0, none⟩ = some (.int .u64 (x.1 : Int)) ∧ W.cell? ⟨w.heap.size, 1, none⟩ = some (.int .i64 (x.2 : Int)) ∧ W.cell? ⟨w.heap.size + 1, 0, none⟩ = some (.int .u64 (y.1 : Int)) ∧ W.cell? ⟨w.heap.size + 1, 1, none⟩ = some (.int .i64 (y.2 : Int)) := fun W hE => by
    have k1 := fun i => (extNew (w.alloc (.cells #[.int .u64 (x.1 : Int), .int .i64 (x.2 : Int)] 121)) (.cells #[.int .u64 (y.1 : Int), .int .i64 (y.2 : Int)] 121)).cell (g := w.heap.size) (i := i) (by simp)
    have k2 := cellNew w #[.int .u64 (x.1 : Int), .int .i64 (x.2 : Int)] 121 (0, 0)
    have k3 := cellNew (w.alloc (.cells #[.int .u64 (x.1 : Int), .int .i64 (x.2 : Int)] 121)) #[.int .u64 (y.1 : Int), .int .i64 (y.2 : Int)] 121 (0, 0)
    rw [World.size_alloc] at k3
    refine ⟨?_, ?_, ?_, ?_⟩
    · rw [hE.cell (by simp; omega), k1, k2]; rfl
    · rw [hE.cell (by simp; omega), k1, k2]; rfl
    · rw [hE.cell (by simp), k3]; rfl
    · rw [hE.cell (by simp), k3]; rfl
  have hG2 : Gr w ((w.alloc (.cells #[.int .u64 (x.1 : Int), .int .i64 (x.2 : Int)] 121)).alloc (.cells #[.int .u64 (y.1 : Int), .int .i64 (y.2 : Int)] 121)) := ((Gr.refl w).alloc _).alloc _
  go_enter Tryz.func68, Tryz.ntmps68
  go_wp2_with fail
  generalize hw2 : (w.alloc (.cells #[.int .u64 (x.1 : Int), .int .i64 (x.2 : Int)] 121)).alloc (.cells #[.int .u64 (y.1 : Int), .int .i64 (y.2 : Int)] 121) = w2 at hC hG2 ⊢
  clear hw2
  refine wp_region_T (fun W => Gr w2 W) 12 13 #[false, false, false, false, false, false, false, false, false, false, false, false, false] (by kernel_rfl) rfl rfl (Gr.refl w2).drew ?_
  intro hS0
  refine wpAnyT_take 0 (some 5) (.pointer (some ⟨w.heap.size, 0, none⟩)) #[true, false, false, false, false, false, false, false, false, false, false, false, false] rfl rfl rfl (by kernel_rfl) (fun _ _ _ h => h) hS0 (by rfl) (fun W hX => by go_simp) ?_
  simp only [Act.put, List.setIfInBounds_toArray, List.set_cons_zero, List.set_cons_succ]
  refine wpAnyT_take 1 (some 6) (.int .u64 (x.1 : Int)) #[true, true, false, false, false, false, false, false, false, false, false, false, false] rfl rfl rfl (by kernel_rfl) (fun _ _ _ h => h) hS0 (by rfl) (fun W hX => by obtain ⟨f0, f1, f2, f3⟩ := hC W hX.ext; go_simp) ?_
  simp only [Act.put, List.setIfInBounds_toArray, List.set_cons_zero, List.set_cons_succ]
  refine wpAnyT_take 2 (some 7) (.pointer (some ⟨w.heap.size + 1, 0, none⟩)) #[true, true, true, false, false, false, false, false, false, false, false, false, false] rfl rfl rfl (by kernel_rfl) (fun _ _ _ h => h) hS0 (by rfl) (fun W hX => by go_simp) ?_
  simp only [Act.put, List.setIfInBounds_toArray, List.set_cons_zero, List.set_cons_succ]
  refine wpAnyT_take 3 (some 8) (.int .u64 (y.1 : Int)) #[true, true, true, true, false, false, false, false, false, false, false, false, false] rfl rfl rfl (by kernel_rfl) (fun _ _ _ h => h) hS0 (by rfl) (fun W hX => by obtain ⟨f0, f1, f2, f3⟩ := hC W hX.ext; go_simp) ?_
  simp only [Act.put, List.setIfInBounds_toArray, List.set_cons_zero, List.set_cons_succ]
  refine wpAnyT_take 5 (some 10) (.pointer (some ⟨w.heap.size, 1, none⟩)) #[true, true, true, true, false, true, false, false, false, false, false, false, false] rfl rfl rfl (by kernel_rfl) (fun _ _ _ h => h) hS0 (by rfl) (fun W hX => by go_simp) ?_
  simp only [Act.put, List.setIfInBounds_toArray, List.set_cons_zero, List.set_cons_succ]
  refine wpAnyT_take 6 (some 11) (.int .i64 (x.2 : Int)) #[true, true, true, true, false, true, true, false, false, false, false, false, false] rfl rfl rfl (by kernel_rfl) (fun _ _ _ h => h) hS0 (by rfl) (fun W hX => by obtain ⟨f0, f1, f2, f3⟩ := hC W hX.ext; go_simp) ?_
  simp only [Act.put, List.setIfInBounds_toArray, List.set_cons_zero, List.set_cons_succ]
  refine wpAnyT_take 7 (some 12) (.pointer (some ⟨w.heap.size + 1, 1, none⟩)) #[true, true, true, true, false, true, true, true, false, false, false, false, false] rfl rfl rfl (by kernel_rfl) (fun _ _ _ h => h) hS0 (by rfl) (fun W hX => by go_simp) ?_
  simp only [Act.put, List.setIfInBounds_toArray, List.set_cons_zero, List.set_cons_succ]
  refine wpAnyT_take 8 (some 13) (.int .i64 (y.2 : Int)) #[true, true, true, true, false, true, true, true, true, false, false, false, false] rfl rfl rfl (by kernel_rfl) (fun _ _ _ h => h) hS0 (by rfl) (fun W hX => by obtain ⟨f0, f1, f2, f3⟩ := hC W hX.ext; go_simp) ?_
  simp only [Act.put, List.setIfInBounds_toArray, List.set_cons_zero, List.set_cons_succ]
  refine wpAnyT_only 4 #[true, true, true, true, true, true, true, true, true, false, false, false, false] (by kernel_rfl) rfl rfl (by rfl) (fun K0 hK0 => ?_)
  go_simp
  go_at_call 70
  refine ((compareU_any _ _) _).mono ?_
  rintro e wc0 ⟨rfl, hC0⟩
  have hX0 := hS0.trans hC0
  refine hK0 _ _ (fun _ => hX0) ?_
  clear hK0 K0
  refine wpAnyT_only 9 #[true, true, true, true, true, true, true, true, true, true, false, false, false] (by kernel_rfl) rfl rfl (by rfl) (fun K1 hK1 => ?_)
  go_simp
  go_at_call 71
  refine ((compareI_any _ _) _).mono ?_
  rintro e wc1 ⟨rfl, hC1⟩
  have hX1 := hX0.trans hC1
  refine hK1 _ _ (fun _ => hX1) ?_
  clear hK1 K1
  refine wpAnyT_only 10 #[true, true, true, true, true, true, true, true, true, true, true, false, false] (by kernel_rfl) rfl rfl (by rfl) (fun K2 hK2 => ?_)
  go_simp
  refine hK2 _ _ (fun _ => hX1.alloc _) ?_
  clear hK2 K2
  have g0 := cellNew wc1 #[.int .i64 (cmpN (x.1 : Int) (y.1 : Int)), .int .i64 (cmpN (x.2 : Int) (y.2 : Int))] 3 (0, 0) 0
  have g1 := cellNew wc1 #[.int .i64 (cmpN (x.1 : Int) (y.1 : Int)), .int .i64 (cmpN (x.2 : Int) (y.2 : Int))] 3 (0, 0) 1
  refine wpAnyT_only 11 #[true, true, true, true, true, true, true, true, true, true, true, true, false] (by kernel_rfl) rfl rfl (by rfl) (fun K3 hK3 => ?_)
  go_simp
  go_at_call 69
  refine (or_any _ _ _ _ g0 g1).mono ?_
  rintro e w4 ⟨rfl, hE4⟩
  have hX4 := (hX1.alloc _).trans hE4
  refine hK3 _ _ (fun _ => hX4) ?_
  clear hK3 K3 g0 g1
  refine wpAnyT_only 12 #[true, true, true, true, true, true, true, true, true, true, true, true, true] (by kernel_rfl) rfl rfl (by rfl) (fun K5 hK5 => ?_)
  go_simp
  refine hK5 _ _ (fun h => absurd h (by decide)) (wpAnyT_done (by kernel_rfl) ?_ _)
  clear hK5 K5
  go_wp2
  go_ret
  exact ⟨rfl, hG2.trans hX4⟩
end Go.Proofs.YthpbckignppaiaaGreatDoor

namespace Go.Proofs.YthpbckignppaiaaGreatDoor
open Go.RowKit Len
def ltP (x y : PI) : Bool := decide (cmpPI x y < 0)
def sortP (L : List PI) : List PI := L.mergeSort fun x y => !ltP y x
theorem ltP_iff {x y : PI} : ltP x y = true ↔ LexP x y := by
  unfold ltP cmpPI orN LexP
  have h1 : cmpN (x.1 : Int) (y.1 : Int) = if x.1 < y.1 then -1 else if y.1 < x.1 then 1 else 0 := by unfold cmpN; simp only [Int.ofNat_lt]
  have h2 : cmpN (x.2 : Int) (y.2 : Int) = if x.2 < y.2 then -1 else if y.2 < x.2 then 1 else 0 := by unfold cmpN; simp only [Int.ofNat_lt]
  rw [h1, h2, decide_eq_true_iff]
  constructor
  · intro h
    split at h <;> split at h <;> (repeat' split at h) <;> simp_all <;> omega
  · intro h
    split <;> split <;> (repeat' split) <;> simp_all <;> omega
theorem ltP_not {x y : PI} : (!ltP y x) = true ↔ LexP x y ∨ x = y := by
  rw [Bool.not_eq_true', ← Bool.not_eq_true, ltP_iff]
  unfold LexP
  constructor
  · intro h
    by_cases he : x.1 = y.1 ∧ x.2 = y.2
    · exact .inr (Prod.ext he.1 he.2)
    · exact .inl (by omega)
  · rintro (h | rfl)
    · omega
    · omega
theorem sortP_met (often : List Nat) (j : Nat) : sortP (metTo often j) = (usedTo often j).map pOf :=
  met_sorted (List.mergeSort_perm _ _) (by
    have := List.pairwise_mergeSort (le := fun x y : PI => !ltP y x) (fun a b c h1 h2 => by
      rw [ltP_not] at h1 h2 ⊢
      unfold LexP at *
      rcases h1 with h1 | rfl
      · rcases h2 with h2 | rfl
        · exact .inl (by omega)
        · exact .inl h1
      · exact h2) (fun a b => by
      rw [Bool.or_eq_true, ltP_not, ltP_not]
      unfold LexP
      by_cases he : a.1 = b.1 ∧ a.2 = b.2
      · exact .inl (.inr (Prod.ext he.1 he.2))
      · by_cases h : a.1 < b.1 ∨ a.1 = b.1 ∧ a.2 < b.2
        · exact .inl (.inl h)
        · exact .inr (.inl (by omega))) (metTo often j)
    exact this.imp fun h => ltP_not.1 h)
def SortC : Prop := ∀ (w : World) (base : Nat) (v : Value) (L : List PI), OwnPI w base v L → L.length ≤ 300 →
  Calls Tryz.prog 85 #[v, .func (.func 68) #[] #[]] w fun e w' => e = .returned (.tuple #[]) ∧ OwnPI w' base v (sortP L) ∧ w.grownBy w' v.ownBlock
theorem met_step (often : List Nat) (j : Nat) : metTo often (j + 1) = if often.getD j 0 = 0 then metTo often j else metTo often j ++ [(often.getD j 0, j)] := rfl
theorem met_le (often : List Nat) (j : Nat) : (metTo often j).length ≤ j := by rw [met_len]; exact used_le j
set_option maxHeartbeats 2000000 in
set_option maxRecDepth 100000 in
theorem leavesOf_any (hS : SortC) {often : List Nat} {A : Option Addr} {n c : Nat} {w : World} (hn : n ≤ 300) (h : U32At w w.heap.size A n often) :
    Calls Tryz.prog 72 #[.slice A n c, .func (.func 68) #[] #[]] w fun e w' => ∃ v, e = .returned v ∧ OwnPI w' w.heap.size v ((usedTo often n).map pOf) ∧ Ext w w' := by
  rw [← sortP_met]
  obtain ⟨_, hlt, hc⟩ := h
  have HM := hide (met_step often)
  have HL := hide (met_le often)
  have H0 : metTo often 0 = [] := rfl
  have HS := hide hS
  clear hS
  generalize metTo often = mt at *
  have H00 := hide H0
  clear H0
  go_enter Tryz.func72, Tryz.ntmps72
  go_wp2
  go_loopw [5, 10] (fun a i wr => ∃ j : Nat, j ≤ n ∧ i = .int .i64 j ∧ OwnPI wr w.heap.size a (mt j) ∧ Ext w wr) (fun _ i _ => n - (intOf i).toNat)
  case atStart => exact ⟨0, Nat.zero_le _, rfl, by rw [H00.out]; exact OwnPI.nil _ _, Ext.refl _⟩
  case round =>
    obtain ⟨j, hj, rfl, hO, hE⟩ := hrel
    have hle := HL.out j
    by_cases hjn : j < n
    · rcases hc with h0 | ⟨b, o, rfl, hb, hc⟩
      · omega
      have hcell := (hE.cell (i := o + j) hb).trans (hc j hjn)
      have hx := hlt j
      have HM2 := HM.out j
      clear hc hlt
      generalize often.getD j 0 = x at *
      by_cases hx0 : x = 0
      · subst hx0
        rw [if_pos rfl] at HM2
        have HM3 := hide HM2
        clear HM2
        go_wp2
        go_roundw
        case rel => exact ⟨j + 1, by omega, by go_num, by rw [HM3.out]; exact hO, hE⟩
        case measure => simp [intOf]; omega
      · rw [if_neg hx0] at HM2
        have HM3 := hide HM2
        clear HM2
        have hxI : (0 : Int) < (x : Int) := by omega
        obtain ⟨Av, cv, rfl, _, _, _⟩ := hO.form
        have hEa := extNew wr (.cells #[.int .u64 (x : Int), .int .i64 (j : Int)] 121)
        have hOa := hO.ext hEa
        have hone := PIAt.one wr (x, j)
        have hsb := hE.le
        have hl0 : (mt j).length ≤ 100000 := by omega
        go_wp2_with (at_builtin; refine wpList_appPI rfl (.tmp 17) (.tmp 22) rfl rfl hOa rfl hone hl0 (by omega) (Nat.le_trans hsb hEa.le) ?_; intro v5 w5 hO5 hG5 _)
        have hE5 : Ext w w5 := Below.grown (hE.trans hEa) hG5 (hE.trans hEa).le (fun k hk => (hO.lt k hk).1)
        rw [← HM3.out] at hO5
        go_roundw
        case rel => exact ⟨j + 1, by omega, by go_num, hO5, hE5⟩
        case measure => simp [intOf]; omega
    · obtain rfl : n = j := by omega
      have C := HS.out wr w.heap.size u5 (mt n) hO (by omega)
      obtain ⟨Av, cv, rfl, _, _, _⟩ := hO.form
      go_wp2_with fail
      refine C.mono ?_
      rintro e w5 ⟨rfl, hO5, hG5⟩
      have hE5 : Ext w w5 := Below.grown hE hG5 hE.le (fun k hk => (hO.lt k hk).1)
      go_wp2
      go_ret
      exact ⟨_, rfl, hO5, hE5⟩
end Go.Proofs.YthpbckignppaiaaGreatDoor

namespace Go.Proofs.YthpbckignppaiaaGreatDoor
open Go.Shelf Go.RowKit Go.Sort Len
def laysSort_ren : Go.Shelf.Ren := ⟨fun | 6 => 85 | 15 => 63 | 14 => 92 | 28 => 79 | 29 => 80 | 20 => 97 | 21 => 98 | 22 => 99 | 23 => 100 | 24 => 101 | 25 => 102 | 26 => 103 | 27 => 104 | 46 => 106 | 47 => 107 | 48 => 108 | 49 => 109 | 50 => 110 | 57 => 111 | n => n, fun | 22 => 126 | 24 => 121 | 25 => 125 | 3 => 3 | 39 => 81 | 0 => 0 | 53 => 39 | 55 => 38 | 4 => 4 | 46 => 164 | 45 => 163 | 50 => 103 | 5 => 5 | 9 => 9 | 66 => 170 | 70 => 174 | 76 => 176 | 77 => 91 | n => n, fun | n => n⟩
theorem laysSort : Go.Proofs.SlLaysF0.n6 Tryz.prog laysSort_ren := {
  mixed := by kernel_rfl
  f6 := ⟨Tryz.f85.name, by decide, Tryz.func85.trans (congrArg some (by kernel_rfl))⟩
  f14 := ⟨Tryz.f92.name, by decide, Tryz.func92.trans (congrArg some (by kernel_rfl))⟩
  f15 := Tryz.func63.trans (congrArg some (by kernel_rfl))
  f20 := ⟨Tryz.f97.name, by decide, Tryz.func97.trans (congrArg some (by kernel_rfl))⟩
  f21 := ⟨Tryz.f98.name, by decide, Tryz.func98.trans (congrArg some (by kernel_rfl))⟩
  f22 := ⟨Tryz.f99.name, by decide, Tryz.func99.trans (congrArg some (by kernel_rfl))⟩
  f23 := ⟨Tryz.f100.name, by decide, Tryz.func100.trans (congrArg some (by kernel_rfl))⟩
  f24 := ⟨Tryz.f101.name, by decide, Tryz.func101.trans (congrArg some (by kernel_rfl))⟩
  f25 := ⟨Tryz.f102.name, by decide, Tryz.func102.trans (congrArg some (by kernel_rfl))⟩
  f26 := ⟨Tryz.f103.name, by decide, Tryz.func103.trans (congrArg some (by kernel_rfl))⟩
  f27 := ⟨Tryz.f104.name, by decide, Tryz.func104.trans (congrArg some (by kernel_rfl))⟩
  f28 := Tryz.func79.trans (congrArg some (by kernel_rfl))
  f29 := Tryz.func80.trans (congrArg some (by kernel_rfl))
  f46 := ⟨Tryz.f106.name, by decide, Tryz.func106.trans (congrArg some (by kernel_rfl))⟩
  f47 := Tryz.func107.trans (congrArg some (by kernel_rfl))
  f48 := Tryz.func108.trans (congrArg some (by kernel_rfl))
  f49 := ⟨Tryz.f109.name, by decide, Tryz.func109.trans (congrArg some (by kernel_rfl))⟩
  f50 := ⟨Tryz.f110.name, by decide, Tryz.func110.trans (congrArg some (by kernel_rfl))⟩
  f57 := ⟨Tryz.f111.name, by decide, Tryz.func111.trans (congrArg some (by kernel_rfl))⟩
  t0 := Tryz.underlying0
  a0 := Tryz.isAgg0
  z0 := Tryz.sizeOf0
  v0 := Tryz.zeroValue0
  t3 := Tryz.underlying3
  a3 := Tryz.isAgg3
  z3 := Tryz.sizeOf3
  v3 := Tryz.zeroValue3
  t4 := Tryz.underlying4
  a4 := Tryz.isAgg4
  z4 := Tryz.sizeOf4
  v4 := Tryz.zeroValue4
  t5 := Tryz.underlying5
  a5 := Tryz.isAgg5
  z5 := Tryz.sizeOf5
  v5 := Tryz.zeroValue5
  t9 := Tryz.underlying9
  a9 := Tryz.isAgg9
  z9 := Tryz.sizeOf9
  v9 := Tryz.zeroValue9
  t22 := Tryz.underlying126
  a22 := Tryz.isAgg126
  z22 := Tryz.sizeOf126
  v22 := Tryz.zeroValue126
  t25 := Tryz.underlying125
  a25 := Tryz.isAgg125
  z25 := Tryz.sizeOf125
  v25 := Tryz.zeroValue125
  t39 := Tryz.underlying81
  a39 := Tryz.isAgg81
  z39 := Tryz.sizeOf81
  v39 := Tryz.zeroValue81
  t45 := Tryz.underlying163
  a45 := Tryz.isAgg163
  z45 := Tryz.sizeOf163
  v45 := Tryz.zeroValue163
  t46 := Tryz.underlying164
  a46 := Tryz.isAgg164
  z46 := Tryz.sizeOf164
  v46 := Tryz.zeroValue164
  t50 := Tryz.underlying103
  a50 := Tryz.isAgg103
  z50 := Tryz.sizeOf103
  v50 := Tryz.zeroValue103
  t53 := Tryz.underlying39
  a53 := Tryz.isAgg39
  z53 := Tryz.sizeOf39
  v53 := Tryz.zeroValue39
  t55 := Tryz.underlying38
  a55 := Tryz.isAgg38
  z55 := Tryz.sizeOf38
  v55 := Tryz.zeroValue38
  t66 := Tryz.underlying170
  a66 := Tryz.isAgg170
  z66 := Tryz.sizeOf170
  v66 := Tryz.zeroValue170
  t70 := Tryz.underlying174
  a70 := Tryz.isAgg174
  z70 := Tryz.sizeOf174
  v70 := Tryz.zeroValue174
  t76 := Tryz.underlying176
  a76 := Tryz.isAgg176
  z76 := Tryz.sizeOf176
  v76 := Tryz.zeroValue176
  t77 := Tryz.underlying91
  a77 := Tryz.isAgg91
  z77 := Tryz.sizeOf91
  v77 := Tryz.zeroValue91 }
theorem flat_pC (L : List PI) : flatK pC 2 L.toArray = (L.flatMap pC).toArray := by
  apply Array.ext
  · rw [size_flatK, List.size_toArray, List.size_toArray, pC_len]
  · intro i h1 h2
    rw [size_flatK, List.size_toArray] at h1
    have h3 := get_flatK pC 2 L.toArray i (by simpa using h1)
    rw [getElem!_pos _ i (by rw [size_flatK, List.size_toArray]; exact h1)] at h3
    rw [h3]
    have hi : i / 2 < L.length := by omega
    have hd : i = i / 2 * 2 + i % 2 := by omega
    have h4 := pC_get L (i / 2) (i % 2) hi (by omega)
    rw [← hd, List.getElem?_eq_getElem (by rw [pC_len]; exact h1)] at h4
    rw [List.getElem_toArray]
    rw [getElem!_pos L.toArray (i / 2) (by simpa using hi), List.getElem_toArray]
    rw [List.getD_eq_getElem?_getD, List.getElem?_eq_getElem hi, Option.getD_some] at h4
    have hm : i % 2 < (pC L[i / 2]).length := by simp [pC]; omega
    rw [List.getElem?_eq_getElem hm] at h4
    rw [getElem!_pos (pC L[i / 2]) (i % 2) hm]
    exact (Option.some.inj h4).symm
section
variable {w : World} {g cap n m : Nat} {os : Array Obj} {cur : Array Value} {e : TypeId} {L : List PI}
theorem holds_row (hb : w.heap[g]? = some (.cells cur e (0, 0))) (ht : cur.toList.take (L.length * 2) = L.flatMap pC) : HoldsK pC 2 w g 0 L.toArray := by
  unfold HoldsK
  rw [flat_pC]
  intro j hj
  have hj' : j < L.length * 2 := by rw [List.size_toArray, pC_len] at hj; exact hj
  rw [Nat.zero_add]
  refine ⟨?_, frozen_of_row w g j cur e hb⟩
  rw [cell_of_row w g j cur e (0, 0) hb]
  have h1 : (cur.toList.take (L.length * 2))[j]? = (L.flatMap pC)[j]? := by rw [ht]
  rw [List.getElem?_take_of_lt hj', Array.getElem?_toList] at h1
  rw [h1, getElem!_pos _ j hj, List.getElem_toArray, List.getElem?_eq_getElem (by rw [pC_len]; exact hj')]
  rfl
theorem heap_row (F : Array Value) (hb : w.heap[g]? = some (.cells cur e (0, 0))) : (grow (putRow id (Go.Sort.ahead w n) g 0 F) os).heap[g]? = some (.cells (putCells id 0 F cur) e (0, 0)) := by
  have hg : g < w.heap.size := (Array.getElem?_eq_some_iff.1 hb).1
  rw [heap_grow_old _ _ (by simpa using hg)]
  simp [putRow, mapBlock, Go.Sort.ahead, Array.getElem?_modify, hb, onCells]
theorem grown_row (F : Array Value) : w.grownBy (grow (putRow id (Go.Sort.ahead w n) g 0 F) os) (some g) := by
  refine ⟨rfl, rfl, rfl, by simp, fun k hk hne => ?_⟩
  rw [heap_grow_old _ _ (by simpa using hk)]
  have : g ≠ k := fun e => hne (by rw [e])
  simp [putRow, mapBlock, Go.Sort.ahead, Array.getElem?_modify, this]
theorem take_row (F : Array Value) (h : F.size ≤ cur.size) : (putCells id 0 F cur).toList.take F.size = F.toList := by
  apply List.ext_getElem?
  intro j
  by_cases hj : j < F.size
  · rw [List.getElem?_take_of_lt hj, Array.getElem?_toList]
    simp [putCells, hj, show j < cur.size by omega]
  · rw [List.getElem?_take_eq_none (by omega), List.getElem?_eq_none (by simp; omega)]
end
theorem swo_ltP : SWO (ltOf cmpPI) where
  irrefl x := by
    rw [← Bool.not_eq_true]
    intro h
    have := (ltP_iff (x := x) (y := x)).1 h
    unfold LexP at this
    omega
  trans x y z h1 h2 := by
    have k1 := (ltP_iff (x := x) (y := y)).1 h1
    have k2 := (ltP_iff (x := y) (y := z)).1 h2
    refine (ltP_iff (x := x) (y := z)).2 ?_
    unfold LexP at *
    omega
  ntrans x y z h1 h2 := by
    rw [← Bool.not_eq_true] at *
    intro h
    have k := (ltP_iff (x := x) (y := z)).1 h
    have k1 : ¬ LexP x y := fun h => h1 ((ltP_iff (x := x) (y := y)).2 h)
    have k2 : ¬ LexP y z := fun h => h2 ((ltP_iff (x := y) (y := z)).2 h)
    unfold LexP at *
    omega
theorem sortC_holds : SortC := by
  intro w base v L hO hL
  have hone : ∀ x : PI, ∀ u ∈ pC x, u.oneCell' = true := fun x u hu => by
    simp only [pC, List.mem_cons, List.not_mem_nil, or_false] at hu
    rcases hu with rfl | rfl <;> rfl
  rcases hO.2 with ⟨rfl, h0⟩ | ⟨g, cap, cur, rfl, hb, hgg, hn, hc, hs, ht⟩
  · obtain rfl := List.eq_nil_of_length_eq_zero h0
    refine (AnyF.slices_SortFunc_none laysSort none 0 (.func (.func 68) #[] #[]) w).mono ?_
    rintro e w' ⟨rfl, rfl⟩
    exact ⟨rfl, by unfold sortP; rw [List.mergeSort_nil]; exact hO, World.grownBy.refl _ _⟩
  · have hcon := AnyQ.slices_SortFunc_total laysSort 2 Tryz.isAgg121 Tryz.sizeOf121 pC (fun _ => rfl) hone cmpPI swo_ltP 68 #[] g 0 cap L.toArray w (enters_of Tryz.func68 (by kernel_rfl) rfl)
      (fun _ _ _ _ x y => (order_any x y _).mono fun e w' ⟨he, q, os, hw⟩ => ⟨he, q, os, hw⟩) (holds_row hgg ht) (Array.getElem?_eq_some_iff.1 hgg).1 (by rw [List.size_toArray]; omega) (fun x y h1 h2 => by
        have k1 : ¬ LexP x y := fun h => by rw [show ltOf cmpPI x y = true from (ltP_iff (x := x) (y := y)).2 h] at h1; cases h1
        have k2 : ¬ LexP y x := fun h => by rw [show ltOf cmpPI y x = true from (ltP_iff (x := y) (y := x)).2 h] at h2; cases h2
        unfold LexP at k1 k2
        exact Prod.ext (by omega) (by omega))
    rw [List.size_toArray] at hcon
    refine hcon.mono ?_
    rintro e w' ⟨rfl, n, os, rfl⟩
    have hsl : (sortP L).length = L.length := List.length_mergeSort _
    refine ⟨rfl, ⟨by rw [pC_len], .inr ⟨g, cap, _, by rw [hsl], hb, heap_row _ hgg, by rw [hsl]; exact hn, hc, by simp [putCells, hs], ?_⟩⟩, grown_row _⟩
    rw [show (L.toArray.toList.mergeSort fun x y => !ltOf cmpPI y x).toArray = (sortP L).toArray from rfl, flat_pC]
    have h3 := take_row (cur := cur) ((sortP L).flatMap pC).toArray (by rw [List.size_toArray, pC_len, hs, hsl]; omega)
    rw [List.size_toArray, pC_len] at h3
    exact h3
end Go.Proofs.YthpbckignppaiaaGreatDoor

