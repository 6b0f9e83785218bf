/- The program's lz.longest: the token of the bytes from a place on, along the trail. The program's lz.trail: of each place how far back the last one with the same three bytes is. The program's lz.May, size, put, Play. The program's lz.Find. The program's pieces: the library's Len, halve, isMatch, lenBits, Split. The program's pieces: whole, tokenOf, Split, Join. The program's Count of chapter 11. How many symbols have each length, and the first word of each length, as the program counts them. Plain mathematics of chapter 8. Contracts of the program's counts of lengths (right, firsts). Contracts of the program's countOut and Check. Contracts of the program's items: itemOf, isRow, write, readItem. Contract of the program's readItem. Contract of the program's Write. The symbols in the order of their words, as the program's table keeps them, and the symbol that the next bits begin with. Plain mathematics of chapter 9. The program's table of a code: length and find. -/
import Derived.Test.YthpbckignppaiaaGreatDoorS01
import Derived.Test.YthpbckignppaiaaGreatDoorS02
import Derived.Test.YthpbckignppaiaaGreatDoorS03
import Derived.Test.YthpbckignppaiaaGreatDoorS04
import Derived.Carry
import Derived.BigQuiet
import Derived.OpenShut
import Derived.IntWalk
import Derived.Deep.QuietTactic
namespace Go.Proofs.YthpbckignppaiaaGreatDoor
open Go.RowKit Lz
def tokA (t : TokV) : Array Value := #[.int .u8 (t.lit.toNat : Int), .int .i64 t.len, .int .i64 t.dist]
theorem tok_size : (Tryz.prog.info? 60).map (·.size) = some 3 := by kernel_rfl
theorem tokA_one (t : TokV) : (tokA t).all (·.oneCell') = true := by simp [tokA, Value.oneCell']
def TrailAt (w : World) (g : Nat) (b : List UInt8) : Prop := ∀ p, p < b.length → w.cell? ⟨g, p, none⟩ = some (.int .u16 (backAt b p : Int))
theorem TrailAt.ext {w W : World} {g : Nat} {b : List UInt8} (h : TrailAt w g b) (hE : Ext w W) (hg : g < w.heap.size) : TrailAt W g b := fun p hp => by rw [hE.cell hg]; exact h p hp
theorem Lz.longer_call {w : World} {A : Option Addr} {n c : Nat} {b : List UInt8} (h : Bytes w w.heap.size A n b) (hn : n ≤ 100000) (hnc : n ≤ c) {p2 q d k : Nat} (hp : q - d = p2) (hd : d ≤ q) (hk : k < min 257 (n - q)) (W : World) (hE : Ext w W) :
    Calls Tryz.prog 55 #[.slice A n c, .int .i64 (p2 : Int), .int .i64 (q : Int), .int .i64 (k : Int)] W fun e w' => e = .returned (.bool (decide (k < run b q d))) ∧ Ext W w' := by
  have hl := h.1
  subst hl
  subst hp
  rw [← longer_iff hd hk]
  exact lzLonger_any A _ c b (q - d) q k W hn hnc (by omega) (by omega) (hE.bytes h)
theorem Lz.same_call {w : World} {A : Option Addr} {n c : Nat} {b : List UInt8} (h : Bytes w w.heap.size A n b) (hn : n ≤ 100000) {p2 q d k most : Nat} (hp : q - d = p2) (hd : d ≤ q) (hq : q < n) (hm : most = min 257 (n - q)) (hk : k < run b q d) (W : World) (hE : Ext w W) :
    Calls Tryz.prog 56 #[.slice A n c, .int .i64 (p2 : Int), .int .i64 (q : Int), .int .i64 ((k : Int) + 1), .int .i64 (most : Int)] W fun e w' => e = .returned (.int .i64 (run b q d : Int)) ∧ Ext W w' := by
  have hl := h.1
  subst hl
  subst hp
  have hr := run_most (b := b) d hq
  have e : runF b q (q - (q - d)) (most - (k + 1)) (k + 1) = run b q d := by
    rw [show q - (q - d) = d by omega, run_cut hm _ _ (by omega), run_from (by omega) fun j hj => run_same (by omega)]
  have C := lzSame_any A _ c b (q - d) q (k + 1) most W hn (by omega) (by omega) (by omega) (hE.bytes h)
  rw [e] at C
  exact C
set_option maxHeartbeats 4000000 in
set_option maxRecDepth 100000 in
theorem lzLongest_any (A : Option Addr) (n c : Nat) (b : List UInt8) (g c2 q : Nat) (w : World) (hn : n ≤ 100000) (hnc : n ≤ c) (hq : q < n) (h : Bytes w w.heap.size A n b) (hg : g < w.heap.size) (hT : TrailAt w g b) :
    Calls Tryz.prog 36 #[.slice A n c, .slice (some ⟨g, 0, none⟩) n c2, .int .i64 (q : Int)] w fun e w' => e = .returned (tokV (tokAt b q)) ∧ Ext w w' := by
  have hl := h.1
  subst hl
  have HT := hide (fun W (hE : Ext w W) => hT.ext hE hg)
  obtain ⟨most, hmost⟩ : ∃ m, m = min 257 (b.length - q) := ⟨_, rfl⟩
  have HMost := hide hmost
  have hMI : (if (b.length : Int) - (q : Int) < 257 then (b.length : Int) - (q : Int) else 257) = (most : Int) := by split <;> omega
  rcases h.2 with h0 | ⟨b1, o1, rfl, hb1, hc⟩
  · omega
  have hcq := (((extNew w (.cells #[.int .u8 0, .int .i64 0, .int .i64 0] 60)).bytes h).2).resolve_left (by omega)
  have HB := hide h
  have hqI : (q : Int) < (b.length : Int) := by omega
  have hc0 := hc q hq
  have hc1 : (w.alloc (.cells #[.int .u8 0, .int .i64 0, .int .i64 0] 60)).cell? ⟨b1, o1 + q, none⟩ = some (.int .u8 ((b.getD q 0).toNat : Int)) := by
    rw [(extNew w _).cell hb1]; exact hc0
  obtain ⟨yq, hyq⟩ : ∃ y, y = (b.getD q 0).toNat := ⟨_, rfl⟩
  have hcy : yq < 256 := by rw [hyq]; exact UInt8.toNat_lt _
  rw [← hyq] at hc1
  have HTok := hide (show tokA (tokR b q (best b q 0)) = #[.int .u8 (yq : Int), .int .i64 0, .int .i64 0] by rw [hyq]; rfl)
  have hR1 := (Whole.new w 60 #[.int .u8 0, .int .i64 0, .int .i64 0]).alloc (.cells #[.int .u8 (yq : Int), .int .i64 0, .int .i64 0] 60)
  have hT1 := Whole.new (w.alloc (.cells #[.int .u8 0, .int .i64 0, .int .i64 0] 60)) 60 #[.int .u8 (yq : Int), .int .i64 0, .int .i64 0]
  rw [show (w.alloc (.cells #[.int .u8 0, .int .i64 0, .int .i64 0] 60)).heap.size = w.heap.size + 1 by simp] at hT1
  have hE1 := (extNew w (.cells #[.int .u8 0, .int .i64 0, .int .i64 0] 60)).trans (extNew _ (.cells #[.int .u8 (yq : Int), .int .i64 0, .int .i64 0] 60))
  have HR1 := hide hR1
  have HT1 := hide hT1
  have HE1 := hide hE1
  clear hR1 hT1 hE1 hcq hc0 hc h hT hyq hmost
  go_enter Tryz.func36, Tryz.ntmps36
  go_wp2_with (refine wpList_min rfl (.const (.int .i64 257)) (.tmp 14) rfl rfl rfl hMI ?_)
  go_loopw [9, 10] (fun x y wr => ∃ m : Nat, m ≤ min 4095 q ∧ x = .int .i64 (longV (best b q m) : Int) ∧ y = .int .i64 ((q - m : Nat) : Int) ∧ three b (q - m) = three b q ∧ Whole wr w.heap.size 60 #[.int .u8 0, .int .i64 0, .int .i64 0] ∧ Whole wr (w.heap.size + 1) 60 (tokA (tokR b q (best b q m))) ∧ Ext w wr) (fun _ y _ => (intOf y).toNat)
  case atStart => exact ⟨0, by omega, rfl, by rw [Nat.sub_zero], by rw [Nat.sub_zero], HR1.out, by rw [HTok.out]; exact HT1.out, HE1.out⟩
  case round =>
    clear HR1 HT1 HE1 HTok hc1 hcy
    obtain ⟨m, hm, rfl, rfl, h3, hR, hT, hE⟩ := hrel
    have hbk := HT.out wr hE (q - m) (by omega)
    have hbl := back_le b (q - m)
    have hpn : q - m < b.length := by omega
    have hlg := (long_ge (best b q m)).1
    have HEz := hide (end_zero h3 hm)
    have HEm := hide (end_most hq hm)
    have HEf := hide (end_far h3 hm)
    have HLess := hide (next_less h3 (by omega))
    have HMore := hide (show 0 < backAt b (q - m) → longV (best b q m) < run b q (m + backAt b (q - m)) → longV (best b q (m + backAt b (q - m))) = run b q (m + backAt b (q - m)) ∧ tokR b q (best b q (m + backAt b (q - m))) = ⟨0, (run b q (m + backAt b (q - m)) : Int), ((m + backAt b (q - m) : Nat) : Int)⟩ from fun h1 h2 => by
      have hl2 := (long_ge (best b q m)).1
      rw [next_more h3 (by omega) h1 h2]
      unfold longV tokR
      rw [if_pos (by dsimp only; omega), if_pos (by dsimp only; omega)]
      exact ⟨rfl, rfl⟩)
    have HThree := hide (next_three h3)
    have HPos := hide (show 0 < backAt b (q - m) → backAt b (q - m) ≤ q - m from fun h => (back_pos h).2.2.1)
    rw [← HMost.out] at HEm
    obtain ⟨p, hp⟩ : ∃ p, p = q - m := ⟨_, rfl⟩
    have HP := hide hp
    rw [← hp] at hbk hbl HEz HEf HLess HMore HThree HPos hpn ⊢
    generalize backAt b p = gk at *
    generalize longV (best b q m) = lg at *
    generalize tokR b q (best b q m) = t at *
    obtain ⟨tl, tn, td⟩ := t
    have c0 := hT.at 0 rfl
    have c1 := hT.at 1 rfl
    have c2 := hT.at 2 rfl
    change wr.cell? ⟨w.heap.size + 1, 0, none⟩ = some (.int .u8 (tl.toNat : Int)) at c0
    change wr.cell? ⟨w.heap.size + 1, 1, none⟩ = some (.int .i64 tn) at c1
    change wr.cell? ⟨w.heap.size + 1, 2, none⟩ = some (.int .i64 td) at c2
    have hone := tokA_one ⟨tl, tn, td⟩
    unfold tokA at hone
    dsimp only at hone
    have HWT := hide hT
    clear hp hT h3
    by_cases h0 : gk = 0
    · have hEnd := hide (HEz.out h0)
      subst h0
      change wr.cell? ⟨g, p, none⟩ = some (.int .u16 0) at hbk
      clear HEz HEm HEf HLess HMore HThree HPos HWT HP hbl
      go_wp2_with (refine wpList_storeW rfl 60 (.tmp 6) (.tmp 60) rfl rfl rfl hR rfl tok_size hone ?_; intro w5 hW5 hG5 _)
      refine bodyPost_ret (results_cell_row rfl _ _ _ _ _ _ _ rfl hW5 Tryz.underlying60 rfl tok_size) rfl ?_
      exact ⟨by rw [← hEnd.out]; rfl, Below.grown hE hG5 hE.le (fun k hk => by cases hk; omega)⟩
    · have hg0 : 0 < gk := by omega
      have hgI : (0 : Int) < (gk : Int) := by omega
      by_cases hlm : lg < most
      · have hlmI : (lg : Int) < (most : Int) := by omega
        have hgp := HPos.out hg0
        obtain ⟨p2, hp2⟩ : ∃ p2, p2 = p - gk := ⟨_, rfl⟩
        have hp2I : (p : Int) - (gk : Int) = (p2 : Int) := by omega
        obtain ⟨d, hd⟩ : ∃ d, d = m + gk := ⟨_, rfl⟩
        have hpm := HP.out
        have hdI : (q : Int) - (p2 : Int) = (d : Int) := by omega
        have hq2 : q - d = p2 := by omega
        have hdq : d ≤ q := by omega
        have hdm : m < d := by omega
        have hp2p : p2 < p := by omega
        have CL := hide (fun W hE => longer_call (c := c) HB.out hn hnc (k := lg) hq2 hdq (by rw [← HMost.out]; exact hlm) W hE)
        have CS := hide (fun W hE hk => same_call (c := c) (k := lg) HB.out hn hq2 hdq hq HMost.out hk W hE)
        rw [← hd] at HEf HLess HMore HThree
        rw [hq2] at HThree
        have HEf2 := hide (HEf.out hg0)
        have HLess2 := hide (HLess.out hg0)
        have HMore2 := hide (HMore.out hg0)
        have HThree2 := hide (HThree.out hg0)
        have HD := hide hq2
        have HMon := hide (show run b q d ≤ 257 from run_le)
        generalize run b q d = rn at *
        clear HEz HEm HEf HLess HMore HThree HPos hd hp2 hpm hq2 HP
        by_cases hfar : 4095 < d
        · have hfarI : (4095 : Int) < (d : Int) := by omega
          have hEnd := hide (HEf2.out hfar)
          clear HEf2 HLess2 HMore2 HThree2 CL CS HWT HD
          go_wp2_with (refine wpList_storeW rfl 60 (.tmp 6) (.tmp 60) rfl rfl rfl hR rfl tok_size hone ?_; intro w5 hW5 hG5 _)
          refine bodyPost_ret (results_cell_row rfl _ _ _ _ _ _ _ rfl hW5 Tryz.underlying60 rfl tok_size) rfl ?_
          exact ⟨by rw [← hEnd.out]; rfl, Below.grown hE hG5 hE.le (fun k hk => by cases hk; omega)⟩
        · have hfarI : ¬ (4095 : Int) < (d : Int) := by omega
          clear HEf2
          go_wp2_with fail
          refine (CL.out _ hE).mono ?_
          rintro e w2 ⟨rfl, hE2⟩
          have hF2 := hE.trans hE2
          have hR2 := hR.ext hE2
          have hT2 := HWT.out.ext hE2
          clear HWT hR hE hE2 c0 c1 c2 hbk CL
          by_cases hlr : lg < rn
          · obtain ⟨hm1, hm2⟩ := HMore2.out hlr
            have HM1 := hide hm1
            have HM2 := hide hm2
            have C2 := hide (CS.out w2 hF2 hlr)
            have hlrd : decide (lg < rn) = true := decide_eq_true hlr
            rw [hlrd]
            clear HMore2 HLess2 hm1 hm2 CS hlrd
            have hone3 : (#[Value.int .u8 0, .int .i64 (rn : Int), .int .i64 (d : Int)] : Array Value).all (·.oneCell') = true := by simp [Value.oneCell']
            go_wp2_with fail
            refine C2.out.mono ?_
            rintro e w3 ⟨rfl, hE3⟩
            have hF3 := hF2.trans hE3
            have hR3 := hR2.ext hE3
            have hT3 := hT2.ext hE3
            clear C2 hE3 hF2 hR2 hT2 w2
            go_wp2_with (refine wpList_storeW rfl 60 (.tmp 8) (.tmp 59) rfl rfl rfl hT3 rfl tok_size hone3 ?_; intro w5 hW5 hG5 _)
            have hF5 : Ext w w5 := Below.grown hF3 hG5 hF3.le (fun k hk => by cases hk; omega)
            have hR5 := hR3.grown hG5 (by omega)
            clear hG5 hF3 hR3 hT3
            simp only [Act.put]
            go_roundw
            case rel => exact ⟨d, by omega, by rw [HM1.out], by rw [HD.out], by rw [HD.out]; exact HThree2.out, hR5, by rw [HM2.out]; exact hW5, hF5⟩
            case measure => simp [intOf]; omega
          · obtain ⟨hm1, hm2⟩ := HLess2.out (by omega)
            have HM1 := hide hm1
            have HM2 := hide hm2
            have hlrd : decide (lg < rn) = false := decide_eq_false hlr
            rw [hlrd]
            clear HMore2 HLess2 hm1 hm2 CS hlrd
            go_wp2_with fail
            go_roundw
            case rel => exact ⟨d, by omega, by rw [HM1.out], by rw [HD.out], by rw [HD.out]; exact HThree2.out, hR2, by rw [HM2.out]; exact hT2, hF2⟩
            case measure => simp [intOf]; omega
      · have hlmI : ¬ (lg : Int) < (most : Int) := by omega
        have hEnd := hide (HEm.out (by omega))
        clear HEz HEm HEf HLess HMore HThree HPos HWT HP hbl
        go_wp2_with (refine wpList_storeW rfl 60 (.tmp 6) (.tmp 60) rfl rfl rfl hR rfl tok_size hone ?_; intro w5 hW5 hG5 _)
        refine bodyPost_ret (results_cell_row rfl _ _ _ _ _ _ _ rfl hW5 Tryz.underlying60 rfl tok_size) rfl ?_
        exact ⟨by rw [← hEnd.out]; rfl, Below.grown hE hG5 hE.le (fun k hk => by cases hk; omega)⟩
end Go.Proofs.YthpbckignppaiaaGreatDoor

namespace Go.Proofs.YthpbckignppaiaaGreatDoor
open Go.RowKit Lz
def r16V (x : Nat) : Value := .int .u16 (x : Int)
def OwnR (w : World) (base : Nat) (v : Value) (L : List Nat) : Prop := w.ownsRow base 93 1 v L.length (L.map r16V)
theorem r16_info : (Tryz.prog.info? 93).map (fun i => (i.zero, i.size, i.bytes)) = some (some (.int .u16 0), 1, 2) := by kernel_rfl
section
variable {w w' : World} {base g n c : Nat} {v : Value} {L : List Nat}
theorem OwnR.ext (h : OwnR w base v L) (hE : Ext w w') : OwnR w' base v L := World.ownsRow.kept h (hE.grown none) (by cases hv : v.ownBlock <;> simp)
theorem OwnR.len (h : OwnR w base (.slice (some ⟨g, 0, none⟩) n c) L) : n = L.length := by
  rcases h.2 with ⟨h', _⟩ | ⟨_, _, _, h', _⟩
  · simp at h'
  · simp only [Value.slice.injEq] at h'; exact h'.2.1
theorem OwnR.lt (h : OwnR w base (.slice (some ⟨g, 0, none⟩) n c) L) : base ≤ g ∧ g < w.heap.size := World.ownsRow.lt h g rfl
theorem OwnR.grown (h : OwnR w base (.slice (some ⟨g, 0, none⟩) n c) L) {m : Nat} (hg : w.grownBy w' (some m)) (hne : g ≠ m) : OwnR w' base (.slice (some ⟨g, 0, none⟩) n c) L :=
  World.ownsRow.kept h hg (.inr (by simp [Value.ownBlock, hne]))
theorem OwnR.cell (h : OwnR w base (.slice (some ⟨g, 0, none⟩) n c) L) {i : Nat} (hi : i < L.length) :
    w.cell? ⟨g, i, none⟩ = some (.int .u16 ((L.getD i 0 : Nat) : Int)) ∧ w.frozen? ⟨g, i, none⟩ = false := by
  have hn := h.len
  subst hn
  refine ⟨?_, World.ownsRow.frozenAt h i⟩
  rw [World.ownsRow.cellAt h i (by omega)]
  simp [r16V, hi]
theorem OwnR.set (h : OwnR w base (.slice (some ⟨g, 0, none⟩) n c) L) (i x : Nat) :
    OwnR (w.setCell ⟨g, i, none⟩ (.int .u16 (x : Int))) base (.slice (some ⟨g, 0, none⟩) n c) (L.set i x) := by
  have hn := h.len
  subst hn
  have := (World.ownsRow.stored h i (.int .u16 (x : Int))).1
  unfold OwnR
  rw [List.length_set, List.map_set]
  exact this
end
theorem wpList_makeR {ops : Array Oper} {rest : List Oper} {o : Oper} {a : Act} {Q : Exit → Act → World → Prop} {w : World} (hgd : o.guard = none) (x y : Operand) (ho : o.op = .makeSlice 50 x y) {n : Nat} (hx : a.eval x = .int .i64 (n : Int)) (hy : a.eval y = .int .i64 (n : Int)) (hn : n ≤ 1000000)
    (h : ∀ w', OwnR w' w.heap.size (.slice (some ⟨w.heap.size, 0, none⟩) n n) (List.replicate n 0) → Ext w w' → wpList Tryz.prog ops Q rest (a.put o.dst (.slice (some ⟨w.heap.size, 0, none⟩) n n)) w') : wpList Tryz.prog ops Q (o :: rest) a w := by
  obtain ⟨i, hi, hz, hsz, hby⟩ := info_parts r16_info
  refine wpList_make_full w hgd x y 50 ho w.heap.size 93 i _ 1 Tryz.underlying50 hi hz hsz .i64 .i64 _ _ n hx hy rfl rfl (by rw [hby]; omega) (by unfold maxLen; omega) (Nat.le_refl _) ?_
  intro w' h1 h2
  refine h w' ?_ (Below.grown (Ext.refl w) h2 (Nat.le_refl _) fun k hk => by cases hk)
  unfold OwnR
  have e : (madeCells (Value.int .u16 0).cells (n * 1)).toList = (List.replicate n (0 : Nat)).map r16V := by
    have : madeCells (Value.int .u16 0).cells n = ((List.replicate n (0 : Nat)).map r16V).toArray := by
      apply Array.ext
      · simp [size_madeCells]
      · intro i h1 h2
        simp [madeCells, Value.cells, r16V, Nat.mod_one]
    rw [Nat.mul_one, this]
  rw [e] at h1
  simpa using h1
theorem wpList_makeM {ops : Array Oper} {rest : List Oper} {o : Oper} {a : Act} {Q : Exit → Act → World → Prop} {w : World} (hgd : o.guard = none) {t : TypeId} (ho : o.op = .makeMap t none)
    (h : wpList Tryz.prog ops Q rest (a.put o.dst (.map (some w.heap.size))) (w.alloc (.map #[] 0))) : wpList Tryz.prog ops Q (o :: rest) a w := by
  refine wpList_plain hgd fun _ hK => ?_
  unfold Oper.wp execOp
  simp only [ho, Instr.makeMap]
  exact hK _ _ h
theorem three_size : (Tryz.prog.info? 102).map (·.size) = some 3 := by kernel_rfl
def TrailTo (w : World) (b : List UInt8) (e : Ending) (w' : World) : Prop := ∃ g c2, e = .returned (.slice (some ⟨g, 0, none⟩) b.length c2) ∧ w.heap.size ≤ g ∧ g < w'.heap.size ∧ TrailAt w' g b ∧ Ext w w'
set_option maxHeartbeats 4000000 in
set_option maxRecDepth 100000 in
theorem lzTrail_any (A : Option Addr) (n c : Nat) (b : List UInt8) (w : World) (hn : n ≤ 100000) (hnc : n ≤ c) (h : Bytes w w.heap.size A n b) : Calls Tryz.prog 35 #[.slice A n c] w (TrailTo w b) := by
  have hl := h.1
  subst hl
  have hn1 : b.length ≤ 1000000 := by omega
  have HB := hide h
  go_enter Tryz.func35, Tryz.ntmps35
  go_wp2_with (first
    | (at_make; refine wpList_makeR rfl (.tmp 10) (.tmp 10) rfl rfl rfl hn1 ?_; intro w1 hO1 hE1; have hO1' := hide hO1; have hE1' := hide hE1)
    | (refine wpList_makeM rfl rfl ?_; have hM2 := hide (MapF.made w1); have hE2 := hide (extNew w1 (.map #[] 0))))
  have hE3 := hide (hE1'.out.trans hE2.out)
  have hO3 := hide (hO1'.out.ext hE2.out)
  have hg1 : w.heap.size < w1.heap.size := (hO1'.out.lt).2
  clear hO1 hE1 hO1' hE1' hE2
  go_loopw [17] (fun x wr => ∃ i : Nat, (i + 2 ≤ b.length ∨ i = 0) ∧ x = .int .i64 (i : Int) ∧ OwnR wr w.heap.size (.slice (some ⟨w.heap.size, 0, none⟩) b.length b.length) (trailN b i) ∧ MapF wr w1.heap.size i (fun k => lastOf b k i) ∧ Ext w wr) (fun x _ => b.length - (intOf x).toNat)
  case atStart => exact ⟨0, .inr rfl, rfl, by rw [trail_zero]; exact hO3.out, hM2.out, hE3.out⟩
  case round =>
    clear hE3 hO3 hM2
    obtain ⟨i, hi, rfl, hO, hM, hE⟩ := hrel
    by_cases hlt : i + 3 ≤ b.length
    · have hltI : (i : Int) < (b.length : Int) - 3 + 1 := by omega
      have hi1 : i ≤ 1000000 := by omega
      rcases (hE.bytes HB.out).2 with h0 | ⟨b1, o1, rfl, _, hc⟩
      · omega
      have hcs : wr.rangeAt b1 (o1 + i) [.int .u8 ((three b i).1.toNat : Int), .int .u8 ((three b i).2.1.toNat : Int), .int .u8 ((three b i).2.2.toNat : Int)] := by
        intro j v hv
        match j, hv with
        | 0, hv => rw [← hv]; exact hc i (by omega)
        | 1, hv => rw [← hv]; exact hc (i + 1) (by omega)
        | 2, hv => rw [← hv]; exact hc (i + 2) (by omega)
        | j + 3, hv => simp at hv
      have r1 := fun W => run_mid W (some ⟨b1, o1, none⟩) b.length c .i64 .i64 (i : Int) ((i : Int) + 3) (by omega) (by omega) (by omega)
      rw [show ((i : Int) + 3).toNat - (i : Int).toNat = 3 by omega, Int.toNat_natCast, show cutAt (some ⟨b1, o1, none⟩) c i = some ⟨b1, o1 + i, none⟩ by unfold cutAt; rw [if_neg (by omega)]; simp [Addr.add]] at r1
      have hBn := hide (show lastOf b (three b i) i = none → backAt b i = 0 from back_none hlt)
      have hBs := hide (show ∀ p, lastOf b (three b i) i = some p → p < i ∧ backAt b i = if i - p ≤ 4095 then i - p else 0 from fun p hp => ⟨(lastOf_some hp).1, back_some hlt hp⟩)
      have hLst := hide (show (fun k => lastOf b k (i + 1)) = fun k => if three b i = k then some i else lastOf b k i from rfl)
      have hSet := hide (trail_set b i)
      have hSame := hide (fun h => trail_same (b := b) (i := i) h)
      have hTl := trail_len b i
      obtain ⟨f, hf⟩ : ∃ f, f = fun k => lastOf b k i := ⟨_, rfl⟩
      have hBn2 := hide (show f (three b i) = none → backAt b i = 0 from fun h => hBn.out (by rw [hf] at h; exact h))
      have hBs2 := hide (show ∀ p, f (three b i) = some p → p < i ∧ backAt b i = if i - p ≤ 4095 then i - p else 0 from fun p h => hBs.out p (by rw [hf] at h; exact h))
      have hLst2 := hide (show (fun k => lastOf b k (i + 1)) = fun k => if three b i = k then some i else f k from by rw [hf]; exact hLst.out)
      rw [← hf] at hM
      clear hf hBn hBs hLst hc
      generalize three b i = k at *
      generalize backAt b i = bk at *
      generalize trailN b i = L at *
      obtain ⟨x, hx⟩ : ∃ x, x = k.1.toNat := ⟨_, rfl⟩
      obtain ⟨y, hy⟩ : ∃ y, y = k.2.1.toNat := ⟨_, rfl⟩
      obtain ⟨z, hz⟩ : ∃ z, z = k.2.2.toNat := ⟨_, rfl⟩
      have hE4 := extNew wr (.cells #[.int .u8 (k.1.toNat : Int), .int .u8 (k.2.1.toNat : Int), .int .u8 (k.2.2.toNat : Int)] 102)
      have hK := Whole.new wr 102 #[.int .u8 (k.1.toNat : Int), .int .u8 (k.2.1.toNat : Int), .int .u8 (k.2.2.toNat : Int)]
      have hMk := hM.ext hE4
      have hOk := hO.ext hE4
      have hEk := hE.trans hE4
      have hgm : w.heap.size ≠ w1.heap.size := by omega
      have hs1 : w.heap.size ≤ w1.heap.size := by omega
      have hlm := hM.lt
      clear hM hO hE hE4 hx hy hz x y z
      cases hfk : f k with
      | none =>
        have hbk := hide (Eq.symm (hSame.out (hBn2.out hfk)))
        clear hBn2 hBs2 hSame hSet
        go_wp2_with (first
          | (refine wpList_arrAt rfl 102 (.tmp 24) rfl Tryz.underlying102 rfl (Nat.le_refl _) ?_)
          | (refine wpList_load_mid rfl 102 (.tmp 25) rfl b1 (o1 + i) rfl _ _ hcs Tryz.underlying102 rfl three_size ?_)
          | (at_lookup; refine wpList_lookF rfl (.tmp 28) (.tmp 29) rfl rfl hMk k rfl ?_; intro cc hc0 hc1; have hcc := hc0 hfk; subst hcc; clear hc0 hc1)
          | (at_mapUpdate; refine wpList_putF rfl (.tmp 47) (.tmp 48) (.tmp 49) rfl rfl hMk hi1 k rfl i hi1 rfl ?_; intro w5 hM5 hG5)
          | (refine wpList_load_row rfl 102 (.tmp 6) rfl _ rfl _ _ _ _ hK Tryz.underlying102 rfl three_size ?_))
        have hO5 := hOk.grown hG5 hgm
        have hE5 : Ext w w5 := Below.grown hEk hG5 hEk.size (fun k hk => by cases hk; omega)
        clear hG5
        go_roundw
        case rel => exact ⟨i + 1, .inl (by omega), by go_num, by rw [hbk.out]; exact hO5, by rw [hLst2.out]; exact hM5, hE5⟩
        case measure => simp [intOf]; omega
      | some p =>
        obtain ⟨hpi, hbp⟩ := hBs2.out p hfk
        by_cases h4 : i - p ≤ 4095
        · rw [if_pos h4] at hbp
          have hipI : (i : Int) - (p : Int) = (bk : Int) := by omega
          have hbI : (bk : Int) ≤ 4095 := by omega
          have hbk := hide (Eq.symm hSet.out)
          obtain ⟨hcell, hfro⟩ := hOk.cell (i := i) (by omega)
          have hOs := hOk.set i bk
          have hgs := grown_setCell (wr.alloc (.cells #[.int .u8 (k.1.toNat : Int), .int .u8 (k.2.1.toNat : Int), .int .u8 (k.2.2.toNat : Int)] 102)) w.heap.size i (.int .u16 (bk : Int))
          have hMs := hMk.kept hgs (by simp; omega)
          have hEs := Below.grown hEk hgs hEk.le (fun k hk => by cases hk; omega)
          have hiL : i < b.length := by omega
          clear hBn2 hBs2 hSame hSet hbp hgs
          go_wp2_with (first
            | (refine wpList_arrAt rfl 102 (.tmp 24) rfl Tryz.underlying102 rfl (Nat.le_refl _) ?_)
            | (refine wpList_load_mid rfl 102 (.tmp 25) rfl b1 (o1 + i) rfl _ _ hcs Tryz.underlying102 rfl three_size ?_)
            | (at_lookup; refine wpList_lookF rfl (.tmp 28) (.tmp 29) rfl rfl hMk k rfl ?_; intro cc hc0 hc1; have hcc := hc1 p hfk; subst hcc; clear hc0 hc1)
            | (at_mapUpdate; refine wpList_putF rfl (.tmp 47) (.tmp 48) (.tmp 49) rfl rfl hMs hi1 k rfl i hi1 rfl ?_; intro w5 hM5 hG5)
            | (refine wpList_load_row rfl 102 (.tmp 6) rfl _ rfl _ _ _ _ hK Tryz.underlying102 rfl three_size ?_))
          have hO5 := hOs.grown hG5 hgm
          have hE5 : Ext w w5 := Below.grown hEs hG5 hEs.size (fun k hk => by cases hk; omega)
          clear hG5
          go_roundw
          case rel => exact ⟨i + 1, .inl (by omega), by go_num, by rw [hbk.out]; exact hO5, by rw [hLst2.out]; exact hM5, hE5⟩
          case measure => simp [intOf]; omega
        · rw [if_neg h4] at hbp
          have hipI : ¬ (i : Int) - (p : Int) ≤ 4095 := by omega
          have hbk := hide (Eq.symm (hSame.out hbp))
          clear hBn2 hBs2 hSame hSet hbp
          go_wp2_with (first
            | (refine wpList_arrAt rfl 102 (.tmp 24) rfl Tryz.underlying102 rfl (Nat.le_refl _) ?_)
            | (refine wpList_load_mid rfl 102 (.tmp 25) rfl b1 (o1 + i) rfl _ _ hcs Tryz.underlying102 rfl three_size ?_)
            | (at_lookup; refine wpList_lookF rfl (.tmp 28) (.tmp 29) rfl rfl hMk k rfl ?_; intro cc hc0 hc1; have hcc := hc1 p hfk; subst hcc; clear hc0 hc1)
            | (at_mapUpdate; refine wpList_putF rfl (.tmp 47) (.tmp 48) (.tmp 49) rfl rfl hMk hi1 k rfl i hi1 rfl ?_; intro w5 hM5 hG5)
            | (refine wpList_load_row rfl 102 (.tmp 6) rfl _ rfl _ _ _ _ hK Tryz.underlying102 rfl three_size ?_))
          have hO5 := hOk.grown hG5 hgm
          have hE5 : Ext w w5 := Below.grown hEk hG5 hEk.size (fun k hk => by cases hk; omega)
          clear hG5
          go_roundw
          case rel => exact ⟨i + 1, .inl (by omega), by go_num, by rw [hbk.out]; exact hO5, by rw [hLst2.out]; exact hM5, hE5⟩
          case measure => simp [intOf]; omega
    · have hltI : ¬ (i : Int) < (b.length : Int) - 3 + 1 := by omega
      have hAll := hide (trail_all (b := b) (i := i) (by omega))
      have hlt2 := hO.lt.2
      have HO := hide hO
      go_wp2
      go_ret
      refine ⟨_, _, rfl, Nat.le_refl _, hlt2, fun p hp => ?_, hE⟩
      have h1 := (HO.out.cell (i := p) (by rw [trail_len]; exact hp)).1
      rw [h1, hAll.out, List.getD_eq_getElem?_getD, List.getElem?_map, List.getElem?_range hp]
      rfl
end Go.Proofs.YthpbckignppaiaaGreatDoor

namespace Go.Proofs.YthpbckignppaiaaGreatDoor
open Go.RowKit Lz
set_option maxHeartbeats 2000000 in
set_option maxRecDepth 100000 in
theorem lzMay_any (t : TokV) (w : World) : Calls Tryz.prog 49 #[tokV t] w fun e w' => e = .returned (.bool (may t)) ∧ Ext w w' := by
  have hE1 := extNew w (.cells #[.int .u8 (t.lit.toNat : Int), .int .i64 t.len, .int .i64 t.dist] 60)
  have hW1 := Whole.new w 60 #[.int .u8 (t.lit.toNat : Int), .int .i64 t.len, .int .i64 t.dist]
  have c0 := hW1.at 0 rfl
  have c1 := hW1.at 1 rfl
  have c2 := hW1.at 2 rfl
  have hl8 := UInt8.toNat_lt t.lit
  have HLit := hide (show t.lit.toNat = 0 ↔ t.lit = 0 from ⟨fun h => UInt8.toNat_inj.1 h, fun h => by rw [h]; rfl⟩)
  unfold tokV
  by_cases h0 : t.len = 0
  · have HM := hide (may_lit h0)
    generalize may t = res at *
    obtain ⟨tl, tn, td⟩ := t
    dsimp only at *
    subst h0
    by_cases hd : td = 0
    · have HR := hide (show res = true by rw [HM.out]; exact decide_eq_true hd)
      subst hd
      clear HM HLit
      go_enter Tryz.func49, Tryz.ntmps49
      go_wp2
      go_ret
      exact ⟨ret_bool HR.out.symm, hE1⟩
    · have HR := hide (show res = false by rw [HM.out]; exact decide_eq_false hd)
      have hdb : (td == 0) = false := by rw [beq_eq_false_iff_ne]; exact hd
      clear HM HLit
      go_enter Tryz.func49, Tryz.ntmps49
      go_wp2
      go_ret
      exact ⟨ret_bool HR.out.symm, hE1⟩
  · have HM := hide (may_match h0)
    generalize may t = res at *
    obtain ⟨tl, tn, td⟩ := t
    dsimp only at *
    have h0b : (tn == 0) = false := by rw [beq_eq_false_iff_ne]; exact h0
    have HNo := hide (show ¬ (tl = 0 ∧ 3 ≤ tn ∧ tn ≤ 257 ∧ 1 ≤ td ∧ td ≤ 4095) → res = false from fun h => by rw [HM.out]; exact decide_eq_false h)
    have HYes := hide (show (tl = 0 ∧ 3 ≤ tn ∧ tn ≤ 257 ∧ 1 ≤ td ∧ td ≤ 4095) → res = true from fun h => by rw [HM.out]; exact decide_eq_true h)
    obtain ⟨y, hy⟩ : ∃ y, y = tl.toNat := ⟨_, rfl⟩
    rw [← hy] at c0 c1 c2 hE1 hl8 HLit ⊢
    clear HM hy hW1
    by_cases g1 : y = 0
    · have hl0 := HLit.out.1 g1
      subst g1
      by_cases g2 : 3 ≤ tn
      · by_cases g3 : tn ≤ 257
        · by_cases g4 : 1 ≤ td
          · by_cases g5 : td ≤ 4095
            · have HR := hide (HYes.out ⟨hl0, g2, g3, g4, g5⟩)
              clear HYes HNo HLit hl0
              go_enter Tryz.func49, Tryz.ntmps49
              go_wp2
              go_ret
              exact ⟨ret_bool HR.out.symm, hE1⟩
            · have HR := hide (HNo.out fun h => g5 h.2.2.2.2)
              clear HYes HNo HLit hl0
              go_enter Tryz.func49, Tryz.ntmps49
              go_wp2
              go_ret
              exact ⟨ret_bool HR.out.symm, hE1⟩
          · have HR := hide (HNo.out fun h => g4 h.2.2.2.1)
            clear HYes HNo HLit hl0
            go_enter Tryz.func49, Tryz.ntmps49
            go_wp2
            go_ret
            exact ⟨ret_bool HR.out.symm, hE1⟩
        · have HR := hide (HNo.out fun h => g3 h.2.2.1)
          clear HYes HNo HLit hl0
          go_enter Tryz.func49, Tryz.ntmps49
          go_wp2
          go_ret
          exact ⟨ret_bool HR.out.symm, hE1⟩
      · have HR := hide (HNo.out fun h => g2 h.2.1)
        clear HYes HNo HLit hl0
        go_enter Tryz.func49, Tryz.ntmps49
        go_wp2
        go_ret
        exact ⟨ret_bool HR.out.symm, hE1⟩
    · have HR := hide (HNo.out fun h => g1 (HLit.out.2 h.1))
      have hyb : ((y : Int) == 0) = false := by rw [beq_eq_false_iff_ne]; omega
      clear HYes HNo HLit
      go_enter Tryz.func49, Tryz.ntmps49
      go_wp2
      go_ret
      exact ⟨ret_bool HR.out.symm, hE1⟩
theorem Lz.may_len {t : TokV} (h : may t = true) : (t.len = 0 ∧ t.dist = 0) ∨ (3 ≤ t.len ∧ t.len ≤ 257 ∧ 1 ≤ t.dist ∧ t.dist ≤ 4095) := by
  by_cases h0 : t.len = 0
  · rw [may_lit h0] at h
    exact .inl ⟨h0, of_decide_eq_true h⟩
  · rw [may_match h0] at h
    have := of_decide_eq_true h
    exact .inr this.2
set_option maxHeartbeats 2000000 in
set_option maxRecDepth 100000 in
theorem lzSize_any (t : TokV) (w : World) (hm : may t = true) : Calls Tryz.prog 37 #[tokV t] w fun e w' => e = .returned (.int .i64 (sizeT t : Int)) ∧ Ext w w' := by
  have hE1 := extNew w (.cells #[.int .u8 (t.lit.toNat : Int), .int .i64 t.len, .int .i64 t.dist] 60)
  have hW1 := Whole.new w 60 #[.int .u8 (t.lit.toNat : Int), .int .i64 t.len, .int .i64 t.dist]
  have c1 := hW1.at 1 rfl
  have HL := hide (may_len hm)
  unfold tokV
  have HS := hide (show (sizeT t : Int) = max t.len 1 by
    unfold sizeT
    rcases HL.out with h | h
    · rw [if_pos h.1, h.1]; rfl
    · rw [if_neg (by omega)]; omega)
  generalize sizeT t = res at *
  obtain ⟨tl, tn, td⟩ := t
  dsimp only at *
  generalize (tl.toNat : Int) = y at *
  clear hW1 hm
  rcases HL.out with h | h
  · obtain ⟨rfl, rfl⟩ := h
    have HR := hide (show (res : Int) = 1 by rw [HS.out]; rfl)
    clear HL HS
    go_enter Tryz.func37, Tryz.ntmps37
    go_wp2
    go_ret
    exact ⟨ret_i64 HR.out.symm, hE1⟩
  · have HR := hide (show (res : Int) = tn by rw [HS.out]; omega)
    have h1 : 1 ≤ tn := by omega
    clear HL HS h
    go_enter Tryz.func37, Tryz.ntmps37
    go_wp2
    · go_ret
      exact ⟨ret_i64 HR.out.symm, hE1⟩
    all_goals omega
end Go.Proofs.YthpbckignppaiaaGreatDoor

namespace Go.Proofs.YthpbckignppaiaaGreatDoor
open Go.RowKit Lz
theorem OwnTk.mono {w : World} {base b' : Nat} {v : Value} {L : List TokV} (h : OwnTk w base v L) (hb : b' ≤ base) : OwnTk w b' v L := ⟨h.1, h.2.imp_right fun ⟨g, cap, cur, e, hg, r⟩ => ⟨g, cap, cur, e, Nat.le_trans hb hg, r⟩⟩
set_option maxHeartbeats 4000000 in
set_option maxRecDepth 100000 in
theorem lzFind_any (A : Option Addr) (n c : Nat) (b : List UInt8) (w : World) (hn : n ≤ 100000) (hnc : n ≤ c) (h : Bytes w w.heap.size A n b) : Calls Tryz.prog 16 #[.slice A n c] w (MadeTk w (toks b 0)) := by
  have hl := h.1
  subst hl
  have HB := hide h
  have HEnd := hide (show ∀ p, ¬ p < b.length → toks b p = [] from fun p hp => toks_end hp)
  have HNext := hide (show ∀ p, p < b.length → toks b p = tokAt b p :: toks b (p + stepAt b p) from fun p hp => toks_next hp)
  have HIn := hide (show ∀ p, p < b.length → p + stepAt b p ≤ b.length from fun p hp => step_in hp)
  have HPos := hide (step_pos b)
  have HSz := hide (show ∀ p, p < b.length → sizeT (tokAt b p) = stepAt b p from fun p hp => (play_tok hp).2.1)
  have CT := lzTrail_any A b.length c b w hn hnc h
  have CL := hide (fun q W g c2 (hq : q < b.length) hB hg hT => lzLongest_any A b.length c b g c2 q W hn hnc hq hB hg hT)
  have CS := hide (fun q W => lzSize_any (tokAt b q) W (tok_may b q))
  unfold TrailTo at CT
  unfold tokV at CL CS
  clear h
  go_enter Tryz.func16, Tryz.ntmps16
  go_wp2_with fail
  refine CT.mono ?_
  rintro e w1 ⟨g, c2, rfl, hg0, hg1, hT1, hE1⟩
  have HT := hide (fun W (hE : Ext w1 W) => hT1.ext hE hg1)
  have HE1 := hide hE1
  clear CT hT1 hE1
  go_wp2_with fail
  go_loopw [3, 5] (fun o a wr => ∃ (p : Nat) (L : List TokV), p ≤ b.length ∧ L.length ≤ p ∧ a = .int .i64 (p : Int) ∧ OwnTk wr w1.heap.size o L ∧ L ++ toks b p = toks b 0 ∧ Ext w1 wr) (fun _ a _ => b.length - (intOf a).toNat)
  case atStart => exact ⟨0, [], by omega, by simp, rfl, OwnTk.nil _ _, rfl, Ext.refl _⟩
  case round =>
    obtain ⟨p, L, hp, hLp, rfl, hO, hL, hE⟩ := hrel
    by_cases hlt : p < b.length
    · have hpI : (p : Int) < (b.length : Int) := by omega
      have HL := hide hL
      have hnx := hide (HNext.out p hlt)
      have hst := HPos.out p
      have hin := HIn.out p hlt
      have hsz := hide (HSz.out p hlt)
      have hbm := hide ((HE1.out.trans hE).bytes HB.out)
      have C1 := CL.out p wr g c2 hlt ((HE1.out.trans hE).bytes HB.out) (Nat.lt_of_lt_of_le hg1 hE.le) (HT.out wr hE)
      have C2 := hide (CS.out p)
      have HO := hide hO
      clear hL hO
      generalize stepAt b p = st at *
      generalize tokAt b p = t at *
      obtain ⟨tl, tn, td⟩ := t
      dsimp only at C1
      go_wp2_with fail
      refine C1.mono ?_
      rintro e w2 ⟨rfl, hE2⟩
      have hF2 := hE.trans hE2
      have hO2 := HO.out.ext hE2
      have hW3 := Whole.new w2 60 #[.int .u8 (tl.toNat : Int), .int .i64 tn, .int .i64 td]
      have hE3 := extNew w2 (.cells #[.int .u8 (tl.toNat : Int), .int .i64 tn, .int .i64 td] 60)
      have hF3 := hF2.trans hE3
      have hO3 := hO2.ext hE3
      have hlt2 := hO2.lt
      have k0 := hW3.at 0 rfl
      have k1 := hW3.at 1 rfl
      have k2 := hW3.at 2 rfl
      clear C1 HO hE hE2 hF2 hO2
      generalize hw3 : w2.alloc (.cells #[.int .u8 (tl.toNat : Int), .int .i64 tn, .int .i64 td] 60) = w3 at *
      have hEa := extNew w3 (.cells #[.int .u8 (tl.toNat : Int), .int .i64 tn, .int .i64 td] 60)
      have hOa := hO3.ext hEa
      have hWa := hW3.ext hEa
      have hbs : w1.heap.size ≤ w3.heap.size := hF3.le
      have hLn : L.length ≤ 1000000 := by omega
      have hFa := hF3.trans hEa
      have hne : ∀ v : Value, (∀ k, v.ownBlock = some k → w1.heap.size ≤ k ∧ k < w2.heap.size) → v.ownBlock ≠ some w2.heap.size := fun v hv e => by have := (hv _ e).2; omega
      subst hw3
      have hw2 := hide (show w2.heap.size + 1 = (w2.alloc (.cells #[.int .u8 (tl.toNat : Int), .int .i64 tn, .int .i64 td] 60)).heap.size by simp)
      clear hO3 hF3
      obtain ⟨Ao, co, rfl, _⟩ := hOa.form
      go_wp2_with (at_builtin; refine wpList_appTkB rfl (.tmp 17) (.tmp 19) rfl rfl ⟨tl, tn, td⟩ hOa (congrArg (fun k => Value.slice (some ⟨k, 0, none⟩) 1 1) hw2.out) hLn hbs ?_; intro v5 w5 hO5 hG5 _; have hE5 : Ext w1 w5 := Below.grown hFa hG5 hFa.le (fun k hk => (hlt2 k hk).1); have hW5 := hWa.ownGrown hG5 (hne _ hlt2); have d0 := hW5.at 0 rfl; have d1 := hW5.at 1 rfl; have d2 := hW5.at 2 rfl)
      refine (C2.out _).mono ?_
      rintro e w6 ⟨rfl, hE6⟩
      rw [hsz.out]
      have hF6 := hE5.trans hE6
      have hO6 := hO5.ext hE6
      clear hO5 hE5 hW5 hE6 hOa hWa hFa hEa hE3 hW3 hw2 hG5 C2 hne d0 d1 d2 k0 k1 k2
      go_wp2
      go_roundw
      case rel => exact ⟨p + st, L ++ [⟨tl, tn, td⟩], hin, by rw [List.length_append]; simp; omega, by go_num, hO6, by rw [List.append_assoc, ← HL.out, hnx.out]; rfl, hF6⟩
      case measure => simp [intOf]; omega
    · have HLe := hide (HEnd.out p hlt)
      have HO := hide hO
      clear hO
      go_wp2
      go_ret
      refine ⟨_, rfl, ?_, HE1.out.trans hE⟩
      rw [← hL, HLe.out, List.append_nil]
      exact HO.out.mono HE1.out.le
end Go.Proofs.YthpbckignppaiaaGreatDoor

namespace Go.Proofs.YthpbckignppaiaaGreatDoor
open Go.RowKit Lz Tok
theorem Tok.bitLen_small {x : Nat} (h0 : x ≠ 0) (h1 : x < 256) : Lib.bitLen x = x.log2 + 1 := bitLen_log2 ⟨x, h1⟩ h0
theorem Tok.bitLen_big {x : Nat} (h0 : 256 ≤ x) (h1 : x < 65536) : 8 + Lib.bitLen (x / 256) = x.log2 + 1 := by
  rw [bitLen_small (by omega) (by omega)]
  have h := log_le (v := x / 256) (by omega)
  have e : x.log2 = (x / 256).log2 + 8 := log_eq (by rw [Nat.pow_add]; omega) (by rw [show (x / 256).log2 + 8 + 1 = (x / 256).log2 + 1 + 8 by omega, Nat.pow_add]; omega)
  omega
set_option maxHeartbeats 1000000 in
set_option maxRecDepth 20000 in
theorem len64_low (x : Int) (w : World) (h0 : 0 ≤ x) (h1 : x ≤ 255) : Calls Tryz.prog 80 #[.int .u64 x] w fun e w' => e = .returned (.int .i64 (Lib.bitLen x.toNat)) ∧ w = w' := by
  rw [← Lib.len8_int x h0 h1]
  go_enter Tryz.func80, Tryz.ntmps80
  go_wp2
  go_ret
  exact ⟨congrArg (fun v => Ending.returned (.int .i64 v)) (by simp only [wrap64]; generalize Lib.len8 x = y; omega), rfl⟩
set_option maxHeartbeats 1000000 in
set_option maxRecDepth 20000 in
theorem len64_mid (x : Int) (w : World) (h0 : 256 ≤ x) (h1 : x ≤ 4095) : Calls Tryz.prog 80 #[.int .u64 x] w fun e w' => e = .returned (.int .i64 (8 + Lib.bitLen (x / 256).toNat)) ∧ w = w' := by
  obtain ⟨z, hz⟩ : ∃ z : Int, 8 + (Lib.bitLen (x / 256).toNat : Int) = z := ⟨_, rfl⟩
  rw [hz]
  have HZ := hide hz
  have hd0 : 0 ≤ x / 256 := by omega
  have hd1 : x / 256 ≤ 255 := by omega
  clear hz
  go_enter Tryz.func80, Tryz.ntmps80
  go_wp2
  go_ret
  refine ⟨congrArg (fun v => Ending.returned (.int .i64 v)) ?_, rfl⟩
  have h1 := Lib.len8_int (x / 256) hd0 hd1
  have h2 := Lib.bitLen_le8' (x / 256) hd0 hd1
  rw [← HZ.out]
  simp only [wrap64]
  generalize Lib.len8 (x / 256) = y at *
  omega
theorem bitsLen_any (x : Nat) (w : World) (h0 : x ≠ 0) (h1 : x ≤ 4095) : Calls Tryz.prog 63 #[.int .u64 (x : Int)] w fun e w' => e = .returned (.int .i64 ((x.log2 + 1 : Nat) : Int)) ∧ w = w' := by
  have C : Calls Tryz.prog 80 #[.int .u64 (x : Int)] w fun e w' => e = .returned (.int .i64 ((x.log2 + 1 : Nat) : Int)) ∧ w = w' := by
    by_cases h : x < 256
    · have C := len64_low (x : Int) w (by omega) (by omega)
      rw [Int.toNat_natCast, bitLen_small h0 h] at C
      exact C
    · have C := len64_mid (x : Int) w (by omega) (by omega)
      have e : ((x : Int) / 256).toNat = x / 256 := by omega
      rw [e] at C
      have e2 : (8 : Int) + (Lib.bitLen (x / 256) : Int) = ((x.log2 + 1 : Nat) : Int) := by rw [← bitLen_big (by omega) (by omega)]; omega
      rw [e2] at C
      exact C
  generalize x.log2 + 1 = k at *
  clear h0 h1
  go_enter Tryz.func63, Tryz.ntmps63
  go_wp2_with fail
  refine C.mono ?_
  rintro e w2 ⟨rfl, rfl⟩
  go_wp2
  go_ret
  exact ⟨rfl, rfl⟩
set_option maxHeartbeats 1000000 in
theorem halve_any (x : Nat) (w : World) (h0 : x ≠ 0) (h1 : x ≤ 4095) : Calls Tryz.prog 50 #[.int .i64 (x : Int)] w fun e w' => e = .returned (.tuple #[.int .i64 ((Nat.log2 x : Nat) : Int), .int .i64 ((x - 2 ^ Nat.log2 x : Nat) : Int)]) ∧ Ext w w' := by
  have C := fun w => bitsLen_any x w h0 h1
  have hl : x.log2 < 12 := log_lt h0 (by omega)
  have hp := log_le h0
  have HS := hide (show ((x - 2 ^ x.log2 : Nat) : Int) = (x : Int) - 2 ^ x.log2 by
    rw [Int.ofNat_sub hp.1]
    simp)
  have hp2 := pow_top (k := x.log2) (m := 11) (by omega)
  have hpI : (2 : Int) ^ x.log2 ≤ 2048 := by
    have : ((2 ^ x.log2 : Nat) : Int) ≤ 2048 := by omega
    simpa using this
  have hpI0 : (0 : Int) < (2 : Int) ^ x.log2 := by
    have := Nat.two_pow_pos x.log2
    have : (0 : Int) < ((2 ^ x.log2 : Nat) : Int) := by omega
    simpa using this
  clear hp hp2
  generalize x - 2 ^ x.log2 = r at *
  generalize x.log2 = k at *
  go_enter Tryz.func50, Tryz.ntmps50
  go_wp2_with fail
  refine (C _).mono ?_
  rintro e w2 ⟨rfl, rfl⟩
  go_wp2_with fail
  go_region
  go_wp2
  go_ret2
  exact ⟨congrArg (fun v => Ending.returned (.tuple #[.int .i64 (k : Int), .int .i64 v])) HS.out.symm, (Ext.refl _).drew⟩
end Go.Proofs.YthpbckignppaiaaGreatDoor

namespace Go.Proofs.YthpbckignppaiaaGreatDoor
open Go.RowKit Lz Tok
set_option maxHeartbeats 1000000 in
theorem isMatch_any (p : PcV) (w : World) : Calls Tryz.prog 47 #[pcV p] w fun e w' => e = .returned (.bool (decide (257 ≤ p.sym))) ∧ Ext w w' := by
  have hE := extNew w (.cells #[.int .i64 p.sym, .int .i64 p.len, .int .i64 p.dist, .int .i64 p.far] 56)
  have c0 := (Whole.new w 56 #[.int .i64 p.sym, .int .i64 p.len, .int .i64 p.dist, .int .i64 p.far]).at 0 (u := .int .i64 p.sym) rfl
  unfold pcV
  go_enter Tryz.func47, Tryz.ntmps47
  go_wp2
  go_ret
  exact ⟨rfl, hE⟩
set_option maxHeartbeats 1000000 in
theorem lenBits_any (p : PcV) (w : World) (h0 : 257 ≤ p.sym) (h1 : p.sym ≤ 9223372036854775807) : Calls Tryz.prog 53 #[pcV p] w fun e w' => e = .returned (.int .i64 (p.sym - 257)) ∧ Ext w w' := by
  have hE := extNew w (.cells #[.int .i64 p.sym, .int .i64 p.len, .int .i64 p.dist, .int .i64 p.far] 56)
  have c0 := (Whole.new w 56 #[.int .i64 p.sym, .int .i64 p.len, .int .i64 p.dist, .int .i64 p.far]).at 0 (u := .int .i64 p.sym) rfl
  unfold pcV
  go_enter Tryz.func53, Tryz.ntmps53
  go_wp2
  go_ret
  exact ⟨rfl, hE⟩
set_option maxHeartbeats 2000000 in
set_option maxRecDepth 100000 in
theorem tsplit_any (t : TokV) (w : World) : Calls Tryz.prog 31 #[tokV t] w (SplitTo w (splitE t)) := by
  have hE1 := (extNew w (.cells #[.int .u8 (t.lit.toNat : Int), .int .i64 t.len, .int .i64 t.dist] 60)).alloc (.cells #[.int .i64 0, .int .i64 0, .int .i64 0, .int .i64 0] 56)
  have hW1 := (Whole.new w 60 #[.int .u8 (t.lit.toNat : Int), .int .i64 t.len, .int .i64 t.dist]).alloc (.cells #[.int .i64 0, .int .i64 0, .int .i64 0, .int .i64 0] 56)
  have hP1 := Whole.new (w.alloc (.cells #[.int .u8 (t.lit.toNat : Int), .int .i64 t.len, .int .i64 t.dist] 60)) 56 #[.int .i64 0, .int .i64 0, .int .i64 0, .int .i64 0]
  rw [World.size_alloc] at hP1
  have CM := fun W => lzMay_any t W
  unfold tokV at CM ⊢
  cases hm : may t with
  | false =>
    rw [hm] at CM
    have HN := hide (split_bad hm)
    generalize splitE t = res at *
    clear hm
    generalize t.lit.toNat = y at *
    generalize t.len = tn at *
    generalize t.dist = td at *
    go_enter Tryz.func31, Tryz.ntmps31
    go_wp2_with (refine wpList_load_row rfl 60 (.tmp 1) rfl _ rfl _ _ _ _ hW1 Tryz.underlying60 rfl tk_info ?_)
    refine (CM _).mono ?_
    rintro e w2 ⟨rfl, hE2⟩
    have hP2 := hP1.ext hE2
    clear CM
    go_wp2_with (refine wpList_storeW rfl 56 (.tmp 2) (.tmp 12) rfl rfl rfl hP2 rfl pc_info (pc_one ..) ?_; intro w5 hW5 hG5 _)
    refine bodyPost_ret (results_row2 rfl _ rfl rfl (run_loadVar_row _ _ _ _ _ _ _ hW5 Tryz.underlying56 rfl pc_info)) rfl ?_
    have hE := hE1.trans hE2
    rw [HN.out]
    exact ⟨rfl, Below.grown hE hG5 hE.le (fun k hk => by cases hk; omega)⟩
  | true =>
    rw [hm] at CM
    have hwp := hP1.lt
    by_cases h0 : t.len = 0
    · have HN := hide (split_lit hm h0)
      generalize splitE t = res at *
      rw [h0] at CM hE1 hW1 hP1 ⊢
      clear hm h0
      have h8 := UInt8.toNat_lt t.lit
      generalize t.lit.toNat = y at *
      generalize t.dist = td at *
      go_enter Tryz.func31, Tryz.ntmps31
      go_wp2_with (refine wpList_load_row rfl 60 (.tmp 1) rfl _ rfl _ _ _ _ hW1 Tryz.underlying60 rfl tk_info ?_)
      refine (CM _).mono ?_
      rintro e w2 ⟨rfl, hE2⟩
      have hP2 := hP1.ext hE2
      have hW2 := hW1.ext hE2
      have c0 := hW2.at 0 (u := .int .u8 (y : Int)) rfl
      have c1 := hW2.at 1 (u := .int .i64 0) rfl
      clear CM
      go_wp2_with (refine wpList_storeW rfl 56 (.tmp 2) (.tmp 20) rfl rfl rfl hP2 rfl pc_info (pc_one ..) ?_; intro w5 hW5 hG5 _)
      refine bodyPost_ret (results_row2 rfl _ rfl rfl (run_loadVar_row _ _ _ _ _ _ _ hW5 Tryz.underlying56 rfl pc_info)) rfl ?_
      have hE := hE1.trans hE2
      rw [HN.out]
      exact ⟨rfl, Below.grown hE hG5 hE.le (fun k hk => by cases hk; omega)⟩
    · obtain ⟨_, m1, m2, m3, m4⟩ := may_facts hm h0
      obtain ⟨v, hv⟩ := Int.eq_ofNat_of_zero_le (show 0 ≤ t.len - 2 by omega)
      obtain ⟨d, hd⟩ := Int.eq_ofNat_of_zero_le (show 0 ≤ t.dist by omega)
      have hlv : t.len = (v : Int) + 2 := by omega
      have HN := hide (show splitE t = (⟨257 + (Nat.log2 v : Nat), (v - 2 ^ Nat.log2 v : Nat), (Nat.log2 d : Nat), (d - 2 ^ Nat.log2 d : Nat)⟩, 0) by
        unfold splitE
        rw [if_neg (by rw [hm]; simp), if_neg h0, hv, hd, Int.toNat_natCast, Int.toNat_natCast])
      have C1 := fun W => halve_any v W (by omega) (by omega)
      have C2 := fun W => halve_any d W (by omega) (by omega)
      have b1 : Nat.log2 v < 8 := log_lt (by omega) (by omega)
      have b2 : Nat.log2 d < 12 := log_lt (by omega) (by omega)
      generalize splitE t = res at *
      rw [hlv, hd] at CM hE1 hW1 hP1 ⊢
      have hv8 : v ≤ 255 := by omega
      have hd4 : d ≤ 4095 := by omega
      clear hm h0 m1 m2 m3 m4 hv hd hlv
      generalize t.lit.toNat = y at *
      generalize v - 2 ^ Nat.log2 v = x1 at *
      generalize d - 2 ^ Nat.log2 d = x2 at *
      generalize Nat.log2 v = l1 at *
      generalize Nat.log2 d = l2 at *
      have hlb : (((v : Int) + 2) == 0) = false := by rw [beq_eq_false_iff_ne]; omega
      go_enter Tryz.func31, Tryz.ntmps31
      go_wp2_with (refine wpList_load_row rfl 60 (.tmp 1) rfl _ rfl _ _ _ _ hW1 Tryz.underlying60 rfl tk_info ?_)
      refine (CM _).mono ?_
      rintro e w2 ⟨rfl, hE2⟩
      have hP2 := hP1.ext hE2
      have hW2 := hW1.ext hE2
      have c1 := hW2.at 1 (u := .int .i64 ((v : Int) + 2)) rfl
      clear CM
      go_wp2_with fail
      have hv2 : (v : Int) + 2 - 2 = (v : Int) := by omega
      try rw [hv2]
      refine (C1 _).mono ?_
      rintro e w3 ⟨rfl, hE3⟩
      have hP3 := hP2.ext hE3
      have hW3 := hW2.ext hE3
      have c2 := hW3.at 2 (u := .int .i64 (d : Int)) rfl
      clear C1
      go_wp2_with fail
      refine (C2 _).mono ?_
      rintro e w4 ⟨rfl, hE4⟩
      have hP4 := hP3.ext hE4
      have hE := ((hE1.trans hE2).trans hE3).trans hE4
      clear C2
      go_wp2_with (refine wpList_storeW rfl 56 (.tmp 2) (.tmp 39) rfl rfl rfl hP4 rfl pc_info (pc_one ..) ?_; intro w5 hW5 hG5 _)
      refine bodyPost_ret (results_row2 rfl _ rfl rfl (run_loadVar_row _ _ _ _ _ _ _ hW5 Tryz.underlying56 rfl pc_info)) rfl ?_
      rw [HN.out]
      exact ⟨rfl, Below.grown hE hG5 hE.le (fun k hk => by cases hk; omega)⟩
end Go.Proofs.YthpbckignppaiaaGreatDoor

namespace Go.Proofs.YthpbckignppaiaaGreatDoor
open Go.RowKit Lz Tok Len
theorem Tok.cnt_end {L : List TokV} (h : L.all may = true) : (cntS L).set 256 1 = countsS L := by
  have e : (cntS L).getD 256 0 = 0 := by
    have h0 : L.countP (isSym 256) = 0 := List.countP_eq_zero.2 fun t ht hs => by
      have := (sym_range (List.all_eq_true.1 h t ht)).2.2.1
      exact this (of_decide_eq_true hs)
    simp [cntS, List.getD_eq_getElem?_getD, h0]
  rw [← cntS_end, e]
theorem Tok.split_kind {t : TokV} (h : may t = true) : ∃ (s : Nat) (x c y : Int), splitE t = (⟨s, x, c, y⟩, 0) ∧ s < 265 ∧ (t.len ≠ 0 → 0 ≤ c ∧ c < 12 ∧ 257 ≤ s) ∧ (t.len = 0 → s < 257) := by
  by_cases h0 : t.len = 0
  · have := UInt8.toNat_lt t.lit
    exact ⟨t.lit.toNat, 0, 0, 0, split_lit h h0, by omega, fun e => absurd h0 e, fun _ => by omega⟩
  · obtain ⟨k, x, c, y, hk, hx, hc, hy, e1, e2, e3⟩ := split_match h h0
    exact ⟨257 + k, x, c, y, by rw [e3]; rfl, by omega, fun _ => ⟨by omega, by omega, by omega⟩, fun e => absurd e h0⟩
set_option maxHeartbeats 1000000 in
set_option maxRecDepth 100000 in
theorem tcount_any (A : Option Addr) (n c : Nat) (L : List TokV) (w : World) (hn : n ≤ 100000) (hT : ToksAt w w.heap.size A n L) : Calls Tryz.prog 29 #[.slice A n c] w (CountTo w L) := by
  have M1 := fun W => make_u32 W 265 (by omega)
  have M2 := fun W => make_u32 W 12 (by omega)
  have N1 := hide (fun W => OwnU.new W 265 (by omega))
  have N2 := hide (fun W => OwnU.new W 12 (by omega))
  simp only [Int.cast_ofNat_Int] at M1 M2
  generalize madeCells #[Value.int .u32 0] 265 = Z1 at *
  generalize madeCells #[Value.int .u32 0] 12 = Z2 at *
  have P1 := hide (show OwnU ((w.alloc (.cells Z1 39)).alloc (.cells Z2 39)).drew w.heap.size (.slice (some ⟨w.heap.size, 0, none⟩) 265 265) (List.replicate 265 0) ∧ OwnU ((w.alloc (.cells Z1 39)).alloc (.cells Z2 39)).drew w.heap.size (.slice (some ⟨w.heap.size + 1, 0, none⟩) 12 12) (List.replicate 12 0) ∧ Ext w ((w.alloc (.cells Z1 39)).alloc (.cells Z2 39)).drew from by
    have a := N1.out w
    have b := N2.out (w.alloc (.cells Z1 39))
    rw [World.size_alloc] at b
    exact ⟨(a.ext (extNew _ _)).ext (Ext.refl _).drew, (b.base (by omega)).ext (Ext.refl _).drew, ((extNew w _).trans (extNew _ _)).drew⟩)
  have P2 := hide (show OwnU ((w.alloc (.cells Z2 39)).alloc (.cells Z1 39)).drew w.heap.size (.slice (some ⟨w.heap.size + 1, 0, none⟩) 265 265) (List.replicate 265 0) ∧ OwnU ((w.alloc (.cells Z2 39)).alloc (.cells Z1 39)).drew w.heap.size (.slice (some ⟨w.heap.size, 0, none⟩) 12 12) (List.replicate 12 0) ∧ Ext w ((w.alloc (.cells Z2 39)).alloc (.cells Z1 39)).drew from by
    have a := N2.out w
    have b := N1.out (w.alloc (.cells Z2 39))
    rw [World.size_alloc] at b
    exact ⟨(b.base (by omega)).ext (Ext.refl _).drew, (a.ext (extNew _ _)).ext (Ext.refl _).drew, ((extNew w _).trans (extNew _ _)).drew⟩)
  have HT := hide hT
  have hl := hT.1
  subst hl
  clear hT N1 N2
  go_enter Tryz.func29, Tryz.ntmps29
  go_upto_region 1 with fail
  go_cut [5, 6] (fun x y wx => ∃ g1 g2 : Nat, g1 ≠ g2 ∧ x = .slice (some ⟨g1, 0, none⟩) 265 265 ∧ y = .slice (some ⟨g2, 0, none⟩) 12 12 ∧ OwnU wx w.heap.size x (List.replicate 265 0) ∧ OwnU wx w.heap.size y (List.replicate 12 0) ∧ Ext w wx)
  case first =>
    go_region
    · go_wp2_with fail
      go_meet
      exact ⟨w.heap.size, w.heap.size + 1, by omega, rfl, rfl, P1.out⟩
    · go_wp2_with fail
      go_meet
      exact ⟨w.heap.size + 1, w.heap.size, by omega, rfl, rfl, P2.out⟩
  case rest =>
    clear M1 M2 P1 P2
    obtain ⟨g1, g2, hne, rfl, rfl, hO1, hO2, hE0⟩ := hcut
    have hw1 := (hO1.lt g1 rfl).1
    have hw2 := (hO2.lt g2 rfl).1
    rw [← cntS_nil] at hO1
    rw [← cntF_nil] at hO2
    go_wp2_with fail
    go_loopw [15] (fun x wr => ∃ i : Nat, i ≤ L.length ∧ x = .int .i64 (i : Int) ∧ (L.take i).all may = true ∧ OwnU wr w.heap.size (.slice (some ⟨g1, 0, none⟩) 265 265) (cntS (L.take i)) ∧ OwnU wr w.heap.size (.slice (some ⟨g2, 0, none⟩) 12 12) (countsF (L.take i)) ∧ Ext w wr) (fun x _ => L.length - (intOf x).toNat)
    case atStart => exact ⟨0, by omega, rfl, rfl, hO1, hO2, hE0⟩
    case round =>
      clear hO1 hO2 hE0
      obtain ⟨i, hi, rfl, hall, hO1, hO2, hE⟩ := hrel
      have HAll := hide hall
      clear hall
      by_cases hlt : i < L.length
      · have hiI : (i : Int) < (L.length : Int) := by omega
        have HNx := hide (take_next hlt)
        have hcl1 := fun s => cntS_le (L.take i) s
        have hcl2 := fun s => cntF_le (L.take i) s
        have hti : (L.take i).length ≤ L.length := by rw [List.length_take]; omega
        have HS1 := hide (fun s (hs : (splitE (L.getD i default)).1.sym = ((s : Nat) : Int)) => cntS_next hlt hs)
        have HS2 := hide (fun (h0 : (L.getD i default).len ≠ 0) s (hs : (splitE (L.getD i default)).1.dist = ((s : Nat) : Int)) => cntF_next hlt h0 hs)
        have HS3 := hide (fun (h0 : (L.getD i default).len = 0) => cntF_lit hlt h0)
        have hMem : L.getD i default ∈ L := by
          rw [List.getD_eq_getElem?_getD, List.getElem?_eq_getElem hlt]
          exact List.getElem_mem hlt
        have HMem := hide hMem
        have CM := fun W => tsplit_any (L.getD i default) W
        unfold tokV at CM
        have hToks := HT.out.below hE (Nat.le_refl _)
        rcases hToks.2 with h0 | ⟨b1, o1, rfl, hb1, hc⟩
        · omega
        obtain ⟨hAt, hOk⟩ := hc i hlt
        obtain ⟨c0, c1, c2⟩ := hAt.cells
        clear hc hToks hAt hMem
        obtain ⟨t, ht⟩ : ∃ t, t = L.getD i default := ⟨_, rfl⟩
        rw [← ht] at c0 c1 c2 hOk CM HS1 HS2 HS3 HMem HNx
        clear ht
        have hET := extNew wr (.cells #[.int .u8 (t.lit.toNat : Int), .int .i64 t.len, .int .i64 t.dist] 60)
        have hWT := Whole.new wr 60 #[.int .u8 (t.lit.toNat : Int), .int .i64 t.len, .int .i64 t.dist]
        go_wp2_with (refine wpList_load_row rfl 60 (.tmp 8) rfl _ rfl _ _ _ _ hWT Tryz.underlying60 rfl tk_info ?_)
        refine (CM _).mono ?_
        rintro e w2 ⟨rfl, hE2⟩
        clear CM c0 c1 c2 hWT
        have hE3 := hET.trans hE2
        have hF2 := hE.trans hE3
        have hO1' := hO1.ext hE3
        have hO2' := hO2.ext hE3
        clear hO1 hO2 hE hE2 hE3 hET
        cases hmay : may t with
        | false =>
          rw [split_bad hmay]
          have HM := hide hmay
          clear hmay
          unfold pcV
          dsimp only
          go_wp2
          go_ret3
          refine ⟨hF2.trans (extNew _ _), ?_⟩
          rw [if_neg (fun hA => by have := List.all_eq_true.1 hA t HMem.out; rw [HM.out] at this; exact Bool.noConfusion this)]
          rfl
        | true =>
          obtain ⟨sy, x, cd, y, hsp, hsy, hcd, hcl⟩ := split_kind hmay
          rw [hsp] at HS1 HS2 ⊢
          have HNA := hide (show (L.take (i + 1)).all may = true by rw [HNx.out, List.all_append, HAll.out]; simp [hmay])
          have HS1' := hide (HS1.out sy rfl)
          unfold pcV
          dsimp only at HS2 ⊢
          have hEa := extNew w2 (.cells #[.int .i64 (sy : Int), .int .i64 x, .int .i64 cd, .int .i64 y] 56)
          have hWP := Whole.new w2 56 #[.int .i64 (sy : Int), .int .i64 x, .int .i64 cd, .int .i64 y]
          have hO1a := hO1'.ext hEa
          have hO2a := hO2'.ext hEa
          obtain ⟨k1, k2⟩ := hO1a.cell (i := sy) (by rw [cntS_len]; exact hsy) (by rw [cntS_len])
          have hv1 := hcl1 sy
          have hS1 := hO1a.set sy ((cntS (L.take i)).getD sy 0 + 1) (by rw [cntS_len])
          rw [HS1'.out, show (((cntS (L.take i)).getD sy 0 + 1 : Nat) : Int) = (((cntS (L.take i)).getD sy 0 : Nat) : Int) + 1 from rfl] at hS1
          have HSet1 := hide hS1
          have hFa := hF2.trans hEa
          have hg1 : w2.heap.size ≠ g1 := by have := (hO1'.lt g1 rfl).2; omega
          have p0 := hWP.at 0 (u := .int .i64 (sy : Int)) rfl
          have hWP3 := hWP.far hg1 sy (.int .u32 ((((cntS (L.take i)).getD sy 0 : Nat) : Int) + 1))
          have hyI : (sy : Int) < 265 := by omega
          clear hS1 HS1 HS1' hO1a hO1' hO2' hsp hmay
          generalize (cntS (L.take i)).getD sy 0 = cv at *
          have hO2b := hO2a.far (b := g1) (i := sy) (u := .int .u32 ((cv : Int) + 1)) (Ne.symm hne)
          have hF3 := hFa.setCell (g := g1) (i := sy) hw1 (.int .u32 ((cv : Int) + 1))
          have hcvI : (cv : Int) + 1 < 4294967296 := by omega
          have CI := fun W => isMatch_any ⟨(sy : Int), x, cd, y⟩ W
          unfold pcV at CI
          dsimp only at CI
          have HO2 := hide hO2b
          have HF3 := hide hF3
          clear hO2a hO2b hWP hEa hF2 hFa hF3 hg1
          go_wp2_with (refine wpList_load_row rfl 56 (.tmp 9) rfl _ rfl _ _ _ _ hWP3 Tryz.underlying56 rfl pc_info ?_)
          refine (CI _).mono ?_
          rintro e w5 ⟨rfl, hE5⟩
          have hO1c := HSet1.out.ext hE5
          have hO2c := HO2.out.ext hE5
          have hF5 := HF3.out.trans hE5
          have hWP5 := hWP3.ext hE5
          clear CI p0 k1 k2 hWP3 HSet1 HO2 HF3 hE5
          by_cases h0 : t.len = 0
          · have HS3' := hide (HS3.out h0)
            have hsm := hcl h0
            have hsmb : decide (257 ≤ (sy : Int)) = false := decide_eq_false (by omega)
            rw [hsmb]
            have HF5 := hide hF5
            have HO1 := hide hO1c
            have HO2 := hide hO2c
            clear hO1c hO2c hcl1 hcl2 h0 HS2 HS3 hcd hcl hsm hsmb hF5 hWP5 hv1 hti
            go_wp2
            go_roundw
            case rel => exact ⟨i + 1, by omega, by go_num, HNA.out, HO1.out, by rw [HS3'.out]; exact HO2.out, HF5.out⟩
            case measure => simp [intOf]; omega
          · obtain ⟨hc0, hc1, hsm⟩ := hcd h0
            have hsmb : decide (257 ≤ (sy : Int)) = true := decide_eq_true (by omega)
            rw [hsmb]
            obtain ⟨cn, rfl⟩ := Int.eq_ofNat_of_zero_le hc0
            have HS2' := hide (HS2.out h0 cn rfl)
            obtain ⟨k3, k4⟩ := hO2c.cell (i := cn) (by rw [countsF_len]; omega) (by rw [countsF_len])
            have hv2 := hcl2 cn
            have hS2 := hO2c.set cn ((countsF (L.take i)).getD cn 0 + 1) (by rw [countsF_len])
            rw [HS2'.out, show (((countsF (L.take i)).getD cn 0 + 1 : Nat) : Int) = (((countsF (L.take i)).getD cn 0 : Nat) : Int) + 1 from rfl] at hS2
            have HSet2 := hide hS2
            have p2 := hWP5.at 2 (u := .int .i64 (cn : Int)) rfl
            clear hO2c hcl1 hcl2 h0 HS2 HS3 hcd hcl HS2' hS2 hWP5
            generalize (countsF (L.take i)).getD cn 0 = cw at *
            have hcwI : (cw : Int) + 1 < 4294967296 := by omega
            have HSet3 := hide (hO1c.far (b := g2) (i := cn) (u := .int .u32 ((cw : Int) + 1)) hne)
            have HF6 := hide (hF5.setCell (g := g2) (i := cn) hw2 (.int .u32 ((cw : Int) + 1)))
            clear hO1c hF5 hc0 hsm hsmb hv2 hv1 hti
            clear hw2
            go_wp2
            go_roundw
            case rel => exact ⟨i + 1, by omega, by go_num, HNA.out, HSet3.out, HSet2.out, HF6.out⟩
            case measure => simp [intOf]; omega
      · obtain rfl : L.length = i := by omega
        rw [List.take_length] at hO1 hO2 HAll
        obtain ⟨k1, k2⟩ := hO1.cell (i := 256) (by rw [cntS_len]; omega) (by rw [cntS_len])
        have hS1 := hO1.set 256 1 (by rw [cntS_len])
        rw [cnt_end HAll.out] at hS1
        have HSet1 := hide hS1
        have HO2 := hide hO2
        clear hS1 hO1 hO2
        generalize (cntS L).getD 256 0 = cv at *
        go_wp2
        go_ret3
        refine ⟨hE.setCell hw1 _, ?_⟩
        rw [if_pos HAll.out]
        exact ⟨g1, g2, hne, rfl, HSet1.out, HO2.out.far (Ne.symm hne)⟩
end Go.Proofs.YthpbckignppaiaaGreatDoor

namespace Go.Proofs.YthpbckignppaiaaGreatDoor.Can
open Len
def cnt (l : List UInt8) (n k : Nat) : Nat := sumN n fun i => if lenAt l i = k then 1 else 0
def fst (l : List UInt8) (k : Nat) : Nat := if k = 0 then 0 else acc l k 0 / 2 ^ (15 - k)
theorem cnt_succ (l : List UInt8) (n k : Nat) : cnt l (n + 1) k = cnt l n k + if lenAt l n = k then 1 else 0 := rfl
theorem cnt_le (l : List UInt8) (k : Nat) : ∀ n, cnt l n k ≤ n
  | 0 => Nat.le_refl _
  | n + 1 => by
    have := cnt_le l k n
    rw [cnt_succ]
    split <;> omega
theorem acc_cnt (l : List UInt8) {k : Nat} (hk : 1 ≤ k) : ∀ s, s ≤ l.length → acc l k s = acc l k 0 + cnt l s k * 2 ^ (15 - k)
  | 0, _ => by simp [cnt, sumN]
  | s + 1, h => by
    rw [acc_step l hk (by omega), acc_cnt l hk s (by omega), cnt_succ]
    split
    · rw [Nat.add_mul, Nat.one_mul, Nat.add_assoc]
    · simp
theorem fst_mul (l : List UInt8) {k : Nat} (hk : 1 ≤ k) : fst l k * 2 ^ (15 - k) = acc l k 0 := by
  unfold fst
  rw [if_neg (by omega)]
  exact Nat.div_mul_cancel (acc_dvd _ _)
theorem fst_one (l : List UInt8) : fst l 1 = 0 := by
  unfold fst
  rw [if_neg (by omega), acc_start, Nat.zero_div]
theorem fst_acc (l : List UInt8) {k : Nat} (hk : 1 ≤ k) (s : Nat) (hs : s ≤ l.length) : (fst l k + cnt l s k) * 2 ^ (15 - k) = acc l k s := by
  rw [Nat.add_mul, fst_mul l hk, ← acc_cnt l hk s hs]
theorem fst_next (l : List UInt8) {k : Nat} (hk : 1 ≤ k) (h15 : k < 15) : fst l (k + 1) = (fst l k + cnt l l.length k) * 2 := by
  have h1 := fst_acc l hk l.length (Nat.le_refl _)
  rw [← acc_turn, ← fst_mul l (k := k + 1) (by omega), show 15 - k = 15 - (k + 1) + 1 by omega, Nat.pow_succ, ← Nat.mul_assoc, Nat.mul_right_comm] at h1
  exact (Nat.eq_of_mul_eq_mul_right (Nat.pow_pos (by omega)) h1).symm
theorem fst_room {l : List UInt8} (hr : right l = true) {k : Nat} (hk : 1 ≤ k) (s : Nat) (hs : s ≤ l.length) : fst l k + cnt l s k ≤ 32768 := by
  have h1 := acc_le l k s
  rw [← fst_acc l hk s hs] at h1
  have h2 := (right_facts hr).2.2
  have h3 : (fst l k + cnt l s k) * 1 ≤ (fst l k + cnt l s k) * 2 ^ (15 - k) := Nat.mul_le_mul_left _ (Nat.pow_pos (by omega))
  omega
theorem word_fst (l : List UInt8) {s : Nat} (hs : s < l.length) (h0 : lenAt l s ≠ 0) : word l s = fst l (lenAt l s) + cnt l s (lenAt l s) := by
  unfold word
  rw [if_neg h0, ← fst_acc l (by omega) s (by omega), Nat.mul_div_cancel _ (Nat.pow_pos (by omega))]
theorem cnt_sum {l : List UInt8} (c : Nat → Nat) : ∀ n, (∀ i, i < n → lenAt l i ≤ 15) → (sumN 15 fun j => cnt l n (j + 1) * c (j + 1)) = sumN n fun i => if lenAt l i = 0 then 0 else c (lenAt l i)
  | 0, _ => sumN_zero _ fun i _ => by simp [cnt, sumN]
  | n + 1, h => by
    have ih := cnt_sum c n (fun i hi => h i (by omega))
    have e : (sumN 15 fun j => cnt l (n + 1) (j + 1) * c (j + 1)) = sumN 15 fun j => cnt l n (j + 1) * c (j + 1) + (if lenAt l n = j + 1 then c (j + 1) else 0) := sumN_congr fun j _ => by
      rw [cnt_succ, Nat.add_mul]
      split <;> simp
    have e3 : (sumN 15 fun j => if lenAt l n = j + 1 then c (j + 1) else 0) = if lenAt l n = 0 then 0 else c (lenAt l n) := by
      by_cases h0 : lenAt l n = 0
      · rw [if_pos h0]
        exact sumN_zero _ fun j _ => if_neg (by omega)
      · rw [if_neg h0]
        have e2 : (sumN 15 fun j => if lenAt l n = j + 1 then c (j + 1) else 0) = sumN 15 fun j => if j = lenAt l n - 1 then c (lenAt l n) else 0 := sumN_congr fun j _ => by
          by_cases hj : lenAt l n = j + 1
          · rw [if_pos hj, if_pos (by omega), hj]
          · rw [if_neg hj, if_neg (by omega)]
        have := h n (by omega)
        rw [e2, sumN_pt, if_pos (by omega)]
    rw [e, sumN_add, ih, e3]
    rfl
def wordsF (f : Nat → Nat) (n : Nat) : Nat := sumN n fun j => f (j + 1)
def weightF (f : Nat → Nat) (n : Nat) : Nat := sumN n fun j => f (j + 1) * 2 ^ (15 - (j + 1))
def rightF (f : Nat → Nat) : Bool := decide (wordsF f 15 = 0 ∨ wordsF f 15 = 1 ∧ f 1 = 1 ∨ weightF f 15 = 32768)
theorem wordsF_le {f : Nat → Nat} (hf : ∀ k, f k ≤ 300) (n : Nat) : wordsF f n ≤ n * 300 := by
  rw [← sumN_const 300 n]
  exact sumN_le fun j _ => hf _
theorem weightF_le {f : Nat → Nat} (hf : ∀ k, f k ≤ 300) (n : Nat) : weightF f n ≤ n * 9830400 := by
  rw [← sumN_const 9830400 n]
  refine sumN_le fun j _ => ?_
  have h1 : 2 ^ (15 - (j + 1)) ≤ 2 ^ 15 := Nat.pow_le_pow_right (by omega) (by omega)
  have h2 := Nat.mul_le_mul (hf (j + 1)) h1
  omega
theorem right_of_counts {l : List UInt8} (hn : l.length ≤ 300) (h15 : ∀ i, i < l.length → lenAt l i ≤ 15) : rightF (cnt l l.length) = right l := by
  have hk : kraftE l = (kraftOf l l.length, 0) := if_pos ⟨hn, h15⟩
  have h1 : wordsF (cnt l l.length) 15 = usedC l l.length := by
    have := cnt_sum (l := l) (fun _ => 1) l.length h15
    simp only [Nat.mul_one] at this
    exact this
  have h2 : weightF (cnt l l.length) 15 = kraftOf l l.length := cnt_sum (l := l) (fun k => 2 ^ (15 - k)) l.length h15
  unfold rightF right
  rw [h1, h2, hk]
  apply decide_eq_decide.2
  constructor
  · exact fun h => ⟨rfl, h⟩
  · exact fun h => h.2
theorem wrong_long {l : List UInt8} (hn : 300 < l.length) : right l = false := decide_eq_false fun h => by
  have := (kraft_ok h.1).1
  omega
theorem wrong_high {l : List UInt8} {i : Nat} (hi : i < l.length) (h : 15 < lenAt l i) : right l = false := decide_eq_false fun h2 => by
  have := (kraft_ok h2.1).2.1 i hi
  omega
def codesTo (l : List UInt8) (s : Nat) : List Nat := (List.range l.length).map fun t => if t < s then word l t else 0
theorem codesTo_len (l : List UInt8) (s : Nat) : (codesTo l s).length = l.length := by simp [codesTo]
theorem codesTo_none (l : List UInt8) : codesTo l 0 = List.replicate l.length 0 := by
  refine List.ext_getElem (by simp [codesTo]) fun t h1 h2 => ?_
  simp [codesTo]
theorem codesTo_all (l : List UInt8) : codesTo l l.length = codesL l := by
  refine List.ext_getElem (by simp [codesTo, codesL]) fun t h1 h2 => ?_
  have : t < l.length := by simpa [codesTo] using h1
  simp [codesTo, codesL, this]
theorem codesTo_set (l : List UInt8) (s : Nat) : (codesTo l s).set s (word l s) = codesTo l (s + 1) := by
  refine List.ext_getElem (by simp [codesTo]) fun t h1 h2 => ?_
  rw [List.getElem_set]
  simp only [codesTo, List.getElem_map, List.getElem_range]
  split
  · rename_i e
    rw [if_pos (by omega), e]
  · rename_i e
    by_cases h : t < s
    · rw [if_pos h, if_pos (by omega)]
    · rw [if_neg h, if_neg (by omega)]
theorem codesTo_pass (l : List UInt8) {s : Nat} (h : lenAt l s = 0) : codesTo l s = codesTo l (s + 1) := by
  have e : word l s = 0 := if_pos h
  refine List.ext_getElem (by simp [codesTo]) fun t h1 h2 => ?_
  simp only [codesTo, List.getElem_map, List.getElem_range]
  by_cases ht : t = s
  · rw [if_neg (by omega), if_pos (by omega), ht, e]
  · by_cases h : t < s
    · rw [if_pos h, if_pos (by omega)]
    · rw [if_neg h, if_neg (by omega)]
end Go.Proofs.YthpbckignppaiaaGreatDoor.Can

namespace Go.Proofs.YthpbckignppaiaaGreatDoor
open Go.RowKit Len Can
def Can.cntV (f : Nat → Nat) : Array Value := ((List.range 16).map fun k => Value.int .i64 ((f k : Nat) : Int)).toArray
theorem Can.cntV_size (f : Nat → Nat) : (cntV f).size = 16 := by simp [cntV]
theorem Can.cntV_at (f : Nat → Nat) {k : Nat} (hk : k < 16) : (cntV f)[k]? = some (.int .i64 ((f k : Nat) : Int)) := by simp [cntV, hk]
theorem Can.cntV_one (f : Nat → Nat) : (cntV f).all (·.oneCell') = true := by
  simp [cntV]
  intros
  rfl
theorem cnt_info : (Tryz.prog.info? 151).map (·.size) = some 16 := by kernel_rfl
set_option maxHeartbeats 2000000 in
set_option maxRecDepth 100000 in
theorem cRight_any (f : Nat → Nat) (hf : ∀ k, f k ≤ 300) (w : World) : Calls Tryz.prog 95 #[.agg (cntV f)] w fun e w' => e = .returned (.bool (rightF f)) ∧ Ext w w' := by
  have hE1 := extNew w (.cells (cntV f) 151)
  have hW1 := Whole.new w 151 (cntV f)
  have HA := hide (show ∀ k, k < 16 → (cntV f)[k]? = some (.int .i64 ((f k : Nat) : Int)) from fun k hk => cntV_at f hk)
  have HF := hide hf
  have HW0 := hide (show wordsF f 0 = 0 from rfl)
  have HG0 := hide (show weightF f 0 = 0 from rfl)
  have HWS := hide (show ∀ j, wordsF f (j + 1) = wordsF f j + f (j + 1) from fun _ => rfl)
  have HGS := hide (show ∀ j, weightF f (j + 1) = weightF f j + f (j + 1) * 2 ^ (15 - (j + 1)) from fun _ => rfl)
  have HWL := hide (wordsF_le hf)
  have HGL := hide (weightF_le hf)
  have HR := hide (show ∀ r : Prop, ((wordsF f 15 = 0 ∨ wordsF f 15 = 1 ∧ f 1 = 1 ∨ weightF f 15 = 32768) ↔ r) → (r → rightF f = true) ∧ (¬ r → rightF f = false) from fun r hr => ⟨fun h => decide_eq_true (hr.2 h), fun h => decide_eq_false fun h2 => h (hr.1 h2)⟩)
  clear hf
  generalize cntV f = cs at *
  generalize rightF f = res at *
  go_enter Tryz.func95, Tryz.ntmps95
  go_wp2
  go_loopw [5, 3, 4] (fun x a b wr => ∃ j u v : Nat, j ≤ 15 ∧ x = .int .i64 ((j + 1 : Nat) : Int) ∧ a = .int .i64 (u : Int) ∧ b = .int .i64 (v : Int) ∧ u = wordsF f j ∧ v = weightF f j ∧ Whole wr w.heap.size 151 cs ∧ Ext w wr) (fun x _ _ _ => 17 - (intOf x).toNat)
  case atStart => exact ⟨0, 0, 0, by omega, rfl, rfl, rfl, HW0.out.symm, HG0.out.symm, hW1, hE1⟩
  case round =>
    obtain ⟨j, u, v, hj, rfl, rfl, rfl, hu, hv, hW, hE⟩ := hrel
    have hub := HWL.out j
    have hvb := HGL.out j
    rw [← hu] at hub
    rw [← hv] at hvb
    by_cases hlt : j < 15
    · have hjI : ((j + 1 : Nat) : Int) ≤ 15 := by omega
      have hc := hW.at (j + 1) (HA.out (j + 1) (by omega))
      have hyl := HF.out (j + 1)
      have HU := HWS.out j
      have HV := HGS.out j
      rw [← hu] at HU
      rw [← hv] at HV
      generalize f (j + 1) = y at *
      have hp : 2 ^ (15 - (j + 1)) ≤ 32768 := Nat.le_trans (Nat.pow_le_pow_right (by omega) (show 15 - (j + 1) ≤ 15 by omega)) (by decide)
      have hyp := Nat.mul_le_mul hyl hp
      have HUh := hide HU
      have HVh := hide HV
      clear HU HV hu hv
      go_wp2
      have hw : wrap64 ((v : Int) + wrap64 ((y : Int) * 2 ^ (14 - j))) = ((v + y * 2 ^ (15 - (j + 1)) : Nat) : Int) := by
        have e : (y : Int) * 2 ^ (14 - j) = ((y * 2 ^ (15 - (j + 1)) : Nat) : Int) := by rw [Int.natCast_mul, Int.natCast_pow, show 15 - (j + 1) = 14 - j by omega]; rfl
        rw [e]
        generalize y * 2 ^ (15 - (j + 1)) = z at *
        unfold wrap64
        omega
      rw [hw]
      go_roundw
      case rel => exact ⟨j + 1, u + y, v + y * 2 ^ (15 - (j + 1)), by omega, by go_num, by go_num, rfl, HUh.out.symm, HVh.out.symm, hW, hE⟩
      case measure => simp [intOf]; omega
    · obtain rfl : j = 15 := by omega
      have hjI : ¬ ((15 + 1 : Nat) : Int) ≤ 15 := by omega
      have HRu := hide (HR.out (u = 0 ∨ u = 1 ∧ f 1 = 1 ∨ v = 32768) (by rw [hu, hv]))
      have hc := hW.at 1 (HA.out 1 (by omega))
      clear hu hv
      generalize f 1 = y at *
      by_cases h0 : u = 0
      · have HK := hide (HRu.out.1 (.inl h0))
        clear HRu
        subst h0
        go_wp2
        go_ret
        exact ⟨ret_bool HK.out.symm, hE⟩
      · have h0b : ((u : Int) == 0) = false := by rw [beq_eq_false_iff_ne]; omega
        by_cases hv : v = 32768
        · have HK := hide (HRu.out.1 (.inr (.inr hv)))
          clear HRu
          subst hv
          by_cases h1 : u = 1
          · subst h1
            by_cases hy : y = 1
            · subst hy
              go_wp2
              go_ret
              exact ⟨ret_bool HK.out.symm, hE⟩
            · have hyb : ((y : Int) == 1) = false := by rw [beq_eq_false_iff_ne]; omega
              go_wp2
              go_ret
              exact ⟨ret_bool HK.out.symm, hE⟩
          · have h1b : ((u : Int) == 1) = false := by rw [beq_eq_false_iff_ne]; omega
            go_wp2
            go_ret
            exact ⟨ret_bool HK.out.symm, hE⟩
        · have hvb2 : ((v : Int) == 32768) = false := by rw [beq_eq_false_iff_ne]; omega
          by_cases h1 : u = 1
          · by_cases hy : y = 1
            · have HK := hide (HRu.out.1 (.inr (.inl ⟨h1, hy⟩)))
              clear HRu
              subst h1
              subst hy
              go_wp2
              go_ret
              exact ⟨ret_bool HK.out.symm, hE⟩
            · have hyb : ((y : Int) == 1) = false := by rw [beq_eq_false_iff_ne]; omega
              have HK := hide (HRu.out.2 (by omega))
              clear HRu
              subst h1
              go_wp2
              go_ret
              exact ⟨ret_bool HK.out.symm, hE⟩
          · have h1b : ((u : Int) == 1) = false := by rw [beq_eq_false_iff_ne]; omega
            have HK := hide (HRu.out.2 (by omega))
            clear HRu
            go_wp2
            go_ret
            exact ⟨ret_bool HK.out.symm, hE⟩
def Can.h16A (f : Nat → Nat) : Array Value := ((List.range 16).map fun k => h16V (f k)).toArray
theorem Can.h16A_size (f : Nat → Nat) : (h16A f).size = 16 := by simp [h16A]
theorem Can.h16A_at (f : Nat → Nat) {k : Nat} (hk : k < 16) : (h16A f)[k]? = some (.int .u16 ((f k : Nat) : Int)) := by simp [h16A, hk, h16V]
theorem Can.h16A_one (f : Nat → Nat) : (h16A f).all (·.oneCell') = true := by
  simp [h16A, h16V]
  intros
  rfl
theorem Can.h16A_set (f g : Nat → Nat) (k x : Nat) (h : ∀ j, j < 16 → g j = if j = k then x else f j) : (h16A f).setIfInBounds k (.int .u16 (x : Int)) = h16A g := by
  apply Array.ext_getElem?
  intro i
  rcases Nat.lt_or_ge i 16 with hi | hi
  · rw [h16A_at g hi, h i hi]
    by_cases e : k = i
    · subst e
      rw [Array.getElem?_setIfInBounds_self_of_lt (by rw [h16A_size]; exact hi), if_pos rfl]
    · rw [Array.getElem?_setIfInBounds_ne e, h16A_at f hi, if_neg (by omega)]
  · rw [Array.getElem?_eq_none (by rw [Array.size_setIfInBounds, h16A_size]; exact hi), Array.getElem?_eq_none (by rw [h16A_size]; exact hi)]
theorem f16_info : (Tryz.prog.info? 160).map (·.size) = some 16 := by kernel_rfl
def Can.fstTo (l : List UInt8) (n k : Nat) : Nat := if k < n then fst l k else 0
theorem Can.fstTo_one (l : List UInt8) : h16A (fstTo l 1) = #[.int .u16 0, .int .u16 0, .int .u16 0, .int .u16 0, .int .u16 0, .int .u16 0, .int .u16 0, .int .u16 0, .int .u16 0, .int .u16 0, .int .u16 0, .int .u16 0, .int .u16 0, .int .u16 0, .int .u16 0, .int .u16 0] := rfl
theorem Can.fstTo_all (l : List UInt8) : h16A (fstTo l 16) = h16A (fst l) := by
  unfold h16A
  congr 1
theorem Can.fstTo_step (l : List UInt8) {k : Nat} : (h16A (fstTo l k)).setIfInBounds k (.int .u16 (fst l k : Nat)) = h16A (fstTo l (k + 1)) := h16A_set _ _ _ _ fun j _ => by
  unfold fstTo
  by_cases h : j = k
  · rw [if_pos h, if_pos (by omega), h]
  · rw [if_neg h]
    by_cases h2 : j < k
    · rw [if_pos h2, if_pos (by omega)]
    · rw [if_neg h2, if_neg (by omega)]
set_option maxHeartbeats 2000000 in
set_option maxRecDepth 100000 in
theorem cFirsts_any (l : List UInt8) (hr : right l = true) (w : World) : Calls Tryz.prog 96 #[.agg (cntV (cnt l l.length))] w fun e w' => e = .returned (.agg (h16A (fst l))) ∧ Ext w w' := by
  have hE1 := extNew w (.cells (cntV (cnt l l.length)) 151)
  have hW1 := Whole.new w 151 (cntV (cnt l l.length))
  have HA := hide (show ∀ k, k < 16 → (cntV (cnt l l.length))[k]? = some (.int .i64 ((cnt l l.length k : Nat) : Int)) from fun k hk => cntV_at _ hk)
  have HRoom := hide (show ∀ k, 1 ≤ k → fst l k + cnt l l.length k ≤ 32768 from fun k hk => fst_room hr hk _ (Nat.le_refl _))
  have HNext := hide (show ∀ k, 1 ≤ k → k < 15 → fst l (k + 1) = (fst l k + cnt l l.length k) * 2 from fun k hk h15 => fst_next l hk h15)
  have H1 := hide (fst_one l)
  have HZ := hide (fstTo_one l)
  have HS := hide (show ∀ k, (h16A (fstTo l k)).setIfInBounds k (.int .u16 (fst l k : Nat)) = h16A (fstTo l (k + 1)) from fun k => fstTo_step l)
  have HAll := hide (fstTo_all l)
  have HSz := hide (show ∀ k, (h16A (fstTo l k)).size = 16 from fun k => h16A_size _)
  have HSzA := hide (h16A_size (fst l))
  have HOne := hide (h16A_one (fst l))
  clear hr
  generalize cntV (cnt l l.length) = cs at *
  generalize cnt l l.length = f at *
  have hE2 := (hE1.alloc (.cells (h16A (fstTo l 1)) 160)).alloc (.cells (h16A (fstTo l 1)) 160)
  have hW2 := (hW1.alloc (.cells (h16A (fstTo l 1)) 160)).alloc (.cells (h16A (fstTo l 1)) 160)
  have hR2 := (Whole.new (w.alloc (.cells cs 151)) 160 (h16A (fstTo l 1))).alloc (.cells (h16A (fstTo l 1)) 160)
  have hF2 := Whole.new ((w.alloc (.cells cs 151)).alloc (.cells (h16A (fstTo l 1)) 160)) 160 (h16A (fstTo l 1))
  simp only [World.size_alloc] at hR2 hF2
  go_enter Tryz.func96, Tryz.ntmps96
  go_wp2
  rw [← HZ.out]
  obtain ⟨Z, hZ⟩ : ∃ Z, Z = h16A (fstTo l 1) := ⟨_, rfl⟩
  have HZs := hide (show Z.size = 16 by rw [hZ]; exact HSz.out 1)
  rw [← hZ] at hR2
  have HZe := hide hZ
  clear hZ
  go_loopw [5, 4] (fun x a wr => ∃ j s : Nat, j ≤ 15 ∧ x = .int .i64 ((j + 1 : Nat) : Int) ∧ a = .int .i64 (s : Int) ∧ (j < 15 → fst l (j + 1) = s * 2) ∧ s ≤ 32768 ∧ Whole wr w.heap.size 151 cs ∧ Whole wr (w.heap.size + 1) 160 Z ∧ Whole wr (w.heap.size + 1 + 1) 160 (h16A (fstTo l (j + 1))) ∧ Ext w wr) (fun x _ _ => 17 - (intOf x).toNat)
  case atStart => exact ⟨0, 0, by omega, rfl, rfl, fun _ => H1.out, by omega, hW2, by rw [HZe.out] at hR2 ⊢; exact hR2, hF2, hE2⟩
  case round =>
    clear hE1 hW1 hE2 hW2 hR2 hF2
    obtain ⟨j, s, hj, rfl, rfl, hs, hsb, hW, hR, hF, hE⟩ := hrel
    by_cases hlt : j < 15
    · have hjI : ((j + 1 : Nat) : Int) ≤ 15 := by omega
      have hcs := HA.out (j + 1) (by omega)
      have hS := HS.out (j + 1)
      rw [hs hlt] at hS
      have hrm := HRoom.out (j + 1) (by omega)
      rw [hs hlt] at hrm
      have hnx := HNext.out (j + 1) (by omega)
      rw [hs hlt] at hnx
      have hsz := HSz.out (j + 1)
      generalize f (j + 1) = y at *
      have HSh := hide hS
      have HNx := hide hnx
      clear hs hS hnx
      have hu16 : IntKind.u16.wrap ((s : Int) * 2) = ((s * 2 : Nat) : Int) := by simp [IntKind.wrap, IntKind.bits, IntKind.signed]; omega
      have hb1 : (Tryz.prog.info? 93).map (·.size) = some 1 := by kernel_rfl
      have hszl : j + 1 < (h16A (fstTo l (j + 1))).size := by omega
      have HSzl := hide hszl
      have HCs := hide hcs
      clear hsz hszl hcs
      generalize h16A (fstTo l (j + 1)) = V at *
      generalize hV2 : h16A (fstTo l (j + 1 + 1)) = V2 at *
      have HV2 := hide hV2
      clear hV2
      go_wp2_with (refine wpList_storeC rfl 93 (.tmp 15) (.tmp 14) rfl _ rfl rfl hF HSzl.out hb1 rfl rfl HSh.out ?_; intro w3 hF3 hG3; have hW3 := hW.grown hG3 (by omega); have hc3 := hW3.at (j + 1) HCs.out)
      go_roundw
      case rel => exact ⟨j + 1, s * 2 + y, by omega, by go_num, by go_num, HNx.out, hrm, hW3, hR.grown hG3 (by omega), by rw [HV2.out]; exact hF3, Below.grown hE hG3 hE.le (fun k hk => by cases hk; omega)⟩
      case measure => simp [intOf]; omega
    · obtain rfl : j = 15 := by omega
      have hjI : ¬ ((15 + 1 : Nat) : Int) ≤ 15 := by omega
      rw [show 15 + 1 = 16 from rfl, HAll.out] at hF
      have hsz := HSzA.out
      have hinf : (Tryz.prog.info? 160).map (·.size) = some (h16A (fst l)).size := by rw [hsz]; exact f16_info
      have hss : (h16A (fst l)).size = Z.size := by rw [hsz, HZs.out]
      have hone := HOne.out
      clear hs hW hsz
      obtain ⟨V, hV⟩ : ∃ V, V = h16A (fst l) := ⟨_, rfl⟩
      rw [← hV] at hF hinf hss hone
      have HVV := hide hV
      clear hV
      go_wp2_with (first
        | (refine wpList_load_row rfl 160 (.tmp 3) rfl _ rfl _ _ _ _ hF Tryz.underlying160 rfl hinf ?_)
        | (refine wpList_storeW rfl 160 (.tmp 2) (.tmp 21) rfl rfl rfl hR hss hinf hone ?_; intro w5 hW5 hG5 _))
      refine bodyPost_ret (results_cell_row rfl _ _ _ _ _ _ _ rfl hW5 Tryz.underlying160 rfl hinf) rfl ?_
      exact ⟨by rw [HVV.out], Below.grown hE hG5 hE.le (fun k hk => by cases hk; omega)⟩
theorem Can.cntV_zero : cntV (fun _ => 0) = #[.int .i64 0, .int .i64 0, .int .i64 0, .int .i64 0, .int .i64 0, .int .i64 0, .int .i64 0, .int .i64 0, .int .i64 0, .int .i64 0, .int .i64 0, .int .i64 0, .int .i64 0, .int .i64 0, .int .i64 0, .int .i64 0] := rfl
theorem Can.cntV_set (f g : Nat → Nat) (k x : Nat) (h : ∀ j, j < 16 → g j = if j = k then x else f j) : (cntV f).setIfInBounds k (.int .i64 (x : Int)) = cntV g := by
  apply Array.ext_getElem?
  intro i
  rcases Nat.lt_or_ge i 16 with hi | hi
  · rw [cntV_at g hi, h i hi]
    by_cases e : k = i
    · subst e
      rw [Array.getElem?_setIfInBounds_self_of_lt (by rw [cntV_size]; exact hi), if_pos rfl]
    · rw [Array.getElem?_setIfInBounds_ne e, cntV_at f hi, if_neg (by omega)]
  · rw [Array.getElem?_eq_none (by rw [Array.size_setIfInBounds, cntV_size]; exact hi), Array.getElem?_eq_none (by rw [cntV_size]; exact hi)]
end Go.Proofs.YthpbckignppaiaaGreatDoor
namespace Go.Proofs.YthpbckignppaiaaGreatDoor
open Go.RowKit Len Can
def Can.outF (l : List UInt8) : Nat → Nat := if right l then cnt l l.length else fun _ => 0
def Counted (w : World) (l : List UInt8) (e : Ending) (w' : World) : Prop := e = .returned (.tuple #[.agg (cntV (outF l)), .int .i64 (checkE l)]) ∧ Ext w w'
theorem Can.cnt_step (l : List UInt8) (i : Nat) : (cntV (cnt l i)).setIfInBounds (lenAt l i) (.int .i64 ((cnt l i (lenAt l i) + 1 : Nat) : Int)) = cntV (cnt l (i + 1)) := cntV_set _ _ _ _ fun j _ => by
  rw [cnt_succ]
  by_cases h : j = lenAt l i
  · rw [if_pos h, if_pos h.symm, h]
  · rw [if_neg h, if_neg (fun e => h e.symm), Nat.add_zero]
theorem Can.cnt_none (l : List UInt8) : cntV (cnt l 0) = cntV fun _ => 0 := rfl
set_option maxHeartbeats 2000000 in
set_option maxRecDepth 100000 in
theorem countOut_any (A : Option Addr) (n c : Nat) (l : List UInt8) (w : World) (h : Bytes w w.heap.size A n l) : Calls Tryz.prog 89 #[.slice A n c] w (Counted w l) := by
  have hl := h.1
  subst hl
  have hR1 := Whole.new w 151 (cntV fun _ => 0)
  have hE1 := extNew w (.cells (cntV fun _ => 0) 151)
  have HNo := hide (show right l = false → outF l = fun _ => 0 from fun h => by unfold outF; rw [h]; rfl)
  have HNo7 := hide (show right l = false → checkE l = 7 from check_wrong)
  have hinf : (Tryz.prog.info? 151).map (·.size) = some (cntV fun _ => 0).size := by rw [cntV_size]; exact cnt_info
  by_cases hbig : (300 : Int) < (l.length : Int)
  · have HN := hide (HNo.out (wrong_long (by omega)))
    have H7 := hide (HNo7.out (wrong_long (by omega)))
    go_enter Tryz.func89, Tryz.ntmps89
    go_wp2
    refine bodyPost_ret (results_row2 rfl _ rfl rfl (run_loadVar_row _ _ _ _ _ _ _ hR1 Tryz.underlying151 rfl hinf)) rfl ?_
    exact ⟨by rw [HN.out, H7.out]; rfl, hE1⟩
  · have hE2 := hE1.alloc (.cells (cntV fun _ => 0) 151)
    have hR2 := hR1.alloc (.cells (cntV fun _ => 0) 151)
    have hM2 := Whole.new (w.alloc (.cells (cntV fun _ => 0) 151)) 151 (cntV fun _ => 0)
    simp only [World.size_alloc] at hM2
    have HS := hide (cnt_step l)
    have H0 := hide (cnt_none l)
    have HZ := hide cntV_zero
    have HLe := hide (show ∀ i k, cnt l i k ≤ i from fun i k => cnt_le l k i)
    have HRt := hide (show (∀ i, i < l.length → lenAt l i ≤ 15) → rightF (cnt l l.length) = right l from right_of_counts (by omega))
    have HYes := hide (show right l = true → outF l = cnt l l.length from fun h => by unfold outF; rw [h]; rfl)
    have HYes0 := hide (show right l = true → checkE l = 0 from check_right)
    have HWr := hide (show ∀ i, i < l.length → 15 < lenAt l i → right l = false from fun i hi h => wrong_high hi h)
    have HSz := hide (show ∀ f, (cntV f).size = 16 from cntV_size)
    have HOne := hide (show ∀ f, (cntV f).all (·.oneCell') = true from cntV_one)
    have HAt := hide (show ∀ f k, k < 16 → (cntV f)[k]? = some (.int .i64 ((f k : Nat) : Int)) from fun f k h => cntV_at f h)
    go_enter Tryz.func89, Tryz.ntmps89
    go_wp2
    rw [← HZ.out]
    go_loopw [13] (fun x wr => ∃ i : Nat, i ≤ l.length ∧ x = .int .i64 (i : Int) ∧ (∀ q, q < i → lenAt l q ≤ 15) ∧ Whole wr w.heap.size 151 (cntV fun _ => 0) ∧ Whole wr (w.heap.size + 1) 151 (cntV (cnt l i)) ∧ Ext w wr) (fun x _ => l.length - (intOf x).toNat)
    case atStart => exact ⟨0, by omega, rfl, fun q hq => absurd hq (by omega), hR2, by rw [H0.out]; exact hM2, hE2⟩
    case round =>
      clear hE1 hR1 hE2 hR2 hM2
      obtain ⟨i, hi, rfl, hall, hR, hM, hE⟩ := hrel
      have HAll := hide hall
      clear hall
      by_cases hlt : i < l.length
      · rcases (hE.bytes h).2 with h0 | ⟨b, o, rfl, hB, hc⟩
        · omega
        have hk := hc i hlt
        have hyl := UInt8.toNat_lt (l.getD i 0)
        have hS := HS.out i
        have hW := HWr.out i hlt
        obtain ⟨y, hy⟩ : ∃ y, y = lenAt l i := ⟨_, rfl⟩
        have hk2 : wr.cell? ⟨b, o + i, none⟩ = some (.int .u8 (y : Int)) := by rw [hy]; exact hk
        have hyl2 : y < 256 := by rw [hy]; exact hyl
        rw [← hy] at hS hW
        have HY := hide hy
        have hil : (i : Int) < (l.length : Int) := by omega
        clear hc hy hk hyl
        by_cases h15 : (15 : Int) < (y : Int)
        · have HN := hide (HNo.out (hW (by omega)))
          have H7 := hide (HNo7.out (hW (by omega)))
          have hone := HOne.out fun _ => 0
          clear hS hW
          go_wp2_with (refine wpList_storeW rfl 151 (.tmp 2) (.tmp 19) rfl rfl (congrArg Value.agg HZ.out.symm) hR rfl hinf hone ?_; intro w5 hW5 hG5 _)
          refine bodyPost_ret (results_row2 rfl _ rfl rfl (run_loadVar_row _ _ _ _ _ _ _ hW5 Tryz.underlying151 rfl hinf)) rfl ?_
          exact ⟨by rw [HN.out, H7.out]; rfl, Below.grown hE hG5 hE.le (fun k hk => by cases hk; omega)⟩
        · have HS2 := hide hS
          have hcy := hM.at y (HAt.out _ y (by omega))
          have hle := HLe.out i y
          have hb1 : (Tryz.prog.info? 3).map (·.size) = some 1 := by kernel_rfl
          have hys : y < (cntV (cnt l i)).size := by rw [HSz.out]; omega
          have HYs := hide hys
          clear hS hW hys
          obtain ⟨V, hV⟩ : ∃ V, V = cntV (cnt l i) := ⟨_, rfl⟩
          rw [← hV] at hM HYs HS2
          obtain ⟨V2, hV2⟩ : ∃ V2, V2 = cntV (cnt l (i + 1)) := ⟨_, rfl⟩
          rw [← hV2] at HS2
          have HV2 := hide hV2
          clear hV hV2
          generalize cnt l i y = m at *
          go_wp2_with (refine wpList_storeC rfl 3 (.tmp 24) (.tmp 23) rfl _ rfl rfl hM HYs.out hb1 rfl rfl HS2.out ?_; intro w3 hM3 hG3)
          go_roundw
          case rel => exact ⟨i + 1, by omega, by go_num, fun q hq => (by
            by_cases hqi : q = i
            · rw [hqi, ← HY.out]; omega
            · exact HAll.out q (by omega)), hR.grown hG3 (by omega), by rw [← HV2.out]; exact hM3, Below.grown hE hG3 hE.le (fun k hk => by cases hk; omega)⟩
          case measure => simp [intOf]; omega
      · obtain rfl : l.length = i := by omega
        have hrt := HRt.out HAll.out
        have C := fun W => cRight_any (cnt l l.length) (fun k => Nat.le_trans (HLe.out _ k) (by omega)) W
        rw [hrt] at C
        have hsz := HSz.out (cnt l l.length)
        have hinf2 : (Tryz.prog.info? 151).map (·.size) = some (cntV (cnt l l.length)).size := by rw [hsz]; exact cnt_info
        have hss : (cntV (cnt l l.length)).size = (cntV fun _ => 0).size := by rw [hsz, HSz.out]
        have hone := HOne.out (cnt l l.length)
        have hone0 := HOne.out fun _ => 0
        clear hrt hsz
        generalize right l = r at *
        obtain ⟨V, hV⟩ : ∃ V, V = cntV (cnt l l.length) := ⟨_, rfl⟩
        rw [← hV] at C hM hinf2 hss hone
        have HV := hide hV
        clear hV
        go_wp2_with (refine wpList_load_row rfl 151 (.tmp 4) rfl _ rfl _ _ _ _ hM Tryz.underlying151 rfl hinf2 ?_)
        refine (C _).mono ?_
        rintro e w4 ⟨rfl, hE4⟩
        have hM4 := hM.ext hE4
        have hR4 := hR.ext hE4
        have hF4 := hE.trans hE4
        clear hM hR hE hE4 C
        cases r with
        | false =>
          have HN := hide (HNo.out rfl)
          have H7 := hide (HNo7.out rfl)
          go_wp2_with (refine wpList_storeW rfl 151 (.tmp 2) (.tmp 29) rfl rfl (congrArg Value.agg HZ.out.symm) hR4 rfl hinf hone0 ?_; intro w5 hW5 hG5 _)
          refine bodyPost_ret (results_row2 rfl _ rfl rfl (run_loadVar_row _ _ _ _ _ _ _ hW5 Tryz.underlying151 rfl hinf)) rfl ?_
          exact ⟨by rw [HN.out, H7.out]; rfl, Below.grown hF4 hG5 hF4.le (fun k hk => by cases hk; omega)⟩
        | true =>
          have HN := hide (HYes.out rfl)
          have H0' := hide (HYes0.out rfl)
          go_wp2_with (first
            | (refine wpList_load_row rfl 151 (.tmp 4) rfl _ rfl _ _ _ _ hM4 Tryz.underlying151 rfl hinf2 ?_)
            | (refine wpList_storeW rfl 151 (.tmp 2) (.tmp 30) rfl rfl rfl hR4 hss hinf2 hone ?_; intro w5 hW5 hG5 _))
          refine bodyPost_ret (results_row2 rfl _ rfl rfl (run_loadVar_row _ _ _ _ _ _ _ hW5 Tryz.underlying151 rfl hinf2)) rfl ?_
          exact ⟨by rw [HN.out, H0'.out, HV.out]; rfl, Below.grown hF4 hG5 hF4.le (fun k hk => by cases hk; omega)⟩
set_option maxHeartbeats 2000000 in
set_option maxRecDepth 100000 in
theorem check_any (A : Option Addr) (n c : Nat) (l : List UInt8) (w : World) (h : Bytes w w.heap.size A n l) : Calls Tryz.prog 75 #[.slice A n c] w fun e w' => e = .returned (.int .i64 (checkE l)) ∧ Ext w w' := by
  have C := countOut_any A n c l w h
  unfold Counted at C
  have hsz := cntV_size (outF l)
  have hone := cntV_one (outF l)
  have hinf : (Tryz.prog.info? 151).map (·.size) = some (cntV (outF l)).size := by rw [hsz]; exact cnt_info
  have hss : (cntV (outF l)).size = (cntV fun _ => 0).size := by rw [hsz, cntV_size]
  have HZ := hide cntV_zero
  generalize cntV (outF l) = V at *
  generalize checkE l = ck at *
  go_enter Tryz.func75, Tryz.ntmps75
  go_wp2_with fail
  refine C.mono ?_
  rintro e w2 ⟨rfl, hE⟩
  have hM := Whole.new w2 151 (cntV fun _ => 0)
  have hE2 := hE.alloc (.cells (cntV fun _ => 0) 151)
  rw [HZ.out] at hM hE2
  rw [HZ.out] at hss
  go_wp2_with (refine wpList_storeW rfl 151 (.tmp 3) (.tmp 8) rfl rfl rfl hM hss hinf hone ?_; intro w5 hW5 hG5 _)
  go_ret
  exact ⟨rfl, Below.grown hE2 hG5 hE2.le (fun k hk => by cases hk; exact hE.le)⟩
end Go.Proofs.YthpbckignppaiaaGreatDoor

namespace Go.Proofs.YthpbckignppaiaaGreatDoor
open Go.RowKit Len Can
def Can.itemV (x m : Nat) : Array Value := #[.int .u8 (x : Int), .int .i64 (m : Int)]
theorem canItem_info : (Tryz.prog.info? 132).map (·.size) = some 2 := by kernel_rfl
theorem Can.itemV_one (x m : Nat) : (itemV x m).all (·.oneCell') = true := by
  simp [itemV]
  exact ⟨rfl, rfl⟩
set_option maxHeartbeats 1000000 in
theorem isRow_any (x m : Nat) (hx : x < 256) (w : World) : Calls Tryz.prog 90 #[.agg (itemV x m)] w fun e w' => e = .returned (.bool (decide (x = 0))) ∧ Ext w w' := by
  have hE1 := extNew w (.cells (itemV x m) 132)
  have hW1 := Whole.new w 132 (itemV x m)
  have c0 := hW1.at 0 (u := .int .u8 (x : Int)) rfl
  have HG := hide (show decide (x = 0) = ((x : Int) == 0) by
    by_cases h : x = 0
    · subst h; rfl
    · rw [decide_eq_false h]
      symm
      rw [beq_eq_false_iff_ne]
      omega)
  generalize decide (x = 0) = r at *
  generalize itemV x m = V at *
  go_enter Tryz.func90, Tryz.ntmps90
  go_wp2
  go_ret
  exact ⟨ret_bool HG.out.symm, hE1⟩
def Can.headM (x : UInt8) (r : List UInt8) : Nat := if x = 0 then zrun 63 r + 1 else 1
set_option maxHeartbeats 1000000 in
set_option maxRecDepth 1000000 in
theorem itemOf_any (A : Option Addr) (n c : Nat) (x : UInt8) (r : List UInt8) (w : World) (hr : r.length ≤ 400) (h : Bytes w w.heap.size A n (x :: r)) : Calls Tryz.prog 76 #[.slice A n c] w fun e w' => e = .returned (.agg (itemV x.toNat (headM x r))) ∧ Ext w w' := by
  have hl := h.1
  subst hl
  have hE1 := extNew w (.cells #[.int .u8 0, .int .i64 0] 132)
  have hW1 := Whole.new w 132 #[.int .u8 0, .int .i64 0]
  rcases (hE1.bytes h).2 with h0 | ⟨b, o, rfl, hB, hc⟩
  · simp at h0
  have hc0 := hc 0 (by simp)
  rw [Nat.add_zero, List.getD_cons_zero] at hc0
  have hx8 := UInt8.toNat_lt x
  have hinf : (Tryz.prog.info? 132).map (·.size) = some (itemV x.toNat (headM x r)).size := canItem_info
  by_cases h0 : x = 0
  · subst h0
    have hz := zrun_le 63 r
    have HZ := hide (show ∀ i, i < zrun 63 r → r.getD i 0 = 0 from fun i hi => by
      have := congrArg (fun l => l[i]?) (zrun_zero 63 r)
      simp only [List.getElem?_take, if_pos hi, List.getElem?_replicate] at this
      rw [List.getD_eq_getElem?_getD, this]
      rfl)
    have HS := hide (show zrun 63 r < 63 → zrun 63 r < r.length → r.getD (zrun 63 r) 0 ≠ 0 from fun h1 h2 => zrun_stop 63 r h1 _ (by rw [List.head?_drop, List.getD_eq_getElem?_getD, List.getElem?_eq_getElem h2]; rfl))
    have HM := hide (show headM 0 r = zrun 63 r + 1 from if_pos rfl)
    generalize zrun 63 r = m at *
    have HC := hide (show ∀ i, i < r.length → (w.alloc (.cells #[.int .u8 0, .int .i64 0] 132)).cell? ⟨b, o + (i + 1), none⟩ = some (.int .u8 ((r.getD i 0).toNat : Int)) from fun i hi => hc (i + 1) (by simp; omega))
    have hmin : ∃ M : Int, (if (64 : Int) < ((r.length : Int) + 1) then 64 else (r.length : Int) + 1) = M ∧ M = (min (r.length + 1) 64 : Nat) := ⟨_, rfl, by split <;> omega⟩
    obtain ⟨M, hM, hM2⟩ := hmin
    have HMn := hide hM
    have HM2 := hide hM2
    clear hc h hM hM2
    change (w.alloc (.cells #[.int .u8 0, .int .i64 0] 132)).cell? ⟨b, o, none⟩ = some (.int .u8 0) at hc0
    clear hinf
    go_enter Tryz.func76, Tryz.ntmps76
    go_wp2_with fail
    go_loopw [3] (fun a wq => ∃ j : Nat, j ≤ m ∧ a = .int .i64 ((j + 1 : Nat) : Int) ∧ wq = w.alloc (.cells #[.int .u8 0, .int .i64 0] 132)) (fun a _ => 64 - (intOf a).toNat)
    case atStart => exact ⟨0, by omega, rfl, rfl⟩
    case round =>
      obtain ⟨j, hj, rfl, rfl⟩ := hrel
      have hM2 := HM2.out
      by_cases hjm : j < m
      · have h0j := HZ.out j hjm
        have hcj := HC.out j (by omega)
        rw [h0j] at hcj
        change (w.alloc (.cells #[.int .u8 0, .int .i64 0] 132)).cell? ⟨b, o + (j + 1), none⟩ = some (.int .u8 0) at hcj
        have hjM : ((j + 1 : Nat) : Int) < M := by omega
        have hjr : j + 1 < r.length + 1 := by omega
        clear h0j hM2
        go_wp2_with (refine wpList_min rfl (.tmp 14) (.const (.int .i64 64)) rfl rfl rfl HMn.out ?_)
        go_roundw
        case rel => exact ⟨j + 1, by omega, by go_num, trivial⟩
        case measure => simp [intOf]; omega
      · obtain rfl : j = m := by omega
        by_cases hjM : ((j + 1 : Nat) : Int) < M
        · have hne := HS.out (by omega) (by omega)
          have hcj := HC.out j (by omega)
          have hy8 := UInt8.toNat_lt (r.getD j 0)
          have hyne : (r.getD j 0).toNat ≠ 0 := fun e => hne (UInt8.toNat_inj.1 e)
          generalize (r.getD j 0).toNat = y at *
          have hyb : ((y : Int) == 0) = false := by rw [beq_eq_false_iff_ne]; omega
          have hjr : j + 1 < r.length + 1 := by omega
          clear hne hM2 hyne
          go_wp2_with (refine wpList_min rfl (.tmp 14) (.const (.int .i64 64)) rfl rfl rfl HMn.out ?_)
          refine bodyPost_ret (results_cell_row rfl _ _ _ _ _ _ _ rfl (Whole.new w _ _) Tryz.underlying132 rfl canItem_info) rfl ?_
          exact ⟨by rw [HM.out]; rfl, extNew w _⟩
        · clear hM2
          go_wp2_with (refine wpList_min rfl (.tmp 14) (.const (.int .i64 64)) rfl rfl rfl HMn.out ?_)
          refine bodyPost_ret (results_cell_row rfl _ _ _ _ _ _ _ rfl (Whole.new w _ _) Tryz.underlying132 rfl canItem_info) rfl ?_
          exact ⟨by rw [HM.out]; rfl, extNew w _⟩
  · have hx0 : (0 : Int) < (x.toNat : Int) := by
      have : x.toNat ≠ 0 := fun e => h0 (UInt8.toNat_inj.1 e)
      omega
    have HM := hide (show headM x r = 1 from if_neg h0)
    have hE5 := extNew w (.cells (itemV x.toNat 1) 132)
    have hW5 := Whole.new w 132 (itemV x.toNat 1)
    go_enter Tryz.func76, Tryz.ntmps76
    go_wp2
    refine bodyPost_ret (results_cell_row rfl _ _ _ _ _ _ _ rfl hW5 Tryz.underlying132 rfl canItem_info) rfl ?_
    exact ⟨by rw [HM.out], hE5⟩
def Can.itemB (x m : Nat) : List Bool := Bit.num x 4 ++ if x = 0 then Bit.num (m - 1) 6 else []
theorem Can.put4I {x : Nat} (h : x < 16) : Bit.putErr x 4 = 0 ∧ Bit.putBits x 4 = Bit.num x 4 := Bit.put_good (decide_eq_true ⟨by omega, by omega, h⟩)
theorem Can.put6I {x : Nat} (h : x < 64) : Bit.putErr x 6 = 0 ∧ Bit.putBits x 6 = Bit.num x 6 := Bit.put_good (decide_eq_true ⟨by omega, by omega, h⟩)
set_option maxHeartbeats 100000 in
set_option maxRecDepth 1000000 in
theorem itemWrite_any (x m : Nat) (hx : x < 16) (hm : x = 0 → 1 ≤ m ∧ m ≤ 64) {t : TypeId} {R : List Value} {w : World} {base g : Nat} {ob : Option Nat} {B : List Bool} (h : WrtX t R w base g ob B) (hfit : B.length ≤ 800000000) :
    Calls Tryz.prog 77 #[.agg (itemV x m), .pointer (some ⟨g, 0, none⟩)] w fun e w' => e = .returned (.tuple #[]) ∧ ∃ ob', WrtX t R w' base g ob' (B ++ itemB x m) ∧ NewOb w ob ob' ∧ Mod w w' g ob := by
  have hE1 := extNew w (.cells (itemV x m) 132)
  have hW1 := Whole.new w 132 (itemV x m)
  have c0 := hW1.at 0 (u := .int .u8 (x : Int)) rfl
  have CP := put_any (h.ext hE1) x 4 (by omega)
  rw [(put4I hx).1, (put4I hx).2] at CP
  have CR := fun W => isRow_any x m (by omega) W
  have HN := hide (Bit.num_length x 4)
  have HI := hide (show itemB x m = Bit.num x 4 ++ if x = 0 then Bit.num (m - 1) 6 else [] from rfl)
  have hgl := h.lt
  have hne := h.ne
  have hob := h.ob
  obtain ⟨V, hV⟩ : ∃ V, V = itemV x m := ⟨_, rfl⟩
  have HVs := hide (show V.size = 2 by rw [hV]; rfl)
  have HV1 := hide (show V[1]? = some (.int .i64 (m : Int)) by rw [hV]; rfl)
  rw [← hV] at hE1 hW1 c0 CP CR ⊢
  clear hV
  go_enter Tryz.func77, Tryz.ntmps77
  go_wp2_with fail
  refine CP.mono ?_
  rintro e w2 ⟨rfl, ob2, hR2, hO2, hM2⟩
  have hW2 := hM2.whole hW1 (by omega) (fun e => by have := (hob _ e).2; omega)
  have hMw : Mod w w2 g ob := (Mod.ofExt hE1).trans hM2 (.inl rfl)
  have hNw : NewOb w ob ob2 := (NewOb.same w ob).trans hE1.le hO2
  have hsz := hE1.le
  have hg2 : w.heap.size < w2.heap.size := hW2.lt
  clear hW1 c0 CP hE1 hO2 hM2
  have hinf : (Tryz.prog.info? 132).map (·.size) = some V.size := by rw [HVs.out]; exact canItem_info
  by_cases h0 : x = 0
  · rw [decide_eq_true h0] at CR
    have hm0 := hm h0
    have HI2 := hide (show itemB x m = Bit.num x 4 ++ Bit.num (m - 1) 6 by rw [HI.out, if_pos h0])
    go_wp2_with (refine wpList_load_row rfl 132 (.tmp 2) rfl _ rfl _ _ _ _ hW2 Tryz.underlying132 rfl hinf ?_)
    refine (CR _).mono ?_
    rintro e w3 ⟨rfl, hE3⟩
    have hW3 := hW2.ext hE3
    have c1 := hW3.at 1 HV1.out
    have CP := put_any (hR2.ext hE3) (m - 1) 6 (by rw [List.length_append, HN.out]; omega)
    rw [(put6I (x := m - 1) (by omega)).1, (put6I (x := m - 1) (by omega)).2] at CP
    have hm1 : (1 : Int) ≤ (m : Int) := by omega
    have hm64 : (m : Int) ≤ 64 := by omega
    have hcv : ((m - 1 : Nat) : Int) = (m : Int) - 1 := by omega
    rw [hcv] at CP
    have HCv := hide hcv
    clear hcv CR hm hm0
    go_wp2_with fail
    refine CP.mono ?_
    rintro e w4 ⟨rfl, ob4, hR4, hO4, hM4⟩
    have hE23 := Mod.ofExt (g := g) (ob := ob2) hE3
    have hMf := hMw.trans (hE23.trans hM4 (.inl rfl)) hNw
    have hNf := hNw.trans hMw.size ((NewOb.same w2 ob2).trans hE3.le hO4)
    go_wp2
    go_end0
    refine ⟨rfl, ob4, ?_, hNf, hMf⟩
    rw [HI2.out, ← List.append_assoc]
    exact hR4
  · rw [decide_eq_false h0] at CR
    have HI2 := hide (show itemB x m = Bit.num x 4 by rw [HI.out, if_neg h0, List.append_nil])
    go_wp2_with (refine wpList_load_row rfl 132 (.tmp 2) rfl _ rfl _ _ _ _ hW2 Tryz.underlying132 rfl hinf ?_)
    refine (CR _).mono ?_
    rintro e w3 ⟨rfl, hE3⟩
    clear CR
    go_wp2
    go_end0
    refine ⟨rfl, ob2, ?_, hNw, hMw.trans (Mod.ofExt (ob := ob2) hE3) hNw⟩
    rw [HI2.out]
    exact hR2.ext hE3
end Go.Proofs.YthpbckignppaiaaGreatDoor

namespace Go.Proofs.YthpbckignppaiaaGreatDoor
open Go.RowKit Len Can
theorem Can.head_le (x : UInt8) (r : List UInt8) : 1 ≤ headM x r ∧ headM x r ≤ r.length + 1 ∧ headM x r ≤ 64 := by
  have := zrun_le 63 r
  unfold headM
  split <;> omega
theorem Can.wbits_head (x : UInt8) (r : List UInt8) : wbits (x :: r) = itemB x.toNat (headM x r) ++ wbits ((x :: r).drop (headM x r)) := by
  by_cases h : x = 0
  · subst h
    have e : headM 0 r = zrun 63 r + 1 := if_pos rfl
    rw [wbits_zero, e, List.drop_succ_cons, Nat.add_comm]
    unfold itemB
    rw [show UInt8.toNat 0 = 0 from rfl, if_pos rfl, Nat.add_comm 1, Nat.add_sub_cancel, List.append_assoc]
  · have e : headM x r = 1 := if_neg h
    have hx : x.toNat ≠ 0 := fun e => h (UInt8.toNat_inj.1 e)
    rw [wbits_used r h, e]
    unfold itemB
    rw [if_neg hx, List.append_nil]
    rfl
def Can.sliceLen : Value → Nat
  | .slice _ n _ => n
  | _ => 0
attribute [local go_sem ↓] run_cut
set_option maxHeartbeats 1000000 in
set_option maxRecDepth 100000 in
theorem writeX_any {t : TypeId} {R : List Value} (l : List UInt8) (A : Option Addr) (n c : Nat) (W : World) (base g : Nat) (ob : Option Nat) (B : List Bool) (hn : n ≤ c) (hc : c ≤ maxLen) (hb : ∀ W', Mod W W' g ob → Bytes W' W'.heap.size A n l) (hW : WrtX t R W base g ob B) (hB : B.length ≤ 100000) :
    Calls Tryz.prog 61 #[.pointer (some ⟨g, 0, none⟩), .slice A n c] W (PutsX t R W base g ob (B ++ if right l then wbits l else []) (checkE l)) := by
  have hl := (hb W (Mod.refl _ _ _)).1
  subst hl
  have C := check_any A l.length c l W (hb W (Mod.refl _ _ _))
  have hne := hW.ne
  cases hr : right l with
  | false =>
    rw [check_wrong hr] at C ⊢
    go_enter Tryz.func61, Tryz.ntmps61
    go_wp2_with fail
    refine C.mono ?_
    rintro e w2 ⟨rfl, hE2⟩
    go_wp2
    go_ret
    refine ⟨rfl, ob, ?_, .inl rfl, Mod.ofExt hE2⟩
    have := hW.ext hE2
    simpa using this
  | true =>
    rw [check_right hr] at C ⊢
    obtain ⟨h300, h15, _⟩ := right_facts hr
    have HAll := hide (show ∀ x, x ∈ l → x.toNat ≤ 15 from fun x hx => by
      obtain ⟨i, hi, rfl⟩ := List.mem_iff_getElem.1 hx
      have := h15 i hi
      unfold lenAt at this
      rwa [List.getD_eq_getElem?_getD, List.getElem?_eq_getElem hi] at this)
    have hWL := wbits_len l
    rw [if_pos rfl]
    have hG : B ++ wbits l = B ++ wbits l := rfl
    obtain ⟨G, hGe⟩ : ∃ G, G = B ++ wbits l := ⟨_, rfl⟩
    rw [← hGe]
    have HG := hide hGe
    have hGl : G.length ≤ 200000 := by rw [hGe, List.length_append]; omega
    have hbase := hW.bound
    have hbg := hW.le
    have HOb := hide (show ∀ k, ob = some k → base ≤ k from fun k hk => (hW.ob k hk).1)
    have HW := hide hW
    have HB := hide hb
    clear hG hGe hr h15 hWL hb hW hB
    go_enter Tryz.func61, Tryz.ntmps61
    go_wp2_with fail
    refine C.mono ?_
    rintro e w2 ⟨rfl, hE2⟩
    clear C
    go_wp2_with fail
    go_loopw [1] (fun a wr => ∃ A' c' suf ob' B', a = .slice A' suf.length c' ∧ suf.length ≤ c' ∧ c' ≤ maxLen ∧ suf.length ≤ 300 ∧ (∀ x, x ∈ suf → x.toNat ≤ 15) ∧ (∀ W', Mod W W' g ob → Bytes W' W'.heap.size A' suf.length suf) ∧ WrtX t R wr base g ob' B' ∧ G = B' ++ wbits suf ∧ NewOb W ob ob' ∧ Mod W wr g ob) (fun a _ => sliceLen a)
    case atStart => exact ⟨A, c, l, ob, B, rfl, hn, hc, h300, HAll.out, HB.out, HW.out.ext hE2, HG.out, .inl rfl, Mod.ofExt hE2⟩
    case round =>
      clear HAll HB HW hE2 HG
      obtain ⟨A', c', suf, ob', B', rfl, hn', hc', hs3, hall, hb', hW', hG', hN, hM⟩ := hrel
      cases suf with
      | nil =>
        rw [wbits_nil, List.append_nil] at hG'
        have HG := hide hG'
        have hnl : ([] : List UInt8).length = 0 := rfl
        rw [hnl] at hb' ⊢
        clear hG' hall
        go_wp2
        go_ret
        refine ⟨rfl, ob', ?_, hN, hM⟩
        rw [HG.out]
        exact hW'
      | cons x r =>
        have hx15 := hall x (List.mem_cons_self ..)
        have hhd := head_le x r
        have hlr : (x :: r).length = r.length + 1 := rfl
        have HAll := hide (show ∀ y, y ∈ (x :: r).drop (headM x r) → y.toNat ≤ 15 from fun y hy => hall y (List.mem_of_mem_drop hy))
        have HG := hide hG'
        rw [wbits_head x r, ← List.append_assoc] at hG'
        have HG2 := hide hG'
        have hBl : B'.length ≤ 200000 := by
          have := congrArg List.length HG.out
          rw [List.length_append] at this
          omega
        have hbr := hb' wr hM
        have C1 := itemOf_any A' (x :: r).length c' x r wr (by omega) hbr
        have HDrop := hide (fun W' hM' => (hb' W' hM').drop (k := headM x r) (c := c') (by omega) hn')
        have hxr : (x :: r).length ≤ 301 := by omega
        have HX0 := hide (show x.toNat = 0 → 1 ≤ headM x r ∧ headM x r ≤ 64 from fun _ => ⟨hhd.1, hhd.2.2⟩)
        have HLd := hide (show ((x :: r).drop (headM x r)).length = (x :: r).length - headM x r from List.length_drop)
        have hm1 := hhd.1
        have hm2 : headM x r ≤ (x :: r).length := hhd.2.1
        have hpos : 0 < (x :: r).length := by omega
        clear hall hG' hhd hlr hbr hb' HG
        generalize headM x r = m at *
        obtain ⟨N, hNe⟩ : ∃ N, N = (x :: r).length := ⟨_, rfl⟩
        rw [← hNe] at hn' hs3 C1 hxr hm2 hpos HDrop HLd ⊢
        have HNe := hide hNe
        clear hNe
        generalize x.toNat = xv at *
        have hposI : (0 : Int) < (N : Int) := by omega
        go_wp2_with fail
        refine C1.mono ?_
        rintro e w3 ⟨rfl, hE3⟩
        clear C1
        have hM3 := Whole.new w3 132 (itemV 0 0)
        have hinf : (Tryz.prog.info? 132).map (·.size) = some (itemV xv m).size := canItem_info
        have hone := itemV_one xv m
        have hE4 := hE3.alloc (.cells (itemV 0 0) 132)
        have CW := fun (w : World) (base g : Nat) (ob : Option Nat) (B : List Bool) (h : WrtX t R w base g ob B) (hfit : B.length ≤ 800000000) => itemWrite_any xv m (by omega) HX0.out h hfit
        obtain ⟨V, hV⟩ : ∃ V, V = itemV xv m := ⟨_, rfl⟩
        have HV1 := hide (show V[1]? = some (.int .i64 (m : Int)) by rw [hV]; rfl)
        have hss : V.size = 2 := by rw [hV]; rfl
        rw [← hV] at hinf hone CW ⊢
        clear hV
        unfold itemV at hM3 hE4
        go_wp2_with (first
          | (refine wpList_storeW rfl 132 (.tmp 6) (.tmp 18) rfl rfl rfl hM3 hss hinf hone ?_; intro w5 hW5 hG5 hS5; clear hS5)
          | (refine wpList_load_row rfl 132 (.tmp 6) rfl _ rfl _ _ _ _ hW5 Tryz.underlying132 rfl hinf ?_))
        have hwl := hW'.lt
        have hwo := hW'.ob
        have hwn := hW'.ne
        have hE5 : Ext wr w5 := Below.grown hE4 hG5 hE4.le (fun k hk => by cases hk; exact hE3.le)
        have hW6 := hW'.ext hE5
        have hle3 := hE3.le
        clear hM3 hE4 hG5 hE3
        refine (CW w5 base g ob' B' hW6 (by omega)).mono ?_
        rintro e w6 ⟨rfl, ob6, hW7, hN7, hM7⟩
        have hV6 := hM7.whole hW5 (by omega) (fun e => by have := (hwo _ e).2; omega)
        have c1 := hV6.at 1 HV1.out
        have hMf := hM.trans ((Mod.ofExt (g := g) (ob := ob') hE5).trans hM7 (.inl rfl)) hN
        have hNf := hN.trans hM.size ((NewOb.same wr ob').trans hE5.le hN7)
        clear CW hW5 hW6 hM7 hN7 hE5 hV6 hW' hM hN
        have hmI0 : (0 : Int) ≤ (m : Int) := by omega
        have hmI1 : (m : Int) ≤ (N : Int) := by omega
        go_wp2
        go_roundw
        case rel => exact ⟨cutAt A' c' m, c' - m, (x :: r).drop m, ob6, _, by rw [HLd.out], by rw [HLd.out]; omega, by omega, by rw [HLd.out]; omega, HAll.out, by rw [HLd.out]; exact HDrop.out, hW7, HG2.out, hNf, hMf⟩
        case measure => simp only [sliceLen]; omega
end Go.Proofs.YthpbckignppaiaaGreatDoor

namespace Go.Proofs.YthpbckignppaiaaGreatDoor.Huf
open Len Can
def tot (l : List UInt8) (O : List Nat) : Nat := (O.map fun s => 2 ^ (15 - lenAt l s)).sum
def startOf (l : List UInt8) (s : Nat) : Nat := word l s * 2 ^ (15 - lenAt l s)
def starts (l : List UInt8) (O : List Nat) : List Nat := O.map (startOf l)
structure Ord (l : List UInt8) (k s : Nat) (O : List Nat) : Prop where
  acc : Can.acc l k s = tot l O
  all : ∀ t, t < l.length → done l k s t → t ∈ O
  at_ : ∀ i, i < O.length → O.getD i 0 < l.length ∧ lenAt l (O.getD i 0) ≠ 0 ∧ startOf l (O.getD i 0) = tot l (O.take i)
section
variable {l : List UInt8} {k s : Nat} {O : List Nat}
theorem tot_snoc (l : List UInt8) (O : List Nat) (s : Nat) : tot l (O ++ [s]) = tot l O + 2 ^ (15 - lenAt l s) := by simp [tot]
theorem starts_snoc (l : List UInt8) (O : List Nat) (s : Nat) : starts l (O ++ [s]) = starts l O ++ [startOf l s] := by simp [starts]
theorem starts_len (l : List UInt8) (O : List Nat) : (starts l O).length = O.length := by simp [starts]
theorem Ord.start : Ord l 1 0 [] where
  acc := by rw [acc_start]; rfl
  all := fun t _ h => by unfold done at h; omega
  at_ := fun i hi => absurd hi (by simp)
theorem Ord.turn (h : Ord l k l.length O) : Ord l (k + 1) 0 O where
  acc := by rw [acc_turn]; exact h.acc
  all := fun t ht hd => h.all t ht (by unfold done at *; omega)
  at_ := h.at_
theorem Ord.pass (h : Ord l k s O) (hk : 1 ≤ k) (hs : s < l.length) (hne : lenAt l s ≠ k) : Ord l k (s + 1) O where
  acc := by rw [acc_step l hk hs, if_neg hne]; exact h.acc
  all := fun t ht hd => h.all t ht (by
    unfold done at *
    refine ⟨hd.1, ?_⟩
    rcases hd.2 with e | e
    · exact .inl e
    · by_cases e2 : t = s
      · subst e2; omega
      · exact .inr ⟨e.1, by omega⟩)
  at_ := h.at_
theorem Ord.put (h : Ord l k s O) (hk : 1 ≤ k) (hs : s < l.length) (he : lenAt l s = k) : Ord l k (s + 1) (O ++ [s]) where
  acc := by rw [acc_step l hk hs, if_pos he, h.acc, tot_snoc, he]
  all := fun t ht hd => by
    rw [List.mem_append]
    by_cases e2 : t = s
    · exact .inr (by simp [e2])
    · exact .inl (h.all t ht (by unfold done at *; omega))
  at_ := fun i hi => by
    rw [List.length_append] at hi
    simp at hi
    by_cases hlt : i < O.length
    · have := h.at_ i hlt
      rw [List.take_append_of_le_length (by omega)]
      simp only [List.getD_eq_getElem?_getD, List.getElem?_append_left hlt] at *
      exact this
    · obtain rfl : i = O.length := by omega
      have e : (O ++ [s]).getD O.length 0 = s := by simp [List.getD_eq_getElem?_getD]
      rw [e, List.take_append_of_le_length (Nat.le_refl _), List.take_length]
      refine ⟨hs, by omega, ?_⟩
      unfold startOf
      rw [word_mul (by omega), he, h.acc]
theorem Ord.len_le (h : Ord l k s O) (hk : Can.acc l k s ≤ 32768) : ∀ n, n ≤ O.length → n ≤ tot l (O.take n)
  | 0, _ => Nat.zero_le _
  | n + 1, hn => by
    have ih := h.len_le hk n (by omega)
    have e : O.take (n + 1) = O.take n ++ [O.getD n 0] := by
      rw [List.take_succ_eq_append_getElem (by omega), List.getD_eq_getElem?_getD, List.getElem?_eq_getElem (by omega)]; rfl
    rw [e, tot_snoc]
    have : 0 < 2 ^ (15 - lenAt l (O.getD n 0)) := Nat.pow_pos (by omega)
    omega
theorem startOf_lt (hr : right l = true) (hs : s < l.length) (h0 : lenAt l s ≠ 0) : startOf l s + 2 ^ (15 - lenAt l s) ≤ 32768 := by
  unfold startOf
  have h1 := acc_le l (lenAt l s) (s + 1)
  rw [acc_step l (by omega) hs, if_pos rfl, ← word_mul h0] at h1
  have := (right_facts hr).2.2
  omega
theorem Ord.len_300 (h : Ord l k s O) (hr : right l = true) : O.length ≤ 32768 := by
  have h2 := acc_le l k s
  have h3 := (right_facts hr).2.2
  have h1 := h.len_le (by omega) O.length (Nat.le_refl _)
  rw [List.take_length, ← h.acc] at h1
  omega
end
end Go.Proofs.YthpbckignppaiaaGreatDoor.Huf

namespace Go.Proofs.YthpbckignppaiaaGreatDoor
open Go.RowKit Len Can Huf
def Huf.lenX (l : List UInt8) (s : Int) : Nat := if 0 ≤ s ∧ s < (l.length : Int) then lenAt l s.toNat else 0
theorem Huf.lenX_at {l : List UInt8} {s : Nat} (h : s < l.length) : lenX l (s : Int) = lenAt l s := by
  unfold lenX
  rw [if_pos (by omega), Int.toNat_natCast]
theorem Huf.lenX_fine (l : List UInt8) (s : Int) : (fine l s = true → lenX l s = lenAt l s.toNat ∧ lenX l s ≠ 0) ∧ (fine l s = false → lenX l s = 0) := by
  unfold fine lenX
  constructor
  · intro h
    obtain ⟨h1, h2, h3⟩ := of_decide_eq_true h
    rw [if_pos ⟨h1, h2⟩]
    exact ⟨rfl, h3⟩
  · intro h
    have h1 := of_decide_eq_false h
    split
    · rename_i h2
      exact Classical.byContradiction fun h3 => h1 ⟨h2.1, h2.2, h3⟩
    · rfl
theorem hlength_any {w : World} {B g c : Nat} {A : Option Addr} {l : List UInt8} (h : w.cell? ⟨g, 0, none⟩ = some (.slice A l.length c)) (hb : Bytes w B A l.length l) (s : Int) :
    Calls Tryz.prog 64 #[.pointer (some ⟨g, 0, none⟩), .int .i64 s] w fun e w' => e = .returned (.int .i64 ((lenX l s : Nat) : Int)) ∧ w = w' := by
  by_cases h0 : s < 0
  · have hx : lenX l s = 0 := by unfold lenX; rw [if_neg (by omega)]
    rw [hx]
    clear hx
    go_enter Tryz.func64, Tryz.ntmps64
    go_wp2
    go_ret
    exact ⟨rfl, rfl⟩
  obtain ⟨k, rfl⟩ := Int.eq_ofNat_of_zero_le (show 0 ≤ s by omega)
  by_cases hk : k < l.length
  · have hkI : (k : Int) < (l.length : Int) := by omega
    rcases hb.2 with hn | ⟨b1, o1, rfl, hb1, hc1⟩
    · omega
    have e1 : w.cell? ⟨b1, o1 + k, none⟩ = some (.int .u8 ((lenAt l k : Nat) : Int)) := hc1 k hk
    have hy : lenAt l k < 256 := UInt8.toNat_lt _
    rw [lenX_at hk]
    clear hc1 hb
    generalize lenAt l k = y at *
    go_enter Tryz.func64, Tryz.ntmps64
    go_wp2
    go_ret
    exact ⟨rfl, rfl⟩
  · have hkI : ¬ (k : Int) < (l.length : Int) := by omega
    have hx : lenX l (k : Int) = 0 := by unfold lenX; rw [if_neg (by omega)]
    rw [hx]
    clear hx
    go_enter Tryz.func64, Tryz.ntmps64
    go_wp2
    go_ret
    exact ⟨rfl, rfl⟩
def TabAt (w : World) (B g : Nat) (l : List UInt8) : Prop :=
  ∃ A1 c1 A2 c2 A3 c3 A4 c4 O, w.cell? ⟨g, 0, none⟩ = some (.slice A1 l.length c1) ∧ w.cell? ⟨g, 1, none⟩ = some (.slice A2 l.length c2) ∧ w.cell? ⟨g, 2, none⟩ = some (.slice A3 O.length c3) ∧ w.cell? ⟨g, 3, none⟩ = some (.slice A4 O.length c4) ∧
    Bytes w B A1 l.length l ∧ H16At w B A2 l.length (codesL l) ∧ IntsAt w B A3 O.length (O.map fun s : Nat => (s : Int)) ∧ H16At w B A4 O.length (starts l O) ∧ Ord l 16 0 O
end Go.Proofs.YthpbckignppaiaaGreatDoor

