/- The program's Count of chapter 11. The contract of the document's Put. The document's Write of chapter 8. Words counted out one behind the other; slices of uint16 of the call's own. The document's Codes of chapter 8. The document's coder of chapter 9: a slice of lengths and one of words, as a value. The document's New and Put of chapter 9. The contract of the document's Bytes. The document's example; a new reader. A writer of the program and one of the document, side by side. A slice of numbers that came in. The document's Pack of chapter 9. The document's Write of chapter 11. How many symbols have each length, and the first word of each length, as the program counts them. Plain mathematics of chapter 8. -/
import Derived.Test.YtaohdnhfodkeoaaS01
import Derived.Test.YtaohdnhfodkeoaaS02
import Derived.Test.YtaohdnhfodkeoaaS03
import Derived.StillTailTactics
import Derived.Laws.OwnMore
import Derived.Maps.AppendAt
import Derived.BigQuiet
namespace Go.Proofs.Ytaohdnhfodkeoaa
open Go.RowKit Lz Tok Len
theorem Tok.cnt_end {L : List TokV} (h : L.all may = true) : (cntS L).set 256 1 = countsS L := by
  have e : (cntS L).getD 256 0 = 0 := by
    have h0 : L.countP (isSym 256) = 0 := List.countP_eq_zero.2 fun t ht hs => by
      have := (sym_range (List.all_eq_true.1 h t ht)).2.2.1
      exact this (of_decide_eq_true hs)
    simp [cntS, List.getD_eq_getElem?_getD, h0]
  rw [← cntS_end, e]
theorem Tok.split_kind {t : TokV} (h : may t = true) : ∃ (s : Nat) (x c y : Int), splitE t = (⟨s, x, c, y⟩, 0) ∧ s < 265 ∧ (t.len ≠ 0 → 0 ≤ c ∧ c < 12 ∧ 257 ≤ s) ∧ (t.len = 0 → s < 257) := by
  by_cases h0 : t.len = 0
  · have := UInt8.toNat_lt t.lit
    exact ⟨t.lit.toNat, 0, 0, 0, split_lit h h0, by omega, fun e => absurd h0 e, fun _ => by omega⟩
  · obtain ⟨k, x, c, y, hk, hx, hc, hy, e1, e2, e3⟩ := split_match h h0
    exact ⟨257 + k, x, c, y, by rw [e3]; rfl, by omega, fun _ => ⟨by omega, by omega, by omega⟩, fun e => absurd e h0⟩
set_option maxHeartbeats 1000000 in
set_option maxRecDepth 100000 in
theorem tcount_any (A : Option Addr) (n c : Nat) (L : List TokV) (w : World) (hn : n ≤ 100000) (hT : ToksAt w w.heap.size A n L) : Calls Try.prog 15 #[.slice A n c] w (CountTo w L) := by
  have M1 := fun W => make_u32 W 265 (by omega)
  have M2 := fun W => make_u32 W 12 (by omega)
  have N1 := hide (fun W => OwnU.new W 265 (by omega))
  have N2 := hide (fun W => OwnU.new W 12 (by omega))
  simp only [Int.cast_ofNat_Int] at M1 M2
  generalize madeCells #[Value.int .u32 0] 265 = Z1 at *
  generalize madeCells #[Value.int .u32 0] 12 = Z2 at *
  have P1 := hide (show OwnU ((w.alloc (.cells Z1 38)).alloc (.cells Z2 38)).drew w.heap.size (.slice (some ⟨w.heap.size, 0, none⟩) 265 265) (List.replicate 265 0) ∧ OwnU ((w.alloc (.cells Z1 38)).alloc (.cells Z2 38)).drew w.heap.size (.slice (some ⟨w.heap.size + 1, 0, none⟩) 12 12) (List.replicate 12 0) ∧ Ext w ((w.alloc (.cells Z1 38)).alloc (.cells Z2 38)).drew from by
    have a := N1.out w
    have b := N2.out (w.alloc (.cells Z1 38))
    rw [World.size_alloc] at b
    exact ⟨(a.ext (extNew _ _)).ext (Ext.refl _).drew, (b.base (by omega)).ext (Ext.refl _).drew, ((extNew w _).trans (extNew _ _)).drew⟩)
  have P2 := hide (show OwnU ((w.alloc (.cells Z2 38)).alloc (.cells Z1 38)).drew w.heap.size (.slice (some ⟨w.heap.size + 1, 0, none⟩) 265 265) (List.replicate 265 0) ∧ OwnU ((w.alloc (.cells Z2 38)).alloc (.cells Z1 38)).drew w.heap.size (.slice (some ⟨w.heap.size, 0, none⟩) 12 12) (List.replicate 12 0) ∧ Ext w ((w.alloc (.cells Z2 38)).alloc (.cells Z1 38)).drew from by
    have a := N2.out w
    have b := N1.out (w.alloc (.cells Z2 38))
    rw [World.size_alloc] at b
    exact ⟨(b.base (by omega)).ext (Ext.refl _).drew, (a.ext (extNew _ _)).ext (Ext.refl _).drew, ((extNew w _).trans (extNew _ _)).drew⟩)
  have HT := hide hT
  have hl := hT.1
  subst hl
  clear hT N1 N2
  go_enter Try.func15, Try.ntmps15
  go_upto_region 1 with fail
  go_cut [5, 6] (fun x y wx => ∃ g1 g2 : Nat, g1 ≠ g2 ∧ x = .slice (some ⟨g1, 0, none⟩) 265 265 ∧ y = .slice (some ⟨g2, 0, none⟩) 12 12 ∧ OwnU wx w.heap.size x (List.replicate 265 0) ∧ OwnU wx w.heap.size y (List.replicate 12 0) ∧ Ext w wx)
  case first =>
    go_region
    · go_wp2_with fail
      go_meet
      exact ⟨w.heap.size, w.heap.size + 1, by omega, rfl, rfl, P1.out⟩
    · go_wp2_with fail
      go_meet
      exact ⟨w.heap.size + 1, w.heap.size, by omega, rfl, rfl, P2.out⟩
  case rest =>
    clear M1 M2 P1 P2
    obtain ⟨g1, g2, hne, rfl, rfl, hO1, hO2, hE0⟩ := hcut
    have hw1 := (hO1.lt g1 rfl).1
    have hw2 := (hO2.lt g2 rfl).1
    rw [← cntS_nil] at hO1
    rw [← cntF_nil] at hO2
    go_wp2_with fail
    go_loopw [15] (fun x wr => ∃ i : Nat, i ≤ L.length ∧ x = .int .i64 (i : Int) ∧ (L.take i).all may = true ∧ OwnU wr w.heap.size (.slice (some ⟨g1, 0, none⟩) 265 265) (cntS (L.take i)) ∧ OwnU wr w.heap.size (.slice (some ⟨g2, 0, none⟩) 12 12) (countsF (L.take i)) ∧ Ext w wr) (fun x _ => L.length - (intOf x).toNat)
    case atStart => exact ⟨0, by omega, rfl, rfl, hO1, hO2, hE0⟩
    case round =>
      clear hO1 hO2 hE0
      obtain ⟨i, hi, rfl, hall, hO1, hO2, hE⟩ := hrel
      have HAll := hide hall
      clear hall
      by_cases hlt : i < L.length
      · have hiI : (i : Int) < (L.length : Int) := by omega
        have HNx := hide (take_next hlt)
        have hcl1 := fun s => cntS_le (L.take i) s
        have hcl2 := fun s => cntF_le (L.take i) s
        have hti : (L.take i).length ≤ L.length := by rw [List.length_take]; omega
        have HS1 := hide (fun s (hs : (splitE (L.getD i default)).1.sym = ((s : Nat) : Int)) => cntS_next hlt hs)
        have HS2 := hide (fun (h0 : (L.getD i default).len ≠ 0) s (hs : (splitE (L.getD i default)).1.dist = ((s : Nat) : Int)) => cntF_next hlt h0 hs)
        have HS3 := hide (fun (h0 : (L.getD i default).len = 0) => cntF_lit hlt h0)
        have hMem : L.getD i default ∈ L := by
          rw [List.getD_eq_getElem?_getD, List.getElem?_eq_getElem hlt]
          exact List.getElem_mem hlt
        have HMem := hide hMem
        have CM := fun W => tsplit_any (L.getD i default) W
        unfold tokV at CM
        have hToks := HT.out.below hE (Nat.le_refl _)
        rcases hToks.2 with h0 | ⟨b1, o1, rfl, hb1, hc⟩
        · omega
        obtain ⟨hAt, hOk⟩ := hc i hlt
        obtain ⟨c0, c1, c2⟩ := hAt.cells
        clear hc hToks hAt hMem
        obtain ⟨t, ht⟩ : ∃ t, t = L.getD i default := ⟨_, rfl⟩
        rw [← ht] at c0 c1 c2 hOk CM HS1 HS2 HS3 HMem HNx
        clear ht
        have hET := extNew wr (.cells #[.int .u8 (t.lit.toNat : Int), .int .i64 t.len, .int .i64 t.dist] 23)
        have hWT := Whole.new wr 23 #[.int .u8 (t.lit.toNat : Int), .int .i64 t.len, .int .i64 t.dist]
        go_wp2_with (refine wpList_load_row rfl 23 (.tmp 8) rfl _ rfl _ _ _ _ hWT Try.underlying23 rfl tk_info ?_)
        refine (CM _).mono ?_
        rintro e w2 ⟨rfl, hE2⟩
        clear CM c0 c1 c2 hWT
        have hE3 := hET.trans hE2
        have hF2 := hE.trans hE3
        have hO1' := hO1.ext hE3
        have hO2' := hO2.ext hE3
        clear hO1 hO2 hE hE2 hE3 hET
        cases hmay : may t with
        | false =>
          rw [split_bad hmay]
          have HM := hide hmay
          clear hmay
          unfold pcV
          dsimp only
          go_wp2
          go_ret3
          refine ⟨hF2.trans (extNew _ _), ?_⟩
          rw [if_neg (fun hA => by have := List.all_eq_true.1 hA t HMem.out; rw [HM.out] at this; exact Bool.noConfusion this)]
          rfl
        | true =>
          obtain ⟨sy, x, cd, y, hsp, hsy, hcd, hcl⟩ := split_kind hmay
          rw [hsp] at HS1 HS2 ⊢
          have HNA := hide (show (L.take (i + 1)).all may = true by rw [HNx.out, List.all_append, HAll.out]; simp [hmay])
          have HS1' := hide (HS1.out sy rfl)
          unfold pcV
          dsimp only at HS2 ⊢
          have hEa := extNew w2 (.cells #[.int .i64 (sy : Int), .int .i64 x, .int .i64 cd, .int .i64 y] 25)
          have hWP := Whole.new w2 25 #[.int .i64 (sy : Int), .int .i64 x, .int .i64 cd, .int .i64 y]
          have hO1a := hO1'.ext hEa
          have hO2a := hO2'.ext hEa
          obtain ⟨k1, k2⟩ := hO1a.cell (i := sy) (by rw [cntS_len]; exact hsy) (by rw [cntS_len])
          have hv1 := hcl1 sy
          have hS1 := hO1a.set sy ((cntS (L.take i)).getD sy 0 + 1) (by rw [cntS_len])
          rw [HS1'.out, show (((cntS (L.take i)).getD sy 0 + 1 : Nat) : Int) = (((cntS (L.take i)).getD sy 0 : Nat) : Int) + 1 from rfl] at hS1
          have HSet1 := hide hS1
          have hFa := hF2.trans hEa
          have hg1 : w2.heap.size ≠ g1 := by have := (hO1'.lt g1 rfl).2; omega
          have p0 := hWP.at 0 (u := .int .i64 (sy : Int)) rfl
          have hWP3 := hWP.far hg1 sy (.int .u32 ((((cntS (L.take i)).getD sy 0 : Nat) : Int) + 1))
          have hyI : (sy : Int) < 265 := by omega
          clear hS1 HS1 HS1' hO1a hO1' hO2' hsp hmay
          generalize (cntS (L.take i)).getD sy 0 = cv at *
          have hO2b := hO2a.far (b := g1) (i := sy) (u := .int .u32 ((cv : Int) + 1)) (Ne.symm hne)
          have hF3 := hFa.setCell (g := g1) (i := sy) hw1 (.int .u32 ((cv : Int) + 1))
          have hcvI : (cv : Int) + 1 < 4294967296 := by omega
          have CI := fun W => isMatch_any ⟨(sy : Int), x, cd, y⟩ W
          unfold pcV at CI
          dsimp only at CI
          have HO2 := hide hO2b
          have HF3 := hide hF3
          clear hO2a hO2b hWP hEa hF2 hFa hF3 hg1
          go_wp2_with (refine wpList_load_row rfl 25 (.tmp 9) rfl _ rfl _ _ _ _ hWP3 Try.underlying25 rfl pc_info ?_)
          refine (CI _).mono ?_
          rintro e w5 ⟨rfl, hE5⟩
          have hO1c := HSet1.out.ext hE5
          have hO2c := HO2.out.ext hE5
          have hF5 := HF3.out.trans hE5
          have hWP5 := hWP3.ext hE5
          clear CI p0 k1 k2 hWP3 HSet1 HO2 HF3 hE5
          by_cases h0 : t.len = 0
          · have HS3' := hide (HS3.out h0)
            have hsm := hcl h0
            have hsmb : decide (257 ≤ (sy : Int)) = false := decide_eq_false (by omega)
            rw [hsmb]
            have HF5 := hide hF5
            have HO1 := hide hO1c
            have HO2 := hide hO2c
            clear hO1c hO2c hcl1 hcl2 h0 HS2 HS3 hcd hcl hsm hsmb hF5 hWP5 hv1 hti
            go_wp2
            go_roundw
            case rel => exact ⟨i + 1, by omega, by go_num, HNA.out, HO1.out, by rw [HS3'.out]; exact HO2.out, HF5.out⟩
            case measure => simp [intOf]; omega
          · obtain ⟨hc0, hc1, hsm⟩ := hcd h0
            have hsmb : decide (257 ≤ (sy : Int)) = true := decide_eq_true (by omega)
            rw [hsmb]
            obtain ⟨cn, rfl⟩ := Int.eq_ofNat_of_zero_le hc0
            have HS2' := hide (HS2.out h0 cn rfl)
            obtain ⟨k3, k4⟩ := hO2c.cell (i := cn) (by rw [countsF_len]; omega) (by rw [countsF_len])
            have hv2 := hcl2 cn
            have hS2 := hO2c.set cn ((countsF (L.take i)).getD cn 0 + 1) (by rw [countsF_len])
            rw [HS2'.out, show (((countsF (L.take i)).getD cn 0 + 1 : Nat) : Int) = (((countsF (L.take i)).getD cn 0 : Nat) : Int) + 1 from rfl] at hS2
            have HSet2 := hide hS2
            have p2 := hWP5.at 2 (u := .int .i64 (cn : Int)) rfl
            clear hO2c hcl1 hcl2 h0 HS2 HS3 hcd hcl HS2' hS2 hWP5
            generalize (countsF (L.take i)).getD cn 0 = cw at *
            have hcwI : (cw : Int) + 1 < 4294967296 := by omega
            have HSet3 := hide (hO1c.far (b := g2) (i := cn) (u := .int .u32 ((cw : Int) + 1)) hne)
            have HF6 := hide (hF5.setCell (g := g2) (i := cn) hw2 (.int .u32 ((cw : Int) + 1)))
            clear hO1c hF5 hc0 hsm hsmb hv2 hv1 hti
            clear hw2
            go_wp2
            go_roundw
            case rel => exact ⟨i + 1, by omega, by go_num, HNA.out, HSet3.out, HSet2.out, HF6.out⟩
            case measure => simp [intOf]; omega
      · obtain rfl : L.length = i := by omega
        rw [List.take_length] at hO1 hO2 HAll
        obtain ⟨k1, k2⟩ := hO1.cell (i := 256) (by rw [cntS_len]; omega) (by rw [cntS_len])
        have hS1 := hO1.set 256 1 (by rw [cntS_len])
        rw [cnt_end HAll.out] at hS1
        have HSet1 := hide hS1
        have HO2 := hide hO2
        clear hS1 hO1 hO2
        generalize (cntS L).getD 256 0 = cv at *
        go_wp2
        go_ret3
        refine ⟨hE.setCell hw1 _, ?_⟩
        rw [if_pos HAll.out]
        exact ⟨g1, g2, hne, rfl, HSet1.out, HO2.out.far (Ne.symm hne)⟩
end Go.Proofs.Ytaohdnhfodkeoaa

namespace Go.Proofs.Ytaohdnhfodkeoaa
open Go.RowKit
def Bit.lows (x k : Nat) : List UInt8 := (List.range k).map fun i => bit8 (x.testBit i)
theorem Bit.lows_len (x k : Nat) : (Bit.lows x k).length = k := by simp [Bit.lows]
theorem Bit.lows_succ (x k : Nat) : Bit.lows x (k + 1) = Bit.lows x k ++ [bit8 (x.testBit k)] := by simp [Bit.lows, List.range_succ]
theorem Bit.lows_get (x k i : Nat) (h : i < k) : (Bit.lows x k).getD i 0 = bit8 (x.testBit i) := by simp [Bit.lows, List.getD_eq_getElem?_getD, h]
theorem Bit.num_take (x n j : Nat) (hj : j < n) : ((Bit.num x n).take (n - (j + 1))).map bit8 ++ [bit8 (x.testBit j)] = ((Bit.num x n).take (n - j)).map bit8 := by
  have hl : n - (j + 1) < (Bit.num x n).length := by rw [Bit.num_length]; omega
  have hg : (Bit.num x n)[n - (j + 1)] = x.testBit j := by
    have h1 := Bit.num_getD x n (n - (j + 1)) (by omega)
    rw [List.getD_eq_getElem?_getD, List.getElem?_eq_getElem hl, show n - 1 - (n - (j + 1)) = j by omega] at h1
    exact h1
  rw [show n - j = n - (j + 1) + 1 by omega, List.take_succ_eq_append_getElem hl, List.map_append, hg]
  rfl
theorem Bit.bit_int (y : Nat) (b : Bool) (h : b.toNat = y % 2) : (y : Int) % 2 = ((bit8 b).toNat : Int) := by rw [bit8_int]; omega
set_option maxHeartbeats 2000000 in
theorem refPut_any {w : World} {base g : Nat} {ob : Option Nat} {L : List UInt8} (h : RefW w base g ob L) (x : Nat) (n : Int) (hx64 : x ≤ 18446744073709551615) (hL : L.length ≤ 900000000) :
    Calls Try.prog 39 #[.pointer (some ⟨g, 0, none⟩), .int .u64 x, .int .i64 n] w (RefPuts w base g ob (L ++ (Bit.putBits x n).map bit8) (Bit.putErr x n)) := by
  by_cases hr : 0 ≤ n ∧ n ≤ 64
  · obtain ⟨h0, h1⟩ := hr
    obtain ⟨k, rfl⟩ := Int.eq_ofNat_of_zero_le h0
    have hk : k ≤ 64 := by omega
    have HF := hide h
    go_enter Try.func39, Try.ntmps39
    go_wp2
    go_loopw [1, 7, 8] (fun y v i wr => ∃ j : Nat, j ≤ k ∧ i = .int .i64 (j : Int) ∧ y = .int .u64 ((x / 2 ^ j : Nat) : Int) ∧ OwnB wr w.heap.size v (Bit.lows x j) ∧ Ext w wr) (fun _ _ i _ => k - (intOf i).toNat)
    case atStart => exact ⟨0, by omega, rfl, by simp, OwnB.nil _ _, Ext.refl _⟩
    case round =>
      obtain ⟨j, hj, rfl, rfl, hO, hE⟩ := hrel
      by_cases hlt : j < k
      · have hbit := Bit.bit_int (x / 2 ^ j) (x.testBit j) (Bit.testBit_toNat x j)
        have hdiv := hide (show ((x / 2 ^ j : Nat) : Int) / 2 = ((x / 2 ^ (j + 1) : Nat) : Int) by rw [Nat.pow_succ, ← Nat.div_div_eq_div_mul]; omega)
        have hy : x / 2 ^ j ≤ 18446744073709551615 := Nat.le_trans (Nat.div_le_self _ _) hx64
        have HL := hide (Bit.lows_succ x j)
        have hlen := Bit.lows_len x j
        have hfit : (Bit.lows x j).length + 1 ≤ 140737488355328 := by omega
        generalize Bit.lows x j = Lo at *
        generalize x / 2 ^ j = y at *
        generalize bit8 (x.testBit j) = bt at *
        have hbt := bt.toNat_lt
        have hb1 := bytesNew wr [bt] #[.int .u8 (bt.toNat : Int)] 5 (0, 0) rfl 1 rfl
        have hO1 := hO.ext (extNew wr (.cells #[.int .u8 (bt.toNat : Int)] 5))
        have hE1 := hE.trans (extNew wr (.cells #[.int .u8 (bt.toNat : Int)] 5))
        have hB1 := hE1.le
        clear hlen
        go_wp2_with (at_builtin; refine wpList_appAt rfl (.tmp 21) (.tmp 25) rfl rfl hO1 rfl hb1 hfit hB1 ?_; intro v2 w2 hO2 hG2 hN2)
        go_roundw
        case rel =>
          refine ⟨j + 1, by omega, by go_num, by rw [← hdiv.out], by rw [HL.out]; exact hO2, hO1.below hE1 hG2 hB1⟩
        case measure => simp [intOf]; omega
      · obtain rfl : j = k := by omega
        by_cases hz : x / 2 ^ j = 0
        · have hxl : x < 2 ^ j := by
            rcases Nat.div_eq_zero_iff.1 hz with h | h
            · exact absurd h (Nat.ne_of_gt (Nat.two_pow_pos j))
            · exact h
          have HP := hide (Bit.put_good (x := x) (n := (j : Int)) (decide_eq_true ⟨by omega, by omega, by simpa using hxl⟩))
          have hz' : (((x / 2 ^ j : Nat) : Int) != 0) = false := by rw [hz]; rfl
          have HO := hide hO
          clear hz hxl
          generalize x / 2 ^ j = y at *
          generalize hwz : wr = wz at *
          clear hwz
          go_wp2
          have hR := HF.out.ext hE
          go_loopw [9] (fun i ww => ∃ (m : Nat) (ob1 : Option Nat), m ≤ j ∧ i = .int .i64 ((m : Int) - 1) ∧ RefW ww base g ob1 (L ++ ((Bit.num x j).take (j - m)).map bit8) ∧ NewOb wz ob ob1 ∧ Mod wz ww g ob) (fun i _ => ((intOf i) + 1).toNat)
          case atStart => exact ⟨j, ob, by omega, rfl, by simpa using hR, .inl rfl, Mod.refl _ _ _⟩
          case round =>
            obtain ⟨m, ob1, hm, rfl, ⟨v, hW, hOw, hne, hb, rfl⟩, hN, hM⟩ := hrel
            rcases m with _ | m
            · have hneg : ¬ (0 ≤ ((0 : Nat) : Int) - 1) := by omega
              go_wp2
              go_ret
              refine ⟨ret_i64 HP.out.1.symm, v.ownBlock, ?_, (NewOb.same w ob).trans hE.le hN, (Mod.ofExt hE).trans hM (.inl rfl)⟩
              rw [HP.out.2, Int.toNat_natCast]
              rw [Nat.sub_zero, List.take_of_length_le (by rw [Bit.num_length]; exact Nat.le_refl _)] at *
              exact ⟨v, hW, hOw, hne, hb, rfl⟩
            · rw [show (((m + 1 : Nat) : Int) - 1) = (m : Int) by omega]
              have hO1 := HO.out
              have hgl := HF.out.lt
              have hob := HF.out.own
              obtain ⟨gl, cl, hu, hbl, hcl⟩ := hO1.formG (by rw [Bit.lows_len]; omega)
              rw [Bit.lows_len] at hu
              subst hu
              have hOl := hM.own hO1 (by simp [Value.ownBlock]; omega) (.inr (fun e => by have := (hob gl e.symm).2; omega))
              have hcell := (hOl.cell (i := m) (by rw [Bit.lows_len]; omega)).1
              rw [Bit.lows_get x j m (by omega)] at hcell
              have HT := hide (Bit.num_take x j m (by omega))
              have hlen : (L ++ List.map bit8 (List.take (j - (m + 1)) (Bit.num x j))).length ≤ 900000064 := by
                rw [List.length_append, List.length_map, List.length_take]; omega
              have hfit : (L ++ List.map bit8 (List.take (j - (m + 1)) (Bit.num x j))).length + 1 ≤ 140737488355328 := by omega
              generalize bit8 (x.testBit m) = bt at *
              generalize hLL : L ++ List.map bit8 (List.take (j - (m + 1)) (Bit.num x j)) = LL at *
              have HLL := hide hLL
              have hbt := bt.toNat_lt
              have d0 : wr.cell? ⟨g, 0, none⟩ = some v := hW.at 0 rfl
              have hEa := extNew wr (.cells #[.int .u8 (bt.toNat : Int)] 5)
              have d0' : (wr.alloc (.cells #[.int .u8 (bt.toNat : Int)] 5)).cell? ⟨g, 0, none⟩ = some v := (hW.ext hEa).at 0 rfl
              have hb1 := (Ext.refl (wr.alloc (.cells #[.int .u8 (bt.toNat : Int)] 5))).drew.bytes (bytesNew wr [bt] #[.int .u8 (bt.toNat : Int)] 5 (0, 0) rfl 1 rfl)
              have hEw : Ext wr (wr.alloc (.cells #[.int .u8 (bt.toNat : Int)] 5)).drew := hEa.drew
              have hOx := hOw.ext hEw
              have hB1 : base ≤ (wr.alloc (.cells #[.int .u8 (bt.toNat : Int)] 5)).drew.heap.size := Nat.le_trans (Nat.le_trans hb (Nat.le_of_lt hW.lt)) hEw.le
              have hi : (Try.prog.info? 40).map (·.size) = some 1 := by kernel_rfl
              have hmj : (m : Int) < (j : Int) := by omega
              clear hLL hlen hO1 hO hOl hob
              go_wp2
              go_region_law (refine step_appAt rfl (.tmp 41) (.tmp 46) rfl rfl hOx rfl hb1 hfit hB1 ?_; intro v2 w2 hO2 hG2' hN2'; have hG2 : (wr.alloc (.cells #[.int .u8 (bt.toNat : Int)] 5)).drew.grownBy w2 v.ownBlock := hG2'; have hN2 : NewOb (wr.alloc (.cells #[.int .u8 (bt.toNat : Int)] 5)).drew v.ownBlock v2.ownBlock := hN2'; clear hG2' hN2'; have hW2 := (hW.ext hEw).ownGrown hG2 hne; obtain ⟨A2, n2, c2, hv2, _, _, _⟩ := hO2.form'; subst hv2; have e0 := hW2.at 0 rfl; have f2 := hW2.frozen 0)
              all_goals (
                have hG3 := grown_setCell w2 g 0 (.slice A2 n2 c2)
                have hW3 : Whole (w2.setCell ⟨g, 0, none⟩ (.slice A2 n2 c2)) g 68 #[.slice A2 n2 c2] := hW2.set 0 _
                obtain ⟨ob2, hR2, hN3, hM3⟩ := RefW.put hW hne hb hEw hO2 hG2 hN2 hW3 hG3
                rw [← HLL.out, List.append_assoc, HT.out] at hR2
                have HR := hide (show RefW (w2.setCell ⟨g, 0, none⟩ (.slice A2 n2 c2)) base g ob2 (L ++ ((Bit.num x j).take (j - m)).map bit8) ∧ NewOb wz ob ob2 ∧ Mod wz (w2.setCell ⟨g, 0, none⟩ (.slice A2 n2 c2)) g ob from ⟨hR2, hN.trans hM.size hN3, hM.trans hM3 hN⟩)
                clear hR2 hN3 hM3 hW3 hG3
                go_wp2
                go_roundw
                case rel => exact ⟨m, ob2, by omega, rfl, HR.out⟩
                case measure => simp [intOf])
        · have hxl : ¬ x < 2 ^ j := fun h => hz (Nat.div_eq_of_lt h)
          have HP := hide (Bit.put_bad (x := x) (n := (j : Int)) (decide_eq_false (fun h => hxl (by simpa using h.2.2))))
          have hz' : (((x / 2 ^ j : Nat) : Int) != 0) = true := by simpa using fun h => hz (by exact_mod_cast h)
          clear hz hxl
          generalize x / 2 ^ j = y at *
          go_wp2
          go_ret
          exact ⟨ret_i64 HP.out.1.symm, ob, by rw [HP.out.2, List.map_nil, List.append_nil]; exact HF.out.ext hE, .inl rfl, Mod.ofExt hE⟩
  · have HP := hide (Bit.put_bad (x := x) (n := n) (decide_eq_false (fun h => hr ⟨h.1, h.2.1⟩)))
    have HF := hide h
    by_cases h0 : n < 0
    · clear hr
      go_enter Try.func39, Try.ntmps39
      go_wp2
      go_ret
      exact ⟨ret_i64 HP.out.1.symm, ob, by rw [HP.out.2, List.map_nil, List.append_nil]; exact HF.out, .inl rfl, Mod.refl _ _ _⟩
    · have h1 : 64 < n := by omega
      clear hr
      go_enter Try.func39, Try.ntmps39
      go_wp2
      go_ret
      exact ⟨ret_i64 HP.out.1.symm, ob, by rw [HP.out.2, List.map_nil, List.append_nil]; exact HF.out, .inl rfl, Mod.refl _ _ _⟩
end Go.Proofs.Ytaohdnhfodkeoaa

namespace Go.Proofs.Ytaohdnhfodkeoaa
open Go.RowKit Len Can
namespace Can
theorem zrun_more {f m : Nat} {r : List UInt8} (hm : m ≤ zrun f r) (hl : m < r.length) (h0 : r.getD m 0 = 0) (hf : m < f) : m + 1 ≤ zrun f r := by
  rcases Nat.lt_or_ge m (zrun f r) with h | h
  · exact h
  · obtain rfl : m = zrun f r := by omega
    refine absurd h0 (zrun_stop f r hf _ ?_)
    rw [List.head?_drop, List.getD_eq_getElem?_getD, List.getElem?_eq_getElem hl]
    rfl
theorem zrun_done {f m : Nat} {r : List UInt8} (hm : m ≤ zrun f r) (h : r.length ≤ m ∨ r.getD m 0 ≠ 0 ∨ f ≤ m) : m = zrun f r := by
  rcases Nat.lt_or_ge m (zrun f r) with h2 | h2
  · exfalso
    have hz := zrun_le f r
    rcases h with h | h | h
    · omega
    · apply h
      have e := congrArg (fun l => l.getD m 0) (zrun_zero f r)
      simp only [List.getD_eq_getElem?_getD, List.getElem?_take, if_pos h2] at e
      rw [List.getD_eq_getElem?_getD, e]
      simp [h2]
    · omega
  · omega
structure Wr (l : List UInt8) (i : Nat) (P : List Bool) : Prop where
  le : i ≤ l.length
  eq : P ++ wbits (l.drop i) = wbits l
theorem Wr.start (l : List UInt8) : Wr l 0 [] := ⟨Nat.zero_le _, rfl⟩
section
variable {l : List UInt8} {i : Nat} {P : List Bool}
theorem Wr.all (h : Wr l l.length P) : P = wbits l := by
  have := h.eq
  rwa [List.drop_length, wbits_nil, List.append_nil] at this
theorem Wr.small (h : Wr l i P) : P.length ≤ 10 * l.length := by
  have := congrArg List.length h.eq
  have h2 := wbits_len l
  rw [List.length_append] at this
  omega
theorem drop_cons (hi : i < l.length) : l.drop i = l.getD i 0 :: l.drop (i + 1) := by
  rw [List.drop_eq_getElem_cons hi, List.getD_eq_getElem?_getD, List.getElem?_eq_getElem hi]
  rfl
theorem Wr.used (h : Wr l i P) (hi : i < l.length) (h0 : lenAt l i ≠ 0) : Wr l (i + 1) (P ++ Bit.num (lenAt l i) 4) := by
  refine ⟨hi, ?_⟩
  rw [← h.eq, drop_cons hi, wbits_used _ (fun e => h0 (by unfold lenAt; rw [e]; rfl)), List.append_assoc]
  rfl
theorem Wr.zero (h : Wr l i P) (hi : i < l.length) (h0 : lenAt l i = 0) {m : Nat} (hm : m = zrun 63 (l.drop (i + 1))) : Wr l (i + 1 + m) (P ++ Bit.num 0 4 ++ Bit.num m 6) := by
  have hz := zrun_le 63 (l.drop (i + 1))
  rw [List.length_drop] at hz
  refine ⟨by omega, ?_⟩
  have e0 : l.getD i 0 = 0 := UInt8.toNat_inj.1 h0
  rw [← h.eq, drop_cons hi, e0, wbits_zero, ← hm, List.drop_drop]
  simp [List.append_assoc]
theorem drop_get (m : Nat) : (l.drop (i + 1)).getD m 0 = l.getD (i + 1 + m) 0 := by simp [List.getD_eq_getElem?_getD, List.getElem?_drop]
end
theorem put4 {x : Nat} (h : x ≤ 15) : Bit.putBits x 4 = Bit.num x 4 := (Bit.put_good (decide_eq_true ⟨by omega, by omega, by show x < 2 ^ 4; omega⟩)).2
theorem put6 {x : Nat} (h : x ≤ 63) : Bit.putBits x 6 = Bit.num x 6 := (Bit.put_good (decide_eq_true ⟨by omega, by omega, by show x < 2 ^ 6; omega⟩)).2
end Can
set_option maxHeartbeats 4000000 in
set_option maxRecDepth 100000 in
theorem refWriteK_any {w : World} {base g : Nat} {ob : Option Nat} {R : List UInt8} (h : RefW w base g ob R) (hR : R.length ≤ 800000000) (A : Option Addr) (n c : Nat) (l : List UInt8) (hBk : ∀ W, Mod w W g ob → Bytes W w.heap.size A n l) :
    Calls Try.prog 36 #[.pointer (some ⟨g, 0, none⟩), .slice A n c] w (RefPuts w base g ob (R ++ (if right l then wbits l else []).map bit8) (checkE l)) := by
  have hB := hBk w (Mod.ofExt (Ext.refl w))
  have hl := hB.1
  subst hl
  have hbw : base ≤ w.heap.size := Nat.le_of_lt (Nat.lt_of_le_of_lt h.le h.lt)
  have C1 := refCheck_any A l.length c l w hB
  cases hr : right l with
  | false =>
    have HE := hide (check_wrong hr)
    rw [check_wrong hr] at C1
    generalize checkE l = E at *
    have HF := hide h
    clear hr h
    go_enter Try.func36, Try.ntmps36
    go_wp2_with fail
    refine C1.mono ?_
    rintro e w2 ⟨rfl, hE⟩
    go_wp2
    go_ret
    rw [HE.out]
    exact ⟨rfl, ob, by simpa using HF.out.ext hE, .inl rfl, Mod.ofExt hE⟩
  | true =>
    have HE := hide (check_right hr)
    rw [check_right hr] at C1
    obtain ⟨h300, h15, _⟩ := right_facts hr
    have H15 := hide h15
    have HSt := hide (Wr.start l)
    generalize checkE l = E at *
    clear hr h15
    obtain ⟨N, hN⟩ : ∃ N, N = l.length := ⟨_, rfl⟩
    have HNl := hide hN
    rw [← hN] at C1 h300 hBk ⊢
    have HB := hide hBk
    have HF := hide h
    have hgb := h.le
    have hob := fun k hk => (h.own k hk).1
    clear hN hB hBk h
    go_enter Try.func36, Try.ntmps36
    go_wp2_with fail
    refine C1.mono ?_
    rintro e w2 ⟨rfl, hE⟩
    clear C1
    go_wp2_with fail
    go_loopw [5] (fun a wr => ∃ (i : Nat) (P : List Bool) (ob1 : Option Nat), i ≤ N ∧ a = .int .i64 (i : Int) ∧ RefW wr base g ob1 (R ++ P.map bit8) ∧ NewOb w ob ob1 ∧ Mod w wr g ob ∧ Wr l i P) (fun a _ => N - (intOf a).toNat)
    case atStart => exact ⟨0, [], ob, Nat.zero_le _, rfl, by simpa using HF.out.ext hE, .inl rfl, Mod.ofExt hE, HSt.out⟩
    case round =>
      obtain ⟨i, P, ob1, hi, rfl, hW, hN1, hM, hP⟩ := hrel
      by_cases hlt : i < N
      · have hil : (i : Int) < (N : Int) := by omega
        rcases (HB.out _ hM).2 with h0 | ⟨b, off, rfl, hbb, hc⟩
        · omega
        have hk := hc i hlt
        have hy15 := H15.out i (by rw [← HNl.out]; exact hlt)
        have hps := hP.small
        rw [← HNl.out] at hps
        obtain ⟨y, hy⟩ : ∃ y, y = lenAt l i := ⟨_, rfl⟩
        have hk' : wr.cell? ⟨b, off + i, none⟩ = some (.int .u8 (y : Int)) := by rw [hy]; exact hk
        rw [← hy] at hy15
        have HY := hide hy
        have HC := hide hc
        have HP := hide hP
        have HM := hide hM
        clear hk hy hc hP
        have hlen : (R ++ P.map bit8).length ≤ 900000000 := by simp; omega
        have CP := refPut_any hW y 4 (by omega) hlen
        rw [put4 hy15, List.append_assoc, ← List.map_append] at CP
        generalize Bit.putErr (↑y) 4 = E1 at CP
        clear hW
        go_wp2_with fail
        refine CP.mono ?_
        rintro e w3 ⟨rfl, ob3, hW3, hN3, hM3⟩
        clear CP
        have hN4 := hN1.trans HM.out.size hN3
        have HM4 := hide (HM.out.trans hM3 hN1)
        have HW3 := hide hW3
        rcases (HB.out _ HM4.out).2 with h0 | ⟨b2, off2, hA2, _, hc3⟩
        · omega
        have hb2 : b2 = b ∧ off2 = off := by injection hA2 with e; injection e with e1 e2; exact ⟨e1.symm, e2.symm⟩
        obtain ⟨rfl, rfl⟩ := hb2
        have hk3 := hc3 i hlt
        have hk3' : w3.cell? ⟨b2, off2 + i, none⟩ = some (.int .u8 (y : Int)) := by rw [HY.out]; exact hk3
        have HC3 := hide hc3
        clear hc3 hk3 hk' hM hM3 hW3 hA2 hN3
        by_cases y0 : y = 0
        · have HY0 := hide (show lenAt l i = 0 by rw [← HY.out]; exact y0)
          subst y0
          go_wp2_with fail
          go_loopw [5, 6] (fun a d wq => ∃ m : Nat, a = .int .i64 ((i + m : Nat) : Int) ∧ d = .int .i64 (m : Int) ∧ m ≤ zrun 63 (l.drop (i + 1)) ∧ Qt w3 wq) (fun _ d _ => 63 - (intOf d).toNat)
          case atStart => exact ⟨0, rfl, rfl, Nat.zero_le _, Qt.refl _⟩
          case round =>
            obtain ⟨m, rfl, rfl, hm, q, rfl⟩ := hrel
            have hz := zrun_le 63 (l.drop (i + 1))
            rw [List.length_drop, ← HNl.out] at hz
            have CW : ∀ W, Ext w3 W → Calls Try.prog 39 #[.pointer (some ⟨g, 0, none⟩), .int .u64 (m : Int), .int .i64 6] W (RefPuts W base g ob3 (R ++ (P ++ Bit.num 0 4 ++ Bit.num m 6).map bit8) (Bit.putErr m 6)) := fun W hX => by
              have := refPut_any (HW3.out.ext hX) m 6 (by omega) (by simp [Bit.num_length]; omega)
              rw [put6 (by omega), List.append_assoc, ← List.map_append] at this
              exact this
            have HEx := hide (show m = zrun 63 (l.drop (i + 1)) → ∀ w5 ob5, NewOb (w3.drewN q) ob3 ob5 → Mod (w3.drewN q) w5 g ob3 → i + m + 1 ≤ N ∧ NewOb w ob ob5 ∧ Mod w w5 g ob ∧ Wr l (i + m + 1) (P ++ Bit.num 0 4 ++ Bit.num m 6) from fun hmz w5 ob5 hN5 hM5 => by
              have hE3 : Ext w3 (w3.drewN q) := (Ext.refl w3).drewN q
              have hMd : Mod w (w3.drewN q) g ob := HM4.out.trans (Mod.ofExt (ob := ob3) hE3) hN4
              refine ⟨by omega, hN4.trans hMd.size hN5, hMd.trans hM5 hN4, ?_⟩
              rw [show i + m + 1 = i + 1 + m by omega]
              exact HP.out.zero (by rw [← HNl.out]; exact hlt) HY0.out hmz)
            generalize Bit.putErr m 6 = E6 at CW
            by_cases hin : i + m + 1 < N
            · have hinI : ((i + m : Nat) : Int) + 1 < (N : Int) := by omega
              obtain ⟨z, hz2⟩ : ∃ z, z = l.getD (i + 1 + m) 0 := ⟨_, rfl⟩
              have hkz := HC3.out (i + m + 1) hin
              rw [show i + m + 1 = i + 1 + m by omega, ← hz2] at hkz
              have HZ := hide hz2
              have hz8 := UInt8.toNat_lt z
              obtain ⟨zn, hzn⟩ : ∃ zn, zn = z.toNat := ⟨_, rfl⟩
              rw [← hzn] at hkz hz8
              have HZN := hide hzn
              obtain ⟨j, hj⟩ : ∃ j, j = i + m := ⟨_, rfl⟩
              rw [show off2 + (i + 1 + m) = off2 + (j + 1) by omega] at hkz
              rw [← hj] at hinI ⊢
              have HJ := hide hj
              have hkq : (w3.drewN q).cell? ⟨b2, off2 + (j + 1), none⟩ = some (.int .u8 (zn : Int)) := hkz
              clear hz2 hzn hj hkz
              by_cases hz0 : zn = 0
              · subst hz0
                by_cases hm63 : m < 63
                · have hmI : (m : Int) < 63 := by omega
                  have HM1 := hide (zrun_more hm (by rw [List.length_drop, ← HNl.out]; omega) (by rw [drop_get, ← HZ.out]; exact UInt8.toNat_inj.1 HZN.out.symm) hm63)
                  go_wp2
                  go_roundw
                  case rel => exact ⟨m + 1, by rw [HJ.out]; go_num, by go_num, HM1.out, (Qt.refl w3).drewN _⟩
                  case measure => simp [intOf]; omega
                · have hmI : ¬ (m : Int) < 63 := by omega
                  have HM1 := hide (zrun_done hm (.inr (.inr (by omega))))
                  go_wp2_with fail
                  refine (CW _ ((Ext.refl w3).drewN q)).mono ?_
                  rintro e w5 ⟨rfl, ob5, hW5, hN5, hM5⟩
                  obtain ⟨x1, x2, x3, x4⟩ := HEx.out HM1.out w5 ob5 hN5 hM5
                  clear CW hN5 hM5
                  go_wp2
                  go_roundw
                  case rel => exact ⟨i + m + 1, _, ob5, x1, by rw [HJ.out]; go_num, hW5, x2, x3, x4⟩
                  case measure => have := HJ.out; simp [intOf]; omega
              · have hzI : ((zn : Int) == 0) = false := by simp; omega
                have HM1 := hide (zrun_done hm (.inr (.inl (by rw [drop_get, ← HZ.out]; exact fun e => hz0 (by rw [HZN.out, e]; rfl)))))
                go_wp2_with fail
                refine (CW _ ((Ext.refl w3).drewN q)).mono ?_
                rintro e w5 ⟨rfl, ob5, hW5, hN5, hM5⟩
                obtain ⟨x1, x2, x3, x4⟩ := HEx.out HM1.out w5 ob5 hN5 hM5
                clear CW hN5 hM5
                go_wp2
                go_roundw
                case rel => exact ⟨i + m + 1, _, ob5, x1, by rw [HJ.out]; go_num, hW5, x2, x3, x4⟩
                case measure => have := HJ.out; simp [intOf]; omega
            · have hinI : ¬ ((i + m : Nat) : Int) + 1 < (N : Int) := by omega
              have HM1 := hide (zrun_done hm (.inl (by rw [List.length_drop, ← HNl.out]; omega)))
              go_wp2_with fail
              refine (CW _ ((Ext.refl w3).drewN q)).mono ?_
              rintro e w5 ⟨rfl, ob5, hW5, hN5, hM5⟩
              obtain ⟨x1, x2, x3, x4⟩ := HEx.out HM1.out w5 ob5 hN5 hM5
              clear CW hN5 hM5
              go_wp2
              go_roundw
              case rel => exact ⟨i + m + 1, _, ob5, x1, by go_num, hW5, x2, x3, x4⟩
              case measure => simp [intOf]; omega
        · have yI : ((y : Nat) : Int) > 0 := by omega
          have HP2 := hide (HP.out.used (by rw [← HNl.out]; exact hlt) (by rw [← HY.out]; exact y0))
          rw [← HY.out] at HP2
          go_wp2
          go_roundw
          case rel => exact ⟨i + 1, _, ob3, by omega, by go_num, HW3.out, hN4, HM4.out, HP2.out⟩
          case measure => simp [intOf]; omega
      · obtain rfl : i = N := by omega
        have hPa := hP
        rw [HNl.out] at hPa
        have HA := hide hPa.all
        clear hPa hP
        go_wp2
        go_ret
        rw [HE.out]
        refine ⟨rfl, ob1, ?_, hN1, hM⟩
        rw [← HA.out]
        exact hW
end Go.Proofs.Ytaohdnhfodkeoaa

namespace Go.Proofs.Ytaohdnhfodkeoaa.Can
open Len
def done (l : List UInt8) (k s t : Nat) : Prop := lenAt l t ≠ 0 ∧ (lenAt l t < k ∨ lenAt l t = k ∧ t < s)
structure Words (l : List UInt8) (k s nx was : Nat) (any : Bool) (O : List Nat) : Prop where
  len : O.length = l.length
  told : ∀ t, t < l.length → done l k s t → O.getD t 0 = word l t
  none : ∀ t, t < l.length → ¬ done l k s t → O.getD t 0 = 0
  no : any = false → acc l k s = 0 ∧ nx = 0
  yes : any = true → (nx + 1) * 2 ^ (15 - was) = acc l k s ∧ 1 ≤ was ∧ was ≤ k
section
variable {l : List UInt8} {k s nx was : Nat} {any : Bool} {O : List Nat}
theorem Words.start : Words l 1 0 0 0 false (List.replicate l.length 0) where
  len := by simp
  told := fun t _ h => by unfold done at h; omega
  none := fun t ht _ => by simp [List.getD_eq_getElem?_getD, ht]
  no := fun _ => ⟨acc_start l, rfl⟩
  yes := fun h => by cases h
theorem Words.turn (h : Words l k l.length nx was any O) : Words l (k + 1) 0 nx was any O where
  len := h.len
  told := fun t ht hd => h.told t ht (by unfold done at *; omega)
  none := fun t ht hd => h.none t ht (by unfold done at *; omega)
  no := fun e => by rw [acc_turn]; exact h.no e
  yes := fun e => by rw [acc_turn]; have := h.yes e; exact ⟨this.1, this.2.1, by omega⟩
theorem Words.pass (h : Words l k s nx was any O) (hk : 1 ≤ k) (hs : s < l.length) (hne : lenAt l s ≠ k) : Words l k (s + 1) nx was any O where
  len := h.len
  told := fun t ht hd => h.told t ht (by
    unfold done at *
    refine ⟨hd.1, ?_⟩
    rcases hd.2 with e | e
    · exact .inl e
    · by_cases e2 : t = s
      · subst e2; omega
      · exact .inr ⟨e.1, by omega⟩)
  none := fun t ht hd => h.none t ht (by unfold done at *; omega)
  no := fun e => by rw [acc_step l hk hs, if_neg hne]; exact h.no e
  yes := fun e => by rw [acc_step l hk hs, if_neg hne]; exact h.yes e
def nextW (any : Bool) (nx was k : Nat) : Nat := if any then (nx + 1) * 2 ^ (k - was) else nx
theorem Words.next (h : Words l k s nx was any O) (hk : 1 ≤ k) (hk15 : k ≤ 15) (hs : lenAt l s = k) : nextW any nx was k = word l s ∧ nextW any nx was k * 2 ^ (15 - k) = acc l k s := by
  have h1 : nextW any nx was k * 2 ^ (15 - k) = acc l k s := by
    unfold nextW
    cases any with
    | false =>
      obtain ⟨h2, h3⟩ := h.no rfl
      rw [h2, h3]
      simp
    | true =>
      obtain ⟨h2, h3, h4⟩ := h.yes rfl
      rw [if_pos rfl, ← h2, Nat.mul_assoc, ← Nat.pow_add, show k - was + (15 - k) = 15 - was by omega]
  refine ⟨?_, h1⟩
  unfold word
  rw [if_neg (by omega), hs, ← h1, Nat.mul_div_cancel _ (Nat.pow_pos (by omega))]
theorem Words.put (h : Words l k s nx was any O) (hk : 1 ≤ k) (hk15 : k ≤ 15) (hls : s < l.length) (hs : lenAt l s = k) : Words l k (s + 1) (nextW any nx was k) k true (O.set s (nextW any nx was k)) := by
  obtain ⟨h1, h2⟩ := h.next hk hk15 hs
  refine ⟨by rw [List.length_set, h.len], fun t ht hd => ?_, fun t ht hd => ?_, (fun e => by cases e), fun _ => ⟨?_, hk, Nat.le_refl _⟩⟩
  · by_cases e : s = t
    · subst e
      rw [List.getD_eq_getElem?_getD, List.getElem?_set_self (by rw [h.len]; exact ht), Option.getD_some, h1]
    · rw [List.getD_eq_getElem?_getD, List.getElem?_set_ne e, ← List.getD_eq_getElem?_getD]
      exact h.told t ht (by unfold done at *; omega)
  · have e : s ≠ t := fun e => hd (by subst e; unfold done; omega)
    rw [List.getD_eq_getElem?_getD, List.getElem?_set_ne e, ← List.getD_eq_getElem?_getD]
    exact h.none t ht (by unfold done at *; omega)
  · rw [acc_step l hk hls, if_pos hs, Nat.add_mul, h2, Nat.one_mul]
theorem Words.small (h : Words l k s nx was any O) (hr : right l = true) : nx < 32768 := by
  cases any with
  | false => rw [(h.no rfl).2]; decide
  | true =>
    have h1 := (h.yes rfl).1
    have h2 := acc_le l k s
    have h3 := (right_facts hr).2.2
    have h4 : 0 < 2 ^ (15 - was) := Nat.pow_pos (by omega)
    have h5 : (nx + 1) * 1 ≤ (nx + 1) * 2 ^ (15 - was) := Nat.mul_le_mul_left _ h4
    omega
theorem Words.all (h : Words l 16 0 nx was any O) (hr : right l = true) : O = codesL l := by
  have h15 := (right_facts hr).2.1
  refine List.ext_getElem (by rw [h.len]; simp [codesL]) fun t h1 h2 => ?_
  have ht : t < l.length := by rw [← h.len]; exact h1
  have e1 : (codesL l)[t] = word l t := by simp [codesL]
  rw [e1]
  have e2 : O[t] = O.getD t 0 := by rw [List.getD_eq_getElem?_getD, List.getElem?_eq_getElem h1]; rfl
  rw [e2]
  by_cases h0 : lenAt l t = 0
  · rw [h.none t ht (by unfold done; omega)]
    unfold word
    rw [if_pos h0]
  · exact h.told t ht (by have := h15 t ht; unfold done; omega)
end
end Go.Proofs.Ytaohdnhfodkeoaa.Can
namespace Go.Proofs.Ytaohdnhfodkeoaa
open Go.RowKit
def h16V (x : Nat) : Value := .int .u16 (x : Int)
def OwnH (w : World) (base : Nat) (v : Value) (L : List Nat) : Prop := w.ownsRow base 111 1 v L.length (L.map h16V)
theorem h16_info : (Try.prog.info? 111).map (fun i => (i.zero, i.size, i.bytes)) = some (some (.int .u16 0), 1, 2) := by kernel_rfl
section
variable {w w' : World} {base g n c : Nat} {v : Value} {L : List Nat}
theorem OwnH.nil (w : World) (base : Nat) : OwnH w base (.slice none 0 0) [] := World.ownsRow_nil w base _ _
theorem OwnH.ext (h : OwnH w base v L) (hE : Ext w w') : OwnH w' base v L := World.ownsRow.kept h (hE.grown none) (by cases hv : v.ownBlock <;> simp)
theorem OwnH.lt (h : OwnH w base v L) : ∀ k, v.ownBlock = some k → base ≤ k ∧ k < w.heap.size := World.ownsRow.lt h
theorem OwnH.mono {b' : Nat} (h : OwnH w base v L) (hb : b' ≤ base) : OwnH w b' v L := ⟨h.1, h.2.imp_right fun ⟨g, cap, cur, e, hg, r⟩ => ⟨g, cap, cur, e, Nat.le_trans hb hg, r⟩⟩
theorem OwnH.form (h : OwnH w base v L) : ∃ A c, v = .slice A L.length c ∧ L.length ≤ c ∧ c ≤ maxLen ∧ (L.length = 0 ∨ ∃ g, A = some ⟨g, 0, none⟩ ∧ base ≤ g ∧ g < w.heap.size) := by
  rcases h.2 with ⟨rfl, h0⟩ | ⟨g, cap, cur, rfl, hb, hg, hn, hc, hs, ht⟩
  · exact ⟨none, 0, by rw [h0], by omega, by unfold maxLen; omega, .inl h0⟩
  · exact ⟨_, cap, rfl, hn, hc, .inr ⟨g, rfl, hb, (Array.getElem?_eq_some_iff.1 hg).1⟩⟩
theorem OwnH.cell (h : OwnH w base (.slice (some ⟨g, 0, none⟩) L.length c) L) {i : Nat} (hi : i < L.length) :
    w.cell? ⟨g, i, none⟩ = some (.int .u16 ((L.getD i 0 : Nat) : Int)) ∧ w.frozen? ⟨g, i, none⟩ = false := by
  refine ⟨?_, World.ownsRow.frozenAt h i⟩
  rw [World.ownsRow.cellAt h i (by omega)]
  simp [h16V, hi]
theorem OwnH.set (h : OwnH w base (.slice (some ⟨g, 0, none⟩) L.length c) L) (i x : Nat) :
    OwnH (w.setCell ⟨g, i, none⟩ (.int .u16 (x : Int))) base (.slice (some ⟨g, 0, none⟩) L.length c) (L.set i x) := by
  have := (World.ownsRow.stored h i (.int .u16 (x : Int))).1
  unfold OwnH
  rw [List.length_set, List.map_set]
  exact this
end
section
variable {o : Oper} {a : Act} {Q : Exit → Act → World → Prop} {w : World} {base : Nat} {v : Value} {L : List Nat}
theorem wpList_appH {ops : Array Oper} {rest : List Oper} (hgd : o.guard = none) (s x : Operand) (ho : o.op = .call { callee := .builtin .append, args := #[s, x], argTypes := #[72, 72] }) (hs : a.eval s = v) (p : Nat)
    (hown : OwnH (w.alloc (.cells #[.int .u16 (p : Int)] 111)) base v L) {c : Nat} (hx : a.eval x = .slice (some ⟨w.heap.size, 0, none⟩) 1 c) (hlen : L.length ≤ 1000) (hbase : base ≤ w.heap.size)
    (h : ∀ v' w', OwnH w' base v' (L ++ [p]) → (w.alloc (.cells #[.int .u16 (p : Int)] 111)).grownBy w' v.ownBlock → wpList Try.prog ops Q rest (a.put o.dst v') w') :
    wpList Try.prog ops Q (o :: rest) a (w.alloc (.cells #[.int .u16 (p : Int)] 111)) := by
  obtain ⟨i, hi, hz, hsz, hby⟩ := info_parts h16_info
  refine wpList_append_own_at _ hgd s x 72 ho base 111 i _ 1 2 Try.underlying72 hi hz hsz hby rfl (by omega) v L.length (L.map h16V) hs hown ⟨w.heap.size, 0, none⟩ 1 c [.int .u16 (p : Int)] hx rfl (by
    intro j u hu
    match j, hu with
    | 0, hu =>
      have : (⟨w.heap.size, 0, none⟩ : Addr).add 0 = ⟨w.heap.size, 0, none⟩ := rfl
      rw [this, cellNew]
      simpa using hu
    | j + 1, hu => simp at hu) (by
    intro u hu
    simp at hu
    subst hu
    rfl) (by unfold maxLen; omega) (by omega) (by simp; omega) ?_
  intro v' w' h2 h3 _ h5
  refine h v' w' ?_ h3
  unfold OwnH
  rw [List.length_append, List.map_append]
  exact h2
end
end Go.Proofs.Ytaohdnhfodkeoaa

namespace Go.Proofs.Ytaohdnhfodkeoaa
open Go.RowKit Len Can
def TellsH (w : World) (r : List Nat × Int) (e : Ending) (w' : World) : Prop := ∃ v, e = .returned (.tuple #[v, .int .i64 r.2]) ∧ OwnH w' w.heap.size v r.1 ∧ Ext w w'
set_option maxHeartbeats 4000000 in
set_option maxRecDepth 100000 in
theorem refCodes_any (A : Option Addr) (n c : Nat) (l : List UInt8) (w : World) (h : Bytes w w.heap.size A n l) : Calls Try.prog 58 #[.slice A n c] w (TellsH w (codesE l)) := by
  have hl := h.1
  subst hl
  have C1 := refCheck_any A l.length c l w h
  cases hr : right l with
  | false =>
    have HN := hide (show codesE l = ([], 7) by unfold codesE; rw [hr]; rfl)
    rw [check_wrong hr] at C1
    generalize codesE l = res at *
    clear hr h
    go_enter Try.func58, Try.ntmps58
    go_wp2_with fail
    refine C1.mono ?_
    rintro e w2 ⟨rfl, hE⟩
    go_wp2
    go_ret2
    rw [HN.out]
    exact ⟨_, rfl, OwnH.nil _ _, hE⟩
  | true =>
    have HN := hide (show codesE l = (codesL l, 0) by unfold codesE; rw [hr]; rfl)
    rw [check_right hr] at C1
    obtain ⟨h300, h15, _⟩ := right_facts hr
    have HR := hide hr
    have H15 := hide h15
    have HSt := hide (Words.start (l := l))
    generalize codesE l = res at *
    clear hr h15
    obtain ⟨N, hN⟩ : ∃ N, N = l.length := ⟨_, rfl⟩
    have HNl := hide hN
    rw [← hN] at C1 h300 ⊢
    rw [← hN] at h
    have HB := hide h
    clear hN h
    go_enter Try.func58, Try.ntmps58
    go_wp2_with fail
    refine C1.mono ?_
    rintro e w2 ⟨rfl, hE⟩
    clear C1
    go_wp2_with fail
    go_loopw [4, 5] (fun a b wr => ∃ k : Nat, k ≤ N ∧ b = .int .i64 (k : Int) ∧ OwnH wr w.heap.size a (List.replicate k 0) ∧ Ext w wr) (fun _ b _ => N - (intOf b).toNat)
    case atStart => exact ⟨0, by omega, rfl, OwnH.nil _ _, hE⟩
    case round =>
      obtain ⟨k, hk, rfl, hO, hE2⟩ := hrel
      by_cases hkj : k < N
      · have hkI : (k : Int) < (N : Int) := by omega
        have hEa := extNew wr (.cells #[.int .u16 0] 111)
        have hOa := hO.ext hEa
        have hsb := hE2.le
        have hl0 : (List.replicate k (0 : Nat)).length ≤ 1000 := by simp; omega
        go_wp2_with (at_builtin; refine wpList_appH rfl (.tmp 21) (.tmp 22) rfl rfl 0 hOa rfl hl0 hsb ?_; intro v5 w5 hO5 hG5)
        have hE5 : Ext w w5 := Below.grown (hE2.trans hEa) hG5 (hE2.trans hEa).le (fun k hk => (hO.lt k hk).1)
        have e : List.replicate k (0 : Nat) ++ [0] = List.replicate (k + 1) 0 := List.replicate_succ'.symm
        rw [e] at hO5
        go_roundw
        case rel => exact ⟨k + 1, by omega, by go_num, hO5, hE5⟩
        case measure => simp [intOf]; omega
      · obtain rfl : N = k := by omega
        clear hkj hk
        have hst := HSt.out
        rw [← HNl.out] at hst
        obtain ⟨Z, hZ⟩ : ∃ Z, Z = List.replicate N (0 : Nat) := ⟨_, rfl⟩
        have hZl : Z.length = N := by rw [hZ]; simp
        rw [← hZ] at hO hst
        obtain ⟨Av, cv, rfl, hcv, _, hav⟩ := hO.form
        rw [hZl] at hcv ⊢
        have HO := hide hO
        have HS := hide hst
        have HZl := hide hZl
        clear hZ hO hst hZl
        obtain ⟨wa, rfl⟩ : ∃ W, W = wr := ⟨_, rfl⟩
        go_wp2_with fail
        go_loopw [6, 7, 8, 9] (fun a b d x wq => ∃ (k nx was : Nat) (any : Bool) (O : List Nat), 1 ≤ k ∧ k ≤ 16 ∧ x = .int .i64 (k : Int) ∧ a = .int .i64 (nx : Int) ∧ b = .int .i64 (was : Int) ∧ d = .bool any ∧ Words l k 0 nx was any O ∧ OwnH wq w.heap.size (.slice Av N cv) O ∧ Ext w wq) (fun _ _ _ x _ => 17 - (intOf x).toNat)
        case atStart => exact ⟨1, 0, 0, false, Z, by omega, by omega, rfl, rfl, rfl, rfl, HS.out, by have := HO.out; rw [HZl.out] at this; exact this, hE2⟩
        case round =>
          obtain ⟨k, nx, was, any, O, hk1, hk16, rfl, rfl, rfl, rfl, hW, hO, hE3⟩ := hrel
          by_cases hk15 : k ≤ 15
          · have hkI : (k : Int) ≤ 15 := by omega
            have HW0 := hide hW
            have HO0 := hide hO
            obtain ⟨wb, rfl⟩ : ∃ W, W = wr := ⟨_, rfl⟩
            clear hW hO
            go_wp2_with fail
            go_loopw [6, 7, 8, 10] (fun a b d x wq => ∃ (s nx was : Nat) (any : Bool) (O : List Nat), s ≤ N ∧ x = .int .i64 (s : Int) ∧ a = .int .i64 (nx : Int) ∧ b = .int .i64 (was : Int) ∧ d = .bool any ∧ Words l k s nx was any O ∧ OwnH wq w.heap.size (.slice Av N cv) O ∧ Ext w wq) (fun _ _ _ x _ => N - (intOf x).toNat)
            case atStart => exact ⟨0, nx, was, any, O, Nat.zero_le _, rfl, rfl, rfl, rfl, HW0.out, HO0.out, hE3⟩
            case round =>
              clear HW0 HO0 hE3
              obtain ⟨s, nx, was, any, O, hs, rfl, rfl, rfl, rfl, hW, hO, hE3⟩ := hrel
              have hsm := hW.small HR.out
              have HW := hide hW
              have HO1 := hide hO
              by_cases hsN : s < N
              · have hsI : (s : Int) < (N : Int) := by omega
                rcases (hE3.bytes HB.out).2 with h0 | ⟨b, off, rfl, hbl, hc⟩
                · omega
                have hcell := hc s hsN
                have hy8 := UInt8.toNat_lt (l.getD s 0)
                obtain ⟨y, hy⟩ : ∃ y, y = lenAt l s := ⟨_, rfl⟩
                have hcl : wr.cell? ⟨b, off + s, none⟩ = some (.int .u8 (y : Int)) := by rw [hy]; exact hcell
                have hy8' : y < 256 := by rw [hy]; exact hy8
                have HY := hide hy
                clear hc hcell hy8 hy hW
                by_cases hyk : y = k
                · have hyb : ((y : Int) != (k : Int)) = false := by simp [hyk]
                  have HYk := hide hyk
                  clear hyk
                  have hput := HW.out.put hk1 hk15 (by rw [← HNl.out]; exact hsN) (by rw [← HY.out]; exact HYk.out)
                  have hpsm := hput.small HR.out
                  obtain ⟨gO, rfl, hgb, hgl⟩ : ∃ g, Av = some ⟨g, 0, none⟩ ∧ w.heap.size ≤ g ∧ g < wr.heap.size := by
                    obtain ⟨A9, c9, e9, _, _, h9⟩ := hO.form
                    simp only [Value.slice.injEq] at e9
                    obtain ⟨rfl, e10, rfl⟩ := e9
                    rcases h9 with h9 | ⟨g, e, hg⟩
                    · omega
                    · exact ⟨g, e, hg⟩
                  have hOl : O.length = N := by rw [HW.out.len, ← HNl.out]
                  rw [← hOl] at hO
                  obtain ⟨k1, k2⟩ := hO.cell (i := s) (by omega)
                  have hset := fun x => hO.set s x
                  rw [hOl] at hset
                  have HSet := hide hset
                  clear hset hO hOl
                  cases any with
                  | false =>
                    have hw16 : IntKind.u16.wrap (nx : Int) = (nx : Int) := by simp [IntKind.wrap, IntKind.bits, IntKind.signed]; omega
                    have hG := grown_setCell wr gO s (.int .u16 (nx : Int))
                    have HPut := hide hput
                    clear hput
                    go_wp2
                    go_roundw
                    case rel => exact ⟨s + 1, nx, k, true, O.set s nx, by omega, by go_num, rfl, rfl, rfl, HPut.out, HSet.out nx, Below.grown hE3 hG hE3.le (fun j hj => by cases hj; exact hgb)⟩
                    case measure => simp [intOf]; omega
                  | true =>
                    have hy3 := HW.out.yes rfl
                    have HPut := hide hput
                    have hwk : was ≤ k := hy3.2.2
                    have hw1 : 1 ≤ was := hy3.2.1
                    clear hput hy3
                    obtain ⟨wc, rfl⟩ : ∃ W, W = wr := ⟨_, rfl⟩
                    have HSm := hide (show ∀ j, j ≤ k → was ≤ j → (nx + 1) * 2 ^ (j - was) ≤ 32768 from fun j hj1 hj2 => by
                      have h1 : nextW true nx was k < 32768 := hpsm
                      unfold nextW at h1
                      rw [if_pos rfl] at h1
                      have h2 : 2 ^ (j - was) ≤ 2 ^ (k - was) := Nat.pow_le_pow_right (by omega) (by omega)
                      have h3 := Nat.mul_le_mul_left (nx + 1) h2
                      omega)
                    go_wp2_with fail
                    go_loopw [6, 11] (fun a x wq => ∃ j v : Nat, was ≤ j ∧ j ≤ k ∧ x = .int .i64 (j : Int) ∧ a = .int .i64 (v : Int) ∧ v = (nx + 1) * 2 ^ (j - was) ∧ wq = wc) (fun _ x _ => k - (intOf x).toNat)
                    case atStart => exact ⟨was, nx + 1, Nat.le_refl _, hwk, rfl, by go_num, by simp, rfl⟩
                    case round =>
                      obtain ⟨j, v, hj1, hj2, rfl, rfl, hv, rfl⟩ := hrel
                      have hvs : v ≤ 32768 := by rw [hv]; exact HSm.out j hj2 hj1
                      by_cases hjk : j < k
                      · have hjI : (j : Int) < (k : Int) := by omega
                        have HV := hide (show 2 * v = (nx + 1) * 2 ^ (j + 1 - was) by rw [hv, show j + 1 - was = (j - was) + 1 by omega, Nat.pow_succ, Nat.mul_comm 2, Nat.mul_assoc])
                        clear hv
                        go_wp2
                        go_roundw
                        case rel => exact ⟨j + 1, 2 * v, by omega, by omega, by go_num, by go_num, HV.out, trivial⟩
                        case measure => simp [intOf]; omega
                      · obtain rfl : j = k := by omega
                        have hv2 : v = nextW true nx was j := by unfold nextW; rw [if_pos rfl]; exact hv
                        have hP2 := HPut.out
                        rw [← hv2] at hP2
                        have HP2 := hide hP2
                        have hvl : v < 32768 := hP2.small HR.out
                        have hw16 : IntKind.u16.wrap (v : Int) = (v : Int) := by simp [IntKind.wrap, IntKind.bits, IntKind.signed]; omega
                        have hG := grown_setCell wr gO s (.int .u16 (v : Int))
                        clear hv hv2 hP2
                        go_wp2
                        go_roundw
                        case rel => exact ⟨s + 1, v, j, true, O.set s v, by omega, by go_num, rfl, rfl, rfl, HP2.out, HSet.out v, Below.grown hE3 hG hE3.le (fun j hj => by cases hj; exact hgb)⟩
                        case measure => simp [intOf]; omega
                · have hyb : ((y : Int) != (k : Int)) = true := by simp; omega
                  have HP := hide (HW.out.pass hk1 (by rw [← HNl.out]; exact hsN) (by rw [← HY.out]; exact hyk))
                  clear hO
                  go_wp2
                  go_roundw
                  case rel => exact ⟨s + 1, nx, was, any, O, by omega, by go_num, rfl, rfl, rfl, HP.out, HO1.out, hE3⟩
                  case measure => simp [intOf]; omega
              · have hs2 : s = N := by omega
                have hnI : ¬ (s : Int) < (N : Int) := by omega
                have hW2 := HW.out
                rw [hs2, HNl.out] at hW2
                have HP := hide hW2.turn
                clear hW2 hW hO hs2
                go_wp2
                go_roundw
                case rel => exact ⟨k + 1, nx, was, any, O, by omega, by omega, by go_num, rfl, rfl, rfl, HP.out, HO1.out, hE3⟩
                case measure => simp [intOf]; omega
          · obtain rfl : k = 16 := by omega
            have hOe := hW.all HR.out
            have HOe := hide hOe
            have HO1 := hide hO
            clear hW hO hOe
            go_wp2
            go_ret2
            rw [HN.out]
            exact ⟨_, rfl, by rw [← HOe.out]; exact HO1.out, hE3⟩
end Go.Proofs.Ytaohdnhfodkeoaa

namespace Go.Proofs.Ytaohdnhfodkeoaa
open Go.RowKit Len Can Huf
def H16At (w : World) (B : Nat) (A : Option Addr) (n : Nat) (L : List Nat) : Prop :=
  L.length = n ∧ (n = 0 ∨ ∃ b off, A = some ⟨b, off, none⟩ ∧ b < B ∧ ∀ i, i < n → w.cell? ⟨b, off + i, none⟩ = some (.int .u16 ((L.getD i 0 : Nat) : Int)))
theorem H16At.below {w w' : World} {B C : Nat} {A : Option Addr} {n : Nat} {L : List Nat} (h : H16At w B A n L) (hb : Below C w w') (hC : B ≤ C) : H16At w' B A n L := by
  refine ⟨h.1, ?_⟩
  rcases h.2 with h0 | ⟨b, off, hA, hB, hc⟩
  · exact .inl h0
  · exact .inr ⟨b, off, hA, hB, fun i hi => by rw [hb.cell (p := ⟨b, off + i, none⟩) (Nat.lt_of_lt_of_le hB hC)]; exact hc i hi⟩
theorem H16At.mono {w : World} {B C : Nat} {A : Option Addr} {n : Nat} {L : List Nat} (h : H16At w B A n L) (hC : B ≤ C) : H16At w C A n L := by
  refine ⟨h.1, ?_⟩
  rcases h.2 with h0 | ⟨b, off, hA, hB, hc⟩
  · exact .inl h0
  · exact .inr ⟨b, off, hA, Nat.lt_of_lt_of_le hB hC, hc⟩
theorem OwnH.reads {w : World} {base : Nat} {v : Value} {L : List Nat} (h : OwnH w base v L) : ∃ A c, v = .slice A L.length c ∧ L.length ≤ c ∧ c ≤ maxLen ∧ H16At w w.heap.size A L.length L := by
  obtain ⟨A, c, rfl, hc, hm, hA⟩ := h.form
  refine ⟨A, c, rfl, hc, hm, rfl, ?_⟩
  rcases hA with h0 | ⟨g, rfl, hb, hg⟩
  · exact .inl h0
  · exact .inr ⟨g, 0, rfl, hg, fun i hi => by rw [Nat.zero_add]; exact (h.cell hi).1⟩
def RefCod (w : World) (B : Nat) (v : Value) (l : List UInt8) : Prop :=
  ∃ A1 c1 A2 c2, v = .agg #[.slice A1 l.length c1, .slice A2 l.length c2] ∧ l.length ≤ c1 ∧ c1 ≤ maxLen ∧ Bytes w B A1 l.length l ∧ H16At w B A2 l.length (codesL l)
def RefCodR (w : World) (lo hi : Nat) (v : Value) (l : List UInt8) : Prop :=
  ∃ A1 c1 A2 c2, v = .agg #[.slice A1 l.length c1, .slice A2 l.length c2] ∧ OwnB w lo (.slice A1 l.length c1) l ∧ OwnH w lo (.slice A2 l.length c2) (codesL l) ∧
    (∀ k, Value.ownBlock (.slice A1 l.length c1) = some k → k < hi) ∧ (∀ k, Value.ownBlock (.slice A2 l.length c2) = some k → k < hi)
theorem RefCodR.mod {w w' : World} {lo hi g : Nat} {ob : Option Nat} {v : Value} {l : List UInt8} (h : RefCodR w lo hi v l) (hM : Mod w w' g ob) (hg : g < lo ∨ hi ≤ g) (ho : ∀ k, ob = some k → k < lo ∨ hi ≤ k) : RefCodR w' lo hi v l := by
  obtain ⟨A1, c1, A2, c2, e, h1, h2, h3, h4⟩ := h
  have far : ∀ x : Value, (∀ k, x.ownBlock = some k → lo ≤ k ∧ k < hi) → x.ownBlock ≠ some g ∧ (x.ownBlock = none ∨ x.ownBlock ≠ ob) := fun x hx => by
    refine ⟨fun e => by have := hx g e; omega, ?_⟩
    cases hv : x.ownBlock with
    | none => exact .inl rfl
    | some k =>
      refine .inr fun e => ?_
      have := hx k hv
      have := ho k e.symm
      omega
  obtain ⟨a1, a2⟩ := far _ (fun k hk => ⟨(h1.lt k hk).1, h3 k hk⟩)
  obtain ⟨b1, b2⟩ := far _ (fun k hk => ⟨(h2.lt k hk).1, h4 k hk⟩)
  refine ⟨A1, c1, A2, c2, e, hM.own h1 a1 a2, ⟨h2.1, ?_⟩, h3, h4⟩
  rcases h2.2 with hn | ⟨x, cap, cur, e2, hb, hgg, rest⟩
  · exact .inl hn
  · rw [e2] at b1 b2
    refine .inr ⟨x, cap, cur, e2, hb, ?_, rest⟩
    rw [hM.block x (Array.getElem?_eq_some_iff.1 hgg).1 (fun e3 => b1 (by subst e3; rfl)) (fun e3 => by
      rcases b2 with b2 | b2
      · simp [Value.ownBlock] at b2
      · exact b2 (by simpa [Value.ownBlock] using e3))]
    exact hgg
theorem RefCodR.ext {w w' : World} {lo hi : Nat} {v : Value} {l : List UInt8} (h : RefCodR w lo hi v l) (hE : Ext w w') : RefCodR w' lo hi v l := by
  obtain ⟨A1, c1, A2, c2, e, h1, h2, h3, h4⟩ := h
  exact ⟨A1, c1, A2, c2, e, h1.ext hE, h2.ext hE, h3, h4⟩
def RefNewR (w : World) (l : List UInt8) (e : Ending) (w' : World) : Prop :=
  ∃ v, e = .returned (.tuple #[v, .int .i64 (checkE l)]) ∧ (right l = true → RefCodR w' w.heap.size w'.heap.size v l) ∧ (right l = false → v = .agg #[.slice none 0 0, .slice none 0 0]) ∧ Ext w w'
theorem Can.codesL_len (l : List UInt8) : (codesL l).length = l.length := by simp [codesL]
theorem Can.codesL_at {l : List UInt8} {i : Nat} (hi : i < l.length) : (codesL l).getD i 0 = word l i := by simp [codesL, List.getD_eq_getElem?_getD, hi]
theorem RefCodR.cod {w : World} {lo hi : Nat} {v : Value} {l : List UInt8} (h : RefCodR w lo hi v l) : RefCod w w.heap.size v l := by
  obtain ⟨A1, c1, A2, c2, e, h1, h2, _, _⟩ := h
  obtain ⟨A7, c7, e7, h7c, h7m, h7⟩ := h1.form
  simp only [Value.slice.injEq] at e7
  obtain ⟨rfl, _, rfl⟩ := e7
  obtain ⟨A8, c8, e8, _, _, h8⟩ := OwnH.reads h2
  simp only [Value.slice.injEq] at e8
  obtain ⟨rfl, _, rfl⟩ := e8
  rw [codesL_len] at h8
  exact ⟨_, _, _, _, e, h7c, h7m, h7, h8⟩
end Go.Proofs.Ytaohdnhfodkeoaa

namespace Go.Proofs.Ytaohdnhfodkeoaa
open Go.RowKit Len Can Huf
theorem cod_info : (Try.prog.info? 74).map (·.size) = some 2 := by kernel_rfl
theorem two_slices (A1 : Option Addr) (n1 c1 : Nat) (A2 : Option Addr) (n2 c2 : Nat) : (#[.slice A1 n1 c1, .slice A2 n2 c2] : Array Value).all (·.oneCell') = true := by
  simp
  exact ⟨rfl, rfl⟩
set_option maxHeartbeats 1000000 in
set_option maxRecDepth 100000 in
theorem refNew9R_any (A : Option Addr) (n c : Nat) (l : List UInt8) (w : World) (h : Bytes w w.heap.size A n l) : Calls Try.prog 37 #[.slice A n c] w (RefNewR w l) := by
  have hl := h.1
  subst hl
  have hE1 := extNew w (.cells #[.slice none 0 0, .slice none 0 0] 74)
  have hW1 := Whole.new w 74 #[.slice none 0 0, .slice none 0 0]
  have C1 := refCodes_any A l.length c l _ (hE1.bytes h)
  cases hr : right l with
  | false =>
    have HN := hide (check_wrong hr)
    have HR := hide hr
    rw [show codesE l = ([], 7) by unfold codesE; rw [hr]; rfl] at C1
    clear h hr
    go_enter Try.func37, Try.ntmps37
    go_wp2_with fail
    refine C1.mono ?_
    rintro e w2 ⟨v, rfl, hO, hE2⟩
    obtain ⟨A2, c2, rfl, _⟩ := hO.reads
    have hW2 := hW1.ext hE2
    clear C1 hO
    go_wp2_with (refine wpList_storeW rfl 74 (.tmp 2) (.tmp 13) rfl rfl rfl hW2 rfl cod_info (two_slices ..) ?_; intro w5 hW5 hG5 _)
    refine bodyPost_ret (results_row2 rfl _ rfl rfl (run_loadVar_row _ _ _ _ _ _ _ hW5 Try.underlying74 rfl cod_info)) rfl ?_
    have hE := hE1.trans hE2
    exact ⟨_, by rw [HN.out]; rfl, (fun h => by rw [HR.out] at h; cases h), fun _ => rfl, Below.grown hE hG5 hE.le (fun k hk => by cases hk; exact Nat.le_refl _)⟩
  | true =>
    have HN := hide (check_right hr)
    have HR := hide hr
    have hl300 := (right_facts hr).1
    rw [show codesE l = (codesL l, 0) by unfold codesE; rw [hr]; rfl] at C1
    have HB := hide (hE1.bytes h)
    clear h hr
    go_enter Try.func37, Try.ntmps37
    go_wp2_with fail
    refine C1.mono ?_
    rintro e w2 ⟨v, rfl, hO, hE2⟩
    have hO := hO
    obtain ⟨A2, c2, rfl, h2c, h2m, h2⟩ := hO.reads
    have HO := hide hO
    have HL := hide (codesL_len l)
    rw [HL.out] at h2 h2c
    have H2 := hide h2
    rw [HL.out]
    have hb2 := hE2.bytes HB.out
    have hE3 := extNew w2 (.cells #[] 5)
    have hO3 := OwnB.empty w2 (base := w2.heap.size) (Nat.le_refl _)
    have hb3 := hE3.bytes hb2
    have hW3 := (hW1.ext hE2).alloc (.cells #[] 5)
    have hlen : ([] : List UInt8).length + l.length ≤ 140737488355328 := by simp; omega
    have hlt1 : w.heap.size < w2.heap.size := by have := hE2.le; rw [World.size_alloc] at this; omega
    have hne5 : ∀ u : Unit, Value.ownBlock (.slice (some ⟨w2.heap.size, 0, none⟩) 0 0) ≠ some w.heap.size := fun _ => by simp [Value.ownBlock]; omega
    clear C1 hO h2 hb2
    go_wp2_with (first
      | (at_builtin; refine wpList_app rfl (.tmp 15) (.tmp 16) rfl rfl hO3 rfl hb3 hlen hE3.le ?_; intro v5 w5 hO5 hG5; simp only [List.nil_append] at hO5; have hW5 := hW3.ownGrown hG5 (hne5 ()); obtain ⟨A5, c5, rfl, h5c, h5m, h5⟩ := hO5.form)
      | (refine wpList_storeW rfl 74 (.tmp 2) (.tmp 19) rfl rfl rfl hW5 rfl cod_info (two_slices ..) ?_; intro w6 hW6 hG6 _))
    refine bodyPost_ret (results_row2 rfl _ rfl rfl (run_loadVar_row _ _ _ _ _ _ _ hW6 Try.underlying74 rfl cod_info)) rfl ?_
    have hG5' : (w2.alloc (.cells #[] 5)).grownBy w5 (some w2.heap.size) := hG5
    have hE := hE1.trans hE2
    have hE5 : Ext w w5 := Below.grown (hE.alloc (.cells #[] 5)) hG5' (hE.alloc (.cells #[] 5)).le (fun k hk => by cases hk; omega)
    have hO6 := (Mod.ofRow (ob := none) hG6).own hO5 (fun e => by have := (hO5.lt _ e).1; omega) (by cases Value.ownBlock (.slice A5 l.length c5) <;> simp)
    have hH := HO.out
    have hHl := hH.lt
    rw [World.size_alloc] at hHl
    have hH6 := World.ownsRow.kept (World.ownsRow.kept (hH.ext hE3) hG5' (by
      cases hv : Value.ownBlock (.slice A2 (codesL l).length c2) with
      | none => simp
      | some k => have := (hHl k hv).2; simp; omega)) hG6 (by
      cases hv : Value.ownBlock (.slice A2 (codesL l).length c2) with
      | none => simp
      | some k => have := (hHl k hv).1; simp; omega)
    refine ⟨_, by rw [HN.out]; rfl, fun _ => ?_, (fun h => by rw [HR.out] at h; cases h), Below.grown hE5 hG6 hE5.le (fun k hk => by cases hk; exact Nat.le_refl _)⟩
    have hH6' : OwnH w6 w.heap.size (.slice A2 (codesL l).length c2) (codesL l) := OwnH.mono hH6 (by rw [World.size_alloc]; omega)
    rw [HL.out] at hH6'
    have hO6' : OwnB w6 w.heap.size (.slice A5 l.length c5) l := ⟨hO6.1, hO6.2.imp_right fun ⟨g, cap, cur, e, hg, r⟩ => ⟨g, cap, cur, e, by omega, r⟩⟩
    exact ⟨_, _, _, _, rfl, hO6', hH6', fun k hk => (hO6'.lt k hk).2, fun k hk => (hH6'.lt k hk).2⟩
theorem Huf.put_bad {l : List UInt8} {s : Int} (h : fine l s = false) : putE l s = 13 := by unfold putE; rw [h]; rfl
theorem Huf.put_fine {l : List UInt8} {s : Int} (h : fine l s = true) : putE l s = 0 := by unfold putE; rw [if_pos h]
def Huf.putX (l : List UInt8) (s : Int) : List Bool := if fine l s then putB l s else []
set_option maxHeartbeats 2000000 in
set_option maxRecDepth 100000 in
theorem refPut9H_any {w : World} {base g : Nat} {ob : Option Nat} {B : List Bool} {v : Value} {l : List UInt8} (hv : RefCod w w.heap.size v l) (hr : right l = true) (h : RefW w base g ob (B.map bit8)) (s : Int) (hB : B.length ≤ 800000000) :
    Calls Try.prog 38 #[v, .pointer (some ⟨g, 0, none⟩), .int .i64 s] w (RefPuts w base g ob ((B ++ putX l s).map bit8) (putE l s)) := by
  obtain ⟨A1, c1, A2, c2, rfl, h1c, h1m, h1, h2⟩ := hv
  have hE1 := extNew w (.cells #[.slice A1 l.length c1, .slice A2 l.length c2] 74)
  have hW1 := Whole.new w 74 #[.slice A1 l.length c1, .slice A2 l.length c2]
  have d0 : (w.alloc (.cells #[.slice A1 l.length c1, .slice A2 l.length c2] 74)).cell? ⟨w.heap.size, 0, none⟩ = some (.slice A1 l.length c1) := hW1.at 0 rfl
  have d1 : (w.alloc (.cells #[.slice A1 l.length c1, .slice A2 l.length c2] 74)).cell? ⟨w.heap.size, 1, none⟩ = some (.slice A2 l.length c2) := hW1.at 1 rfl
  obtain ⟨h300, h15, _⟩ := right_facts hr
  have hbase := Nat.le_trans h.le (Nat.le_of_lt h.lt)
  have H := hide h
  have stay : ∀ e : Int, e = 13 → fine l s = false → RefPuts w base g ob ((B ++ putX l s).map bit8) (putE l s) (.returned (.int .i64 e)) (w.alloc (.cells #[.slice A1 l.length c1, .slice A2 l.length c2] 74)) := fun e he hf => by
    subst he
    refine ⟨by rw [Huf.put_bad hf], ob, ?_, .inl rfl, Mod.ofExt hE1⟩
    unfold putX
    rw [hf, if_neg (by simp), List.append_nil]
    exact H.out.ext hE1
  have HStay := hide stay
  clear stay h
  obtain ⟨G, hG⟩ : ∃ G, G = (B ++ putX l s).map bit8 := ⟨_, rfl⟩
  rw [← hG] at HStay ⊢
  have HG := hide hG
  clear hG
  by_cases h0 : s < 0
  · have hf : fine l s = false := decide_eq_false (by omega)
    have HK := hide (HStay.out 13 rfl hf)
    clear HStay hf hW1
    go_enter Try.func38, Try.ntmps38
    go_wp2
    go_ret
    exact HK.out
  obtain ⟨k, rfl⟩ := Int.eq_ofNat_of_zero_le (show 0 ≤ s by omega)
  by_cases hk : k < l.length
  · have hkI : (k : Int) < (l.length : Int) := by omega
    rcases h1.2 with hn | ⟨b1, o1, rfl, hb1, hc1⟩
    · omega
    rcases h2.2 with hn | ⟨b2, o2, rfl, hb2, hc2⟩
    · omega
    have e1 : (w.alloc (.cells #[.slice (some ⟨b1, o1, none⟩) l.length c1, .slice (some ⟨b2, o2, none⟩) l.length c2] 74)).cell? ⟨b1, o1 + k, none⟩ = some (.int .u8 ((lenAt l k : Nat) : Int)) := (hE1.cell (i := o1 + k) (by omega)).trans (hc1 k hk)
    have e2 : (w.alloc (.cells #[.slice (some ⟨b1, o1, none⟩) l.length c1, .slice (some ⟨b2, o2, none⟩) l.length c2] 74)).cell? ⟨b2, o2 + k, none⟩ = some (.int .u16 ((word l k : Nat) : Int)) := by
      rw [hE1.cell (i := o2 + k) (by omega), hc2 k hk, codesL_at hk]
    have hy15 := h15 k hk
    by_cases y0 : lenAt l k = 0
    · have hf : fine l (k : Int) = false := decide_eq_false (by rw [Int.toNat_natCast]; omega)
      have HK := hide (HStay.out 13 rfl hf)
      rw [y0] at e1
      change World.cell? _ ⟨b1, o1 + k, none⟩ = some (.int .u8 0) at e1
      clear HStay hf hW1 hc1 hc2 h1 h2 e2 y0 hy15
      go_enter Try.func38, Try.ntmps38
      go_wp2
      go_ret
      exact HK.out
    · have hf : fine l (k : Int) = true := decide_eq_true (by rw [Int.toNat_natCast]; omega)
      have hw := word_fits hr hk y0
      have hwl := word_lt hr hk
      have CP := fun W (hW : RefW W base g ob (B.map bit8)) => refPut_any hW (word l k) ((lenAt l k : Nat) : Int) (by omega) (by simp; omega)
      have hg := Bit.put_good (x := word l k) (n := ((lenAt l k : Nat) : Int)) (decide_eq_true ⟨by omega, by omega, by rw [Int.toNat_natCast]; exact hw⟩)
      simp only [hg.1, hg.2, Int.toNat_natCast] at CP
      have HX := hide (show putX l (k : Int) = Bit.num (word l k) (lenAt l k) by unfold putX; rw [if_pos hf]; unfold putB; rw [Int.toNat_natCast])
      have HE := hide (Huf.put_fine hf)
      have hyb : ((lenAt l k : Int) == 0) = false := by rw [beq_eq_false_iff_ne]; omega
      clear HStay hf hW1 hc1 hc2 h1 h2 hg
      generalize word l k = x at *
      generalize lenAt l k = y at *
      go_enter Try.func38, Try.ntmps38
      go_wp2_with fail
      generalize w.alloc (.cells #[.slice (some ⟨b1, o1, none⟩) l.length c1, .slice (some ⟨b2, o2, none⟩) l.length c2] 74) = w1 at *
      go_still_tail 13, (by kernel_rfl)
      change wpList _ _ _ _ _ (World.drew _)
      go_wp2_with fail
      refine (CP _ (H.out.ext hE1.drew)).mono ?_
      rintro e w2 ⟨rfl, ob2, hR2, hN2, hM2⟩
      go_wp2
      go_ret
      refine ⟨ret_i64 HE.out.symm, ob2, ?_, (NewOb.same w ob).trans hE1.le hN2, (Mod.ofExt hE1.drew).trans hM2 (.inl rfl)⟩
      rw [HG.out, HX.out, List.map_append]
      exact hR2
  · have hf : fine l (k : Int) = false := decide_eq_false (by omega)
    have hkI : ¬ (k : Int) < (l.length : Int) := by omega
    have HK := hide (HStay.out 13 rfl hf)
    clear HStay hf hW1
    go_enter Try.func38, Try.ntmps38
    go_wp2
    go_ret
    exact HK.out
end Go.Proofs.Ytaohdnhfodkeoaa

namespace Go.Proofs.Ytaohdnhfodkeoaa
open Go.RowKit
theorem Bit.val_bit (f : Nat → Bool) : ∀ n j, j < n → (Bit.val f n).testBit (n - 1 - j) = f j
  | n + 1, j, h => by
    rw [Bit.val]
    have hb : (2 * Bit.val f n + (f n).toNat) / 2 = Bit.val f n := by cases f n <;> simp <;> omega
    rcases Nat.lt_or_ge j n with hj | hj
    · rw [show n + 1 - 1 - j = (n - 1 - j) + 1 by omega, Nat.testBit_succ, hb]
      exact Bit.val_bit f n j hj
    · obtain rfl : j = n := by omega
      rw [show j + 1 - 1 - j = 0 by omega, Nat.testBit_zero]
      cases f j <;> simp
def Bit.Front (l : List UInt8) (B : List Bool) (m : Nat) : Prop := l.length = m ∧ ∀ t, t < 8 * m → Bit.at_ l t = B.getD t false
theorem Bit.Front.next {l : List UInt8} {B : List Bool} {m : Nat} (h : Bit.Front l B m) : Bit.Front (l ++ [UInt8.ofNat (Bit.val (fun t => B.getD (8 * m + t) false) 8)]) B (m + 1) := by
  obtain ⟨hl, hb⟩ := h
  refine ⟨by simp [hl], fun t ht => ?_⟩
  have hv := Bit.val_lt (fun t => B.getD (8 * m + t) false) 8
  have h2 := Bit.val_bit (fun t => B.getD (8 * m + t) false) 8 (t % 8) (by omega)
  generalize Bit.val (fun t => B.getD (8 * m + t) false) 8 = X at *
  unfold Bit.at_
  rcases Nat.lt_or_ge t (8 * m) with h8 | h8
  · have h1 := hb t h8
    unfold Bit.at_ at h1
    rw [← h1]
    simp only [List.getD_eq_getElem?_getD]
    rw [List.getElem?_append_left (by omega)]
  · have h1 : t / 8 = m := by omega
    simp only [List.getD_eq_getElem?_getD]
    rw [h1, List.getElem?_append_right (by omega), hl, Nat.sub_self]
    simp only [List.getElem?_cons_zero, Option.getD_some]
    rw [UInt8.toNat_ofNat', Nat.mod_eq_of_lt hv]
    rw [show (8 : Nat) - 1 - t % 8 = 7 - t % 8 by omega] at h2
    rw [h2, show 8 * m + t % 8 = t by omega, List.getD_eq_getElem?_getD]
theorem Bit.Front.packs {l : List UInt8} {B : List Bool} {m : Nat} (h : Bit.Front l B m) (hm : m = (B.length + 7) / 8) : Bit.Packs l B := ⟨h.1.trans hm, fun i hi => h.2 i (by rw [← h.1]; exact hi)⟩
set_option maxHeartbeats 2000000 in
theorem refBytes_any {w : World} {base g : Nat} {ob : Option Nat} {B : List Bool} (h : RefW w base g ob (B.map bit8)) (hB : B.length ≤ 900000000) :
    Calls Try.prog 40 #[.pointer (some ⟨g, 0, none⟩)] w fun e w' => ∃ l, Bit.Packs l B ∧ MadeB w l e w' := by
  obtain ⟨v, hW, hO, hne, hb, rfl⟩ := h
  obtain ⟨A, c, rfl, hc, _, hbb⟩ := hO.form
  have hLn := hide (show (B.map bit8).length = B.length by simp)
  rw [hLn.out] at hW hbb hc
  have HW := hide hW
  have HBB := hide hbb
  clear hbb hO hne
  go_enter Try.func40, Try.ntmps40
  go_wp2
  go_loopw [3, 4, 5, 6] (fun o i _ _ wr => ∃ (m : Nat) (l : List UInt8), m ≤ (B.length + 7) / 8 ∧ i = .int .i64 ((8 * m : Nat) : Int) ∧ OwnB wr w.heap.size o l ∧ Bit.Front l B m ∧ Ext w wr) (fun _ i _ _ _ => B.length + 8 - (intOf i).toNat)
  case atStart => exact ⟨0, [], by omega, rfl, OwnB.nil _ _, ⟨rfl, fun t ht => by omega⟩, Ext.refl _⟩
  case round =>
    obtain ⟨m, l, hm, rfl, hOl, hF, hE⟩ := hrel
    have d0 : wr.cell? ⟨g, 0, none⟩ = some (.slice A B.length c) := (HW.out.ext hE).at 0 rfl
    have HF := hide hF
    by_cases hlt : 8 * m < B.length
    · have HC := hide ((hE.bytes HBB.out).2)
      go_wp2
      go_loop [5, 6] (fun x k => ∃ d : Nat, d ≤ 8 ∧ x = .int .i64 (Bit.val (fun t => B.getD (8 * m + t) false) d : Nat) ∧ k = .int .i64 ((8 * m + d : Nat) : Int)) (fun _ k => 8 * m + 8 - (intOf k).toNat)
      case atStart => exact ⟨0, by omega, rfl, by simp⟩
      case round =>
        obtain ⟨d, hd, rfl, rfl⟩ := hrel
        by_cases hd8 : d < 8
        · have hv := Bit.val_lt (fun t => B.getD (8 * m + t) false) d
          have hv8 : Bit.val (fun t => B.getD (8 * m + t) false) d < 256 := Nat.lt_of_lt_of_le hv (show 2 ^ d ≤ 2 ^ 8 from Nat.pow_le_pow_right (by omega) (by omega))
          have HV := hide (show Bit.val (fun t => B.getD (8 * m + t) false) (d + 1) = 2 * Bit.val (fun t => B.getD (8 * m + t) false) d + (B.getD (8 * m + d) false).toNat from rfl)
          clear hv
          generalize Bit.val (fun t => B.getD (8 * m + t) false) d = X at *
          by_cases hk : 8 * m + d < B.length
          · have hcell := HC.out
            rcases hcell with h0 | ⟨b, off, rfl, hbl, hcell⟩
            · omega
            have hc1 := hcell (8 * m + d) hk
            have hget : (B.map bit8).getD (8 * m + d) 0 = bit8 (B.getD (8 * m + d) false) := by simp [List.getD_eq_getElem?_getD, hk]
            rw [hget, bit8_int] at hc1
            clear hcell hget
            generalize B.getD (8 * m + d) false = bt at *
            have hbt : bt.toNat ≤ 1 := by cases bt <;> simp
            go_wp2
            go_round
            case rel => exact ⟨d + 1, by omega, by rw [HV.out]; go_num, by go_num⟩
            case measure => simp [intOf]; omega
          · have hfar := Bit.getD_far B (8 * m + d) (by omega)
            rw [hfar] at HV
            go_wp2
            go_round
            case rel => exact ⟨d + 1, by omega, by rw [HV.out]; simp, by go_num⟩
            case measure => simp [intOf]; omega
        · obtain rfl : d = 8 := by omega
          have HN := hide (HF.out.next)
          have hv := Bit.val_lt (fun t => B.getD (8 * m + t) false) 8
          generalize Bit.val (fun t => B.getD (8 * m + t) false) 8 = X at *
          obtain ⟨bt, rfl⟩ : ∃ bt : UInt8, X = bt.toNat := ⟨UInt8.ofNat X, by rw [UInt8.toNat_ofNat']; omega⟩
          rw [UInt8.ofNat_toNat] at HN
          have hbt := bt.toNat_lt
          have hl := HF.out.1
          have hfit : l.length + 1 ≤ 140737488355328 := by omega
          have hb1 := bytesNew wr [bt] #[.int .u8 (bt.toNat : Int)] 5 (0, 0) rfl 1 rfl
          have hO1 := hOl.ext (extNew wr (.cells #[.int .u8 (bt.toNat : Int)] 5))
          have hE1 := hE.trans (extNew wr (.cells #[.int .u8 (bt.toNat : Int)] 5))
          have hB1 := hE1.le
          clear hl hF
          go_wp2_with (at_builtin; refine wpList_appAt rfl (.tmp 42) (.tmp 45) rfl rfl hO1 rfl hb1 hfit hB1 ?_; intro v2 w2 hO2 hG2 hN2)
          go_roundw
          case rel => exact ⟨m + 1, _, by omega, by go_num, hO2, HN.out, hO1.below hE1 hG2 hB1⟩
          case measure => simp [intOf]; omega
    · have hP := hide (HF.out.packs (by omega))
      go_wp2
      go_ret
      exact ⟨l, hP.out, _, rfl, hOl, hE⟩
end Go.Proofs.Ytaohdnhfodkeoaa

namespace Go.Proofs.Ytaohdnhfodkeoaa
open Go.RowKit
theorem newReader_any (A : Option Addr) (n c : Nat) (l : List UInt8) (w : World) (hc : n ≤ c) (hn : n ≤ 1000000) (hb : Bytes w w.heap.size A n l) :
    Calls Try.prog 59 #[.slice A n c] w fun e w' => ∃ g, e = .returned (.pointer (some ⟨g, 0, none⟩)) ∧ Rdr w' w.heap.size g l 0 ∧ Ext w w' := by
  have hll := hb.1
  subst hll
  go_enter Try.func59, Try.ntmps59
  go_wp2_with (go_at_call 74; refine (rowOf_any A _ c l _ hc (by omega) hb).mono ?_; rintro e w2 ⟨A2, c2, rfl, hb2, hE2⟩)
  go_ret
  refine ⟨w2.heap.size, rfl, ⟨A2, c2, ?_, hb2.below (belowNew w2 _) (Nat.le_refl _), by omega, by omega, hE2.le⟩, hE2.alloc _⟩
  rw [← show (8 : Int) * (l.length : Int) = ((8 * l.length : Nat) : Int) by omega]
  exact Whole.new w2 _ _
end Go.Proofs.Ytaohdnhfodkeoaa

namespace Go.Proofs.Ytaohdnhfodkeoaa
open Go.RowKit
theorem RefW.new (w : World) : RefW (w.alloc (.cells #[.slice none 0 0] 68)) w.heap.size w.heap.size none [] :=
  ⟨.slice none 0 0, Whole.new w _ _, OwnB.nil _ _, by simp [Value.ownBlock], Nat.le_refl _, rfl⟩
end Go.Proofs.Ytaohdnhfodkeoaa

namespace Go.Proofs.Ytaohdnhfodkeoaa
open Go.RowKit
def IntsAt (w : World) (B : Nat) (A : Option Addr) (n : Nat) (L : List Int) : Prop :=
  L.length = n ∧ (n = 0 ∨ ∃ b off, A = some ⟨b, off, none⟩ ∧ b < B ∧ ∀ i, i < n → w.cell? ⟨b, off + i, none⟩ = some (.int .i64 (L.getD i 0)))
theorem IntsAt.below {w w' : World} {B C : Nat} {A : Option Addr} {n : Nat} {L : List Int} (h : IntsAt w B A n L) (hb : Below C w w') (hC : B ≤ C) : IntsAt w' B A n L := by
  refine ⟨h.1, ?_⟩
  rcases h.2 with h0 | ⟨b, off, hA, hB, hc⟩
  · exact .inl h0
  · exact .inr ⟨b, off, hA, hB, fun i hi => by rw [hb.cell (p := ⟨b, off + i, none⟩) (Nat.lt_of_lt_of_le hB hC)]; exact hc i hi⟩
end Go.Proofs.Ytaohdnhfodkeoaa

namespace Go.Proofs.Ytaohdnhfodkeoaa
open Go.RowKit Len Can Huf
def PackTo (w : World) (r : List Bool × Int) (e : Ending) (w' : World) : Prop :=
  ∃ v l, e = .returned (.tuple #[v, .int .i64 r.2]) ∧ OwnB w' w.heap.size v l ∧ (r.2 = 0 → Bit.Packs l r.1) ∧ (r.2 ≠ 0 → l = []) ∧ Ext w w'
theorem Huf.putB_le {l : List UInt8} {s : Int} (hr : right l = true) (h : fine l s = true) : (putB l s).length ≤ 15 := by
  obtain ⟨h0, h1, h2⟩ := of_decide_eq_true h
  unfold putB
  rw [Bit.num_length]
  exact (right_facts hr).2.1 _ (by omega)
end Go.Proofs.Ytaohdnhfodkeoaa

namespace Go.Proofs.Ytaohdnhfodkeoaa
open Go.RowKit Lz Tok Len Can Huf
theorem Tok.countsS_lt (L : List TokV) (q : Nat) : (countsS L).getD q 0 ≤ L.length + 1 := by
  rw [← cntS_end, List.getD_eq_getElem?_getD, List.getElem?_set]
  have h1 := cntS_le L 256
  have h2 := cntS_le L q
  rw [List.getD_eq_getElem?_getD] at h2
  split
  · split
    · show (cntS L).getD 256 0 + 1 ≤ _
      omega
    · exact Nat.zero_le _
  · omega
theorem OwnB.away {w w' : World} {base hi g : Nat} {ob : Option Nat} {v : Value} {l : List UInt8} (h : OwnB w base v l) (hhi : ∀ k, v.ownBlock = some k → k < hi) (hM : Mod w w' g ob) (hg : g < base) (ho : ∀ k, ob = some k → hi ≤ k) : OwnB w' base v l := by
  refine hM.own h (fun e => by have := (h.lt g e).1; omega) ?_
  cases hv : v.ownBlock with
  | none => exact .inl rfl
  | some k =>
    refine .inr fun e => ?_
    have := hhi k hv
    have := ho k e.symm
    omega
theorem OwnB.at {w : World} {base n c : Nat} {A : Option Addr} {l : List UInt8} (h : OwnB w base (.slice A n c) l) (hn : n = l.length) : Bytes w w.heap.size A n l := by
  subst hn
  obtain ⟨A7, c7, e7, _, _, h7⟩ := h.form
  simp only [Value.slice.injEq] at e7
  obtain ⟨rfl, _, rfl⟩ := e7
  exact h7
theorem OwnB.atIn {w : World} {base hi n c : Nat} {A : Option Addr} {l : List UInt8} (h : OwnB w base (.slice A n c) l) (hn : n = l.length) (hhi : ∀ k, Value.ownBlock (.slice A n c) = some k → k < hi) : Bytes w hi A n l := by
  obtain ⟨h1, h2⟩ := h.at hn
  refine ⟨h1, h2.imp id ?_⟩
  rintro ⟨b, off, rfl, _, hc⟩
  exact ⟨b, off, rfl, hhi b rfl, hc⟩
theorem Tok.bodyB_next (x y : List UInt8) {L : List TokV} {i : Nat} (hi : i < L.length) : bodyB x y (L.take (i + 1)) = bodyB x y (L.take i) ++ tokB x y (L.getD i default) := by
  rw [take_next hi]
  unfold bodyB
  rw [List.flatMap_append]
  simp
theorem Tok.tokB_lit {x y : List UInt8} {t : TokV} (h : fine x (splitE t).1.sym = true) (h0 : t.len = 0) : tokB x y t = putX x (splitE t).1.sym := by
  unfold tokB putX
  rw [if_pos h0, if_pos h, List.append_nil]
theorem Tok.tokB_match {x y : List UInt8} {t : TokV} {k v c z : Nat} (e : splitE t = (⟨257 + (k : Int), v, c, z⟩, 0)) (h : fine x (257 + (k : Int)) = true) (h2 : fine y (c : Int) = true) (h0 : t.len ≠ 0) : tokB x y t = putX x (257 + (k : Int)) ++ Bit.num v k ++ putX y (c : Int) ++ Bit.num z c := by
  unfold tokB putX matchB
  rw [if_neg h0, e]
  dsimp only
  rw [if_pos h, if_pos h2, show (257 + (k : Int) - 257).toNat = k by omega, Int.toNat_natCast, Int.toNat_natCast, Int.toNat_natCast]
  simp only [List.append_assoc]
theorem Tok.putX_le {l : List UInt8} (s : Int) (hr : right l = true) : (putX l s).length ≤ 15 := by
  unfold putX
  split
  · rename_i h
    exact putB_le hr h
  · simp
theorem Tok.put_num {x k : Nat} (hk : k ≤ 64) (h : x < 2 ^ k) : Bit.putBits x (k : Int) = Bit.num x k := by
  have := (Bit.put_good (x := x) (n := (k : Int)) (decide_eq_true ⟨by omega, by omega, by rw [Int.toNat_natCast]; exact h⟩)).2
  rwa [Int.toNat_natCast] at this
set_option maxHeartbeats 1000000 in
set_option maxRecDepth 100000 in
theorem refWrite11_any (A : Option Addr) (n c : Nat) (L : List TokV) (w : World) (hn : n ≤ 100000) (hT : ToksAt w w.heap.size A n L) (hLn : RefLensC w) : Calls Try.prog 18 #[.slice A n c] w (PackTo w (writeE L)) := by
  have C1 := refCount_any A n c L w hn hT
  have hl := hT.1
  subst hl
  by_cases h32 : 32768 < L.length
  · have HN := hide (show writeE L = ([], 6) from if_pos h32)
    generalize writeE L = res at *
    have hI : (32768 : Int) < (L.length : Int) := by omega
    clear h32 hT C1 hLn
    go_enter Try.func18, Try.ntmps18
    go_wp2
    go_ret2
    rw [HN.out]
    exact ⟨_, [], rfl, OwnB.nil _ _, fun h => absurd h (by simp), fun _ => rfl, Ext.refl _⟩
  have hI : ¬ (32768 : Int) < (L.length : Int) := by omega
  cases hall : L.all may with
  | false =>
    have HN := hide (show writeE L = ([], 7) by unfold writeE; rw [if_neg h32, hall]; rfl)
    have HA := hide hall
    generalize writeE L = res at *
    clear h32 hT hLn hall
    go_enter Try.func18, Try.ntmps18
    go_wp2_with fail
    refine C1.mono ?_
    rintro e w1 ⟨hE1, hC⟩
    rw [HA.out, if_neg (by simp)] at hC
    subst hC
    clear C1
    go_wp2
    go_ret2
    rw [HN.out]
    exact ⟨_, [], rfl, OwnB.nil _ _, fun h => absurd h (by simp), fun _ => rfl, hE1⟩
  | true =>
    have HN := hide (show writeE L = (writeB L, 0) by unfold writeE; rw [if_neg h32, if_pos hall])
    have HA := hide hall
    generalize writeE L = res at *
    have HT := hide hT
    have HLn := hide hLn
    clear h32 hT hLn hall
    go_enter Try.func18, Try.ntmps18
    go_wp2_with fail
    refine C1.mono ?_
    rintro e w1 ⟨hE1, hC⟩
    rw [if_pos HA.out] at hC
    obtain ⟨g1, g2, hne, rfl, hO1, hO2⟩ := hC
    have hEw := extNew w1 (.cells #[.slice none 0 0] 68)
    have hR0 := RefW.new w1
    have hEa := hE1.trans hEw
    have hO1a := hO1.ext hEw
    have HO2a := hide (hO2.ext hEw)
    have hsz : (w1.alloc (.cells #[.slice none 0 0] 68)).heap.size = w1.heap.size + 1 := by simp
    have hg := hE1.le
    have hU1 := hO1a.at (by rw [countsS_len]) (fun q => by have := countsS_lt L q; omega)
    have C2 := HLn.out (countsS L) 15 (some ⟨g1, 0, none⟩) 265 265 _ hEa (Nat.le_refl _) hU1 (by omega) (by omega)
    rw [lens_found (by rw [countsS_len]; omega)] at C2
    change Calls _ _ _ _ (TellsB _ (bestS L, 0)) at C2
    clear C1 hO1 hO2 hO1a hE1 hU1
    go_wp2_with fail
    generalize hgg : w1.heap.size = g at *
    generalize w1.alloc (.cells #[.slice none 0 0] 68) = wa at *
    refine C2.mono ?_
    rintro e w2 ⟨v1, rfl, hV1, hE2⟩
    rw [hsz] at hV1
    clear C2 hEw
    have hle2 := hE2.le
    have hEb := hEa.trans hE2
    have hO2b := HO2a.out.ext hE2
    have hR2 := hR0.ext hE2
    have hU2 := hO2b.at (by rw [countsF_len]) (fun q => by have := cntF_le L q; omega)
    have C3 := HLn.out (countsF L) 15 (some ⟨g2, 0, none⟩) 12 12 _ hEb (Nat.le_refl _) hU2 (by omega) (by omega)
    rw [lens_found (by rw [countsF_len]; omega)] at C3
    change Calls _ _ _ _ (TellsB _ (bestF L, 0)) at C3
    clear hO2b hU2 HO2a HLn hR0
    dsimp only at hV1 ⊢
    go_wp2_with fail
    refine C3.mono ?_
    rintro e w3 ⟨v2, rfl, hV2, hE3⟩
    dsimp only at hV2 ⊢
    have hle3 := hE3.le
    have hEc := hEb.trans hE3
    have hR3 := hR2.ext hE3
    have hV1hi := fun k (hk : v1.ownBlock = some k) => (hV1.lt k hk).2
    have hV2hi := fun k (hk : v2.ownBlock = some k) => (hV2.lt k hk).2
    have hV1c := hV1.ext hE3
    obtain ⟨Ab1, cb1, rfl, _, _, _⟩ := hV1c.form
    obtain ⟨Ab2, cb2, rfl, _, _, _⟩ := hV2.form
    rw [bestS_len] at hV1c hV1hi ⊢
    rw [bestF_len] at hV2 hV2hi ⊢
    have hgw2 : g < w2.heap.size := by omega
    have hw23 : w2.heap.size ≤ w3.heap.size := hle3
    have C4 := refWriteK_any hR3 (by simp) Ab1 265 cb1 (bestS L) (fun W hM => (hV1c.away hV1hi hM (by omega) (fun k hk => by cases hk)).atIn (by rw [bestS_len]) (fun k hk => Nat.lt_of_lt_of_le (hV1hi k hk) hle3))
    rw [if_pos (bestS_right L), check_right (bestS_right L)] at C4
    have HV1 := hide hV1c
    have HV2 := hide hV2
    have HI1 := hide hV1hi
    have HI2 := hide hV2hi
    have hWl1 := wbits_len (bestS L)
    have hWl2 := wbits_len (bestF L)
    rw [bestS_len] at hWl1
    rw [bestF_len] at hWl2
    clear hV1 hV1c hV2 hV1hi hV2hi hR2 hR3 C3
    go_wp2_with fail
    refine C4.mono ?_
    rintro e w4 ⟨rfl, ob4, hR4, hN4, hM4⟩
    have hob4 := hN4.le (Nat.le_refl _) (fun k hk => by cases hk)
    have hV1d := HV1.out.away HI1.out hM4 (by omega) (fun k hk => by cases hk)
    have hV2d := HV2.out.away HI2.out hM4 hgw2 (fun k hk => by cases hk)
    have C5 := refWriteK_any hR4 (by simp; omega) Ab2 12 cb2 (bestF L) (fun W hM => (hV2d.away HI2.out hM hgw2 hob4).atIn (by rw [bestF_len]) (fun k hk => Nat.lt_of_lt_of_le (HI2.out k hk) hM4.size))
    rw [if_pos (bestF_right L), check_right (bestF_right L)] at C5
    have HV1d := hide hV1d
    have HV2d := hide hV2d
    clear hV1d hV2d C4 HV1 HV2 hR4
    go_wp2_with fail
    refine C5.mono ?_
    rintro e w5 ⟨rfl, ob5, hR5, hN5, hM5⟩
    have hM35 := hM4.trans hM5 hN4
    have hN35 := hN4.trans hM4.size hN5
    have hob5 := hN35.le (Nat.le_refl _) (fun k hk => by cases hk)
    have hob5h := fun k hk => (hR5.own k hk).2
    have hV1e := HV1d.out.away HI1.out hM5 (by omega) (fun k hk => Nat.le_trans hw23 (hob4 k hk))
    have hV2e := HV2d.out.away HI2.out hM5 hgw2 hob4
    have h35 := hM35.size
    have C6 := refNew9R_any Ab1 265 cb1 (bestS L) w5 (hV1e.at (by rw [bestS_len]))
    unfold RefNewR at C6
    rw [check_right (bestS_right L)] at C6
    have HV2e := hide hV2e
    have HR5 := hide hR5
    have HM35 := hide hM35
    have HN35 := hide hN35
    clear hV1e hV2e C5 HV1d HV2d hR5 hM4 hM5 hN4 hN5 hob4 HI1 hM35 hN35
    go_wp2_with fail
    refine C6.mono ?_
    rintro e w6 ⟨vc, rfl, hvc, _, hE6⟩
    have hvc := hvc (bestS_right L)
    obtain ⟨B1, d1, B2, d2, rfl, hvr⟩ := hvc
    have HCc := hide (show RefCodR w6 w5.heap.size w6.heap.size (.agg #[.slice B1 (bestS L).length d1, .slice B2 (bestS L).length d2]) (bestS L) from ⟨B1, d1, B2, d2, rfl, hvr⟩)
    clear hvr hvc C6
    rw [bestS_len] at HCc ⊢
    have hE6a := extNew w6 (.cells #[.slice B1 265 d1, .slice B2 265 d2] 74)
    have HWc := hide (Whole.new w6 74 #[.slice B1 265 d1, .slice B2 265 d2])
    have hs6 : (w6.alloc (.cells #[.slice B1 265 d1, .slice B2 265 d2] 74)).heap.size = w6.heap.size + 1 := by simp
    have hV2f := (HV2e.out.ext hE6).ext hE6a
    have C7 := refNew9R_any Ab2 12 cb2 (bestF L) _ (hV2f.at (by rw [bestF_len]))
    unfold RefNewR at C7
    rw [check_right (bestF_right L)] at C7
    have hle6 := hE6.le
    have hE56 := hE6.trans hE6a
    have HCc2 := hide (HCc.out.ext hE6a)
    clear hV2f HV2e HCc hE6a hE6
    go_wp2_with fail
    generalize w6.heap.size = H6 at *
    generalize w6.alloc (.cells #[.slice B1 265 d1, .slice B2 265 d2] 74) = w6a at *
    refine C7.mono ?_
    rintro e w7 ⟨vd, rfl, hvd, _, hE7⟩
    have hvd := hvd (bestF_right L)
    rw [hs6] at hvd
    obtain ⟨B3, d3, B4, d4, rfl, hvr⟩ := hvd
    have HCd := hide (show RefCodR w7 (H6 + 1) w7.heap.size (.agg #[.slice B3 (bestF L).length d3, .slice B4 (bestF L).length d4]) (bestF L) from ⟨B3, d3, B4, d4, rfl, hvr⟩)
    clear hvr hvd C7
    rw [bestF_len] at HCd ⊢
    have hE7a := extNew w7 (.cells #[.slice B3 12 d3, .slice B4 12 d4] 74)
    have HWd := hide (Whole.new w7 74 #[.slice B3 12 d3, .slice B4 12 d4])
    have hs7 : (w7.alloc (.cells #[.slice B3 12 d3, .slice B4 12 d4] 74)).heap.size = w7.heap.size + 1 := by simp
    have hle7 := hE7.le
    have hE58 := (hE56.trans hE7).trans hE7a
    have HCc3 := hide ((HCc2.out.ext hE7).ext hE7a)
    have HCd3 := hide (HCd.out.ext hE7a)
    have HWc3 := hide ((HWc.out.ext hE7).ext hE7a)
    have hR8 := HR5.out.ext hE58
    have hM38 := HM35.out.trans (Mod.ofExt (ob := ob5) hE58) HN35.out
    clear HCc2 HCd HWc HR5 hE7a hE7 hE56
    go_wp2_with fail
    generalize w7.heap.size = H7 at *
    generalize w7.alloc (.cells #[.slice B3 12 d3, .slice B4 12 d4] 74) = w8 at *
    rw [List.nil_append, ← List.map_append] at hR8
    have HR8 := hide hR8
    have hE8 : Ext w w8 := Below.trans hEc (hM38.below (B := w.heap.size) hEc.le hg (fun k hk => by cases hk))
    have hH6 : H6 ≠ g := by omega
    have hH7 : H7 ≠ g := by omega
    have HAll := hide (show ∀ W, Mod w8 W g ob5 → RefCodR W w5.heap.size H6 (.agg #[.slice B1 265 d1, .slice B2 265 d2]) (bestS L) ∧ RefCodR W (H6 + 1) H7 (.agg #[.slice B3 12 d3, .slice B4 12 d4]) (bestF L) ∧ Whole W H6 74 #[.slice B1 265 d1, .slice B2 265 d2] ∧ Whole W H7 74 #[.slice B3 12 d3, .slice B4 12 d4] ∧ Ext w W from fun W hM =>
      ⟨HCc3.out.mod hM (.inl (by omega)) (fun k hk => .inl (hob5h k hk)), HCd3.out.mod hM (.inl (by omega)) (fun k hk => .inl (by have := hob5h k hk; omega)), hM.whole HWc3.out hH6 (fun e => by have := hob5h H6 e; omega), hM.whole HWd.out hH7 (fun e => by have := hob5h H7 e; omega),
        Below.trans hE8 (hM.below (B := w.heap.size) hE8.le hg (fun k hk => by have := hob5 k hk; omega))⟩)
    clear HCc3 HWc3 hR8 hM38 HWd HCd3 hEc hE8 hE58 hE3 hEb hE2 hEa HM35 HI2 hob5 hob5h HN35
    go_loopw [16] (fun x wr => ∃ (i : Nat) (ob : Option Nat), i ≤ L.length ∧ x = .int .i64 (i : Int) ∧ RefW wr g g ob ((wbits (bestS L) ++ wbits (bestF L) ++ bodyB (bestS L) (bestF L) (L.take i)).map bit8) ∧ NewOb w8 ob5 ob ∧ Mod w8 wr g ob5 ∧ (bodyB (bestS L) (bestF L) (L.take i)).length ≤ 48 * i) (fun x _ => L.length - (intOf x).toNat)
    case atStart => exact ⟨0, ob5, by omega, rfl, by simpa [bodyB] using HR8.out, .inl rfl, Mod.refl _ _ _, by simp [bodyB]⟩
    case round =>
      clear HR8
      obtain ⟨i, ob, hi, rfl, hR, hN, hM, hlen⟩ := hrel
      by_cases hlt : i < L.length
      · have hiI : (i : Int) < (L.length : Int) := by omega
        obtain ⟨hCr, hDr, hWc, hWd, hEw⟩ := HAll.out wr hM
        have hMem : L.getD i default ∈ L := by
          rw [List.getD_eq_getElem?_getD, List.getElem?_eq_getElem hlt]
          exact List.getElem_mem hlt
        have hmay := List.all_eq_true.1 HA.out _ hMem
        have hfS := sym_fine hMem hmay
        have hfF := dist_fine hMem hmay
        have HBn := hide (bodyB_next (bestS L) (bestF L) hlt)
        have CM := fun W => refSplit_any (L.getD i default) W
        unfold tokV at CM
        have hToks := HT.out.below hEw (Nat.le_refl _)
        rcases hToks.2 with h0 | ⟨b1, o1, rfl, hb1, hc⟩
        · omega
        obtain ⟨hAt, hOk⟩ := hc i hlt
        obtain ⟨c0, c1, c2⟩ := hAt.cells
        clear hc hToks hAt hMem
        obtain ⟨t, ht⟩ : ∃ t, t = L.getD i default := ⟨_, rfl⟩
        rw [← ht] at c0 c1 c2 hOk CM hmay hfS hfF HBn
        have HCell := hide (show ∀ W, Ext w W → W.cell? ⟨b1, o1 + i * 3 + 1, none⟩ = some (.int .i64 t.len) from fun W hW => by
          have := (HT.out.below hW (Nat.le_refl _)).2
          rcases this with h0 | ⟨b', o', e', _, hc'⟩
          · omega
          simp only [Option.some.injEq, Addr.mk.injEq, and_true] at e'
          obtain ⟨rfl, rfl⟩ := e'
          have := (hc' i hlt).1
          rw [← ht] at this
          exact this.2.1)
        clear ht
        obtain ⟨P, hP⟩ : ∃ P, P = wbits (bestS L) ++ wbits (bestF L) ++ bodyB (bestS L) (bestF L) (L.take i) := ⟨_, rfl⟩
        have hPl : P.length ≤ 2770 + 48 * i := by rw [hP]; simp only [List.length_append]; omega
        rw [← hP] at hR
        have HP := hide hP
        have HN2 := hide hN
        have HM2 := hide hM
        have HRr := hide hR
        have hobr := fun k hk => (hR.own k hk).2
        have hgr := hR.lt
        clear hP hN hM hR
        by_cases h0 : t.len = 0
        · have hsp := split_lit hmay h0
          have HBt := hide (tokB_lit (y := bestF L) hfS h0)
          rw [hsp] at CM HBt
          dsimp only at HBt
          unfold SplitTo pcV at CM
          dsimp only at CM
          rw [h0] at c1 CM
          have HC0 := hide (show ∀ W, Ext w W → W.cell? ⟨b1, o1 + i * 3 + 1, none⟩ = some (.int .i64 0) from fun W hW => h0 ▸ HCell.out W hW)
          have h8 := UInt8.toNat_lt t.lit
          clear hsp hfS hfF hmay HCell h0 hOk
          generalize tokB (bestS L) (bestF L) t = T at *
          generalize t.lit.toNat = y at *
          generalize t.dist = td at *
          go_wp2_with fail
          refine (CM wr).mono ?_
          rintro e wa ⟨rfl, hEs⟩
          have hEp := hEs.trans (extNew wa (.cells #[.int .i64 (y : Int), .int .i64 0, .int .i64 0, .int .i64 0] 25))
          have hWcp := hWc.ext hEp
          have q0 := hWcp.at 0 (u := .slice B1 265 d1) rfl
          have q1 := hWcp.at 1 (u := .slice B2 265 d2) rfl
          have CP := refPut9H_any (hCr.ext hEp).cod (bestS_right L) (HRr.out.ext hEp) (y : Int) (by omega)
          have HMp := hide (HM2.out.trans (Mod.ofExt (ob := ob) hEp) HN2.out)
          clear CM c0 c1 c2 hWc hWd hCr hDr hEs hWcp
          go_wp2_with fail
          refine CP.mono ?_
          rintro e wc ⟨rfl, obc, hRc, hNc, hMc⟩
          have hMw := HMp.out.trans hMc HN2.out
          have hNw := HN2.out.trans HMp.out.size hNc
          obtain ⟨_, _, _, _, hEc⟩ := HAll.out wc hMw
          have f1 := HC0.out wc hEc
          have hxl := putX_le (l := bestS L) (y : Int) (bestS_right L)
          clear CP q0 q1
          go_wp2
          go_roundw
          case rel => exact ⟨i + 1, obc, by omega, by go_num, (by rw [HBn.out, HBt.out, ← List.append_assoc, ← HP.out]; exact hRc), hNw, hMw, by rw [HBn.out, HBt.out, List.length_append]; omega⟩
          case measure => simp [intOf]; omega
        · obtain ⟨k, x, cn, y, hk, hx, hcn, hy, e1, e2, e3⟩ := split_match hmay h0
          have hfF := hfF h0
          rw [e3] at hfS hfF
          dsimp only at hfS hfF
          have HBt := hide (tokB_match (x := bestS L) (y := bestF L) e3 hfS hfF h0)
          have hlp : 0 < t.len := by have := (may_facts hmay h0).2.1; omega
          rw [e3] at CM
          unfold SplitTo pcV at CM
          dsimp only at CM
          have hkp := pow_top hk
          have hcp := pow_top hcn
          have HYn := hide (put_num (x := y) (k := cn) (by omega) hy)
          obtain ⟨sy, hsy⟩ : ∃ s : Int, s = 257 + (k : Int) := ⟨_, rfl⟩
          rw [← hsy] at CM HBt
          have hsk : sy - 257 = (k : Int) := by omega
          have HXn := hide (show Bit.putBits x (sy - 257) = Bit.num x k by rw [hsk]; exact put_num (by omega) hx)
          have hs1 : 257 ≤ sy := by omega
          have hs2 : sy ≤ 264 := by omega
          have hx7 : x < 128 := by omega
          have hy7 : y < 2048 := by omega
          have hs3 : sy - 257 ≤ 7 := by omega
          clear e1 e2 e3 hsy hsk hx hy hkp hcp hfS hfF hmay h0 hOk
          generalize tokB (bestS L) (bestF L) t = T at *
          generalize hyy : t.lit.toNat = yl at *
          go_wp2_with fail
          refine (CM wr).mono ?_
          rintro e wa ⟨rfl, hEs⟩
          have hEp := hEs.trans (extNew wa (.cells #[.int .i64 sy, .int .i64 (x : Int), .int .i64 (cn : Int), .int .i64 (y : Int)] 25))
          have hWp := Whole.new wa 25 #[.int .i64 sy, .int .i64 (x : Int), .int .i64 (cn : Int), .int .i64 (y : Int)]
          have hles := hEs.le
          have HPc := hide (fun W (hM : Mod (wa.alloc (.cells #[.int .i64 sy, .int .i64 (x : Int), .int .i64 (cn : Int), .int .i64 (y : Int)] 25)) W g ob) => hM.whole hWp (by omega) (fun e => by have := hobr _ e; omega))
          have hWcp := hWc.ext hEp
          have q0 := hWcp.at 0 (u := .slice B1 265 d1) rfl
          have q1 := hWcp.at 1 (u := .slice B2 265 d2) rfl
          have CP := refPut9H_any (hCr.ext hEp).cod (bestS_right L) (HRr.out.ext hEp) sy (by omega)
          have HMp := hide (HM2.out.trans (Mod.ofExt (ob := ob) hEp) HN2.out)
          have hxl := putX_le (l := bestS L) sy (bestS_right L)
          have hfl := putX_le (l := bestF L) (cn : Int) (bestF_right L)
          have hnl1 := Bit.num_length x k
          have hnl2 := Bit.num_length y cn
          clear CM c0 c1 c2 hWc hWd hCr hDr hEs hWcp hWp
          go_wp2_with fail
          refine CP.mono ?_
          rintro e wc ⟨rfl, obc, hRc, hNc, hMc⟩
          obtain ⟨_, _, _, _, hEwc⟩ := HAll.out wc (HMp.out.trans hMc HN2.out)
          have f1 := HCell.out wc hEwc
          have hPc := HPc.out wc hMc
          have p0 := hPc.at 0 (u := .int .i64 sy) rfl
          have p1 := hPc.at 1 (u := .int .i64 (x : Int)) rfl
          have CP2 := refPut_any hRc x (sy - 257) (by omega) (by rw [List.length_map, List.length_append]; omega)
          rw [HXn.out, ← List.map_append] at CP2
          generalize Bit.putErr x (sy - 257) = E2 at CP2
          clear CP q0 q1 hPc hEwc hRc
          go_wp2_with fail
          refine CP2.mono ?_
          rintro e wd ⟨rfl, obd, hRd, hNd, hMd⟩
          have hMpd := hMc.trans hMd hNc
          have hNpd := hNc.trans hMc.size hNd
          obtain ⟨_, hDd, _, hWdd, _⟩ := HAll.out wd (HMp.out.trans hMpd HN2.out)
          have r0 := hWdd.at 0 (u := .slice B3 12 d3) rfl
          have r1 := hWdd.at 1 (u := .slice B4 12 d4) rfl
          have p2 := (HPc.out wd hMpd).at 2 (u := .int .i64 (cn : Int)) rfl
          have CP3 := refPut9H_any hDd.cod (bestF_right L) hRd (cn : Int) (by simp only [List.length_append]; omega)
          clear CP2 p0 p1 f1 hWdd hDd hRd hMd hNd hMc hNc
          go_wp2_with fail
          refine CP3.mono ?_
          rintro e we ⟨rfl, obe, hRe, hNe, hMe⟩
          have hMpe := hMpd.trans hMe hNpd
          have hNpe := hNpd.trans hMpd.size hNe
          have hPe := HPc.out we hMpe
          have s2 := hPe.at 2 (u := .int .i64 (cn : Int)) rfl
          have s3 := hPe.at 3 (u := .int .i64 (y : Int)) rfl
          have CP4 := refPut_any hRe y (cn : Int) (by omega) (by rw [List.length_map]; simp only [List.length_append]; omega)
          rw [HYn.out, ← List.map_append] at CP4
          generalize Bit.putErr y (cn : Int) = E4 at CP4
          clear CP3 r0 r1 p2 hPe hRe hMpd hNpd hMe hNe
          go_wp2_with fail
          refine CP4.mono ?_
          rintro e wf ⟨rfl, obf, hRf, hNf, hMf⟩
          have hMpf := hMpe.trans hMf hNpe
          have hNpf := hNpe.trans hMpe.size hNf
          clear CP4 s2 s3
          go_wp2
          go_roundw
          case rel => exact ⟨i + 1, obf, by omega, by go_num, (by rw [HBn.out, HBt.out, ← List.append_assoc, ← HP.out]; simpa only [List.append_assoc] using hRf), HN2.out.trans HMp.out.size hNpf, HMp.out.trans hMpf HN2.out, by rw [HBn.out, HBt.out]; simp only [List.length_append]; omega⟩
          case measure => simp [intOf]; omega
      · obtain rfl : L.length = i := by omega
        rw [List.take_length] at hR hlen
        obtain ⟨hCr, _, hWc, _, hEw⟩ := HAll.out wr hM
        have q0 := hWc.at 0 (u := .slice B1 265 d1) rfl
        have q1 := hWc.at 1 (u := .slice B2 265 d2) rfl
        have CP := refPut9H_any hCr.cod (bestS_right L) hR 256 (by simp only [List.length_append]; omega)
        have hxl := putX_le (l := bestS L) 256 (bestS_right L)
        have HEnd := hide (show putX (bestS L) 256 = putB (bestS L) 256 from if_pos (end_fine L))
        have HM2 := hide hM
        have HN2 := hide hN
        clear hR hWc hCr hM hN
        go_wp2_with fail
        refine CP.mono ?_
        rintro e wc ⟨rfl, obc, hRc, hNc, hMc⟩
        have hMw := HM2.out.trans hMc HN2.out
        obtain ⟨_, _, _, _, hEc⟩ := HAll.out wc hMw
        have CB := refBytes_any hRc (by simp only [List.length_append]; omega)
        clear CP q0 q1 hRc
        go_wp2_with fail
        refine CB.mono ?_
        rintro e wd ⟨l, hPk, v, rfl, hO, hE⟩
        go_wp2
        go_ret2
        rw [HN.out]
        refine ⟨v, l, rfl, hO.mono hEc.le, fun _ => ?_, fun h => absurd rfl h, hEc.trans hE⟩
        rw [HEnd.out] at hPk
        unfold writeB
        simpa only [List.append_assoc] using hPk
end Go.Proofs.Ytaohdnhfodkeoaa

namespace Go.Proofs.Ytaohdnhfodkeoaa.Can
open Len
def cnt (l : List UInt8) (n k : Nat) : Nat := sumN n fun i => if lenAt l i = k then 1 else 0
def fst (l : List UInt8) (k : Nat) : Nat := if k = 0 then 0 else acc l k 0 / 2 ^ (15 - k)
theorem cnt_succ (l : List UInt8) (n k : Nat) : cnt l (n + 1) k = cnt l n k + if lenAt l n = k then 1 else 0 := rfl
theorem cnt_le (l : List UInt8) (k : Nat) : ∀ n, cnt l n k ≤ n
  | 0 => Nat.le_refl _
  | n + 1 => by
    have := cnt_le l k n
    rw [cnt_succ]
    split <;> omega
theorem acc_cnt (l : List UInt8) {k : Nat} (hk : 1 ≤ k) : ∀ s, s ≤ l.length → acc l k s = acc l k 0 + cnt l s k * 2 ^ (15 - k)
  | 0, _ => by simp [cnt, sumN]
  | s + 1, h => by
    rw [acc_step l hk (by omega), acc_cnt l hk s (by omega), cnt_succ]
    split
    · rw [Nat.add_mul, Nat.one_mul, Nat.add_assoc]
    · simp
theorem fst_mul (l : List UInt8) {k : Nat} (hk : 1 ≤ k) : fst l k * 2 ^ (15 - k) = acc l k 0 := by
  unfold fst
  rw [if_neg (by omega)]
  exact Nat.div_mul_cancel (acc_dvd _ _)
theorem fst_one (l : List UInt8) : fst l 1 = 0 := by
  unfold fst
  rw [if_neg (by omega), acc_start, Nat.zero_div]
theorem fst_acc (l : List UInt8) {k : Nat} (hk : 1 ≤ k) (s : Nat) (hs : s ≤ l.length) : (fst l k + cnt l s k) * 2 ^ (15 - k) = acc l k s := by
  rw [Nat.add_mul, fst_mul l hk, ← acc_cnt l hk s hs]
theorem fst_next (l : List UInt8) {k : Nat} (hk : 1 ≤ k) (h15 : k < 15) : fst l (k + 1) = (fst l k + cnt l l.length k) * 2 := by
  have h1 := fst_acc l hk l.length (Nat.le_refl _)
  rw [← acc_turn, ← fst_mul l (k := k + 1) (by omega), show 15 - k = 15 - (k + 1) + 1 by omega, Nat.pow_succ, ← Nat.mul_assoc, Nat.mul_right_comm] at h1
  exact (Nat.eq_of_mul_eq_mul_right (Nat.pow_pos (by omega)) h1).symm
theorem fst_room {l : List UInt8} (hr : right l = true) {k : Nat} (hk : 1 ≤ k) (s : Nat) (hs : s ≤ l.length) : fst l k + cnt l s k ≤ 32768 := by
  have h1 := acc_le l k s
  rw [← fst_acc l hk s hs] at h1
  have h2 := (right_facts hr).2.2
  have h3 : (fst l k + cnt l s k) * 1 ≤ (fst l k + cnt l s k) * 2 ^ (15 - k) := Nat.mul_le_mul_left _ (Nat.pow_pos (by omega))
  omega
theorem word_fst (l : List UInt8) {s : Nat} (hs : s < l.length) (h0 : lenAt l s ≠ 0) : word l s = fst l (lenAt l s) + cnt l s (lenAt l s) := by
  unfold word
  rw [if_neg h0, ← fst_acc l (by omega) s (by omega), Nat.mul_div_cancel _ (Nat.pow_pos (by omega))]
theorem cnt_sum {l : List UInt8} (c : Nat → Nat) : ∀ n, (∀ i, i < n → lenAt l i ≤ 15) → (sumN 15 fun j => cnt l n (j + 1) * c (j + 1)) = sumN n fun i => if lenAt l i = 0 then 0 else c (lenAt l i)
  | 0, _ => sumN_zero _ fun i _ => by simp [cnt, sumN]
  | n + 1, h => by
    have ih := cnt_sum c n (fun i hi => h i (by omega))
    have e : (sumN 15 fun j => cnt l (n + 1) (j + 1) * c (j + 1)) = sumN 15 fun j => cnt l n (j + 1) * c (j + 1) + (if lenAt l n = j + 1 then c (j + 1) else 0) := sumN_congr fun j _ => by
      rw [cnt_succ, Nat.add_mul]
      split <;> simp
    have e3 : (sumN 15 fun j => if lenAt l n = j + 1 then c (j + 1) else 0) = if lenAt l n = 0 then 0 else c (lenAt l n) := by
      by_cases h0 : lenAt l n = 0
      · rw [if_pos h0]
        exact sumN_zero _ fun j _ => if_neg (by omega)
      · rw [if_neg h0]
        have e2 : (sumN 15 fun j => if lenAt l n = j + 1 then c (j + 1) else 0) = sumN 15 fun j => if j = lenAt l n - 1 then c (lenAt l n) else 0 := sumN_congr fun j _ => by
          by_cases hj : lenAt l n = j + 1
          · rw [if_pos hj, if_pos (by omega), hj]
          · rw [if_neg hj, if_neg (by omega)]
        have := h n (by omega)
        rw [e2, sumN_pt, if_pos (by omega)]
    rw [e, sumN_add, ih, e3]
    rfl
def wordsF (f : Nat → Nat) (n : Nat) : Nat := sumN n fun j => f (j + 1)
def weightF (f : Nat → Nat) (n : Nat) : Nat := sumN n fun j => f (j + 1) * 2 ^ (15 - (j + 1))
def rightF (f : Nat → Nat) : Bool := decide (wordsF f 15 = 0 ∨ wordsF f 15 = 1 ∧ f 1 = 1 ∨ weightF f 15 = 32768)
theorem wordsF_le {f : Nat → Nat} (hf : ∀ k, f k ≤ 300) (n : Nat) : wordsF f n ≤ n * 300 := by
  rw [← sumN_const 300 n]
  exact sumN_le fun j _ => hf _
theorem weightF_le {f : Nat → Nat} (hf : ∀ k, f k ≤ 300) (n : Nat) : weightF f n ≤ n * 9830400 := by
  rw [← sumN_const 9830400 n]
  refine sumN_le fun j _ => ?_
  have h1 : 2 ^ (15 - (j + 1)) ≤ 2 ^ 15 := Nat.pow_le_pow_right (by omega) (by omega)
  have h2 := Nat.mul_le_mul (hf (j + 1)) h1
  omega
theorem right_of_counts {l : List UInt8} (hn : l.length ≤ 300) (h15 : ∀ i, i < l.length → lenAt l i ≤ 15) : rightF (cnt l l.length) = right l := by
  have hk : kraftE l = (kraftOf l l.length, 0) := if_pos ⟨hn, h15⟩
  have h1 : wordsF (cnt l l.length) 15 = usedC l l.length := by
    have := cnt_sum (l := l) (fun _ => 1) l.length h15
    simp only [Nat.mul_one] at this
    exact this
  have h2 : weightF (cnt l l.length) 15 = kraftOf l l.length := cnt_sum (l := l) (fun k => 2 ^ (15 - k)) l.length h15
  unfold rightF right
  rw [h1, h2, hk]
  apply decide_eq_decide.2
  constructor
  · exact fun h => ⟨rfl, h⟩
  · exact fun h => h.2
theorem wrong_long {l : List UInt8} (hn : 300 < l.length) : right l = false := decide_eq_false fun h => by
  have := (kraft_ok h.1).1
  omega
theorem wrong_high {l : List UInt8} {i : Nat} (hi : i < l.length) (h : 15 < lenAt l i) : right l = false := decide_eq_false fun h2 => by
  have := (kraft_ok h2.1).2.1 i hi
  omega
def codesTo (l : List UInt8) (s : Nat) : List Nat := (List.range l.length).map fun t => if t < s then word l t else 0
theorem codesTo_len (l : List UInt8) (s : Nat) : (codesTo l s).length = l.length := by simp [codesTo]
theorem codesTo_none (l : List UInt8) : codesTo l 0 = List.replicate l.length 0 := by
  refine List.ext_getElem (by simp [codesTo]) fun t h1 h2 => ?_
  simp [codesTo]
theorem codesTo_all (l : List UInt8) : codesTo l l.length = codesL l := by
  refine List.ext_getElem (by simp [codesTo, codesL]) fun t h1 h2 => ?_
  have : t < l.length := by simpa [codesTo] using h1
  simp [codesTo, codesL, this]
theorem codesTo_set (l : List UInt8) (s : Nat) : (codesTo l s).set s (word l s) = codesTo l (s + 1) := by
  refine List.ext_getElem (by simp [codesTo]) fun t h1 h2 => ?_
  rw [List.getElem_set]
  simp only [codesTo, List.getElem_map, List.getElem_range]
  split
  · rename_i e
    rw [if_pos (by omega), e]
  · rename_i e
    by_cases h : t < s
    · rw [if_pos h, if_pos (by omega)]
    · rw [if_neg h, if_neg (by omega)]
theorem codesTo_pass (l : List UInt8) {s : Nat} (h : lenAt l s = 0) : codesTo l s = codesTo l (s + 1) := by
  have e : word l s = 0 := if_pos h
  refine List.ext_getElem (by simp [codesTo]) fun t h1 h2 => ?_
  simp only [codesTo, List.getElem_map, List.getElem_range]
  by_cases ht : t = s
  · rw [if_neg (by omega), if_pos (by omega), ht, e]
  · by_cases h : t < s
    · rw [if_pos h, if_pos (by omega)]
    · rw [if_neg h, if_neg (by omega)]
end Go.Proofs.Ytaohdnhfodkeoaa.Can

