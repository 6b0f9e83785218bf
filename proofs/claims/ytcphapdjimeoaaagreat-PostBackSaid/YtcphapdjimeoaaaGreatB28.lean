/- The document's Read of chapter 13. -/
import Derived.Test.YtcphapdjimeoaaaGreatB01
import Derived.Test.YtcphapdjimeoaaaGreatB03
import Derived.Test.YtcphapdjimeoaaaGreatB12
import Derived.Test.YtcphapdjimeoaaaGreatB15
import Derived.Test.YtcphapdjimeoaaaGreatB27
namespace Go.Proofs.YtcphapdjimeoaaaGreat
open Go.RowKit Num Ef

/-- A list of numbers, a number and an error are told. -/
def Rd13To (W : World) (r : List Int × Nat × Int) (e : Ending) (w' : World) : Prop := ∃ v, e = .returned (.tuple #[v, .int .i64 (r.2.1 : Int), .int .i64 r.2.2]) ∧ OwnI w' W.heap.size v r.1 ∧ Ext W w'
theorem OwnI.notKind13 {w : World} {base b : Nat} {v : Value} {L : List Int} {t : TypeId} {cs : Array Value} (h : OwnI w base v L) (hb : Whole w b t cs) (ht : t ≠ 3) : v.ownBlock ≠ some b := by
  intro e
  rcases h.2 with ⟨rfl, _⟩ | ⟨g', cap, cur, rfl, _, hg, _⟩
  · simp [Value.ownBlock] at e
  · simp only [Value.ownBlock, Option.some.injEq] at e
    subst e
    unfold Whole at hb
    rw [hb] at hg
    simp only [Option.some.injEq, Obj.cells.injEq] at hg
    exact ht hg.2.1
theorem OwnI.apart13 {w : World} {b1 b2 : Nat} {v u : Value} {L : List Int} {l : List UInt8} (h : OwnI w b1 u L) (k : OwnB w b2 v l) : v.ownBlock = none ∨ v.ownBlock ≠ u.ownBlock := by
  rcases k.2 with ⟨rfl, _⟩ | ⟨g, cap, cur, rfl, _, hg, _⟩
  · exact .inl rfl
  · refine .inr fun e => ?_
    exact h.notKind13 (show Whole w g 5 cur from hg) (by decide) (by rw [← e]; rfl)
theorem OwnI.mod13 {w w' : World} {g : Nat} (h : Mod w w' g none) {base : Nat} {v : Value} {L : List Int} (hv : OwnI w base v L) (hg : v.ownBlock ≠ some g) : OwnI w' base v L := by
  refine ⟨hv.1, ?_⟩
  rcases hv.2 with hn | ⟨x, cap, cur, rfl, hb, hgg, rest⟩
  · exact .inl hn
  · refine .inr ⟨x, cap, cur, rfl, hb, ?_, rest⟩
    rw [h.block x (Array.getElem?_eq_some_iff.1 hgg).1 (by intro e; subst e; simp [Value.ownBlock] at hg) (by simp)]
    exact hgg
theorem OwnI.kept13 {w w' : World} {base : Nat} {v : Value} {L : List Int} (h : OwnI w base v L) {ob : Option Nat} (hG : w.grownBy w' ob) (hne : v.ownBlock = none ∨ v.ownBlock ≠ ob) : OwnI w' base v L := World.ownsRow.kept h hG hne
/-- While a row is read: the cursor's block, the reader. -/
structure Rd13 (w W : World) (g3 gr : Nat) (cs : Array Value) (l : List UInt8) (q : Nat) : Prop where
  cur : Whole W g3 83 cs
  rd : RefR W w.heap.size gr l q
  ext : Ext w W
section
variable {w W W' : World} {g3 gr q q' : Nat} {cs : Array Value} {l : List UInt8}
theorem Rd13.ne (h : Rd13 w W g3 gr cs l q) : g3 ≠ gr := by
  obtain ⟨v, hW, _⟩ := h.rd
  intro e
  subst e
  have h1 := h.cur
  unfold Whole at h1 hW
  rw [h1] at hW
  simp only [Option.some.injEq, Obj.cells.injEq] at hW
  exact absurd hW.2.1 (by decide)
theorem Rd13.call (h : Rd13 w W g3 gr cs l q) (hR : RefR W' w.heap.size gr l q') (hM : Mod W W' gr none) : Rd13 w W' g3 gr cs l q' :=
  ⟨hM.whole h.cur h.ne (by simp), hR, Below.trans h.ext (hM.below h.ext.le h.rd.le (fun k hk => by cases hk))⟩
theorem Rd13.own (h : Rd13 w W g3 gr cs l q) {base : Nat} {v : Value} {L : List Int} (hO : OwnI W base v L) (hM : Mod W W' gr none) : OwnI W' base v L := by
  obtain ⟨x, hW, _⟩ := h.rd
  exact hO.mod13 hM (hO.notKind13 hW (by decide))
theorem Rd13.later (h : Rd13 w W g3 gr cs l q) (hE : Ext W W') : Rd13 w W' g3 gr cs l q := ⟨h.cur.ext hE, h.rd.ext hE, h.ext.trans hE⟩
theorem Rd13.grow (h : Rd13 w W g3 gr cs l q) {base : Nat} {v : Value} {L : List Int} (hO : OwnI W base v L) (hb : w.heap.size ≤ base) (hG : W.grownBy W' v.ownBlock) : Rd13 w W' g3 gr cs l q := by
  refine ⟨h.cur.ownGrown hG (hO.notKind13 h.cur (by decide)), ?_, Below.grown h.ext hG h.ext.le (fun k hk => by have := (hO.lt k hk).1; omega)⟩
  obtain ⟨x, hW, hB, r⟩ := h.rd
  exact ⟨x, hW.ownGrown hG (hO.notKind13 hW (by decide)), World.ownsRow.kept hB hG (hO.apart13 hB), r⟩
end
/-- The first low parts. -/
def Ef.lowsR (l : List UInt8) (w i : Nat) : List Int := (List.range i).map fun j => ((Bit.getNum l (j * w) (w : Int) : Nat) : Int)
theorem Ef.lows_next (l : List UInt8) (w i : Nat) : lowsR l w (i + 1) = lowsR l w i ++ [((Bit.getNum l (i * w) (w : Int) : Nat) : Int)] := by
  unfold lowsR
  rw [List.range_succ, List.map_append]
  rfl
theorem Ef.lows_len (l : List UInt8) (w i : Nat) : (lowsR l w i).length = i := by simp [lowsR]
theorem Ef.lows_at {l : List UInt8} {w n i : Nat} (h : i < n) : (lowsR l w n).getD i 0 = ((Bit.getNum l (i * w) (w : Int) : Nat) : Int) := by simp [lowsR, List.getD_eq_getElem?_getD, h]
theorem Ef.num_small {l : List UInt8} {q w : Nat} (hw : w ≤ 14) : Bit.getNum l q (w : Int) ≤ 16384 := by
  unfold Bit.getNum
  split
  · rw [Int.toNat_natCast]
    have h1 := Bit.val_lt (Bit.rest l q) w
    have h2 : 2 ^ w ≤ 2 ^ 14 := Nat.pow_le_pow_right (by omega) hw
    omega
  · omega
theorem Ef.get_err {left w : Nat} (hw : w ≤ 64) : Bit.getErr left (w : Int) = if w ≤ left then 0 else 1 := by
  unfold Bit.getErr
  rw [if_pos ⟨by omega, by omega⟩]
  split
  · rw [if_pos (by omega)]
  · rw [if_neg (by omega)]
theorem Ef.get_to {left q w : Nat} (hw : w ≤ 64) (h : w ≤ left) : Bit.getTo left q (w : Int) = q + w := by
  unfold Bit.getTo
  rw [get_err hw, if_pos h]
  simp
theorem Ef.readH_step {l : List UInt8} {w k p h i : Nat} {bound : Int} {out : List Int} (hi : i = out.length) :
    (Bit.unErr l p ≠ 0 → readH l w bound (k + 1) p h out = ([], p, 1)) ∧
    (Bit.unErr l p = 0 → 0 < i → (((h + Bit.unNum l p) * 2 ^ w + Bit.getNum l (i * w) (w : Int) : Nat) : Int) ≤ out.getD (i - 1) 0 → readH l w bound (k + 1) p h out = ([], p, 2)) ∧
    (Bit.unErr l p = 0 → ¬ (0 < i ∧ (((h + Bit.unNum l p) * 2 ^ w + Bit.getNum l (i * w) (w : Int) : Nat) : Int) ≤ out.getD (i - 1) 0) → bound ≤ (((h + Bit.unNum l p) * 2 ^ w + Bit.getNum l (i * w) (w : Int) : Nat) : Int) → readH l w bound (k + 1) p h out = ([], p, 8)) ∧
    (Bit.unErr l p = 0 → ¬ (0 < i ∧ (((h + Bit.unNum l p) * 2 ^ w + Bit.getNum l (i * w) (w : Int) : Nat) : Int) ≤ out.getD (i - 1) 0) → ¬ bound ≤ (((h + Bit.unNum l p) * 2 ^ w + Bit.getNum l (i * w) (w : Int) : Nat) : Int) → readH l w bound (k + 1) p h out = readH l w bound k (Bit.unTo l p) (h + Bit.unNum l p) (out ++ [(((h + Bit.unNum l p) * 2 ^ w + Bit.getNum l (i * w) (w : Int) : Nat) : Int)])) := by
  subst hi
  refine ⟨fun h1 => ?_, fun h1 h2 h3 => ?_, fun h1 h2 h3 => ?_, fun h1 h2 h3 => ?_⟩
  · rw [readH, if_pos h1]
  · rw [readH, if_neg (by simp [h1]), if_pos ⟨h2, h3⟩]
  · rw [readH, if_neg (by simp [h1]), if_neg h2, if_pos h3]
  · rw [readH, if_neg (by simp [h1]), if_neg h2, if_neg h3]
theorem Ef.un_one {l : List UInt8} {p : Nat} (h : Bit.unErr l p ≠ 0) : Bit.unErr l p = 1 := by
  unfold Bit.unErr at h ⊢
  split
  · rfl
  · rename_i hh; rw [if_neg hh] at h; exact absurd rfl h
theorem OwnI.low13 {w : World} {base b' : Nat} {v : Value} {L : List Int} (h : OwnI w base v L) (hb : b' ≤ base) : OwnI w b' v L := ⟨h.1, h.2.imp_right fun ⟨g, cap, cur, e, hg, r⟩ => ⟨g, cap, cur, e, Nat.le_trans hb hg, r⟩⟩
theorem Ef.pad_bad {l : List UInt8} {p t : Nat} (h1 : p ≤ t) (h2 : (t + 7) / 8 = (p + 7) / 8) (h3 : t % 8 ≠ 0) (h4 : Bit.at_ l t = true) : padZ l p = false := by
  refine decide_eq_false fun h => ?_
  have := h (t - p) (by omega)
  rw [show p + (t - p) = t by omega] at this
  rw [h4] at this
  exact absurd this (by decide)
theorem Ef.pad_good {l : List UInt8} {p t : Nat} (h2 : (t + 7) / 8 = (p + 7) / 8) (h3 : t % 8 = 0) (h4 : ∀ i, p ≤ i → i < t → Bit.at_ l i = false) : padZ l p = true :=
  decide_eq_true fun i hi => h4 _ (by omega) (by omega)

theorem Ef.read_tail {res : List Int × Nat × Int} {l : List UInt8} {bound : Int} {N wd q : Nat} (h1 : res = if (readN l bound N).2.2 ≠ 0 then ([], 0, (readN l bound N).2.2) else ((readN l bound N).1, q + (readN l bound N).2.1, 0))
    (h2 : readN l bound N = if 8 * l.length < N * wd then ([], 0, 1) else if (readH l wd bound N (N * wd) 0 []).2.2 ≠ 0 then ([], 0, (readH l wd bound N (N * wd) 0 []).2.2) else if padZ l (readH l wd bound N (N * wd) 0 []).2.1 = false then ([], 0, 2) else ((readH l wd bound N (N * wd) 0 []).1, ((readH l wd bound N (N * wd) 0 []).2.1 + 7) / 8, 0)) (h3 : N * wd ≤ 8 * l.length) :
    res = if (readH l wd bound N (N * wd) 0 []).2.2 ≠ 0 then ([], 0, (readH l wd bound N (N * wd) 0 []).2.2) else if padZ l (readH l wd bound N (N * wd) 0 []).2.1 = false then ([], 0, 2) else ((readH l wd bound N (N * wd) 0 []).1, q + ((readH l wd bound N (N * wd) 0 []).2.1 + 7) / 8, 0) := by
  rw [if_neg (by omega)] at h2
  rw [h1, h2]
  generalize readH l wd bound N (N * wd) 0 [] = rh
  obtain ⟨x1, x2, x3⟩ := rh
  dsimp only
  by_cases h1 : x3 = 0
  · subst h1
    cases hp : padZ l x2 with
    | false => simp
    | true => simp
  · simp [h1]

set_option maxHeartbeats 1000000 in
set_option maxRecDepth 100000 in
theorem refRead13Arg_any (bound : Int) (v : Value) (w : World) (hb : bound < 0 ∨ 20000 < bound) : Calls Tryz.prog 20 #[.int .i64 bound, v] w (Rd13To w ([], 0, 13)) := by
  rcases hb with hb | hb
  · go_enter Tryz.func20, Tryz.ntmps20
    go_wp2
    refine bodyPost_ret (results_tmp3 rfl _ _ _) rfl ?_
    exact ⟨.slice none 0 0, rfl, OwnI.nil _ _, Ext.refl _⟩
  · have h0 : ¬ bound < 0 := by omega
    go_enter Tryz.func20, Tryz.ntmps20
    go_wp2
    refine bodyPost_ret (results_tmp3 rfl _ _ _) rfl ?_
    exact ⟨.slice none 0 0, rfl, OwnI.nil _ _, Ext.refl _⟩

attribute [local go_sem ↓] run_cut
set_option maxHeartbeats 8000000 in
set_option maxRecDepth 100000 in
theorem refRead13B_any (bound : Nat) (A : Option Addr) (n c : Nat) (b : List UInt8) (w : World) (hbd : bound ≤ 20000) (hnc : n ≤ c) (hn : n ≤ 100000) (hb : Bytes w w.heap.size A n b) :
    Calls Tryz.prog 20 #[.int .i64 (bound : Int), .slice A n c] w (Rd13To w (readE (bound : Int) b)) := by
  have hbl := hb.1
  have CN := refNew_any A n c b w (by omega) hb
  have h0I : ¬ (bound : Int) < 0 := by omega
  have hbI : ¬ (20000 : Int) < (bound : Int) := by omega
  have HRE := hide (show readE (bound : Int) b = if (intR b 0 0 (bound : Int)).2.2 ≠ 0 then ([], 0, (intR b 0 0 (bound : Int)).2.2) else if (intR b 0 0 (bound : Int)).1 = 0 then ([], (intR b 0 0 (bound : Int)).2.1, 0)
    else if (readN (b.drop (intR b 0 0 (bound : Int)).2.1) (bound : Int) (intR b 0 0 (bound : Int)).1).2.2 ≠ 0 then ([], 0, (readN (b.drop (intR b 0 0 (bound : Int)).2.1) (bound : Int) (intR b 0 0 (bound : Int)).1).2.2)
    else ((readN (b.drop (intR b 0 0 (bound : Int)).2.1) (bound : Int) (intR b 0 0 (bound : Int)).1).1, (intR b 0 0 (bound : Int)).2.1 + (readN (b.drop (intR b 0 0 (bound : Int)).2.1) (bound : Int) (intR b 0 0 (bound : Int)).1).2.1, 0) by unfold readE; rw [if_pos ⟨by omega, by omega⟩])
  have HLe := hide (Num.intR_le b 0 0 (bound : Int))
  have HB := hide hb
  have HBl := hide hbl
  generalize hres : readE (bound : Int) b = res at *
  clear hb hbl hres
  go_enter Tryz.func20, Tryz.ntmps20
  go_wp2_with fail
  refine CN.mono ?_
  rintro e w1 ⟨g3, rfl, hC1, hE1⟩
  have C2 := curInt_any hC1 (bound : Int) (by omega)
  have HE1 := hide hE1
  have hg3 := hC1.le
  clear CN hC1 hE1
  go_wp2_with fail
  refine C2.mono ?_
  rintro e w2 ⟨rfl, hC2, hM2⟩
  obtain ⟨N, q, er, hint⟩ : ∃ x y z, intR b 0 0 (bound : Int) = (x, y, z) := ⟨_, _, _, rfl⟩
  rw [hint] at hC2 HRE HLe ⊢
  dsimp only at hC2 HRE HLe ⊢
  have HE2 := hide (show Ext w w2 from Below.trans HE1.out (hM2.below HE1.out.le hg3 (fun k hk => by cases hk)))
  obtain ⟨v0, hW3, -⟩ := hC2
  have a1 := hW3.at 1 (u := .int .i64 (q : Int)) rfl
  have a2 := hW3.at 2 (u := .int .i64 er) rfl
  have HW3 := hide hW3
  clear C2 hM2 hW3 hint
  by_cases he : er = 0
  · subst he
    obtain ⟨-, hNb, hqb⟩ := HLe.out rfl
    rw [if_neg (by simp)] at HRE
    by_cases hN0 : N = 0
    · have hNI : ((N : Int) == 0) = true := by simp [hN0]
      rw [if_pos hN0] at HRE
      have HR := hide HRE.out
      clear HRE hN0 hNb hqb HLe
      go_wp2_with fail
      go_quiet (fail)
      go_wp2
      refine bodyPost_ret (results_tmp3 rfl _ _ _) rfl ?_
      rw [HR.out]
      exact ⟨.slice none 0 0, rfl, OwnI.nil _ _, HE2.out.drewN _⟩
    rw [if_neg hN0] at HRE
    have hNp : 0 < N := by omega
    have hNI : ((N : Int) == 0) = false := by simp; omega
    have hquo : ((bound : Int).tdiv (N : Int)) = ((bound / N : Nat) : Int) := by rw [Int.tdiv_eq_ediv_of_nonneg (by omega)]; exact (Int.natCast_ediv _ _).symm
    have hdivI : (bound : Int) / (N : Int) = ((bound / N : Nat) : Int) := (Int.natCast_ediv _ _).symm
    have hql : bound / N ≤ 20000 := Nat.le_trans (Nat.div_le_self _ _) hbd
    have CW := refWidth_any (bound / N) w2 hql
    have hwid : wid (bound / N) = widE (bound : Int) N := by unfold widE; rw [Int.toNat_natCast]
    have hw14 := widE_le (bound := (bound : Int)) (n := N) (by omega)
    rw [← hwid] at hw14
    have HRN := hide (show readN (b.drop q) (bound : Int) N = if 8 * (b.drop q).length < N * wid (bound / N) then ([], 0, 1) else if (readH (b.drop q) (wid (bound / N)) (bound : Int) N (N * wid (bound / N)) 0 []).2.2 ≠ 0 then ([], 0, (readH (b.drop q) (wid (bound / N)) (bound : Int) N (N * wid (bound / N)) 0 []).2.2)
      else if padZ (b.drop q) (readH (b.drop q) (wid (bound / N)) (bound : Int) N (N * wid (bound / N)) 0 []).2.1 = false then ([], 0, 2) else ((readH (b.drop q) (wid (bound / N)) (bound : Int) N (N * wid (bound / N)) 0 []).1, ((readH (b.drop q) (wid (bound / N)) (bound : Int) N (N * wid (bound / N)) 0 []).2.1 + 7) / 8, 0) by unfold readN; rw [hwid])
    unfold WidTo at CW
    generalize wid (bound / N) = wd at *
    generalize hqd : bound / N = qd at *
    have hq0 : (0 : Int) ≤ (q : Int) := by omega
    have hqn : q ≤ n := by have := HBl.out; omega
    have hqnI : (q : Int) ≤ (n : Int) := by omega
    have CR := refReader_any (cutAt A c q) (n - q) (c - q) (b.drop q) w2 (by omega) ((HE2.out.bytes HB.out).drop hqn hnc)
    have hN20 : N ≤ 20000 := by omega
    clear hwid hN0 hNb hqb HLe
    go_wp2_with fail
    refine CW.mono ?_
    rintro e w3 ⟨⟨p, hp, rfl⟩, rfl⟩
    have HP := hide hp
    have hpl : p ≤ 16384 := by rw [hp]; exact Nat.le_trans (Nat.pow_le_pow_right (by omega) hw14) (by decide)
    clear CW hp
    go_wp2_with fail
    refine CR.mono ?_
    rintro e w4 ⟨gr, rfl, hR4, hE4⟩
    have HS4 := hide (show Rd13 w w4 g3 gr #[v0, .int .i64 (q : Int), .int .i64 0] (b.drop q) 0 from ⟨HW3.out.ext hE4, (by
      obtain ⟨x, h1, h2, h3, h4, h5⟩ := hR4
      exact ⟨x, h1, h2.mono HE2.out.le, h3, Nat.le_trans HE2.out.le h4, h5⟩), HE2.out.trans hE4⟩)
    obtain ⟨l, hl⟩ : ∃ l, l = b.drop q := ⟨_, rfl⟩
    rw [← hl] at HS4 HRN HRE
    have hll : l.length ≤ 100000 := by rw [hl, List.length_drop]; have := HBl.out; omega
    clear CR hR4 hE4 hl a1 a2 hquo hdivI hqd
    go_wp2_with fail
    go_loopw [13, 12] (fun x v wr => ∃ i : Nat, i ≤ N ∧ x = .int .i64 (i : Int) ∧ OwnI wr w.heap.size v (lowsR l wd i) ∧ Rd13 w wr g3 gr #[v0, .int .i64 (q : Int), .int .i64 0] l (i * wd)) (fun x _ _ => N - (intOf x).toNat)
    case atStart => exact ⟨0, by omega, rfl, OwnI.nil _ _, by rw [Nat.zero_mul]; exact HS4.out⟩
    case round =>
      clear HS4
      obtain ⟨i, hi, rfl, hO, hS⟩ := hrel
      by_cases hlt : i < N
      · have hiI : (i : Int) < (N : Int) := by omega
        have C5 := refGet_any hS.rd (wd : Int)
        have hgb : i * wd ≤ 8 * l.length := by obtain ⟨_, _, _, _, _, h, _, _⟩ := hS.rd.cells; exact h
        rw [get_err (by omega)] at C5
        have hnx := lows_next l wd i
        have hsm := num_small (l := l) (q := i * wd) hw14
        have hln := lows_len l wd i
        by_cases hok : wd ≤ 8 * l.length - i * wd
        · rw [if_pos hok, get_to (by omega) hok] at C5
          have HNx := hide hnx
          have hmul : i * wd + wd = (i + 1) * wd := by rw [Nat.succ_mul]
          rw [hmul] at C5
          generalize Bit.getNum l (i * wd) (wd : Int) = x at *
          have hxI : IntKind.i64.wrap (x : Int) = (x : Int) := by rw [IntKind.wrap_i64]; omega
          have HS := hide hS
          have HO := hide hO
          have HLn := hide hln
          clear hS hO hnx hln hmul hgb hok
          go_wp2_with fail
          refine C5.mono ?_
          rintro e w5 ⟨rfl, hR5, hM5⟩
          have HS5 := hide (HS.out.call hR5 hM5)
          have HO5 := hide (HS.out.own HO.out hM5)
          clear C5 hR5 hM5
          go_wp2_with (at_builtin; refine wpList_appIB rfl (.tmp 76) (.tmp 79) rfl rfl (x : Int) (HO5.out.ext (extNew w5 _)) rfl (by have := HLn.out; omega) HS5.out.ext.le ?_; intro v6 w6 hO6 hG6; have HS6 := hide ((HS5.out.later (extNew w5 _)).grow (HO5.out.ext (extNew w5 _)) (Nat.le_refl _) hG6); have HO6 := hide hO6; clear hO6 hG6)
          go_roundw
          case rel => exact ⟨i + 1, by omega, by go_num, by rw [HNx.out]; exact HO6.out, HS6.out⟩
          case measure => simp [intOf]; omega
        · rw [if_neg hok] at C5
          have hshort : 8 * l.length < N * wd := by
            have : (i + 1) * wd ≤ N * wd := Nat.mul_le_mul_right _ hlt
            rw [Nat.succ_mul] at this
            omega
          have HR := hide (show res = ([], 0, 1) by rw [HRE.out, HRN.out, if_pos hshort]; rfl)
          have HS := hide hS
          generalize Bit.getNum l (i * wd) (wd : Int) = x at *
          clear hS hO hnx hln hgb hok hshort HRE HRN
          go_wp2_with fail
          refine C5.mono ?_
          rintro e w5 ⟨rfl, hR5, hM5⟩
          have HS5 := hide (HS.out.call hR5 hM5)
          go_wp2
          refine bodyPost_ret (results_tmp3 rfl _ _ _) rfl ?_
          rw [HR.out]
          exact ⟨.slice none 0 0, rfl, OwnI.nil _ _, HS5.out.ext⟩
      · have hiI : ¬ (i : Int) < (N : Int) := by omega
        obtain rfl : i = N := by omega
        have hgb : i * wd ≤ 8 * l.length := by obtain ⟨_, _, _, _, _, h, _, _⟩ := hS.rd.cells; exact h
        have HR2 := hide (show res = if (readH l wd (bound : Int) i (i * wd) 0 []).2.2 ≠ 0 then ([], 0, (readH l wd (bound : Int) i (i * wd) 0 []).2.2) else if padZ l (readH l wd (bound : Int) i (i * wd) 0 []).2.1 = false then ([], 0, 2)
          else ((readH l wd (bound : Int) i (i * wd) 0 []).1, q + ((readH l wd (bound : Int) i (i * wd) 0 []).2.1 + 7) / 8, 0) from read_tail HRE.out HRN.out hgb)
        have hlen := lows_len l wd i
        have HAt := hide (fun (j : Nat) (hj : j < i) => lows_at (l := l) (w := wd) hj)
        obtain ⟨gl, cl, hv, hglb, -⟩ := hO.formG (by rw [hlen]; exact hNp)
        rw [hlen] at hv
        subst hv
        have hgll := (hO.lt gl rfl).2
        have HO := hide hO
        have HS := hide hS
        have HLen := hide hlen
        obtain ⟨wz, rfl⟩ : ∃ W, W = wr := ⟨_, rfl⟩
        have HGl := hide hgll
        have HWz := hide HS.out.ext.le
        clear hS hO hlt hiI hlen hgb HRE HRN hgll
        go_wp2_with fail
        go_loopw [18, 17, 16] (fun x y v wr => ∃ (k h p' : Nat) (Out : List Int), k ≤ i ∧ k = Out.length ∧ x = .int .i64 (k : Int) ∧ y = .int .i64 (h : Int) ∧ h ≤ p' ∧ OwnI wr w.heap.size (.slice (some ⟨gl, 0, none⟩) i cl) (lowsR l wd i) ∧ OwnI wr wz.heap.size v Out ∧ Rd13 w wr g3 gr #[v0, .int .i64 (q : Int), .int .i64 0] l p' ∧ wz.heap.size ≤ wr.heap.size ∧ readH l wd (bound : Int) i (i * wd) 0 [] = readH l wd (bound : Int) (i - k) p' h Out) (fun x _ _ _ => i - (intOf x).toNat)
        case atStart => exact ⟨0, 0, i * wd, [], by omega, rfl, rfl, rfl, by omega, HO.out, OwnI.nil _ _, HS.out, Nat.le_refl _, rfl⟩
        case round =>
          clear HS HO
          obtain ⟨k, h, p', Out, hk, hkl, rfl, rfl, hhp, hOl, hO, hS, hsz, hread⟩ := hrel
          have hpb : p' ≤ 8 * l.length := by obtain ⟨_, _, _, _, _, h, _, _⟩ := hS.rd.cells; exact h
          have HS := hide hS
          have HO := hide hO
          have HOl := hide hOl
          by_cases hlt : k < i
          · have hkI : (k : Int) < (i : Int) := by omega
            have C6 := refUnaryR_any hS.rd
            obtain ⟨f, hf⟩ : ∃ f, i - k = f + 1 := ⟨i - k - 1, by omega⟩
            rw [hf] at hread
            obtain ⟨s1, s2, s3, s4⟩ := readH_step (l := l) (w := wd) (k := f) (p := p') (h := h) (bound := (bound : Int)) (out := Out) hkl
            by_cases hue : Bit.unErr l p' = 0
            · obtain ⟨t1, t2, -⟩ := Bit.un_sub hue
              rw [hue, t1] at C6
              rw [t1] at t2
              have hS2 := s2 hue
              have hS3 := s3 hue
              have hS4 := s4 hue
              rw [t1] at hS4
              have hsm := num_small (l := l) (q := k * wd) hw14
              have hat := HAt.out k hlt
              rw [← HP.out] at hS2 hS3 hS4
              obtain ⟨u, hu⟩ : ∃ u, u = Bit.unNum l p' := ⟨_, rfl⟩
              rw [← hu] at C6 hS2 hS3 hS4 t2
              obtain ⟨lw, hlw⟩ : ∃ lw, lw = Bit.getNum l (k * wd) (wd : Int) := ⟨_, rfl⟩
              rw [← hlw] at hS2 hS3 hS4 hsm hat
              obtain ⟨id, hid⟩ : ∃ id, id = (h + u) * p + lw := ⟨_, rfl⟩
              rw [← hid] at hS2 hS3 hS4
              have hmul : (h + u) * p ≤ 800000 * 16384 := Nat.mul_le_mul (by omega) hpl
              obtain ⟨hp, hhpe⟩ : ∃ hp, hp = (h + u) * p := ⟨_, rfl⟩
              rw [← hhpe] at hid hmul
              have hmulI : ((h : Int) + (u : Int)) * (p : Int) = (hp : Int) := by rw [hhpe, Int.natCast_mul, Int.natCast_add]
              have hpbd : hp ≤ 13107200000 := by omega
              have hidI : (hp : Int) + (lw : Int) = (id : Int) := by omega
              have hidb : id ≤ 13107300000 := by omega
              have HId := hide hid
              have hk5 : k ≤ 20000 := by omega
              have hdec1 : ((k : Int) - 1) = (((k - 1 : Nat)) : Int) ∨ k = 0 := by omega
              obtain ⟨e1, -⟩ := hOl.cell (i := k) (by rw [lows_len]; exact hlt)
              rw [hat] at e1
              have HOe1 := hide (show ∀ W, OwnI W w.heap.size (.slice (some ⟨gl, 0, none⟩) i cl) (lowsR l wd i) → W.cell? ⟨gl, k, none⟩ = some (.int .i64 (lw : Int)) from fun W hW => by
                have := (hW.cell (i := k) (by rw [lows_len]; exact hlt)).1
                rwa [hat] at this)
              have hub : h + u ≤ 800000 := by omega
              have HT1 := hide t1
              have HT2 := hide t2
              have HHp := hide (show h + u ≤ p' + u + 1 by omega)
              have hkd : k = 0 ∨ ∃ k', k = k' + 1 := by rcases k with _ | k'; exact .inl rfl; exact .inr ⟨k', rfl⟩
              clear s1 s2 s3 s4 hue t1 t2 hat hid hlw hu hS hOl e1 hmul hpb hdec1 hhpe
              rcases hkd with rfl | ⟨k', rfl⟩
              · obtain rfl : Out = [] := List.eq_nil_of_length_eq_zero hkl.symm
                have hS3' := hS3 (fun hh => absurd hh.1 (by omega))
                have hS4' := hS4 (fun hh => absurd hh.1 (by omega))
                clear hS2 hS3 hS4 hkl
                by_cases hbig : (bound : Int) ≤ (id : Int)
                · have HR := hide (show res = ([], 0, 8) by rw [HR2.out, hread, hS3' hbig]; simp)
                  clear hS3' hS4' hread HR2
                  go_wp2_with fail
                  refine C6.mono ?_
                  rintro e w6 ⟨rfl, hR6, hM6⟩
                  have HS6 := hide (HS.out.call hR6 hM6)
                  have hOl6 := HS.out.own HOl.out hM6
                  have hO6 := HS.out.own HO.out hM6
                  have e1 := HOe1.out w6 hOl6
                  have HM6 := hide (show wz.heap.size ≤ w6.heap.size from Nat.le_trans hsz hM6.size)
                  have HO6 := hide hO6
                  have HOl6 := hide hOl6
                  clear C6 hR6 hM6 hO6 hOl6
                  go_wp2
                  refine bodyPost_ret (results_tmp3 rfl _ _ _) rfl ?_
                  rw [HR.out]
                  exact ⟨.slice none 0 0, rfl, OwnI.nil _ _, HS6.out.ext⟩
                · have HRd := hide (hread.trans (hS4' hbig))
                  clear hS3' hS4' hread
                  go_wp2_with fail
                  refine C6.mono ?_
                  rintro e w6 ⟨rfl, hR6, hM6⟩
                  have HS6 := hide (HS.out.call hR6 hM6)
                  have hOl6 := HS.out.own HOl.out hM6
                  have hO6 := HS.out.own HO.out hM6
                  have e1 := HOe1.out w6 hOl6
                  have HM6 := hide (show wz.heap.size ≤ w6.heap.size from Nat.le_trans hsz hM6.size)
                  have HO6 := hide hO6
                  have HOl6 := hide hOl6
                  clear C6 hR6 hM6 hO6 hOl6
                  go_wp2_with (at_builtin; refine wpList_appIB rfl (.tmp 119) (.tmp 121) rfl rfl (id : Int) (HO6.out.ext (extNew w6 _)) rfl (by simp) (by have := HM6.out; omega) ?_; intro v7 w7 hO7 hG7; have HS7 := hide ((HS6.out.later (extNew w6 _)).grow (HO6.out.ext (extNew w6 _)) HWz.out hG7); have HOl7 := hide (((HOl6.out).ext (extNew w6 _)).kept13 hG7 (.inr (fun e => absurd (Nat.lt_of_le_of_lt ((HO6.out.lt gl e.symm).1) HGl.out) (Nat.lt_irrefl _)))); have HO7 := hide hO7; have HSz := hide hG7.size; clear hO7 hG7)
                  go_roundw
                  case rel => exact ⟨0 + 1, h + u, p' + u + 1, _, by omega, by rw [List.length_append, List.length_singleton]; rfl, by go_num, rfl, HHp.out, HOl7.out, HO7.out, HS7.out, by have := HM6.out; have := HSz.out; rw [World.size_alloc] at this; omega, by rw [HRd.out]; congr 1; omega⟩
                  case measure => simp [intOf]; omega
              · obtain ⟨gi, ci, hvi, hgib, -⟩ := hO.formG (by rw [← hkl]; omega)
                rw [← hkl] at hvi
                subst hvi
                have e3 := (hO.cell (i := k') (by rw [← hkl]; omega)).1
                obtain ⟨lst, hlst⟩ : ∃ x, x = Out.getD k' 0 := ⟨_, rfl⟩
                rw [← hlst] at e3
                rw [Nat.add_sub_cancel, ← hlst] at hS2 hS3 hS4
                have HOe3 := hide (show ∀ W, OwnI W wz.heap.size (.slice (some ⟨gi, 0, none⟩) (k' + 1) ci) Out → W.cell? ⟨gi, k', none⟩ = some (.int .i64 lst) from fun W hW => by
                  rw [hlst]
                  exact (hW.cell (i := k') (by rw [← hkl]; omega)).1)
                have HKl := hide hkl
                clear hO e3 hlst hkl
                by_cases hle : (id : Int) ≤ lst
                · have hR := hS2 (by omega) hle
                  have HR := hide (show res = ([], 0, 2) by rw [HR2.out, hread, hR]; simp)
                  clear hS2 hS3 hS4 hR hread HR2
                  go_wp2_with fail
                  refine C6.mono ?_
                  rintro e w6 ⟨rfl, hR6, hM6⟩
                  have HS6 := hide (HS.out.call hR6 hM6)
                  have hOl6 := HS.out.own HOl.out hM6
                  have hO6 := HS.out.own HO.out hM6
                  have e1 := HOe1.out w6 hOl6
                  have e3 := HOe3.out w6 hO6
                  have HM6 := hide (show wz.heap.size ≤ w6.heap.size from Nat.le_trans hsz hM6.size)
                  have HO6 := hide hO6
                  have HOl6 := hide hOl6
                  clear C6 hR6 hM6 hO6 hOl6
                  go_wp2
                  refine bodyPost_ret (results_tmp3 rfl _ _ _) rfl ?_
                  rw [HR.out]
                  exact ⟨.slice none 0 0, rfl, OwnI.nil _ _, HS6.out.ext⟩
                · have hS3' := hS3 (fun hh => hle hh.2)
                  have hS4' := hS4 (fun hh => hle hh.2)
                  clear hS2 hS3 hS4
                  by_cases hbig : (bound : Int) ≤ (id : Int)
                  · have HR := hide (show res = ([], 0, 8) by rw [HR2.out, hread, hS3' hbig]; simp)
                    clear hS3' hS4' hread HR2
                    go_wp2_with fail
                    refine C6.mono ?_
                    rintro e w6 ⟨rfl, hR6, hM6⟩
                    have HS6 := hide (HS.out.call hR6 hM6)
                    have hOl6 := HS.out.own HOl.out hM6
                    have hO6 := HS.out.own HO.out hM6
                    have e1 := HOe1.out w6 hOl6
                    have e3 := HOe3.out w6 hO6
                    have HM6 := hide (show wz.heap.size ≤ w6.heap.size from Nat.le_trans hsz hM6.size)
                    have HO6 := hide hO6
                    have HOl6 := hide hOl6
                    clear C6 hR6 hM6 hO6 hOl6
                    go_wp2
                    refine bodyPost_ret (results_tmp3 rfl _ _ _) rfl ?_
                    rw [HR.out]
                    exact ⟨.slice none 0 0, rfl, OwnI.nil _ _, HS6.out.ext⟩
                  · have HRd := hide (hread.trans (hS4' hbig))
                    clear hS3' hS4' hread
                    go_wp2_with fail
                    refine C6.mono ?_
                    rintro e w6 ⟨rfl, hR6, hM6⟩
                    have HS6 := hide (HS.out.call hR6 hM6)
                    have hOl6 := HS.out.own HOl.out hM6
                    have hO6 := HS.out.own HO.out hM6
                    have e1 := HOe1.out w6 hOl6
                    have e3 := HOe3.out w6 hO6
                    have HM6 := hide (show wz.heap.size ≤ w6.heap.size from Nat.le_trans hsz hM6.size)
                    have HO6 := hide hO6
                    have HOl6 := hide hOl6
                    clear C6 hR6 hM6 hO6 hOl6
                    go_wp2_with (at_builtin; refine wpList_appIB rfl (.tmp 119) (.tmp 121) rfl rfl (id : Int) (HO6.out.ext (extNew w6 _)) rfl (by have := HKl.out; omega) (by have := HM6.out; omega) ?_; intro v7 w7 hO7 hG7; have HS7 := hide ((HS6.out.later (extNew w6 _)).grow (HO6.out.ext (extNew w6 _)) HWz.out hG7); have HOl7 := hide (((HOl6.out).ext (extNew w6 _)).kept13 hG7 (.inr (fun e => absurd (Nat.lt_of_le_of_lt ((HO6.out.lt gl e.symm).1) HGl.out) (Nat.lt_irrefl _)))); have HO7 := hide hO7; have HSz := hide hG7.size; clear hO7 hG7)
                    go_roundw
                    case rel => exact ⟨(k' + 1) + 1, h + u, p' + u + 1, _, by omega, by rw [List.length_append, List.length_singleton]; rw [← HKl.out], by go_num, rfl, HHp.out, HOl7.out, HO7.out, HS7.out, by have := HM6.out; have := HSz.out; rw [World.size_alloc] at this; omega, by rw [HRd.out]; congr 1; omega⟩
                    case measure => simp [intOf]; omega
            · have HR := hide (show res = ([], 0, 1) by
                have h1 := s1 hue
                rw [HR2.out, hread, h1]
                simp)
              rw [un_one hue] at C6
              clear s1 s2 s3 s4 hread hf hue hpb hS hO hOl HR2
              generalize Bit.unNum l p' = u at *
              go_wp2_with fail
              refine C6.mono ?_
              rintro e w6 ⟨rfl, hR6, hM6⟩
              have HS6 := hide (HS.out.call hR6 hM6)
              go_wp2
              refine bodyPost_ret (results_tmp3 rfl _ _ _) rfl ?_
              rw [HR.out]
              exact ⟨.slice none 0 0, rfl, OwnI.nil _ _, HS6.out.ext⟩
          · have hkI : ¬ (k : Int) < (i : Int) := by omega
            have hki : i - k = 0 := by omega
            rw [hki, readH] at hread
            have HR3 := hide (show res = if padZ l p' = false then ([], 0, 2) else (Out, q + (p' + 7) / 8, 0) by
              rw [HR2.out, hread]
              rw [if_neg (by simp)])
            obtain ⟨gi, ci, hvi, hgib, hcig⟩ := hO.formG (by rw [← hkl]; omega)
            rw [← hkl] at hvi hcig
            subst hvi
            have HKl := hide hkl
            clear hS hO hOl hread HR2 hkl hki hlt HOl
            go_wp2_with fail
            go_loopw [123] (fun _ w3 => ∃ p3 : Nat, p' ≤ p3 ∧ p3 ≤ 8 * l.length ∧ (p3 + 7) / 8 = (p' + 7) / 8 ∧ (∀ t, p' ≤ t → t < p3 → Bit.at_ l t = false) ∧ OwnI w3 wz.heap.size (.slice (some ⟨gi, 0, none⟩) k ci) Out ∧ Rd13 w w3 g3 gr #[v0, .int .i64 (q : Int), .int .i64 0] l p3) (fun _ w3 => (8 - (intOf ((w3.cell? ⟨gr, 1, none⟩).getD (.int .i64 0))).toNat % 8) % 8)
            case atStart => exact ⟨p', Nat.le_refl _, hpb, rfl, fun t h1 h2 => absurd h2 (by omega), HO.out, HS.out⟩
            case round =>
              clear HS HO hpb
              obtain ⟨p3, hp3, hp3b, hp38, hz, hO, hS⟩ := hrel
              obtain ⟨A', c', c0, c1, f1, -, -, hbb⟩ := hS.rd.cells
              have a1 := hS.cur.at 1 (u := .int .i64 (q : Int)) rfl
              have hll8 : 8 * l.length ≤ 800000 := by omega
              have HS := hide hS
              have HO := hide hO
              by_cases h8 : p3 % 8 = 0
              · have htm : ((p3 : Nat) : Int).tmod 8 = 0 := by rw [Int.tmod_eq_emod_of_nonneg (by omega)]; omega
                have HR := hide (show res = (Out, q + (p' + 7) / 8, 0) by rw [HR3.out, if_neg (by rw [pad_good hp38 h8 hz]; simp)])
                obtain ⟨d8, hd8⟩ : ∃ d, d = p3 / 8 := ⟨_, rfl⟩
                have hquo : ((p3 : Nat) : Int).tdiv 8 = (d8 : Int) := by rw [Int.tdiv_eq_ediv_of_nonneg (by omega)]; omega
                have HVal := hide (show ((q : Int) + (d8 : Int)) = ((q + (p' + 7) / 8 : Nat) : Int) by omega)
                have hsm : d8 ≤ 100000 := by omega
                clear hz hbb hS hO h8 HR3 hp38 hd8
                go_wp2
                go_quiet (fail)
                go_wp2
                refine bodyPost_ret (results_tmp3 rfl _ _ _) rfl ?_
                rw [HR.out]
                refine ⟨.slice (some ⟨gi, 0, none⟩) k ci, ?_, (HO.out.ext ((Ext.refl _).drewN _)).low13 HWz.out, HS.out.ext.drewN _⟩
                show Ending.returned (.tuple #[.slice (some ⟨gi, 0, none⟩) k ci, .int .i64 ((q : Int) + (d8 : Int)), .int .i64 0]) = _
                rw [HVal.out]
              · obtain ⟨m8, hm8⟩ : ∃ m, m = p3 % 8 := ⟨_, rfl⟩
                have htm : ((p3 : Nat) : Int).tmod 8 = (m8 : Int) := by rw [Int.tmod_eq_emod_of_nonneg (by omega)]; omega
                have hne8 : (m8 : Int) ≠ 0 := by omega
                have hlt8 : p3 < 8 * l.length := by omega
                obtain ⟨b1, o1, rfl, hb1, hc1⟩ := spread_cell (i := p3) hbb hlt8
                have hltI : (p3 : Int) < ((8 * l.length : Nat) : Int) := by omega
                by_cases hbit : Bit.at_ l p3 = true
                · have HR := hide (show res = ([], 0, 2) by rw [HR3.out, if_pos (pad_bad hp3 hp38 h8 hbit)])
                  rw [hbit] at hc1
                  clear hz hbb hS hO h8 HR3 hp38 hm8
                  go_wp2
                  go_quiet (fail)
                  go_wp2
                  refine bodyPost_ret (results_tmp3 rfl _ _ _) rfl ?_
                  rw [HR.out]
                  exact ⟨.slice none 0 0, rfl, OwnI.nil _ _, HS.out.ext.drewN _⟩
                · have hbit' : Bit.at_ l p3 = false := by simpa using hbit
                  rw [hbit'] at hc1
                  have HZ := hide (show ∀ t, p' ≤ t → t < p3 + 1 → Bit.at_ l t = false from fun t h1 h2 => by
                    rcases Nat.lt_or_ge t p3 with h | h
                    · exact hz t h1 h
                    · obtain rfl : t = p3 := by omega
                      exact hbit')
                  have HN := hide (show (p3 + 1 + 7) / 8 = (p' + 7) / 8 by omega)
                  have H8 := hide (show p3 % 8 ≠ 0 from h8)
                  clear hz hbb hS hO h8 hbit hbit' HR3 hp38 hm8
                  go_wp2
                  go_quiet (fail)
                  go_wp2
                  have hS5 := HS.out.later ((Ext.refl wr).drewN nq)
                  have hO5 := HO.out.ext ((Ext.refl wr).drewN nq)
                  have hM := hS5.rd.moved (q' := p3 + 1) (x := (p3 : Int) + 1) (by omega) (by omega)
                  have hS6 := hS5.call hM.1 hM.2
                  refine ⟨⟨p3 + 1, by omega, by omega, HN.out, HZ.out, hS5.own hO5 hM.2, hS6⟩, ?_⟩
                  obtain ⟨_, _, _, c2, _⟩ := hS6.rd.cells
                  rw [c2, c1]
                  have := H8.out
                  simp only [Option.getD_some, intOf, Int.toNat_natCast]
                  omega
  · have he' : (er != 0) = true := by simpa using he
    have HR := hide (show res = ([], 0, er) by rw [HRE.out, if_pos he])
    clear he HRE HLe
    go_wp2_with fail
    go_quiet (fail)
    go_wp2
    refine bodyPost_ret (results_tmp3 rfl _ _ _) rfl ?_
    rw [HR.out]
    exact ⟨.slice none 0 0, rfl, OwnI.nil _ _, HE2.out.drewN _⟩
end Go.Proofs.YtcphapdjimeoaaaGreat

