/- The document's ReadColumns of chapter 17. RecsColumns, RecsApart. Contracts of the program's numbers: Zig, Zag, Num, Text. The program's Bytes of chapter 17. Two lists of numbers of the call's own, side by side; append of one number, told with where what comes back lies. New lists of numbers of the call's own: make, a cell, a store. The program's Groups of chapter 17. The contract of the program's Fixed. The contract of the example that every law of chapter 3 asks first. The program's cursor: what its block and its row hold. The program's Weight, isLong, Check of chapter 17; slices.IndexFunc and ContainsFunc at records. Slices of slices of bytes. The contracts of the library's slices.Concat at bytes (with its Grow of nothing), and of the program's All. -/
import Derived.Test.YtkgkppblkdihkaaB01
import Derived.Test.YtkgkppblkdihkaaB02
import Derived.Test.YtkgkppblkdihkaaB03
import Derived.Lib.SliceRun
namespace Go.Proofs.Ytkgkppblkdihkaa
open Go.RowKit Rcs Num

namespace Rcs
/-- What is read, with other things ahead; an error alone. -/
def after {α : Type} (vs : List α) (r : List α × Nat × Int) : List α × Nat × Int := if r.2.2 ≠ 0 then ([], 0, r.2.2) else (vs ++ r.1, r.2.1, 0)
theorem after_after {α : Type} (vs us : List α) (r : List α × Nat × Int) : after vs (after us r) = after (vs ++ us) r := by
  obtain ⟨a, q, e⟩ := r
  unfold after
  dsimp only
  by_cases he : e = 0
  · subst he; simp
  · simp [he]
theorem after_nil {α : Type} {r : List α × Nat × Int} (h : r.2.2 ≠ 0 → r.1 = [] ∧ r.2.1 = 0) : after [] r = r := by
  obtain ⟨a, q, e⟩ := r
  unfold after
  dsimp only at *
  by_cases he : e = 0
  · subst he; simp
  · rw [if_pos he]
    obtain ⟨rfl, rfl⟩ := h he
    rfl
theorem times_err (b : List UInt8) : ∀ n was q, (timesR b n was q).2.2 ≠ 0 → (timesR b n was q).1 = [] ∧ (timesR b n was q).2.1 = 0
  | 0, _, _, h => by simp [timesR] at h
  | n + 1, was, q, h => by
    rw [timesR] at h ⊢
    split
    · exact ⟨rfl, rfl⟩
    · rename_i h1
      rw [if_neg h1] at h
      split
      · exact ⟨rfl, rfl⟩
      · rename_i h2
        rw [if_neg h2] at h
        exact absurd rfl h
theorem times_bad {b : List UInt8} {n was q : Nat} (h : (numR b q 0).2.2 ≠ 0) : timesR b (n + 1) was q = ([], 0, (numR b q 0).2.2) := by rw [timesR, if_pos h]
theorem times_good {b : List UInt8} {n was q : Nat} (h : (numR b q 0).2.2 = 0) : timesR b (n + 1) was q = after [(was + zag (numR b q 0).1) % 2 ^ 64] (timesR b n ((was + zag (numR b q 0).1) % 2 ^ 64) (numR b q 0).2.1) := by
  rw [timesR, if_neg (by simp [h])]
  rfl
theorem levels_err (b : List UInt8) : ∀ f left p q, (levelsR b f left p q).2.2 ≠ 0 → (levelsR b f left p q).1 = [] ∧ (levelsR b f left p q).2.1 = 0
  | 0, _, _, _, h => by simp [levelsR] at h
  | f + 1, left, p, q, h => by
    rw [levelsR] at h ⊢
    split
    · rename_i h0
      rw [if_pos h0] at h
      exact absurd rfl h
    · rename_i h0
      rw [if_neg h0] at h
      split
      · exact ⟨rfl, rfl⟩
      · rename_i h1
        rw [if_neg h1] at h
        split
        · exact ⟨rfl, rfl⟩
        · rename_i h2
          rw [if_neg h2] at h
          split
          · exact ⟨rfl, rfl⟩
          · rename_i h3
            rw [if_neg h3] at h
            exact absurd rfl h
theorem levels_none {b : List UInt8} {f q : Nat} {p : Option UInt8} : levelsR b f 0 p q = ([], q, 0) := by
  cases f with
  | zero => rfl
  | succ f => rw [levelsR, if_pos rfl]
theorem levels_bad {b : List UInt8} {f left q : Nat} {p : Option UInt8} (hl : 0 < left) (h : (runR b q left).2.2 ≠ 0) : levelsR b (f + 1) left p q = ([], 0, (runR b q left).2.2) := by rw [levelsR, if_neg (by omega), if_pos h]
theorem levels_form {b : List UInt8} {f left q : Nat} {p : Option UInt8} (hl : 0 < left) (h : (runR b q left).2.2 = 0) (h2 : (runR b q left).1 = 0 ∨ p = some (UInt8.ofNat (byteR b q 0).1)) : levelsR b (f + 1) left p q = ([], 0, 2) := by rw [levelsR, if_neg (by omega), if_neg (by simp [h]), if_pos h2]
theorem levels_good {b : List UInt8} {f left q : Nat} {p : Option UInt8} (hl : 0 < left) (h : (runR b q left).2.2 = 0) (h2 : ¬ ((runR b q left).1 = 0 ∨ p = some (UInt8.ofNat (byteR b q 0).1))) :
    levelsR b (f + 1) left p q = after (List.replicate (runR b q left).1 (UInt8.ofNat (byteR b q 0).1)) (levelsR b f (left - (runR b q left).1) (some (UInt8.ofNat (byteR b q 0).1)) (runR b q left).2.1) := by
  rw [levelsR, if_neg (by omega), if_neg (by simp [h]), if_neg h2]
  rfl
theorem run_le' {b : List UInt8} {q left : Nat} : (runR b q left).1 ≤ left := by
  unfold runR intR
  split
  · split
    · simp
    · omega
  · simp
theorem last_run {l : List UInt8} {x : UInt8} {k : Nat} (hk : 0 < k) : (l ++ List.replicate k x).getLast? = some x := by
  rw [List.getLast?_append, List.getLast?_replicate, if_neg (by omega)]
  rfl
theorem read_times {b : List UInt8} {n : Nat} {e : Int} (h : (timesR b n 0 0).2.2 = e) (he : e ≠ 0) : readCR n b = ([], [], 0, e) := by
  subst h
  unfold readCR
  rw [if_pos he]
theorem read_levels {b : List UInt8} {n q : Nat} {ts : List Nat} (h : timesR b n 0 0 = (ts, q, 0)) : readCR n b = if (levelsR b n n none q).2.2 ≠ 0 then ([], [], 0, (levelsR b n n none q).2.2) else (ts, (levelsR b n n none q).1, (levelsR b n n none q).2.1, 0) := by
  unfold readCR
  rw [h]
  dsimp only
  rw [if_neg (by simp)]
end Rcs

theorem results_tmp4 {fn : Func} {t u v x : Tmp} (h : fn.results = #[.tmp t, .tmp u, .tmp v, .tmp x]) (tmps : Array Value) (P : Program) (w : World) :
    (results fn tmps).run P w = .ok (.tuple #[tmps.getD t undef, tmps.getD u undef, tmps.getD v undef, tmps.getD x undef]) w := by
  simp [results, h]
/-- What ReadColumns tells. -/
def CloTo (w : World) (r : List Nat × List UInt8 × Nat × Int) (e : Ending) (w' : World) : Prop :=
  ∃ A1 c1 A2 c2, e = .returned (.tuple #[.slice A1 r.1.length c1, .slice A2 r.2.1.length c2, .int .i64 (r.2.2.1 : Int), .int .i64 r.2.2.2]) ∧ U64At w' w'.heap.size A1 r.1.length r.1 ∧ Bytes w' w'.heap.size A2 r.2.1.length r.2.1 ∧ Ext w w'
def sliceLen17 : Value → Nat
  | .slice _ n _ => n
  | _ => 0
/-- The cursor's bytes lie below. -/
def Low (hi : Nat) (v : Value) : Prop := ∀ k, v.ownBlock = some k → k < hi
theorem RefCF.low {w : World} {base g q : Nat} {b : List UInt8} {e : Int} {P0 : Value → Prop} (h : RefCF P0 w base g b q e) : RefCF (Low w.heap.size) w base g b q e := by
  obtain ⟨v, h1, h2, h3, h4, h5, h6, -⟩ := h
  exact ⟨v, h1, h2, h3, h4, h5, h6, fun k hk => (h2.lt k hk).2⟩
/-- What lies above has grown. -/
theorem RefCF.above {w w' : World} {base g q hi : Nat} {b : List UInt8} {e : Int} {ob : Option Nat} (h : RefCF (Low hi) w base g b q e) (hG : w.grownBy w' ob) (ho : ∀ k, ob = some k → hi ≤ k) (hg : g < hi) : RefCF (Low hi) w' base g b q e := by
  obtain ⟨v, h1, h2, h3, h4, h5, h6, h7⟩ := h
  refine ⟨v, h1.ownGrown hG (fun e => by have := ho g e; omega), World.ownsRow.kept h2 hG ?_, h3, h4, h5, h6, h7⟩
  cases hv : v.ownBlock with
  | none => exact .inl rfl
  | some k => exact .inr (fun e => by have h8 := ho k e.symm; have h9 := h7 k hv; omega)
set_option maxHeartbeats 1000000 in
set_option maxRecDepth 10000 in
theorem refReadC17Arg_any (n : Int) (v : Value) (w : World) (hn : n < 0 ∨ 20000 < n) : Calls Try.prog 30 #[.int .i64 n, v] w (CloTo w ([], [], 0, 13)) := by
  by_cases h0 : n < 0
  · go_enter Try.func30, Try.ntmps30
    go_wp2
    refine bodyPost_ret (results_tmp4 rfl _ _ _) rfl ?_
    exact ⟨none, 0, none, 0, rfl, ⟨rfl, .inl rfl⟩, ⟨rfl, .inl rfl⟩, Ext.refl _⟩
  · have h1 : 20000 < n := by omega
    go_enter Try.func30, Try.ntmps30
    go_wp2
    refine bodyPost_ret (results_tmp4 rfl _ _ _) rfl ?_
    exact ⟨none, 0, none, 0, rfl, ⟨rfl, .inl rfl⟩, ⟨rfl, .inl rfl⟩, Ext.refl _⟩
set_option maxHeartbeats 4000000 in
set_option maxRecDepth 10000 in
theorem refReadC17_any (N : Nat) (b : List UInt8) (A : Option Addr) (c : Nat) (w : World) (hN : N ≤ 20000) (hl : b.length ≤ 1000000) (hB : Bytes w w.heap.size A b.length b) :
    Calls Try.prog 30 #[.int .i64 (N : Int), .slice A b.length c] w (CloTo w (readCR N b)) := by
  have hN0 : ¬ (N : Int) < 0 := by omega
  have hN1 : ¬ (20000 : Int) < (N : Int) := by omega
  have CN := refNew_any A b.length c b w hl hB
  have HT := hide (fun (e : Int) => read_times (b := b) (n := N) (e := e))
  have HL := hide (fun q ts => read_levels (b := b) (n := N) (q := q) (ts := ts))
  generalize readCR N b = res at *
  obtain ⟨bl, hbl⟩ : ∃ x, x = b.length := ⟨_, rfl⟩
  rw [← hbl] at CN ⊢
  have HBL := hide hbl
  clear hB hl hbl
  go_enter Try.func30, Try.ntmps30
  go_wp2_with fail
  refine CN.mono ?_
  rintro e w1 ⟨g, rfl, hR0, hE1⟩
  have HR1 := hide hR0.low
  have hg1 := hR0.lt
  have HGe := hide hR0.le
  have HE1 := hide hE1
  obtain ⟨hi, hhi⟩ : ∃ x, x = w1.heap.size := ⟨_, rfl⟩
  rw [← hhi] at HR1 hg1
  have hh0 : hi ≤ w1.heap.size := by omega
  have hwh : w.heap.size ≤ hi := by rw [hhi]; exact hE1.le
  clear CN hR0 hE1 hhi
  go_wp2
  go_loopw [11, 10, 9] (fun x y v wr => ∃ (i was q : Nat) (ts : List Nat), i ≤ N ∧ x = .int .i64 (i : Int) ∧ y = .int .u64 (was : Int) ∧ was < 18446744073709551616 ∧ Own64 wr hi v ts ∧ RefCF (Low hi) wr w.heap.size g b q 0 ∧ ts.length = i ∧ timesR b N 0 0 = after ts (timesR b (N - i) was q) ∧ Ext w wr ∧ hi ≤ wr.heap.size) (fun x _ _ _ => N - (intOf x).toNat)
  case atStart => exact ⟨0, 0, 0, [], by omega, rfl, rfl, by omega, Own64.nil _ _, HR1.out, rfl, by rw [after_nil (times_err _ _ _ _), Nat.sub_zero], HE1.out, hh0⟩
  case round =>
    clear HR1 HE1 hh0
    obtain ⟨i, was, q, ts, hi2, rfl, rfl, hwas, hO, hR, htl, hT, hE, hhw⟩ := hrel
    have HTl := hide htl
    clear htl
    have HTs := hide hT
    have HE := hide hE
    clear hT hE
    by_cases hlt : i < N
    · have hltI : (i : Int) < (N : Int) := by omega
      obtain ⟨d, hd⟩ : ∃ d, N - i = d + 1 := ⟨N - i - 1, by omega⟩
      have CU := curNum_any hR
      have HB := hide (show (numR b q 0).2.2 ≠ 0 → (timesR b N 0 0).2.2 = (numR b q 0).2.2 from fun he => by
        rw [HTs.out, hd, times_bad he]
        unfold after
        dsimp only
        rw [if_pos he])
      have HG := hide (show (numR b q 0).2.2 = 0 → timesR b N 0 0 = after (ts ++ [(was + zag (numR b q 0).1) % 2 ^ 64]) (timesR b (N - (i + 1)) ((was + zag (numR b q 0).1) % 2 ^ 64) (numR b q 0).2.1) from fun he => by
        rw [HTs.out, hd, times_good he, after_after, show N - (i + 1) = d by omega])
      have hxl := (scan_facts b q).1
      have hxe : (numR b q 0) = scan b q := by unfold numR; rw [if_pos rfl]
      rw [← hxe] at hxl
      obtain ⟨x, q', e', hx⟩ : ∃ x q' e', numR b q 0 = (x, q', e') := ⟨_, _, _, rfl⟩
      rw [hx] at CU HB HG hxl
      dsimp only at CU HB HG hxl
      have CZ := fun W => refZag_any x W (by omega)
      have hz64 := zag_lt (z := x) (by omega)
      obtain ⟨t, ht⟩ : ∃ t, t = (was + zag x) % 2 ^ 64 := ⟨_, rfl⟩
      have hsum : IntKind.u64.wrap ((was : Int) + ((zag x : Nat) : Int)) = (t : Int) := by rw [IntKind.wrap_u64, ht]; omega
      have ht64 : t < 18446744073709551616 := by rw [ht]; exact Nat.mod_lt _ (by decide)
      rw [← ht] at HG
      generalize zag x = zz at *
      have HO := hide hO
      have HR := hide hR
      clear hx hxe hxl ht hd hz64 hO hR
      go_wp2_with fail
      refine CU.mono ?_
      rintro e2 w3 ⟨rfl, hR3, hM3⟩
      go_wp2_with fail
      refine (CZ w3).mono ?_
      rintro e2 wx ⟨rfl, rfl⟩
      have hO3 := hM3.own64 HO.out (fun h => by have := (HO.out.lt _ h).1; omega) (Classical.em _)
      have hE3 : Ext w w3 := Below.trans HE.out (hM3.below (B := w.heap.size) HE.out.le HGe.out (fun k hk => by cases hk))
      have hh3 : hi ≤ w3.heap.size := Nat.le_trans hhw hM3.size
      obtain ⟨-, -, -, -, ce, -, -, -, -⟩ := hR3.cells
      by_cases he : e' = 0
      · subst he
        have HGo := hide (HG.out rfl)
        have hEa := extNew w3 (.cells #[.int .u64 (t : Int)] 40)
        have HOa := hide (hO3.ext hEa)
        have HRa := hide (hR3.above (hEa.grown none) (fun k hk => by cases hk) hg1)
        have HEa := hide (hE3.trans hEa)
        have hts : ts.length ≤ 1000000 := by rw [HTl.out]; omega
        have hbs := hR3.bounds
        clear CU CZ hM3 hO3 hE3 hEa hR3 HB HG
        go_wp2_with (at_builtin; refine wpList_app64 rfl (.tmp 43) (.tmp 45) rfl rfl t HOa.out rfl hts hh3 ?_; intro v4 w4 hO4 hG4; have HO4 := hide hO4; have HR4 := hide (HRa.out.above hG4 (fun k hk => (HOa.out.lt k hk).1) hg1); have HE4 := hide (show Ext w w4 from Below.grown HEa.out hG4 HEa.out.le (fun k hk => by have := (HOa.out.lt k hk).1; omega)); have hh4 : hi ≤ w4.heap.size := Nat.le_trans hh3 (Nat.le_trans (by simp) hG4.size); clear hO4 hG4 ce hsum)
        go_roundw
        case rel => exact ⟨i + 1, t, q', ts ++ [t], by omega, by go_num, rfl, ht64, HO4.out, HR4.out, by rw [List.length_append, HTl.out]; rfl, HGo.out, HE4.out, hh4⟩
        case measure => simp [intOf]; omega
      · have heb : (e' != 0) = true := by rw [bne_iff_ne]; exact he
        have HRs := hide (HT.out e' (HB.out he) he)
        have HE3 := hide hE3
        clear CU CZ hM3 hO3 hE3 hR3 HB HG hsum he
        go_wp2_with fail
        go_quiet (fail)
        go_wp2
        refine bodyPost_ret (results_tmp4 rfl _ _ _) rfl ?_
        rw [HRs.out]
        exact ⟨none, 0, none, 0, rfl, ⟨rfl, .inl rfl⟩, ⟨rfl, .inl rfl⟩, HE3.out.drewN _⟩
    · have hltI : ¬ (i : Int) < (N : Int) := by omega
      obtain rfl : i = N := by omega
      have hTe := HTs.out
      rw [Nat.sub_self, timesR] at hTe
      unfold after at hTe
      dsimp only at hTe
      rw [if_neg (by simp), List.append_nil] at hTe
      have HRs := hide (HL.out q ts hTe)
      have HO := hide hO
      have HR := hide hR
      have hbnd := hR.bounds
      clear hTe hO hR HTs hlt HT HL
      obtain ⟨w0, rfl⟩ : ∃ W, W = wr := ⟨_, rfl⟩
      obtain ⟨A9, c9, hv9, -, -⟩ := HO.out.form
      rw [HTl.out] at hv9
      subst hv9
      go_wp2
      go_loopw [12] (fun v wr => ∃ (ls : List UInt8) (p : Nat) (f : Nat) (A8 : Option Addr) (c8 : Nat), v = .slice A8 ls.length c8 ∧ OwnB wr hi (.slice A8 ls.length c8) ls ∧ ls.length ≤ i ∧ i - ls.length ≤ f ∧ Own64 wr hi (.slice A9 i c9) ts ∧ RefCF (Low hi) wr w.heap.size g b p 0 ∧ levelsR b i i none q = after ls (levelsR b f (i - ls.length) ls.getLast? p) ∧ Ext w wr ∧ hi ≤ wr.heap.size) (fun v _ => i - sliceLen17 v)
      case atStart => exact ⟨[], q, i, none, 0, rfl, OwnB.nil _ _, by simp, by simp, HO.out, HR.out, by rw [after_nil (levels_err _ _ _ _ _)]; rfl, HE.out, hhw⟩
      case round =>
        clear HO HR HE hhw
        obtain ⟨ls, p, f, A8, c8, rfl, hOl, hll, hf, hO, hR, hLv, hE, hhw⟩ := hrel
        obtain ⟨n8, hn8⟩ : ∃ x, x = ls.length := ⟨_, rfl⟩
        rw [← hn8] at hOl hll hf hLv
        have HN8 := hide hn8
        have HLv := hide hLv
        have HE := hide hE
        have hn8I : (i : Int) ≤ 20000 := by omega
        rw [← hn8]
        by_cases hlt : n8 < i
        · have hltI : (n8 : Int) < (i : Int) := by omega
          obtain ⟨f', rfl⟩ : ∃ f', f = f' + 1 := ⟨f - 1, by omega⟩
          obtain ⟨lf, hlf⟩ : ∃ x, x = i - n8 := ⟨_, rfl⟩
          have hsub : (i : Int) - (n8 : Int) = (lf : Int) := by omega
          have hlfp : 0 < lf := by omega
          rw [← hlf] at HLv
          have CB := curByte_any hR
          have hxb : (byteR b p 0).1 = (UInt8.ofNat (byteR b p 0).1).toNat := by
            rw [ofNat_low]
            unfold byteR
            exact UInt8.toNat_lt _
          have hBad := levels_bad (b := b) (f := f') (left := lf) (q := p) (p := ls.getLast?) hlfp
          have hForm := levels_form (b := b) (f := f') (left := lf) (q := p) (p := ls.getLast?) hlfp
          have hGood := levels_good (b := b) (f := f') (left := lf) (q := p) (p := ls.getLast?) hlfp
          have hrun := run_le' (b := b) (q := p) (left := lf)
          obtain ⟨X, hX⟩ : ∃ X, X = UInt8.ofNat (byteR b p 0).1 := ⟨_, rfl⟩
          rw [← hX] at hxb hForm hGood
          have hrd : runR b p lf = intR b (byteR b p 0).2.1 (byteR b p 0).2.2 (lf : Int) := rfl
          rw [hxb] at CB
          generalize (byteR b p 0).2.1 = p1 at *
          generalize (byteR b p 0).2.2 = e1 at *
          obtain ⟨k, p2, e2, hr⟩ : ∃ k p2 e2, runR b p lf = (k, p2, e2) := ⟨_, _, _, rfl⟩
          rw [hr] at hBad hForm hGood hrun
          have hri := hrd.symm.trans hr
          dsimp only at hBad hForm hGood hrun
          have HBad := hide hBad
          have HForm := hide hForm
          have HGood := hide hGood
          have HOl := hide hOl
          have HO := hide hO
          have HRi := hide hri
          clear hBad hForm hGood hX hxb hrd hr hri hOl hO hLv hE hR hlt hlf hn8
          go_wp2_with fail
          refine CB.mono ?_
          rintro e3 w3 ⟨rfl, hR3, hM3⟩
          have CI := curInt_any hR3 (lf : Int) (by omega)
          rw [HRi.out] at CI
          dsimp only at CI
          have hOl3 := hM3.own HOl.out (fun h => by have := (HOl.out.lt _ h).1; omega) (Classical.em _)
          have hO3 := hM3.own64 HO.out (fun h => by have := (HO.out.lt _ h).1; omega) (Classical.em _)
          have hE3 : Ext w w3 := Below.trans HE.out (hM3.below (B := w.heap.size) HE.out.le HGe.out (fun k hk => by cases hk))
          have hh3 : hi ≤ w3.heap.size := Nat.le_trans hhw hM3.size
          have H3 := hide (And.intro hOl3 (And.intro hO3 hE3))
          clear CB hM3 hOl3 hO3 hE3 hR3 HOl HO HE hhw
          go_wp2_with fail
          refine CI.mono ?_
          rintro e3 w4 ⟨rfl, hR4, hM4⟩
          have hOl4 := hM4.own H3.out.1 (fun h => by have := (H3.out.1.lt _ h).1; omega) (Classical.em _)
          have hO4 := hM4.own64 H3.out.2.1 (fun h => by have := (H3.out.2.1.lt _ h).1; omega) (Classical.em _)
          have hE4 : Ext w w4 := Below.trans H3.out.2.2 (hM4.below (B := w.heap.size) H3.out.2.2.le HGe.out (fun k hk => by cases hk))
          have hh4 : hi ≤ w4.heap.size := Nat.le_trans hh3 hM4.size
          obtain ⟨-, -, -, -, ce, -, -, -, -⟩ := hR4.cells
          by_cases he : e2 = 0
          case neg =>
            have heb : (e2 != 0) = true := by rw [bne_iff_ne]; exact he
            have HRb := hide (show res = ([], [], 0, e2) by
              have h1 := HLv.out
              rw [HBad.out he] at h1
              unfold after at h1
              dsimp only at h1
              rw [if_pos he] at h1
              rw [HRs.out, h1, if_pos he])
            have HE4 := hide hE4
            clear CI hM4 hOl4 hO4 hE4 hR4 HBad HForm HGood HLv he hsub
            go_wp2_with fail
            go_quiet (fail)
            go_wp2
            refine bodyPost_ret (results_tmp4 rfl _ _ _) rfl ?_
            rw [HRb.out]
            exact ⟨none, 0, none, 0, rfl, ⟨rfl, .inl rfl⟩, ⟨rfl, .inl rfl⟩, HE4.out.drewN _⟩
          subst he
          have HFo := hide (show (k = 0 ∨ ls.getLast? = some X) → res = ([], [], 0, 2) from fun h => by
            have h1 := HLv.out
            rw [HForm.out rfl h] at h1
            unfold after at h1
            dsimp only at h1
            rw [if_pos (by decide)] at h1
            rw [HRs.out, h1]
            rfl)
          have HGd := hide (show ¬ (k = 0 ∨ ls.getLast? = some X) → levelsR b i i none q = after (ls ++ List.replicate k X) (levelsR b f' (i - (n8 + k)) (some X) p2) from fun h => by
            rw [HLv.out, HGood.out rfl h, after_after, show i - (n8 + k) = lf - k by omega])
          have hbyt := hOl4.bytesOf
          have HS4 := hide (And.intro hOl4 (And.intro hO4 (And.intro hR4 hE4)))
          clear CI hM4 hOl4 hO4 hE4 hR4 HBad HForm HGood HLv H3
          by_cases hk0 : k = 0
          · subst hk0
            have HRf := hide (HFo.out (.inl rfl))
            clear HFo HGd hbyt
            go_wp2
            refine bodyPost_ret (results_tmp4 rfl _ _ _) rfl ?_
            rw [HRf.out]
            exact ⟨none, 0, none, 0, rfl, ⟨rfl, .inl rfl⟩, ⟨rfl, .inl rfl⟩, HS4.out.2.2.2⟩
          · have hkb : ((k : Int) == 0) = false := by rw [beq_eq_false_iff_ne]; omega
            have hkN : ¬ k = 0 := hk0
            rcases Nat.eq_zero_or_pos n8 with hz | hz
            · have hd0 : decide ((0 : Int) < (n8 : Int)) = false := decide_eq_false (by omega)
              have hdn : decide (0 < n8) = false := decide_eq_false (by omega)
              have HGo := hide (HGd.out (by
                rintro (h | h)
                · exact hk0 h
                · rw [List.eq_nil_of_length_eq_zero (l := ls) (by rw [← HN8.out]; exact hz)] at h
                  simp at h))
              clear HFo HGd hbyt hz
              go_wp2
              go_loopw [15, 12] (fun y v wk => ∃ (t : Nat) (A7 : Option Addr) (c7 : Nat), t ≤ k ∧ y = .int .i64 (t : Int) ∧ v = .slice A7 (n8 + t) c7 ∧ OwnB wk hi (.slice A7 (n8 + t) c7) (ls ++ List.replicate t X) ∧ Own64 wk hi (.slice A9 i c9) ts ∧ RefCF (Low hi) wk w.heap.size g b p2 0 ∧ Ext w wk ∧ hi ≤ wk.heap.size) (fun y _ _ => k - (intOf y).toNat)
              case atStart => exact ⟨0, A8, c8, by omega, rfl, rfl, by simpa using HS4.out.1, HS4.out.2.1, HS4.out.2.2.1, HS4.out.2.2.2, hh4⟩
              case round =>
                clear HS4 hh4
                obtain ⟨t, A7, c7, ht, rfl, rfl, hB, hO, hR, hE, hh⟩ := hrel
                by_cases htk : t < k
                · have htI : (t : Int) < (k : Int) := by omega
                  have hEa := extNew wr (.cells #[.int .u8 (X.toNat : Int)] 5)
                  have HBa := hide (hB.ext hEa)
                  have HOa := hide (hO.ext hEa)
                  have HRa := hide (hR.above (hEa.grown none) (fun j hj => by cases hj) hg1)
                  have HEa := hide (hE.trans hEa)
                  have hb1 := bytesNew wr [X] #[.int .u8 (X.toNat : Int)] 5 (0, 0) rfl 1 rfl
                  have hln : (ls ++ List.replicate t X).length = n8 + t := by rw [List.length_append, List.length_replicate, HN8.out]
                  have hfit : (ls ++ List.replicate t X).length + 1 ≤ 140737488355328 := by rw [hln]; omega
                  have HLn := hide hln
                  have hha : hi ≤ (wr.alloc (.cells #[.int .u8 (X.toNat : Int)] 5)).heap.size := Nat.le_trans hh (by simp)
                  clear hEa hB hO hR hE hln
                  go_wp2_with (at_builtin; refine wpList_appAt rfl (.tmp 90) (.tmp 92) rfl rfl HBa.out rfl hb1 hfit hha ?_; intro v6 w6 hO6 hG6 hN6; have hb6 := HBa.out; have HO6 := hide (World.ownsRow.kept HOa.out hG6 (HOa.out.apart hb6)); have HR6 := hide (HRa.out.above hG6 (fun j hj => (hb6.lt j hj).1) hg1); have HE6 := hide (show Ext w w6 from Below.grown HEa.out hG6 HEa.out.le (fun j hj => by have := (hb6.lt j hj).1; omega)); have hh6 : hi ≤ w6.heap.size := Nat.le_trans hha hG6.size; obtain ⟨A6, c6, hv6, -, -, -⟩ := hO6.form; rw [List.length_append, HLn.out] at hv6; subst hv6; have HB6 := hide hO6; clear hO6 hG6 hN6 hb6 hb1 hfit)
                  go_roundw
                  case rel => exact ⟨t + 1, A6, c6, by omega, by go_num, by simp [Nat.add_assoc], by have := HB6.out; rw [List.append_assoc, ← List.replicate_succ', Nat.add_assoc] at this; exact this, HO6.out, HR6.out, HE6.out, hh6⟩
                  case measure => simp [intOf]; omega
                · have htI : ¬ (t : Int) < (k : Int) := by omega
                  obtain rfl : t = k := by omega
                  have HB := hide hB
                  have HO := hide hO
                  have HR := hide hR
                  have HE := hide hE
                  clear hB hO hR hE htk
                  go_wp2
                  go_roundw
                  case rel => exact ⟨ls ++ List.replicate t X, p2, f', A7, c7, by rw [List.length_append, List.length_replicate, ← HN8.out], by rw [List.length_append, List.length_replicate, ← HN8.out]; exact HB.out, by rw [List.length_append, List.length_replicate, ← HN8.out]; omega, by rw [List.length_append, List.length_replicate, ← HN8.out]; omega, HO.out, HR.out, by rw [HGo.out, last_run (by omega), List.length_append, List.length_replicate, ← HN8.out], HE.out, hh⟩
                  case measure => simp [sliceLen17]; omega
            · obtain ⟨j, hj⟩ : ∃ j, n8 = j + 1 := ⟨n8 - 1, by omega⟩
              have hjI : (n8 : Int) - 1 = (j : Int) := by omega
              have hjw : IntKind.i64.wrap (j : Int) = (j : Int) := by rw [IntKind.wrap_i64]; omega
              have hjl : (j : Int) < (n8 : Int) := by omega
              have hd0 : decide ((0 : Int) < (n8 : Int)) = true := decide_eq_true (by omega)
              have hdn : decide (0 < n8) = true := decide_eq_true (by omega)
              obtain ⟨y, hy⟩ : ∃ y, y = ls.getD j 0 := ⟨_, rfl⟩
              have hcell : ∃ b8 o8, A8 = some ⟨b8, o8, none⟩ ∧ w4.cell? ⟨b8, o8 + j, none⟩ = some (.int .u8 (y.toNat : Int)) := by
                rcases hbyt.2 with h0 | ⟨b8, o8, h1, _, h3⟩
                · omega
                · exact ⟨b8, o8, h1, by rw [hy]; exact h3 j (by omega)⟩
              obtain ⟨b8, o8, rfl, hc8⟩ := hcell
              have hlast : ls.getLast? = some y := by
                rw [List.getLast?_eq_getElem?, ← HN8.out, hj, Nat.add_sub_cancel, hy, List.getD_eq_getElem?_getD]
                rw [List.getElem?_eq_getElem (by have := HN8.out; omega)]
                rfl
              by_cases hyx : y = X
              · have HRf := hide (HFo.out (.inr (by rw [hlast, hyx])))
                have hyb : ((y.toNat : Int) == (X.toNat : Int)) = true := by rw [hyx]; simp
                clear HFo HGd hbyt hlast hyx hy hj hz
                go_wp2
                refine bodyPost_ret (results_tmp4 rfl _ _ _) rfl ?_
                rw [HRf.out]
                exact ⟨none, 0, none, 0, rfl, ⟨rfl, .inl rfl⟩, ⟨rfl, .inl rfl⟩, HS4.out.2.2.2⟩
              · have HGo := hide (HGd.out (by
                  rintro (h | h)
                  · exact hk0 h
                  · rw [hlast] at h
                    exact hyx (by simpa using h)))
                have hyb : ((y.toNat : Int) == (X.toNat : Int)) = false := by rw [beq_eq_false_iff_ne]; exact fun e => hyx (UInt8.toNat_inj.1 (by omega))
                clear HFo HGd hbyt hlast hyx hy hj hz
                go_wp2
                go_loopw [15, 12] (fun y v wk => ∃ (t : Nat) (A7 : Option Addr) (c7 : Nat), t ≤ k ∧ y = .int .i64 (t : Int) ∧ v = .slice A7 (n8 + t) c7 ∧ OwnB wk hi (.slice A7 (n8 + t) c7) (ls ++ List.replicate t X) ∧ Own64 wk hi (.slice A9 i c9) ts ∧ RefCF (Low hi) wk w.heap.size g b p2 0 ∧ Ext w wk ∧ hi ≤ wk.heap.size) (fun y _ _ => k - (intOf y).toNat)
                case atStart => exact ⟨0, _, c8, by omega, rfl, rfl, by simpa using HS4.out.1, HS4.out.2.1, HS4.out.2.2.1, HS4.out.2.2.2, hh4⟩
                case round =>
                  clear HS4 hh4
                  obtain ⟨t, A7, c7, ht, rfl, rfl, hB, hO, hR, hE, hh⟩ := hrel
                  by_cases htk : t < k
                  · have htI : (t : Int) < (k : Int) := by omega
                    have hEa := extNew wr (.cells #[.int .u8 (X.toNat : Int)] 5)
                    have HBa := hide (hB.ext hEa)
                    have HOa := hide (hO.ext hEa)
                    have HRa := hide (hR.above (hEa.grown none) (fun j hj => by cases hj) hg1)
                    have HEa := hide (hE.trans hEa)
                    have hb1 := bytesNew wr [X] #[.int .u8 (X.toNat : Int)] 5 (0, 0) rfl 1 rfl
                    have hln : (ls ++ List.replicate t X).length = n8 + t := by rw [List.length_append, List.length_replicate, HN8.out]
                    have hfit : (ls ++ List.replicate t X).length + 1 ≤ 140737488355328 := by rw [hln]; omega
                    have HLn := hide hln
                    have hha : hi ≤ (wr.alloc (.cells #[.int .u8 (X.toNat : Int)] 5)).heap.size := Nat.le_trans hh (by simp)
                    clear hEa hB hO hR hE hln
                    go_wp2_with (at_builtin; refine wpList_appAt rfl (.tmp 90) (.tmp 92) rfl rfl HBa.out rfl hb1 hfit hha ?_; intro v6 w6 hO6 hG6 hN6; have hb6 := HBa.out; have HO6 := hide (World.ownsRow.kept HOa.out hG6 (HOa.out.apart hb6)); have HR6 := hide (HRa.out.above hG6 (fun j hj => (hb6.lt j hj).1) hg1); have HE6 := hide (show Ext w w6 from Below.grown HEa.out hG6 HEa.out.le (fun j hj => by have := (hb6.lt j hj).1; omega)); have hh6 : hi ≤ w6.heap.size := Nat.le_trans hha hG6.size; obtain ⟨A6, c6, hv6, -, -, -⟩ := hO6.form; rw [List.length_append, HLn.out] at hv6; subst hv6; have HB6 := hide hO6; clear hO6 hG6 hN6 hb6 hb1 hfit)
                    go_roundw
                    case rel => exact ⟨t + 1, A6, c6, by omega, by go_num, by simp [Nat.add_assoc], by have := HB6.out; rw [List.append_assoc, ← List.replicate_succ', Nat.add_assoc] at this; exact this, HO6.out, HR6.out, HE6.out, hh6⟩
                    case measure => simp [intOf]; omega
                  · have htI : ¬ (t : Int) < (k : Int) := by omega
                    obtain rfl : t = k := by omega
                    have HB := hide hB
                    have HO := hide hO
                    have HR := hide hR
                    have HE := hide hE
                    clear hB hO hR hE htk
                    go_wp2
                    go_roundw
                    case rel => exact ⟨ls ++ List.replicate t X, p2, f', A7, c7, by rw [List.length_append, List.length_replicate, ← HN8.out], by rw [List.length_append, List.length_replicate, ← HN8.out]; exact HB.out, by rw [List.length_append, List.length_replicate, ← HN8.out]; omega, by rw [List.length_append, List.length_replicate, ← HN8.out]; omega, HO.out, HR.out, by rw [HGo.out, last_run (by omega), List.length_append, List.length_replicate, ← HN8.out], HE.out, hh⟩
                    case measure => simp [sliceLen17]; omega
        · have hltI : ¬ (n8 : Int) < (i : Int) := by omega
          obtain rfl : n8 = i := by omega
          have hLe := HLv.out
          rw [Nat.sub_self, levels_none] at hLe
          unfold after at hLe
          dsimp only at hLe
          rw [if_neg (by simp), List.append_nil] at hLe
          have HRe := hide (show res = (ts, ls, p, 0) by rw [HRs.out, hLe, if_neg (by simp)])
          obtain ⟨-, -, -, cq, -, -, -, -, -⟩ := hR.cells
          obtain ⟨A5, c5, hv5, -, h64⟩ := hO.form
          simp only [Value.slice.injEq] at hv5
          obtain ⟨rfl, -, rfl⟩ := hv5
          have HF := hide (And.intro h64 (And.intro hOl.bytesOf HE.out))
          clear hLe HLv hOl hO hR h64 hLv hE hlt hf hll
          go_wp2_with fail
          go_quiet (fail)
          go_wp2
          refine bodyPost_ret (results_tmp4 rfl _ _ _) rfl ?_
          rw [HRe.out]
          exact ⟨A9, c9, A8, c8, by rw [HTl.out, ← HN8.out]; rfl, HF.out.1.later ((Ext.refl _).drewN _), by rw [← HN8.out]; exact ((Ext.refl _).drewN _).bytes HF.out.2.1, HF.out.2.2.drewN _⟩
end Go.Proofs.Ytkgkppblkdihkaa

namespace Go.Proofs.Ytkgkppblkdihkaa
open Go.RowKit Rcs Num

/-- From world w on, the program's ReadColumns tells what the document's tells. -/
def RReadColC (w : World) : Prop := ∀ (n : Int) (b : List UInt8) (A : Option Addr) (c : Nat) (W : World), Ext w W → IsI64 n → b.length ≤ c → c ≤ maxLen → b.length ≤ 20000 → Bytes W W.heap.size A b.length b → Calls Try.prog 29 #[.int .i64 n, .slice A b.length c] W (CloTo W (readCE n b))
theorem refReadC17E_any (n : Int) (b : List UInt8) (A : Option Addr) (c : Nat) (w : World) (hl : b.length ≤ 1000000) (hB : Bytes w w.heap.size A b.length b) :
    Calls Try.prog 30 #[.int .i64 n, .slice A b.length c] w (CloTo w (readCE n b)) := by
  unfold readCE
  by_cases h : n < 0 ∨ 20000 < n
  · rw [if_pos h]
    exact refReadC17Arg_any n _ w h
  · rw [if_neg h]
    obtain ⟨N, rfl⟩ : ∃ N : Nat, n = (N : Int) := ⟨n.toNat, by omega⟩
    rw [Int.toNat_natCast]
    exact refReadC17_any N b A c w (by omega) hl hB
theorem Rcs.timesR_len (b : List UInt8) : ∀ n was q, (timesR b n was q).1.length ≤ n
  | 0, _, _ => by simp [timesR]
  | n + 1, was, q => by
    rw [timesR]
    split
    · simp
    · split
      · simp
      · have := timesR_len b n ((was + zag (numR b q 0).1) % 2 ^ 64) (numR b q 0).2.1
        simp
        omega
theorem Rcs.readC_len (n : Int) (b : List UInt8) : (readCE n b).1.length ≤ 20000 := by
  unfold readCE
  split
  · simp
  · rename_i h
    have := timesR_len b n.toNat 0 0
    unfold readCR
    split
    · simp
    · split
      · simp
      · dsimp only
        omega
theorem U64At.cellAt {w w' : World} {A : Option Addr} {n i : Nat} {L : List Nat} (h : U64At w w.heap.size A n L) (hi : i < n) (hE : Ext w w') : ∃ b o, A = some ⟨b, o, none⟩ ∧ w'.cell? ⟨b, o + i, none⟩ = some (.int .u64 ((L.getD i 0 : Nat) : Int)) := by
  rcases h.2 with h0 | ⟨b, o, e, hb, hc⟩
  · omega
  · exact ⟨b, o, e, (hE.cell hb).trans (hc i hi)⟩
set_option maxHeartbeats 4000000 in
set_option maxRecDepth 100000 in
theorem recsColumns_walk0 (A : Option Addr) (n c : Nat) (l : List Rc) (k : Int) (A2 : Option Addr) (n2 c2 : Nat) (b : List UInt8) (w : World) (hB : RColumnsC w) (hR : RReadColC w) (hn : n ≤ c) (hc : c ≤ maxLen) (h : RcsAt w w.heap.size A n l) (hk : IsI64 k) (hn2 : n2 ≤ c2) (hc2 : c2 ≤ maxLen) (h2 : Bytes w w.heap.size A2 n2 b) :
    Calls Try.prog 10 #[.slice A n c, .int .i64 k, .slice A2 n2 c2] w fun e w' => e = .returned (.bool true) ∧ Ext w w' := by
  have C0 := alive17_any hB (Ext.refl w)
  have CG := hide (fun W (hE : Ext w W) => refGreat17_any A n c l 100 10000 W (h.later hE) (by omega))
  cases hg : greatE l 100 10000 with
  | true =>
    rw [hg] at CG
    clear hg
    go_enter Try.func10, Try.ntmps10
    go_wp2_with fail
    refine C0.mono ?_
    rintro e w1 ⟨rfl, hE1⟩
    have C1 := CG.out w1 hE1
    clear C0
    go_wp2_with fail
    refine C1.mono ?_
    rintro e w2 ⟨rfl, hQ2⟩
    go_wp2
    go_ret
    exact ⟨rfl, hE1.trans hQ2.ext⟩
  | false =>
    rw [hg] at CG
    obtain ⟨g1, -⟩ := great_no hg (by omega)
    by_cases hbig : 1000 < n2
    · have hbI : (1000 : Int) < (n2 : Int) := by omega
      clear hg g1
      go_enter Try.func10, Try.ntmps10
      go_wp2_with fail
      refine C0.mono ?_
      rintro e w1 ⟨rfl, hE1⟩
      have C1 := CG.out w1 hE1
      clear C0
      go_wp2_with fail
      refine C1.mono ?_
      rintro e w2 ⟨rfl, hQ2⟩
      go_wp2
      go_ret
      exact ⟨rfl, hE1.trans hQ2.ext⟩
    have hbI : ¬ (1000 : Int) < (n2 : Int) := by omega
    have hl := h.1
    have hl2 := h2.1
    subst hl2
    have CC := hide (fun W (hE : Ext w W) => hB l A n c W hE hn hc (by omega) (h.later hE))
    have CD := hide (fun W (hE : Ext w W) => refColumns17_any A n c l W (h.later hE) (by omega))
    have CR := hide (fun W (hE : Ext w W) => hR k b A2 c2 W hE hk hn2 hc2 (by omega) (hE.bytes h2))
    have CQ := hide (fun W (hE : Ext w W) => refReadC17E_any k b A2 c2 W (by omega) (hE.bytes h2))
    unfold MadeB at CC CD
    unfold CloTo at CR CQ
    generalize columnsE l = cols at *
    obtain ⟨ts, ls, m, er, hres⟩ : ∃ ts ls m er, readCE k b = (ts, ls, m, er) := ⟨_, _, _, _, rfl⟩
    have htl := readC_len k b
    rw [hres] at CR CQ htl
    dsimp only at CR CQ htl
    obtain ⟨nt, hnt⟩ : ∃ x, x = ts.length := ⟨_, rfl⟩
    obtain ⟨nl, hnl⟩ : ∃ x, x = ls.length := ⟨_, rfl⟩
    obtain ⟨bl, hbl⟩ : ∃ x, x = b.length := ⟨_, rfl⟩
    rw [← hnt] at htl
    rw [← hnt, ← hnl, ← hbl] at CR CQ
    rw [← hbl] at hbI ⊢
    have hee : (er != er) = false := by simp
    have hmm : ((m : Int) != (m : Int)) = false := by simp
    have htt : ((nt : Int) != (nt : Int)) = false := by simp
    clear hg g1 hB hR h h2 hl hres hnt hnl hbl hbig hn2 hk
    go_enter Try.func10, Try.ntmps10
    go_wp2_with fail
    refine C0.mono ?_
    rintro e w1 ⟨rfl, hE1⟩
    have HE1 := hide hE1
    have C1 := CG.out w1 hE1
    clear C0 hE1
    go_wp2_with fail
    refine C1.mono ?_
    rintro e w2 ⟨rfl, hQ2⟩
    have HE2 := hide (HE1.out.trans hQ2.ext)
    have C2 := CC.out w2 HE2.out
    clear C1 hQ2
    go_wp2_with fail
    refine C2.mono ?_
    rintro e w3 ⟨v3, rfl, hO3, hE3⟩
    have HE3 := hide (HE2.out.trans hE3)
    have HO3 := hide hO3
    have C3 := CD.out w3 HE3.out
    clear C2 hE3 hO3
    go_wp2_with fail
    refine C3.mono ?_
    rintro e w4 ⟨v4, rfl, hO4, hE4⟩
    have HE4 := hide (HE3.out.trans hE4)
    obtain ⟨A4, c4, rfl, _, _, h4⟩ := (HO3.out.ext hE4).form
    obtain ⟨A5, c5, rfl, _, _, h5⟩ := hO4.form
    have CS := same_any _ _ _ _ c4 c5 _ _ _ h4 h5
    rw [sameB_true rfl] at CS
    clear C3 hO4 h4 h5 hE4
    generalize cols.length = k2 at *
    go_wp2_with fail
    refine CS.mono ?_
    rintro e w5 ⟨rfl, hE5⟩
    have HE5 := hide (HE4.out.trans hE5)
    have C5 := CR.out w5 HE5.out
    clear CS hE5
    go_wp2_with fail
    refine C5.mono ?_
    rintro e w6 ⟨A6, c6, A7, c7, rfl, hU6, hB6, hE6⟩
    have HE6 := hide (HE5.out.trans hE6)
    have HU6 := hide hU6
    have HB6 := hide hB6
    have C6 := CQ.out w6 HE6.out
    clear C5 hE6 hU6 hB6
    go_wp2_with fail
    refine C6.mono ?_
    rintro e w7 ⟨A8, c8, A9, c9, rfl, hU7, hB7, hE7⟩
    have HE7 := hide (HE6.out.trans hE7)
    have HU7 := hide hU7
    have CS2 := same_any _ _ _ _ c7 c9 _ _ _ (hE7.bytes HB6.out) hB7
    rw [sameB_true rfl] at CS2
    have HUa := hide (HU6.out.later hE7)
    clear C6 hE7 hU7 hB7
    go_wp2_with fail
    refine CS2.mono ?_
    rintro e w8 ⟨rfl, hE8⟩
    have HE8 := hide (HE7.out.trans hE8)
    have HV1 := hide (HUa.out.later hE8)
    have HV2 := hide (HU7.out.later hE8)
    clear CS2 hE8
    go_wp2
    go_loopw [15] (fun x wr => ∃ i : Nat, i ≤ nt ∧ x = .int .i64 (i : Int) ∧ Ext w8 wr) (fun x _ => nt - (intOf x).toNat)
    case atStart => exact ⟨0, by omega, rfl, Ext.refl _⟩
    case round =>
      obtain ⟨i, hi, rfl, hE⟩ := hrel
      by_cases hlt : i < nt
      · have hltI : (i : Int) < (nt : Int) := by omega
        obtain ⟨b1, o1, rfl, k1⟩ := HV1.out.cellAt hlt hE
        obtain ⟨b2, o2, rfl, k2'⟩ := HV2.out.cellAt hlt hE
        generalize ts.getD i 0 = t at *
        have htb : ((t : Int) != (t : Int)) = false := by simp
        have HE := hide hE
        clear hE
        go_wp2_with fail
        go_quiet (fail)
        go_wp2
        go_roundw
        case rel => exact ⟨i + 1, by omega, by go_num, HE.out.drewN _⟩
        case measure => simp [intOf]; omega
      · have hltI : ¬ (i : Int) < (nt : Int) := by omega
        go_wp2
        go_ret
        exact ⟨rfl, HE8.out.trans hE⟩

set_option maxHeartbeats 4000000 in
set_option maxRecDepth 100000 in
theorem recsApart_walk0 (A : Option Addr) (n c : Nat) (l : List Rc) (A2 : Option Addr) (n2 c2 : Nat) (b : List UInt8) (w : World) (hB : RColumnsC w) (hR : RReadColC w) (hn : n ≤ c) (hc : c ≤ maxLen) (h : RcsAt w w.heap.size A n l) (h2 : Bytes w w.heap.size A2 n2 b) :
    Calls Try.prog 11 #[.slice A n c, .slice A2 n2 c2] w fun e w' => e = .returned (.bool true) ∧ Ext w w' := by
  have C0 := alive17_any hB (Ext.refl w)
  have CG := hide (fun W (hE : Ext w W) => refGreat17_any A n c l 100 10000 W (h.later hE) (by omega))
  cases hg : greatE l 100 10000 with
  | true =>
    rw [hg] at CG
    clear hg
    go_enter Try.func11, Try.ntmps11
    go_wp2_with fail
    refine C0.mono ?_
    rintro e w1 ⟨rfl, hE1⟩
    have C1 := CG.out w1 hE1
    clear C0
    go_wp2_with fail
    refine C1.mono ?_
    rintro e w2 ⟨rfl, hQ2⟩
    go_wp2
    go_ret
    exact ⟨rfl, hE1.trans hQ2.ext⟩
  | false =>
    rw [hg] at CG
    obtain ⟨g1, -⟩ := great_no hg (by omega)
    by_cases hbig : 500 < n2
    · have hbI : (500 : Int) < (n2 : Int) := by omega
      clear hg g1
      go_enter Try.func11, Try.ntmps11
      go_wp2_with fail
      refine C0.mono ?_
      rintro e w1 ⟨rfl, hE1⟩
      have C1 := CG.out w1 hE1
      clear C0
      go_wp2_with fail
      refine C1.mono ?_
      rintro e w2 ⟨rfl, hQ2⟩
      go_wp2
      go_ret
      exact ⟨rfl, hE1.trans hQ2.ext⟩
    have hbI : ¬ (500 : Int) < (n2 : Int) := by omega
    have hl := h.1
    have hl2 := h2.1
    have CC := hide (fun W (hE : Ext w W) => hB l A n c W hE hn hc (by omega) (h.later hE))
    have HRd := hide (fun (v : List UInt8) (A3 : Option Addr) (c3 : Nat) W (hE : Ext w W) => hR (n : Int) v A3 c3 W hE (by unfold IsI64; omega))
    have HBk := hide (columns_back (l := l) (by omega) (fun r hr => (h.2.2 r hr).1) b)
    rw [hl] at HBk
    have HCl := hide (show (columnsE l).length ≤ 21 * n by
      have h1 := times_len l 0
      have h2 := levels_len l none
      unfold columnsE
      rw [List.length_append]
      omega)
    unfold MadeB at CC
    have HA := hide h
    have HB2 := hide h2
    have hlt1 : (l.map Rc.time).length = n := by rw [List.length_map, hl]
    have hlv1 : (l.map Rc.lv).length = n := by rw [List.length_map, hl]
    generalize columnsE l = cols at *
    have HT := hide hlt1
    have HLv := hide hlv1
    have HL2 := hide hl2
    have hn100 : (n : Int) ≤ 100 := by omega
    have hnn : ((n : Int) != (n : Int)) = false := by simp
    clear hg g1 hB hR h h2 hl hl2 hlt1 hlv1
    go_enter Try.func11, Try.ntmps11
    go_wp2_with fail
    refine C0.mono ?_
    rintro e w1 ⟨rfl, hE1⟩
    have HE1 := hide hE1
    have C1 := CG.out w1 hE1
    clear C0 hE1
    go_wp2_with fail
    refine C1.mono ?_
    rintro e w2 ⟨rfl, hQ2⟩
    have HE2 := hide (HE1.out.trans hQ2.ext)
    have C2 := CC.out w2 HE2.out
    clear C1 hQ2
    go_wp2_with fail
    refine C2.mono ?_
    rintro e w3 ⟨v3, rfl, hO3, hE3⟩
    have HE3 := hide (HE2.out.trans hE3)
    obtain ⟨A3, c3, rfl, _, _, h3⟩ := hO3.form
    obtain ⟨k3, hk3⟩ : ∃ x, x = cols.length := ⟨_, rfl⟩
    rw [← hk3] at h3
    have H3 := hide h3
    have HK3 := hide hk3
    have hkk : ((k3 : Int) != (k3 : Int)) = false := by simp
    have hon := OwnB.nil w3 w3.heap.size
    have hfit1 : ([] : List UInt8).length + k3 ≤ 140737488355328 := by have := HCl.out; simp; omega
    clear C2 hE3 hO3 h3
    rw [← hk3]
    clear hk3
    go_wp2_with (first | (at_builtin; refine wpList_appAt rfl (.tmp 23) (.tmp 24) rfl rfl hon rfl H3.out hfit1 (Nat.le_refl _) ?_; intro v4 w4 hO4 hG4 _; rw [List.nil_append] at hO4; have HO4 := hide hO4; have HE4 := hide (show Ext w3 w4 from Below.grown (Ext.refl w3) hG4 (Nat.le_refl _) (fun j hj => (hon.lt j hj).1)); clear hO4 hG4) | (at_builtin; refine wpList_appAt rfl (.tmp 25) (.tmp 26) rfl rfl HO4.out rfl ((HE3.out.trans HE4.out).bytes HB2.out) (by have := HCl.out; omega) HE4.out.le ?_; intro v5 w5 hO5 hG5 _; have HO5 := hide hO5; have HE5 := hide (HE3.out.trans (show Ext w3 w5 from Below.grown HE4.out hG5 HE4.out.le (fun j hj => (HO4.out.lt j hj).1))); clear hO5 hG5))
    obtain ⟨A5, c5, hv5, hc5, hm5, h5⟩ := HO5.out.form
    subst hv5
    have hk20 : (cols ++ b).length ≤ 20000 := by have h1 := HCl.out; have h2 := HL2.out; rw [List.length_append]; omega
    have CR := HRd.out (cols ++ b) A5 c5 w5 HE5.out hc5 hm5 hk20 h5
    rw [HBk.out, ← HK3.out] at CR
    unfold CloTo at CR
    dsimp only at CR
    rw [HT.out, HLv.out] at CR
    obtain ⟨k5, hk5⟩ : ∃ x, x = (cols ++ b).length := ⟨_, rfl⟩
    rw [← hk5] at CR ⊢
    clear hk20 hc5 hm5 h5 HRd hon hfit1 hk5
    go_wp2_with fail
    refine CR.mono ?_
    rintro e w6 ⟨A6, c6, A7, c7, rfl, hU6, hB6, hE6⟩
    have HE6 := hide (HE5.out.trans hE6)
    have HU6 := hide hU6
    have HB6 := hide hB6
    have HR6 := hide (HA.out.later HE6.out)
    clear CR hE6 hU6 hB6
    go_wp2
    go_loopw [11] (fun x wr => ∃ i : Nat, i ≤ n ∧ x = .int .i64 (i : Int) ∧ Ext w6 wr) (fun x _ => n - (intOf x).toNat)
    case atStart => exact ⟨0, by omega, rfl, Ext.refl _⟩
    case round =>
      obtain ⟨i, hi, rfl, hE⟩ := hrel
      by_cases hlt : i < n
      · have hltI : (i : Int) < (n : Int) := by omega
        obtain ⟨b1, o1, rfl, k1⟩ := HU6.out.cellAt hlt hE
        have hlev : ∃ b7 o7, A7 = some ⟨b7, o7, none⟩ ∧ wr.cell? ⟨b7, o7 + i, none⟩ = some (.int .u8 (((l.map Rc.lv).getD i 0).toNat : Int)) := by
          rcases (hE.bytes HB6.out).2 with h0 | ⟨b7, o7, h1, _, h3⟩
          · omega
          · exact ⟨b7, o7, h1, h3 i hlt⟩
        obtain ⟨b7, o7, rfl, k7⟩ := hlev
        rcases (HR6.out.later hE).2.1 with hn0 | ⟨b2, o2, rfl, _, hc2⟩
        · omega
        obtain ⟨r0, r1, -, -⟩ := hc2 i hlt
        have e1 : (l.map Rc.time).getD i 0 = (l.getD i default).time := by
          simp [List.getD_eq_getElem?_getD, show i < l.length by rw [HA.out.1]; exact hlt]
        have e2 : (l.map Rc.lv).getD i 0 = (l.getD i default).lv := by
          simp [List.getD_eq_getElem?_getD, show i < l.length by rw [HA.out.1]; exact hlt]
        rw [e1] at k1
        rw [e2] at k7
        generalize l.getD i default = r at *
        obtain ⟨t, x, src, text⟩ := r
        dsimp only at k1 k7 r0 r1
        have htb : ((t : Int) != (t : Int)) = false := by simp
        have hxb : ((x.toNat : Int) != (x.toNat : Int)) = false := by simp
        have HE := hide hE
        clear hE hc2 e1 e2
        go_wp2_with fail
        go_quiet (fail)
        go_wp2
        go_roundw
        case rel => exact ⟨i + 1, by omega, by go_num, HE.out.drewN _⟩
        case measure => simp [intOf]; omega
      · have hltI : ¬ (i : Int) < (n : Int) := by omega
        go_wp2
        go_ret
        exact ⟨rfl, HE6.out.trans hE⟩
end Go.Proofs.Ytkgkppblkdihkaa

namespace Go.Proofs.Ytkgkppblkdihkaa
open Go.RowKit

theorem Num.ones_xor (s : Nat) (h : s < 2 ^ 64) : (18446744073709551615 : Nat) ^^^ s = 18446744073709551615 - s := by
  have h1 := congrArg BitVec.toNat (BitVec.allOnes_xor (x := BitVec.ofNat 64 s))
  rw [BitVec.toNat_xor, BitVec.toNat_not, BitVec.toNat_ofNat, BitVec.toNat_allOnes, Nat.mod_eq_of_lt h] at h1
  exact h1
theorem Num.zig_bits (d : Nat) (h : d < 18446744073709551616) : bits .xor .u64 (IntKind.u64.wrap ((d : Int) * 2)) (IntKind.u64.wrap (-((d : Int) / 9223372036854775808))) = ((Num.zig d : Nat) : Int) := by
  unfold Num.zig
  by_cases hd : 2 ^ 63 ≤ d
  · have e1 : IntKind.u64.wrap ((d : Int) * 2) = ((2 * d - 18446744073709551616 : Nat) : Int) := by rw [IntKind.wrap_u64]; omega
    have e2 : IntKind.u64.wrap (-((d : Int) / 9223372036854775808)) = ((18446744073709551615 : Nat) : Int) := by rw [IntKind.wrap_u64]; omega
    rw [if_pos hd, e1, e2, u64_xor_nat _ _ (by omega) (by decide), Nat.xor_comm, Num.ones_xor _ (by omega)]
    omega
  · have e1 : IntKind.u64.wrap ((d : Int) * 2) = ((2 * d : Nat) : Int) := by rw [IntKind.wrap_u64]; omega
    have e2 : IntKind.u64.wrap (-((d : Int) / 9223372036854775808)) = ((0 : Nat) : Int) := by rw [IntKind.wrap_u64]; omega
    rw [if_neg hd, e1, e2, u64_xor_nat _ _ (by omega) (by decide), Nat.xor_zero]
theorem Num.and1 (z : Nat) (h : z < 18446744073709551616) : bits .and .u64 (z : Int) 1 = ((z % 2 : Nat) : Int) := by
  rw [show (1 : Int) = ((1 : Nat) : Int) from rfl, u64_and_nat z 1 h (by omega), show 1 = 2 ^ 1 - 1 from rfl, Nat.and_two_pow_sub_one_eq_mod]
theorem Num.zag_bits (z : Nat) (h : z < 18446744073709551616) : bits .xor .u64 ((z : Int) / 2) (IntKind.u64.wrap (-(bits .and .u64 (z : Int) 1))) = ((Num.zag z : Nat) : Int) := by
  rw [Num.and1 z h]
  unfold Num.zag
  have e1 : (z : Int) / 2 = ((z / 2 : Nat) : Int) := by omega
  by_cases hd : z % 2 = 1
  · have e2 : IntKind.u64.wrap (-((z % 2 : Nat) : Int)) = ((18446744073709551615 : Nat) : Int) := by rw [IntKind.wrap_u64]; omega
    rw [if_pos hd, e1, e2, u64_xor_nat _ _ (by omega) (by decide), Nat.xor_comm, Num.ones_xor _ (by omega)]
  · have e2 : IntKind.u64.wrap (-((z % 2 : Nat) : Int)) = ((0 : Nat) : Int) := by rw [IntKind.wrap_u64]; omega
    rw [if_neg hd, e1, e2, u64_xor_nat _ _ (by omega) (by decide), Nat.xor_zero]

set_option maxHeartbeats 1000000 in
set_option maxRecDepth 100000 in
theorem ownZig_any (d : Nat) (w : World) (hd : d < 18446744073709551616) : Calls Try.prog 62 #[.int .u64 d] w fun e w' => e = .returned (.int .u64 (Num.zig d : Nat)) ∧ w = w' := by
  have H := hide (Num.zig_bits d hd)
  clear hd
  go_enter Try.func62, Try.ntmps62
  go_wp2
  go_ret
  exact ⟨ret_u64 H.out, rfl⟩

set_option maxHeartbeats 1000000 in
set_option maxRecDepth 100000 in
theorem ownZag_any (z : Nat) (w : World) (hz : z < 18446744073709551616) : Calls Try.prog 64 #[.int .u64 z] w fun e w' => e = .returned (.int .u64 (Num.zag z : Nat)) ∧ w = w' := by
  have H := hide (Num.zag_bits z hz)
  go_enter Try.func64, Try.ntmps64
  go_wp2
  go_ret
  exact ⟨ret_u64 H.out, rfl⟩

/-- A byte with 128 more. -/
theorem Num.or128 (z : Nat) : bits .or .u8 ((z : Int) % 256) 128 = ((128 + z % 128 : Nat) : Int) := by
  have e : (z : Int) % 256 = ((z % 256 : Nat) : Int) := by omega
  rw [e, show (128 : Int) = ((128 : Nat) : Int) from rfl, u8_or_nat _ _ (Nat.mod_lt _ (by decide)) (by decide)]
  have H : ∀ y, y < 256 → y ||| 128 = 128 + y % 128 := by decide +kernel
  rw [H _ (Nat.mod_lt z (by decide)), show z % 256 % 128 = z % 128 by omega]

set_option maxHeartbeats 1000000 in
set_option maxRecDepth 100000 in
theorem ownNum_any (x : Nat) (w : World) (hx : x < 18446744073709551616) : Calls Try.prog 33 #[.int .u64 x] w (MadeB w (Num.enc x)) := by
  go_enter Try.func33, Try.ntmps33
  go_wp2
  go_loopw [0, 3] (fun y v wr => ∃ (k z : Nat) (pre : List UInt8), y = .int .u64 (z : Int) ∧ z < 18446744073709551616 ∧ z < 128 ^ (10 - k) ∧ k ≤ 9 ∧ pre.length = k ∧ pre ++ Num.encF (10 - k) z = Num.enc x ∧ OwnB wr w.heap.size v pre ∧ Ext w wr) (fun y _ _ => (intOf y).toNat)
  case atStart => exact ⟨0, x, [], rfl, hx, Nat.lt_of_lt_of_le hx (by decide), by omega, rfl, rfl, OwnB.nil _ _, Ext.refl _⟩
  case round =>
    obtain ⟨k, z, pre, rfl, hz, hzk, hk, hlen, henc, hO, hE⟩ := hrel
    obtain ⟨f, hf⟩ : ∃ f, 10 - k = f + 1 := ⟨9 - k, by omega⟩
    rw [hf] at henc hzk
    have hfit : pre.length + 1 ≤ 140737488355328 := by omega
    by_cases hs : z < 128
    · rw [Num.encF_small hs] at henc
      have HE := hide henc
      obtain ⟨bt, rfl⟩ : ∃ bt : UInt8, z = bt.toNat := ⟨UInt8.ofNat z, by rw [Num.ofNat_low z (by omega)]⟩
      rw [UInt8.ofNat_toNat] at HE
      have hs' : ¬ (128 ≤ (bt.toNat : Int)) := by omega
      have hb1 := bytesNew wr [bt] #[.int .u8 (bt.toNat : Int)] 5 (0, 0) rfl 1 rfl
      have hO1 := hO.ext (extNew wr (.cells #[.int .u8 (bt.toNat : Int)] 5))
      have hE1 := hE.trans (extNew wr (.cells #[.int .u8 (bt.toNat : Int)] 5))
      have hB1 := hE1.le
      clear henc hlen hf
      go_wp2_with (at_builtin; refine wpList_appAt rfl (.tmp 14) (.tmp 17) rfl rfl hO1 rfl hb1 hfit hB1 ?_; intro v2 w2 hO2 hG2 hN2)
      go_ret
      exact ⟨v2, rfl, by rw [← HE.out]; exact hO2, hO1.below hE1 hG2 hB1⟩
    · rw [Num.encF_big hs] at henc
      have HE := hide henc
      have hk9 : k ≤ 8 := by
        rcases Nat.lt_or_ge k 9 with h | h
        · omega
        · obtain rfl : k = 9 := by omega
          obtain rfl : f = 0 := by omega
          simp at hzk
          omega
      have HF := hide (show 10 - (k + 1) = f by omega)
      have HZ := hide (show z / 128 < 128 ^ f by rw [Nat.pow_succ] at hzk; exact Nat.div_lt_of_lt_mul (by rw [Nat.mul_comm]; exact hzk))
      obtain ⟨bt, hbt⟩ : ∃ bt : UInt8, bt = UInt8.ofNat (128 + z % 128) := ⟨_, rfl⟩
      have hbn : bt.toNat = 128 + z % 128 := by rw [hbt]; exact Num.ofNat_low _ (by omega)
      rw [← hbt] at HE
      have hor := Num.or128 z
      rw [← hbn] at hor
      have hs' : 128 ≤ (z : Int) := by omega
      have hb1 := bytesNew wr [bt] #[.int .u8 (bt.toNat : Int)] 5 (0, 0) rfl 1 rfl
      have hO1 := hO.ext (extNew wr (.cells #[.int .u8 (bt.toNat : Int)] 5))
      have hE1 := hE.trans (extNew wr (.cells #[.int .u8 (bt.toNat : Int)] 5))
      have hB1 := hE1.le
      have HLen := hide hlen
      clear henc hlen hf hbt hbn hzk
      go_wp2_with (at_builtin; refine wpList_appAt rfl (.tmp 8) (.tmp 12) rfl rfl hO1 rfl hb1 hfit hB1 ?_; intro v2 w2 hO2 hG2 hN2)
      go_roundw
      case rel =>
        refine ⟨k + 1, z / 128, pre ++ [bt], ?_, by omega, by rw [HF.out]; exact HZ.out, by omega, by simp [HLen.out], by rw [HF.out, List.append_assoc]; exact HE.out, hO2, hO1.below hE1 hG2 hB1⟩
        rw [show ((z : Int) / 128) = ((z / 128 : Nat) : Int) by omega]
      case measure => simp [intOf]; omega

theorem ownText_any (s : ByteArray) (w : World) (hs : s.size ≤ 1000000) : Calls Try.prog 34 #[.string s] w (MadeB w (Num.enc s.size ++ s.data.toList)) := by
  have hw : IntKind.u64.wrap (s.size : Int) = (s.size : Int) := by rw [IntKind.wrap_u64]; omega
  have hl := Num.enc_len s.size
  have hfit : (Num.enc s.size).length + s.size ≤ 140737488355328 := by omega
  have CN := ownNum_any s.size w (by omega)
  generalize Num.enc s.size = E at *
  go_enter Try.func34, Try.ntmps34
  go_wp2_with (first
    | (go_at_call 33; refine CN.mono ?_; rintro e w2 ⟨v2, rfl, hO2, hE2⟩)
    | (at_builtin; refine wpList_appS rfl (.tmp 6) (.tmp 7) rfl rfl hO2 rfl hfit hE2.le ?_; intro v3 w3 hO3 hG3))
  go_ret
  exact ⟨v3, rfl, hO3, hO2.below hE2 hG3 hE2.le⟩
end Go.Proofs.Ytkgkppblkdihkaa

namespace Go.Proofs.Ytkgkppblkdihkaa
open Go.RowKit Rcs Num

theorem pTextT_any (s : List UInt8) (w : World) (hs : s.length ≤ 1000000) : Calls Try.prog 34 #[.string ⟨s.toArray⟩] w (MadeB w (txtB s)) := by
  have := ownText_any ⟨s.toArray⟩ w (by rw [txt_size]; exact hs)
  rw [txt_size] at this
  simpa [txtB] using this

/-- A block that is known whole, and isn't the one of a slice under way. -/
def Beside (W : World) (g : Nat) (t : TypeId) (cs : Array Value) (v : Value) : Prop := Whole W g t cs ∧ v.ownBlock ≠ some g
theorem Beside.ext {W W' : World} {g : Nat} {t : TypeId} {cs : Array Value} {v : Value} (h : Beside W g t cs v) (hE : Ext W W') : Beside W' g t cs v := ⟨h.1.ext hE, h.2⟩
theorem Beside.grown {W W' : World} {g : Nat} {t : TypeId} {cs : Array Value} {v v' : Value} (h : Beside W g t cs v) (hG : W.grownBy W' v.ownBlock) (hN : NewOb W v.ownBlock v'.ownBlock) : Beside W' g t cs v' := by
  refine ⟨(hG.block g h.1.lt (fun e => h.2 e.symm)).trans h.1, ?_⟩
  rcases hN with hN | ⟨k, hk, hl⟩
  · rw [hN]; exact h.2
  · rw [hk]
    intro e
    have := h.1.lt
    injection e with e
    omega

set_option maxHeartbeats 4000000 in
set_option maxRecDepth 100000 in
theorem pBytes17_any (whole : Bool) (A : Option Addr) (n c : Nat) (l : List Rc) (w : World) (h : RcsAt w w.heap.size A n l) (hw : weightE l ≤ 1000000) : Calls Try.prog 19 #[.bool whole, .slice A n c] w (MadeB w (bytesB whole l)) := by
  have hl := h.1
  have hn : n ≤ 1000000 := by have := weight_len l; omega
  have HSt := hide (fun (i : Nat) (hi : i < n) => bytes_snoc whole (l := l) (i := i) (by omega))
  have HSm := hide (show ∀ i, (bytesB whole (l.take i)).length ≤ 2000000 from fun i => by have h1 := bytes_small whole (l.take i); have h2 := weight_take l i; omega)
  have HOne := hide (fun (i : Nat) (hi : i < n) => show (l.getD i default).time < 2 ^ 64 ∧ (l.getD i default).src.length ≤ 1000000 ∧ (l.getD i default).text.length ≤ 1000000 from by
    have h1 := weight_mem (l := l) (r := l.getD i default) (by rw [List.getD_eq_getElem?_getD, List.getElem?_eq_getElem (by omega)]; exact List.getElem_mem _)
    exact ⟨(h.okAt hi).1, by omega, by omega⟩)
  have HAll := hide (show bytesB whole (l.take n) = bytesB whole l by rw [List.take_of_length_le (by omega)])
  have H0 := hide (show bytesB whole (l.take 0) = [] by simp [bytesB])
  have HA := hide h
  unfold MadeB
  generalize bytesB whole l = res at *
  clear h hl hw
  go_enter Try.func19, Try.ntmps19
  go_wp2
  go_loopw [10, 5] (fun x v wr => ∃ i : Nat, i ≤ n ∧ x = .int .i64 (i : Int) ∧ OwnB wr w.heap.size v (bytesB whole (l.take i)) ∧ Ext w wr) (fun x _ _ => n - (intOf x).toNat)
  case atStart => exact ⟨0, by omega, rfl, by rw [H0.out]; exact OwnB.nil _ _, Ext.refl _⟩
  case round =>
    clear H0
    obtain ⟨i, hi, rfl, hO, hE⟩ := hrel
    have HE := hide hE
    by_cases hlt : i < n
    · have hiI : (i : Int) < (n : Int) := by omega
      rcases (HA.out.later HE.out).2.1 with hn0 | ⟨b1, o1, rfl, _, hc1⟩
      · omega
      obtain ⟨e0, e1, e2, e3⟩ := hc1 i hlt
      obtain ⟨k0, k1, k2⟩ := HOne.out i hlt
      have HSi := hide (HSt.out i hlt)
      have HSl := hide (HSm.out i)
      obtain ⟨r, hr⟩ : ∃ r, r = l.getD i default := ⟨_, rfl⟩
      rw [← hr] at e0 e1 e2 e3 k0 k1 k2 HSi
      obtain ⟨pre, hpre⟩ : ∃ p, p = bytesB whole (l.take i) := ⟨_, rfl⟩
      rw [← hpre] at HSi HSl hO
      obtain ⟨w1, hw1⟩ : ∃ w1, w1 = wr.alloc (.cells #[.int .u64 (r.time : Int), .int .u8 (r.lv.toNat : Int), .string ⟨r.src.toArray⟩, .string ⟨r.text.toArray⟩] 42) := ⟨_, rfl⟩
      have hE1 : Ext wr w1 := by rw [hw1]; exact extNew wr _
      have hW1 : Whole w1 wr.heap.size 42 #[.int .u64 (r.time : Int), .int .u8 (r.lv.toNat : Int), .string ⟨r.src.toArray⟩, .string ⟨r.text.toArray⟩] := by rw [hw1]; exact Whole.new wr _ _
      have HB1 := hide (show Beside w1 wr.heap.size 42 #[.int .u64 (r.time : Int), .int .u8 (r.lv.toNat : Int), .string ⟨r.src.toArray⟩, .string ⟨r.text.toArray⟩] u5 from ⟨hW1, fun e => by have := (hO.lt _ e).2; omega⟩)
      have HE1 := hide (HE.out.trans hE1)
      have HO1 := hide (hO.ext hE1)
      have CN := hide (fun W => ownNum_any r.time W (by omega))
      have CS := hide (fun W => pTextT_any r.src W k1)
      have CT := hide (fun W => pTextT_any r.text W k2)
      have hls := enc_len r.src.length
      have hlt2 := enc_len r.text.length
      have HSl2 := hide (show (txtB r.src).length ≤ 1000010 by unfold txtB; rw [List.length_append]; omega)
      have HTl2 := hide (show (txtB r.text).length ≤ 1000010 by unfold txtB; rw [List.length_append]; omega)
      have HNl2 := hide (enc_len r.time)
      cases whole with
      | false =>
        have HOneB := hide (show pre ++ txtB r.src ++ txtB r.text = pre ++ oneB false r by simp [oneB])
        generalize oneB false r = OB at *
        generalize txtB r.src = S at *
        generalize txtB r.text = T at *
        clear hpre hr hE1 hW1 hls hlt2 CN HNl2 hO hE hc1 k0 k1 k2
        have d10 := HB1.out.1.at 2 (u := .string ⟨r.src.toArray⟩) rfl
        go_wp2_with fail
        rw [← hw1]
        clear hw1
        refine (CS.out w1).mono ?_
        rintro e w2 ⟨v2, rfl, hO2, hE2⟩
        obtain ⟨A2, c2', hv2, -, -, q2⟩ := hO2.form
        obtain ⟨m2, hm2⟩ : ∃ m, m = S.length := ⟨_, rfl⟩
        rw [← hm2] at hv2 q2
        have HM2 := hide hm2
        have HQ2 := hide q2
        have HE2 := hide (HE1.out.trans hE2)
        have HO2 := hide (HO1.out.ext hE2)
        have HB2 := hide (HB1.out.ext hE2)
        subst hv2
        clear hO2 q2 hm2 hE2 e0 e1 e2 e3 d10
        go_wp2_with (at_builtin; refine wpList_appAt rfl (.tmp 25) (.tmp 28) rfl rfl HO2.out rfl HQ2.out (by have := HM2.out; have := HSl2.out; have := HSl.out; omega) HE2.out.le ?_; intro v3 w3 hO3 hG3 hN3; have HO3 := hide hO3; have HE3 := hide (show Ext w w3 from Below.grown HE2.out hG3 HE2.out.le (fun k hk => (HO2.out.lt k hk).1)); have HB3 := hide (HB2.out.grown hG3 hN3); have d30 := HB3.out.1.at 3 (u := .string ⟨r.text.toArray⟩) rfl; clear hO3 hG3 hN3)
        refine (CT.out w3).mono ?_
        rintro e w4 ⟨v4, rfl, hO4, hE4⟩
        obtain ⟨A4, c4', hv4, -, -, q4⟩ := hO4.form
        obtain ⟨m4, hm4⟩ : ∃ m, m = T.length := ⟨_, rfl⟩
        rw [← hm4] at hv4 q4
        have HM4 := hide hm4
        have HQ4 := hide q4
        have HE4 := hide (HE3.out.trans hE4)
        have HO4 := hide (HO3.out.ext hE4)
        have HB4 := hide (HB3.out.ext hE4)
        subst hv4
        clear hO4 q4 hm4 hE4 d30
        go_wp2_with (at_builtin; refine wpList_appAt rfl (.tmp 30) (.tmp 33) rfl rfl HO4.out rfl HQ4.out (by have := HM4.out; have := HSl2.out; have := HTl2.out; have := HSl.out; rw [List.length_append]; omega) HE4.out.le ?_; intro v5 w5 hO5 hG5 hN5; have HO5 := hide hO5; have HE5 := hide (show Ext w w5 from Below.grown HE4.out hG5 HE4.out.le (fun k hk => (HO4.out.lt k hk).1)); have HB5 := hide (HB4.out.grown hG5 hN5); clear hO5 hG5 hN5)
        go_roundw
        case rel => exact ⟨i + 1, by omega, by go_num, by rw [HSi.out, ← HOneB.out]; exact HO5.out, HE5.out⟩
        case measure => simp [intOf]; omega
      | true =>
        have HOneB := hide (show pre ++ enc r.time ++ [r.lv] ++ txtB r.src ++ txtB r.text = pre ++ oneB true r by simp [oneB])
        generalize oneB true r = OB at *
        generalize txtB r.src = S at *
        generalize txtB r.text = T at *
        generalize enc r.time = N at *
        clear hpre hr hE1 hW1 hls hlt2 hO hE hc1 k0 k1 k2
        have d10 := HB1.out.1.at 0 (u := .int .u64 (r.time : Int)) rfl
        go_wp2_with fail
        rw [← hw1]
        clear hw1
        refine (CN.out w1).mono ?_
        rintro e w2 ⟨v2, rfl, hO2, hE2⟩
        obtain ⟨A2, c2', hv2, -, -, q2⟩ := hO2.form
        obtain ⟨m2, hm2⟩ : ∃ m, m = N.length := ⟨_, rfl⟩
        rw [← hm2] at hv2 q2
        have HM2 := hide hm2
        have HQ2 := hide q2
        have HE2 := hide (HE1.out.trans hE2)
        have HO2 := hide (HO1.out.ext hE2)
        have HB2 := hide (HB1.out.ext hE2)
        subst hv2
        clear hO2 q2 hm2 hE2 e0 e1 e2 e3 d10
        go_wp2_with (first
          | (at_builtin; refine wpList_appAt rfl (.tmp 15) (.tmp 18) rfl rfl HO2.out rfl HQ2.out (by have := HM2.out; have := HNl2.out; have := HSl.out; omega) HE2.out.le ?_; intro v3 w3 hO3 hG3 hN3; have HO3 := hide hO3; have HE3 := hide (show Ext w w3 from Below.grown HE2.out hG3 HE2.out.le (fun k hk => (HO2.out.lt k hk).1)); have HB3 := hide (HB2.out.grown hG3 hN3); have d30 := HB3.out.1.at 1 (u := .int .u8 (r.lv.toNat : Int)) rfl; clear hO3 hG3 hN3)
          | (at_builtin; refine wpList_appAt rfl (.tmp 20) (.tmp 23) rfl rfl (HO3.out.ext (extNew w3 _)) rfl (bytesNew w3 [r.lv] #[.int .u8 (r.lv.toNat : Int)] 5 (0, 0) rfl 1 rfl) (by have := HNl2.out; have := HSl.out; rw [List.length_append]; omega) (HE3.out.trans (extNew w3 _)).le ?_; intro v4 w4 hO4 hG4 hN4; have HO4 := hide hO4; have HE4 := hide (show Ext w w4 from Below.grown (HE3.out.trans (extNew w3 _)) hG4 (HE3.out.trans (extNew w3 _)).le (fun k hk => (HO3.out.lt k hk).1)); have HB4 := hide ((HB3.out.ext (extNew w3 _)).grown hG4 hN4); have d40 := HB4.out.1.at 2 (u := .string ⟨r.src.toArray⟩) rfl; clear hO4 hG4 hN4))
        refine (CS.out w4).mono ?_
        rintro e w5 ⟨v5, rfl, hO5, hE5⟩
        obtain ⟨A5, c5', hv5, -, -, q5⟩ := hO5.form
        obtain ⟨m5, hm5⟩ : ∃ m, m = S.length := ⟨_, rfl⟩
        rw [← hm5] at hv5 q5
        have HM5 := hide hm5
        have HQ5 := hide q5
        have HE5 := hide (HE4.out.trans hE5)
        have HO5 := hide (HO4.out.ext hE5)
        have HB5 := hide (HB4.out.ext hE5)
        subst hv5
        clear hO5 q5 hm5 hE5 d30 d40
        go_wp2_with (at_builtin; refine wpList_appAt rfl (.tmp 25) (.tmp 28) rfl rfl HO5.out rfl HQ5.out (by have := HM5.out; have := HSl2.out; have := HNl2.out; have := HSl.out; simp only [List.length_append, List.length_singleton]; omega) HE5.out.le ?_; intro v6 w6 hO6 hG6 hN6; have HO6 := hide hO6; have HE6 := hide (show Ext w w6 from Below.grown HE5.out hG6 HE5.out.le (fun k hk => (HO5.out.lt k hk).1)); have HB6 := hide (HB5.out.grown hG6 hN6); have d60 := HB6.out.1.at 3 (u := .string ⟨r.text.toArray⟩) rfl; clear hO6 hG6 hN6)
        refine (CT.out w6).mono ?_
        rintro e w7 ⟨v7, rfl, hO7, hE7⟩
        obtain ⟨A7, c7', hv7, -, -, q7⟩ := hO7.form
        obtain ⟨m7, hm7⟩ : ∃ m, m = T.length := ⟨_, rfl⟩
        rw [← hm7] at hv7 q7
        have HM7 := hide hm7
        have HQ7 := hide q7
        have HE7 := hide (HE6.out.trans hE7)
        have HO7 := hide (HO6.out.ext hE7)
        have HB7 := hide (HB6.out.ext hE7)
        subst hv7
        clear hO7 q7 hm7 hE7 d60
        go_wp2_with (at_builtin; refine wpList_appAt rfl (.tmp 30) (.tmp 33) rfl rfl HO7.out rfl HQ7.out (by have := HM7.out; have := HSl2.out; have := HTl2.out; have := HNl2.out; have := HSl.out; simp only [List.length_append, List.length_singleton]; omega) HE7.out.le ?_; intro v8 w8 hO8 hG8 hN8; have HO8 := hide hO8; have HE8 := hide (show Ext w w8 from Below.grown HE7.out hG8 HE7.out.le (fun k hk => (HO7.out.lt k hk).1)); have HB8 := hide (HB7.out.grown hG8 hN8); clear hO8 hG8 hN8)
        go_roundw
        case rel => exact ⟨i + 1, by omega, by go_num, by rw [HSi.out, ← HOneB.out]; exact HO8.out, HE8.out⟩
        case measure => simp [intOf]; omega
    · have hiI : ¬ (i : Int) < (n : Int) := by omega
      obtain rfl : i = n := by omega
      clear hlt
      go_wp2
      go_ret
      exact ⟨_, rfl, by rw [← HAll.out]; exact hO, hE⟩
end Go.Proofs.Ytkgkppblkdihkaa

namespace Go.Proofs.Ytkgkppblkdihkaa
open Go.RowKit

theorem appI_run {w : World} (ty : TypeId) {base : Nat} {v : Value} {L : List Int} (hown : OwnI w base v L) {gx c : Nat} {p : Int} (hc : w.cell? ⟨gx, 0, none⟩ = some (.int .i64 p)) (hlen : L.length ≤ 1000000) (hbase : base ≤ w.heap.size) :
    ∃ v' w', (Builtin.append_ #[44, 44] ty #[v, .slice (some ⟨gx, 0, none⟩) 1 c]).run Try.prog w = .ok v' w' ∧ OwnI w' base v' (L ++ [p]) ∧ w.grownBy w' v.ownBlock ∧ NewOb w v.ownBlock v'.ownBlock := by
  obtain ⟨i, hi, hz, hs, hby⟩ := info_parts int_info
  obtain ⟨v', w', hr, h2, h3, _, h5⟩ := run_append_own_at (P := Try.prog) w base 44 ty 3 i _ 1 8 Try.underlying44 hi hz hs hby rfl (by omega) v L.length (L.map (Value.int .i64)) hown
    ⟨gx, 0, none⟩ 1 c [.int .i64 p] rfl (by
      intro j u hu
      match j, hu with
      | 0, hu =>
        have : (⟨gx, 0, none⟩ : Addr).add 0 = ⟨gx, 0, none⟩ := rfl
        rw [this, hc]
        simpa using hu
      | j + 1, hu => simp at hu) (by
      intro u hu
      simp at hu
      subst hu
      rfl) (by unfold maxLen; omega) (by omega) hbase
  refine ⟨v', w', hr, ?_, h3, h5.imp id fun h => ⟨_, h, Nat.le_refl _⟩⟩
  unfold OwnI
  rw [List.length_append, List.map_append]
  exact h2
theorem wpOper_appI {o : Oper} {a : Act} {K : Act → World → Prop} {Q : Exit → Act → World → Prop} {w : World} {base : Nat} {v : Value} {L : List Int} (s x : Operand) (ho : o.op = .call { callee := .builtin .append, args := #[s, x], argTypes := #[44, 44] }) (hs : a.eval s = v)
    (hown : OwnI w base v L) {gx c : Nat} (hx : a.eval x = .slice (some ⟨gx, 0, none⟩) 1 c) {p : Int} (hc : w.cell? ⟨gx, 0, none⟩ = some (.int .i64 p)) (hlen : L.length ≤ 1000000) (hbase : base ≤ w.heap.size)
    (h : ∀ v' w', OwnI w' base v' (L ++ [p]) → w.grownBy w' v.ownBlock → NewOb w v.ownBlock v'.ownBlock → K (a.put o.dst v') w') : Oper.wp Try.prog o a w K Q := by
  obtain ⟨v', w', hr, h2, h3, h4⟩ := appI_run (c := c) o.type hown hc hlen hbase
  unfold Oper.wp execOp
  simp only [ho, resolve, invoke, builtin, Sem.run_bind, Sem.run_pure, Result.andThen_ok, List.map_toArray, List.map_cons, List.map_nil, hs, hx, hr]
  exact h v' w' h2 h3 h4
theorem wpList_appIN {ops : Array Oper} {rest : List Oper} {o : Oper} {a : Act} {Q : Exit → Act → World → Prop} {w : World} {base : Nat} {v : Value} {L : List Int} (hgd : o.guard = none) (s x : Operand) (ho : o.op = .call { callee := .builtin .append, args := #[s, x], argTypes := #[44, 44] }) (hs : a.eval s = v)
    (hown : OwnI w base v L) {gx c : Nat} (hx : a.eval x = .slice (some ⟨gx, 0, none⟩) 1 c) {p : Int} (hc : w.cell? ⟨gx, 0, none⟩ = some (.int .i64 p)) (hlen : L.length ≤ 1000000) (hbase : base ≤ w.heap.size)
    (h : ∀ v' w', OwnI w' base v' (L ++ [p]) → w.grownBy w' v.ownBlock → NewOb w v.ownBlock v'.ownBlock → wpList Try.prog ops Q rest (a.put o.dst v') w') : wpList Try.prog ops Q (o :: rest) a w :=
  wpList_plain hgd fun _ hK => wpOper_appI s x ho hs hown hx hc hlen hbase fun v' w' h1 h2 h3 => hK _ _ (h v' w' h1 h2 h3)

theorem OwnI.at {w : World} {base n c : Nat} {A : Option Addr} {L : List Int} (h : OwnI w base (.slice A n c) L) : IntsAt w w.heap.size A L.length L := by
  obtain ⟨B, d, e, _, h1⟩ := h.form
  injection e with e1 e2 e3
  rw [e1]
  exact h1
/-- Two lists of numbers in blocks of the call's own, from base on, apart. -/
structure TwoI (w : World) (base : Nat) (v1 v2 : Value) (L H : List Int) : Prop where
  one : OwnI w base v1 L
  two : OwnI w base v2 H
  apart : v1.ownBlock = none ∨ v1.ownBlock ≠ v2.ownBlock
section
variable {w w' : World} {base : Nat} {v1 v2 v' : Value} {L H L' H' : List Int}
theorem TwoI.nil (w : World) (base : Nat) : TwoI w base (.slice none 0 0) (.slice none 0 0) [] [] := ⟨OwnI.nil _ _, OwnI.nil _ _, .inl rfl⟩
theorem TwoI.ext (h : TwoI w base v1 v2 L H) (hE : Ext w w') : TwoI w' base v1 v2 L H := ⟨h.one.ext hE, h.two.ext hE, h.apart⟩
theorem TwoI.flip (h : TwoI w base v1 v2 L H) : TwoI w base v2 v1 H L := by
  refine ⟨h.two, h.one, ?_⟩
  cases hv : v2.ownBlock with
  | none => exact .inl rfl
  | some k =>
    refine .inr fun e => ?_
    rcases h.apart with h1 | h1
    · rw [h1] at e; cases e
    · exact h1 (by rw [hv]; exact e.symm)
/-- The first one has grown. -/
theorem TwoI.grow (h : TwoI w base v1 v2 L H) (hO : OwnI w' base v' L') (hG : w.grownBy w' v1.ownBlock) (hN : NewOb w v1.ownBlock v'.ownBlock) : TwoI w' base v' v2 L' H := by
  have hf := h.flip
  refine ⟨hO, World.ownsRow.kept h.two hG ?_, ?_⟩
  · exact hf.apart
  · rcases hN with e | ⟨n, e, hn⟩
    · rw [e]; exact h.apart
    · refine .inr fun e2 => ?_
      rw [e] at e2
      have := h.two.lt n e2.symm
      omega
/-- A block below is stored into. -/
theorem TwoI.below {g : Nat} (h : TwoI w base v1 v2 L H) (hG : w.grownBy w' (some g)) (hg : g < base) : TwoI w' base v1 v2 L H := by
  refine ⟨World.ownsRow.kept h.one hG ?_, World.ownsRow.kept h.two hG ?_, h.apart⟩
  · cases hv : v1.ownBlock with
    | none => simp
    | some k => have := h.one.lt k hv; simp; omega
  · cases hv : v2.ownBlock with
    | none => simp
    | some k => have := h.two.lt k hv; simp; omega
theorem TwoI.ne1 (h : TwoI w base v1 v2 L H) {g : Nat} (hg : g < base) : v1.ownBlock ≠ some g := fun e => by have := h.one.lt g e; omega
theorem TwoI.ne2 (h : TwoI w base v1 v2 L H) {g : Nat} (hg : g < base) : v2.ownBlock ≠ some g := fun e => by have := h.two.lt g e; omega
end
end Go.Proofs.Ytkgkppblkdihkaa

namespace Go.Proofs.Ytkgkppblkdihkaa
open Go.RowKit

theorem wpList_makeN {ops : Array Oper} {rest : List Oper} {o : Oper} {a : Act} {Q : Exit → Act → World → Prop} {w : World} (hgd : o.guard = none) (x y : Operand) (ho : o.op = .makeSlice 44 x y) {n : Nat} (hx : a.eval x = .int .i64 (n : Int)) (hy : a.eval y = .int .i64 (n : Int)) (hn : n ≤ 1000000)
    (h : ∀ w', OwnI w' w.heap.size (.slice (some ⟨w.heap.size, 0, none⟩) n n) (List.replicate n 0) → Ext w w' → wpList Try.prog ops Q rest (a.put o.dst (.slice (some ⟨w.heap.size, 0, none⟩) n n)) w') : wpList Try.prog ops Q (o :: rest) a w := by
  obtain ⟨i, hi, hz, hsz, hby⟩ := info_parts int_info
  refine wpList_make_full w hgd x y 44 ho w.heap.size 3 i _ 1 Try.underlying44 hi hz hsz .i64 .i64 _ _ n hx hy rfl rfl (by rw [hby]; omega) (by unfold maxLen; omega) (Nat.le_refl _) ?_
  intro w' h1 h2
  refine h w' ?_ (Below.grown (Ext.refl w) h2 (Nat.le_refl _) fun k hk => by cases hk)
  unfold OwnI
  have e : (madeCells (Value.int .i64 0).cells (n * 1)).toList = (List.replicate n (0 : Int)).map (Value.int .i64) := by
    have : madeCells (Value.int .i64 0).cells n = ((List.replicate n (0 : Int)).map (Value.int .i64)).toArray := by
      apply Array.ext
      · simp [size_madeCells]
      · intro i h1 h2
        simp [madeCells, Value.cells, Nat.mod_one]
    rw [Nat.mul_one, this]
  rw [e] at h1
  simpa using h1
theorem OwnI.cell {w : World} {base g n c : Nat} {L : List Int} (h : OwnI w base (.slice (some ⟨g, 0, none⟩) n c) L) {i : Nat} (hi : i < L.length) : w.cell? ⟨g, i, none⟩ = some (.int .i64 (L.getD i 0)) ∧ w.frozen? ⟨g, i, none⟩ = false := by
  have hn : n = L.length := by
    rcases h.2 with ⟨h', _⟩ | ⟨_, _, _, h', _⟩
    · simp at h'
    · simp only [Value.slice.injEq] at h'; exact h'.2.1
  subst hn
  refine ⟨?_, World.ownsRow.frozenAt h i⟩
  rw [World.ownsRow.cellAt h i (by omega)]
  simp [hi]
theorem OwnI.put {w : World} {base g n c : Nat} {L : List Int} (h : OwnI w base (.slice (some ⟨g, 0, none⟩) n c) L) (i : Nat) (x : Int) : OwnI (w.setCell ⟨g, i, none⟩ (.int .i64 x)) base (.slice (some ⟨g, 0, none⟩) n c) (L.set i x) := by
  have hn : n = L.length := by
    rcases h.2 with ⟨h', _⟩ | ⟨_, _, _, h', _⟩
    · simp at h'
    · simp only [Value.slice.injEq] at h'; exact h'.2.1
  subst hn
  have := (World.ownsRow.stored h i (.int .i64 x)).1
  unfold OwnI
  rw [List.length_set, List.map_set]
  exact this
end Go.Proofs.Ytkgkppblkdihkaa

namespace Go.Proofs.Ytkgkppblkdihkaa
open Go.RowKit Rcs Num

namespace Rcs
/-- What the program has made of the first i records: the groups, and the room that is left in the last one. -/
def GSt (S : Int) (whole : Bool) (l : List Rc) (i : Nat) (L : List Int) (room : Int) : Prop :=
  L.length ≤ i ∧ ((i = 0 ∧ L = [] ∧ room = 0) ∨ ∃ (done : List Int) (k sum : Nat), L = done ++ [(k : Int)] ∧ k ≤ i ∧ room = S - (sum : Int) ∧ sum ≤ 2 * weightE (l.take i) ∧
    restI S whole l 0 = done ++ ((k + moreG whole S sum (l.drop i) : Nat) : Int) :: restI S whole l (i + moreG whole S sum (l.drop i)))
variable {S : Int} {whole : Bool} {l : List Rc} {i : Nat} {L : List Int} {room : Int}
theorem rest_row (h : i < l.length) : restI S whole l i = ((moreG whole S (oneB whole (l.getD i default)).length (l.drop (i + 1)) + 1 : Nat) : Int) :: restI S whole l (i + (moreG whole S (oneB whole (l.getD i default)).length (l.drop (i + 1)) + 1)) := by
  unfold restI
  rw [(groups_step h).1, List.map_cons]
  rfl
theorem one_weight (h : i < l.length) : (oneB whole (l.getD i default)).length + 2 * weightE (l.take i) ≤ 2 * weightE (l.take (i + 1)) := by
  have h1 := weight_step h
  have h2 := one_len whole (l.getD i default)
  omega
theorem gst_new (h : GSt S whole l i L room) (hi : i < l.length) (hr : room < ((oneB whole (l.getD i default)).length : Int)) : GSt S whole l (i + 1) (L ++ [1]) (S - ((oneB whole (l.getD i default)).length : Int)) := by
  have hw := one_weight (whole := whole) hi
  refine ⟨by rw [List.length_append, List.length_singleton]; have := h.1; omega, .inr ⟨L, 1, (oneB whole (l.getD i default)).length, rfl, by omega, rfl, by omega, ?_⟩⟩
  rcases h.2 with ⟨rfl, rfl, rfl⟩ | ⟨done, k, sum, rfl, hk, hroom, hs, hres⟩
  · rw [rest_row hi, List.nil_append]
    rw [Nat.zero_add, Nat.zero_add, Nat.add_comm 1]
  · rw [more_step hi, if_neg (by omega), Nat.add_zero, Nat.add_zero, rest_row hi] at hres
    rw [hres, List.append_assoc, List.singleton_append]
    rw [show i + (moreG whole S (oneB whole (l.getD i default)).length (l.drop (i + 1)) + 1) = i + 1 + moreG whole S (oneB whole (l.getD i default)).length (l.drop (i + 1)) by omega, Nat.add_comm 1 (moreG _ _ _ _)]
theorem gst_more (h : GSt S whole l i L room) (hi : i < l.length) (hr : ¬ room < ((oneB whole (l.getD i default)).length : Int)) :
    ∃ (done : List Int) (k : Nat), L = done ++ [(k : Int)] ∧ k ≤ i ∧ GSt S whole l (i + 1) (done ++ [((k + 1 : Nat) : Int)]) (room - ((oneB whole (l.getD i default)).length : Int)) := by
  have hw := one_weight (whole := whole) hi
  have hp := one_pos whole (l.getD i default)
  have hl := h.1
  rcases h.2 with ⟨rfl, rfl, rfl⟩ | ⟨done, k, sum, rfl, hk, hroom, hs, hres⟩
  · omega
  · refine ⟨done, k, rfl, hk, by simp at hl ⊢; omega, .inr ⟨done, k + 1, sum + (oneB whole (l.getD i default)).length, rfl, by omega, by omega, by omega, ?_⟩⟩
    rw [more_step hi, if_pos (by omega)] at hres
    rw [hres]
    rw [show k + (moreG whole S (sum + (oneB whole (l.getD i default)).length) (l.drop (i + 1)) + 1) = k + 1 + moreG whole S (sum + (oneB whole (l.getD i default)).length) (l.drop (i + 1)) by omega, show i + (moreG whole S (sum + (oneB whole (l.getD i default)).length) (l.drop (i + 1)) + 1) = i + 1 + moreG whole S (sum + (oneB whole (l.getD i default)).length) (l.drop (i + 1)) by omega]
theorem gst_end (h : GSt S whole l l.length L room) : restI S whole l 0 = L := by
  rcases h.2 with ⟨h0, rfl, rfl⟩ | ⟨done, k, sum, rfl, hk, hroom, hs, hres⟩
  · unfold restI
    rw [groups_end (by omega)]
    rfl
  · rw [more_end (Nat.le_refl _)] at hres
    rw [hres]
    unfold restI
    rw [groups_end (by omega)]
    rfl
theorem gst_room (h : GSt S whole l i L room) (hS : 1 ≤ S) : -(2 * (weightE l : Int)) ≤ room ∧ room ≤ S := by
  have hw := weight_take l i
  rcases h.2 with ⟨h0, rfl, rfl⟩ | ⟨done, k, sum, rfl, hk, hroom, hs, hres⟩
  · omega
  · omega
end Rcs
theorem OwnI.formG {w : World} {base : Nat} {v : Value} {L : List Int} (h : OwnI w base v L) (hl : 0 < L.length) : ∃ g c, v = .slice (some ⟨g, 0, none⟩) L.length c ∧ base ≤ g ∧ L.length ≤ c := by
  have hlt := h.lt
  rcases h.2 with ⟨rfl, h0⟩ | ⟨g, cap, cur, rfl, hb, hg, hn, hc, hs, ht⟩
  · omega
  · exact ⟨g, cap, rfl, (hlt g rfl).1, hn⟩
theorem Rcs.groups_rest (size : Int) (whole : Bool) (l : List Rc) : groupsI size whole l = restI (if size < 1 then 1 else size) whole l 0 := by simp [groupsI, restI, groupsE, groupsAt]
theorem set_last (L : List Int) (x y : Int) : (L ++ [x]).set L.length y = L ++ [y] := by simp

set_option maxHeartbeats 4000000 in
set_option maxRecDepth 100000 in
theorem pGroups17_any (size : Int) (whole : Bool) (A : Option Addr) (n c : Nat) (l : List Rc) (w : World) (hs : IsI64 size) (h : RcsAt w w.heap.size A n l) (hw : weightE l ≤ 1000000) :
    Calls Try.prog 25 #[.int .i64 size, .bool whole, .slice A n c] w (MadeL w (groupsI size whole l)) := by
  have hl := h.1
  unfold IsI64 at hs
  have hn : n ≤ 62500 := by have := weight_len l; omega
  obtain ⟨S, hS⟩ : ∃ S, S = max size 1 := ⟨_, rfl⟩
  have hS1 : 1 ≤ S := by omega
  have hS2 : S ≤ 9223372036854775807 := by omega
  have hres : groupsI size whole l = restI S whole l 0 := by
    rw [groups_rest, hS]
    congr 1
    split <;> omega
  rw [hres]
  unfold MadeL
  have HOne := hide (fun (i : Nat) (hi : i < n) => show (l.getD i default).ok ∧ weightE [l.getD i default] ≤ 1000000 ∧ (oneB whole (l.getD i default)).length ≤ 2000000 from by
    have h1 := weight_mem (l := l) (r := l.getD i default) (by rw [List.getD_eq_getElem?_getD, List.getElem?_eq_getElem (by omega)]; exact List.getElem_mem _)
    have h2 := one_len whole (l.getD i default)
    exact ⟨h.okAt hi, by unfold weightE; rw [List.map_cons, List.sum_cons, List.map_nil, List.sum_nil]; omega, by omega⟩)
  have HNew := hide (fun (i : Nat) (L : List Int) (room : Int) (hi : i < n) (hg : GSt S whole l i L room) => gst_new hg (by omega))
  have HMore := hide (fun (i : Nat) (L : List Int) (room : Int) (hi : i < n) (hg : GSt S whole l i L room) => gst_more hg (by omega))
  have HEnd := hide (fun (L : List Int) (room : Int) (hg : GSt S whole l n L room) => show restI S whole l 0 = L from by rw [← hl] at hg; exact gst_end hg)
  have HRoom := hide (fun (i : Nat) (L : List Int) (room : Int) (hg : GSt S whole l i L room) => show -2000000 ≤ room ∧ room ≤ S from by have := gst_room hg hS1; omega)
  have H0 := hide (show GSt S whole l 0 [] 0 from ⟨by simp, .inl ⟨rfl, rfl, rfl⟩⟩)
  have HMax := hide hS
  have HA := hide h
  generalize restI S whole l 0 = res at *
  clear h hl hw hres hS
  go_enter Try.func25, Try.ntmps25
  go_wp2
  go_loopw [14, 7, 8] (fun x v y wr => ∃ (i : Nat) (L : List Int) (room : Int), i ≤ n ∧ x = .int .i64 (i : Int) ∧ y = .int .i64 room ∧ OwnI wr w.heap.size v L ∧ GSt S whole l i L room ∧ Ext w wr) (fun x _ _ _ => n - (intOf x).toNat)
  case atStart => exact ⟨0, [], 0, by omega, rfl, rfl, OwnI.nil _ _, H0.out, Ext.refl _⟩
  case round =>
    clear H0
    obtain ⟨i, L, room, hi, rfl, rfl, hO, hg, hE⟩ := hrel
    have HO := hide hO
    have HE := hide hE
    have HG := hide hg
    obtain ⟨r1, r2⟩ := HRoom.out i L room hg
    by_cases hlt : i < n
    · have hiI : (i : Int) < (n : Int) := by omega
      rcases (HA.out.later HE.out).2.1 with hn0 | ⟨b1, o1, rfl, _, hc1⟩
      · omega
      obtain ⟨e0, e1, e2, e3⟩ := hc1 i hlt
      obtain ⟨k0, k1, k2⟩ := HOne.out i hlt
      have HNi := hide (HNew.out i L room hlt hg)
      have HMi := hide (HMore.out i L room hlt hg)
      have hLi := hg.1
      obtain ⟨r, hr⟩ : ∃ r, r = l.getD i default := ⟨_, rfl⟩
      rw [← hr] at e0 e1 e2 e3 k0 k1 k2 HNi HMi
      have hE1 := extNew wr (.cells #[.int .u64 (r.time : Int), .int .u8 (r.lv.toNat : Int), .string ⟨r.src.toArray⟩, .string ⟨r.text.toArray⟩] 42)
      obtain ⟨w1, hw1⟩ : ∃ w1, w1 = wr.alloc (.cells #[.int .u64 (r.time : Int), .int .u8 (r.lv.toNat : Int), .string ⟨r.src.toArray⟩, .string ⟨r.text.toArray⟩] 42) := ⟨_, rfl⟩
      rw [← hw1] at hE1
      have hR := rcsNew w1 [r] #[.int .u64 (r.time : Int), .int .u8 (r.lv.toNat : Int), .string ⟨r.src.toArray⟩, .string ⟨r.text.toArray⟩] 42 (0, 0) rfl 1 rfl (by simpa using k0)
      have hE2 := extNew w1 (.cells #[.int .u64 (r.time : Int), .int .u8 (r.lv.toNat : Int), .string ⟨r.src.toArray⟩, .string ⟨r.text.toArray⟩] 42)
      have CB := pBytes17_any whole _ 1 1 [r] _ hR k1
      have hone : bytesB whole [r] = oneB whole r := by simp [bytesB]
      rw [hone] at CB
      rw [hw1] at CB
      have hsz : w1.heap.size = wr.heap.size + 1 := by rw [hw1, World.size_alloc]
      have HEw := hide (hE1.trans hE2)
      rw [hw1] at HEw
      obtain ⟨Z, hZ⟩ : ∃ Z, Z = oneB whole r := ⟨_, rfl⟩
      rw [← hZ] at CB HNi HMi k2
      clear hc1 hr hE1 hR hE2 hone hZ hO hE hg k0 k1
      rw [World.size_alloc] at CB
      clear hw1 hsz
      go_wp2_with fail
      refine CB.mono ?_
      rintro e w3 ⟨v3, rfl, hO3, hE3⟩
      obtain ⟨A3, c3, rfl, -, -, -⟩ := hO3.form
      have HE3 := hide (HE.out.trans (HEw.out.trans hE3))
      have HO3 := hide (HO.out.ext (HEw.out.trans hE3))
      obtain ⟨m, hm⟩ : ∃ m, m = Z.length := ⟨_, rfl⟩
      rw [← hm] at HNi HMi k2 ⊢
      have HM := hide hm
      clear hO3 hE3 CB e0 e1 e2 e3 hm
      obtain ⟨j, hj⟩ : ∃ j, L.length = j := ⟨_, rfl⟩
      have hj2 : j ≤ 62500 := by omega
      have HJ := hide hj
      have HRelEnd := hide (show ∀ (v : Value) (W : World) (L' : List Int) (room' : Int), OwnI W w.heap.size v L' → GSt S whole l (i + 1) L' room' → Ext w W → ∃ (i' : Nat) (L : List Int) (room : Int), i' ≤ n ∧ Value.int .i64 ((i : Int) + 1) = .int .i64 (i' : Int) ∧ Value.int .i64 room' = .int .i64 room ∧ OwnI W w.heap.size v L ∧ GSt S whole l i' L room ∧ Ext w W from fun v W L' room' a b c => ⟨i + 1, L', room', by omega, by go_num, rfl, a, b, c⟩)
      by_cases hroom : room < (m : Int)
      · have HG2 := hide (HNi.out hroom)
        clear HNi HMi hj
        have wS : IntKind.i64.wrap (S - (m : Int)) = S - (m : Int) := by rw [IntKind.wrap_i64]; omega
        have APP := hide (show ∀ (v : Value) (W : World), OwnI W w.heap.size v (L ++ [0]) → ∃ g c4, v = .slice (some ⟨g, 0, none⟩) (j + 1) c4 ∧ w.heap.size ≤ g ∧ j + 1 ≤ c4 ∧ W.cell? ⟨g, j, none⟩ = some (.int .i64 0) ∧ W.frozen? ⟨g, j, none⟩ = false ∧ OwnI (W.setCell ⟨g, j, none⟩ (.int .i64 1)) w.heap.size (.slice (some ⟨g, 0, none⟩) (j + 1) c4) (L ++ [1]) from fun v W hv => by
          obtain ⟨g, c4, hv4, hg4, hc4⟩ := hv.formG (by simp)
          subst hv4
          obtain ⟨f1, f2⟩ := hv.cell (i := L.length) (by simp)
          have f3 := hv.put L.length 1
          rw [set_last] at f3
          rw [List.length_append, List.length_singleton, HJ.out] at f3 hc4
          rw [HJ.out] at f1 f2
          refine ⟨g, c4, by rw [List.length_append, List.length_singleton, HJ.out], hg4, hc4, ?_, f2, f3⟩
          rw [f1, ← HJ.out]
          simp)
        by_cases hz : size < 1
        · have hS1' : S = 1 := by have := HMax.out; omega
          rw [hS1'] at wS
          go_wp2_with (at_builtin; refine wpList_lit rfl (.tmp 26) (.tmp 27) rfl HE3.out HO3.out rfl 0 rfl (by have := HJ.out; omega) ?_; intro v4 w4 hO4 hE4; obtain ⟨g, c4, hv4, hg4, hc4, f1, f2, f3⟩ := APP.out v4 w4 hO4; subst hv4; have HO4 := hide f3; have HE4 := hide (hE4.setCell hg4 (i := j) (.int .i64 1)); clear hO4 hE4 f3)
          go_roundw
          case rel => exact HRelEnd.out _ _ _ _ HO4.out (by have := HG2.out; rw [show S - (m : Int) = 1 - (m : Int) by omega] at this; exact this) HE4.out
          case measure => simp [intOf]; omega
        · have hS1' : S = size := by have := HMax.out; omega
          rw [hS1'] at wS
          go_wp2_with (at_builtin; refine wpList_lit rfl (.tmp 26) (.tmp 27) rfl HE3.out HO3.out rfl 0 rfl (by have := HJ.out; omega) ?_; intro v4 w4 hO4 hE4; obtain ⟨g, c4, hv4, hg4, hc4, f1, f2, f3⟩ := APP.out v4 w4 hO4; subst hv4; have HO4 := hide f3; have HE4 := hide (hE4.setCell hg4 (i := j) (.int .i64 1)); clear hO4 hE4 f3)
          go_roundw
          case rel => exact HRelEnd.out _ _ _ _ HO4.out (by have := HG2.out; rw [show S - (m : Int) = size - (m : Int) by omega] at this; exact this) HE4.out
          case measure => simp [intOf]; omega
      · obtain ⟨done, k, rfl, hki, hGn⟩ := HMi.out (by omega)
        have HG2 := hide hGn
        obtain ⟨g, c4, hv4, hg4, hc4⟩ := HO3.out.formG (by simp)
        subst hv4
        obtain ⟨f1, f2⟩ := HO3.out.cell (i := done.length) (by simp)
        have f3 := HO3.out.put done.length ((k : Int) + 1)
        rw [set_last] at f3
        rw [show (done ++ [(k : Int)]).getD done.length 0 = (k : Int) by simp] at f1
        obtain ⟨d, hd⟩ : ∃ d, done.length = d := ⟨_, rfl⟩
        rw [List.length_append, List.length_singleton, hd] at f3 hc4 hj
        rw [hd] at f1 f2
        have hsl : (done ++ [(k : Int)]).length = d + 1 := by rw [List.length_append, List.length_singleton, hd]
        have hd2 : d ≤ 62500 := by omega
        rw [hsl] at HO3 ⊢
        have HO4 := hide f3
        have HE4 := hide (HE3.out.setCell hg4 (i := d) (.int .i64 ((k : Int) + 1)))
        have wR : IntKind.i64.wrap (room - (m : Int)) = room - (m : Int) := by rw [IntKind.wrap_i64]; omega
        clear HNi HMi hj HJ hGn f3 hsl HG HO hd
        go_wp2
        go_roundw
        case rel => exact HRelEnd.out _ _ _ _ HO4.out HG2.out HE4.out
        case measure => simp [intOf]; omega
    · have hiI : ¬ (i : Int) < (n : Int) := by omega
      obtain rfl : i = n := by omega
      have HR := hide (HEnd.out L room hg)
      obtain ⟨A2, c2, rfl, q1, q2, q3⟩ := hO.form2
      clear hlt
      go_wp2
      go_ret
      rw [HR.out]
      exact ⟨A2, c2, rfl, q1, q2, q3, hE⟩
end Go.Proofs.Ytkgkppblkdihkaa

namespace Go.Proofs.Ytkgkppblkdihkaa
open Go.RowKit

theorem madeZeros (n : Nat) : (madeCells (Value.int .u8 0).cells n).toList = (List.replicate n (0 : UInt8)).map byteV := by
  have : madeCells (Value.int .u8 0).cells n = ((List.replicate n (0 : UInt8)).map byteV).toArray := by
    apply Array.ext
    · simp [size_madeCells]
    · intro i h1 h2
      simp [madeCells, Value.cells, byteV, Nat.mod_one]
  rw [this]
theorem fix_step (j k x : Nat) (h : j < k) : (Num.fix j x ++ List.replicate (k - j) (0 : UInt8)).set j (UInt8.ofNat (x / 256 ^ j % 256)) = Num.fix (j + 1) x ++ List.replicate (k - (j + 1)) 0 := by
  rw [Num.fix_snoc, List.set_append, if_neg (by rw [Num.fix_len]; omega), Num.fix_len, Nat.sub_self, show k - j = (k - (j + 1)) + 1 by omega, List.replicate_succ, List.set_cons_zero, List.append_assoc]
  rfl

end Go.Proofs.Ytkgkppblkdihkaa

namespace Go.Proofs.Ytkgkppblkdihkaa
open Go.RowKit

end Go.Proofs.Ytkgkppblkdihkaa

namespace Go.Proofs.Ytkgkppblkdihkaa
open Go.RowKit

/-- n bytes that lie in block r, which is not block g. -/
def RowIn (w : World) (g r : Nat) (A : Option Addr) (n : Nat) (l : List UInt8) : Prop :=
  l.length = n ∧ (n = 0 ∨ r ≠ g ∧ ∃ off, A = some ⟨r, off, none⟩ ∧ ∀ i, i < n → w.cell? ⟨r, off + i, none⟩ = some (.int .u8 ((l.getD i 0).toNat : Int)))
section
variable {w w' : World} {g r n c q p : Nat} {A : Option Addr} {l b : List UInt8} {e : Int} {ob : Option Nat}
theorem RowIn.bytes (h : RowIn w g r A n l) : Bytes w w.heap.size A n l := by
  refine ⟨h.1, ?_⟩
  rcases h.2 with h0 | ⟨_, off, rfl, hc⟩
  · exact .inl h0
  · rcases Nat.eq_zero_or_pos n with h0 | h0
    · exact .inl h0
    · exact .inr ⟨r, off, rfl, World.block_lt_of_cell? w ⟨r, off + 0, none⟩ (hc 0 h0), hc⟩
theorem RowIn.at (h : RowIn w g r A n l) (hb : w'.heap[r]? = w.heap[r]?) : RowIn w' g r A n l := by
  refine ⟨h.1, ?_⟩
  rcases h.2 with h0 | ⟨hg, off, rfl, hc⟩
  · exact .inl h0
  · exact .inr ⟨hg, off, rfl, fun i hi => by rw [World.cell?_of_block (a := ⟨r, off + i, none⟩) hb]; exact hc i hi⟩
theorem RowIn.mod (h : RowIn w g r A n l) (hM : Mod w w' g ob) (hr : r < w.heap.size) (ho : ob ≠ some r) : RowIn w' g r A n l := by
  by_cases hg : r = g
  · refine ⟨h.1, ?_⟩
    rcases h.2 with h0 | ⟨hn, _⟩
    · exact .inl h0
    · exact absurd hg hn
  · exact h.at (hM.block r hr hg (fun e => ho e.symm))
theorem RowIn.take (h : RowIn w g r A n l) {k : Nat} (hk : k ≤ n) : RowIn w g r A k (l.take k) := by
  refine ⟨by rw [List.length_take, h.1]; omega, ?_⟩
  rcases h.2 with h0 | ⟨hg, off, hA, hc⟩
  · exact .inl (by omega)
  · refine .inr ⟨hg, off, hA, fun i hi => ?_⟩
    rw [hc i (by omega)]
    simp [List.getD_eq_getElem?_getD, hi]
theorem RowIn.drop (h : RowIn w g r A n l) {k : Nat} (hk : k ≤ n) (hc : n ≤ c) : RowIn w g r (cutAt A c k) (n - k) (l.drop k) := by
  refine ⟨by rw [List.length_drop, h.1], ?_⟩
  by_cases hkn : k = n
  · exact .inl (by omega)
  rcases h.2 with h0 | ⟨hg, off, rfl, hcell⟩
  · exact .inl (by omega)
  · refine .inr ⟨hg, off + k, ?_, fun i hi => ?_⟩
    · simp [cutAt, show ¬ c = k by omega, Addr.add]
    · rw [Nat.add_assoc, hcell (k + i) (by omega)]
      simp [List.getD_eq_getElem?_getD]

/-- Block g is the program's cursor over the bytes b (its row lies in block r), at the place q, with the error e. -/
def PC (w : World) (g r : Nat) (b : List UInt8) (q : Nat) (e : Int) : Prop :=
  ∃ A c, Whole w g 87 #[.slice A (b.length - q) c, .int .i64 (q : Int), .int .i64 e] ∧ b.length - q ≤ c ∧ RowIn w g r A (b.length - q) (b.drop q) ∧ r < w.heap.size ∧ q ≤ b.length ∧ b.length ≤ 1000000
theorem PC.lt (h : PC w g r b q e) : g < w.heap.size := by obtain ⟨_, _, h, _⟩ := h; exact h.lt
theorem PC.rlt (h : PC w g r b q e) : r < w.heap.size := by obtain ⟨_, _, _, _, _, h, _⟩ := h; exact h
theorem PC.bounds (h : PC w g r b q e) : q ≤ b.length ∧ b.length ≤ 1000000 := by obtain ⟨_, _, _, _, _, _, h⟩ := h; exact h
theorem PC.ext (h : PC w g r b q e) (hE : Ext w w') : PC w' g r b q e := by
  obtain ⟨A, c, hW, hc, hR, hr, h⟩ := h
  exact ⟨A, c, hW.ext hE, hc, hR.at (hE.block r hr), Nat.lt_of_lt_of_le hr hE.le, h⟩
theorem PC.cells (h : PC w g r b q e) : ∃ A c, w.cell? ⟨g, 0, none⟩ = some (.slice A (b.length - q) c) ∧ w.cell? ⟨g, 1, none⟩ = some (.int .i64 (q : Int)) ∧ w.cell? ⟨g, 2, none⟩ = some (.int .i64 e) ∧
    w.frozen? ⟨g, 0, none⟩ = false ∧ w.frozen? ⟨g, 1, none⟩ = false ∧ w.frozen? ⟨g, 2, none⟩ = false ∧ b.length - q ≤ c ∧ RowIn w g r A (b.length - q) (b.drop q) := by
  obtain ⟨A, c, hW, hc, hR, _⟩ := h
  exact ⟨A, c, hW.cell 0, hW.cell 1, hW.cell 2, hW.frozen 0, hW.frozen 1, hW.frozen 2, hc, hR⟩
/-- The error is stored. -/
theorem PC.setErr {e' : Int} (h : PC w g r b q e) : PC (w.setCell ⟨g, 2, none⟩ (.int .i64 e')) g r b q e' := by
  obtain ⟨A, c, hW, hc, hR, hr, h⟩ := h
  exact ⟨A, c, hW.set 2 _, hc, hR.mod (ob := none) (Mod.ofRow (grown_setCell w g 2 _)) hr (by simp), by simpa using hr, h⟩
end

/-- A function that has a body is entered, whatever value holds it. -/
def Entered (K : Nat) : Prop := ∀ (args : Array Value) (W : World), (callFunc K args).run Try.prog W = .ok (.enter K args) W
theorem entered_of {K : Nat} {fn : Func} {c : Code} (hf : Try.prog.funcs[K]? = some fn) (hname : (fn.name == "runtime.NumGoroutine") = false) (hb : fn.body = some c) : Entered K := by
  intro args W
  have h1 : fn.name ≠ "runtime.NumGoroutine" := by simpa using hname
  simp [callFunc, hf, h1, hb]

/-- The cursor's calls go on, if there is no error so far. -/
theorem read_any {w : World} {g r q K : Nat} {b : List UInt8} {cap : Array Value} (hK : Entered K) (h : PC w g r b q 0) {R : Int → World → Prop}
    (hC : Calls Try.prog K cap w fun e' w' => ∃ er q', e' = .returned (.int .i64 er) ∧ PC w' g r b q' 0 ∧ R er w') :
    Calls Try.prog 75 #[.pointer (some ⟨g, 0, none⟩), .func (.func K) #[] cap] w fun e' w' => e' = .returned (.tuple #[]) ∧ ∃ er q' w2, PC w2 g r b q' 0 ∧ R er w2 ∧ w' = w2.setCell ⟨g, 2, none⟩ (.int .i64 er) := by
  obtain ⟨A, c, c0, c1, c2, f0, f1, f2, hc, hR⟩ := h.cells
  have hE := fun W => hK cap W
  clear h c0 c1 f0 f1 f2 hc hR
  go_enter Try.func75, Try.ntmps75
  go_wp2_with fail
  refine hC.mono ?_
  rintro e' w2 ⟨er, q', rfl, hP, hr⟩
  obtain ⟨_, _, _, _, d2, _, _, k2, _, _⟩ := hP.cells
  go_wp2
  go_end0
  exact ⟨rfl, er, q', w2, hP, hr, rfl⟩

/-- There is an error: nothing goes on. -/
theorem read_stuck {w : World} {g r q K : Nat} {b : List UInt8} {cap : Array Value} {e : Int} (h : PC w g r b q e) (he : e ≠ 0) :
    Calls Try.prog 75 #[.pointer (some ⟨g, 0, none⟩), .func (.func K) #[] cap] w fun e' w' => e' = .returned (.tuple #[]) ∧ w = w' := by
  obtain ⟨A, c, c0, c1, c2, f0, f1, f2, hc, hR⟩ := h.cells
  have he' : (e != 0) = true := by simpa using he
  clear h c0 c1 f0 f1 f2 hc hR he
  go_enter Try.func75, Try.ntmps75
  go_wp2
  refine bodyPost_ret (results_none rfl _ _ _) rfl ?_
  exact ⟨rfl, rfl⟩

/-- There is no cursor: nothing goes on. -/
theorem read_nil {w : World} {K : Nat} {cap : Array Value} :
    Calls Try.prog 75 #[.pointer none, .func (.func K) #[] cap] w fun e' w' => e' = .returned (.tuple #[]) ∧ w = w' := by
  go_enter Try.func75, Try.ntmps75
  go_wp2
  refine bodyPost_ret (results_none rfl _ _ _) rfl ?_
  exact ⟨rfl, rfl⟩
end Go.Proofs.Ytkgkppblkdihkaa

namespace Go.Proofs.Ytkgkppblkdihkaa
open Go.RowKit Rcs

attribute [local go_sem ↓] run_txtAt run_txtLen run_txtCut
set_option maxHeartbeats 2000000 in
set_option maxRecDepth 100000 in
theorem pWeight17_any (A : Option Addr) (n c : Nat) (l : List Rc) (w : World) (h : RcsAt w w.heap.size A n l) (hw : weightE l ≤ 1099511627776) : Calls Try.prog 16 #[.slice A n c] w fun e w' => e = .returned (.int .i64 (weightE l : Int)) ∧ Ext w w' := by
  have hl := h.1
  have HW := hide (fun (i : Nat) (hi : i < n) => weight_step (l := l) (i := i) (by omega))
  have HW0 := hide (show weightE (l.take 0) = 0 by simp [weightE])
  have HWn := hide (show weightE (l.take n) = weightE l by rw [List.take_of_length_le (by omega)])
  have HLe := hide (fun i => Nat.le_trans (weight_take l i) hw)
  have HA := hide h
  have hn : n ≤ 68719476736 := by have := weight_len l; omega
  generalize weightE l = res at *
  clear h hl hw
  go_enter Try.func16, Try.ntmps16
  go_wp2
  go_loopw [8, 3] (fun x y wr => ∃ i sum : Nat, i ≤ n ∧ x = .int .i64 (i : Int) ∧ y = .int .i64 (sum : Int) ∧ sum = weightE (l.take i) ∧ Ext w wr) (fun x _ _ => n - (intOf x).toNat)
  case atStart => exact ⟨0, 0, by omega, rfl, rfl, HW0.out.symm, Ext.refl _⟩
  case round =>
    obtain ⟨i, sum, hi, rfl, rfl, hs, hE⟩ := hrel
    have HE := hide hE
    by_cases hlt : i < n
    · have hiI : (i : Int) < (n : Int) := by omega
      rcases (HA.out.later hE).2.1 with hn0 | ⟨b1, o1, rfl, _, hc1⟩
      · omega
      obtain ⟨e0, e1, e2, e3⟩ := hc1 i hlt
      have hs1 := HLe.out (i + 1)
      rw [HW.out i hlt, ← hs] at hs1
      have HSn := hide (HW.out i hlt)
      rw [← hs] at HSn
      obtain ⟨r, hr⟩ : ∃ r, r = l.getD i default := ⟨_, rfl⟩
      rw [← hr] at e0 e1 e2 e3 hs1 HSn
      have hET := extNew wr (.cells #[.int .u64 (r.time : Int), .int .u8 (r.lv.toNat : Int), .string ⟨r.src.toArray⟩, .string ⟨r.text.toArray⟩] 42)
      have hWT := Whole.new wr 42 #[.int .u64 (r.time : Int), .int .u8 (r.lv.toNat : Int), .string ⟨r.src.toArray⟩, .string ⟨r.text.toArray⟩]
      have f0 := hWT.cell 2
      have f1 := hWT.cell 3
      clear hc1 hr hs hE
      go_wp2
      go_roundw
      case rel => exact ⟨i + 1, sum + 16 + r.src.length + r.text.length, by omega, by go_num, by congr 1; omega, HSn.out.symm, HE.out.trans hET⟩
      case measure => simp [intOf]; omega
    · have hiI : ¬ (i : Int) < (n : Int) := by omega
      obtain rfl : i = n := by omega
      have HS := hide hs
      rw [HWn.out] at HS
      clear hlt hs
      go_wp2
      go_ret
      exact ⟨by rw [HS.out]; rfl, hE⟩

set_option maxHeartbeats 2000000 in
set_option maxRecDepth 100000 in
theorem pIsLong_any (r : Rc) (w : World) : Calls Try.prog 32 #[rcV r] w fun e w' => e = .returned (.bool (decide (4000 < r.src.length ∨ 4000 < r.text.length))) ∧ Ext w w' := by
  have hET := extNew w (.cells #[.int .u64 (r.time : Int), .int .u8 (r.lv.toNat : Int), .string ⟨r.src.toArray⟩, .string ⟨r.text.toArray⟩] 42)
  have hWT := Whole.new w 42 #[.int .u64 (r.time : Int), .int .u8 (r.lv.toNat : Int), .string ⟨r.src.toArray⟩, .string ⟨r.text.toArray⟩]
  have f0 := hWT.cell 2
  have f1 := hWT.cell 3
  unfold rcV
  by_cases h1 : 4000 < r.src.length
  · have h1I : (4000 : Int) < (r.src.length : Int) := by omega
    rw [decide_eq_true (.inl h1)]
    clear h1
    go_enter Try.func32, Try.ntmps32
    go_wp2
    go_ret
    exact ⟨rfl, hET⟩
  · have h1I : ¬ (4000 : Int) < (r.src.length : Int) := by omega
    by_cases h2 : 4000 < r.text.length
    · have h2I : (4000 : Int) < (r.text.length : Int) := by omega
      rw [decide_eq_true (.inr h2)]
      clear h1 h2
      go_enter Try.func32, Try.ntmps32
      go_wp2
      go_ret
      exact ⟨rfl, hET⟩
    · have h2I : ¬ (4000 : Int) < (r.text.length : Int) := by omega
      rw [decide_eq_false (by omega)]
      clear h1 h2
      go_enter Try.func32, Try.ntmps32
      go_wp2
      go_ret
      exact ⟨rfl, hET⟩

/-- The first record that p holds of, -1: none. -/
def Rcs.idxE (p : Rc → Bool) (l : List Rc) : Int := if l.findIdx p < l.length then (l.findIdx p : Int) else -1
theorem Rcs.idx_at {p : Rc → Bool} {l : List Rc} {i : Nat} (hi : i < l.length) (h : ∀ j, j < i → p (l.getD j default) = false) (hp : p (l.getD i default) = true) : idxE p l = (i : Int) := by
  have e : l.findIdx p = i := by
    rw [List.findIdx_eq hi]
    rw [List.getD_eq_getElem?_getD, List.getElem?_eq_getElem hi] at hp
    refine ⟨hp, fun j hj => ?_⟩
    have := h j hj
    rw [List.getD_eq_getElem?_getD, List.getElem?_eq_getElem (by omega)] at this
    simpa using this
  unfold idxE
  rw [e, if_pos hi]
theorem Rcs.idx_none {p : Rc → Bool} {l : List Rc} (h : ∀ j, j < l.length → p (l.getD j default) = false) : idxE p l = -1 := by
  have e : l.findIdx p = l.length := by
    rw [List.findIdx_eq_length]
    intro x hx
    obtain ⟨j, hj, rfl⟩ := List.getElem_of_mem hx
    have := h j hj
    rw [List.getD_eq_getElem?_getD, List.getElem?_eq_getElem hj] at this
    simpa using this
  unfold idxE
  rw [e, if_neg (by omega)]

set_option maxHeartbeats 2000000 in
set_option maxRecDepth 100000 in
theorem indexRc_any {K : Nat} (hK : Entered K) {cap : Array Value} {p : Rc → Bool} (A : Option Addr) (n c : Nat) (l : List Rc) (w : World) (h : RcsAt w w.heap.size A n l) (hn : n ≤ maxLen) (hp : ∀ i W, i < n → Ext w W → Calls Try.prog K (#[rcV (l.getD i default)] ++ cap) W fun e W' => e = .returned (.bool (p (l.getD i default))) ∧ Ext W W') :
    Calls Try.prog 54 #[.slice A n c, .func (.func K) #[] cap] w fun e w' => e = .returned (.int .i64 (idxE p l)) ∧ Ext w w' := by
  have hEn := fun args W => hK args W
  have hl := h.1
  have HAt := hide (fun (i : Nat) (hi : i < n) => idx_at (p := p) (l := l) (i := i) (by omega))
  have HNo := hide (fun hx => idx_none (p := p) (l := l) hx)
  rw [hl] at HNo
  have HP := hide hp
  have HA := hide h
  unfold maxLen at hn
  generalize idxE p l = res at *
  clear h hl hp
  go_enter Try.func54, Try.ntmps54
  go_wp2
  go_loopw [8] (fun x wr => ∃ i : Nat, i ≤ n ∧ x = .int .i64 (i : Int) ∧ (∀ j, j < i → p (l.getD j default) = false) ∧ Ext w wr) (fun x _ => n - (intOf x).toNat)
  case atStart => exact ⟨0, by omega, rfl, fun j hj => absurd hj (by omega), Ext.refl _⟩
  case round =>
    obtain ⟨i, hi, rfl, hall, hE⟩ := hrel
    have HE := hide hE
    have HAll := hide hall
    clear hall
    by_cases hlt : i < n
    · have hiI : (i : Int) < (n : Int) := by omega
      rcases (HA.out.later hE).2.1 with hn0 | ⟨b1, o1, rfl, _, hc1⟩
      · omega
      obtain ⟨e0, e1, e2, e3⟩ := hc1 i hlt
      have C := HP.out i wr hlt hE
      have HAi := hide (HAt.out i hlt HAll.out)
      have HNx := hide (show p (l.getD i default) = false → ∀ j, j < i + 1 → p (l.getD j default) = false from fun h1 j hj => by
        by_cases e : j = i
        · rw [e]; exact h1
        · exact HAll.out j (by omega))
      obtain ⟨r, hr⟩ : ∃ r, r = l.getD i default := ⟨_, rfl⟩
      rw [← hr] at e0 e1 e2 e3 C HAi HNx
      obtain ⟨b, hb⟩ : ∃ b, b = p r := ⟨_, rfl⟩
      rw [← hb] at C HAi HNx
      unfold rcV at C
      clear hc1 hr hE hb
      cases b with
      | true =>
        go_wp2_with fail
        refine C.mono ?_
        rintro e w1 ⟨rfl, hE1⟩
        go_wp2
        go_ret
        rw [HAi.out trivial]
        exact ⟨rfl, HE.out.trans hE1⟩
      | false =>
        go_wp2_with fail
        refine C.mono ?_
        rintro e w1 ⟨rfl, hE1⟩
        go_wp2
        go_roundw
        case rel => exact ⟨i + 1, by omega, by go_num, HNx.out trivial, HE.out.trans hE1⟩
        case measure => simp [intOf]; omega
    · have hiI : ¬ (i : Int) < (n : Int) := by omega
      obtain rfl : i = n := by omega
      have HR := hide (HNo.out HAll.out)
      clear hlt
      go_wp2
      go_ret
      rw [HR.out]
      exact ⟨rfl, hE⟩

set_option maxHeartbeats 2000000 in
set_option maxRecDepth 100000 in
theorem containsRc_any {K : Nat} (hK : Entered K) {cap : Array Value} {p : Rc → Bool} (A : Option Addr) (n c : Nat) (l : List Rc) (w : World) (h : RcsAt w w.heap.size A n l) (hn : n ≤ maxLen) (hp : ∀ i W, i < n → Ext w W → Calls Try.prog K (#[rcV (l.getD i default)] ++ cap) W fun e W' => e = .returned (.bool (p (l.getD i default))) ∧ Ext W W') :
    Calls Try.prog 31 #[.slice A n c, .func (.func K) #[] cap] w fun e w' => e = .returned (.bool (l.any p)) ∧ Ext w w' := by
  have C := indexRc_any hK A n c l w h hn hp
  have HR := hide (show l.any p = decide (0 ≤ idxE p l) from by
    unfold idxE
    by_cases hx : l.findIdx p < l.length
    · rw [if_pos hx, decide_eq_true (by omega)]
      exact List.any_eq_true.2 ⟨_, List.getElem_mem hx, List.findIdx_getElem (w := hx)⟩
    · rw [if_neg hx, decide_eq_false (by omega), List.any_eq_false]
      rw [Nat.not_lt] at hx
      have := List.findIdx_eq_length.1 (Nat.le_antisymm List.findIdx_le_length hx)
      simpa using this)
  generalize idxE p l = k at *
  clear h hp
  go_enter Try.func31, Try.ntmps31
  go_wp2_with fail
  refine C.mono ?_
  rintro e w1 ⟨rfl, hE1⟩
  go_wp2
  go_ret
  rw [HR.out]
  exact ⟨rfl, hE1⟩

theorem entered_isLong : Entered 32 := entered_of Try.func32 (by kernel_rfl) rfl
set_option maxHeartbeats 2000000 in
set_option maxRecDepth 100000 in
theorem pCheck17_any (A : Option Addr) (n c : Nat) (l : List Rc) (w : World) (hn : n ≤ maxLen) (h : RcsAt w w.heap.size A n l) : Calls Try.prog 13 #[.slice A n c] w fun e w' => e = .returned (.int .i64 (checkE l)) ∧ Ext w w' := by
  have hl := h.1
  by_cases hbig : 20000 < n
  · have hbI : (20000 : Int) < (n : Int) := by omega
    have hc : checkE l = 6 := by unfold checkE; rw [if_neg (by omega)]
    rw [hc]
    clear hc hl hbig h
    go_enter Try.func13, Try.ntmps13
    go_wp2
    go_ret
    exact ⟨rfl, Ext.refl _⟩
  have hbI : ¬ (20000 : Int) < (n : Int) := by omega
  have C1 := containsRc_any (p := fun r => decide (4000 < r.src.length ∨ 4000 < r.text.length)) (cap := #[]) entered_isLong A n c l w h hn (fun i W _ _ => pIsLong_any _ W)
  obtain ⟨b, hb⟩ : ∃ b, b = l.any (fun r => decide (4000 < r.src.length ∨ 4000 < r.text.length)) := ⟨_, rfl⟩
  rw [← hb] at C1
  cases b with
  | true =>
    have hc : checkE l = 6 := by
      obtain ⟨r, h1, h2⟩ := List.any_eq_true.1 hb.symm
      have h2 := of_decide_eq_true h2
      unfold checkE
      rw [if_neg]
      rintro ⟨_, h3, _⟩
      have := h3 r h1
      omega
    rw [hc]
    clear hc hl hb hbig h
    go_enter Try.func13, Try.ntmps13
    go_wp2_with fail
    refine C1.mono ?_
    rintro e w1 ⟨rfl, hE1⟩
    go_wp2
    go_ret
    exact ⟨rfl, hE1⟩
  | false =>
    have hall : ∀ r ∈ l, r.src.length ≤ 4000 ∧ r.text.length ≤ 4000 := fun r hr => by
      have := List.any_eq_false.1 hb.symm r hr
      have : ¬ (4000 < r.src.length ∨ 4000 < r.text.length) := by simpa using this
      omega
    have hwt : ∀ m : List Rc, (∀ r ∈ m, r.src.length ≤ 4000 ∧ r.text.length ≤ 4000) → weightE m ≤ 8016 * m.length := by
      intro m hm
      induction m with
      | nil => simp [weightE]
      | cons a t ih =>
        have h1 := ih (fun r hr => hm r (by simp [hr]))
        have h2 := hm a (by simp)
        unfold weightE at h1 ⊢
        rw [List.map_cons, List.sum_cons, List.length_cons]
        omega
    have hw := hwt l hall
    have HC := hide (show checkE l = if 1048576 < weightE l then 6 else 0 from by
      unfold checkE
      by_cases hx : 1048576 < weightE l
      · rw [if_pos hx, if_neg (by omega)]
      · rw [if_neg hx, if_pos ⟨by omega, hall, by omega⟩])
    have C2 := fun W (hE : Ext w W) => pWeight17_any A n c l W (h.later hE) (by omega)
    rw [HC.out]
    clear HC hall hwt hw hb hbig h hl
    generalize weightE l = wl at *
    by_cases hx : 1048576 < wl
    · have hxI : (1048576 : Int) < (wl : Int) := by omega
      rw [if_pos hx]
      clear hx
      go_enter Try.func13, Try.ntmps13
      go_wp2_with fail
      refine C1.mono ?_
      rintro e w1 ⟨rfl, hE1⟩
      have C3 := C2 w1 hE1
      go_wp2_with fail
      refine C3.mono ?_
      rintro e w2 ⟨rfl, hE2⟩
      go_wp2
      go_ret
      exact ⟨rfl, hE1.trans hE2⟩
    · have hxI : ¬ (1048576 : Int) < (wl : Int) := by omega
      rw [if_neg hx]
      clear hx
      go_enter Try.func13, Try.ntmps13
      go_wp2_with fail
      refine C1.mono ?_
      rintro e w1 ⟨rfl, hE1⟩
      have C3 := C2 w1 hE1
      go_wp2_with fail
      refine C3.mono ?_
      rintro e w2 ⟨rfl, hE2⟩
      go_wp2
      go_ret
      exact ⟨rfl, hE1.trans hE2⟩
end Go.Proofs.Ytkgkppblkdihkaa

namespace Go.Proofs.Ytkgkppblkdihkaa
open Go.RowKit

/-- A slice of slices that reads as these rows of bytes. -/
def Parts (w : World) (B : Nat) (A : Option Addr) (n : Nat) (ls : List (List UInt8)) : Prop :=
  ls.length = n ∧ (n = 0 ∨ ∃ b off, A = some ⟨b, off, none⟩ ∧ b < B ∧ ∀ i, i < n → ∃ A' n' c', w.cell? ⟨b, off + i, none⟩ = some (.slice A' n' c') ∧ n' ≤ maxLen ∧ Bytes w B A' n' (ls.getD i []))

end Go.Proofs.Ytkgkppblkdihkaa

namespace Go.Proofs.Ytkgkppblkdihkaa
open Go.RowKit

theorem wpList_zerosAt {o : Oper} {a : Act} {Q : Exit → Act → World → Prop} {w : World} {base : Nat} {v : Value} {l : List UInt8} {ops : Array Oper} {rest : List Oper} (hgd : o.guard = none) (s x : Operand) (ho : o.op = .call { callee := .builtin .append, args := #[s, x], argTypes := #[32, 3] }) (hs : a.eval s = v) (hown : OwnB w base v l)
    (n : Nat) (hx : a.eval x = .int .i64 n) (hlen : l.length + n ≤ 140737488355328) (hbase : base ≤ w.heap.size)
    (h : ∀ v' w', OwnB w' base v' (l ++ List.replicate n 0) → w.grownBy w' v.ownBlock → NewOb w v.ownBlock v'.ownBlock → wpList Try.prog ops Q rest (a.put o.dst v') w') : wpList Try.prog ops Q (o :: rest) a w :=
  wpList_plain hgd fun _ hK => wp_zerosAt s x ho hs hown n hx hlen hbase fun v' w' h2 h3 h4 => hK _ _ (h v' w' h2 h3 h4)
theorem OwnB.cut0 {w : World} {base g n c : Nat} {l : List UInt8} (h : OwnB w base (.slice (some ⟨g, 0, none⟩) n c) l) : OwnB w base (.slice (some ⟨g, 0, none⟩) 0 c) [] := by
  refine ⟨rfl, ?_⟩
  rcases h.2 with ⟨h0, _⟩ | ⟨x, cap, cur, hv, hb, hx, hn, hm, hs, _⟩
  · cases h0
  · simp only [Value.slice.injEq, Option.some.injEq, Addr.mk.injEq, and_true] at hv
    obtain ⟨rfl, _, rfl⟩ := hv
    exact .inr ⟨g, c, cur, rfl, hb, hx, by simp, hm, hs, by simp⟩

set_option maxHeartbeats 1000000 in
set_option maxRecDepth 100000 in
theorem growNil_any (n : Nat) (w : World) (hn : n ≤ 1000000000) : Calls Try.prog 73 #[.slice none 0 0, .int .i64 (n : Int)] w (MadeB w []) := by
  have hnil := OwnB.nil w w.heap.size
  have hfit : ([] : List UInt8).length + n ≤ 140737488355328 := by simp; omega
  by_cases h0 : n = 0
  · subst h0
    go_enter Try.func73, Try.ntmps73
    go_wp2
    go_ret
    exact ⟨_, rfl, hnil, Ext.refl _⟩
  · have h1 : (0 : Int) < (n : Int) := by omega
    have h2 : ¬ ((n : Int) < 0) := by omega
    clear h0
    go_enter Try.func73, Try.ntmps73
    go_wp2_with (at_builtin; refine wpList_zerosAt rfl (.tmp 20) (.tmp 21) rfl rfl hnil n rfl hfit (Nat.le_refl _) ?_; intro v2 w2 hO2 hG2 hN2; rw [List.nil_append] at hO2; obtain ⟨g, c, hv2, hg, hc⟩ := hO2.formG (by simp; omega); rw [List.length_replicate] at hv2 hc; subst hv2; have i1 : (0 : Int) ≤ (c : Int) := by omega)
    go_ret
    exact ⟨_, rfl, hO2.cut0, (Ext.refl w).grown' hG2⟩

theorem flat_take (ls : List (List UInt8)) (i : Nat) (h : i < ls.length) : (ls.take (i + 1)).flatten = (ls.take i).flatten ++ ls.getD i [] := by
  rw [List.take_succ_eq_append_getElem h, List.flatten_append, List.getD_eq_getElem?_getD, List.getElem?_eq_getElem h]
  simp
theorem flat_take_le (ls : List (List UInt8)) (i : Nat) : (ls.take i).flatten.length ≤ ls.flatten.length := by
  conv => rhs; rw [← List.take_append_drop i ls, List.flatten_append, List.length_append]
  omega

set_option maxHeartbeats 2000000 in
set_option maxRecDepth 100000 in
theorem concat_any (A : Option Addr) (c : Nat) (ls : List (List UInt8)) (w : World) (hb : Parts w w.heap.size A ls.length ls) (hm : ls.length ≤ 1000000000) (htot : ls.flatten.length ≤ 1000000000) :
    Calls Try.prog 61 #[.slice A ls.length c] w (MadeB w ls.flatten) := by
  obtain ⟨_, hb⟩ := hb
  rcases hb with h0 | ⟨blk, off, rfl, hB, hcs⟩
  · obtain rfl := List.eq_nil_of_length_eq_zero h0
    have C := growNil_any 0 w (by omega)
    go_enter Try.func61, Try.ntmps61
    go_wp2
    go_loop [3, 11] (fun s i => s = .int .i64 0 ∧ i = .int .i64 0) (fun _ _ => 0)
    case atStart => exact ⟨rfl, rfl⟩
    case round =>
      obtain ⟨rfl, rfl⟩ := hrel
      go_wp2_with fail
      refine C.mono ?_
      rintro e w2 ⟨v2, rfl, hO2, hE2⟩
      go_wp2
      go_loopw [6, 27] (fun v i wr => i = .int .i64 0 ∧ OwnB wr w.heap.size v [] ∧ Ext w wr) (fun _ _ _ => 0)
      case atStart => exact ⟨rfl, hO2, hE2⟩
      case round =>
        obtain ⟨rfl, hO3, hE3⟩ := hrel
        go_wp2
        go_ret
        exact ⟨_, rfl, hO3, hE3⟩
  · obtain ⟨T, hT⟩ : ∃ T, T = ls.flatten.length := ⟨_, rfl⟩
    have CG := fun W => growNil_any T W (by omega)
    have HC := hide hcs
    have HT := hide htot
    have HTe := hide hT
    clear hT htot
    clear hcs
    go_enter Try.func61, Try.ntmps61
    go_wp2
    go_loop [3, 11] (fun s i => ∃ j : Nat, j ≤ ls.length ∧ i = .int .i64 (j : Int) ∧ s = .int .i64 (((ls.take j).flatten.length : Nat) : Int)) (fun _ i => ls.length - (intOf i).toNat)
    case atStart => exact ⟨0, by omega, rfl, by simp⟩
    case round =>
      obtain ⟨j, hj, rfl, rfl⟩ := hrel
      by_cases hlt : j < ls.length
      · obtain ⟨A', n', c', hc1, _, hb1⟩ := HC.out j hlt
        have hf := flat_take ls j hlt
        have hle := flat_take_le ls (j + 1)
        have hn' := hb1.1
        rw [hf, List.length_append, hn'] at hle
        have ht := HT.out
        have HF := hide hf
        obtain ⟨s, hs⟩ : ∃ s, s = (ls.take j).flatten.length := ⟨_, rfl⟩
        rw [← hs] at hle ⊢
        have hw : IntKind.i64.wrap ((s : Int) + (n' : Int)) = ((s + n' : Nat) : Int) := by rw [IntKind.wrap_i64]; omega
        have hpos : ¬ (((s + n' : Nat) : Int) < 0) := by omega
        have HS := hide hs
        have HN := hide hn'
        clear hf hb1 hs hn' ht
        go_wp2
        go_round
        case rel => exact ⟨j + 1, by omega, by go_num, by rw [HF.out, List.length_append, HN.out, ← HS.out]; go_num⟩
        case measure => simp [intOf]; omega
      · obtain rfl : j = ls.length := by omega
        rw [List.take_length, ← HTe.out]
        go_wp2_with fail
        refine (CG _).mono ?_
        rintro e w2 ⟨v2, rfl, hO2, hE2⟩
        go_wp2
        go_loopw [6, 27] (fun v i wr => ∃ j : Nat, j ≤ ls.length ∧ i = .int .i64 (j : Int) ∧ OwnB wr w.heap.size v (ls.take j).flatten ∧ Ext w wr) (fun _ i _ => ls.length - (intOf i).toNat)
        case atStart => exact ⟨0, by omega, rfl, by simpa using hO2, hE2⟩
        case round =>
          obtain ⟨j, hj, rfl, hO3, hE3⟩ := hrel
          by_cases hlt : j < ls.length
          · obtain ⟨A', n', c', hc1, _, hb1⟩ := HC.out j hlt
            have hc2 := (hE3.cell (i := off + j) hB).trans hc1
            have hb2 := hE3.bytes hb1
            have hf := flat_take ls j hlt
            have hle := flat_take_le ls (j + 1)
            rw [hf, List.length_append, hb1.1] at hle
            have HF := hide hf
            have hfit : (ls.take j).flatten.length + n' ≤ 140737488355328 := by have := HT.out; omega
            have hB3 := hE3.le
            clear hf hb1 hle hc1
            go_wp2_with (at_builtin; refine wpList_appAt rfl (.tmp 31) (.tmp 32) rfl rfl hO3 rfl hb2 hfit hB3 ?_; intro v4 w4 hO4 hG4 _)
            go_roundw
            case rel => exact ⟨j + 1, by omega, by go_num, by rw [HF.out]; exact hO4, hO3.below hE3 hG4 hB3⟩
            case measure => simp [intOf]; omega
          · obtain rfl : j = ls.length := by omega
            rw [List.take_length] at hO3
            go_wp2
            go_ret
            exact ⟨_, rfl, hO3, hE3⟩

theorem all_any (A : Option Addr) (c : Nat) (ls : List (List UInt8)) (w : World) (hb : Parts w w.heap.size A ls.length ls) (hm : ls.length ≤ 1000000000) (htot : ls.flatten.length ≤ 1000000000) :
    Calls Try.prog 44 #[.slice A ls.length c] w (MadeB w ls.flatten) := by
  have C := concat_any A c ls w hb hm htot
  clear hb
  go_enter Try.func44, Try.ntmps44
  go_wp2_with fail
  refine C.mono ?_
  rintro e w2 ⟨v2, rfl, hO2, hE2⟩
  go_wp2
  go_ret
  exact ⟨_, rfl, hO2, hE2⟩
end Go.Proofs.Ytkgkppblkdihkaa

