/- The program's Columns of chapter 17: timeBytes, alike, levelBytes. Columns are read of their first bytes alone: plain mathematics of chapter 17. The closures that go on last: they tell what was read and take the bytes ahead. The row's reading methods: number, first. The row's reading methods: first, count, fixed, text. The row's reading methods: count, fixed, text. Regions that draw their order, where one call stands behind all that is read: what is asked of the world holds till that call, not behind it. Regions that draw their order: an operation that asks nothing of the world may be taken at any time. What goes on in each of the cursor's reading calls: the number. The program's cursor: Num, whatever its state. The contract of the library's slices.Clone at bytes. The program's cursor: New, Left, At, Err, Fail, End. -/
import Derived.Test.YtkgkppblkdihkaaB01
import Derived.Test.YtkgkppblkdihkaaB03
import Derived.Test.YtkgkppblkdihkaaB04
import Derived.BigQuiet
import Derived.Deep.QuietTactic
import Derived.Deep.RegionLaw
import Derived.StillTailTactics
import Derived.OrdersHeld
import Derived.StillTail
import Derived.RegionTactic
import Derived.Lib.SliceRun
namespace Go.Proofs.Ytkgkppblkdihkaa
open Go.RowKit Rcs Num

set_option maxHeartbeats 4000000 in
set_option maxRecDepth 100000 in
theorem pTimeBytes_any (A : Option Addr) (n c : Nat) (l : List Rc) (w : World) (h : RcsAt w w.heap.size A n l) (hn : n ≤ 20000) : Calls Try.prog 45 #[.slice A n c] w (MadeB w (timesB 0 l)) := by
  have hl := h.1
  have HOk := hide (fun (i : Nat) (hi : i < n) => (h.okAt hi).1)
  have HTs := hide (fun (i was : Nat) (hi : i < n) => times_step (l := l) (i := i) (was := was) (by omega))
  have HTe := hide (show ∀ was, timesB was (l.drop n) = [] from fun was => by rw [List.drop_eq_nil_of_le (by omega)]; rfl)
  have HT0 := hide (show timesB 0 l = [] ++ timesB 0 (l.drop 0) from rfl)
  have HTl := hide (show (timesB 0 l).length ≤ 200000 by have := times_len l 0; omega)
  have HA := hide h
  unfold MadeB
  obtain ⟨T, hT⟩ : ∃ T, T = timesB 0 l := ⟨_, rfl⟩
  rw [← hT] at HT0 HTl ⊢
  clear h hl hT
  go_enter Try.func45, Try.ntmps45
  go_wp2
  go_loopw [9, 3, 4] (fun x v y wr => ∃ (i was : Nat) (X : List UInt8), i ≤ n ∧ x = .int .i64 (i : Int) ∧ y = .int .u64 (was : Int) ∧ was < 2 ^ 64 ∧ OwnB wr w.heap.size v X ∧ T = X ++ timesB was (l.drop i) ∧ Ext w wr) (fun x _ _ _ => n - (intOf x).toNat)
  case atStart => exact ⟨0, 0, [], by omega, rfl, rfl, by decide, OwnB.nil _ _, HT0.out, Ext.refl _⟩
  case round =>
    clear HT0
    obtain ⟨i, was, X, hi, rfl, rfl, hwas, hO, hT, hE⟩ := hrel
    have HE := hide hE
    by_cases hlt : i < n
    · have hiI : (i : Int) < (n : Int) := by omega
      rcases (HA.out.later hE).2.1 with hn0 | ⟨b1, o1, rfl, _, hc1⟩
      · omega
      obtain ⟨e0, e1, e2, e3⟩ := hc1 i hlt
      rw [HTs.out i was hlt] at hT
      have ht64 := HOk.out i hlt
      obtain ⟨r, hr⟩ : ∃ r, r = l.getD i default := ⟨_, rfl⟩
      rw [← hr] at e0 e1 e2 e3 hT ht64
      have HTi := hide hT
      have hXl : X.length ≤ 200000 := by have h1 := HTl.out; rw [hT, List.length_append] at h1; omega
      have hsw := sub64_wrap ht64 hwas
      have hs64 := sub_lt r.time was
      have CZ := fun W => ownZig_any (sub64 r.time was) W (by omega)
      have CN := fun W => ownNum_any (zig (sub64 r.time was)) W (by have := zig_lt hs64; omega)
      obtain ⟨d, hd⟩ : ∃ d, d = sub64 r.time was := ⟨_, rfl⟩
      rw [← hd] at hsw CZ CN HTi
      obtain ⟨Z, hZ⟩ : ∃ Z, Z = enc (zig d) := ⟨_, rfl⟩
      have hZl : Z.length ≤ 10 := by rw [hZ]; exact enc_len _
      rw [← hZ] at CN HTi
      obtain ⟨w1, hw1⟩ : ∃ w1, w1 = wr.alloc (.cells #[.int .u64 (r.time : Int), .int .u8 (r.lv.toNat : Int), .string ⟨r.src.toArray⟩, .string ⟨r.text.toArray⟩] 42) := ⟨_, rfl⟩
      have hE1 : Ext wr w1 := by rw [hw1]; exact extNew wr _
      have hW1 : Whole w1 wr.heap.size 42 #[.int .u64 (r.time : Int), .int .u8 (r.lv.toNat : Int), .string ⟨r.src.toArray⟩, .string ⟨r.text.toArray⟩] := by rw [hw1]; exact Whole.new wr _ _
      have HB1 := hide (show Beside w1 wr.heap.size 42 #[.int .u64 (r.time : Int), .int .u8 (r.lv.toNat : Int), .string ⟨r.src.toArray⟩, .string ⟨r.text.toArray⟩] u3 from ⟨hW1, fun e => by have := (hO.lt _ e).2; omega⟩)
      have HE1 := hide (HE.out.trans hE1)
      have HO1 := hide (hO.ext hE1)
      have d10 := HB1.out.1.at 0 (u := .int .u64 (r.time : Int)) rfl
      generalize zig d = zz at *
      clear hc1 hr hT hd hZ hO hE hwas hE1 hW1
      go_wp2_with fail
      rw [← hw1]
      clear hw1
      refine (CZ _).mono ?_
      rintro e w' ⟨rfl, rfl⟩
      go_wp2_with fail
      refine (CN _).mono ?_
      rintro e w4 ⟨v4, rfl, hO4, hE4⟩
      obtain ⟨A4, c4, hv4, -, -, q4⟩ := hO4.form
      obtain ⟨m4, hm4⟩ : ∃ m, m = Z.length := ⟨_, rfl⟩
      rw [← hm4] at hv4 q4
      have HM4 := hide hm4
      have HQ4 := hide q4
      have HE4 := hide (HE1.out.trans hE4)
      have HO4 := hide (HO1.out.ext hE4)
      have HB4 := hide (HB1.out.ext hE4)
      subst hv4
      clear hO4 q4 hm4 hE4 CZ CN e0 e1 e2 e3 d10 hs64 hsw
      go_wp2_with (at_builtin; refine wpList_appAt rfl (.tmp 13) (.tmp 19) rfl rfl HO4.out rfl HQ4.out (by have := HM4.out; omega) HE4.out.le ?_; intro v5 w5 hO5 hG5 hN5; have HO5 := hide hO5; have HE5 := hide (show Ext w w5 from Below.grown HE4.out hG5 HE4.out.le (fun k hk => (HO4.out.lt k hk).1)); have d50 := (HB4.out.grown hG5 hN5).1.at 0 (u := .int .u64 (r.time : Int)) rfl; clear hO5 hG5 hN5)
      go_roundw
      case rel => exact ⟨i + 1, r.time, X ++ Z, by omega, by go_num, rfl, ht64, HO5.out, by rw [HTi.out, List.append_assoc], HE5.out⟩
      case measure => simp [intOf]; omega
    · have hiI : ¬ (i : Int) < (n : Int) := by omega
      have hin : i = n := by omega
      rw [hin, HTe.out, List.append_nil] at hT
      subst hT
      clear hlt hin
      go_wp2
      go_ret
      exact ⟨_, rfl, hO, hE⟩

theorem Rcs.idx_row (x : UInt8) : ∀ l : List Rc, l.findIdx (fun r => r.lv != x) = rowN x l
  | [] => rfl
  | r :: t => by
    rw [List.findIdx_cons, rowN, idx_row x t]
    by_cases h : r.lv = x
    · simp [h]
    · have : (r.lv != x) = true := by simpa using h
      rw [this, if_neg h]
      rfl
theorem Rcs.levels_apart {x : UInt8} {u : List Rc} (h : ∀ r, u.head? = some r → r.lv ≠ x) : levelsB (some x) u = levelsB none u := by
  cases u with
  | nil => rfl
  | cons r t =>
    have := h r rfl
    rw [levelsB, levelsB, if_neg (by intro e; injection e with e; exact this e.symm), if_neg (by simp)]
theorem Rcs.levels_row {l : List Rc} (h : 0 < l.length) : 0 < rowN (l.getD 0 default).lv l ∧ levelsB none l = ((l.getD 0 default).lv :: enc (rowN (l.getD 0 default).lv l)) ++ levelsB none (l.drop (rowN (l.getD 0 default).lv l)) := by
  cases l with
  | nil => simp at h
  | cons r t =>
    obtain ⟨g1, _, g3⟩ := levels_run r.lv t
    have e : (r :: t).getD 0 default = r := rfl
    rw [e, rowN, if_pos rfl, List.drop_succ_cons, levelsB, if_neg (by simp), g1, levels_apart g3]
    exact ⟨by omega, rfl⟩

attribute [local go_sem ↓] run_txtAt run_txtLen run_txtCut
theorem entered_alike1 : Entered 74 := entered_of Try.func74 (by kernel_rfl) rfl
set_option maxHeartbeats 2000000 in
set_option maxRecDepth 100000 in
theorem pAlike1_any (r : Rc) (B : Nat) (A : Option Addr) (n c : Nat) (l : List Rc) (w : World) (h : RcsAt w w.heap.size A n l) (h0 : 0 < n) (hB : w.cell? ⟨B, 0, none⟩ = some (.slice A n c)) : Calls Try.prog 74 #[rcV r, .pointer (some ⟨B, 0, none⟩)] w fun e w' => e = .returned (.bool (r.lv != (l.getD 0 default).lv)) ∧ Ext w w' := by
  have hET := extNew w (.cells #[.int .u64 (r.time : Int), .int .u8 (r.lv.toNat : Int), .string ⟨r.src.toArray⟩, .string ⟨r.text.toArray⟩] 42)
  have hWT := Whole.new w 42 #[.int .u64 (r.time : Int), .int .u8 (r.lv.toNat : Int), .string ⟨r.src.toArray⟩, .string ⟨r.text.toArray⟩]
  have f0 := hWT.at 1 (u := .int .u8 (r.lv.toNat : Int)) rfl
  have hBl : B < w.heap.size := World.block_lt_of_cell? w ⟨B, 0, none⟩ hB
  have hB1 := (hET.cell (i := 0) hBl).trans hB
  rcases (h.later hET).2.1 with hn0 | ⟨b1, o1, rfl, _, hc1⟩
  · omega
  obtain ⟨-, e1, -, -⟩ := hc1 0 h0
  rw [Nat.zero_mul, Nat.add_zero] at e1
  obtain ⟨x, hx⟩ : ∃ x, x = (l.getD 0 default).lv := ⟨_, rfl⟩
  rw [← hx] at e1 ⊢
  have h0I : (0 : Int) < (n : Int) := by omega
  have HRes := hide (show ((r.lv.toNat : Int) != (x.toNat : Int)) = (r.lv != x) by
    by_cases hh : r.lv = x
    · rw [hh]; simp
    · have h1 : (r.lv != x) = true := by simpa using hh
      have h2 : (r.lv.toNat : Int) ≠ (x.toNat : Int) := fun e => hh (UInt8.toNat_inj.1 (by omega))
      rw [h1]
      simpa using h2)
  unfold rcV
  clear h hc1 hx hB
  go_enter Try.func74, Try.ntmps74
  go_wp2_with fail
  go_quiet (fail)
  go_wp2
  go_ret
  exact ⟨ret_bool HRes.out, hET.drewN _⟩

set_option maxHeartbeats 2000000 in
set_option maxRecDepth 100000 in
theorem pAlike_any (A : Option Addr) (n c : Nat) (l : List Rc) (w : World) (h : RcsAt w w.heap.size A n l) (h0 : 0 < n) (hn : n ≤ maxLen) : Calls Try.prog 63 #[.slice A n c] w fun e w' => e = .returned (.int .i64 (rowN (l.getD 0 default).lv l : Int)) ∧ Ext w w' := by
  have hl := h.1
  have hE1 := extNew w (.cells #[.slice A n c] 22)
  have hc0 := cellNew w #[.slice A n c] 22 (0, 0) 0
  have HC := hide (fun W (hE : Ext (w.alloc (.cells #[.slice A n c] 22)) W) => (show W.cell? ⟨w.heap.size, 0, none⟩ = some (.slice A n c) from (hE.cell (by simp)).trans hc0))
  have C := indexRc_any (p := fun r => r.lv != (l.getD 0 default).lv) (cap := #[.pointer (some ⟨w.heap.size, 0, none⟩)]) entered_alike1 A n c l _ (h.later hE1) hn (fun i W _ hE => pAlike1_any _ w.heap.size A n c l W (h.later (hE1.trans hE)) h0 (HC.out W hE))
  unfold idxE at C
  rw [idx_row, hl] at C
  have hrun := run_le (l.getD 0 default).lv l
  rw [hl] at hrun
  generalize rowN (l.getD 0 default).lv l = k at *
  have HE1 := hide hE1
  clear h hl hc0 hE1
  by_cases hk : k < n
  · rw [if_pos hk] at C
    have hkI : ¬ (k : Int) < 0 := by omega
    clear hk
    go_enter Try.func63, Try.ntmps63
    go_wp2_with fail
    refine C.mono ?_
    rintro e w1 ⟨rfl, hE⟩
    go_wp2
    go_ret
    exact ⟨rfl, HE1.out.trans hE⟩
  · rw [if_neg hk] at C
    obtain rfl : k = n := by omega
    clear hk
    go_enter Try.func63, Try.ntmps63
    go_wp2_with fail
    refine C.mono ?_
    rintro e w1 ⟨rfl, hE⟩
    have hc1 := HC.out w1 hE
    go_wp2
    go_ret
    exact ⟨rfl, HE1.out.trans hE⟩

def cutR17 (a : Option Addr) (c k : Nat) : Option Addr := if c = k then a else a.map (·.add (k * 4))
theorem run_dropRc (W : World) (a : Option Addr) (n c : Nat) (k : IntKind) (l : Int) (h0 : 0 ≤ l) (h1 : l ≤ n) :
    (Instr.slice 22 (.slice a n c) (some (.int k l)) none none).run Try.prog W = .ok (.slice (cutR17 a c l.toNat) (n - l.toNat) (c - l.toNat)) W := by
  rw [run_slice_l (P := Try.prog) (w := W) 22 a n c (by kernel_rfl) k l h0 h1]
  have hs : (sizeOf (Try.prog.elem 22)).run Try.prog W = .ok 4 W := by kernel_rfl
  rw [hs]
  simp [Result.andThen, sliced, cutR17]
attribute [local go_sem ↓] run_dropRc
def sliceLenP17 : Value → Nat
  | .slice _ n _ => n
  | _ => 0

set_option maxHeartbeats 4000000 in
set_option maxRecDepth 100000 in
theorem pLevelBytes_any (A : Option Addr) (n c : Nat) (l : List Rc) (w : World) (hnc : n ≤ c) (h : RcsAt w w.heap.size A n l) (hn : n ≤ 20000) : Calls Try.prog 46 #[.slice A n c] w (MadeB w (levelsB none l)) := by
  have HLl := hide (show (levelsB none l).length ≤ 220000 by have := levels_len l none; have := h.1; omega)
  have HA := hide h
  unfold MadeB
  obtain ⟨V, hV⟩ : ∃ V, V = levelsB none l := ⟨_, rfl⟩
  have HL0 := hide (show V = [] ++ levelsB none l by rw [hV]; rfl)
  rw [← hV] at HLl ⊢
  clear h hV
  go_enter Try.func46, Try.ntmps46
  go_wp2
  go_loopw [0, 3] (fun x v wr => ∃ (A' : Option Addr) (n' c' : Nat) (l' : List Rc) (Y : List UInt8), n' ≤ n ∧ n' ≤ c' ∧ x = .slice A' n' c' ∧ RcsAt w w.heap.size A' n' l' ∧ OwnB wr w.heap.size v Y ∧ V = Y ++ levelsB none l' ∧ Ext w wr) (fun x _ _ => sliceLenP17 x)
  case atStart => exact ⟨A, n, c, l, [], by omega, hnc, rfl, HA.out, OwnB.nil _ _, HL0.out, Ext.refl _⟩
  case round =>
    clear HL0 HA
    obtain ⟨A', n', c', l', Y, hn', hnc', rfl, hA, hO, hV, hE⟩ := hrel
    have HE := hide hE
    by_cases hlt : 0 < n'
    · have h0I : (0 : Int) < (n' : Int) := by omega
      obtain ⟨b1, o1, rfl, hb1, hc1⟩ : ∃ b o, A' = some ⟨b, o, none⟩ ∧ b < w.heap.size ∧ ∀ i, i < n' → RcAt w b (o + i * 4) (l'.getD i default) := by
        rcases hA.2.1 with hn0 | hh
        · omega
        · exact hh
      have HCell := hide (show ∀ W, Ext w W → W.cell? ⟨b1, o1 + 1, none⟩ = some (.int .u8 ((l'.getD 0 default).lv.toNat : Int)) from fun W hW => by
        have := ((hc1 0 hlt).below hW hb1).2.1
        rwa [Nat.zero_mul, Nat.add_zero] at this)
      have C := pAlike_any _ n' c' l' wr (hA.later hE) hlt (by unfold maxLen; omega)
      obtain ⟨r1, r2⟩ := levels_row (l := l') (by rw [hA.1]; exact hlt)
      rw [r2] at hV
      have hk2 := run_le (l'.getD 0 default).lv l'
      rw [hA.1] at hk2
      have HCut := hide (fun (k : Nat) (hk : k ≤ n') => hA.cut (k := k) hk hnc')
      obtain ⟨x, hx⟩ : ∃ x, x = (l'.getD 0 default).lv := ⟨_, rfl⟩
      rw [← hx] at C r1 hV hk2 HCell
      obtain ⟨k, hk⟩ : ∃ k, k = rowN x l' := ⟨_, rfl⟩
      rw [← hk] at C r1 hV hk2
      have HV := hide hV
      have HYl := hide (show Y.length ≤ 220000 by have h1 := HLl.out; rw [hV, List.length_append] at h1; omega)
      have hkI : (k : Int) ≤ (n' : Int) := by omega
      have HK := hide (show k ≤ n' ∧ 0 < k from ⟨hk2, r1⟩)
      have hku : IntKind.u64.wrap (k : Int) = (k : Int) := by rw [IntKind.wrap_u64]; omega
      have CN := fun W => ownNum_any k W (by omega)
      have HN10 := hide (enc_len k)
      have HO := hide hO
      clear hc1 hb1 hA hV hx hk r1 r2 hE hO
      go_wp2_with fail
      refine C.mono ?_
      rintro e w2 ⟨rfl, hE2⟩
      have HE2 := hide (HE.out.trans hE2)
      have HO2 := hide (HO.out.ext hE2)
      have d0 := HCell.out w2 HE2.out
      clear C hE2
      go_wp2_with (at_builtin; refine wpList_appAt rfl (.tmp 10) (.tmp 15) rfl rfl (HO2.out.ext (extNew w2 _)) rfl (bytesNew w2 [x] #[.int .u8 (x.toNat : Int)] 5 (0, 0) rfl 1 rfl) (by have := HYl.out; omega) (HE2.out.trans (extNew w2 _)).le ?_; intro v3 w3 hO3 hG3 _; have HO3 := hide hO3; have HE3 := hide (show Ext w w3 from Below.grown (HE2.out.trans (extNew w2 _)) hG3 (HE2.out.trans (extNew w2 _)).le (fun k hk => (HO2.out.lt k hk).1)); clear hO3 hG3 d0)
      refine (CN w3).mono ?_
      rintro e w4 ⟨v4, rfl, hO4, hE4⟩
      obtain ⟨A4, c4, hv4, -, -, q4⟩ := hO4.form
      obtain ⟨m4, hm4⟩ : ∃ m, m = (enc k).length := ⟨_, rfl⟩
      rw [← hm4] at hv4 q4
      have HM4 := hide hm4
      have HQ4 := hide q4
      have HE4 := hide (HE3.out.trans hE4)
      have HO4 := hide (HO3.out.ext hE4)
      subst hv4
      clear hO4 q4 hm4 hE4 CN
      go_wp2_with (at_builtin; refine wpList_appAt rfl (.tmp 17) (.tmp 20) rfl rfl HO4.out rfl HQ4.out (by have := HYl.out; have := HN10.out; have := HM4.out; rw [List.length_append, List.length_singleton]; omega) HE4.out.le ?_; intro v5 w5 hO5 hG5 _; have HO5 := hide hO5; have HE5 := hide (show Ext w w5 from Below.grown HE4.out hG5 HE4.out.le (fun k hk => (HO4.out.lt k hk).1)); clear hO5 hG5)
      go_roundw
      case rel => exact ⟨_, n' - k, c' - k, l'.drop k, Y ++ [x] ++ enc k, by omega, by omega, rfl, HCut.out k HK.out.1, HO5.out, by rw [HV.out]; simp, HE5.out⟩
      case measure => have := HK.out; simp [sliceLenP17]; omega
    · have h0I : ¬ (0 : Int) < (n' : Int) := by omega
      obtain rfl : l' = [] := List.eq_nil_of_length_eq_zero (by rw [hA.1]; omega)
      have HR := hide (show V = Y by rw [hV, levelsB, List.append_nil])
      clear hlt hV
      go_wp2
      go_ret
      rw [HR.out]
      exact ⟨_, rfl, hO, hE⟩

set_option maxHeartbeats 4000000 in
set_option maxRecDepth 100000 in
theorem pColumns17_any (A : Option Addr) (n c : Nat) (l : List Rc) (w : World) (hnc : n ≤ c) (h : RcsAt w w.heap.size A n l) (hn : n ≤ 20000) : Calls Try.prog 27 #[.slice A n c] w (MadeB w (columnsE l)) := by
  have C1 := pTimeBytes_any A n c l w h hn
  have C2 := hide (fun W (hE : Ext w W) => pLevelBytes_any A n c l W hnc (h.later hE) hn)
  have HTl := hide (show (timesB 0 l).length ≤ 200000 by have := times_len l 0; have := h.1; omega)
  have HLl := hide (show (levelsB none l).length ≤ 220000 by have := levels_len l none; have := h.1; omega)
  unfold MadeB columnsE
  generalize timesB 0 l = T at *
  generalize levelsB none l = V at *
  clear h
  go_enter Try.func27, Try.ntmps27
  go_wp2_with fail
  refine C1.mono ?_
  rintro e w1 ⟨v1, rfl, hO1, hE1⟩
  have C3 := C2.out w1 hE1
  go_wp2_with fail
  refine C3.mono ?_
  rintro e w2 ⟨v2, rfl, hO2, hE2⟩
  obtain ⟨A1, c1, rfl, k1, m1, q1⟩ := (hO1.ext hE2).form
  obtain ⟨A2, c2, rfl, k2, m2, q2⟩ := hO2.form
  have hE3 := extNew w2 (.cells #[.slice A1 T.length c1, .slice A2 V.length c2] 32)
  have hP : Parts (w2.alloc (.cells #[.slice A1 T.length c1, .slice A2 V.length c2] 32)) (w2.alloc (.cells #[.slice A1 T.length c1, .slice A2 V.length c2] 32)).heap.size (some ⟨w2.heap.size, 0, none⟩) 2 [T, V] := by
    refine ⟨rfl, .inr ⟨w2.heap.size, 0, rfl, by simp, fun i hi => ?_⟩⟩
    have hT := HTl.out
    have hV := HLl.out
    rw [Nat.zero_add, cellNew]
    match i, hi with
    | 0, _ => exact ⟨A1, T.length, c1, rfl, by unfold maxLen; omega, hE3.bytes q1⟩
    | 1, _ => exact ⟨A2, V.length, c2, rfl, by unfold maxLen; omega, hE3.bytes q2⟩
  have CA := all_any _ 2 [T, V] _ hP (by simp) (by have := HTl.out; have := HLl.out; simp; omega)
  rw [show [T, V].flatten = T ++ V by simp] at CA
  have HE := hide ((hE1.trans hE2).trans hE3)
  clear C1 C3 hO1 hO2 hE1 hE2 hE3 hP k1 k2 m1 m2 q1 q2
  generalize T.length = n1 at *
  generalize V.length = n2 at *
  go_wp2_with fail
  refine CA.mono ?_
  rintro e w4 ⟨v4, rfl, hO4, hE4⟩
  go_wp2
  go_ret
  exact ⟨_, rfl, hO4.mono (by have := HE.out.le; omega), HE.out.trans hE4⟩
end Go.Proofs.Ytkgkppblkdihkaa

namespace Go.Proofs.Ytkgkppblkdihkaa
namespace Rcs
open Num

theorem int_stuckR {b : List UInt8} {q : Nat} {e : Int} (he : e ≠ 0) {most : Int} : intR b q e most = (0, q, e) := by
  have hN : numR b q e = (0, q, e) := by unfold numR; rw [if_neg he]
  unfold intR
  rw [hN, if_neg he]
theorem scanF_near {b : List UInt8} {q K : Nat} (h1 : q + 10 ≤ K) (h2 : K ≤ b.length) : ∀ f i x, i + f = 10 → scanF (b.take K) q f i x = scanF b q f i x
  | 0, _, _, _ => rfl
  | f + 1, i, x, hf => by
    have hg : (b.take K).getD (q + i) 0 = b.getD (q + i) 0 := by
      rw [List.getD_eq_getElem?_getD, List.getElem?_take_of_lt (by omega), ← List.getD_eq_getElem?_getD]
    have hl : (b.take K).length = K := by rw [List.length_take]; omega
    rw [scanF, scanF, hl, hg, if_neg (show ¬ K ≤ q + i by omega), if_neg (show ¬ b.length ≤ q + i by omega), scanF_near h1 h2 f (i + 1) _ (by omega)]
theorem num_near {b : List UInt8} {q K : Nat} (h1 : q + 10 ≤ K) (h2 : K ≤ b.length) (e : Int) : numR (b.take K) q e = numR b q e := by
  unfold numR scan
  rw [scanF_near h1 h2 10 0 0 rfl]
theorem int_near {b : List UInt8} {q K : Nat} (h1 : q + 10 ≤ K) (h2 : K ≤ b.length) (e most : Int) : intR (b.take K) q e most = intR b q e most := by
  unfold intR
  rw [num_near h1 h2]
theorem byte_near {b : List UInt8} {q K : Nat} (h1 : q + 1 ≤ K) (h2 : K ≤ b.length) (e : Int) : byteR (b.take K) q e = byteR b q e := by
  have hl : (b.take K).length = K := by rw [List.length_take]; omega
  have hc : ((b.take K).drop q).take (1 : Int).toNat = (b.drop q).take (1 : Int).toNat := by
    rw [show (1 : Int).toNat = 1 from rfl, List.drop_take, List.take_take, Nat.min_eq_left (by omega)]
  have ht : takeR (b.take K) q e 1 = takeR b q e 1 := by
    unfold takeR
    rw [hl, hc]
    by_cases he : e = 0
    · rw [if_pos he, if_pos he, if_neg (by omega), if_neg (by omega), if_neg (by omega), if_neg (by omega)]
    · rw [if_neg he, if_neg he]
  unfold byteR
  rw [ht]
theorem num_end {b : List UInt8} {q : Nat} (h : (numR b q 0).2.2 = 0) : (numR b q 0).2.1 ≤ q + 10 := by
  obtain ⟨x, q', e, hn⟩ : ∃ x q' e, numR b q 0 = (x, q', e) := ⟨_, _, _, rfl⟩
  rw [hn] at h ⊢
  dsimp only at h ⊢
  subst h
  obtain ⟨-, h1, h2, h3⟩ := num_is hn
  have h4 := enc_len x
  rw [h3] at h4
  unfold seg at h4
  rw [List.length_take, List.length_drop] at h4
  omega
theorem int_num {b : List UInt8} {q : Nat} {most : Int} (h : (intR b q 0 most).2.2 = 0) : (numR b q 0).2.2 = 0 ∧ (intR b q 0 most).2.1 = (numR b q 0).2.1 := by
  unfold intR at h ⊢
  by_cases h1 : (numR b q 0).2.2 = 0
  · rw [if_pos h1] at h ⊢
    split at h
    · simp at h
    · rename_i h2
      rw [if_neg h2]
      exact ⟨h1, rfl⟩
  · rw [if_neg h1] at h
    exact absurd h h1
theorem byte_end {b : List UInt8} {q : Nat} (h : (byteR b q 0).2.2 = 0) : (byteR b q 0).2.1 = q + 1 := by
  obtain ⟨x, q', e, hn⟩ : ∃ x q' e, byteR b q 0 = (x, q', e) := ⟨_, _, _, rfl⟩
  rw [hn] at h ⊢
  dsimp only at h ⊢
  subst h
  exact (byte_is hn).2.1
theorem times_near {b : List UInt8} {K : Nat} (hK : K ≤ b.length) : ∀ (n was q : Nat), q + 10 * n ≤ K → timesR (b.take K) n was q = timesR b n was q ∧ ((timesR b n was q).2.2 = 0 → (timesR b n was q).2.1 ≤ q + 10 * n)
  | 0, was, q, _ => by simp [timesR]
  | n + 1, was, q, h => by
    have hn := num_near (b := b) (q := q) (K := K) (by omega) hK 0
    by_cases h1 : (numR b q 0).2.2 = 0
    · have he := num_end h1
      obtain ⟨i1, i2⟩ := times_near hK n ((was + zag (numR b q 0).1) % 2 ^ 64) (numR b q 0).2.1 (by omega)
      rw [times_good h1, times_good (by rw [hn]; exact h1), hn, i1]
      refine ⟨rfl, ?_⟩
      unfold after
      by_cases h2 : (timesR b n ((was + zag (numR b q 0).1) % 2 ^ 64) (numR b q 0).2.1).2.2 = 0
      · rw [if_neg (by rw [h2]; simp)]
        intro _
        have := i2 h2
        dsimp only
        omega
      · rw [if_pos h2]
        intro h3
        exact absurd h3 h2
    · rw [times_bad h1, times_bad (by rw [hn]; exact h1), hn]
      exact ⟨rfl, fun h3 => absurd h3 h1⟩
theorem run_near {b : List UInt8} {K q left : Nat} (hK : K ≤ b.length) (h : q + 11 ≤ K) : runR (b.take K) q left = runR b q left := by
  unfold runR
  rw [byte_near (by omega) hK]
  by_cases h1 : (byteR b q 0).2.2 = 0
  · have h2 := byte_end h1
    rw [h1, h2]
    exact int_near (by omega) hK 0 _
  · rw [int_stuckR h1, int_stuckR h1]
theorem run_end {b : List UInt8} {q left : Nat} (h : (runR b q left).2.2 = 0) : (byteR b q 0).2.2 = 0 ∧ (runR b q left).2.1 ≤ q + 11 := by
  unfold runR at h ⊢
  by_cases h1 : (byteR b q 0).2.2 = 0
  · have h2 := byte_end h1
    rw [h1, h2] at h ⊢
    obtain ⟨h3, h4⟩ := int_num h
    have := num_end h3
    rw [h4]
    exact ⟨rfl, by omega⟩
  · rw [int_err h1] at h
    exact absurd h h1
theorem levels_near {b : List UInt8} {K : Nat} (hK : K ≤ b.length) : ∀ (f left : Nat) (p : Option UInt8) (q : Nat), q + 11 * left ≤ K → levelsR (b.take K) f left p q = levelsR b f left p q
  | 0, left, p, q, _ => rfl
  | f + 1, left, p, q, h => by
    by_cases h0 : left = 0
    · subst h0
      rw [levels_none, levels_none]
    · have hr := run_near (b := b) (q := q) (left := left) hK (by omega)
      have hb := byte_near (b := b) (q := q) (K := K) (by omega) hK 0
      by_cases h1 : (runR b q left).2.2 = 0
      · obtain ⟨-, he⟩ := run_end h1
        by_cases h2 : (runR b q left).1 = 0 ∨ p = some (UInt8.ofNat (byteR b q 0).1)
        · rw [levels_form (by omega) h1 h2, levels_form (by omega) (by rw [hr]; exact h1) (by rw [hr, hb]; exact h2)]
        · rw [levels_good (by omega) h1 h2, levels_good (by omega) (by rw [hr]; exact h1) (by rw [hr, hb]; exact h2), hr, hb]
          congr 1
          exact levels_near hK f _ _ _ (by
            have : 0 < (runR b q left).1 := Nat.pos_of_ne_zero (fun e => h2 (.inl e))
            have := run_le' (b := b) (q := q) (left := left)
            omega)
      · rw [levels_bad (by omega) h1, levels_bad (by omega) (by rw [hr]; exact h1), hr]
/-- What may be more than the columns take isn't looked at. -/
theorem cols_near {b : List UInt8} {n : Nat} (h : n * 21 ≤ b.length) : readCR n (b.take (n * 21)) = readCR n b := by
  obtain ⟨h1, h2⟩ := times_near (b := b) (K := n * 21) h n 0 0 (by omega)
  unfold readCR
  rw [h1]
  by_cases he : (timesR b n 0 0).2.2 = 0
  · have h3 := h2 he
    rw [levels_near h n n none _ (by omega)]
  · rw [if_pos he, if_pos he]
end Rcs
end Go.Proofs.Ytkgkppblkdihkaa

namespace Go.Proofs.Ytkgkppblkdihkaa
open Go.RowKit

/-- Behind a closure that goes on: block t holds what it told, the cursor stands at q. -/
def Told (w : World) (g r t : Nat) (T : TypeId) (b : List UInt8) (v : Value) (q : Nat) (w' : World) : Prop := PC w' g r b q 0 ∧ Whole w' t T #[v] ∧ Mod w w' g (some t)
theorem Told.refl {w : World} {g r t q : Nat} {T : TypeId} {b : List UInt8} {v : Value} (h : PC w g r b q 0) (ht : Whole w t T #[v]) : Told w g r t T b v q w := ⟨h, ht, Mod.refl _ _ _⟩
theorem Told.from {w w' w'' : World} {g r t q : Nat} {T : TypeId} {b : List UInt8} {v : Value} (hE : Ext w w') (h : Told w' g r t T b v q w'') : Told w g r t T b v q w'' := ⟨h.1, h.2.1, (Mod.ofExt hE).trans h.2.2 (.inl rfl)⟩

/-- What is told is stored: the cursor stays. -/
theorem PC.told {w w' : World} {g r t q : Nat} {b : List UInt8} {e : Int} (h : PC w g r b q e) (hM : Mod w w' g (some t)) (hG : w'.heap[g]? = w.heap[g]?) (htr : t ≠ r) : PC w' g r b q e := by
  obtain ⟨A, c, hW, hc, hR, hr, h⟩ := h
  exact ⟨A, c, hG.trans hW, hc, hR.mod hM hr (by simpa using htr), Nat.lt_of_lt_of_le hr hM.size, h⟩

/-- The bytes ahead are taken. -/
theorem PC.moved {w : World} {g r q p c : Nat} {b : List UInt8} {e z : Int} {A : Option Addr} (h : PC w g r b q e) (hR : RowIn w g r A (b.length - p) (b.drop p)) (hc : b.length - p ≤ c) (hp : p ≤ b.length) (hz : z = (p : Int)) :
    PC ((w.setCell ⟨g, 1, none⟩ (.int .i64 z)).setCell ⟨g, 0, none⟩ (.slice A (b.length - p) c)) g r b p e := by
  obtain ⟨A0, c0, hW, _, _, hr, _, hl⟩ := h
  subst hz
  refine ⟨A, c, (hW.set 1 _).set 0 _, hc, ?_, by simpa using hr, hp, hl⟩
  have h1 := hR.mod (ob := none) (Mod.ofRow (grown_setCell w g 1 (.int .i64 (p : Int)))) hr (by simp)
  exact h1.mod (ob := none) (Mod.ofRow (grown_setCell _ g 0 _)) (by simpa using hr) (by simp)
theorem PC.movedMod {w : World} {g r q : Nat} {b : List UInt8} {e : Int} (_h : PC w g r b q e) (u v : Value) {ob : Option Nat} : Mod w ((w.setCell ⟨g, 1, none⟩ u).setCell ⟨g, 0, none⟩ v) g ob :=
  (Mod.ofRow (ob := ob) (grown_setCell w g 1 u)).trans (Mod.ofRow (grown_setCell _ g 0 v)) (.inl rfl)
theorem PC.wholeFar {w : World} {g r q t : Nat} {b : List UInt8} {e : Int} (_h : PC w g r b q e) {T : TypeId} {cs : Array Value} (hW : Whole w t T cs) (htg : t ≠ g) {u v : Value} : Whole ((w.setCell ⟨g, 1, none⟩ u).setCell ⟨g, 0, none⟩ v) t T cs :=
  (hW.far htg 1 u).far htg 0 v

theorem taker64_any (g t : Nat) (w : World) :
    Calls Try.prog 78 #[.pointer (some ⟨g, 0, none⟩), .pointer (some ⟨t, 0, none⟩)] w fun e w' =>
      ∃ Bt Bc, e = .returned (.func (.func 88) #[] #[.pointer (some ⟨Bt, 0, none⟩), .pointer (some ⟨Bc, 0, none⟩)]) ∧ w.heap.size ≤ Bt ∧ w.heap.size ≤ Bc ∧
        w'.cell? ⟨Bt, 0, none⟩ = some (.pointer (some ⟨t, 0, none⟩)) ∧ w'.cell? ⟨Bc, 0, none⟩ = some (.pointer (some ⟨g, 0, none⟩)) ∧ Ext w w' := by
  go_enter Try.func78, Try.ntmps78
  go_wp2
  go_ret
  have h1 := cellNew (w.alloc (.cells #[.pointer (some ⟨g, 0, none⟩)] 62)) #[.pointer (some ⟨t, 0, none⟩)] 99 (0, 0) 0
  rw [World.size_alloc] at h1
  exact ⟨w.heap.size + 1, w.heap.size, rfl, by omega, by omega, h1, ((extNew _ _).cell (i := 0) (by simp)).trans (cellNew w _ _ _ 0), (extNew w _).trans (extNew _ _)⟩

set_option maxHeartbeats 2000000 in
set_option maxRecDepth 100000 in
theorem tell64_any {w : World} {g r t Bt Bc q p c : Nat} {b : List UInt8} {A : Option Addr} {v0 : Value} {x : Int} (h : PC w g r b q 0) (hqp : q ≤ p) (hp : p ≤ b.length) (hBt : w.cell? ⟨Bt, 0, none⟩ = some (.pointer (some ⟨t, 0, none⟩))) (hBc : w.cell? ⟨Bc, 0, none⟩ = some (.pointer (some ⟨g, 0, none⟩)))
    (ht : Whole w t 40 #[v0]) (htg : t ≠ g) (htr : t ≠ r) (hct : Bc ≠ t) (hcg : Bc ≠ g) (hR : RowIn w g r A (b.length - p) (b.drop p)) (hc : b.length - p ≤ c) :
    Calls Try.prog 88 #[.int .u64 x, .slice A (b.length - p) c, .pointer (some ⟨Bt, 0, none⟩), .pointer (some ⟨Bc, 0, none⟩)] w fun e w' => e = .returned (.int .i64 0) ∧ Told w g r t 40 b (.int .u64 x) p w' := by
  obtain ⟨A0, c0, d0, d1, d2, f0, f1, f2, hc0, hR0⟩ := h.cells
  obtain ⟨hq, hl⟩ := h.bounds
  have htlt := ht.lt
  have hrlt := h.rlt
  have hglt := h.lt
  go_enter Try.func88, Try.ntmps88
  go_wp2_with (refine wpList_storeC rfl 40 (.tmp 9) (.tmp 8) rfl #[.int .u64 x] rfl rfl ht (by simp) (by kernel_rfl) rfl rfl rfl ?_; intro w1 hW1 hG1; have hM1 : Mod w w1 g (some t) := Mod.ofOwn hG1; have hP1 := h.told hM1 (hG1.block g hglt (by simpa using fun e => htg e.symm)) htr; obtain ⟨A1, c1, e0, e1, e2, k0, k1, k2, hc1, hR1⟩ := hP1.cells; have hBc1 := (hM1.cell (x := Bc) (i := 0) (World.block_lt_of_cell? w ⟨Bc, 0, none⟩ hBc) hcg (by simpa using fun e => hct e.symm)).trans hBc)
  go_still_tail 13, (by kernel_rfl)
  change wpList _ _ _ _ _ w1.drew
  have hE2 : Ext w1 w1.drew := (Ext.refl w1).drew
  have hP2 := hP1.ext hE2
  have hW2 := hW1.ext hE2
  have hM2 : Mod w w1.drew g (some t) := hM1.trans (Mod.ofExt hE2) (.inl rfl)
  have hBc2 := (hE2.cell (i := 0) (World.block_lt_of_cell? w1 ⟨Bc, 0, none⟩ hBc1)).trans hBc1
  clear hBc1 hG1 e0 e1 e2 k0 k1 k2
  generalize w1.drew = w2 at *
  obtain ⟨A2, c2, e0, e1, e2, k0, k1, k2, hc2, hR2⟩ := hP2.cells
  clear hR1 hR2 hR0 d0 d1 d2 f0 f1 f2
  go_wp2_with fail
  go_ret
  have hR2 := hR.mod hM2 hrlt (by simpa using htr)
  exact ⟨rfl, hP2.moved hR2 hc hp (by omega), hP2.wholeFar hW2 htg, hM2.trans (hP2.movedMod _ _) (.inl rfl)⟩
theorem takerInt_any (g t : Nat) (w : World) :
    Calls Try.prog 82 #[.pointer (some ⟨g, 0, none⟩), .pointer (some ⟨t, 0, none⟩)] w fun e w' =>
      ∃ Bt Bc, e = .returned (.func (.func 92) #[] #[.pointer (some ⟨Bt, 0, none⟩), .pointer (some ⟨Bc, 0, none⟩)]) ∧ w.heap.size ≤ Bt ∧ w.heap.size ≤ Bc ∧
        w'.cell? ⟨Bt, 0, none⟩ = some (.pointer (some ⟨t, 0, none⟩)) ∧ w'.cell? ⟨Bc, 0, none⟩ = some (.pointer (some ⟨g, 0, none⟩)) ∧ Ext w w' := by
  go_enter Try.func82, Try.ntmps82
  go_wp2
  go_ret
  have h1 := cellNew (w.alloc (.cells #[.pointer (some ⟨g, 0, none⟩)] 62)) #[.pointer (some ⟨t, 0, none⟩)] 104 (0, 0) 0
  rw [World.size_alloc] at h1
  exact ⟨w.heap.size + 1, w.heap.size, rfl, by omega, by omega, h1, ((extNew _ _).cell (i := 0) (by simp)).trans (cellNew w _ _ _ 0), (extNew w _).trans (extNew _ _)⟩

set_option maxHeartbeats 2000000 in
set_option maxRecDepth 100000 in
theorem tellInt_any {w : World} {g r t Bt Bc q p c : Nat} {b : List UInt8} {A : Option Addr} {v0 : Value} {x : Int} (h : PC w g r b q 0) (hqp : q ≤ p) (hp : p ≤ b.length) (hBt : w.cell? ⟨Bt, 0, none⟩ = some (.pointer (some ⟨t, 0, none⟩))) (hBc : w.cell? ⟨Bc, 0, none⟩ = some (.pointer (some ⟨g, 0, none⟩)))
    (ht : Whole w t 3 #[v0]) (htg : t ≠ g) (htr : t ≠ r) (hct : Bc ≠ t) (hcg : Bc ≠ g) (hR : RowIn w g r A (b.length - p) (b.drop p)) (hc : b.length - p ≤ c) :
    Calls Try.prog 92 #[.int .i64 x, .slice A (b.length - p) c, .pointer (some ⟨Bt, 0, none⟩), .pointer (some ⟨Bc, 0, none⟩)] w fun e w' => e = .returned (.int .i64 0) ∧ Told w g r t 3 b (.int .i64 x) p w' := by
  obtain ⟨A0, c0, d0, d1, d2, f0, f1, f2, hc0, hR0⟩ := h.cells
  obtain ⟨hq, hl⟩ := h.bounds
  have htlt := ht.lt
  have hrlt := h.rlt
  have hglt := h.lt
  go_enter Try.func92, Try.ntmps92
  go_wp2_with (refine wpList_storeC rfl 3 (.tmp 9) (.tmp 8) rfl #[.int .i64 x] rfl rfl ht (by simp) (by kernel_rfl) rfl rfl rfl ?_; intro w1 hW1 hG1; have hM1 : Mod w w1 g (some t) := Mod.ofOwn hG1; have hP1 := h.told hM1 (hG1.block g hglt (by simpa using fun e => htg e.symm)) htr; obtain ⟨A1, c1, e0, e1, e2, k0, k1, k2, hc1, hR1⟩ := hP1.cells; have hBc1 := (hM1.cell (x := Bc) (i := 0) (World.block_lt_of_cell? w ⟨Bc, 0, none⟩ hBc) hcg (by simpa using fun e => hct e.symm)).trans hBc)
  go_still_tail 13, (by kernel_rfl)
  change wpList _ _ _ _ _ w1.drew
  have hE2 : Ext w1 w1.drew := (Ext.refl w1).drew
  have hP2 := hP1.ext hE2
  have hW2 := hW1.ext hE2
  have hM2 : Mod w w1.drew g (some t) := hM1.trans (Mod.ofExt hE2) (.inl rfl)
  have hBc2 := (hE2.cell (i := 0) (World.block_lt_of_cell? w1 ⟨Bc, 0, none⟩ hBc1)).trans hBc1
  clear hBc1 hG1 e0 e1 e2 k0 k1 k2
  generalize w1.drew = w2 at *
  obtain ⟨A2, c2, e0, e1, e2, k0, k1, k2, hc2, hR2⟩ := hP2.cells
  clear hR1 hR2 hR0 d0 d1 d2 f0 f1 f2
  go_wp2_with fail
  go_ret
  have hR2 := hR.mod hM2 hrlt (by simpa using htr)
  exact ⟨rfl, hP2.moved hR2 hc hp (by omega), hP2.wholeFar hW2 htg, hM2.trans (hP2.movedMod _ _) (.inl rfl)⟩
theorem takerRow_any (g t : Nat) (w : World) :
    Calls Try.prog 87 #[.pointer (some ⟨g, 0, none⟩), .pointer (some ⟨t, 0, none⟩)] w fun e w' =>
      ∃ Bt Bc, e = .returned (.func (.func 97) #[] #[.pointer (some ⟨Bt, 0, none⟩), .pointer (some ⟨Bc, 0, none⟩)]) ∧ w.heap.size ≤ Bt ∧ w.heap.size ≤ Bc ∧
        w'.cell? ⟨Bt, 0, none⟩ = some (.pointer (some ⟨t, 0, none⟩)) ∧ w'.cell? ⟨Bc, 0, none⟩ = some (.pointer (some ⟨g, 0, none⟩)) ∧ Ext w w' := by
  go_enter Try.func87, Try.ntmps87
  go_wp2
  go_ret
  have h1 := cellNew (w.alloc (.cells #[.pointer (some ⟨g, 0, none⟩)] 62)) #[.pointer (some ⟨t, 0, none⟩)] 110 (0, 0) 0
  rw [World.size_alloc] at h1
  exact ⟨w.heap.size + 1, w.heap.size, rfl, by omega, by omega, h1, ((extNew _ _).cell (i := 0) (by simp)).trans (cellNew w _ _ _ 0), (extNew w _).trans (extNew _ _)⟩

set_option maxHeartbeats 2000000 in
set_option maxRecDepth 100000 in
theorem tellRow_any {w : World} {g r t Bt Bc q p c : Nat} {b : List UInt8} {A : Option Addr} {v0 : Value} {Ax : Option Addr} {nx cx : Nat} (h : PC w g r b q 0) (hqp : q ≤ p) (hp : p ≤ b.length) (hBt : w.cell? ⟨Bt, 0, none⟩ = some (.pointer (some ⟨t, 0, none⟩))) (hBc : w.cell? ⟨Bc, 0, none⟩ = some (.pointer (some ⟨g, 0, none⟩)))
    (ht : Whole w t 85 #[v0]) (htg : t ≠ g) (htr : t ≠ r) (hct : Bc ≠ t) (hcg : Bc ≠ g) (hR : RowIn w g r A (b.length - p) (b.drop p)) (hc : b.length - p ≤ c) :
    Calls Try.prog 97 #[.slice Ax nx cx, .slice A (b.length - p) c, .pointer (some ⟨Bt, 0, none⟩), .pointer (some ⟨Bc, 0, none⟩)] w fun e w' => e = .returned (.int .i64 0) ∧ Told w g r t 85 b (.slice Ax nx cx) p w' := by
  obtain ⟨A0, c0, d0, d1, d2, f0, f1, f2, hc0, hR0⟩ := h.cells
  obtain ⟨hq, hl⟩ := h.bounds
  have htlt := ht.lt
  have hrlt := h.rlt
  have hglt := h.lt
  go_enter Try.func97, Try.ntmps97
  go_wp2_with (refine wpList_storeC rfl 85 (.tmp 9) (.tmp 8) rfl #[.slice Ax nx cx] rfl rfl ht (by simp) (by kernel_rfl) rfl rfl rfl ?_; intro w1 hW1 hG1; have hM1 : Mod w w1 g (some t) := Mod.ofOwn hG1; have hP1 := h.told hM1 (hG1.block g hglt (by simpa using fun e => htg e.symm)) htr; obtain ⟨A1, c1, e0, e1, e2, k0, k1, k2, hc1, hR1⟩ := hP1.cells; have hBc1 := (hM1.cell (x := Bc) (i := 0) (World.block_lt_of_cell? w ⟨Bc, 0, none⟩ hBc) hcg (by simpa using fun e => hct e.symm)).trans hBc)
  go_still_tail 13, (by kernel_rfl)
  change wpList _ _ _ _ _ w1.drew
  have hE2 : Ext w1 w1.drew := (Ext.refl w1).drew
  have hP2 := hP1.ext hE2
  have hW2 := hW1.ext hE2
  have hM2 : Mod w w1.drew g (some t) := hM1.trans (Mod.ofExt hE2) (.inl rfl)
  have hBc2 := (hE2.cell (i := 0) (World.block_lt_of_cell? w1 ⟨Bc, 0, none⟩ hBc1)).trans hBc1
  clear hBc1 hG1 e0 e1 e2 k0 k1 k2
  generalize w1.drew = w2 at *
  obtain ⟨A2, c2, e0, e1, e2, k0, k1, k2, hc2, hR2⟩ := hP2.cells
  clear hR1 hR2 hR0 d0 d1 d2 f0 f1 f2
  go_wp2_with fail
  go_ret
  have hR2 := hR.mod hM2 hrlt (by simpa using htr)
  exact ⟨rfl, hP2.moved hR2 hc hp (by omega), hP2.wholeFar hW2 htg, hM2.trans (hP2.movedMod _ _) (.inl rfl)⟩
end Go.Proofs.Ytkgkppblkdihkaa

namespace Go.Proofs.Ytkgkppblkdihkaa
open Go.RowKit

theorem Num.or_seven (X i : Nat) (c : UInt8) (hX : X < 128 ^ i) (hi : i ≤ 9) (h9 : i = 9 → c.toNat = 1) :
    bits .or .u64 (X : Int) (IntKind.u64.wrap (IntKind.u64.wrap (bits .andNot .u8 (c.toNat : Int) 128) * 2 ^ (7 * i))) = ((X + c.toNat % 128 * 128 ^ i : Nat) : Int) := by
  have hc := c.toNat_lt
  have e1 : bits .andNot .u8 (c.toNat : Int) 128 = ((c.toNat % 128 : Nat) : Int) := by
    rw [show (128 : Int) = ((128 : Nat) : Int) from rfl, u8_andNot_nat _ _ hc (by decide), show (255 - 128 : Nat) = 2 ^ 7 - 1 from rfl, Nat.and_two_pow_sub_one_eq_mod]
  have hp : (128 : Nat) ^ i = 2 ^ (7 * i) := by rw [Nat.pow_mul]
  have hlt : c.toNat % 128 * 2 ^ (7 * i) < 2 ^ 64 := by
    rcases Nat.lt_or_ge i 9 with h | h
    · have h1 : c.toNat % 128 < 128 := Nat.mod_lt _ (by decide)
      have h2 : 2 ^ (7 * i) ≤ 2 ^ 56 := Nat.pow_le_pow_right (by decide) (by omega)
      have h3 : c.toNat % 128 * 2 ^ (7 * i) ≤ 127 * 2 ^ 56 := Nat.mul_le_mul (by omega) h2
      omega
    · obtain rfl : i = 9 := by omega
      rw [h9 rfl]
      decide
  have e2 : IntKind.u64.wrap (((c.toNat % 128 : Nat) : Int) * 2 ^ (7 * i)) = ((c.toNat % 128 * 2 ^ (7 * i) : Nat) : Int) := by
    have : ((c.toNat % 128 : Nat) : Int) * 2 ^ (7 * i) = ((c.toNat % 128 * 2 ^ (7 * i) : Nat) : Int) := by simp only [Int.natCast_mul, Int.natCast_pow]; rfl
    rw [this, IntKind.wrap_u64]
    omega
  have hX' : X < 2 ^ 64 := Nat.lt_of_lt_of_le hX (by rw [hp]; exact Nat.pow_le_pow_right (by decide) (by omega))
  have e3 : IntKind.u64.wrap ((c.toNat % 128 : Nat) : Int) = ((c.toNat % 128 : Nat) : Int) := by rw [IntKind.wrap_u64]; omega
  rw [e1, e3, e2, u64_or_nat _ _ hX' hlt, hp, Nat.mul_comm (c.toNat % 128), Nat.or_comm, ← Nat.two_pow_add_eq_or_of_lt (by rw [← hp]; exact hX), Nat.add_comm]

/-- 'r[l:]' of a row. -/
theorem run_cutR (W : World) (a : Option Addr) (n c : Nat) (k : IntKind) (l : Int) (h0 : 0 ≤ l) (h1 : l ≤ n) :
    (Instr.slice 85 (.slice a n c) (some (.int k l)) none none).run Try.prog W = .ok (.slice (cutAt a c l.toNat) (n - l.toNat) (c - l.toNat)) W := by
  rw [run_slice_l (P := Try.prog) (w := W) 85 a n c (by kernel_rfl) k l h0 h1]
  have hs : (sizeOf (Try.prog.elem 85)).run Try.prog W = .ok 1 W := by kernel_rfl
  rw [hs]
  simp [Result.andThen, sliced, cutAt]
attribute [local go_sem ↓] run_cutR

set_option maxHeartbeats 2000000 in
set_option maxRecDepth 100000 in
theorem curNumber_any {w : World} {A : Option Addr} {c K : Nat} {l : List UInt8} {cap : Array Value} {R : Ending → World → Prop} (hK : Entered K) (hb : Bytes w w.heap.size A l.length l) (hl : l.length ≤ 1000000) (hc : l.length ≤ c)
    (hR : ∀ e w', R e w' → ∃ er, e = .returned (.int .i64 er))
    (hok : (Num.scan l 0).2.2 = 0 → Calls Try.prog K (#[.int .u64 (((Num.scan l 0).1 : Nat) : Int), .slice (cutAt A c (Num.scan l 0).2.1) (l.length - (Num.scan l 0).2.1) (c - (Num.scan l 0).2.1)] ++ cap) w R)
    (hbad : (Num.scan l 0).2.2 ≠ 0 → R (.returned (.int .i64 (Num.scan l 0).2.2)) w) :
    Calls Try.prog 77 #[.slice A l.length c, .func (.func K) #[] cap] w R := by
  have hE := fun args W => hK args W
  obtain ⟨_, hb⟩ := hb
  rcases hb with h0 | ⟨blk, off, rfl, hB, hcell⟩
  · obtain rfl := List.eq_nil_of_length_eq_zero h0
    have hbad' := hide (hbad (by decide))
    clear hok hbad
    go_enter Try.func77, Try.ntmps77
    go_wp2
    go_loop [5, 10] (fun x i => x = .int .u64 0 ∧ i = .int .i64 0) (fun _ _ => 0)
    case atStart => exact ⟨rfl, rfl⟩
    case round =>
      obtain ⟨rfl, rfl⟩ := hrel
      go_wp2
      exact hbad'.out
  · go_enter Try.func77, Try.ntmps77
    go_wp2
    go_loop [5, 10] (fun x i => ∃ (X j : Nat), x = .int .u64 (X : Int) ∧ i = .int .i64 (j : Int) ∧ X < 128 ^ j ∧ j ≤ 9 ∧ j ≤ l.length ∧ Num.scanF l 0 (10 - j) j X = Num.scan l 0) (fun _ i => l.length - (intOf i).toNat)
    case atStart => exact ⟨0, 0, rfl, rfl, by decide, by omega, by omega, rfl⟩
    case round =>
      obtain ⟨X, j, rfl, rfl, hX, hj, hjl, hs⟩ := hrel
      obtain ⟨f, hf⟩ : ∃ f, 10 - j = f + 1 := ⟨9 - j, by omega⟩
      rw [hf, Num.scanF, Nat.zero_add] at hs
      by_cases hlt : j < l.length
      · rw [if_neg (by omega)] at hs
        have hcj := hcell j hlt
        generalize l.getD j 0 = bt at *
        have hbt := bt.toNat_lt
        clear hcell
        by_cases h2 : (j = 9 ∧ bt.toNat ≠ 1) ∨ (0 < j ∧ bt.toNat = 0)
        · rw [if_pos h2] at hs
          rw [← hs] at hbad hok
          have hbad' := hide (hbad (by decide))
          clear hbad hok hs hX hf
          rcases h2 with ⟨h9, h1⟩ | ⟨h0, h1⟩
          · subst h9
            have h1' : ((bt.toNat : Int) != 1) = true := by simp; omega
            clear h1
            go_wp2_with fail
            exact hbad'.out
          · rw [h1] at hcj
            by_cases h9 : j = 9
            · subst h9
              go_wp2_with fail
              exact hbad'.out
            · have h9' : ((j : Int) == 9) = false := by simp; omega
              have h0' : (0 : Int) < (j : Int) := by omega
              clear h1
              go_wp2_with fail
              exact hbad'.out
        · rw [if_neg h2] at hs
          have HO := Num.or_seven X j bt hX hj (fun h => by omega)
          have hw7 : IntKind.i64.wrap (7 * (j : Int)) = ((7 * j : Nat) : Int) := by rw [IntKind.wrap_i64]; omega
          have hcases : (((j : Int) == 9) = true ∧ ((bt.toNat : Int) != 1) = false ∧ (0 < (j : Int)) ∧ ((bt.toNat : Int) == 0) = false) ∨ (((j : Int) == 9) = false ∧ 0 < (j : Int) ∧ ((bt.toNat : Int) == 0) = false) ∨ (((j : Int) == 9) = false ∧ ¬ (0 < (j : Int))) := by
            simp only [beq_iff_eq, beq_eq_false_iff_ne, bne_eq_false_iff_eq, ne_eq]
            omega
          have hNX := Num.part_lt (c := bt.toNat) hX
          clear h2
          by_cases h128 : bt.toNat < 128
          · rw [if_pos h128] at hs
            rw [← hs] at hok
            have hok' := hide (hok rfl)
            clear hok hbad hs hf hNX hX
            generalize X + bt.toNat % 128 * 128 ^ j = NX at *
            have h128' : (bt.toNat : Int) < 128 := by omega
            have i0 : (0 : Int) ≤ (j : Int) + 1 := by omega
            have i1 : (j : Int) + 1 ≤ (l.length : Int) := by omega
            have i2 : ((j : Int) + 1).toNat = j + 1 := by omega
            clear h128
            rcases hcases with ⟨a1, a2, a3, a4⟩ | ⟨a1, a3, a4⟩ | ⟨a1, a3⟩
            all_goals (
              go_wp2_with fail
              refine hok'.out.mono ?_
              intro e w2 hr
              obtain ⟨er, rfl⟩ := hR _ _ hr
              go_wp2
              exact hr)
          · rw [if_neg h128] at hs
            have hs' := hide hs
            have hf' := hide (show 10 - (j + 1) = f by omega)
            have hj8 : j + 1 ≤ 9 := by
              rcases hcases with ⟨a1, a2, _⟩ | ⟨a1, _⟩ | ⟨a1, _⟩
              · simp only [bne_eq_false_iff_eq] at a2
                omega
              · simp only [beq_eq_false_iff_ne, ne_eq] at a1
                omega
              · simp only [beq_eq_false_iff_ne, ne_eq] at a1
                omega
            clear hs hf hok hbad
            generalize X + bt.toNat % 128 * 128 ^ j = NX at *
            have hNX' := hide hNX
            have h128' : ¬ ((bt.toNat : Int) < 128) := by omega
            clear h128 hX hNX
            rcases hcases with ⟨a1, a2, a3, a4⟩ | ⟨a1, a3, a4⟩ | ⟨a1, a3⟩
            all_goals (
              go_wp2_with fail
              go_round
              case rel => exact ⟨NX, j + 1, rfl, by go_num, hNX'.out, hj8, by omega, by rw [hf'.out]; exact hs'.out⟩
              case measure => simp [intOf]; omega)
      · obtain rfl : j = l.length := by omega
        rw [if_pos (by omega)] at hs
        rw [← hs] at hbad hok
        have hbad' := hide (hbad (by decide))
        clear hbad hok hs hX hf
        go_wp2
        exact hbad'.out
end Go.Proofs.Ytkgkppblkdihkaa

namespace Go.Proofs.Ytkgkppblkdihkaa
open Go.RowKit
attribute [local go_sem ↓] run_cutR

/-- 'r[:h]' of a row. -/
theorem run_headR (W : World) (a : Option Addr) (n c : Nat) (k : IntKind) (h : Int) (h0 : 0 ≤ h) (h1 : h ≤ c) :
    (Instr.slice 85 (.slice a n c) none (some (.int k h)) none).run Try.prog W = .ok (.slice (cutAt a c 0) h.toNat c) W := by
  rw [run_slice_h (P := Try.prog) (w := W) 85 a n c (by kernel_rfl) k h h0 h1]
  have hs : (sizeOf (Try.prog.elem 85)).run Try.prog W = .ok 1 W := by kernel_rfl
  rw [hs]
  simp [Result.andThen, sliced, cutAt]
attribute [local go_sem ↓] run_headR

set_option maxHeartbeats 2000000 in
set_option maxRecDepth 100000 in
theorem first_any {w : World} {A : Option Addr} {m c K : Nat} {n : Int} {cap : Array Value} {R : Ending → World → Prop} (hK : Entered K) (hc : m ≤ c)
    (hR : ∀ e w', R e w' → ∃ er, e = .returned (.int .i64 er))
    (hneg : n < 0 → R (.returned (.int .i64 13)) w) (hbig : (m : Int) < n → R (.returned (.int .i64 1)) w)
    (hok : ∀ k : Nat, n = (k : Int) → k ≤ m → Calls Try.prog K (#[.slice (cutAt A c 0) k c, .slice (cutAt A c k) (m - k) (c - k)] ++ cap) w.drew R) :
    Calls Try.prog 96 #[.slice A m c, .int .i64 n, .func (.func K) #[] cap] w R := by
  have hE := fun args W => hK args W
  by_cases h0 : n < 0
  · have H := hide (hneg h0)
    clear hneg hbig hok
    go_enter Try.func96, Try.ntmps96
    go_wp2
    exact H.out
  · by_cases h1 : (m : Int) < n
    · have H := hide (hbig h1)
      clear hneg hbig hok
      go_enter Try.func96, Try.ntmps96
      go_wp2
      exact H.out
    · obtain ⟨k, rfl⟩ := Int.eq_ofNat_of_zero_le (show 0 ≤ n by omega)
      have H := hide (hok k rfl (by omega))
      have i1 : (k : Int) ≤ (m : Int) := by omega
      have i2 : (k : Int) ≤ (c : Int) := by omega
      clear hneg hbig hok h0
      go_enter Try.func96, Try.ntmps96
      go_wp2
      go_still_tail 7, (by kernel_rfl)
      change wpList _ _ _ _ _ w.drew
      go_wp2_with fail
      refine H.out.mono ?_
      intro e w2 hr
      obtain ⟨er, rfl⟩ := hR _ _ hr
      go_wp2
      exact hr

theorem entered_count1 : Entered 91 := entered_of Try.func91 (by kernel_rfl) rfl
set_option maxHeartbeats 2000000 in
set_option maxRecDepth 100000 in
theorem count1_any {w : World} {A : Option Addr} {m c K x Bm Bk : Nat} {most : Int} {cap : Array Value} {R : Ending → World → Prop} (hK : Entered K) (hm : most ≤ 9223372036854775807) (hx : x < 18446744073709551616)
    (hBm : w.cell? ⟨Bm, 0, none⟩ = some (.int .i64 most)) (hBk : w.cell? ⟨Bk, 0, none⟩ = some (.func (.func K) #[] cap))
    (hR : ∀ e w', R e w' → ∃ er, e = .returned (.int .i64 er))
    (hbig : most < (x : Int) → R (.returned (.int .i64 6)) w)
    (hok : (x : Int) ≤ most → Calls Try.prog K (#[.int .i64 (x : Int), .slice A m c] ++ cap) w R) :
    Calls Try.prog 91 #[.int .u64 (x : Int), .slice A m c, .pointer (some ⟨Bm, 0, none⟩), .pointer (some ⟨Bk, 0, none⟩)] w R := by
  have hE := fun args W => hK args W
  by_cases h0 : most < 0
  · have H := hide (hbig (by omega))
    clear hbig hok hx
    go_enter Try.func91, Try.ntmps91
    go_wp2
    exact H.out
  · obtain ⟨k, rfl⟩ := Int.eq_ofNat_of_zero_le (show 0 ≤ most by omega)
    have hwk : IntKind.u64.wrap (k : Int) = (k : Int) := by rw [IntKind.wrap_u64]; omega
    by_cases h1 : (k : Int) < (x : Int)
    · have H := hide (hbig h1)
      clear hbig hok hx h0
      go_enter Try.func91, Try.ntmps91
      go_wp2
      exact H.out
    · have H := hide (hok (by omega))
      have hwx : IntKind.i64.wrap (x : Int) = (x : Int) := by rw [IntKind.wrap_i64]; omega
      clear hbig hok h0
      go_enter Try.func91, Try.ntmps91
      go_wp2_with fail
      refine H.out.mono ?_
      intro e w2 hr
      obtain ⟨er, rfl⟩ := hR _ _ hr
      go_wp2
      exact hr
end Go.Proofs.Ytkgkppblkdihkaa

namespace Go.Proofs.Ytkgkppblkdihkaa
open Go.RowKit
attribute [local go_sem ↓] run_cutR

theorem Num.scan_lt (l : List UInt8) (q : Nat) : (Num.scan l q).1 < 18446744073709551616 := (Num.scan_facts l q).1

set_option maxHeartbeats 2000000 in
set_option maxRecDepth 100000 in
theorem count_any {w : World} {A : Option Addr} {c K : Nat} {l : List UInt8} {most : Int} {cap : Array Value} {R : Ending → World → Prop} (hK : Entered K) (hm : most ≤ 9223372036854775807) (hb : Bytes w w.heap.size A l.length l) (hl : l.length ≤ 1000000) (hc : l.length ≤ c)
    (hR : ∀ e w', R e w' → ∃ er, e = .returned (.int .i64 er))
    (hbad : ∀ er w', Ext w w' → (Num.scan l 0).2.2 = er ∧ er ≠ 0 ∨ (Num.scan l 0).2.2 = 0 ∧ most < ((Num.scan l 0).1 : Int) ∧ er = 6 → R (.returned (.int .i64 er)) w')
    (hok : (Num.scan l 0).2.2 = 0 → ((Num.scan l 0).1 : Int) ≤ most → ∀ w', Ext w w' →
      Calls Try.prog K (#[.int .i64 (((Num.scan l 0).1 : Nat) : Int), .slice (cutAt A c (Num.scan l 0).2.1) (l.length - (Num.scan l 0).2.1) (c - (Num.scan l 0).2.1)] ++ cap) w' R) :
    Calls Try.prog 81 #[.slice A l.length c, .int .i64 most, .func (.func K) #[] cap] w R := by
  have hE1 := extNew w (.cells #[.int .i64 most] 3)
  have hE2 := extNew (w.alloc (.cells #[.int .i64 most] 3)) (.cells #[.func (.func K) #[] cap] 102)
  have hE := hE1.trans hE2
  have hBm : ((w.alloc (.cells #[.int .i64 most] 3)).alloc (.cells #[.func (.func K) #[] cap] 102)).cell? ⟨w.heap.size, 0, none⟩ = some (.int .i64 most) := (hE2.cell (by simp)).trans (cellNew w _ _ _ 0)
  have hBk : ((w.alloc (.cells #[.int .i64 most] 3)).alloc (.cells #[.func (.func K) #[] cap] 102)).cell? ⟨w.heap.size + 1, 0, none⟩ = some (.func (.func K) #[] cap) := by
    have := cellNew (w.alloc (.cells #[.int .i64 most] 3)) #[.func (.func K) #[] cap] 102 (0, 0) 0
    rwa [World.size_alloc] at this
  have H := hide (curNumber_any (K := 91) (cap := #[.pointer (some ⟨w.heap.size, 0, none⟩), .pointer (some ⟨w.heap.size + 1, 0, none⟩)]) (R := R) entered_count1 (hE.bytes hb) hl hc hR
    (fun h0 => count1_any hK hm (Num.scan_lt l 0) hBm hBk hR (fun h6 => hbad 6 _ hE (.inr ⟨h0, h6, rfl⟩)) (fun hle => hok h0 hle _ hE))
    (fun h0 => hbad _ _ hE (.inl ⟨rfl, h0⟩)))
  clear hbad hok hE1 hE2 hE hBm hBk hb
  go_enter Try.func81, Try.ntmps81
  go_wp2_with fail
  refine H.out.mono ?_
  intro e w2 hr
  obtain ⟨er, rfl⟩ := hR _ _ hr
  go_wp2
  exact hr

theorem entered_fixed1 : Entered 98 := entered_of Try.func98 (by kernel_rfl) rfl
theorem Num.low_snoc (l : List UInt8) (c : UInt8) : Num.low (l ++ [c]) = Num.low l + c.toNat * 256 ^ l.length := by
  induction l with
  | nil => simp [Num.low]
  | cons d l ih => rw [List.cons_append, Num.low, Num.low, ih, List.length_cons, Nat.pow_succ, Nat.mul_add, Nat.mul_comm 256 (c.toNat * 256 ^ l.length), Nat.mul_assoc, Nat.add_assoc]
theorem Num.low_take (l : List UInt8) (k : Nat) (h : k < l.length) : Num.low (l.take (k + 1)) = Num.low (l.take k) + (l.getD k 0).toNat * 256 ^ k := by
  rw [List.take_succ_eq_append_getElem h, Num.low_snoc, List.length_take, Nat.min_eq_left (by omega), List.getD_eq_getElem?_getD, List.getElem?_eq_getElem h]
  rfl
theorem Num.or_eight (X i : Nat) (c : UInt8) (hX : X < 256 ^ i) (hi : i < 8) :
    bits .or .u64 (X : Int) (IntKind.u64.wrap ((c.toNat : Int) * 2 ^ (8 * i))) = ((X + c.toNat * 256 ^ i : Nat) : Int) := by
  have hc := c.toNat_lt
  have hp : (256 : Nat) ^ i = 2 ^ (8 * i) := by rw [Nat.pow_mul]
  have hlt : c.toNat * 2 ^ (8 * i) < 2 ^ 64 := by
    have h2 : 2 ^ (8 * i) ≤ 2 ^ 56 := Nat.pow_le_pow_right (by decide) (by omega)
    have h3 : c.toNat * 2 ^ (8 * i) ≤ 255 * 2 ^ 56 := Nat.mul_le_mul (by omega) h2
    omega
  have e2 : IntKind.u64.wrap ((c.toNat : Int) * 2 ^ (8 * i)) = ((c.toNat * 2 ^ (8 * i) : Nat) : Int) := by
    have : (c.toNat : Int) * 2 ^ (8 * i) = ((c.toNat * 2 ^ (8 * i) : Nat) : Int) := by simp only [Int.natCast_mul, Int.natCast_pow]; rfl
    rw [this, IntKind.wrap_u64]
    omega
  have hX' : X < 2 ^ 64 := Nat.lt_of_lt_of_le hX (by rw [hp]; exact Nat.pow_le_pow_right (by decide) (by omega))
  rw [e2, u64_or_nat _ _ hX' hlt, hp, Nat.mul_comm c.toNat, Nat.or_comm, ← Nat.two_pow_add_eq_or_of_lt (by rw [← hp]; exact hX), Nat.add_comm]

set_option maxHeartbeats 2000000 in
set_option maxRecDepth 100000 in
theorem fixed1_any {w : World} {A A2 : Option Addr} {c m c2 K Bk : Nat} {l : List UInt8} {cap : Array Value} {R : Ending → World → Prop} (hK : Entered K) (hb : Bytes w w.heap.size A l.length l) (hl0 : 1 ≤ l.length) (hl : l.length ≤ 8)
    (hBk : w.cell? ⟨Bk, 0, none⟩ = some (.func (.func K) #[] cap)) (hR : ∀ e w', R e w' → ∃ er, e = .returned (.int .i64 er))
    (hok : Calls Try.prog K (#[.int .u64 ((Num.low l : Nat) : Int), .slice A2 m c2] ++ cap) w R) :
    Calls Try.prog 98 #[.slice A l.length c, .slice A2 m c2, .pointer (some ⟨Bk, 0, none⟩)] w R := by
  have hE := fun args W => hK args W
  have H := hide hok
  clear hok
  obtain ⟨_, hb⟩ := hb
  rcases hb with h0 | ⟨blk, off, rfl, hB, hcell⟩
  · omega
  go_enter Try.func98, Try.ntmps98
  go_wp2
  go_loop [6, 11] (fun x i => ∃ (X j : Nat), x = .int .u64 (X : Int) ∧ i = .int .i64 (j : Int) ∧ j ≤ l.length ∧ X = Num.low (l.take j)) (fun _ i => l.length - (intOf i).toNat)
  case atStart => exact ⟨0, 0, rfl, rfl, by omega, by simp [Num.low]⟩
  case round =>
    obtain ⟨X, j, rfl, rfl, hjl, hX⟩ := hrel
    by_cases hlt : j < l.length
    · have hcj := hcell j hlt
      have HT := hide (Num.low_take l j hlt)
      have hXl : X < 256 ^ j := by
        have := Num.low_lt (l.take j)
        rw [List.length_take, Nat.min_eq_left (by omega)] at this
        omega
      have hw8 : IntKind.i64.wrap (8 * (j : Int)) = ((8 * j : Nat) : Int) := by rw [IntKind.wrap_i64]; omega
      have HO := Num.or_eight X j (l.getD j 0) hXl (by omega)
      clear hcell hXl
      rw [← hX] at HT
      have hX' := hide hX
      clear hX
      generalize l.getD j 0 = bt at *
      have hbt := bt.toNat_lt
      generalize X + bt.toNat * 256 ^ j = NX at *
      go_wp2
      go_round
      case rel => exact ⟨NX, j + 1, rfl, by go_num, by omega, HT.out.symm⟩
      case measure => simp [intOf]; omega
    · obtain rfl : j = l.length := by omega
      rw [List.take_length] at hX
      subst hX
      clear hcell
      go_wp2_with fail
      refine H.out.mono ?_
      intro e w2 hr
      obtain ⟨er, rfl⟩ := hR _ _ hr
      go_wp2
      exact hr

set_option maxHeartbeats 2000000 in
set_option maxRecDepth 100000 in
theorem fixed_any {w : World} {A : Option Addr} {c K : Nat} {n : Int} {l : List UInt8} {cap : Array Value} {R : Ending → World → Prop} (hK : Entered K) (hb : Bytes w w.heap.size A l.length l) (hc : l.length ≤ c)
    (hR : ∀ e w', R e w' → ∃ er, e = .returned (.int .i64 er))
    (hbad : ∀ er w', Ext w w' → (n < 1 ∨ 8 < n) ∧ er = 13 ∨ 1 ≤ n ∧ n ≤ 8 ∧ (l.length : Int) < n ∧ er = 1 → R (.returned (.int .i64 er)) w')
    (hok : ∀ k : Nat, n = (k : Int) → 1 ≤ k → k ≤ 8 → k ≤ l.length → ∀ w', Ext w w' → Calls Try.prog K (#[.int .u64 ((Num.low (l.take k) : Nat) : Int), .slice (cutAt A c k) (l.length - k) (c - k)] ++ cap) w' R) :
    Calls Try.prog 90 #[.slice A l.length c, .int .i64 n, .func (.func K) #[] cap] w R := by
  have hE := extNew w (.cells #[.func (.func K) #[] cap] 97)
  by_cases h13 : n < 1 ∨ 8 < n
  · have H := hide (hbad 13 _ hE (.inl ⟨h13, rfl⟩))
    clear hbad hok hE hb
    rcases h13 with h | h
    · go_enter Try.func90, Try.ntmps90
      go_wp2
      exact H.out
    · have h' : ¬ (n < 1) := by omega
      go_enter Try.func90, Try.ntmps90
      go_wp2
      exact H.out
  · have hBk : (w.alloc (.cells #[.func (.func K) #[] cap] 97)).drew.cell? ⟨w.heap.size, 0, none⟩ = some (.func (.func K) #[] cap) := cellNew w _ _ (0, 0) 0
    have hEd := hE.drew
    have H := hide (first_any (w := w.alloc (.cells #[.func (.func K) #[] cap] 97)) (A := A) (m := l.length) (n := n) (K := 98) (cap := #[.pointer (some ⟨w.heap.size, 0, none⟩)]) (R := R) entered_fixed1 hc hR
      (fun h => absurd h (by omega)) (fun h => hbad 1 _ hE (.inr ⟨by omega, by omega, h, rfl⟩)) (fun k hk hkm => by
        have hbk := (hb.drop (k := 0) (c := c) (by omega) hc)
        rw [List.drop_zero, Nat.sub_zero] at hbk
        have h1 := hEd.bytes (hbk.take hkm)
        have hlk : (l.take k).length = k := by rw [List.length_take]; omega
        rw [← hlk] at h1
        have := fixed1_any (A := cutAt A c 0) (c := c) (A2 := cutAt A c k) (m := l.length - k) (c2 := c - k) (Bk := w.heap.size) hK (by rw [hlk] at h1 ⊢; exact h1) (by omega) (by omega) hBk hR (hok k hk (by omega) (by omega) hkm _ hEd)
        rwa [hlk] at this))
    have h1 : ¬ (n < 1) := by omega
    have h8 : ¬ (8 < n) := by omega
    clear hbad hok hE hBk hb hEd h13
    go_enter Try.func90, Try.ntmps90
    go_wp2_with fail
    refine H.out.mono ?_
    intro e w2 hr
    obtain ⟨er, rfl⟩ := hR _ _ hr
    go_wp2
    exact hr

theorem entered_text1 : Entered 95 := entered_of Try.func95 (by kernel_rfl) rfl
set_option maxHeartbeats 2000000 in
set_option maxRecDepth 100000 in
theorem text_any {w : World} {A : Option Addr} {c K : Nat} {l : List UInt8} {most : Int} {cap : Array Value} {R : Ending → World → Prop} (hK : Entered K) (hm : most ≤ 9223372036854775807) (hb : Bytes w w.heap.size A l.length l) (hl : l.length ≤ 1000000) (hc : l.length ≤ c)
    (hR : ∀ e w', R e w' → ∃ er, e = .returned (.int .i64 er))
    (hbad : ∀ er w', Ext w w' → (Num.scan l 0).2.2 = er ∧ er ≠ 0 ∨ (Num.scan l 0).2.2 = 0 ∧ most < ((Num.scan l 0).1 : Int) ∧ er = 6 ∨ (Num.scan l 0).2.2 = 0 ∧ ((Num.scan l 0).1 : Int) ≤ most ∧ l.length - (Num.scan l 0).2.1 < (Num.scan l 0).1 ∧ er = 1 → R (.returned (.int .i64 er)) w')
    (hok : (Num.scan l 0).2.2 = 0 → ((Num.scan l 0).1 : Int) ≤ most → (Num.scan l 0).1 ≤ l.length - (Num.scan l 0).2.1 → ∀ w', Ext w w' →
      Calls Try.prog K (#[.slice (cutAt (cutAt A c (Num.scan l 0).2.1) (c - (Num.scan l 0).2.1) 0) (Num.scan l 0).1 (c - (Num.scan l 0).2.1), .slice (cutAt (cutAt A c (Num.scan l 0).2.1) (c - (Num.scan l 0).2.1) (Num.scan l 0).1) (l.length - (Num.scan l 0).2.1 - (Num.scan l 0).1) (c - (Num.scan l 0).2.1 - (Num.scan l 0).1)] ++ cap) w' R) :
    Calls Try.prog 86 #[.slice A l.length c, .int .i64 most, .func (.func K) #[] cap] w R := by
  have hE := extNew w (.cells #[.func (.func K) #[] cap] 108)
  have hBk : (w.alloc (.cells #[.func (.func K) #[] cap] 108)).cell? ⟨w.heap.size, 0, none⟩ = some (.func (.func K) #[] cap) := cellNew w _ _ (0, 0) 0
  have H := hide (count_any (w := w.alloc (.cells #[.func (.func K) #[] cap] 108)) (K := 95) (cap := #[.pointer (some ⟨w.heap.size, 0, none⟩)]) (R := R) entered_text1 hm (hE.bytes hb) hl hc hR
    (fun er w' hE' h => hbad er w' (hE.trans hE') (by rcases h with h | h; exact .inl h; exact .inr (.inl h)))
    (fun h0 hle w' hE' => by
      have hBk' := (hE'.cell (i := 0) (by simp)).trans hBk
      have hn := Num.scan_facts l 0
      have F := hide (first_any (w := w') (A := cutAt A c (Num.scan l 0).2.1) (c := c - (Num.scan l 0).2.1) (m := l.length - (Num.scan l 0).2.1) (n := (((Num.scan l 0).1 : Nat) : Int)) (K := K) (cap := cap) (R := R) hK (by omega) hR
        (fun h => absurd h (by omega)) (fun h => hbad 1 w' (hE.trans hE') (.inr (.inr ⟨h0, hle, by omega, rfl⟩)))
        (fun k hk hkm => by
          obtain rfl : (Num.scan l 0).1 = k := by omega
          exact hok h0 hle hkm _ (hE.trans hE'.drew)))
      clear hbad hok hE hE' hb hn
      generalize cutAt A c (Num.scan l 0).2.1 = A' at *
      generalize c - (Num.scan l 0).2.1 = c' at *
      generalize l.length - (Num.scan l 0).2.1 = m' at *
      generalize (Num.scan l 0).1 = x at *
      show Calls Try.prog 95 #[_, _, _] _ _
      go_enter Try.func95, Try.ntmps95
      go_wp2_with fail
      refine F.out.mono ?_
      intro e w2 hr
      obtain ⟨er, rfl⟩ := hR _ _ hr
      go_wp2
      exact hr))
  clear hbad hok hE hBk hb
  go_enter Try.func86, Try.ntmps86
  go_wp2_with fail
  refine H.out.mono ?_
  intro e w2 hr
  obtain ⟨er, rfl⟩ := hR _ _ hr
  go_wp2
  exact hr
end Go.Proofs.Ytkgkppblkdihkaa

namespace Go.Proofs.Ytkgkppblkdihkaa
open Go.RowKit

/-- Whatever has come up, what it waits for has come up too. -/
def ShutUp (md : Region.Mode) (ops : Array Oper) (listed : Array Bool) : Prop := ∀ j oj, ops[j]? = some oj → listed.getD j false = true → ∀ e ∈ oj.after, Region.binds md e = true → listed.getD e.on false = true
def shutUpB (md : Region.Mode) (ops : Array Oper) (listed : Array Bool) : Bool :=
  (List.range ops.size).all fun j => !listed.getD j false || match ops[j]? with
    | some oj => oj.after.all fun e => !Region.binds md e || listed.getD e.on false
    | none => true
theorem shutUp_of {md : Region.Mode} {ops : Array Oper} {listed : Array Bool} (h : shutUpB md ops listed = true) : ShutUp md ops listed := by
  intro j oj hj hl e he hb
  have hlt := (Array.getElem?_eq_some_iff.1 hj).1
  unfold shutUpB at h
  rw [List.all_eq_true] at h
  have h1 := h j (List.mem_range.2 hlt)
  rw [hl, hj] at h1
  simp only [Bool.not_true, Bool.false_or, Array.all_eq_true_iff_forall_mem] at h1
  have h2 := h1 e he
  rw [hb] at h2
  simpa using h2
theorem ShutUp.set {md : Region.Mode} {ops : Array Oper} {listed : Array Bool} (h : ShutUp md ops listed) {j : Nat} (hj : j ∈ Region.ready md ops listed) : ShutUp md ops (listed.setIfInBounds j true) := by
  intro k ok hk hl e he hb
  by_cases hkj : j = k
  · subst hkj
    obtain ⟨_, o, ho, hall⟩ := mem_ready.1 hj
    obtain rfl : ok = o := Option.some.inj (hk.symm.trans ho)
    exact getD_set_true (hall e he hb)
  · rw [getD_set_ne false hkj] at hl
    exact getD_set_true (h k ok hk hl e he hb)
/-- i comes up ahead of n in every order. -/
def aheadB (md : Region.Mode) (ops : Array Oper) (n : Nat) : Nat → Nat → Bool
  | 0, i => Region.waitsFor md ops n i
  | f + 1, i => Region.waitsFor md ops n i || (List.range ops.size).any fun k => Region.waitsFor md ops k i && aheadB md ops n f k
theorem ShutUp.waits {md : Region.Mode} {ops : Array Oper} {listed : Array Bool} (h : ShutUp md ops listed) {j i : Nat} (hw : Region.waitsFor md ops j i = true) (hj : listed.getD j false = true) : listed.getD i false = true := by
  obtain ⟨oj, hoj, e, he, hb, rfl⟩ := Region.waitsFor_spec hw
  exact h j oj hoj hj e he hb
theorem ShutUp.ahead {md : Region.Mode} {ops : Array Oper} {listed : Array Bool} (h : ShutUp md ops listed) {n : Nat} (hn : listed.getD n false = true) : ∀ (f i : Nat), aheadB md ops n f i = true → listed.getD i false = true
  | 0, i, ha => h.waits ha hn
  | f + 1, i, ha => by
    unfold aheadB at ha
    rw [Bool.or_eq_true, List.any_eq_true] at ha
    rcases ha with ha | ⟨k, _, ha⟩
    · exact h.waits ha hn
    · rw [Bool.and_eq_true] at ha
      exact h.waits ha.1 (h.ahead hn f k ha.2)

section
variable {P : Program} {ops : Array Oper} {Q : Exit → Act → World → Prop} {md : Region.Mode} {S : World → Prop} {n : Nat}
/-- Whatever order is picked from here on; S holds till number n comes up. -/
def wpAnyT (P : Program) (md : Region.Mode) (ops : Array Oper) (Q : Exit → Act → World → Prop) (S : World → Prop) (n : Nat) : Nat → Array Bool → Act → World → Prop
  | 0, listed, a, w => Region.ready md ops listed = [] ∧ Q .normal a w
  | fuel + 1, listed, a, w =>
    (Region.ready md ops listed = [] → Q .normal a w) ∧
    ∀ i ∈ Region.ready md ops listed, wpOp P ops Q i (fun a' w' => ((listed.setIfInBounds i true).getD n false = false → S w') ∧ wpAnyT P md ops Q S n fuel (listed.setIfInBounds i true) a' w') a w
theorem wpAny_of_T : ∀ (fuel : Nat) (listed : Array Bool) (a : Act) (w : World), wpAnyT P md ops Q S n fuel listed a w → wpAny P md ops Q fuel listed a w
  | 0, _, _, _, h => h
  | fuel + 1, _, _, _, h => ⟨h.1, fun i hi => wpOp_mono (fun a' w' h' => wpAny_of_T fuel _ a' w' h'.2) (h.2 i hi)⟩
theorem wpAnyT_first {i : Nat} {oi : Oper} {v : Value} (hi : ops[i]? = some oi) (hsel : ∀ (j : Nat) (o : Oper) cs b, ops[j]? = some o → o.op ≠ .select cs b)
    (hQ : ∀ c a w, Q (.panic c) (a.put oi.dst v) w → Q (.panic c) a w) (hni : i ≠ n) {f : Nat} (hah : aheadB md ops n f i = true) :
    ∀ (fuel : Nat) (listed : Array Bool) (a : Act) (w : World),
      (∀ j oj, ops[j]? = some oj → j ≠ i → listed.getD j true = false → (∀ e ∈ oj.after, Region.binds md e = true → e.on ≠ i) → oi.apart ops oj = true) →
      i ∈ Region.ready md ops listed → ShutUp md ops listed → YieldsIf P ops S oi v a → S w →
      wpAnyT P md ops Q S n fuel (listed.setIfInBounds i true) (a.put oi.dst v) w → wpAnyT P md ops Q S n (fuel + 1) listed a w := by
  intro fuel
  induction fuel with
  | zero =>
    intro listed a w _ hr _ hy hS H
    refine ⟨fun h => (by rw [h] at hr; cases hr), fun j hj => ?_⟩
    by_cases hji : j = i
    · subst hji; exact hy.wpOp hi hS ⟨fun _ => hS, H⟩
    · have := ready_mono hj hji
      rw [H.1] at this
      cases this
  | succ fuel ih =>
    intro listed a w hfree hr hsh hy hS H
    refine ⟨fun h => (by rw [h] at hr; cases hr), fun j hj => ?_⟩
    by_cases hji : j = i
    · subst hji; exact hy.wpOp hi hS ⟨fun _ => hS, H⟩
    · have h1 := H.2 j (ready_mono hj hji)
      obtain ⟨hjun, oj, hoj, hall⟩ := mem_ready.1 hj
      have hiun := (mem_ready.1 hr).1
      have hiun' : listed.getD i false = false := getD_both hiun
      have hnot : ∀ e ∈ oj.after, Region.binds md e = true → e.on ≠ i := fun e he hb heq => by
        have h1 := hall e he hb
        rw [heq, hiun'] at h1
        cases h1
      have h2 := wpOp_putIf hoj (hfree j oj hoj hji hjun hnot) (fun cs b => hsel i oi cs b hi) (fun cs b => hsel j oj cs b hoj) hQ hy h1
      have hfree' : ∀ k ok, ops[k]? = some ok → k ≠ i → (listed.setIfInBounds j true).getD k true = false →
          (∀ e ∈ ok.after, Region.binds md e = true → e.on ≠ i) → oi.apart ops ok = true := fun k ok hk hki hun hno => by
        refine hfree k ok hk hki ?_ hno
        by_cases hjk : j = k
        · subst hjk; exact hjun
        · rw [getD_set_ne true hjk] at hun; exact hun
      have hsh' := hsh.set hj
      have hnun : (listed.setIfInBounds j true).getD n false = false := by
        cases hl : (listed.setIfInBounds j true).getD n false with
        | false => rfl
        | true =>
          have := hsh'.ahead hl f i hah
          rw [getD_set_ne false hji, hiun'] at this
          cases this
      refine wpOp_mono (fun a' w' h3 => ?_) h2
      have hS' : S w' := h3.2.1 (by rw [Array.setIfInBounds_comm _ _ (Ne.symm hji), getD_set_ne false hni]; exact hnun)
      refine ⟨fun _ => hS', ih (listed.setIfInBounds j true) a' w' hfree' (ready_mono hr (Ne.symm hji)) hsh' h3.1 hS' ?_⟩
      rw [Array.setIfInBounds_comm _ _ hji]
      exact h3.2.2
/-- Take number i first. -/
theorem wpAnyT_take (i : Nat) (d : Option Tmp) (v : Value) (listed' : Array Bool) {oi : Oper} {fuel : Nat} {listed : Array Bool} {a : Act} {w : World} (hi : ops[i]? = some oi) (hd : oi.dst = d) (hl : listed.setIfInBounds i true = listed')
    (hb : (Region.noSelect ops && Region.free md ops listed i && (Region.ready md ops listed).contains i && shutUpB md ops listed && aheadB md ops n ops.size i && !(i == n)) = true)
    (hQ : ∀ c a w, Q (.panic c) (a.put oi.dst v) w → Q (.panic c) a w) (hS : S w) (hw : Region.wanted oi (yielded ops a.tmps) = true) (hy : ∀ W, S W → (execOp a.eval oi).run P W = .ok (.value v) W)
    (h : wpAnyT P md ops Q S n fuel listed' (a.put d v) w) : wpAnyT P md ops Q S n (fuel + 1) listed a w := by
  subst hd
  subst hl
  simp only [Bool.and_eq_true, Bool.not_eq_true', beq_eq_false_iff_ne, ne_eq] at hb
  obtain ⟨⟨⟨⟨⟨hs, hf⟩, hr⟩, hc⟩, ha⟩, hn⟩ := hb
  exact wpAnyT_first hi (Region.noSelect_spec hs) hQ hn ha fuel listed a w (Region.free_spec hi hf) (by simpa using hr) (shutUp_of hc) (.inl ⟨hw, hy⟩) hS h
/-- Number i is not wanted: skip it first. -/
theorem wpAnyT_skip (i : Nat) (d : Option Tmp) (listed' : Array Bool) {oi : Oper} {fuel : Nat} {listed : Array Bool} {a : Act} {w : World} (hi : ops[i]? = some oi) (hd : oi.dst = d) (hl : listed.setIfInBounds i true = listed')
    (hb : (Region.noSelect ops && Region.free md ops listed i && (Region.ready md ops listed).contains i && shutUpB md ops listed && aheadB md ops n ops.size i && !(i == n)) = true)
    (hQ : ∀ c a w, Q (.panic c) (a.put oi.dst undef) w → Q (.panic c) a w) (hS : S w) (hw : Region.wanted oi (yielded ops a.tmps) = false)
    (h : wpAnyT P md ops Q S n fuel listed' (a.put d undef) w) : wpAnyT P md ops Q S n (fuel + 1) listed a w := by
  subst hd
  subst hl
  simp only [Bool.and_eq_true, Bool.not_eq_true', beq_eq_false_iff_ne, ne_eq] at hb
  obtain ⟨⟨⟨⟨⟨hs, hf⟩, hr⟩, hc⟩, ha⟩, hn⟩ := hb
  exact wpAnyT_first hi (Region.noSelect_spec hs) hQ hn ha fuel listed a w (Region.free_spec hi hf) (by simpa using hr) (shutUp_of hc) (.inr ⟨hw, rfl⟩) hS h
/-- One operation alone may come up. -/
theorem wpAnyT_only (i : Nat) (listed' : Array Bool) {o : Oper} {fuel : Nat} {listed : Array Bool} {a : Act} {w : World} (hr : Region.ready md ops listed = [i]) (ho : ops[i]? = some o) (hl : listed.setIfInBounds i true = listed') (hw : Region.wanted o (yielded ops a.tmps) = true)
    (h : ∀ K' : Act → World → Prop, (∀ a w, (listed'.getD n false = false → S w) → wpAnyT P md ops Q S n fuel listed' a w → K' a w) → Oper.wp P o a w K' Q) :
    wpAnyT P md ops Q S n (fuel + 1) listed a w := by
  subst hl
  refine ⟨fun h0 => by rw [h0] at hr; simp at hr, fun j hj => ?_⟩
  rw [hr] at hj
  obtain rfl : j = i := by simpa using hj
  exact wpOp_step ho (fun K' hK => by rw [if_pos hw]; exact h K' (fun a w hS hW => hK a w ⟨hS, hW⟩))
theorem wpAnyT_done {listed : Array Bool} {a : Act} {w : World} (hr : Region.ready md ops listed = []) (h : Q .normal a w) : ∀ fuel, wpAnyT P md ops Q S n fuel listed a w
  | 0 => ⟨hr, h⟩
  | _ + 1 => ⟨fun _ => h, by rw [hr]; simp⟩
/-- The beginning. -/
theorem wp_region_T {id : Nat} {a : Act} {w : World} (S : World → Prop) (n m : Nat) (listed : Array Bool) (hm : P.follows .mixedOrders = true) (hm' : ops.size = m) (hl : Array.replicate m false = listed) (hS : S w.drew)
    (h : S w.drew → wpAnyT P .any ops Q S n m listed a w.drew) : (Code.region id ops true).wp P Q a w :=
  wp_region_any hm (by rw [hm', hl]; exact wpAny_of_T _ _ _ _ (h hS))
end
end Go.Proofs.Ytkgkppblkdihkaa

namespace Go.Proofs.Ytkgkppblkdihkaa
open Go.RowKit

section
variable {P : Program} {ops : Array Oper} {Q : Exit → Act → World → Prop} {md : Region.Mode} {S : World → Prop} {n : Nat}
theorem wpAnyT_firstP {i : Nat} {oi : Oper} {v : Value} (hi : ops[i]? = some oi) (hsel : ∀ (j : Nat) (o : Oper) cs b, ops[j]? = some o → o.op ≠ .select cs b)
    (hQ : ∀ c a w, Q (.panic c) (a.put oi.dst v) w → Q (.panic c) a w) (hni : i ≠ n) :
    ∀ (fuel : Nat) (listed : Array Bool) (a : Act) (w : World),
      (∀ j oj, ops[j]? = some oj → j ≠ i → listed.getD j true = false → (∀ e ∈ oj.after, Region.binds md e = true → e.on ≠ i) → oi.apart ops oj = true) →
      i ∈ Region.ready md ops listed → YieldsIf P ops (fun _ => True) oi v a → (listed.getD n false = false → S w) →
      wpAnyT P md ops Q S n fuel (listed.setIfInBounds i true) (a.put oi.dst v) w → wpAnyT P md ops Q S n (fuel + 1) listed a w := by
  intro fuel
  induction fuel with
  | zero =>
    intro listed a w _ hr hy hS H
    refine ⟨fun h => (by rw [h] at hr; cases hr), fun j hj => ?_⟩
    by_cases hji : j = i
    · subst hji; exact hy.wpOp hi trivial ⟨fun h => hS (by rwa [getD_set_ne false hni] at h), H⟩
    · have := ready_mono hj hji
      rw [H.1] at this
      cases this
  | succ fuel ih =>
    intro listed a w hfree hr hy hS H
    refine ⟨fun h => (by rw [h] at hr; cases hr), fun j hj => ?_⟩
    by_cases hji : j = i
    · subst hji; exact hy.wpOp hi trivial ⟨fun h => hS (by rwa [getD_set_ne false hni] at h), H⟩
    · have h1 := H.2 j (ready_mono hj hji)
      obtain ⟨hjun, oj, hoj, hall⟩ := mem_ready.1 hj
      have hiun := (mem_ready.1 hr).1
      have hiun' : listed.getD i false = false := getD_both hiun
      have hnot : ∀ e ∈ oj.after, Region.binds md e = true → e.on ≠ i := fun e he hb heq => by
        have h1 := hall e he hb
        rw [heq, hiun'] at h1
        cases h1
      have h2 := wpOp_putIf hoj (hfree j oj hoj hji hjun hnot) (fun cs b => hsel i oi cs b hi) (fun cs b => hsel j oj cs b hoj) hQ hy h1
      have hfree' : ∀ k ok, ops[k]? = some ok → k ≠ i → (listed.setIfInBounds j true).getD k true = false →
          (∀ e ∈ ok.after, Region.binds md e = true → e.on ≠ i) → oi.apart ops ok = true := fun k ok hk hki hun hno => by
        refine hfree k ok hk hki ?_ hno
        by_cases hjk : j = k
        · subst hjk; exact hjun
        · rw [getD_set_ne true hjk] at hun; exact hun
      refine wpOp_mono (fun a' w' h3 => ?_) h2
      have hS' : (listed.setIfInBounds j true).getD n false = false → S w' := fun h => h3.2.1 (by rw [Array.setIfInBounds_comm _ _ (Ne.symm hji), getD_set_ne false hni]; exact h)
      refine ⟨hS', ih (listed.setIfInBounds j true) a' w' hfree' (ready_mono hr (Ne.symm hji)) h3.1 hS' ?_⟩
      rw [Array.setIfInBounds_comm _ _ hji]
      exact h3.2.2
/-- Take number i, which asks nothing of the world, first. -/
theorem wpAnyT_pure (i : Nat) (d : Option Tmp) (v : Value) (listed' : Array Bool) {oi : Oper} {fuel : Nat} {listed : Array Bool} {a : Act} {w : World} (hi : ops[i]? = some oi) (hd : oi.dst = d) (hl : listed.setIfInBounds i true = listed')
    (hb : (Region.noSelect ops && Region.free md ops listed i && (Region.ready md ops listed).contains i && !(i == n)) = true)
    (hQ : ∀ c a w, Q (.panic c) (a.put oi.dst v) w → Q (.panic c) a w) (hS : listed.getD n false = false → S w) (hw : Region.wanted oi (yielded ops a.tmps) = true) (hy : ∀ W, (execOp a.eval oi).run P W = .ok (.value v) W)
    (h : wpAnyT P md ops Q S n fuel listed' (a.put d v) w) : wpAnyT P md ops Q S n (fuel + 1) listed a w := by
  subst hd
  subst hl
  simp only [Bool.and_eq_true, Bool.not_eq_true', beq_eq_false_iff_ne, ne_eq] at hb
  obtain ⟨⟨⟨hs, hf⟩, hr⟩, hn⟩ := hb
  exact wpAnyT_firstP hi (Region.noSelect_spec hs) hQ hn fuel listed a w (Region.free_spec hi hf) (by simpa using hr) (.inl ⟨hw, fun W _ => hy W⟩) hS h
/-- Two operations may come up: both ways. -/
theorem wpAnyT_two (i j : Nat) (li lj : Array Bool) {oi oj : Oper} {fuel : Nat} {listed : Array Bool} {a : Act} {w : World} (hr : Region.ready md ops listed = [i, j]) (hoi : ops[i]? = some oi) (hoj : ops[j]? = some oj) (hli : listed.setIfInBounds i true = li) (hlj : listed.setIfInBounds j true = lj)
    (hwi : Region.wanted oi (yielded ops a.tmps) = true) (hwj : Region.wanted oj (yielded ops a.tmps) = true)
    (hi : ∀ K' : Act → World → Prop, (∀ a w, (li.getD n false = false → S w) → wpAnyT P md ops Q S n fuel li a w → K' a w) → Oper.wp P oi a w K' Q)
    (hj : ∀ K' : Act → World → Prop, (∀ a w, (lj.getD n false = false → S w) → wpAnyT P md ops Q S n fuel lj a w → K' a w) → Oper.wp P oj a w K' Q) :
    wpAnyT P md ops Q S n (fuel + 1) listed a w := by
  subst hli
  subst hlj
  refine ⟨fun h0 => by rw [h0] at hr; simp at hr, fun k hk => ?_⟩
  rw [hr] at hk
  simp only [List.mem_cons, List.not_mem_nil, or_false] at hk
  rcases hk with rfl | rfl
  · exact wpOp_step hoi (fun K' hK => by rw [if_pos hwi]; exact hi K' (fun a w hS hW => hK a w ⟨hS, hW⟩))
  · exact wpOp_step hoj (fun K' hK => by rw [if_pos hwj]; exact hj K' (fun a w hS hW => hK a w ⟨hS, hW⟩))
end
end Go.Proofs.Ytkgkppblkdihkaa

namespace Go.Proofs.Ytkgkppblkdihkaa
open Go.RowKit

theorem Num.scanF_drop (b : List UInt8) (q : Nat) : ∀ (f i x : Nat), Num.scanF b q f i x = ((Num.scanF (b.drop q) 0 f i x).1, q + (Num.scanF (b.drop q) 0 f i x).2.1, (Num.scanF (b.drop q) 0 f i x).2.2)
  | 0, _, _ => by simp [Num.scanF]
  | f + 1, i, x => by
    have hg : (b.drop q).getD (0 + i) 0 = b.getD (q + i) 0 := by simp [List.getD_eq_getElem?_getD]
    rw [Num.scanF, Num.scanF, hg, List.length_drop]
    by_cases h1 : b.length ≤ q + i
    · have h1' : b.length - q ≤ 0 + i := by omega
      simp only [if_pos h1, if_pos h1']; simp
    · have h1' : ¬ (b.length - q ≤ 0 + i) := by omega
      simp only [if_neg h1, if_neg h1']
      by_cases h2 : (i = 9 ∧ (b.getD (q + i) 0).toNat ≠ 1) ∨ (0 < i ∧ (b.getD (q + i) 0).toNat = 0)
      · simp only [if_pos h2]; simp
      · simp only [if_neg h2]
        by_cases h3 : (b.getD (q + i) 0).toNat < 128
        · simp only [if_pos h3]; simp; omega
        · simp only [if_neg h3]
          exact Num.scanF_drop b q f (i + 1) _
theorem Num.scan_drop (b : List UInt8) (q : Nat) : Num.scan b q = ((Num.scan (b.drop q) 0).1, q + (Num.scan (b.drop q) 0).2.1, (Num.scan (b.drop q) 0).2.2) := Num.scanF_drop b q 10 0 0

theorem entered_tell64 : Entered 88 := entered_of Try.func88 (by kernel_rfl) rfl
/-- The closure tells the number and takes its bytes; or an error. -/
theorem numGoes {w : World} {g r t Bt Bc q m c : Nat} {b : List UInt8} {A : Option Addr} (h : PC w g r b q 0) (hrow : w.cell? ⟨g, 0, none⟩ = some (.slice A m c)) (hBt : w.cell? ⟨Bt, 0, none⟩ = some (.pointer (some ⟨t, 0, none⟩))) (hBc : w.cell? ⟨Bc, 0, none⟩ = some (.pointer (some ⟨g, 0, none⟩)))
    (ht : Whole w t 40 #[.int .u64 0]) (htg : t ≠ g) (htr : t ≠ r) (hct : Bc ≠ t) (hcg : Bc ≠ g) :
    Calls Try.prog 77 #[.slice A m c, .func (.func 88) #[] #[.pointer (some ⟨Bt, 0, none⟩), .pointer (some ⟨Bc, 0, none⟩)]] w
      fun e w' => e = .returned (.int .i64 (Num.numR b q 0).2.2) ∧ Told w g r t 40 b (.int .u64 (((Num.numR b q 0).1 : Nat) : Int)) (Num.numR b q 0).2.1 w' := by
  obtain ⟨A0, c0, d0, _, _, _, _, _, hc0, hR0⟩ := h.cells
  rw [hrow] at d0
  simp only [Option.some.injEq, Value.slice.injEq] at d0
  obtain ⟨rfl, rfl, rfl⟩ := d0
  have hl := h.bounds
  have hN : Num.numR b q 0 = Num.scan b q := rfl
  have hd := Num.scan_drop b q
  have hf := Num.scan_facts (b.drop q) 0
  have hlen : (b.drop q).length = b.length - q := List.length_drop
  rw [hN, hd]
  have := curNumber_any (w := w) (A := A) (c := c) (l := b.drop q) (K := 88) (cap := #[.pointer (some ⟨Bt, 0, none⟩), .pointer (some ⟨Bc, 0, none⟩)])
    (R := fun e w' => e = .returned (.int .i64 (Num.scan (b.drop q) 0).2.2) ∧ Told w g r t 40 b (.int .u64 (((Num.scan (b.drop q) 0).1 : Nat) : Int)) (q + (Num.scan (b.drop q) 0).2.1) w')
    entered_tell64 (by rw [hlen]; exact hR0.bytes) (by omega) (by omega) (fun e w' he => ⟨_, he.1⟩)
    (fun h0 => by
      obtain ⟨h1, h2⟩ := hf.2.1 h0
      rw [h0]
      have hRd := hR0.drop (k := (Num.scan (b.drop q) 0).2.1) (by omega) hc0
      rw [List.drop_drop, Nat.sub_sub] at hRd
      rw [hlen, Nat.sub_sub]
      exact tell64_any h (by omega) (by omega) hBt hBc ht htg htr hct hcg hRd (by omega))
    (fun h0 => by
      obtain ⟨h1, h2⟩ := hf.2.2.1 h0
      rw [h1, h2]
      exact ⟨rfl, Told.refl h ht⟩)
  rwa [hlen] at this

set_option maxHeartbeats 2000000 in
set_option maxRecDepth 100000 in
theorem num1_any {w : World} {g r t B0 q : Nat} {b : List UInt8} (h : PC w g r b q 0) (hB0 : w.cell? ⟨B0, 0, none⟩ = some (.pointer (some ⟨g, 0, none⟩))) (ht : Whole w t 40 #[.int .u64 0]) (htg : t ≠ g) (htr : t ≠ r) :
    Calls Try.prog 76 #[.pointer (some ⟨B0, 0, none⟩), .pointer (some ⟨t, 0, none⟩)] w
      fun e w' => e = .returned (.int .i64 (Num.numR b q 0).2.2) ∧ Told w g r t 40 b (.int .u64 (((Num.numR b q 0).1 : Nat) : Int)) (Num.numR b q 0).2.1 w' := by
  obtain ⟨A, c, c0, x1, x2, x3, x4, x5, hc, hR⟩ := h.cells
  clear x1 x2 x3 x4 x5
  have hglt := h.lt
  have htlt := ht.lt
  have hBlt := World.block_lt_of_cell? w ⟨B0, 0, none⟩ hB0
  have HP := hide h
  have HT := hide ht
  clear h ht hR hc
  go_enter Try.func76, Try.ntmps76
  go_wp2
  refine wp_region_T (fun W => W.cell? ⟨B0, 0, none⟩ = some (.pointer (some ⟨g, 0, none⟩)) ∧ W.cell? ⟨g, 0, none⟩ = some (.slice A (b.length - q) c)) 6 8 #[false, false, false, false, false, false, false, false] (by kernel_rfl) rfl rfl ⟨hB0, c0⟩ ?_
  intro hS0
  refine wpAnyT_take 0 (some 3) (.pointer (some ⟨g, 0, none⟩)) #[true, false, false, false, false, false, false, false] rfl rfl rfl (by kernel_rfl) (fun _ _ _ h => h) hS0 (by rfl) (fun W ⟨s0, s1⟩ => by go_simp) ?_
  simp only [Act.put, List.setIfInBounds_toArray, List.set_cons_zero, List.set_cons_succ]
  refine wpAnyT_take 1 (some 4) (.pointer (some ⟨g, 0, none⟩)) #[true, true, false, false, false, false, false, false] rfl rfl rfl (by kernel_rfl) (fun _ _ _ h => h) hS0 (by rfl) (fun W ⟨s0, s1⟩ => by go_simp) ?_
  simp only [Act.put, List.setIfInBounds_toArray, List.set_cons_zero, List.set_cons_succ]
  refine wpAnyT_take 2 (some 5) (.pointer (some ⟨g, 0, none⟩)) #[true, true, true, false, false, false, false, false] rfl rfl rfl (by kernel_rfl) (fun _ _ _ h => h) hS0 (by rfl) (fun W ⟨s0, s1⟩ => by go_simp) ?_
  simp only [Act.put, List.setIfInBounds_toArray, List.set_cons_zero, List.set_cons_succ]
  refine wpAnyT_take 3 (some 6) (.slice A (b.length - q) c) #[true, true, true, true, false, false, false, false] rfl rfl rfl (by kernel_rfl) (fun _ _ _ h => h) hS0 (by rfl) (fun W ⟨s0, s1⟩ => by go_simp) ?_
  simp only [Act.put, List.setIfInBounds_toArray, List.set_cons_zero, List.set_cons_succ]
  refine wpAnyT_take 4 (some 7) (.pointer (some ⟨g, 0, none⟩)) #[true, true, true, true, true, false, false, false] rfl rfl rfl (by kernel_rfl) (fun _ _ _ h => h) hS0 (by rfl) (fun W ⟨s0, s1⟩ => by go_simp) ?_
  simp only [Act.put, List.setIfInBounds_toArray, List.set_cons_zero, List.set_cons_succ]
  refine wpAnyT_only 5 #[true, true, true, true, true, true, false, false] (by kernel_rfl) rfl rfl (by rfl) (fun K hK => ?_)
  go_simp
  refine (taker64_any g t _).mono ?_
  rintro e w2 ⟨Bt, Bc, rfl, _, hBc1, hBt, hBc, hE2'⟩
  have hE2 : Ext w w2 := (Ext.refl w).drew.trans hE2'
  have k0 := (hE2.cell (i := 0) hBlt).trans hB0
  have k1 := (hE2.cell (i := 0) hglt).trans c0
  change w.heap.size ≤ Bc at hBc1
  refine hK _ _ (fun _ => ⟨k0, k1⟩) ?_
  clear hK K
  refine wpAnyT_only 6 #[true, true, true, true, true, true, true, false] (by kernel_rfl) rfl rfl (by rfl) (fun K hK => ?_)
  go_simp
  refine (numGoes (HP.out.ext hE2) k1 hBt hBc (HT.out.ext hE2) htg htr (by omega) (by omega)).mono ?_
  rintro e w3 ⟨rfl, hT3⟩
  refine hK _ _ (fun h => absurd h (by decide)) ?_
  clear hK K
  refine wpAnyT_only 7 #[true, true, true, true, true, true, true, true] (by kernel_rfl) rfl rfl (by rfl) (fun K hK => ?_)
  go_simp
  refine hK _ _ (fun h => absurd h (by decide)) ?_
  refine wpAnyT_done (by kernel_rfl) ?_ _
  go_wp2
  go_ret
  exact ⟨rfl, Told.from hE2 hT3⟩
end Go.Proofs.Ytkgkppblkdihkaa

namespace Go.Proofs.Ytkgkppblkdihkaa
open Go.RowKit

/-- Behind a call of the program's cursor. -/
def PcTo (w : World) (g r : Nat) (b : List UInt8) (q : Nat) (e : Int) (w' : World) : Prop := PC w' g r b q e ∧ Mod w w' g none
theorem PcTo.refl {w : World} {g r q : Nat} {b : List UInt8} {e : Int} (h : PC w g r b q e) : PcTo w g r b q e w := ⟨h, Mod.refl _ _ _⟩
theorem PcTo.ext {w w' : World} {g r q : Nat} {b : List UInt8} {e : Int} (h : PC w g r b q e) (hE : Ext w w') : PcTo w g r b q e w' := ⟨h.ext hE, Mod.ofExt hE⟩
theorem PcTo.then {w w' w'' : World} {g r q' q'' : Nat} {b : List UInt8} {e' e'' : Int} (h : PcTo w g r b q' e' w') (k : PcTo w' g r b q'' e'' w'') : PcTo w g r b q'' e'' w'' := ⟨k.1, h.2.trans k.2 (.inl rfl)⟩
/-- The result stands in a cell. -/
theorem results_cell_one {fn : Func} {p : Tmp} {ty : TypeId} (h : fn.results = #[.cell p ty]) (tmps : Array Value) {w : World} {t : Nat} {v : Value} (hp : tmps.getD p undef = .pointer (some ⟨t, 0, none⟩)) (hv : ∀ W : World, W.cell? ⟨t, 0, none⟩ = some v → (loadVar ty ⟨t, 0, none⟩).run Try.prog W = .ok v W)
    (hc : w.cell? ⟨t, 0, none⟩ = some v) : (results fn tmps).run Try.prog w = .ok v w := by
  have hp' : tmps[p]?.getD undef = .pointer (some ⟨t, 0, none⟩) := by simpa using hp
  simp [results, h, hp', asAddr, hv w hc]

theorem load_u64 (t : Nat) (v : Value) (W : World) (h : W.cell? ⟨t, 0, none⟩ = some v) : (loadVar 40 ⟨t, 0, none⟩).run Try.prog W = .ok v W := by
  go_simp
theorem load_int (t : Nat) (v : Value) (W : World) (h : W.cell? ⟨t, 0, none⟩ = some v) : (loadVar 3 ⟨t, 0, none⟩).run Try.prog W = .ok v W := by
  go_simp
/-- What is told is stored once more, at the end. -/
theorem PC.atEnd {w : World} {g r t q : Nat} {b : List UInt8} {e : Int} (h : PC w g r b q e) (htg : t ≠ g) (htr : t ≠ r) (v : Value) : PC (w.setCell ⟨t, 0, none⟩ v) g r b q e :=
  h.told (Mod.ofOwn (grown_setCell w t 0 v)) ((grown_setCell w t 0 v).block g h.lt (by simpa using fun e => htg e.symm)) htr
theorem Mod.atEnd {w w1 w2 : World} {g t : Nat} (hE : Ext w w1) (hM : Mod w1 w2 g (some t)) (ht : w.heap.size ≤ t) (v : Value) : Mod w (w2.setCell ⟨t, 0, none⟩ v) g none :=
  (Mod.ofExt hE).trans (hM.trans (Mod.ofOwn (grown_setCell w2 t 0 v)) (.inl rfl)) (.inr ⟨t, rfl, ht⟩)

theorem read_told {w : World} {g r t q q' K : Nat} {T : TypeId} {b : List UInt8} {v : Value} {er : Int} {cap : Array Value} (hK : Entered K) (h : PC w g r b q 0) (htg : t ≠ g)
    (hC : Calls Try.prog K cap w fun e' w' => e' = .returned (.int .i64 er) ∧ Told w g r t T b v q' w') :
    Calls Try.prog 75 #[.pointer (some ⟨g, 0, none⟩), .func (.func K) #[] cap] w fun e' w' => e' = .returned (.tuple #[]) ∧ PC w' g r b q' er ∧ Whole w' t T #[v] ∧ Mod w w' g (some t) := by
  refine (read_any (R := fun er' w' => er' = er ∧ Told w g r t T b v q' w') hK h (hC.mono ?_)).mono ?_
  · rintro e' w' ⟨rfl, hT⟩
    exact ⟨er, q', rfl, hT.1, rfl, hT⟩
  · rintro e' w' ⟨rfl, er', _, w2, _, ⟨rfl, hT⟩, rfl⟩
    exact ⟨rfl, hT.1.setErr, hT.2.1.far htg 2 _, hT.2.2.trans (Mod.ofRow (grown_setCell w2 g 2 _)) (.inl rfl)⟩

theorem entered_num1 : Entered 76 := entered_of Try.func76 (by kernel_rfl) rfl
set_option maxHeartbeats 2000000 in
set_option maxRecDepth 100000 in
theorem pcNum_any {w : World} {g r q : Nat} {b : List UInt8} {e : Int} (h : PC w g r b q e) :
    Calls Try.prog 65 #[.pointer (some ⟨g, 0, none⟩)] w fun e' w' => e' = .returned (.int .u64 (((Num.numR b q e).1 : Nat) : Int)) ∧ PcTo w g r b (Num.numR b q e).2.1 (Num.numR b q e).2.2 w' := by
  have hglt := h.lt
  have hrlt := h.rlt
  have hE1 := extNew w (.cells #[.pointer (some ⟨g, 0, none⟩)] 62)
  have hE2 := extNew (w.alloc (.cells #[.pointer (some ⟨g, 0, none⟩)] 62)) (.cells #[.int .u64 0] 40)
  have hE := hE1.trans hE2
  have hP := h.ext hE
  have hB0 : ((w.alloc (.cells #[.pointer (some ⟨g, 0, none⟩)] 62)).alloc (.cells #[.int .u64 0] 40)).cell? ⟨w.heap.size, 0, none⟩ = some (.pointer (some ⟨g, 0, none⟩)) := (hE2.cell (by simp)).trans (cellNew w _ _ _ 0)
  have ht := Whole.new (w.alloc (.cells #[.pointer (some ⟨g, 0, none⟩)] 62)) 40 #[.int .u64 0]
  rw [World.size_alloc] at ht
  by_cases he : e = 0
  · subst he
    have C := read_told (q' := (Num.numR b q 0).2.1) (er := (Num.numR b q 0).2.2) (v := .int .u64 (((Num.numR b q 0).1 : Nat) : Int)) entered_num1 hP (t := w.heap.size + 1) (by omega) (num1_any hP hB0 ht (by omega) (by omega))
    generalize Num.numR b q 0 = res at *
    obtain ⟨x, q', er⟩ := res
    dsimp only at *
    have HE := hide hE
    clear hP hB0 ht hE1 hE2 hE h
    go_enter Try.func65, Try.ntmps65
    go_wp2_with fail
    refine C.mono ?_
    rintro e' w2 ⟨rfl, hP2, hW2, hM2⟩
    have t0 : w2.cell? ⟨w.heap.size + 1, 0, none⟩ = some (.int .u64 (x : Int)) := hW2.cell 0
    have t1 := hW2.frozen 0
    go_wp2
    refine bodyPost_ret (results_cell_one rfl _ rfl (load_u64 _ _) ((hW2.set 0 _).cell 0)) rfl ⟨rfl, hP2.atEnd (by omega) (by omega) _, ?_⟩
    exact Mod.atEnd HE.out hM2 (by omega) _
  · have HN := hide (show Num.numR b q e = (0, q, e) by unfold Num.numR; rw [if_neg he])
    have C := read_stuck (K := 76) (cap := #[.pointer (some ⟨w.heap.size, 0, none⟩), .pointer (some ⟨w.heap.size + 1, 0, none⟩)]) hP he
    have t0 := ht.cell 0
    have t1 := ht.frozen 0
    have HP := hide hP
    have HE := hide hE
    have HT := hide ht
    clear hP hB0 ht hE1 hE2 hE h he
    go_enter Try.func65, Try.ntmps65
    go_wp2_with fail
    refine C.mono ?_
    rintro e' w2 ⟨rfl, rfl⟩
    go_wp2
    rw [HN.out]
    refine bodyPost_ret (results_cell_one rfl _ rfl (load_u64 _ _) (HT.out.cell 0)) rfl ⟨rfl, HP.out, Mod.ofExt HE.out⟩

/-- Of no cursor: nothing. -/
theorem pcNum_nil (w : World) : Calls Try.prog 65 #[.pointer none] w fun e' w' => e' = .returned (.int .u64 0) ∧ Ext w w' := by
  have hE1 := extNew w (.cells #[.pointer none] 62)
  have hE2 := extNew (w.alloc (.cells #[.pointer none] 62)) (.cells #[.int .u64 0] 40)
  have HE := hide (hE1.trans hE2)
  have ht := Whole.new (w.alloc (.cells #[.pointer none] 62)) 40 #[.int .u64 0]
  rw [World.size_alloc] at ht
  have t0 := ht.cell 0
  have t1 := ht.frozen 0
  have HT := hide ht
  have C := read_nil (w := (w.alloc (.cells #[.pointer none] 62)).alloc (.cells #[.int .u64 0] 40)) (K := 76) (cap := #[.pointer (some ⟨w.heap.size, 0, none⟩), .pointer (some ⟨w.heap.size + 1, 0, none⟩)])
  clear hE1 hE2 ht
  go_enter Try.func65, Try.ntmps65
  go_wp2_with fail
  refine C.mono ?_
  rintro e' w2 ⟨rfl, rfl⟩
  go_wp2
  exact bodyPost_ret (results_cell_one rfl _ rfl (load_u64 _ _) (HT.out.cell 0)) rfl ⟨rfl, HE.out⟩
end Go.Proofs.Ytkgkppblkdihkaa

namespace Go.Proofs.Ytkgkppblkdihkaa
open Go.RowKit

set_option maxHeartbeats 1000000 in
theorem slicesClone_any (A : Option Addr) (n c : Nat) (l : List UInt8) (w : World) (hc : n ≤ c) (hn : n ≤ 140737488355328) (hb : Bytes w w.heap.size A n l) :
    Calls Try.prog 71 #[.slice A n c] w (MadeB w l) := by
  have hnil := fun (W : World) (a : Option Addr) (n c n' c' : Nat) => Lib.run_eql_slice_nil (P := Try.prog) W 32 5 a n c n' c' Try.underlying32
  rcases A with _ | ad
  · have hl : l = [] := by
      rcases hb.2 with h0 | ⟨_, _, h, _⟩
      · exact List.eq_nil_of_length_eq_zero (by rw [hb.1, h0])
      · cases h
    subst hl
    have hn0 : n = 0 := hb.1.symm
    subst hn0
    go_enter Try.func71, Try.ntmps71
    go_wp2
    go_ret
    exact ⟨_, rfl, OwnB.nil _ _, Ext.refl _⟩
  · have ho := OwnB.empty w (Nat.le_refl _)
    have hb' := (extNew w (.cells #[] 5)).bytes hb
    have hB : w.heap.size ≤ (w.alloc (.cells #[] 5)).heap.size := by simp
    have hl0 : ([] : List UInt8).length + n ≤ 140737488355328 := by simpa using hn
    have hE := extNew w (.cells #[] 5)
    go_enter Try.func71, Try.ntmps71
    go_wp2_with (at_builtin; refine wpList_app rfl (.tmp 5) (.tmp 6) rfl rfl ho rfl hb' hl0 hB ?_; intro v1 w1 hown1 hg1)
    go_ret
    exact ⟨v1, rfl, hown1, ho.below hE hg1 hB⟩
end Go.Proofs.Ytkgkppblkdihkaa

namespace Go.Proofs.Ytkgkppblkdihkaa
open Go.RowKit

/-- A cursor is made of bytes of the call's own. -/
theorem PC.new {w : World} {base : Nat} {v : Value} {b : List UInt8} (h : OwnB w base v b) (hl : b.length ≤ 1000000) :
    ∃ r, PC (w.alloc (.cells #[v, .int .i64 0, .int .i64 0] 87)) w.heap.size r b 0 0 := by
  have hO := h.ext (extNew w (.cells #[v, .int .i64 0, .int .i64 0] 87))
  have hW := Whole.new w 87 #[v, .int .i64 0, .int .i64 0]
  rcases h.2 with ⟨rfl, h0⟩ | ⟨x, cap, cur, rfl, hb, hx, hn, _⟩
  · have hnil := List.eq_nil_of_length_eq_zero h0
    subst hnil
    exact ⟨w.heap.size, none, 0, hW, by simp, ⟨rfl, .inl rfl⟩, by simp, by simp, by simp⟩
  · have hxl := (Array.getElem?_eq_some_iff.1 hx).1
    refine ⟨x, some ⟨x, 0, none⟩, cap, hW, by simpa using hn, ⟨by simp, ?_⟩, by simp; omega, by simp, hl⟩
    refine .inr ⟨by omega, 0, rfl, fun i hi => ?_⟩
    rw [Nat.zero_add, List.drop_zero]
    exact (hO.cell (by simpa using hi)).1

theorem pcNew_any (A : Option Addr) (n c : Nat) (b : List UInt8) (w : World) (hc : n ≤ c) (hn : n ≤ 1000000) (hb : Bytes w w.heap.size A n b) :
    Calls Try.prog 56 #[.slice A n c] w fun e w' => ∃ g r, e = .returned (.pointer (some ⟨g, 0, none⟩)) ∧ w.heap.size ≤ g ∧ PC w' g r b 0 0 ∧ Ext w w' := by
  have hll := hb.1
  subst hll
  have C := slicesClone_any A b.length c b w hc (by omega) hb
  go_enter Try.func56, Try.ntmps56
  go_wp2_with fail
  refine C.mono ?_
  rintro e w1 ⟨v, rfl, hO, hE⟩
  obtain ⟨r, hP⟩ := PC.new hO hn
  have hB := hE.le
  obtain ⟨A1, n1, c1, rfl, _⟩ := hO.form'
  go_wp2
  go_ret
  exact ⟨w1.heap.size, r, rfl, hB, hP, hE.trans (extNew w1 _)⟩

theorem pcLeft_any {w : World} {g r q : Nat} {b : List UInt8} {e : Int} (h : PC w g r b q e) :
    Calls Try.prog 57 #[.pointer (some ⟨g, 0, none⟩)] w fun e' w' => e' = .returned (.int .i64 ((b.length - q : Nat) : Int)) ∧ w = w' := by
  obtain ⟨A, c, c0, _, _, _, _, _, hc, hR⟩ := h.cells
  clear hR h
  go_enter Try.func57, Try.ntmps57
  go_wp2
  go_ret
  exact ⟨rfl, rfl⟩
theorem pcAt_any {w : World} {g r q : Nat} {b : List UInt8} {e : Int} (h : PC w g r b q e) :
    Calls Try.prog 51 #[.pointer (some ⟨g, 0, none⟩)] w fun e' w' => e' = .returned (.int .i64 (q : Int)) ∧ w = w' := by
  obtain ⟨A, c, c0, c1, _, _, _, _, hc, hR⟩ := h.cells
  clear hR h
  go_enter Try.func51, Try.ntmps51
  go_wp2
  go_ret
  exact ⟨rfl, rfl⟩
theorem pcErr_any {w : World} {g r q : Nat} {b : List UInt8} {e : Int} (h : PC w g r b q e) :
    Calls Try.prog 38 #[.pointer (some ⟨g, 0, none⟩)] w fun e' w' => e' = .returned (.int .i64 e) ∧ w = w' := by
  obtain ⟨A, c, c0, c1, c2, _, _, _, hc, hR⟩ := h.cells
  clear hR h
  go_enter Try.func38, Try.ntmps38
  go_wp2
  go_ret
  exact ⟨rfl, rfl⟩
theorem pcLeft_nil (w : World) : Calls Try.prog 57 #[.pointer none] w fun e' w' => e' = .returned (.int .i64 0) ∧ w = w' := by
  go_enter Try.func57, Try.ntmps57
  go_wp2
  go_ret
  exact ⟨rfl, rfl⟩
theorem pcAt_nil (w : World) : Calls Try.prog 51 #[.pointer none] w fun e' w' => e' = .returned (.int .i64 0) ∧ w = w' := by
  go_enter Try.func51, Try.ntmps51
  go_wp2
  go_ret
  exact ⟨rfl, rfl⟩
theorem pcErr_nil (w : World) : Calls Try.prog 38 #[.pointer none] w fun e' w' => e' = .returned (.int .i64 13) ∧ w = w' := by
  go_enter Try.func38, Try.ntmps38
  go_wp2
  go_ret
  exact ⟨rfl, rfl⟩

theorem entered_fail1 : Entered 83 := entered_of Try.func83 (by kernel_rfl) rfl
theorem fail1_any {w : World} {B : Nat} {e : Int} (hB : w.cell? ⟨B, 0, none⟩ = some (.int .i64 e)) : Calls Try.prog 83 #[.pointer (some ⟨B, 0, none⟩)] w fun e' w' => e' = .returned (.int .i64 e) ∧ w = w' := by
  go_enter Try.func83, Try.ntmps83
  go_wp2
  go_ret
  exact ⟨rfl, rfl⟩
theorem pcFail_any {w : World} {g r q : Nat} {b : List UInt8} {e : Int} (h : PC w g r b q e) (e2 : Int) :
    Calls Try.prog 69 #[.pointer (some ⟨g, 0, none⟩), .int .i64 e2] w fun e' w' => e' = .returned (.tuple #[]) ∧ PcTo w g r b q (Num.failR e e2) w' := by
  have hE := extNew w (.cells #[.int .i64 e2] 24)
  have hP := h.ext hE
  have hB : (w.alloc (.cells #[.int .i64 e2] 24)).cell? ⟨w.heap.size, 0, none⟩ = some (.int .i64 e2) := cellNew w _ _ _ 0
  by_cases he : e = 0
  · subst he
    have C := read_any (R := fun er w' => er = e2 ∧ w.alloc (.cells #[.int .i64 e2] 24) = w') entered_fail1 hP ((fail1_any hB).mono (by rintro e' w' ⟨rfl, rfl⟩; exact ⟨e2, q, rfl, hP, rfl, rfl⟩))
    have HR := hide (show Num.failR 0 e2 = e2 from rfl)
    have HP := hide hP
    have HE := hide hE
    clear hB hP hE h
    go_enter Try.func69, Try.ntmps69
    go_wp2_with fail
    refine C.mono ?_
    rintro e' w2 ⟨rfl, er, q', w3, _, ⟨rfl, rfl⟩, rfl⟩
    go_wp2
    go_end0
    rw [HR.out]
    exact ⟨rfl, HP.out.setErr, (Mod.ofExt HE.out).trans (Mod.ofRow (grown_setCell _ g 2 _)) (.inl rfl)⟩
  · have HR := hide (show Num.failR e e2 = e by unfold Num.failR; rw [if_neg he])
    have C := read_stuck (K := 83) (cap := #[.pointer (some ⟨w.heap.size, 0, none⟩)]) hP he
    have HP := hide hP
    have HE := hide hE
    clear hB hP hE h he
    go_enter Try.func69, Try.ntmps69
    go_wp2_with fail
    refine C.mono ?_
    rintro e' w2 ⟨rfl, rfl⟩
    go_wp2
    go_end0
    rw [HR.out]
    exact ⟨rfl, HP.out, Mod.ofExt HE.out⟩
theorem pcFail_nil (w : World) (e2 : Int) : Calls Try.prog 69 #[.pointer none, .int .i64 e2] w fun e' w' => e' = .returned (.tuple #[]) ∧ Ext w w' := by
  have C := read_nil (w := w.alloc (.cells #[.int .i64 e2] 24)) (K := 83) (cap := #[.pointer (some ⟨w.heap.size, 0, none⟩)])
  have HE := hide (extNew w (.cells #[.int .i64 e2] 24))
  go_enter Try.func69, Try.ntmps69
  go_wp2_with fail
  refine C.mono ?_
  rintro e' w2 ⟨rfl, rfl⟩
  go_wp2
  go_end0
  exact ⟨rfl, HE.out⟩

end Go.Proofs.Ytkgkppblkdihkaa

