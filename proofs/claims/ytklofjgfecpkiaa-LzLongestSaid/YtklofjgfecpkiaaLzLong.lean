/- LzLongest, under what the program tells; the document's Size. -/
import Derived.Test.YtklofjgfecpkiaaLzLaw
import Derived.Test.YtklofjgfecpkiaaLzPlace
namespace Go.Proofs.Ytklofjgfecpkiaa
open Go.RowKit Lz

theorem ToksAt.head {w : World} {B : Nat} {A : Option Addr} {n k : Nat} {L : List TokV} (h : ToksAt w B A n L) (hk : k ≤ n) : ToksAt w B A k (L.take k) := by
  refine ⟨by rw [List.length_take, h.1]; omega, ?_⟩
  rcases h.2 with h0 | ⟨b, off, e, hb, hc⟩
  · exact .inl (by omega)
  · refine .inr ⟨b, off, e, hb, fun i hi => ?_⟩
    have e2 : (L.take k).getD i default = L.getD i default := by simp [List.getD_eq_getElem?_getD, hi]
    rw [e2]
    exact hc i (by omega)
theorem run_headT (W : World) (g : Nat) (n c : Nat) (k : IntKind) (h : Int) (h0 : 0 ≤ h) (h1 : h ≤ c) :
    (Instr.slice 25 (.slice (some ⟨g, 0, none⟩) n c) none (some (.int k h)) none).run Try.prog W = .ok (.slice (some ⟨g, 0, none⟩) h.toNat c) W := by
  rw [run_slice_h (P := Try.prog) (w := W) 25 (some ⟨g, 0, none⟩) n c (by kernel_rfl) k h h0 h1]
  have hs : (sizeOf (Try.prog.elem 25)).run Try.prog W = .ok 3 W := by kernel_rfl
  rw [hs]
  simp [Result.andThen, sliced, Addr.add]
attribute [local go_sem ↓] run_headT

set_option maxHeartbeats 2000000 in
set_option maxRecDepth 100000 in
theorem refSize_any (A : Option Addr) (n c : Nat) (L : List TokV) (most : Nat) (w : World) (hn : n ≤ 3000) (hm : most ≤ 1073741824) (h : ToksAt w w.heap.size A n L) (hmay : ∀ i, i < n → may (L.getD i default) = true) (hsum : ∀ i, i ≤ n → sumSz (L.take i) ≤ most) :
    Calls Try.prog 18 #[.slice A n c, .int .i64 (most : Int)] w fun e w' => e = .returned (.int .i64 (sumSz L : Nat)) ∧ Ext w w' := by
  have hl := h.1
  subst hl
  have H := hide h
  have HMay := hide hmay
  have HSum := hide hsum
  have HNx := hide (show ∀ i, i < L.length → sumSz (L.take (i + 1)) = sumSz (L.take i) + sizeT (L.getD i default) from fun i hi => sumSz_next hi)
  have HAll := hide (show sumSz (L.take L.length) = sumSz L by rw [List.take_length])
  have H0 := hide (show sumSz (L.take 0) = 0 from rfl)
  clear h hmay hsum
  go_enter Try.func18, Try.ntmps18
  go_wp2
  go_loopw [5, 6] (fun s x wr => ∃ i u : Nat, i ≤ L.length ∧ x = .int .i64 (i : Int) ∧ s = .int .i64 (u : Int) ∧ u = sumSz (L.take i) ∧ Ext w wr) (fun _ x _ => L.length - (intOf x).toNat)
  case atStart => exact ⟨0, 0, by omega, rfl, rfl, H0.out.symm, Ext.refl _⟩
  case round =>
    obtain ⟨i, u, hi, rfl, rfl, hu, hE⟩ := hrel
    by_cases hlt : i < L.length
    · have hiI : (i : Int) < (L.length : Int) := by omega
      rcases (H.out.later hE).2 with h0 | ⟨b1, o1, rfl, _, hc1⟩
      · omega
      obtain ⟨c0, c1', c2'⟩ := (hc1 i hlt).1.cells
      have hsm := size_small (HMay.out i hlt)
      have hnx := HNx.out i hlt
      have hle := HSum.out (i + 1) (by omega)
      rw [hnx, ← hu] at hle
      rw [← hu] at hnx
      have hsz : sizeT (L.getD i default) = if (L.getD i default).len = 0 then 1 else (L.getD i default).len.toNat := rfl
      generalize sizeT (L.getD i default) = sz at *
      generalize (L.getD i default).len = tn at *
      have HNx2 := hide hnx
      clear hc1 hnx hu c0 c2'
      obtain ⟨hs1, hs2⟩ := hsm
      by_cases h0 : tn = 0
      · rw [if_pos h0] at hsz
        subst h0
        subst hsz
        have hgo : ¬ (most : Int) < (u : Int) + 1 := by omega
        clear hs1 hs2
        go_wp2
        go_roundw
        case rel => exact ⟨i + 1, u + 1, by omega, by go_num, by go_num, HNx2.out.symm, hE⟩
        case measure => simp [intOf]; omega
      · rw [if_neg h0] at hsz
        obtain ⟨N, rfl⟩ := Int.eq_ofNat_of_zero_le (show 0 ≤ tn by omega)
        rw [Int.toNat_natCast] at hsz
        subst hsz
        have hn0 : (0 : Int) < (sz : Int) := by omega
        have hn300 : (sz : Int) < 300 := by omega
        have hgo : ¬ (most : Int) < (u : Int) + (sz : Int) := by omega
        clear hs1 hs2 h0
        go_wp2
        go_roundw
        case rel => exact ⟨i + 1, u + sz, by omega, by go_num, by go_num, HNx2.out.symm, hE⟩
        case measure => simp [intOf]; omega
    · obtain rfl : L.length = i := by omega
      rw [HAll.out] at hu
      have HU := hide hu
      clear hu
      go_wp2
      go_ret
      exact ⟨ret_i64 (by rw [HU.out]), hE⟩

theorem Lz.tmodN (a b : Nat) : ((a : Int)).tmod (b : Int) = ((a % b : Nat) : Int) := by rw [Int.tmod_eq_emod_of_nonneg (by omega)]; exact (Int.natCast_emod a b).symm
set_option maxHeartbeats 4000000 in
set_option maxRecDepth 100000 in
theorem lzLongest_walk0 (wh di : Nat) (A : Option Addr) (n c : Nat) (b : List UInt8) (w : World) (hF : FindC w) (hwh : wh ≤ 65535) (hdi : di ≤ 65535) (hn : n ≤ c) (hc : c ≤ maxLen) (h : Bytes w w.heap.size A n b) :
    Calls Try.prog 7 #[.slice A n c, .int .u16 (wh : Int), .int .u16 (di : Int)] w fun e w' => e = .returned (.bool true) ∧ Ext w w' := by
  have C0 := alive10_any hF (Ext.refl w)
  by_cases hbig : 3000 < n
  · have hbI : (3000 : Int) < (n : Int) := by omega
    go_enter Try.func7, Try.ntmps7
    go_wp2_with fail
    refine C0.mono ?_
    rintro e w1 ⟨rfl, hE1⟩
    go_wp2
    go_ret
    exact ⟨rfl, hE1⟩
  have hbI : ¬ (3000 : Int) < (n : Int) := by omega
  by_cases hn0 : n = 0
  · subst hn0
    go_enter Try.func7, Try.ntmps7
    go_wp2_with fail
    refine C0.mono ?_
    rintro e w1 ⟨rfl, hE1⟩
    go_wp2
    go_ret
    exact ⟨rfl, hE1⟩
  have hn0I : ((n : Int) == 0) = false := by rw [beq_eq_false_iff_ne]; omega
  have hl := h.1
  subst hl
  have hlen := toks_len b 0
  have hpos : 0 < (toks b 0).length := by rw [toks_next (by omega)]; simp
  have hok := toks_ok b 0
  have HMay := hide (show ∀ i, i < (toks b 0).length → may ((toks b 0).getD i default) = true from fun i hi => toks_may b 0 _ (by
    rw [List.getD_eq_getElem?_getD, List.getElem?_eq_getElem hi]
    exact List.getElem_mem hi))
  have HNth := hide (show ∀ i, i < (toks b 0).length → sumSz ((toks b 0).take i) < b.length ∧ (toks b 0).getD i default = tokAt b (sumSz ((toks b 0).take i)) from fun i hi => by
    have := nth_tok b i 0 hi
    rwa [Nat.zero_add] at this)
  have H := hide h
  have HF := hide hF
  clear h hF
  go_enter Try.func7, Try.ntmps7
  go_wp2_with fail
  refine C0.mono ?_
  rintro e w1 ⟨rfl, hE1⟩
  have C1 := HF.out b A b.length c w1 hE1 hn hc (by omega) (hE1.bytes H.out)
  unfold MadeTk at C1
  clear C0
  generalize toks b 0 = L at *
  go_wp2_with fail
  refine C1.mono ?_
  rintro e w2 ⟨v2, rfl, hO2, hE2⟩
  have hF2 := hE1.trans hE2
  obtain ⟨A2, c2, rfl, h2c, h2m, h2⟩ := hO2.at hok
  rcases h2.2 with h0 | ⟨g2, o2, rfl, _, _⟩
  · omega
  obtain rfl : o2 = 0 := by
    obtain ⟨A9, c9, e9, h9⟩ := hO2.form
    simp only [Value.slice.injEq] at e9
    obtain ⟨e9, _, _⟩ := e9
    rcases h9 with h9 | ⟨g9, e10, _⟩
    · omega
    · rw [e10] at e9
      simp only [Option.some.injEq, Addr.mk.injEq, and_true] at e9
      exact e9.2
  have hk : wh % L.length < L.length := Nat.mod_lt _ hpos
  have htm := tmodN wh L.length
  generalize wh % L.length = k at *
  have hL0 : ((L.length : Int) == 0) = false := by rw [beq_eq_false_iff_ne]; omega
  have hLp : (0 : Int) < (L.length : Int) := by omega
  have CS := refSize_any (some ⟨g2, 0, none⟩) k c2 (L.take k) b.length w2 (by omega) (by omega) (h2.head (by omega)) (fun i hi => by
    have e : (L.take k).getD i default = L.getD i default := by simp [List.getD_eq_getElem?_getD, hi]
    rw [e]
    exact HMay.out i (by omega)) (fun i hi => by
    rw [List.take_take, Nat.min_eq_left hi]
    exact Nat.le_of_lt (HNth.out i (by omega)).1)
  obtain ⟨hat, htk⟩ := HNth.out k hk
  have H2 := hide h2
  have HTk := hide htk
  have hkc : (k : Int) ≤ (c2 : Int) := by omega
  have hLn : L.length ≤ 3000 := by omega
  generalize sumSz (L.take k) = p at *
  have hdm : di % 4095 < 4095 := Nat.mod_lt _ (by omega)
  have hdt : (di : Int) % 4095 = ((di % 4095 : Nat) : Int) := by omega
  generalize di % 4095 = dd at *
  clear C1 hO2 h2 hok htk HMay HNth
  have hpI0 : ¬ (p : Int) < 0 := by omega
  have hpI1 : ¬ (b.length : Int) ≤ (p : Int) := by omega
  have hpI2 : (p : Int) < (b.length : Int) := by omega
  by_cases hdp : dd + 1 ≤ p
  · have hdpI : ¬ (p : Int) < 1 + (dd : Int) := by omega
    have HTL := hide (tok_long (b := b) (p := p) (d := dd + 1) (by omega) hdp (by omega))
    go_wp2_with fail
    refine CS.mono ?_
    rintro e w3 ⟨rfl, hE3⟩
    clear CS
    go_wp2_with fail
    go_loopw [11] (fun x wq => ∃ j : Nat, j ≤ 257 ∧ x = .int .i64 (j : Int) ∧ runF b p (dd + 1) (257 - j) j = run b p (dd + 1) ∧ Qt w3 wq) (fun x _ => 258 - (intOf x).toNat)
    case atStart => exact ⟨0, by omega, rfl, rfl, Qt.refl _⟩
    case round =>
      obtain ⟨j, hj, rfl, hrun, hQ⟩ := hrel
      have HRun := hide hrun
      clear hrun
      by_cases hj257 : j < 257
      · have hkI : (j : Int) < 257 := by omega
        have hkd : decide ((j : Int) < 257) = true := decide_eq_true hkI
        by_cases hpk : p + j < b.length
        · have hpkI : (p : Int) + (j : Int) < (b.length : Int) := by omega
          have hpkd : decide ((p : Int) + (j : Int) < (b.length : Int)) = true := decide_eq_true hpkI
          by_cases he : b.getD (p + j - (dd + 1)) 0 = b.getD (p + j) 0
          · rcases (((hF2.trans hE3).trans hQ.ext).bytes H.out).2 with h0 | ⟨b1, o1, rfl, _, hc⟩
            · omega
            have e1 := hc (p + j - (dd + 1)) (by omega)
            have e2 := hc (p + j) hpk
            have hix : ((p : Int) + (j : Int) - (1 + (dd : Int))) = ((p + j - (dd + 1) : Nat) : Int) := by omega
            have hix0 : (0 : Int) ≤ (p : Int) + (j : Int) - (1 + (dd : Int)) := by omega
            clear hc
            have HOn := hide (Lz.run_on hj257 ⟨hpk, he⟩)
            rw [he] at e1
            have hy8 := UInt8.toNat_lt (b.getD (p + j) 0)
            generalize (b.getD (p + j) 0).toNat = y at *
            clear he
            go_wp2_with fail
            go_quiet (fail)
            go_wp2
            go_roundw
            case rel => exact ⟨j + 1, by omega, by go_num, by rw [← HOn.out]; exact HRun.out, hQ.drewN _⟩
            case measure => simp [intOf]; omega
          · have HRk := hide (show run b p (dd + 1) = j by rw [← HRun.out]; exact Lz.run_off hj257 (fun h => he h.2))
            have hne : (b.getD (p + j - (dd + 1)) 0).toNat ≠ (b.getD (p + j) 0).toNat := fun e => he (UInt8.toNat_inj.1 e)
            have hy8 := UInt8.toNat_lt (b.getD (p + j - (dd + 1)) 0)
            have hz8 := UInt8.toNat_lt (b.getD (p + j) 0)
            rcases (((hF2.trans hE3).trans hQ.ext).bytes H.out).2 with h0 | ⟨b1, o1, rfl, _, hc⟩
            · omega
            have e1 := hc (p + j - (dd + 1)) (by omega)
            have e2 := hc (p + j) hpk
            have hix : ((p : Int) + (j : Int) - (1 + (dd : Int))) = ((p + j - (dd + 1) : Nat) : Int) := by omega
            have hix0 : (0 : Int) ≤ (p : Int) + (j : Int) - (1 + (dd : Int)) := by omega
            generalize (b.getD (p + j - (dd + 1)) 0).toNat = y at *
            generalize (b.getD (p + j) 0).toNat = z at *
            have hyz : ((y : Int) == (z : Int)) = false := by rw [beq_eq_false_iff_ne]; omega
            clear he hne hc
            have hFe := hF2.trans (hE3.trans hQ.ext)
            obtain ⟨f1, f2⟩ := HTL.out
            have hRk := HRk.out
            rw [hRk] at f1 f2
            rcases (H2.out.later (hE3.trans hQ.ext)).2 with h0 | ⟨g9, o9, e9, _, hcT⟩
            · omega
            simp only [Option.some.injEq, Addr.mk.injEq, and_true] at e9
            obtain ⟨rfl, rfl⟩ := e9
            obtain ⟨c0, c1', c2'⟩ := (hcT k hk).1.cells
            rw [HTk.out] at c0 c1' c2'
            rw [Nat.zero_add] at c0 c1' c2'
            rcases (hFe.bytes H.out).2 with h0 | ⟨bb, ob, e8, _, hcb⟩
            · omega
            simp only [Option.some.injEq, Addr.mk.injEq, and_true] at e8
            obtain ⟨rfl, rfl⟩ := e8
            have eb := hcb p hat
            clear hcT hcb hRk HRk
            generalize tokAt b p = t at *
            obtain ⟨tl, tn, td⟩ := t
            dsimp only at f1 f2 c0 c1' c2'
            by_cases t0 : tn = 0
            · obtain ⟨g1, g2'⟩ := f1 t0
              have hj3 : (j : Int) < 3 := by omega
              have hj3d : decide ((j : Int) < 3) = true := decide_eq_true hj3
              rw [← g2'] at eb
              subst t0
              clear f1 f2 g1 g2'
              go_wp2_with fail
              go_quiet (fail)
              go_wp2_with fail
              go_quiet (fail)
              go_wp2
              go_ret
              exact ⟨rfl, (hFe.drewN _).drewN _⟩
            · have t0b : (tn == 0) = false := by rw [beq_eq_false_iff_ne]; exact t0
              have f3 := f2 t0
              clear f1 f2
              by_cases f4 : (j : Int) < tn
              · clear f3
                go_wp2_with fail
                go_quiet (fail)
                go_wp2
                go_ret
                exact ⟨rfl, hFe.drewN _⟩
              · have f5 : tn = (j : Int) := by omega
                have f6 : td ≤ 1 + (dd : Int) := by omega
                subst f5
                clear f3
                go_wp2_with fail
                go_quiet (fail)
                go_wp2
                go_ret
                exact ⟨rfl, hFe.drewN _⟩
        · have hpkd : decide ((p : Int) + (j : Int) < (b.length : Int)) = false := decide_eq_false (by omega)
          have HRk := hide (show run b p (dd + 1) = j by rw [← HRun.out]; exact Lz.run_off hj257 (fun h => hpk h.1))
          have hFe := hF2.trans (hE3.trans hQ.ext)
          obtain ⟨f1, f2⟩ := HTL.out
          have hRk := HRk.out
          rw [hRk] at f1 f2
          rcases (H2.out.later (hE3.trans hQ.ext)).2 with h0 | ⟨g9, o9, e9, _, hcT⟩
          · omega
          simp only [Option.some.injEq, Addr.mk.injEq, and_true] at e9
          obtain ⟨rfl, rfl⟩ := e9
          obtain ⟨c0, c1', c2'⟩ := (hcT k hk).1.cells
          rw [HTk.out] at c0 c1' c2'
          rw [Nat.zero_add] at c0 c1' c2'
          rcases (hFe.bytes H.out).2 with h0 | ⟨bb, ob, rfl, _, hcb⟩
          · omega
          have eb := hcb p hat
          clear hcT hcb hRk HRk
          generalize tokAt b p = t at *
          obtain ⟨tl, tn, td⟩ := t
          dsimp only at f1 f2 c0 c1' c2'
          by_cases t0 : tn = 0
          · obtain ⟨g1, g2'⟩ := f1 t0
            have hj3 : (j : Int) < 3 := by omega
            have hj3d : decide ((j : Int) < 3) = true := decide_eq_true hj3
            rw [← g2'] at eb
            subst t0
            clear f1 f2 g1 g2'
            go_wp2_with fail
            go_quiet (fail)
            go_wp2_with fail
            go_quiet (fail)
            go_wp2
            go_ret
            exact ⟨rfl, (hFe.drewN _).drewN _⟩
          · have t0b : (tn == 0) = false := by rw [beq_eq_false_iff_ne]; exact t0
            have f3 := f2 t0
            clear f1 f2
            by_cases f4 : (j : Int) < tn
            · clear f3
              go_wp2_with fail
              go_quiet (fail)
              go_wp2
              go_ret
              exact ⟨rfl, hFe.drewN _⟩
            · have f5 : tn = (j : Int) := by omega
              have f6 : td ≤ 1 + (dd : Int) := by omega
              subst f5
              clear f3
              go_wp2_with fail
              go_quiet (fail)
              go_wp2
              go_ret
              exact ⟨rfl, hFe.drewN _⟩
      · have hj2 : j = 257 := by omega
        have hkd : decide ((j : Int) < 257) = false := decide_eq_false (by omega)
        have HRk := hide (show run b p (dd + 1) = j by rw [← HRun.out, hj2]; rfl)
        have hjg : 257 ≤ j := by omega
        clear hj2
        have hFe := hF2.trans (hE3.trans hQ.ext)
        obtain ⟨f1, f2⟩ := HTL.out
        have hRk := HRk.out
        rw [hRk] at f1 f2
        rcases (H2.out.later (hE3.trans hQ.ext)).2 with h0 | ⟨g9, o9, e9, _, hcT⟩
        · omega
        simp only [Option.some.injEq, Addr.mk.injEq, and_true] at e9
        obtain ⟨rfl, rfl⟩ := e9
        obtain ⟨c0, c1', c2'⟩ := (hcT k hk).1.cells
        rw [HTk.out] at c0 c1' c2'
        rw [Nat.zero_add] at c0 c1' c2'
        rcases (hFe.bytes H.out).2 with h0 | ⟨bb, ob, rfl, _, hcb⟩
        · omega
        have eb := hcb p hat
        clear hcT hcb hRk HRk
        generalize tokAt b p = t at *
        obtain ⟨tl, tn, td⟩ := t
        dsimp only at f1 f2 c0 c1' c2'
        by_cases t0 : tn = 0
        · obtain ⟨g1, g2'⟩ := f1 t0
          omega
        · have t0b : (tn == 0) = false := by rw [beq_eq_false_iff_ne]; exact t0
          have f3 := f2 t0
          clear f1 f2
          by_cases f4 : (j : Int) < tn
          · clear f3
            go_wp2_with fail
            go_quiet (fail)
            go_wp2
            go_ret
            exact ⟨rfl, hFe.drewN _⟩
          · have f5 : tn = (j : Int) := by omega
            have f6 : td ≤ 1 + (dd : Int) := by omega
            subst f5
            clear f3
            go_wp2_with fail
            go_quiet (fail)
            go_wp2
            go_ret
            exact ⟨rfl, hFe.drewN _⟩
  · have hdpI : (p : Int) < 1 + (dd : Int) := by omega
    go_wp2_with fail
    refine CS.mono ?_
    rintro e w3 ⟨rfl, hE3⟩
    clear CS
    go_wp2
    go_ret
    exact ⟨rfl, hF2.trans hE3⟩
end Go.Proofs.Ytklofjgfecpkiaa
