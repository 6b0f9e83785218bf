/- The document's May and Play of chapter 10. -/
import Derived.Test.YtklofjgfecpkiaaLzMath
import Derived.Test.YtklofjgfecpkiaaRow2
import Derived.BigQuiet
namespace Go.Proofs.Ytklofjgfecpkiaa
open Go.RowKit Lz

/-- A token as a value. -/
def tokV (t : TokV) : Value := .agg #[.int .u8 (t.lit.toNat : Int), .int .i64 t.len, .int .i64 t.dist]
theorem Lz.may_lit {t : TokV} (h : t.len = 0) : may t = decide (t.dist = 0) := by unfold may; rw [if_pos h]
theorem Lz.may_match {t : TokV} (h : t.len ≠ 0) : may t = decide (t.lit = 0 ∧ 3 ≤ t.len ∧ t.len ≤ 257 ∧ 1 ≤ t.dist ∧ t.dist ≤ 4095) := by unfold may; rw [if_neg h]

set_option maxHeartbeats 2000000 in
set_option maxRecDepth 100000 in
theorem refTMay_any (t : TokV) (w : World) : Calls Try.prog 17 #[tokV t] w fun e w' => e = .returned (.bool (may t)) ∧ Ext w w' := by
  have hE1 := extNew w (.cells #[.int .u8 (t.lit.toNat : Int), .int .i64 t.len, .int .i64 t.dist] 36)
  have hW1 := Whole.new w 36 #[.int .u8 (t.lit.toNat : Int), .int .i64 t.len, .int .i64 t.dist]
  have c0 := hW1.at 0 rfl
  have c1 := hW1.at 1 rfl
  have c2 := hW1.at 2 rfl
  have hl8 := UInt8.toNat_lt t.lit
  have HLit := hide (show t.lit.toNat = 0 ↔ t.lit = 0 from ⟨fun h => UInt8.toNat_inj.1 h, fun h => by rw [h]; rfl⟩)
  unfold tokV
  by_cases h0 : t.len = 0
  · have HM := hide (may_lit h0)
    generalize may t = res at *
    obtain ⟨tl, tn, td⟩ := t
    dsimp only at *
    subst h0
    by_cases hd : td = 0
    · have HR := hide (show res = true by rw [HM.out]; exact decide_eq_true hd)
      subst hd
      clear HM HLit
      go_enter Try.func17, Try.ntmps17
      go_wp2
      go_ret
      exact ⟨ret_bool HR.out.symm, hE1⟩
    · have HR := hide (show res = false by rw [HM.out]; exact decide_eq_false hd)
      have hdb : (td == 0) = false := by rw [beq_eq_false_iff_ne]; exact hd
      clear HM HLit
      go_enter Try.func17, Try.ntmps17
      go_wp2
      go_ret
      exact ⟨ret_bool HR.out.symm, hE1⟩
  · have HM := hide (may_match h0)
    generalize may t = res at *
    obtain ⟨tl, tn, td⟩ := t
    dsimp only at *
    have h0b : (tn == 0) = false := by rw [beq_eq_false_iff_ne]; exact h0
    have HNo := hide (show ¬ (tl = 0 ∧ 3 ≤ tn ∧ tn ≤ 257 ∧ 1 ≤ td ∧ td ≤ 4095) → res = false from fun h => by rw [HM.out]; exact decide_eq_false h)
    have HYes := hide (show (tl = 0 ∧ 3 ≤ tn ∧ tn ≤ 257 ∧ 1 ≤ td ∧ td ≤ 4095) → res = true from fun h => by rw [HM.out]; exact decide_eq_true h)
    obtain ⟨y, hy⟩ : ∃ y, y = tl.toNat := ⟨_, rfl⟩
    rw [← hy] at c0 c1 c2 hE1 hl8 HLit ⊢
    clear HM hy hW1
    by_cases g1 : y = 0
    · have hl0 := HLit.out.1 g1
      subst g1
      by_cases g2 : 3 ≤ tn
      · by_cases g3 : tn ≤ 257
        · by_cases g4 : 1 ≤ td
          · by_cases g5 : td ≤ 4095
            · have HR := hide (HYes.out ⟨hl0, g2, g3, g4, g5⟩)
              clear HYes HNo HLit hl0
              go_enter Try.func17, Try.ntmps17
              go_wp2
              go_ret
              exact ⟨ret_bool HR.out.symm, hE1⟩
            · have HR := hide (HNo.out fun h => g5 h.2.2.2.2)
              clear HYes HNo HLit hl0
              go_enter Try.func17, Try.ntmps17
              go_wp2
              go_ret
              exact ⟨ret_bool HR.out.symm, hE1⟩
          · have HR := hide (HNo.out fun h => g4 h.2.2.2.1)
            clear HYes HNo HLit hl0
            go_enter Try.func17, Try.ntmps17
            go_wp2
            go_ret
            exact ⟨ret_bool HR.out.symm, hE1⟩
        · have HR := hide (HNo.out fun h => g3 h.2.2.1)
          clear HYes HNo HLit hl0
          go_enter Try.func17, Try.ntmps17
          go_wp2
          go_ret
          exact ⟨ret_bool HR.out.symm, hE1⟩
      · have HR := hide (HNo.out fun h => g2 h.2.1)
        clear HYes HNo HLit hl0
        go_enter Try.func17, Try.ntmps17
        go_wp2
        go_ret
        exact ⟨ret_bool HR.out.symm, hE1⟩
    · have HR := hide (HNo.out fun h => g1 (HLit.out.2 h.1))
      have hyb : ((y : Int) == 0) = false := by rw [beq_eq_false_iff_ne]; omega
      clear HYes HNo HLit
      go_enter Try.func17, Try.ntmps17
      go_wp2
      go_ret
      exact ⟨ret_bool HR.out.symm, hE1⟩

theorem Lz.copy_snoc (d : Nat) : ∀ k out, copy d (k + 1) out = copy d k out ++ [(copy d k out).getD ((copy d k out).length - d) 0]
  | 0, out => rfl
  | k + 1, out => by
    rw [copy, copy_snoc d k (out ++ [out.getD (out.length - d) 0])]
    rfl
/-- Behind a call that tells bytes and an error. -/
def PlayTo (w : World) (r : List UInt8 × Int) (e : Ending) (w' : World) : Prop := ∃ v, e = .returned (.tuple #[v, .int .i64 r.2]) ∧ OwnB w' w.heap.size v r.1 ∧ Ext w w'
theorem Lz.play_bad {most : Int} {t : TokV} {r : List TokV} {out : List UInt8} (h : may t = false) : playR most (t :: r) out = ([], 7) := by rw [playR, if_pos h]
theorem Lz.play_far {most : Int} {t : TokV} {r : List TokV} {out : List UInt8} (h : may t = true) (h2 : (out.length : Int) < t.dist) : playR most (t :: r) out = ([], 8) := by rw [playR, if_neg (by rw [h]; simp), if_pos h2]
theorem Lz.play_much {most : Int} {t : TokV} {r : List TokV} {out : List UInt8} (h : may t = true) (h2 : ¬ (out.length : Int) < t.dist) (h3 : most < (out.length : Int) + sizeT t) : playR most (t :: r) out = ([], 6) := by rw [playR, if_neg (by rw [h]; simp), if_neg h2, if_pos h3]
theorem Lz.play_on {most : Int} {t : TokV} {r : List TokV} {out : List UInt8} (h : may t = true) (h2 : ¬ (out.length : Int) < t.dist) (h3 : ¬ most < (out.length : Int) + sizeT t) : playR most (t :: r) out = playR most r (playT out t) := by rw [playR, if_neg (by rw [h]; simp), if_neg h2, if_neg h3]

theorem TokAt.cells {w : World} {g o : Nat} {t : TokV} (h : TokAt w g o t) : w.cell? ⟨g, o, none⟩ = some (.int .u8 (t.lit.toNat : Int)) ∧ w.cell? ⟨g, o + 1, none⟩ = some (.int .i64 t.len) ∧ w.cell? ⟨g, o + 2, none⟩ = some (.int .i64 t.dist) := h

set_option maxHeartbeats 4000000 in
set_option maxRecDepth 100000 in
theorem refPlay_any (A : Option Addr) (n c : Nat) (L : List TokV) (most : Int) (w : World) (hn : n ≤ 100000) (hm0 : -9223372036854775808 ≤ most) (hm1 : most ≤ 9223372036854775807) (h : ToksAt w w.heap.size A n L) :
    Calls Try.prog 15 #[.slice A n c, .int .i64 most] w (PlayTo w (playE L most)) := by
  have hl := h.1
  subst hl
  by_cases hneg : most < 0
  · have HN := hide (show playE L most = ([], 13) from if_pos hneg)
    generalize playE L most = res at *
    go_enter Try.func15, Try.ntmps15
    go_wp2
    go_ret2
    rw [HN.out]
    exact ⟨_, rfl, OwnB.nil _ _, Ext.refl _⟩
  have HN := hide (show playE L most = playR most (L.drop 0) [] from if_neg hneg)
  generalize playE L most = res at *
  have HL := hide h
  have hneg' : ¬ most < 0 := hneg
  clear h hneg
  go_enter Try.func15, Try.ntmps15
  go_wp2
  go_loopw [6, 7] (fun o a wr => ∃ (i : Nat) (out : List UInt8), i ≤ L.length ∧ a = .int .i64 (i : Int) ∧ out.length ≤ 257 * i ∧ OwnB wr w.heap.size o out ∧ res = playR most (L.drop i) out ∧ Ext w wr) (fun _ a _ => L.length - (intOf a).toNat)
  case atStart => exact ⟨0, [], by omega, rfl, by simp, OwnB.nil _ _, HN.out, Ext.refl _⟩
  case round =>
    clear HN
    obtain ⟨i, out, hi, rfl, hol, hO, hres, hE⟩ := hrel
    have HO := hide hO
    obtain ⟨Ao, co, rfl, hco, _, hbO⟩ := hO.form
    by_cases hlt : i < L.length
    · have hiI : (i : Int) < (L.length : Int) := by omega
      have hToks := HL.out.below hE (Nat.le_refl _)
      rcases hToks.2 with h0 | ⟨b1, o1, rfl, hb1, hc⟩
      · omega
      obtain ⟨hAt, hOk⟩ := hc i hlt
      obtain ⟨c0, c1, c2⟩ := hAt.cells
      have hdr : L.drop i = L.getD i default :: L.drop (i + 1) := by
        rw [List.drop_eq_getElem_cons hlt, List.getD_eq_getElem?_getD, List.getElem?_eq_getElem hlt]
        rfl
      rw [hdr] at hres
      have HRes := hide hres
      have CM := fun W => refTMay_any (L.getD i default) W
      unfold tokV at CM
      clear hc hToks hAt hdr hres hO
      obtain ⟨t, ht⟩ : ∃ t, t = L.getD i default := ⟨_, rfl⟩
      rw [← ht] at c0 c1 c2 hOk CM HRes
      have HCell := hide (show ∀ W, Ext w W → W.cell? ⟨b1, o1 + i * 3, none⟩ = some (.int .u8 (t.lit.toNat : Int)) ∧ W.cell? ⟨b1, o1 + i * 3 + 1, none⟩ = some (.int .i64 t.len) ∧ W.cell? ⟨b1, o1 + i * 3 + 2, none⟩ = some (.int .i64 t.dist) from fun W hW => by
        have := (HL.out.below hW (Nat.le_refl _)).2
        rcases this with h0 | ⟨b', o', e', _, hc'⟩
        · omega
        simp only [Option.some.injEq, Addr.mk.injEq, and_true] at e'
        obtain ⟨rfl, rfl⟩ := e'
        have := (hc' i hlt).1
        rw [← ht] at this
        exact this)
      clear ht
      go_wp2_with fail
      refine (CM wr).mono ?_
      rintro e w2 ⟨rfl, hE2⟩
      have hF2 := hE.trans hE2
      have hO2 := HO.out.ext hE2
      have hb2 := hE2.bytes hbO
      obtain ⟨d0, d1, d2⟩ := HCell.out w2 hF2
      clear CM c0 c1 c2 hbO hE2 hE HO
      cases hmay : may t with
      | false =>
        have HR := hide (HRes.out.trans (play_bad hmay))
        clear hmay
        go_wp2
        go_ret2
        rw [HR.out]
        exact ⟨_, rfl, OwnB.nil _ _, hF2⟩
      | true =>
        have HFar := hide (show (out.length : Int) < t.dist → res = ([], 8) from fun h => HRes.out.trans (play_far hmay h))
        have HMuch := hide (show ¬ (out.length : Int) < t.dist → most < (out.length : Int) + sizeT t → res = ([], 6) from fun h h2 => HRes.out.trans (play_much hmay h h2))
        have HOn := hide (show ¬ (out.length : Int) < t.dist → ¬ most < (out.length : Int) + sizeT t → res = playR most (L.drop (i + 1)) (playT out t) from fun h h2 => HRes.out.trans (play_on hmay h h2))
        by_cases hz : t.len = 0
        · have hdz : t.dist = 0 := by rw [may_lit hz] at hmay; exact of_decide_eq_true hmay
          have hsz : sizeT t = 1 := if_pos hz
          have hpl : playT out t = out ++ [t.lit] := if_pos hz
          rw [hdz] at HFar HMuch HOn d2
          rw [hsz] at HMuch HOn
          rw [hpl] at HOn
          rw [hz] at d1
          have HMuch2 := hide (HMuch.out (by omega))
          have HOn2 := hide (HOn.out (by omega))
          have HCell2 := hide (show ∀ W, Ext w W → W.cell? ⟨b1, o1 + i * 3 + 1, none⟩ = some (.int .i64 0) from fun W hW => by rw [← hz]; exact (HCell.out W hW).2.1)
          clear hmay HFar HMuch HOn hz hdz hsz hpl HCell HRes hOk
          generalize t.lit = y at *
          have hneg0 : ¬ (out.length : Int) < 0 := by omega
          by_cases hmu : most < (out.length : Int) + 1
          · have HR := hide (HMuch2.out hmu)
            go_wp2
            go_ret2
            rw [HR.out]
            exact ⟨_, rfl, OwnB.nil _ _, hF2⟩
          · have HR := hide (HOn2.out hmu)
            have hEa := extNew w2 (.cells #[.int .u8 (y.toNat : Int)] 5)
            have hb1' := bytesNew w2 [y] #[.int .u8 (y.toNat : Int)] 5 (0, 0) rfl 1 rfl
            have hOa := hO2.ext hEa
            have hlen : out.length + 1 ≤ 140737488355328 := by omega
            have hbs : w.heap.size ≤ (w2.alloc (.cells #[.int .u8 (y.toNat : Int)] 5)).heap.size := (hF2.trans hEa).le
            have HF := hide (fun W hW => HCell2.out W hW)
            clear HMuch2 HOn2 hb2
            go_wp2_with (at_builtin; refine wpList_app rfl (.tmp 52) (.tmp 58) rfl rfl hOa rfl hb1' hlen hbs ?_; intro v5 w5 hO5 hG5; have hE5 : Ext w w5 := Below.grown (hF2.trans hEa) hG5 (hF2.trans hEa).le (fun k hk => (hO2.lt k hk).1); have f1 := HF.out w5 hE5)
            have hl5 : (out ++ [y]).length = out.length + 1 := by rw [List.length_append]; rfl
            have HL5 := hide hl5
            clear hl5 hb1' hOa hlen hbs hG5
            go_wp2_with fail
            go_loopw [6, 9] (fun o x wq => o = v5 ∧ x = .int .i64 0 ∧ wq = w5) (fun _ _ _ => 0)
            case atStart => exact ⟨rfl, rfl, rfl⟩
            case round =>
              obtain ⟨rfl, rfl, rfl⟩ := hrel
              go_wp2
              go_roundw
              case rel => exact ⟨i + 1, out ++ [y], by omega, by go_num, by rw [HL5.out]; omega, hO5, HR.out, hE5⟩
              case measure => simp [intOf]; omega
        · obtain ⟨m1, m2, m3, m4, m5⟩ : t.lit = 0 ∧ 3 ≤ t.len ∧ t.len ≤ 257 ∧ 1 ≤ t.dist ∧ t.dist ≤ 4095 := by rw [may_match hz] at hmay; exact of_decide_eq_true hmay
          obtain ⟨N, hN⟩ := Int.eq_ofNat_of_zero_le (show 0 ≤ t.len by omega)
          obtain ⟨D, hD⟩ := Int.eq_ofNat_of_zero_le (show 0 ≤ t.dist by omega)
          have hsz : sizeT t = N := by unfold sizeT; rw [if_neg hz, hN, Int.toNat_natCast]
          have hpl : playT out t = copy D N out := by unfold playT; rw [if_neg hz, hN, hD, Int.toNat_natCast, Int.toNat_natCast]
          rw [hD] at HFar HMuch HOn d2
          rw [hsz] at HMuch HOn
          rw [hpl] at HOn
          rw [hN] at d1
          have hN0 : 3 ≤ N ∧ N ≤ 257 := by omega
          have hD0 : 1 ≤ D ∧ D ≤ 4095 := by omega
          have HCell2 := hide (show ∀ W, Ext w W → W.cell? ⟨b1, o1 + i * 3 + 1, none⟩ = some (.int .i64 (N : Int)) ∧ W.cell? ⟨b1, o1 + i * 3 + 2, none⟩ = some (.int .i64 (D : Int)) from fun W hW => by rw [← hN, ← hD]; exact (HCell.out W hW).2)
          clear hmay hz hsz hpl HCell HRes hOk m1 m2 m3 m4 m5 hN hD
          have hN3 : ((N : Int) == 0) = false := by rw [beq_eq_false_iff_ne]; omega
          by_cases hfar : (out.length : Int) < (D : Int)
          · have HR := hide (HFar.out hfar)
            clear HFar HMuch HOn
            go_wp2
            go_ret2
            rw [HR.out]
            exact ⟨_, rfl, OwnB.nil _ _, hF2⟩
          · have HMuch2 := hide (HMuch.out hfar)
            have HOn2 := hide (HOn.out hfar)
            clear HFar HMuch HOn
            by_cases hmu : most < (out.length : Int) + (N : Int)
            · have HR := hide (HMuch2.out hmu)
              clear HMuch2 HOn2
              go_wp2
              go_ret2
              rw [HR.out]
              exact ⟨_, rfl, OwnB.nil _ _, hF2⟩
            · have HR := hide (HOn2.out hmu)
              have HO2 := hide hO2
              have HSn := hide (fun k => copy_snoc D k out)
              have HLen := hide (fun k => copy_len D k out)
              clear HMuch2 HOn2 hb2 hO2
              go_wp2_with fail
              generalize decide (out.length < D) = dd1
              generalize decide (most < (out.length : Int) + (N : Int)) = dd2
              go_loopw [6, 9] (fun o x wq => ∃ k : Nat, k ≤ N ∧ x = .int .i64 (k : Int) ∧ OwnB wq w.heap.size o (copy D k out) ∧ Ext w wq) (fun _ x _ => N - (intOf x).toNat)
              case atStart => exact ⟨0, by omega, rfl, HO2.out, hF2⟩
              case round =>
                clear HO2 hF2 d0 d1 d2
                obtain ⟨k, hk, rfl, hO, hE⟩ := hrel
                obtain ⟨f1, f2⟩ := HCell2.out wr hE
                have hlk := HLen.out k
                by_cases hkN : k < N
                · have hkI : (k : Int) < (N : Int) := by omega
                  obtain ⟨gO, cO, rfl, hgb, hcO⟩ := hO.formG (by omega)
                  have hSn := HSn.out k
                  have hcell := (hO.cell (i := out.length + k - D) (by omega)).1
                  rw [hlk] at hSn
                  generalize copy D k out = o' at *
                  obtain ⟨y, hy⟩ : ∃ y, y = o'.getD (out.length + k - D) 0 := ⟨_, rfl⟩
                  rw [← hy] at hcell hSn
                  have HS := hide hSn
                  have HLk := hide hlk
                  rw [hlk] at hO ⊢
                  have hix : (out.length : Int) + (k : Int) - (D : Int) = ((out.length + k - D : Nat) : Int) := by omega
                  have hEa := extNew wr (.cells #[.int .u8 (y.toNat : Int)] 5)
                  have hb1' := bytesNew wr [y] #[.int .u8 (y.toNat : Int)] 5 (0, 0) rfl 1 rfl
                  have hOa := hO.ext hEa
                  have hlen : o'.length + 1 ≤ 140737488355328 := by omega
                  have hbs : w.heap.size ≤ (wr.alloc (.cells #[.int .u8 (y.toNat : Int)] 5)).heap.size := (hE.trans hEa).le
                  clear hy hSn hlk
                  go_wp2_with (at_builtin; refine wpList_app rfl (.tmp 80) (.tmp 82) rfl rfl hOa rfl hb1' hlen hbs ?_; intro v5 w5 hO5 hG5)
                  have hE5 : Ext w w5 := Below.grown (hE.trans hEa) hG5 (hE.trans hEa).le (fun k hk => (hO.lt k hk).1)
                  rw [← HS.out] at hO5
                  go_roundw
                  case rel => exact ⟨k + 1, by omega, by go_num, hO5, hE5⟩
                  case measure => simp [intOf]; omega
                · obtain rfl : N = k := by omega
                  have HOo := hide hO
                  have HLk := hide hlk
                  clear hO hlk
                  go_wp2
                  go_roundw
                  case rel => exact ⟨i + 1, copy D N out, by omega, by go_num, by rw [HLk.out]; omega, HOo.out, HR.out, hE⟩
                  case measure => simp [intOf]; omega
    · obtain rfl : L.length = i := by omega
      rw [List.drop_length, playR] at hres
      have HR := hide hres
      clear hres hO
      go_wp2
      go_ret2
      rw [HR.out]
      exact ⟨_, rfl, HO.out, hE⟩
end Go.Proofs.Ytklofjgfecpkiaa
