/- The document's Read of chapter 8: the walk. -/
import Derived.Test.YtabhemmmefefgaaCanRefGet
namespace Go.Proofs.Ytabhemmmefefgaa
open Go.RowKit Len Can

/-- Behind the document's Read. -/
def RefReads (w : World) (base g : Nat) (b : List UInt8) (r : List UInt8 × Int × Nat) (e : Ending) (w' : World) : Prop :=
  ∃ v, e = .returned (.tuple #[v, .int .i64 r.2.1]) ∧ OwnB w' w.heap.size v r.1 ∧ RefR w' base g b r.2.2 ∧ Mod w w' g none

def rdLen : Value → Nat
  | .slice _ n _ => n
  | _ => 0
theorem own_apart {w wr : World} {g : Nat} {v o : Value} {out : List UInt8} (hg : g < w.heap.size) (hV : ∀ k, v.ownBlock = some k → k < w.heap.size) (hO : OwnB wr w.heap.size o out) : o.ownBlock ≠ some g ∧ (v.ownBlock = none ∨ v.ownBlock ≠ o.ownBlock) ∧ (o.ownBlock = none ∨ o.ownBlock ≠ none) := by
  refine ⟨fun e => by have := (hO.lt _ e).1; omega, ?_, ?_⟩
  · cases hv : v.ownBlock with
    | none => exact .inl rfl
    | some k =>
      refine .inr fun e => ?_
      have h1 := hV k hv
      have h2 := (hO.lt k e.symm).1
      omega
  · cases o.ownBlock <;> simp

set_option maxHeartbeats 400000 in
set_option maxRecDepth 100000 in
theorem refRead_any {w : World} {base g q : Nat} {b : List UInt8} (h : RefR w base g b q) (n : Int) :
    Calls Try.prog 26 #[.pointer (some ⟨g, 0, none⟩), .int .i64 n] w (RefReads w base g b (readE b n q)) := by
  by_cases hneg : n < 0
  · have HN := hide (show readE b n q = ([], 13, q) by unfold readE; rw [if_pos (.inl hneg)])
    generalize readE b n q = res at *
    go_enter Try.func26, Try.ntmps26
    go_wp2
    go_ret2
    rw [HN.out]
    exact ⟨_, rfl, OwnB.nil _ _, h, Mod.refl _ _ _⟩
  by_cases hbig : 300 < n
  · have HN := hide (show readE b n q = ([], 13, q) by unfold readE; rw [if_pos (.inr hbig)])
    generalize readE b n q = res at *
    go_enter Try.func26, Try.ntmps26
    go_wp2
    go_ret2
    rw [HN.out]
    exact ⟨_, rfl, OwnB.nil _ _, h, Mod.refl _ _ _⟩
  obtain ⟨k, rfl⟩ := Int.eq_ofNat_of_zero_le (show 0 ≤ n by omega)
  have hk : k ≤ 300 := by omega
  have HN := hide (show readE b (k : Int) q = readR b k q 64 [] by unfold readE; rw [if_neg (by omega)]; rfl)
  generalize readE b (k : Int) q = res at *
  obtain ⟨v, h⟩ := h
  have h : RefRV w base g v b q := h
  have hgl := h.ref.lt
  have HF := hide h
  have HV := hide (show ∀ k, v.ownBlock = some k → k < w.heap.size from fun k hk => (h.2.1.lt k hk).2)
  clear h hneg hbig
  go_enter Try.func26, Try.ntmps26
  go_wp2_with fail
  go_loopw [6, 7] (fun o a wr => ∃ (q1 ah : Nat) (out : List UInt8), out.length ≤ k ∧ ah ≤ 64 ∧ a = .int .i64 (ah : Int) ∧ OwnB wr w.heap.size o out ∧ RefRV wr base g v b q1 ∧ Mod w wr g none ∧ res = readR b k q1 ah out) (fun o _ _ => k - rdLen o)
  case atStart => exact ⟨q, 64, [], Nat.zero_le _, Nat.le_refl _, rfl, OwnB.nil _ _, HF.out, Mod.refl _ _ _, HN.out⟩
  case round =>
    obtain ⟨q1, ah, out, hol, hah, rfl, hO, hR, hM, hres⟩ := hrel
    obtain ⟨Ao, co, rfl, hco, hcm, hbO⟩ := hO.form
    have HO := hide hO
    have HR := hide hR
    have HM := hide hM
    have HRes := hide hres
    have HB := hide hbO
    clear hO hM hres hbO HN HF
    obtain ⟨m, hm⟩ : ∃ m, m = out.length := ⟨_, rfl⟩
    have Hm := hide hm
    rw [← hm] at hol hco HO HB ⊢
    clear hm
    by_cases hlt : m < k
    · have hltI : (m : Int) < (k : Int) := by omega
      by_cases h4 : Bit.getErr (8 * b.length - q1) 4 = 0
      · have CG := refGetV_any hR 4
        have hL := getNum_lt b q1 4
        have HU := hide (show Bit.getNum b q1 4 ≠ 0 → res = readR b k (q1 + 4) 64 (out ++ [UInt8.ofNat (Bit.getNum b q1 4)]) from fun h0 => by rw [HRes.out, readR_used (by rw [← Hm.out]; exact hlt) h4 h0])
        have HZ6 := hide (show Bit.getNum b q1 4 = 0 → Bit.getErr (8 * b.length - (q1 + 4)) 6 ≠ 0 → res = ([], 1, q1 + 4) from fun h0 h6 => by rw [HRes.out, readR_short6 (by rw [← Hm.out]; exact hlt) h4 h0 h6])
        have HZb := hide (show Bit.getNum b q1 4 = 0 → Bit.getErr (8 * b.length - (q1 + 4)) 6 = 0 → (ah < 64 ∨ k < m + Bit.getNum b (q1 + 4) 6 + 1) → res = ([], 7, q1 + 10) from fun h0 h6 hb => by rw [HRes.out, readR_bad (by rw [← Hm.out]; exact hlt) h4 h0 h6 (by rw [← Hm.out]; exact hb)])
        have HZr := hide (show Bit.getNum b q1 4 = 0 → Bit.getErr (8 * b.length - (q1 + 4)) 6 = 0 → ¬ (ah < 64 ∨ k < m + Bit.getNum b (q1 + 4) 6 + 1) → res = readR b k (q1 + 10) (Bit.getNum b (q1 + 4) 6 + 1) (out ++ List.replicate (Bit.getNum b (q1 + 4) 6 + 1) 0) from fun h0 h6 hb => by rw [HRes.out, readR_run (by rw [← Hm.out]; exact hlt) h4 h0 h6 (by rw [← Hm.out]; exact hb)])
        unfold Bit.getTo at CG
        rw [h4, if_pos rfl] at CG
        rw [show (4 : Int).toNat = 4 from rfl] at CG
        change Bit.getNum b q1 4 < 16 at hL
        clear h4 hR
        generalize Bit.getNum b q1 4 = L at *
        go_wp2_with fail
        refine CG.mono ?_
        rintro e w2 ⟨rfl, hR2, hM2⟩
        clear CG
        have hap := own_apart hgl HV.out HO.out
        have hO2 := hM2.own HO.out hap.1 hap.2.2
        have hMw := HM.out.trans hM2 (.inl rfl)
        by_cases hL0 : L = 0
        · subst hL0
          by_cases h6 : Bit.getErr (8 * b.length - (q1 + 4)) 6 = 0
          · have CG := refGetV_any hR2 6
            have hK := getNum_lt b (q1 + 4) 6
            have HB1 := hide (HZb.out rfl h6)
            have HR1 := hide (HZr.out rfl h6)
            unfold Bit.getTo at CG
            rw [h6, if_pos rfl] at CG
            rw [show q1 + 4 + (6 : Int).toNat = q1 + 10 by rw [show (6 : Int).toNat = 6 from rfl]] at CG
            change Bit.getNum b (q1 + 4) 6 < 64 at hK
            clear h6 HU HZ6 HZb HZr HRes hR2
            generalize Bit.getNum b (q1 + 4) 6 = K at *
            go_wp2_with fail
            refine CG.mono ?_
            rintro e w3 ⟨rfl, hR3, hM3⟩
            clear CG
            have hap2 := own_apart hgl HV.out hO2
            have hO3 := hM3.own hO2 hap2.1 hap2.2.2
            have hMv := hMw.trans hM3 (.inl rfl)
            by_cases ha64 : ah < 64
            · have haI : (ah : Int) < 64 := by omega
              have HR2 := hide (HB1.out (.inl ha64))
              clear hO2 hap hap2 hMw hM2 hM3
              go_wp2
              go_ret2
              rw [HR2.out]
              exact ⟨_, rfl, OwnB.nil _ _, hR3.ref, hMv⟩
            · have haI : ¬ (ah : Int) < 64 := by omega
              by_cases hmK : k < m + K + 1
              · have hmI : (m : Int) + (K : Int) + 1 > (k : Int) := by omega
                have HR2 := hide (HB1.out (.inr hmK))
                clear hO2 hap hap2 hMw hM2 hM3
                go_wp2
                go_ret2
                rw [HR2.out]
                exact ⟨_, rfl, OwnB.nil _ _, hR3.ref, hMv⟩
              · have hmI : ¬ (m : Int) + (K : Int) + 1 > (k : Int) := by omega
                have HR2 := hide (HR1.out (by omega))
                have HO3 := hide hO3
                clear hO2 hap hap2 hMw hM2 hM3 HB1 HR1 hO3
                go_wp2_with fail
                go_loopw [6, 11] (fun o a wq => ∃ j : Nat, j ≤ K + 1 ∧ a = .int .i64 (j : Int) ∧ OwnB wq w.heap.size o (out ++ List.replicate j 0) ∧ RefRV wq base g v b (q1 + 10) ∧ Mod w wq g none) (fun _ a _ => K + 1 - (intOf a).toNat)
                case atStart => exact ⟨0, by omega, rfl, by simpa using HO3.out, hR3, hMv⟩
                case round =>
                  clear HO3 hR3 hMv
                  obtain ⟨j, hj, rfl, hO, hR, hM⟩ := hrel
                  have hlen : (out ++ List.replicate j (0 : UInt8)).length = m + j := by rw [List.length_append, List.length_replicate, ← Hm.out]
                  obtain ⟨o, ho⟩ : ∃ o, o = out ++ List.replicate j (0 : UInt8) := ⟨_, rfl⟩
                  rw [← ho] at hO hlen
                  have Ho := hide ho
                  clear ho
                  by_cases hjK : j < K + 1
                  · have hjI : (j : Int) < (K : Int) + 1 := by omega
                    have hEa := extNew wr (.cells #[.int .u8 ((0 : UInt8).toNat : Int)] 5)
                    have hb1 := bytesNew wr [0] #[.int .u8 ((0 : UInt8).toNat : Int)] 5 (0, 0) rfl 1 rfl
                    have hOa := hO.ext hEa
                    have hap := own_apart hgl HV.out hO
                    have hbs : w.heap.size ≤ (wr.alloc (.cells #[.int .u8 ((0 : UInt8).toNat : Int)] 5)).heap.size := Nat.le_trans hM.size hEa.le
                    have hfit : o.length + 1 ≤ 140737488355328 := by omega
                    have HX := hide hlen
                    clear hlen
                    go_wp2_with (at_builtin; refine wpList_app rfl (.tmp 65) (.tmp 66) rfl rfl hOa rfl hb1 hfit hbs ?_; intro v5 w5 hO5 hG5)
                    have hR5 := (hR.ext hEa).grown hG5 hap.1 hap.2.1
                    have hM5 := (hM.trans (Mod.ofExt (ob := none) hEa) (.inl rfl)).fresh hG5 (fun k hk => (hO.lt k hk).1)
                    rw [Ho.out, List.append_assoc, show List.replicate j (0 : UInt8) ++ [0] = List.replicate (j + 1) 0 from List.replicate_succ'.symm] at hO5
                    clear hb1 hOa hap hbs hfit hG5
                    go_roundw
                    case rel => exact ⟨j + 1, by omega, by go_num, hO5, hR5, hM5⟩
                    case measure => simp [intOf]; omega
                  · have hjI : ¬ (j : Int) < (K : Int) + 1 := by omega
                    have hj2 : j = K + 1 := by omega
                    have hO6 := hO
                    rw [Ho.out, hj2] at hO6
                    have hl6 : (out ++ List.replicate (K + 1) (0 : UInt8)).length = m + (K + 1) := by rw [List.length_append, List.length_replicate, ← Hm.out]
                    obtain ⟨Av, cv, rfl, _⟩ := hO.form
                    have HX := hide hlen
                    have HH := hide hj2
                    have HL := hide hl6
                    have HO6 := hide hO6
                    clear hO hlen hj2 hl6 hO6
                    go_wp2
                    go_roundw
                    case rel => exact ⟨q1 + 10, K + 1, _, by rw [HL.out]; omega, by omega, by go_num, HO6.out, hR, hM, HR2.out⟩
                    case measure =>
                      have := HX.out
                      simp only [rdLen]
                      omega
          · have hres2 := HZ6.out rfl h6
            have CG := refGetV_any hR2 6
            have hg1 : Bit.getErr (8 * b.length - (q1 + 4)) 6 = 1 := getErr_le (n := 6) (by omega) h6
            unfold Bit.getTo at CG
            rw [hg1, if_neg (by omega)] at CG
            generalize Bit.getNum b (q1 + 4) 6 = K at CG
            have HR2 := hide hres2
            clear h6 hg1 hres2 hR2
            go_wp2_with fail
            refine CG.mono ?_
            rintro e w3 ⟨rfl, hR3, hM3⟩
            go_wp2
            go_ret2
            rw [HR2.out]
            exact ⟨_, rfl, OwnB.nil _ _, hR3.ref, hMw.trans hM3 (.inl rfl)⟩
        · have HR2 := hide (HU.out hL0)
          obtain ⟨x, hx⟩ : ∃ x : UInt8, x = UInt8.ofNat L := ⟨_, rfl⟩
          have hxL : x.toNat = L := by rw [hx, UInt8.toNat_ofNat']; omega
          rw [← hx] at HR2
          clear hx HU HZ6 HZb HZr HRes
          subst hxL
          have hxI : (x.toNat : Int) > 0 := by omega
          have hx8 : IntKind.u8.wrap (x.toNat : Int) = (x.toNat : Int) := by simp [IntKind.wrap, IntKind.bits, IntKind.signed]; omega
          have hEa := extNew w2 (.cells #[.int .u8 (x.toNat : Int)] 5)
          have hb1 := bytesNew w2 [x] #[.int .u8 (x.toNat : Int)] 5 (0, 0) rfl 1 rfl
          have hOa := hO2.ext hEa
          have hap2 := own_apart hgl HV.out hO2
          have hbs : w.heap.size ≤ (w2.alloc (.cells #[.int .u8 (x.toNat : Int)] 5)).heap.size := Nat.le_trans hMw.size hEa.le
          have hfit : out.length + 1 ≤ 140737488355328 := by have := Hm.out; omega
          go_wp2_with (at_builtin; refine wpList_app rfl (.tmp 32) (.tmp 35) rfl rfl hOa rfl hb1 hfit hbs ?_; intro v5 w5 hO5 hG5)
          have hR5 := (hR2.ext hEa).grown hG5 hap2.1 hap2.2.1
          have hM5 := (hMw.trans (Mod.ofExt (ob := none) hEa) (.inl rfl)).fresh hG5 (fun k hk => (hO2.lt k hk).1)
          have hl5 : (out ++ [x]).length = m + 1 := by rw [List.length_append, ← Hm.out]; rfl
          clear hb1 hOa hap hap2 hbs hfit hG5
          obtain ⟨Av, cv, rfl, _⟩ := hO5.form
          have HO5 := hide hO5
          have HL5 := hide hl5
          clear hl5 hO5
          go_wp2
          go_roundw
          case rel => exact ⟨q1 + 4, 64, _, by rw [HL5.out]; omega, by omega, rfl, HO5.out, hR5, hM5, HR2.out⟩
          case measure =>
            have := HL5.out
            simp only [rdLen]
            omega
      · have hres2 := HRes.out
        rw [readR_short (by rw [← Hm.out]; exact hlt) h4] at hres2
        have CG := refGetV_any hR 4
        have hg1 : Bit.getErr (8 * b.length - q1) 4 = 1 := getErr_le (n := 4) (by omega) h4
        unfold Bit.getTo at CG
        rw [hg1, if_neg (by omega)] at CG
        generalize Bit.getNum b q1 4 = L at CG
        have HR2 := hide hres2
        clear h4 hg1 hres2 hR
        go_wp2_with fail
        refine CG.mono ?_
        rintro e w2 ⟨rfl, hR2, hM2⟩
        go_wp2
        go_ret2
        rw [HR2.out]
        exact ⟨_, rfl, OwnB.nil _ _, hR2.ref, HM.out.trans hM2 (.inl rfl)⟩
    · obtain rfl : m = k := by omega
      have hltI : ¬ (m : Int) < (m : Int) := by omega
      have hres2 := HRes.out
      rw [readR_end (by rw [← Hm.out]; exact hlt)] at hres2
      have C := refCheck_any Ao m co out wr HB.out
      clear hR
      cases hr : right out with
      | true =>
        rw [check_right hr] at C
        rw [hr, if_pos rfl] at hres2
        have HR2 := hide hres2
        clear hr hres2
        go_wp2_with fail
        refine C.mono ?_
        rintro e w2 ⟨rfl, hE⟩
        go_wp2
        go_ret2
        rw [HR2.out]
        exact ⟨_, rfl, HO.out.ext hE, (HR.out.ext hE).ref, HM.out.trans (Mod.ofExt hE) (.inl rfl)⟩
      | false =>
        rw [check_wrong hr] at C
        rw [hr] at hres2
        have HR2 := hide (show res = ([], 7, q1) from hres2)
        clear hr hres2
        go_wp2_with fail
        refine C.mono ?_
        rintro e w2 ⟨rfl, hE⟩
        go_wp2
        go_ret2
        rw [HR2.out]
        exact ⟨_, rfl, OwnB.nil _ _, (HR.out.ext hE).ref, HM.out.trans (Mod.ofExt hE) (.inl rfl)⟩
end Go.Proofs.Ytabhemmmefefgaa
