/- Contract of the program's Read. -/
import Derived.Test.YtabhemmmefefgaaCanPItem
import Derived.Test.YtabhemmmefefgaaCanReads
import Derived.Test.YtabhemmmefefgaaMakeB
namespace Go.Proofs.Ytabhemmmefefgaa
open Go.RowKit Len Can

/-- Lengths read so far, and no lengths behind them. -/
def Can.padded (out : List UInt8) (k : Nat) : List UInt8 := out ++ List.replicate (k - out.length) 0
theorem Can.padded_len {out : List UInt8} {k : Nat} (h : out.length ≤ k) : (padded out k).length = k := by
  unfold padded
  rw [List.length_append, List.length_replicate]
  omega
theorem Can.padded_full {out : List UInt8} {k : Nat} (h : out.length = k) : padded out k = out := by
  unfold padded
  rw [h, Nat.sub_self]
  simp
theorem Can.padded_one {out : List UInt8} {k : Nat} (h : out.length < k) (y : UInt8) : (padded out k).set out.length y = padded (out ++ [y]) k := by
  unfold padded
  obtain ⟨d, hd⟩ : ∃ d, k - out.length = d + 1 := ⟨k - out.length - 1, by omega⟩
  rw [hd, List.set_append_right _ _ (Nat.le_refl _), Nat.sub_self, List.replicate_succ, List.set_cons_zero, List.length_append, List.length_singleton, show k - (out.length + 1) = d by omega, List.append_assoc]
  rfl
theorem Can.padded_run {out : List UInt8} {k m : Nat} (h : out.length + m ≤ k) (hm : 1 ≤ m) : (padded out k).set out.length 0 = padded (out ++ List.replicate m 0) k := by
  have e : padded out k = padded (out ++ List.replicate m 0) k := by
    unfold padded
    rw [List.length_append, List.length_replicate, List.append_assoc, List.replicate_append_replicate]
    congr 2
    omega
  rw [← e]
  refine List.ext_getElem (by simp) fun i h1 h2 => ?_
  rw [List.getElem_set]
  split
  · rename_i hi
    subst hi
    have h3 : (padded out k)[out.length]? = some 0 := by
      unfold padded
      rw [List.getElem?_append_right (Nat.le_refl _), List.getElem?_replicate, if_pos (by omega)]
    rw [List.getElem?_eq_getElem h2] at h3
    exact (Option.some.inj h3).symm
  · rfl

/-- What reading makes, item by item. -/
theorem Can.readR_item {b : List UInt8} {n q ah : Nat} {out : List UInt8} (h : out.length < n) {x m : Nat} {er : Int} {q' : Nat} (hi : itemE b q = ((x, m), er, q')) :
    (er ≠ 0 → ∃ z, readR b n q ah out = ([], er, z)) ∧
    (er = 0 → x ≠ 0 → x < 256 ∧ m = 1 ∧ readR b n q ah out = readR b n q' 64 (out ++ [UInt8.ofNat x])) ∧
    (er = 0 → x = 0 → 1 ≤ m ∧ m ≤ 64) ∧
    (er = 0 → x = 0 → ah < 64 ∨ n < out.length + m → ∃ z, readR b n q ah out = ([], 7, z)) ∧
    (er = 0 → x = 0 → ¬ (ah < 64 ∨ n < out.length + m) → readR b n q ah out = readR b n q' m (out ++ List.replicate m 0)) := by
  unfold itemE at hi
  by_cases h4 : Bit.getErr (8 * b.length - q) 4 = 0
  · rw [if_pos h4] at hi
    by_cases h0 : Bit.getNum b q 4 = 0
    · rw [if_pos h0] at hi
      by_cases h6 : Bit.getErr (8 * b.length - (q + 4)) 6 = 0
      · rw [if_pos h6] at hi
        have hK := getNum_lt b (q + 4) 6
        change Bit.getNum b (q + 4) 6 < 64 at hK
        simp only [Prod.mk.injEq] at hi
        obtain ⟨⟨rfl, rfl⟩, rfl, rfl⟩ := hi
        refine ⟨fun e => absurd rfl e, fun _ e => absurd rfl e, fun _ _ => ⟨by omega, by omega⟩, fun _ _ hb => ⟨_, readR_bad h h4 h0 h6 hb⟩, fun _ _ hb => readR_run h h4 h0 h6 hb⟩
      · rw [if_neg h6] at hi
        simp only [Prod.mk.injEq] at hi
        obtain ⟨⟨rfl, rfl⟩, rfl, rfl⟩ := hi
        exact ⟨fun _ => ⟨_, readR_short6 h h4 h0 h6⟩, fun e => by omega, fun e => by omega, fun e => by omega, fun e => by omega⟩
    · rw [if_neg h0] at hi
      have hL := getNum_lt b q 4
      change Bit.getNum b q 4 < 16 at hL
      simp only [Prod.mk.injEq] at hi
      obtain ⟨⟨rfl, rfl⟩, rfl, rfl⟩ := hi
      exact ⟨fun e => absurd rfl e, fun _ _ => ⟨by omega, rfl, readR_used h h4 h0⟩, fun _ e => absurd e h0, fun _ e => absurd e h0, fun _ e => absurd e h0⟩
  · rw [if_neg h4] at hi
    simp only [Prod.mk.injEq] at hi
    obtain ⟨⟨rfl, rfl⟩, rfl, rfl⟩ := hi
    exact ⟨fun _ => ⟨_, readR_short h h4⟩, fun e => by omega, fun e => by omega, fun e => by omega, fun e => by omega⟩

set_option maxHeartbeats 2000000 in
set_option maxRecDepth 100000 in
theorem readC_any (w : World) : ReadC w := by
  intro n W base g q b _ hlo hhi h
  by_cases hneg : n < 0
  · have HN := hide (show readE b n q = ([], 13, q) by unfold readE; rw [if_pos (.inl hneg)])
    generalize readE b n q = res at *
    go_enter Try.func25, Try.ntmps25
    go_wp2
    go_ret2
    rw [HN.out]
    exact ⟨_, _, rfl, OwnB.nil _ _, h, fun _ => rfl, Mod.refl _ _ _⟩
  by_cases hbig : 300 < n
  · have HN := hide (show readE b n q = ([], 13, q) by unfold readE; rw [if_pos (.inr hbig)])
    generalize readE b n q = res at *
    go_enter Try.func25, Try.ntmps25
    go_wp2
    go_ret2
    rw [HN.out]
    exact ⟨_, _, rfl, OwnB.nil _ _, h, fun _ => rfl, Mod.refl _ _ _⟩
  obtain ⟨k, rfl⟩ := Int.eq_ofNat_of_zero_le (show 0 ≤ n by omega)
  have hk : k ≤ 300 := by omega
  have HN := hide (show readE b (k : Int) q = readR b k q 64 [] by unfold readE; rw [if_neg (by omega)]; rfl)
  generalize readE b (k : Int) q = res at *
  have hgl := h.lt
  have HR := hide h
  have HP0 := hide (show padded [] k = List.replicate k 0 from by unfold padded; rfl)
  have hk0 : (0 : Int) ≤ (k : Int) := by omega
  clear h hneg hlo hhi
  go_enter Try.func25, Try.ntmps25
  go_wp2_with (refine wpList_makeB (n := k) rfl (.tmp 18) (.tmp 18) rfl rfl rfl (by omega) ?_; intro w2 hO2 hE2)
  obtain ⟨g6, hg6⟩ : ∃ g6, g6 = W.heap.size := ⟨_, rfl⟩
  rw [← hg6] at hO2 ⊢
  have hle6 : W.heap.size ≤ g6 := by omega
  have hgg : g < g6 := by omega
  clear hg6
  rw [show decide ((k : Int) < 0) = false from decide_eq_false (by omega)]
  go_loopw [7, 8] (fun a x wr => ∃ q1 ah out, out.length ≤ k ∧ a = .bool (decide (ah < 64)) ∧ x = .int .i64 (out.length : Int) ∧ OwnB wr g6 (.slice (some ⟨g6, 0, none⟩) k k) (padded out k) ∧ Rdr wr base g b q1 ∧ Mod W wr g none ∧ res = readR b k q1 ah out) (fun _ x _ => k - (intOf x).toNat)
  case atStart => exact ⟨q, 64, [], Nat.zero_le _, rfl, rfl, by rw [HP0.out]; exact hO2, HR.out.ext hE2, Mod.ofExt hE2, HN.out⟩
  case round =>
    clear HR hO2 hE2 HN HP0
    obtain ⟨q1, ah, out, hol, rfl, rfl, hO, hR, hM, hres⟩ := hrel
    have hpl := padded_len hol
    by_cases hlt : out.length < k
    · have C1 := readItem_any hR
      obtain ⟨t, ht⟩ : ∃ t, t = itemE b q1 := ⟨_, rfl⟩
      rw [← ht] at C1
      obtain ⟨⟨x, s⟩, er, q2⟩ := t
      obtain ⟨f1, f2, f3, f4, f5⟩ := readR_item (n := k) (ah := ah) (out := out) hlt ht.symm
      rw [← hres] at f1 f2 f4 f5
      have F1 := hide f1
      have F2 := hide f2
      have F3 := hide f3
      have F4 := hide f4
      have F5 := hide f5
      have HPone := hide (show ∀ y, (padded out k).set out.length y = padded (out ++ [y]) k from fun y => padded_one hlt y)
      have HPrun := hide (show ∀ m, out.length + m ≤ k → 1 ≤ m → (padded out k).set out.length 0 = padded (out ++ List.replicate m 0) k from fun m h1 h2 => padded_run h1 h2)
      unfold ItemAt at C1
      dsimp only at C1
      clear f1 f2 f3 f4 f5 ht hres
      obtain ⟨a, ha⟩ : ∃ a, a = out.length := ⟨_, rfl⟩
      have HA := hide ha
      rw [← ha] at hlt hol F4 F5 HPone HPrun ⊢
      generalize padded out k = P at *
      clear ha
      have hltI : (a : Int) < (k : Int) := by omega
      have hsb := hM.size
      obtain ⟨ended, hen⟩ : ∃ ended, ended = decide (ah < 64) := ⟨_, rfl⟩
      rw [← hen]
      have HEn := hide hen
      clear hen
      go_wp2_with fail
      refine C1.mono ?_
      rintro e w3 ⟨rfl, hR3, hM3⟩
      have hM9 := Whole.new w3 67 (itemV 0 0)
      have hinf : (Try.prog.info? 67).map (·.size) = some (itemV x s).size := item_info
      have hone := itemV_one x s
      have hE4 := extNew w3 (.cells (itemV 0 0) 67)
      have hss : (itemV x s).size = 2 := rfl
      have CR := fun (hx : x < 256) (w : World) => isRow_any x s hx w
      have HV0 := hide (show (itemV x s)[0]? = some (.int .u8 (x : Int)) from rfl)
      have HV1 := hide (show (itemV x s)[1]? = some (.int .i64 (s : Int)) from rfl)
      generalize itemV x s = V at *
      unfold itemV at hM9 hE4
      clear C1
      by_cases her : er = 0
      · have C2 := F2.out her
        have C3 := F3.out her
        have C4 := F4.out her
        have C5 := F5.out her
        subst her
        go_wp2_with (first
          | (refine wpList_storeW rfl 67 (.tmp 9) (.tmp 26) rfl rfl rfl hM9 hss hinf hone ?_; intro w5 hW5 hG5 hS5; clear hS5)
          | (refine wpList_load_row rfl 67 (.tmp 9) rfl _ rfl _ _ _ _ hW5 Try.underlying67 rfl hinf ?_))
        have hx256 : x < 256 := by
          by_cases e : x = 0
          · omega
          · exact (C2 e).1
        have hg3 : g6 < w3.heap.size := (hO.lt g6 rfl).2 |> fun h => Nat.lt_of_lt_of_le h hM3.size
        have hO3 := hM3.own hO (by simp [Value.ownBlock]; omega) (by simp [Value.ownBlock])
        have hO5 := (Mod.ofRow (ob := none) hG5).own (hO3.ext hE4) (by simp [Value.ownBlock]; omega) (by simp [Value.ownBlock])
        have hR5 := (hR3.ext hE4).below (B := w3.heap.size) (Below.grown (Below.refl _ _) hG5 hE4.le (fun k hk => by cases hk; omega)) (by omega)
        have hMw := (hM.trans hM3 (.inl rfl)).trans (Mod.ofExt (ob := none) hE4) (.inl rfl) |>.fresh hG5 (fun k hk => by cases hk; omega)
        clear hO3 hM9 hE4 hG5 hO hM hM3 hR hR3
        refine (CR hx256 w5).mono ?_
        rintro e w6 ⟨rfl, hE6⟩
        have hW6 := hW5.ext hE6
        have c0 := hW6.at 0 HV0.out
        have c1 := hW6.at 1 HV1.out
        have hO6 := hO5.ext hE6
        have hR6 := hR5.ext hE6
        have hM6 := hMw.trans (Mod.ofExt (ob := none) hE6) (.inl rfl)
        clear hW5 hO5 hR5 hMw hE6 F1 F2 F3 F4 F5
        by_cases x0 : x = 0
        · have C3' := C3 x0
          have HCR := hide (CR hx256)
          rw [decide_eq_true x0] at HCR ⊢
          clear CR
          by_cases hbad : ah < 64 ∨ k < a + s
          · obtain ⟨z, hz⟩ := C4 x0 hbad
            have HZ := hide hz
            clear hz C2 C3 C4 C5 x0
            cases ended with
            | true =>
              clear hbad
              go_wp2
              go_ret2
              rw [HZ.out]
              exact ⟨_, _, rfl, OwnB.nil _ _, hR6, (fun h => absurd h (by simp)), hM6⟩
            | false =>
              have hah := of_decide_eq_false HEn.out.symm
              have hs : (k : Int) - (a : Int) < (s : Int) := by omega
              have hs2 : (s : Int) ≤ 64 := by omega
              clear hbad hah
              go_wp2
              go_ret2
              rw [HZ.out]
              exact ⟨_, _, rfl, OwnB.nil _ _, hR6, (fun h => absurd h (by simp)), hM6⟩
          · have C5' := C5 x0 hbad
            have hen : ended = false := by rw [HEn.out, decide_eq_false (by omega)]
            subst hen
            have hs : ¬ ((k : Int) - (a : Int) < (s : Int)) := by omega
            have hak : a + s ≤ k := by omega
            have HC5 := hide C5'
            have HX0 := hide x0
            clear C2 C3 C4 C5 C5' hbad
            subst x0
            obtain ⟨hs1, hs64⟩ := C3'
            change w6.cell? ⟨w3.heap.size, 0, none⟩ = some (.int .u8 0) at c0
            have HPl := hide hpl
            rw [← hpl] at hO6
            obtain ⟨k1, k2⟩ := hO6.cell (i := a) (by omega)
            have HOs := hide (hO6.set a 0)
            have hWs := hW6.far (b := g6) (by omega) a (.int .u8 0)
            have c1s := hWs.at 1 HV1.out
            have hRs : Rdr (w6.setCell ⟨g6, a, none⟩ (.int .u8 0)) base g b q2 := hR6.below (B := g6) (Below.setCell (p := ⟨g6, a, none⟩) (Below.refl _ _) (Nat.le_refl _) _) hgg
            have hMs := hM6.fresh (grown_setCell w6 g6 a (.int .u8 0)) (fun k hk => by cases hk; exact hle6)
            have HP2 := hide (HPrun.out s hak hs1)
            have hsI : (s : Int) ≤ 64 := by omega
            generalize (P.getD a 0).toNat = y0 at *
            clear hO6 hpl hR6 hM6
            go_wp2_with (refine wpList_load_row rfl 67 (.tmp 9) rfl _ rfl _ _ _ _ hWs Try.underlying67 rfl hinf ?_)
            refine (HCR.out _).mono ?_
            rintro e w7 ⟨rfl, hE7⟩
            have c1t := (hWs.ext hE7).at 1 HV1.out
            have HOt := hide (HOs.out.ext hE7)
            have hRt := hRs.ext hE7
            have hMt := hMs.trans (Mod.ofExt (ob := none) hE7) (.inl rfl)
            have hlen : (out ++ List.replicate s (0 : UInt8)).length = a + s := by rw [List.length_append, List.length_replicate, ← HA.out]
            have HL := hide hlen
            clear hWs c1s hRs hMs hE7 HOs hlen HCR
            go_wp2
            go_roundw
            case rel => exact ⟨q2, s, out ++ List.replicate s 0, by rw [HL.out]; omega, congrArg Value.bool (decide_eq_decide.2 (by omega)), by rw [HL.out]; go_num, by have := HOt.out; rw [HPl.out, HP2.out] at this; exact this, hRt, hMt, HC5.out⟩
            case measure => simp [intOf]; omega
        · obtain ⟨_, rfl, C2'⟩ := C2 x0
          have HCR := hide (CR hx256)
          rw [decide_eq_false x0] at HCR ⊢
          have HC2 := hide C2'
          obtain ⟨y, hy⟩ : ∃ y : UInt8, y = UInt8.ofNat x := ⟨_, rfl⟩
          have hyx : y.toNat = x := by rw [hy, UInt8.toNat_ofNat']; omega
          rw [← hy] at HC2
          clear C2 C3 C4 C5 C2' CR hy
          have HPl := hide hpl
          rw [← hpl] at hO6
          obtain ⟨k1, k2⟩ := hO6.cell (i := a) (by omega)
          have hOs := hO6.set a y
          rw [hyx] at hOs
          have HOs := hide hOs
          have hWs := hW6.far (b := g6) (by omega) a (.int .u8 (x : Int))
          have c1s := hWs.at 1 HV1.out
          have hRs : Rdr (w6.setCell ⟨g6, a, none⟩ (.int .u8 (x : Int))) base g b q2 := hR6.below (B := g6) (Below.setCell (p := ⟨g6, a, none⟩) (Below.refl _ _) (Nat.le_refl _) _) hgg
          have hMs := hM6.fresh (grown_setCell w6 g6 a (.int .u8 (x : Int))) (fun k hk => by cases hk; exact hle6)
          have HP2 := hide (HPone.out y)
          generalize (P.getD a 0).toNat = y0 at *
          have hx0b : (x : Int) ≠ 0 := by omega
          clear hO6 hpl hR6 hM6 hOs hyx
          go_wp2_with (refine wpList_load_row rfl 67 (.tmp 9) rfl _ rfl _ _ _ _ hWs Try.underlying67 rfl hinf ?_)
          refine (HCR.out _).mono ?_
          rintro e w7 ⟨rfl, hE7⟩
          have HOt := hide (HOs.out.ext hE7)
          have hRt := hRs.ext hE7
          have hMt := hMs.trans (Mod.ofExt (ob := none) hE7) (.inl rfl)
          have hlen : (out ++ [y]).length = a + 1 := by rw [List.length_append, ← HA.out]; rfl
          have HL := hide hlen
          clear hWs c1s hRs hMs hE7 HOs hlen HCR
          go_wp2
          go_roundw
          case rel => exact ⟨q2, 64, out ++ [y], by rw [HL.out]; omega, rfl, by rw [HL.out]; go_num, by have := HOt.out; rw [HPl.out, HP2.out] at this; exact this, hRt, hMt, HC2.out⟩
          case measure => simp [intOf]; omega
      · have herb : ((er : Int) == 0) = false := by rw [beq_eq_false_iff_ne]; omega
        obtain ⟨z, hz⟩ := F1.out her
        have HZ := hide hz
        clear hz F1 F2 F3 F4 F5
        go_wp2_with (refine wpList_storeW rfl 67 (.tmp 9) (.tmp 26) rfl rfl rfl hM9 hss hinf hone ?_; intro w5 hW5 hG5 hS5; clear hS5)
        go_ret2
        rw [HZ.out]
        exact ⟨_, _, rfl, OwnB.nil _ _, (hR3.ext hE4).below (B := w3.heap.size) (Below.grown (Below.refl _ _) hG5 hE4.le (fun k hk => by cases hk; omega)) (by have := hM3.size; omega), fun h => absurd h her, (hM.trans hM3 (.inl rfl)).trans (Mod.ofExt (ob := none) hE4) (.inl rfl) |>.fresh hG5 (fun k hk => by cases hk; have := hM3.size; omega)⟩
    · have hak : out.length = k := by omega
      rw [padded_full hak] at hO
      have hRes := hres
      rw [readR_end hlt] at hRes
      have HRes := hide hRes
      have hkI : ¬ (out.length : Int) < (k : Int) := by omega
      have hgw : g6 < wr.heap.size := (hO.lt g6 rfl).2
      have hb : Bytes wr wr.heap.size (some ⟨g6, 0, none⟩) k out := by
        obtain ⟨A9, c9, e9, _, _, h9⟩ := hO.form
        simp only [Value.slice.injEq] at e9
        obtain ⟨rfl, _, _⟩ := e9
        rw [hak] at h9
        exact h9
      have C1 := check_any (some ⟨g6, 0, none⟩) k k out wr hb
      have HO := hide hO
      obtain ⟨a, ha⟩ : ∃ a, a = out.length := ⟨_, rfl⟩
      rw [← ha] at hkI ⊢
      clear ha hres hRes hpl hol hlt hak hb hO
      cases hr : right out with
      | true =>
        rw [check_right hr] at C1
        rw [hr] at HRes
        go_wp2_with fail
        refine C1.mono ?_
        rintro e w3 ⟨rfl, hE3⟩
        go_wp2
        go_ret2
        rw [HRes.out]
        exact ⟨_, _, rfl, (HO.out.ext hE3).mono hle6, hR.ext hE3, fun _ => rfl, hM.trans (Mod.ofExt (ob := none) hE3) (.inl rfl)⟩
      | false =>
        rw [check_wrong hr] at C1
        rw [hr] at HRes
        go_wp2_with fail
        refine C1.mono ?_
        rintro e w3 ⟨rfl, hE3⟩
        go_wp2
        go_ret2
        rw [HRes.out]
        exact ⟨_, _, rfl, OwnB.nil _ _, hR.ext hE3, (fun h => absurd h (by simp)), hM.trans (Mod.ofExt (ob := none) hE3) (.inl rfl)⟩
end Go.Proofs.Ytabhemmmefefgaa
