/- Contract of the program's Write. -/
import Derived.Test.YtabhemmmefefgaaCanPItem
import Derived.Test.YtabhemmmefefgaaCanWrites
namespace Go.Proofs.Ytabhemmmefefgaa
open Go.RowKit Len Can

theorem Can.head_le (x : UInt8) (r : List UInt8) : 1 ≤ headM x r ∧ headM x r ≤ r.length + 1 ∧ headM x r ≤ 64 := by
  have := zrun_le 63 r
  unfold headM
  split <;> omega
theorem Can.wbits_head (x : UInt8) (r : List UInt8) : wbits (x :: r) = itemB x.toNat (headM x r) ++ wbits ((x :: r).drop (headM x r)) := by
  by_cases h : x = 0
  · subst h
    have e : headM 0 r = zrun 63 r + 1 := if_pos rfl
    rw [wbits_zero, e, List.drop_succ_cons, Nat.add_comm]
    unfold itemB
    rw [show UInt8.toNat 0 = 0 from rfl, if_pos rfl, Nat.add_comm 1, Nat.add_sub_cancel, List.append_assoc]
  · have e : headM x r = 1 := if_neg h
    have hx : x.toNat ≠ 0 := fun e => h (UInt8.toNat_inj.1 e)
    rw [wbits_used r h, e]
    unfold itemB
    rw [if_neg hx, List.append_nil]
    rfl

/-- The length of a slice. -/
def Can.sliceLen : Value → Nat
  | .slice _ n _ => n
  | _ => 0
attribute [local go_sem ↓] run_cut

set_option maxHeartbeats 1000000 in
set_option maxRecDepth 100000 in
theorem writeNilC_any (w : World) : WriteNilC w := by
  intro A n c l W _ _ _ _
  go_enter Try.func17, Try.ntmps17
  go_wp2
  go_ret
  exact ⟨rfl, Ext.refl _⟩

set_option maxHeartbeats 1000000 in
set_option maxRecDepth 100000 in
theorem writeC_any (w : World) : WriteC w := by
  intro l A n c W base g ob B _ hn hc hb hW hB
  have hl := hb.1
  subst hl
  have C := check_any A l.length c l W (hb.mono hW.bound)
  have hne := hW.ne
  cases hr : right l with
  | false =>
    rw [check_wrong hr] at C ⊢
    go_enter Try.func17, Try.ntmps17
    go_wp2_with fail
    refine C.mono ?_
    rintro e w2 ⟨rfl, hE2⟩
    go_wp2
    go_ret
    refine ⟨rfl, ob, ?_, .inl rfl, Mod.ofExt hE2⟩
    have := hW.ext hE2
    simpa using this
  | true =>
    rw [check_right hr] at C ⊢
    obtain ⟨h300, h15, _⟩ := right_facts hr
    have HAll := hide (show ∀ x, x ∈ l → x.toNat ≤ 15 from fun x hx => by
      obtain ⟨i, hi, rfl⟩ := List.mem_iff_getElem.1 hx
      have := h15 i hi
      unfold lenAt at this
      rwa [List.getD_eq_getElem?_getD, List.getElem?_eq_getElem hi] at this)
    have hWL := wbits_len l
    rw [if_pos rfl]
    have hG : B ++ wbits l = B ++ wbits l := rfl
    obtain ⟨G, hGe⟩ : ∃ G, G = B ++ wbits l := ⟨_, rfl⟩
    rw [← hGe]
    have HG := hide hGe
    have hGl : G.length ≤ 200000 := by rw [hGe, List.length_append]; omega
    have hbase := hW.bound
    have hbg := hW.le
    have HOb := hide (show ∀ k, ob = some k → base ≤ k from fun k hk => (hW.ob k hk).1)
    have HW := hide hW
    have HB := hide hb
    clear hG hGe hr h15 hWL hb hW hB
    go_enter Try.func17, Try.ntmps17
    go_wp2_with fail
    refine C.mono ?_
    rintro e w2 ⟨rfl, hE2⟩
    clear C
    go_wp2_with fail
    go_loopw [1] (fun a wr => ∃ A' c' suf ob' B', a = .slice A' suf.length c' ∧ suf.length ≤ c' ∧ c' ≤ maxLen ∧ suf.length ≤ 300 ∧ (∀ x, x ∈ suf → x.toNat ≤ 15) ∧ Bytes W base A' suf.length suf ∧ Wrt wr base g ob' B' ∧ G = B' ++ wbits suf ∧ NewOb W ob ob' ∧ Mod W wr g ob) (fun a _ => sliceLen a)
    case atStart => exact ⟨A, c, l, ob, B, rfl, hn, hc, h300, HAll.out, HB.out, HW.out.ext hE2, HG.out, .inl rfl, Mod.ofExt hE2⟩
    case round =>
      clear HAll HB HW hE2 HG
      obtain ⟨A', c', suf, ob', B', rfl, hn', hc', hs3, hall, hb', hW', hG', hN, hM⟩ := hrel
      cases suf with
      | nil =>
        rw [wbits_nil, List.append_nil] at hG'
        have HG := hide hG'
        have hnl : ([] : List UInt8).length = 0 := rfl
        rw [hnl] at hb' ⊢
        clear hG' hall
        go_wp2
        go_ret
        refine ⟨rfl, ob', ?_, hN, hM⟩
        rw [HG.out]
        exact hW'
      | cons x r =>
        have hx15 := hall x (List.mem_cons_self ..)
        have hhd := head_le x r
        have hlr : (x :: r).length = r.length + 1 := rfl
        have HAll := hide (show ∀ y, y ∈ (x :: r).drop (headM x r) → y.toNat ≤ 15 from fun y hy => hall y (List.mem_of_mem_drop hy))
        have HG := hide hG'
        rw [wbits_head x r, ← List.append_assoc] at hG'
        have HG2 := hide hG'
        have hBl : B'.length ≤ 200000 := by
          have := congrArg List.length HG.out
          rw [List.length_append] at this
          omega
        have hbr := (hb'.below (hM.below hbase hbg HOb.out) (Nat.le_refl _)).mono (Nat.le_trans hbase hM.size)
        have C1 := itemOf_any A' (x :: r).length c' x r wr (by omega) hbr
        have HDrop := hide (hb'.drop (k := headM x r) (c := c') (by omega) hn')
        have hxr : (x :: r).length ≤ 301 := by omega
        have HX0 := hide (show x.toNat = 0 → 1 ≤ headM x r ∧ headM x r ≤ 64 from fun _ => ⟨hhd.1, hhd.2.2⟩)
        have HLd := hide (show ((x :: r).drop (headM x r)).length = (x :: r).length - headM x r from List.length_drop)
        have hm1 := hhd.1
        have hm2 : headM x r ≤ (x :: r).length := hhd.2.1
        have hpos : 0 < (x :: r).length := by omega
        clear hall hG' hhd hlr hbr hb' HG
        generalize headM x r = m at *
        obtain ⟨N, hNe⟩ : ∃ N, N = (x :: r).length := ⟨_, rfl⟩
        rw [← hNe] at hn' hs3 C1 hxr hm2 hpos HDrop HLd ⊢
        have HNe := hide hNe
        clear hNe
        generalize x.toNat = xv at *
        have hposI : (0 : Int) < (N : Int) := by omega
        go_wp2_with fail
        refine C1.mono ?_
        rintro e w3 ⟨rfl, hE3⟩
        clear C1
        have hM3 := Whole.new w3 67 (itemV 0 0)
        have hinf : (Try.prog.info? 67).map (·.size) = some (itemV xv m).size := item_info
        have hone := itemV_one xv m
        have hE4 := hE3.alloc (.cells (itemV 0 0) 67)
        have CW := fun (w : World) (base g : Nat) (ob : Option Nat) (B : List Bool) (h : Wrt w base g ob B) (hfit : B.length ≤ 800000000) => itemWrite_any xv m (by omega) HX0.out h hfit
        obtain ⟨V, hV⟩ : ∃ V, V = itemV xv m := ⟨_, rfl⟩
        have HV1 := hide (show V[1]? = some (.int .i64 (m : Int)) by rw [hV]; rfl)
        have hss : V.size = 2 := by rw [hV]; rfl
        rw [← hV] at hinf hone CW ⊢
        clear hV
        unfold itemV at hM3 hE4
        go_wp2_with (first
          | (refine wpList_storeW rfl 67 (.tmp 6) (.tmp 18) rfl rfl rfl hM3 hss hinf hone ?_; intro w5 hW5 hG5 hS5; clear hS5)
          | (refine wpList_load_row rfl 67 (.tmp 6) rfl _ rfl _ _ _ _ hW5 Try.underlying67 rfl hinf ?_))
        have hwl := hW'.lt
        have hwo := hW'.ob
        have hwn := hW'.ne
        have hE5 : Ext wr w5 := Below.grown hE4 hG5 hE4.le (fun k hk => by cases hk; exact hE3.le)
        have hW6 := hW'.ext hE5
        have hle3 := hE3.le
        clear hM3 hE4 hG5 hE3
        refine (CW w5 base g ob' B' hW6 (by omega)).mono ?_
        rintro e w6 ⟨rfl, ob6, hW7, hN7, hM7⟩
        have hV6 := hM7.whole hW5 (by omega) (fun e => by have := (hwo _ e).2; omega)
        have c1 := hV6.at 1 HV1.out
        have hMf := hM.trans ((Mod.ofExt (g := g) (ob := ob') hE5).trans hM7 (.inl rfl)) hN
        have hNf := hN.trans hM.size ((NewOb.same wr ob').trans hE5.le hN7)
        clear CW hW5 hW6 hM7 hN7 hE5 hV6 hW' hM hN
        have hmI0 : (0 : Int) ≤ (m : Int) := by omega
        have hmI1 : (m : Int) ≤ (N : Int) := by omega
        go_wp2
        go_roundw
        case rel => exact ⟨cutAt A' c' m, c' - m, (x :: r).drop m, ob6, _, by rw [HLd.out], by rw [HLd.out]; omega, by omega, by rw [HLd.out]; omega, HAll.out, by rw [HLd.out]; exact HDrop.out, hW7, HG2.out, hNf, hMf⟩
        case measure => simp only [sliceLen]; omega
end Go.Proofs.Ytabhemmmefefgaa
