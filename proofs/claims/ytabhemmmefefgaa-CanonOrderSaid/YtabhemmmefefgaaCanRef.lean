/- The document's Check of chapter 8. -/
import Derived.Test.YtabhemmmefefgaaCanMath
import Derived.Test.YtabhemmmefefgaaLenKraft
namespace Go.Proofs.Ytabhemmmefefgaa
open Go.RowKit Len Can

set_option maxHeartbeats 2000000 in
set_option maxRecDepth 100000 in
theorem refCheck_any (A : Option Addr) (n c : Nat) (l : List UInt8) (w : World) (h : Bytes w w.heap.size A n l) : Calls Try.prog 12 #[.slice A n c] w fun e w' => e = .returned (.int .i64 (checkE l)) ∧ Ext w w' := by
  have hl := h.1
  subst hl
  have C1 := refKraft_any A l.length c l w h
  by_cases hk : (kraftE l).2 = 0
  · have HR := hide (show ∀ r : Prop, ((usedC l l.length = 0 ∨ usedC l l.length = 1 ∧ oneC l l.length = 1 ∨ (kraftE l).1 = 32768) ↔ r) → (r → checkE l = 0) ∧ (¬ r → checkE l = 7) from fun r hr => ⟨fun h => check_right (decide_eq_true ⟨hk, hr.2 h⟩), fun h => check_wrong (decide_eq_false fun h2 => h (hr.1 h2.2))⟩)
    obtain ⟨h300, _, hkw⟩ := kraft_ok hk
    have HU := hide (show ∀ i, usedC l (i + 1) = usedC l i + if lenAt l i = 0 then 0 else 1 from fun _ => rfl)
    have HO := hide (show ∀ i, oneC l (i + 1) = oneC l i + if lenAt l i = 1 then 1 else 0 from fun _ => rfl)
    have HU0 := hide (show usedC l 0 = 0 from rfl)
    have HO0 := hide (show oneC l 0 = 0 from rfl)
    unfold TellsI at C1
    rw [hk] at C1
    clear hk hkw
    generalize (kraftE l).1 = kw at *
    generalize hck : checkE l = ck at *
    clear hck
    go_enter Try.func12, Try.ntmps12
    go_wp2_with fail
    refine C1.mono ?_
    rintro e w2 ⟨rfl, hE⟩
    clear C1
    go_wp2_with fail
    go_loopw [5, 6, 7] (fun a b d wr => ∃ i u o : Nat, i ≤ l.length ∧ d = .int .i64 (i : Int) ∧ a = .int .i64 (u : Int) ∧ b = .int .i64 (o : Int) ∧ u = usedC l i ∧ o = oneC l i ∧ u ≤ i ∧ o ≤ i ∧ Ext w wr) (fun _ _ d _ => l.length - (intOf d).toNat)
    case atStart => exact ⟨0, 0, 0, Nat.zero_le _, rfl, rfl, rfl, HU0.out.symm, HO0.out.symm, Nat.le_refl _, Nat.le_refl _, hE⟩
    case round =>
      obtain ⟨i, u, o, hi, rfl, rfl, rfl, hu, ho, hui, hoi, hE2⟩ := hrel
      by_cases hlt : i < l.length
      · rcases (hE2.bytes h).2 with h0 | ⟨b, off, rfl, hB, hc⟩
        · omega
        have hk := hc i hlt
        have hU := HU.out i
        have hO := HO.out i
        unfold lenAt at hU hO
        rw [← hu] at hU
        rw [← ho] at hO
        have hyl := UInt8.toNat_lt (l.getD i 0)
        obtain ⟨y, hy⟩ : ∃ y, y = (l.getD i 0).toNat := ⟨_, rfl⟩
        rw [← hy] at hk hU hO hyl
        have hil : (i : Int) < (l.length : Int) := by omega
        clear hc hy hu ho h
        by_cases y0 : y = 0
        · rw [if_pos y0] at hU
          rw [if_neg (by omega)] at hO
          have HU2 := hide hU
          have HO2 := hide hO
          subst y0
          clear hU hO
          go_wp2
          go_roundw
          case rel => exact ⟨i + 1, u, o, by omega, by go_num, rfl, rfl, HU2.out.symm, HO2.out.symm, by omega, by omega, hE2⟩
          case measure => simp [intOf]; omega
        · rw [if_neg y0] at hU
          have hy0 : (0 : Int) < (y : Int) := by omega
          by_cases y1 : y = 1
          · rw [if_pos y1] at hO
            have HU2 := hide hU
            have HO2 := hide hO
            subst y1
            clear hU hO
            go_wp2
            go_roundw
            case rel => exact ⟨i + 1, u + 1, o + 1, by omega, by go_num, by go_num, by go_num, HU2.out.symm, HO2.out.symm, by omega, by omega, hE2⟩
            case measure => simp [intOf]; omega
          · rw [if_neg y1] at hO
            have HU2 := hide hU
            have HO2 := hide hO
            have hyb : ((y : Int) == 1) = false := by rw [beq_eq_false_iff_ne]; omega
            clear hU hO
            go_wp2
            go_roundw
            case rel => exact ⟨i + 1, u + 1, o, by omega, by go_num, by go_num, rfl, HU2.out.symm, HO2.out.symm, by omega, by omega, hE2⟩
            case measure => simp [intOf]; omega
      · obtain rfl : l.length = i := by omega
        have HRu := hide (HR.out (u = 0 ∨ u = 1 ∧ o = 1 ∨ kw = 32768) (by rw [hu, ho]))
        clear hu ho h
        by_cases u0 : u = 0
        · have HK := hide (HRu.out.1 (.inl u0))
          subst u0
          clear HRu
          go_wp2
          go_ret
          exact ⟨ret_i64 HK.out.symm, hE2⟩
        · have hub : ((u : Int) == 0) = false := by rw [beq_eq_false_iff_ne]; omega
          by_cases hk : kw = 32768
          · have HK := hide (HRu.out.1 (.inr (.inr hk)))
            subst hk
            by_cases u1 : u = 1
            · subst u1
              by_cases o1 : o = 1
              · subst o1
                clear HRu
                go_wp2
                go_ret
                exact ⟨ret_i64 HK.out.symm, hE2⟩
              · have hob : ((o : Int) == 1) = false := by rw [beq_eq_false_iff_ne]; omega
                clear HRu
                go_wp2
                go_ret
                exact ⟨ret_i64 HK.out.symm, hE2⟩
            · have hu1 : ((u : Int) == 1) = false := by rw [beq_eq_false_iff_ne]; omega
              clear HRu
              go_wp2
              go_ret
              exact ⟨ret_i64 HK.out.symm, hE2⟩
          · have hkb : ((kw : Int) == 32768) = false := by rw [beq_eq_false_iff_ne]; omega
            by_cases u1 : u = 1
            · subst u1
              by_cases o1 : o = 1
              · have HK := hide (HRu.out.1 (.inr (.inl ⟨rfl, o1⟩)))
                subst o1
                clear HRu
                go_wp2
                go_ret
                exact ⟨ret_i64 HK.out.symm, hE2⟩
              · have HK := hide (HRu.out.2 (by omega))
                have hob : ((o : Int) == 1) = false := by rw [beq_eq_false_iff_ne]; omega
                clear HRu
                go_wp2
                go_ret
                exact ⟨ret_i64 HK.out.symm, hE2⟩
            · have HK := hide (HRu.out.2 (by omega))
              have hu1 : ((u : Int) == 1) = false := by rw [beq_eq_false_iff_ne]; omega
              clear HRu
              go_wp2
              go_ret
              exact ⟨ret_i64 HK.out.symm, hE2⟩
  · have HN := hide (show checkE l = 7 from check_wrong (decide_eq_false fun h2 => hk h2.1))
    have h13 : (kraftE l).2 = 13 := by
      unfold kraftE at hk ⊢
      split at hk
      · exact absurd rfl hk
      · rename_i h2
        rw [if_neg h2]
    unfold TellsI at C1
    rw [h13] at C1
    generalize (kraftE l).1 = kw at *
    generalize checkE l = ck at *
    clear hk h13 h
    go_enter Try.func12, Try.ntmps12
    go_wp2_with fail
    refine C1.mono ?_
    rintro e w2 ⟨rfl, hE⟩
    go_wp2
    go_ret
    exact ⟨ret_i64 HN.out.symm, hE⟩
end Go.Proofs.Ytabhemmmefefgaa
