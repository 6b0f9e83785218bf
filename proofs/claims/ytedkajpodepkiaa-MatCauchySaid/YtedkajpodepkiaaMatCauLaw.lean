/- The law MatCauchy. -/
import Derived.Test.YtedkajpodepkiaaMatCauM
import Derived.Test.YtedkajpodepkiaaMatStacks
import Derived.Test.YtedkajpodepkiaaMatPicks
import Derived.Test.YtedkajpodepkiaaMatInverts
import Derived.Test.YtedkajpodepkiaaOwnI
import Derived.OpenShut
namespace Go.Proofs.Ytedkajpodepkiaa
open Go.RowKit

theorem hasB_succ (D : List Int) (x : Int) {q : Nat} (h : q < D.length) : (D.take (q + 1)).contains x = ((D.take q).contains x || (D.getD q 0 == x)) := by
  rw [List.take_succ_eq_append_getElem h, List.contains_append, List.getD_eq_getElem?_getD, List.getElem?_eq_getElem h, Option.getD_some]
  congr 1
  rw [Bool.eq_iff_iff]
  simp only [List.contains_cons, List.contains_nil, Bool.or_false, beq_iff_eq]
  exact ⟨fun h => h.symm, fun h => h.symm⟩

set_option maxHeartbeats 8000000 in
set_option maxRecDepth 100000 in
theorem matCauchy_walk0 (k m : Int) (A : Option Addr) (kc : Nat) (L : List Int) (w : World) (hC : CauchyC w) (hD : IdentityC w) (hS : StackC w) (hP : PickC w) (hI : InverseC w) (hk : (Lit.int .u8 k).wf = true) (hm : (Lit.int .u8 m).wf = true)
    (hb : IntsAt w w.heap.size A L.length L) (_hl2 : L.length ≤ kc) :
    Calls Try.prog 13 #[.int .u8 k, .int .u8 m, .slice A L.length kc] w fun e w' => e = .returned (.bool true) ∧ Below w.heap.size w w' := by
  obtain ⟨x0, x1⟩ := bounds_u8 hk
  obtain ⟨y0, y1⟩ := bounds_u8 hm
  obtain ⟨k, rfl⟩ := Int.eq_ofNat_of_zero_le x0
  obtain ⟨m, rfl⟩ := Int.eq_ofNat_of_zero_le y0
  clear hk hm
  obtain ⟨n', hn'⟩ : ∃ n', n' = k % 12 := ⟨_, rfl⟩
  obtain ⟨p, hp⟩ : ∃ p, p = m % 13 := ⟨_, rfl⟩
  have e1 : (k : Int) % 12 = (n' : Int) := by omega
  have e2 : (m : Int) % 13 = (p : Int) := by omega
  have hn12 : n' + 1 ≤ 12 := by omega
  have hp12 : p ≤ 12 := by omega
  clear hn' hp
  go_enter Try.func13, Try.ntmps13
  go_wp2_with fail
  refine (alive5_any hC (Ext.refl w)).mono ?_
  rintro e w1 ⟨rfl, hE1⟩
  go_wp2_with fail
  obtain ⟨n, hn⟩ : ∃ n : Nat, n = n' + 1 := ⟨_, rfl⟩
  have hnn : (1 : Int) + (n' : Int) = (n : Int) := by omega
  rw [hnn, e2]
  rw [← hn] at hn12
  clear hn hnn e1 e2
  go_loopw [9, 10] (fun v i wq => ∃ (j : Nat) (D : List Int), j ≤ L.length ∧ i = .int .i64 (j : Int) ∧ OwnI wq w1.heap.size v D ∧ D.Nodup ∧ (∀ x ∈ D, 0 ≤ x ∧ x < ((n + p : Nat) : Int)) ∧ D.length ≤ n ∧ Ext w1 wq) (fun _ i _ => L.length - (intOf i).toNat)
  case atStart => exact ⟨0, [], by omega, rfl, OwnI.nil _ _, List.nodup_nil, fun x hx => absurd hx (by simp), by simp, Ext.refl _⟩
  case round =>
    obtain ⟨i, D, hi, rfl, hO, hnd, hdx, hdl, hE2⟩ := hrel
    obtain ⟨A5, c5, rfl, hc5, hI5⟩ := hO.form
    by_cases h1 : i < L.length
    · have h1' : (i : Int) < (L.length : Int) := by omega
      by_cases h2 : i < 100
      · have h2' : (i : Int) < 100 := by omega
        by_cases h3 : D.length < n
        · have h3' : (D.length : Int) < (n : Int) := by omega
          rcases hb.2 with h0 | ⟨g1, og, rfl, hg1, hcg⟩
          · omega
          have cxa := ((hE1.trans hE2).cell (i := og + i) hg1).trans (hcg i h1)
          have hg1' := Nat.lt_of_lt_of_le hg1 (hE1.trans hE2).le
          have hi0 : (0 : Int) ≤ (i : Int) := by omega
          have hsum : IntKind.i64.wrap ((n : Int) + (p : Int)) = (n : Int) + (p : Int) := by rw [IntKind.wrap_i64]; omega
          clear hcg
          generalize L.getD i 0 = x at *
          by_cases hx0 : x < 0
          · have hx0' : (x < 0) = True := by simpa using hx0
            obtain ⟨wa, rfl⟩ : ∃ W, W = wr := ⟨_, rfl⟩
            go_wp2_with fail
            go_loopw [11, 12] (fun b i wq => ∃ q : Nat, q ≤ D.length ∧ i = .int .i64 (q : Int) ∧ b = .bool true ∧ Ext wa wq) (fun _ i _ => D.length - (intOf i).toNat)
            case atStart => exact ⟨0, by omega, rfl, rfl, Ext.refl _⟩
            case round =>
              obtain ⟨q, hq, rfl, rfl, hE3⟩ := hrel
              by_cases hqt : q < D.length
              · have hqt' : (q : Int) < (D.length : Int) := by omega
                go_wp2_with fail
                go_quiet (fail)
                go_wp2
                go_roundw
                case rel => exact ⟨q + 1, by omega, by go_num, rfl, hE3.drewN _⟩
                case measure => simp [intOf]; omega
              · obtain rfl : D.length = q := by omega
                go_wp2_with fail
                go_roundw
                case rel => exact ⟨i + 1, D, by omega, by go_num, hO.ext hE3, hnd, hdx, hdl, hE2.trans hE3⟩
                case measure => simp [intOf]; omega
          · have hx0' := eq_false hx0
            by_cases hxn : (n : Int) + (p : Int) ≤ x
            · have hxn' := eq_true hxn
              obtain ⟨wa, rfl⟩ : ∃ W, W = wr := ⟨_, rfl⟩
              go_wp2_with fail
              go_loopw [11, 12] (fun b i wq => ∃ q : Nat, q ≤ D.length ∧ i = .int .i64 (q : Int) ∧ b = .bool true ∧ Ext wa wq) (fun _ i _ => D.length - (intOf i).toNat)
              case atStart => exact ⟨0, by omega, rfl, rfl, Ext.refl _⟩
              case round =>
                obtain ⟨q, hq, rfl, rfl, hE3⟩ := hrel
                by_cases hqt : q < D.length
                · have hqt' : (q : Int) < (D.length : Int) := by omega
                  go_wp2_with fail
                  go_quiet (fail)
                  go_wp2
                  go_roundw
                  case rel => exact ⟨q + 1, by omega, by go_num, rfl, hE3.drewN _⟩
                  case measure => simp [intOf]; omega
                · obtain rfl : D.length = q := by omega
                  go_wp2_with fail
                  go_roundw
                  case rel => exact ⟨i + 1, D, by omega, by go_num, hO.ext hE3, hnd, hdx, hdl, hE2.trans hE3⟩
                  case measure => simp [intOf]; omega
            · have hxn' := eq_false hxn
              have hxr : 0 ≤ x := by omega
              have hxl : x < (n : Int) + (p : Int) := by omega
              obtain ⟨wa, rfl⟩ : ∃ W, W = wr := ⟨_, rfl⟩
              go_wp2_with fail
              go_loopw [11, 12] (fun b i wq => ∃ q : Nat, q ≤ D.length ∧ i = .int .i64 (q : Int) ∧ b = .bool ((D.take q).contains x) ∧ Ext wa wq) (fun _ i _ => D.length - (intOf i).toNat)
              case atStart => exact ⟨0, by omega, rfl, by simp, Ext.refl _⟩
              case round =>
                obtain ⟨q, hq, rfl, rfl, hE3⟩ := hrel
                have cx := (hE3.cell (i := og + i) hg1').trans cxa
                by_cases hqt : q < D.length
                · rcases hI5.2 with h0 | ⟨g5, o5, rfl, hg5, hc5c⟩
                  · omega
                  have c5c := (hE3.cell (i := o5 + q) hg5).trans (hc5c q hqt)
                  have hqt' : (q : Int) < (D.length : Int) := by omega
                  have hq0 : (0 : Int) ≤ (q : Int) := by omega
                  have HB := hide (hasB_succ D x hqt)
                  clear hc5c
                  generalize (D.take q).contains x = b1 at *
                  generalize D.getD q 0 = y at *
                  obtain ⟨b2, hb2⟩ : ∃ b2, (y == x) = b2 := ⟨_, rfl⟩
                  have HB2 := hide hb2
                  cases b1
                  · cases b2
                    · go_wp2_with fail
                      go_quiet (fail)
                      go_wp2
                      go_roundw
                      case rel => exact ⟨q + 1, by omega, by go_num, by rw [HB.out, HB2.out]; rfl, hE3.drewN _⟩
                      case measure => simp [intOf]; omega
                    · go_wp2_with fail
                      go_quiet (fail)
                      go_wp2
                      go_roundw
                      case rel => exact ⟨q + 1, by omega, by go_num, by rw [HB.out, HB2.out]; rfl, hE3.drewN _⟩
                      case measure => simp [intOf]; omega
                  · go_wp2_with fail
                    go_quiet (fail)
                    go_wp2
                    go_roundw
                    case rel => exact ⟨q + 1, by omega, by go_num, by rw [HB.out]; rfl, hE3.drewN _⟩
                    case measure => simp [intOf]; omega
                · obtain rfl : D.length = q := by omega
                  rw [List.take_length]
                  by_cases hcx : D.contains x = true
                  · rw [hcx]
                    clear hcx
                    go_wp2_with fail
                    go_roundw
                    case rel => exact ⟨i + 1, D, by omega, by go_num, hO.ext hE3, hnd, hdx, hdl, hE2.trans hE3⟩
                    case measure => simp [intOf]; omega
                  · have hnm : x ∉ D := fun h => hcx (List.contains_iff_mem.2 h)
                    rw [Bool.not_eq_true] at hcx
                    rw [hcx]
                    clear hcx
                    have HNM := hide hnm
                    have hE4 := extNew wr (.cells #[.int .i64 x] 3)
                    have hO4 := (hO.ext hE3).ext hE4
                    have hB4 := (hE2.trans hE3).le
                    clear hnm
                    go_wp2_with (at_builtin; refine wpList_appI rfl (.tmp 83) (.tmp 88) rfl rfl x hO4 rfl (by omega) hB4 ?_; intro v4 w4 hO5 hG5)
                    go_roundw
                    case rel =>
                      exact ⟨i + 1, D ++ [x], by omega, by go_num, hO5, by rw [List.nodup_append]; exact ⟨hnd, by simp, fun a ha b hb e => HNM.out (by rw [List.mem_singleton] at hb; rw [← hb, ← e]; exact ha)⟩, fun z hz => by
                        rcases List.mem_append.1 hz with h | h
                        · exact hdx z h
                        · rw [List.mem_singleton] at h
                          rw [h]
                          omega, by rw [List.length_append, List.length_singleton]; omega, Below.grown ((hE2.trans hE3).trans hE4) hG5 ((hE2.trans hE3).trans hE4).le (fun k hk => (hO4.lt k hk).1)⟩
                    case measure => simp [intOf]; omega
        · have h3' : ¬ ((D.length : Int) < (n : Int)) := by omega
          have hdn : D.length = n := by omega
          obtain ⟨II, CC, SS, TT, i1, i2, i3, i4, i5, l1, l2, l3, l4⟩ := cauchy_calls (by omega) hdn hnd hdx
          have D1 := hD n wr (hE1.trans hE2)
          rw [i1] at D1
          have HI2 := hide i2
          have HI3 := hide i3
          have HI4 := hide i4
          have HI5 := hide i5
          have HN := hide hnd
          have HX := hide hdx
          have q1 := hE1.trans hE2
          clear i1 i2 i3 i4 i5 hnd hdx hO hdn
          go_wp2_with fail
          refine D1.mono ?_
          have hP1 := hI5
          have hC2 := fun W hE => hC n p W hE
          rw [HI2.out] at hC2
          rintro e v2 ⟨v, rfl, hO2, hF2⟩
          obtain ⟨AI, nI, cI, rfl, hcI, _, hBI⟩ := hO2.form'
          have hnI := hBI.1
          subst hnI
          have hA2 := Whole.new v2 24 #[.int .i64 0, .int .i64 0, .slice none 0 0]
          have q2 := q1.trans hF2
          have hP2 := hP1.ext hF2
          dsimp only [matV]
          clear hO2 hP1  D1 hI5
          go_wp2_with (first
            | (refine wpList_storeW rfl 24 (.tmp 13) (.tmp 97) rfl rfl rfl hA2 rfl mat_info (mat_one rfl) ?_; intro v3 hWI3 hG3 hS3; have hF3 := Ext.put hG3; have q3 := q2.trans hF3; clear hS3))
          have hBI3 := hF3.bytes hBI
          have hP3 := hP2.ext hF3
          clear hA2 hG3 hBI hP2 
          refine (hC2 v3 q3).mono ?_
          rintro e v4 ⟨v, rfl, hO4, hF4⟩
          obtain ⟨AC, nC, cC, rfl, hcC, _, hBC⟩ := hO4.form'
          have hnC := hBC.1
          subst hnC
          have hA4 := Whole.new v4 24 #[.int .i64 0, .int .i64 0, .slice none 0 0]
          have q4 := q3.trans hF4
          have hWI4 := hWI3.ext hF4
          have hBI4 := hF4.bytes hBI3
          have hP4 := hP3.ext hF4
          dsimp only [matV]
          clear hO4 hP3 hWI3 hBI3 hC2
          go_wp2_with (first
            | (refine wpList_storeW rfl 24 (.tmp 15) (.tmp 103) rfl rfl rfl hA4 rfl mat_info (mat_one rfl) ?_; intro v5 hWC5 hG5 hS5; have hF5 := Ext.put hG5; have q5 := q4.trans hF5; have hWI5 := hWI4.ext hF5; clear hS5)
            | (refine wpList_load_row rfl 24 (.tmp 13) rfl _ rfl _ _ _ _ hWI5 Try.underlying24 rfl mat_info ?_)
            | (refine wpList_load_row rfl 24 (.tmp 15) rfl _ rfl _ _ _ _ hWC5 Try.underlying24 rfl mat_info ?_))
          have hBC5 := hF5.bytes hBC
          have hBI5 := hF5.bytes hBI4
          have hP5 := hP4.ext hF5
          clear hA4 hG5 hBC hP4 hBI4 hWI4
          have hNm := extNew v5 (.cells #[.int .i64 II.r, .int .i64 II.c, .slice AI II.l.length cI, .int .i64 CC.r, .int .i64 CC.c, .slice AC CC.l.length cC] 24)
          have hMats : MatsAt (v5.alloc (.cells #[.int .i64 II.r, .int .i64 II.c, .slice AI II.l.length cI, .int .i64 CC.r, .int .i64 CC.c, .slice AC CC.l.length cC] 24)) (v5.alloc (.cells #[.int .i64 II.r, .int .i64 II.c, .slice AI II.l.length cI, .int .i64 CC.r, .int .i64 CC.c, .slice AC CC.l.length cC] 24)).heap.size (some ⟨v5.heap.size, 0, none⟩) 2 [⟨II, AI, cI⟩, ⟨CC, AC, cC⟩] := by
            refine ⟨rfl, .inr ⟨v5.heap.size, 0, rfl, by simp, fun i hi => ?_⟩⟩
            match i, hi with
            | 0, _ => exact ⟨⟨cellNew _ _ _ _ _, cellNew _ _ _ _ _, cellNew _ _ _ _ _⟩, hNm.bytes hBI5, l1, hcI⟩
            | 1, _ => exact ⟨⟨cellNew _ _ _ _ _, cellNew _ _ _ _ _, cellNew _ _ _ _ _⟩, hNm.bytes hBC5, l2, hcC⟩
          have S1 := hS [⟨II, AI, cI⟩, ⟨CC, AC, cC⟩] _ 2 _ (q5.trans hNm) hMats (by simp) (by simp)
          have hlm : ([⟨II, AI, cI⟩, ⟨CC, AC, cC⟩] : List MIn).map MIn.m = [II, CC] := rfl
          rw [hlm, HI3.out] at S1
          have qq := q5.trans hNm
          have hPq := hP5.ext hNm
          clear hMats hlm hWI5 hWC5 hBI5 hBC5 hP5
          refine S1.mono ?_
          rintro e v6 ⟨v, rfl, hO6, hF6⟩
          obtain ⟨AS, nS, cS, rfl, hcS, _, hBS⟩ := hO6.form'
          have hnS := hBS.1
          subst hnS
          have hA6 := Whole.new v6 24 #[.int .i64 0, .int .i64 0, .slice none 0 0]
          have q6 := qq.trans hF6
          have hP6 := hPq.ext hF6
          dsimp only [matV]
          clear hO6 S1 hPq hNm hF6 qq
          go_wp2_with (first
            | (refine wpList_storeW rfl 24 (.tmp 17) (.tmp 110) rfl rfl rfl hA6 rfl mat_info (mat_one rfl) ?_; intro v7 hWS7 hG7 hS7; have hF7 := Ext.put hG7; have q7 := q6.trans hF7; clear hS7)
            | (refine wpList_load_row rfl 24 (.tmp 17) rfl _ rfl _ _ _ _ hWS7 Try.underlying24 rfl mat_info ?_))
          have hBS7 := hF7.bytes hBS
          have hP7 := hP6.ext hF7
          have P1 := hP SS D AS A5 cS c5 v7 q7 ⟨hBS7, l3, hcS⟩ hP7 (by omega) hc5
          rw [HI4.out] at P1
          have hse : SS.arg AS cS = .agg #[.int .i64 SS.r, .int .i64 SS.c, .slice AS SS.l.length cS] := rfl
          rw [hse] at P1
          refine P1.mono ?_
          rintro e v8 ⟨v, rfl, hO8, hF8⟩
          obtain ⟨AT, nT, cT, rfl, hcT, _, hBT⟩ := hO8.form'
          have hnT := hBT.1
          subst hnT
          have hA8 := Whole.new v8 24 #[.int .i64 0, .int .i64 0, .slice none 0 0]
          have q8 := q7.trans hF8
          have hWS8 := hWS7.ext hF8
          have hBS8 := hF8.bytes hBS7
          have hP8 := hP7.ext hF8
          dsimp only [matV]
          clear hO8 hP7 hWS7 hBS7 P1 hse
          go_wp2_with (first
            | (refine wpList_storeW rfl 24 (.tmp 19) (.tmp 118) rfl rfl rfl hA8 rfl mat_info (mat_one rfl) ?_; intro v9 hWT9 hG9 hS9; have hF9 := Ext.put hG9; have q9 := q8.trans hF9; have hWS9 := hWS8.ext hF9; clear hS9)
            | (refine wpList_load_row rfl 24 (.tmp 19) rfl _ rfl _ _ _ _ hWT9 Try.underlying24 rfl mat_info ?_))
          have hBT9 := hF9.bytes hBT
          have hBS9 := hF9.bytes hBS8
          have hP9 := hP8.ext hF9
          clear hA8 hG9 hBT hP8 hBS8 hWS8
          have J1 := hI TT AT cT v9 q9 ⟨hBT9, l4, hcT⟩
          rw [HI5.out] at J1
          have hte : TT.arg AT cT = .agg #[.int .i64 TT.r, .int .i64 TT.c, .slice AT TT.l.length cT] := rfl
          rw [hte] at J1
          refine J1.mono ?_
          rintro e v10 ⟨v, rfl, hO10, hF10⟩
          obtain ⟨AJ, nJ, cJ, rfl, _, _, _⟩ := hO10.form'
          have hA10 := Whole.new v10 24 #[.int .i64 0, .int .i64 0, .slice none 0 0]
          have q10 := q9.trans hF10
          dsimp only [matV]
          clear hO10 J1
          go_wp2_with (refine wpList_storeW rfl 24 (.tmp 21) (.tmp 125) rfl rfl rfl hA10 rfl mat_info (mat_one rfl) ?_; intro v11 hWJ hG11 hS11; have hF11 := Ext.put hG11; clear hS11)
          go_ret
          exact ⟨rfl, q10.trans hF11⟩
      · have h2' : ¬ ((i : Int) < 100) := by omega
        by_cases hdn : D.length = n
        · have hdn' : ¬ ((D.length : Int) < (n : Int)) := by omega
          obtain ⟨II, CC, SS, TT, i1, i2, i3, i4, i5, l1, l2, l3, l4⟩ := cauchy_calls (by omega) hdn hnd hdx
          have D1 := hD n wr (hE1.trans hE2)
          rw [i1] at D1
          have HI2 := hide i2
          have HI3 := hide i3
          have HI4 := hide i4
          have HI5 := hide i5
          have HN := hide hnd
          have HX := hide hdx
          have q1 := hE1.trans hE2
          clear i1 i2 i3 i4 i5 hnd hdx hO hdn
          go_wp2_with fail
          refine D1.mono ?_
          have hP1 := hI5
          have hC2 := fun W hE => hC n p W hE
          rw [HI2.out] at hC2
          rintro e v2 ⟨v, rfl, hO2, hF2⟩
          obtain ⟨AI, nI, cI, rfl, hcI, _, hBI⟩ := hO2.form'
          have hnI := hBI.1
          subst hnI
          have hA2 := Whole.new v2 24 #[.int .i64 0, .int .i64 0, .slice none 0 0]
          have q2 := q1.trans hF2
          have hP2 := hP1.ext hF2
          dsimp only [matV]
          clear hO2 hP1  D1 hI5
          go_wp2_with (first
            | (refine wpList_storeW rfl 24 (.tmp 13) (.tmp 97) rfl rfl rfl hA2 rfl mat_info (mat_one rfl) ?_; intro v3 hWI3 hG3 hS3; have hF3 := Ext.put hG3; have q3 := q2.trans hF3; clear hS3))
          have hBI3 := hF3.bytes hBI
          have hP3 := hP2.ext hF3
          clear hA2 hG3 hBI hP2 
          refine (hC2 v3 q3).mono ?_
          rintro e v4 ⟨v, rfl, hO4, hF4⟩
          obtain ⟨AC, nC, cC, rfl, hcC, _, hBC⟩ := hO4.form'
          have hnC := hBC.1
          subst hnC
          have hA4 := Whole.new v4 24 #[.int .i64 0, .int .i64 0, .slice none 0 0]
          have q4 := q3.trans hF4
          have hWI4 := hWI3.ext hF4
          have hBI4 := hF4.bytes hBI3
          have hP4 := hP3.ext hF4
          dsimp only [matV]
          clear hO4 hP3 hWI3 hBI3 hC2
          go_wp2_with (first
            | (refine wpList_storeW rfl 24 (.tmp 15) (.tmp 103) rfl rfl rfl hA4 rfl mat_info (mat_one rfl) ?_; intro v5 hWC5 hG5 hS5; have hF5 := Ext.put hG5; have q5 := q4.trans hF5; have hWI5 := hWI4.ext hF5; clear hS5)
            | (refine wpList_load_row rfl 24 (.tmp 13) rfl _ rfl _ _ _ _ hWI5 Try.underlying24 rfl mat_info ?_)
            | (refine wpList_load_row rfl 24 (.tmp 15) rfl _ rfl _ _ _ _ hWC5 Try.underlying24 rfl mat_info ?_))
          have hBC5 := hF5.bytes hBC
          have hBI5 := hF5.bytes hBI4
          have hP5 := hP4.ext hF5
          clear hA4 hG5 hBC hP4 hBI4 hWI4
          have hNm := extNew v5 (.cells #[.int .i64 II.r, .int .i64 II.c, .slice AI II.l.length cI, .int .i64 CC.r, .int .i64 CC.c, .slice AC CC.l.length cC] 24)
          have hMats : MatsAt (v5.alloc (.cells #[.int .i64 II.r, .int .i64 II.c, .slice AI II.l.length cI, .int .i64 CC.r, .int .i64 CC.c, .slice AC CC.l.length cC] 24)) (v5.alloc (.cells #[.int .i64 II.r, .int .i64 II.c, .slice AI II.l.length cI, .int .i64 CC.r, .int .i64 CC.c, .slice AC CC.l.length cC] 24)).heap.size (some ⟨v5.heap.size, 0, none⟩) 2 [⟨II, AI, cI⟩, ⟨CC, AC, cC⟩] := by
            refine ⟨rfl, .inr ⟨v5.heap.size, 0, rfl, by simp, fun i hi => ?_⟩⟩
            match i, hi with
            | 0, _ => exact ⟨⟨cellNew _ _ _ _ _, cellNew _ _ _ _ _, cellNew _ _ _ _ _⟩, hNm.bytes hBI5, l1, hcI⟩
            | 1, _ => exact ⟨⟨cellNew _ _ _ _ _, cellNew _ _ _ _ _, cellNew _ _ _ _ _⟩, hNm.bytes hBC5, l2, hcC⟩
          have S1 := hS [⟨II, AI, cI⟩, ⟨CC, AC, cC⟩] _ 2 _ (q5.trans hNm) hMats (by simp) (by simp)
          have hlm : ([⟨II, AI, cI⟩, ⟨CC, AC, cC⟩] : List MIn).map MIn.m = [II, CC] := rfl
          rw [hlm, HI3.out] at S1
          have qq := q5.trans hNm
          have hPq := hP5.ext hNm
          clear hMats hlm hWI5 hWC5 hBI5 hBC5 hP5
          refine S1.mono ?_
          rintro e v6 ⟨v, rfl, hO6, hF6⟩
          obtain ⟨AS, nS, cS, rfl, hcS, _, hBS⟩ := hO6.form'
          have hnS := hBS.1
          subst hnS
          have hA6 := Whole.new v6 24 #[.int .i64 0, .int .i64 0, .slice none 0 0]
          have q6 := qq.trans hF6
          have hP6 := hPq.ext hF6
          dsimp only [matV]
          clear hO6 S1 hPq hNm hF6 qq
          go_wp2_with (first
            | (refine wpList_storeW rfl 24 (.tmp 17) (.tmp 110) rfl rfl rfl hA6 rfl mat_info (mat_one rfl) ?_; intro v7 hWS7 hG7 hS7; have hF7 := Ext.put hG7; have q7 := q6.trans hF7; clear hS7)
            | (refine wpList_load_row rfl 24 (.tmp 17) rfl _ rfl _ _ _ _ hWS7 Try.underlying24 rfl mat_info ?_))
          have hBS7 := hF7.bytes hBS
          have hP7 := hP6.ext hF7
          have P1 := hP SS D AS A5 cS c5 v7 q7 ⟨hBS7, l3, hcS⟩ hP7 (by omega) hc5
          rw [HI4.out] at P1
          have hse : SS.arg AS cS = .agg #[.int .i64 SS.r, .int .i64 SS.c, .slice AS SS.l.length cS] := rfl
          rw [hse] at P1
          refine P1.mono ?_
          rintro e v8 ⟨v, rfl, hO8, hF8⟩
          obtain ⟨AT, nT, cT, rfl, hcT, _, hBT⟩ := hO8.form'
          have hnT := hBT.1
          subst hnT
          have hA8 := Whole.new v8 24 #[.int .i64 0, .int .i64 0, .slice none 0 0]
          have q8 := q7.trans hF8
          have hWS8 := hWS7.ext hF8
          have hBS8 := hF8.bytes hBS7
          have hP8 := hP7.ext hF8
          dsimp only [matV]
          clear hO8 hP7 hWS7 hBS7 P1 hse
          go_wp2_with (first
            | (refine wpList_storeW rfl 24 (.tmp 19) (.tmp 118) rfl rfl rfl hA8 rfl mat_info (mat_one rfl) ?_; intro v9 hWT9 hG9 hS9; have hF9 := Ext.put hG9; have q9 := q8.trans hF9; have hWS9 := hWS8.ext hF9; clear hS9)
            | (refine wpList_load_row rfl 24 (.tmp 19) rfl _ rfl _ _ _ _ hWT9 Try.underlying24 rfl mat_info ?_))
          have hBT9 := hF9.bytes hBT
          have hBS9 := hF9.bytes hBS8
          have hP9 := hP8.ext hF9
          clear hA8 hG9 hBT hP8 hBS8 hWS8
          have J1 := hI TT AT cT v9 q9 ⟨hBT9, l4, hcT⟩
          rw [HI5.out] at J1
          have hte : TT.arg AT cT = .agg #[.int .i64 TT.r, .int .i64 TT.c, .slice AT TT.l.length cT] := rfl
          rw [hte] at J1
          refine J1.mono ?_
          rintro e v10 ⟨v, rfl, hO10, hF10⟩
          obtain ⟨AJ, nJ, cJ, rfl, _, _, _⟩ := hO10.form'
          have hA10 := Whole.new v10 24 #[.int .i64 0, .int .i64 0, .slice none 0 0]
          have q10 := q9.trans hF10
          dsimp only [matV]
          clear hO10 J1
          go_wp2_with (refine wpList_storeW rfl 24 (.tmp 21) (.tmp 125) rfl rfl rfl hA10 rfl mat_info (mat_one rfl) ?_; intro v11 hWJ hG11 hS11; have hF11 := Ext.put hG11; clear hS11)
          go_ret
          exact ⟨rfl, q10.trans hF11⟩
        · have hdn' : (D.length : Int) < (n : Int) := by omega
          clear hdn
          go_wp2_with fail
          go_ret
          exact ⟨rfl, hE1.trans hE2⟩
    · have h1' : ¬ ((i : Int) < (L.length : Int)) := by omega
      by_cases hdn : D.length = n
      · have hdn' : ¬ ((D.length : Int) < (n : Int)) := by omega
        obtain ⟨II, CC, SS, TT, i1, i2, i3, i4, i5, l1, l2, l3, l4⟩ := cauchy_calls (by omega) hdn hnd hdx
        have D1 := hD n wr (hE1.trans hE2)
        rw [i1] at D1
        have HI2 := hide i2
        have HI3 := hide i3
        have HI4 := hide i4
        have HI5 := hide i5
        have HN := hide hnd
        have HX := hide hdx
        have q1 := hE1.trans hE2
        clear i1 i2 i3 i4 i5 hnd hdx hO hdn
        go_wp2_with fail
        refine D1.mono ?_
        have hP1 := hI5
        have hC2 := fun W hE => hC n p W hE
        rw [HI2.out] at hC2
        rintro e v2 ⟨v, rfl, hO2, hF2⟩
        obtain ⟨AI, nI, cI, rfl, hcI, _, hBI⟩ := hO2.form'
        have hnI := hBI.1
        subst hnI
        have hA2 := Whole.new v2 24 #[.int .i64 0, .int .i64 0, .slice none 0 0]
        have q2 := q1.trans hF2
        have hP2 := hP1.ext hF2
        dsimp only [matV]
        clear hO2 hP1  D1 hI5
        go_wp2_with (first
          | (refine wpList_storeW rfl 24 (.tmp 13) (.tmp 97) rfl rfl rfl hA2 rfl mat_info (mat_one rfl) ?_; intro v3 hWI3 hG3 hS3; have hF3 := Ext.put hG3; have q3 := q2.trans hF3; clear hS3))
        have hBI3 := hF3.bytes hBI
        have hP3 := hP2.ext hF3
        clear hA2 hG3 hBI hP2 
        refine (hC2 v3 q3).mono ?_
        rintro e v4 ⟨v, rfl, hO4, hF4⟩
        obtain ⟨AC, nC, cC, rfl, hcC, _, hBC⟩ := hO4.form'
        have hnC := hBC.1
        subst hnC
        have hA4 := Whole.new v4 24 #[.int .i64 0, .int .i64 0, .slice none 0 0]
        have q4 := q3.trans hF4
        have hWI4 := hWI3.ext hF4
        have hBI4 := hF4.bytes hBI3
        have hP4 := hP3.ext hF4
        dsimp only [matV]
        clear hO4 hP3 hWI3 hBI3 hC2
        go_wp2_with (first
          | (refine wpList_storeW rfl 24 (.tmp 15) (.tmp 103) rfl rfl rfl hA4 rfl mat_info (mat_one rfl) ?_; intro v5 hWC5 hG5 hS5; have hF5 := Ext.put hG5; have q5 := q4.trans hF5; have hWI5 := hWI4.ext hF5; clear hS5)
          | (refine wpList_load_row rfl 24 (.tmp 13) rfl _ rfl _ _ _ _ hWI5 Try.underlying24 rfl mat_info ?_)
          | (refine wpList_load_row rfl 24 (.tmp 15) rfl _ rfl _ _ _ _ hWC5 Try.underlying24 rfl mat_info ?_))
        have hBC5 := hF5.bytes hBC
        have hBI5 := hF5.bytes hBI4
        have hP5 := hP4.ext hF5
        clear hA4 hG5 hBC hP4 hBI4 hWI4
        have hNm := extNew v5 (.cells #[.int .i64 II.r, .int .i64 II.c, .slice AI II.l.length cI, .int .i64 CC.r, .int .i64 CC.c, .slice AC CC.l.length cC] 24)
        have hMats : MatsAt (v5.alloc (.cells #[.int .i64 II.r, .int .i64 II.c, .slice AI II.l.length cI, .int .i64 CC.r, .int .i64 CC.c, .slice AC CC.l.length cC] 24)) (v5.alloc (.cells #[.int .i64 II.r, .int .i64 II.c, .slice AI II.l.length cI, .int .i64 CC.r, .int .i64 CC.c, .slice AC CC.l.length cC] 24)).heap.size (some ⟨v5.heap.size, 0, none⟩) 2 [⟨II, AI, cI⟩, ⟨CC, AC, cC⟩] := by
          refine ⟨rfl, .inr ⟨v5.heap.size, 0, rfl, by simp, fun i hi => ?_⟩⟩
          match i, hi with
          | 0, _ => exact ⟨⟨cellNew _ _ _ _ _, cellNew _ _ _ _ _, cellNew _ _ _ _ _⟩, hNm.bytes hBI5, l1, hcI⟩
          | 1, _ => exact ⟨⟨cellNew _ _ _ _ _, cellNew _ _ _ _ _, cellNew _ _ _ _ _⟩, hNm.bytes hBC5, l2, hcC⟩
        have S1 := hS [⟨II, AI, cI⟩, ⟨CC, AC, cC⟩] _ 2 _ (q5.trans hNm) hMats (by simp) (by simp)
        have hlm : ([⟨II, AI, cI⟩, ⟨CC, AC, cC⟩] : List MIn).map MIn.m = [II, CC] := rfl
        rw [hlm, HI3.out] at S1
        have qq := q5.trans hNm
        have hPq := hP5.ext hNm
        clear hMats hlm hWI5 hWC5 hBI5 hBC5 hP5
        refine S1.mono ?_
        rintro e v6 ⟨v, rfl, hO6, hF6⟩
        obtain ⟨AS, nS, cS, rfl, hcS, _, hBS⟩ := hO6.form'
        have hnS := hBS.1
        subst hnS
        have hA6 := Whole.new v6 24 #[.int .i64 0, .int .i64 0, .slice none 0 0]
        have q6 := qq.trans hF6
        have hP6 := hPq.ext hF6
        dsimp only [matV]
        clear hO6 S1 hPq hNm hF6 qq
        go_wp2_with (first
          | (refine wpList_storeW rfl 24 (.tmp 17) (.tmp 110) rfl rfl rfl hA6 rfl mat_info (mat_one rfl) ?_; intro v7 hWS7 hG7 hS7; have hF7 := Ext.put hG7; have q7 := q6.trans hF7; clear hS7)
          | (refine wpList_load_row rfl 24 (.tmp 17) rfl _ rfl _ _ _ _ hWS7 Try.underlying24 rfl mat_info ?_))
        have hBS7 := hF7.bytes hBS
        have hP7 := hP6.ext hF7
        have P1 := hP SS D AS A5 cS c5 v7 q7 ⟨hBS7, l3, hcS⟩ hP7 (by omega) hc5
        rw [HI4.out] at P1
        have hse : SS.arg AS cS = .agg #[.int .i64 SS.r, .int .i64 SS.c, .slice AS SS.l.length cS] := rfl
        rw [hse] at P1
        refine P1.mono ?_
        rintro e v8 ⟨v, rfl, hO8, hF8⟩
        obtain ⟨AT, nT, cT, rfl, hcT, _, hBT⟩ := hO8.form'
        have hnT := hBT.1
        subst hnT
        have hA8 := Whole.new v8 24 #[.int .i64 0, .int .i64 0, .slice none 0 0]
        have q8 := q7.trans hF8
        have hWS8 := hWS7.ext hF8
        have hBS8 := hF8.bytes hBS7
        have hP8 := hP7.ext hF8
        dsimp only [matV]
        clear hO8 hP7 hWS7 hBS7 P1 hse
        go_wp2_with (first
          | (refine wpList_storeW rfl 24 (.tmp 19) (.tmp 118) rfl rfl rfl hA8 rfl mat_info (mat_one rfl) ?_; intro v9 hWT9 hG9 hS9; have hF9 := Ext.put hG9; have q9 := q8.trans hF9; have hWS9 := hWS8.ext hF9; clear hS9)
          | (refine wpList_load_row rfl 24 (.tmp 19) rfl _ rfl _ _ _ _ hWT9 Try.underlying24 rfl mat_info ?_))
        have hBT9 := hF9.bytes hBT
        have hBS9 := hF9.bytes hBS8
        have hP9 := hP8.ext hF9
        clear hA8 hG9 hBT hP8 hBS8 hWS8
        have J1 := hI TT AT cT v9 q9 ⟨hBT9, l4, hcT⟩
        rw [HI5.out] at J1
        have hte : TT.arg AT cT = .agg #[.int .i64 TT.r, .int .i64 TT.c, .slice AT TT.l.length cT] := rfl
        rw [hte] at J1
        refine J1.mono ?_
        rintro e v10 ⟨v, rfl, hO10, hF10⟩
        obtain ⟨AJ, nJ, cJ, rfl, _, _, _⟩ := hO10.form'
        have hA10 := Whole.new v10 24 #[.int .i64 0, .int .i64 0, .slice none 0 0]
        have q10 := q9.trans hF10
        dsimp only [matV]
        clear hO10 J1
        go_wp2_with (refine wpList_storeW rfl 24 (.tmp 21) (.tmp 125) rfl rfl rfl hA10 rfl mat_info (mat_one rfl) ?_; intro v11 hWJ hG11 hS11; have hF11 := Ext.put hG11; clear hS11)
        go_ret
        exact ⟨rfl, q10.trans hF11⟩
      · have hdn' : (D.length : Int) < (n : Int) := by omega
        clear hdn
        go_wp2_with fail
        go_ret
        exact ⟨rfl, hE1.trans hE2⟩
end Go.Proofs.Ytedkajpodepkiaa
