/- The document's Codes of chapter 8. -/
import Derived.Test.YtabhemmmefefgaaCanRef
import Derived.Test.YtabhemmmefefgaaCanWords
namespace Go.Proofs.Ytabhemmmefefgaa
open Go.RowKit Len Can

/-- Behind a call that tells words and an error. -/
def TellsH (w : World) (r : List Nat × Int) (e : Ending) (w' : World) : Prop := ∃ v, e = .returned (.tuple #[v, .int .i64 r.2]) ∧ OwnH w' w.heap.size v r.1 ∧ Ext w w'

set_option maxHeartbeats 4000000 in
set_option maxRecDepth 100000 in
theorem refCodes_any (A : Option Addr) (n c : Nat) (l : List UInt8) (w : World) (h : Bytes w w.heap.size A n l) : Calls Try.prog 14 #[.slice A n c] w (TellsH w (codesE l)) := by
  have hl := h.1
  subst hl
  have C1 := refCheck_any A l.length c l w h
  cases hr : right l with
  | false =>
    have HN := hide (show codesE l = ([], 7) by unfold codesE; rw [hr]; rfl)
    rw [check_wrong hr] at C1
    generalize codesE l = res at *
    clear hr h
    go_enter Try.func14, Try.ntmps14
    go_wp2_with fail
    refine C1.mono ?_
    rintro e w2 ⟨rfl, hE⟩
    go_wp2
    go_ret2
    rw [HN.out]
    exact ⟨_, rfl, OwnH.nil _ _, hE⟩
  | true =>
    have HN := hide (show codesE l = (codesL l, 0) by unfold codesE; rw [hr]; rfl)
    rw [check_right hr] at C1
    obtain ⟨h300, h15, _⟩ := right_facts hr
    have HR := hide hr
    have H15 := hide h15
    have HSt := hide (Words.start (l := l))
    generalize codesE l = res at *
    clear hr h15
    obtain ⟨N, hN⟩ : ∃ N, N = l.length := ⟨_, rfl⟩
    have HNl := hide hN
    rw [← hN] at C1 h300 ⊢
    rw [← hN] at h
    have HB := hide h
    clear hN h
    go_enter Try.func14, Try.ntmps14
    go_wp2_with fail
    refine C1.mono ?_
    rintro e w2 ⟨rfl, hE⟩
    clear C1
    go_wp2_with fail
    go_loopw [4, 5] (fun a b wr => ∃ k : Nat, k ≤ N ∧ b = .int .i64 (k : Int) ∧ OwnH wr w.heap.size a (List.replicate k 0) ∧ Ext w wr) (fun _ b _ => N - (intOf b).toNat)
    case atStart => exact ⟨0, by omega, rfl, OwnH.nil _ _, hE⟩
    case round =>
      obtain ⟨k, hk, rfl, hO, hE2⟩ := hrel
      by_cases hkj : k < N
      · have hkI : (k : Int) < (N : Int) := by omega
        have hEa := extNew wr (.cells #[.int .u16 0] 30)
        have hOa := hO.ext hEa
        have hsb := hE2.le
        have hl0 : (List.replicate k (0 : Nat)).length ≤ 1000 := by simp; omega
        go_wp2_with (at_builtin; refine wpList_appH rfl (.tmp 21) (.tmp 22) rfl rfl 0 hOa rfl hl0 hsb ?_; intro v5 w5 hO5 hG5)
        have hE5 : Ext w w5 := Below.grown (hE2.trans hEa) hG5 (hE2.trans hEa).le (fun k hk => (hO.lt k hk).1)
        have e : List.replicate k (0 : Nat) ++ [0] = List.replicate (k + 1) 0 := List.replicate_succ'.symm
        rw [e] at hO5
        go_roundw
        case rel => exact ⟨k + 1, by omega, by go_num, hO5, hE5⟩
        case measure => simp [intOf]; omega
      · obtain rfl : N = k := by omega
        clear hkj hk
        have hst := HSt.out
        rw [← HNl.out] at hst
        obtain ⟨Z, hZ⟩ : ∃ Z, Z = List.replicate N (0 : Nat) := ⟨_, rfl⟩
        have hZl : Z.length = N := by rw [hZ]; simp
        rw [← hZ] at hO hst
        obtain ⟨Av, cv, rfl, hcv, _, hav⟩ := hO.form
        rw [hZl] at hcv ⊢
        have HO := hide hO
        have HS := hide hst
        have HZl := hide hZl
        clear hZ hO hst hZl
        obtain ⟨wa, rfl⟩ : ∃ W, W = wr := ⟨_, rfl⟩
        go_wp2_with fail
        go_loopw [6, 7, 8, 9] (fun a b d x wq => ∃ (k nx was : Nat) (any : Bool) (O : List Nat), 1 ≤ k ∧ k ≤ 16 ∧ x = .int .i64 (k : Int) ∧ a = .int .i64 (nx : Int) ∧ b = .int .i64 (was : Int) ∧ d = .bool any ∧ Words l k 0 nx was any O ∧ OwnH wq w.heap.size (.slice Av N cv) O ∧ Ext w wq) (fun _ _ _ x _ => 17 - (intOf x).toNat)
        case atStart => exact ⟨1, 0, 0, false, Z, by omega, by omega, rfl, rfl, rfl, rfl, HS.out, by have := HO.out; rw [HZl.out] at this; exact this, hE2⟩
        case round =>
          obtain ⟨k, nx, was, any, O, hk1, hk16, rfl, rfl, rfl, rfl, hW, hO, hE3⟩ := hrel
          by_cases hk15 : k ≤ 15
          · have hkI : (k : Int) ≤ 15 := by omega
            have HW0 := hide hW
            have HO0 := hide hO
            obtain ⟨wb, rfl⟩ : ∃ W, W = wr := ⟨_, rfl⟩
            clear hW hO
            go_wp2_with fail
            go_loopw [6, 7, 8, 10] (fun a b d x wq => ∃ (s nx was : Nat) (any : Bool) (O : List Nat), s ≤ N ∧ x = .int .i64 (s : Int) ∧ a = .int .i64 (nx : Int) ∧ b = .int .i64 (was : Int) ∧ d = .bool any ∧ Words l k s nx was any O ∧ OwnH wq w.heap.size (.slice Av N cv) O ∧ Ext w wq) (fun _ _ _ x _ => N - (intOf x).toNat)
            case atStart => exact ⟨0, nx, was, any, O, Nat.zero_le _, rfl, rfl, rfl, rfl, HW0.out, HO0.out, hE3⟩
            case round =>
              clear HW0 HO0 hE3
              obtain ⟨s, nx, was, any, O, hs, rfl, rfl, rfl, rfl, hW, hO, hE3⟩ := hrel
              have hsm := hW.small HR.out
              have HW := hide hW
              have HO1 := hide hO
              by_cases hsN : s < N
              · have hsI : (s : Int) < (N : Int) := by omega
                rcases (hE3.bytes HB.out).2 with h0 | ⟨b, off, rfl, hbl, hc⟩
                · omega
                have hcell := hc s hsN
                have hy8 := UInt8.toNat_lt (l.getD s 0)
                obtain ⟨y, hy⟩ : ∃ y, y = lenAt l s := ⟨_, rfl⟩
                have hcl : wr.cell? ⟨b, off + s, none⟩ = some (.int .u8 (y : Int)) := by rw [hy]; exact hcell
                have hy8' : y < 256 := by rw [hy]; exact hy8
                have HY := hide hy
                clear hc hcell hy8 hy hW
                by_cases hyk : y = k
                · have hyb : ((y : Int) != (k : Int)) = false := by simp [hyk]
                  have HYk := hide hyk
                  clear hyk
                  have hput := HW.out.put hk1 hk15 (by rw [← HNl.out]; exact hsN) (by rw [← HY.out]; exact HYk.out)
                  have hpsm := hput.small HR.out
                  obtain ⟨gO, rfl, hgb, hgl⟩ : ∃ g, Av = some ⟨g, 0, none⟩ ∧ w.heap.size ≤ g ∧ g < wr.heap.size := by
                    obtain ⟨A9, c9, e9, _, _, h9⟩ := hO.form
                    simp only [Value.slice.injEq] at e9
                    obtain ⟨rfl, e10, rfl⟩ := e9
                    rcases h9 with h9 | ⟨g, e, hg⟩
                    · omega
                    · exact ⟨g, e, hg⟩
                  have hOl : O.length = N := by rw [HW.out.len, ← HNl.out]
                  rw [← hOl] at hO
                  obtain ⟨k1, k2⟩ := hO.cell (i := s) (by omega)
                  have hset := fun x => hO.set s x
                  rw [hOl] at hset
                  have HSet := hide hset
                  clear hset hO hOl
                  cases any with
                  | false =>
                    have hw16 : IntKind.u16.wrap (nx : Int) = (nx : Int) := by simp [IntKind.wrap, IntKind.bits, IntKind.signed]; omega
                    have hG := grown_setCell wr gO s (.int .u16 (nx : Int))
                    have HPut := hide hput
                    clear hput
                    go_wp2
                    go_roundw
                    case rel => exact ⟨s + 1, nx, k, true, O.set s nx, by omega, by go_num, rfl, rfl, rfl, HPut.out, HSet.out nx, Below.grown hE3 hG hE3.le (fun j hj => by cases hj; exact hgb)⟩
                    case measure => simp [intOf]; omega
                  | true =>
                    have hy3 := HW.out.yes rfl
                    have HPut := hide hput
                    have hwk : was ≤ k := hy3.2.2
                    have hw1 : 1 ≤ was := hy3.2.1
                    clear hput hy3
                    obtain ⟨wc, rfl⟩ : ∃ W, W = wr := ⟨_, rfl⟩
                    have HSm := hide (show ∀ j, j ≤ k → was ≤ j → (nx + 1) * 2 ^ (j - was) ≤ 32768 from fun j hj1 hj2 => by
                      have h1 : nextW true nx was k < 32768 := hpsm
                      unfold nextW at h1
                      rw [if_pos rfl] at h1
                      have h2 : 2 ^ (j - was) ≤ 2 ^ (k - was) := Nat.pow_le_pow_right (by omega) (by omega)
                      have h3 := Nat.mul_le_mul_left (nx + 1) h2
                      omega)
                    go_wp2_with fail
                    go_loopw [6, 11] (fun a x wq => ∃ j v : Nat, was ≤ j ∧ j ≤ k ∧ x = .int .i64 (j : Int) ∧ a = .int .i64 (v : Int) ∧ v = (nx + 1) * 2 ^ (j - was) ∧ wq = wc) (fun _ x _ => k - (intOf x).toNat)
                    case atStart => exact ⟨was, nx + 1, Nat.le_refl _, hwk, rfl, by go_num, by simp, rfl⟩
                    case round =>
                      obtain ⟨j, v, hj1, hj2, rfl, rfl, hv, rfl⟩ := hrel
                      have hvs : v ≤ 32768 := by rw [hv]; exact HSm.out j hj2 hj1
                      by_cases hjk : j < k
                      · have hjI : (j : Int) < (k : Int) := by omega
                        have HV := hide (show 2 * v = (nx + 1) * 2 ^ (j + 1 - was) by rw [hv, show j + 1 - was = (j - was) + 1 by omega, Nat.pow_succ, Nat.mul_comm 2, Nat.mul_assoc])
                        clear hv
                        go_wp2
                        go_roundw
                        case rel => exact ⟨j + 1, 2 * v, by omega, by omega, by go_num, by go_num, HV.out, trivial⟩
                        case measure => simp [intOf]; omega
                      · obtain rfl : j = k := by omega
                        have hv2 : v = nextW true nx was j := by unfold nextW; rw [if_pos rfl]; exact hv
                        have hP2 := HPut.out
                        rw [← hv2] at hP2
                        have HP2 := hide hP2
                        have hvl : v < 32768 := hP2.small HR.out
                        have hw16 : IntKind.u16.wrap (v : Int) = (v : Int) := by simp [IntKind.wrap, IntKind.bits, IntKind.signed]; omega
                        have hG := grown_setCell wr gO s (.int .u16 (v : Int))
                        clear hv hv2 hP2
                        go_wp2
                        go_roundw
                        case rel => exact ⟨s + 1, v, j, true, O.set s v, by omega, by go_num, rfl, rfl, rfl, HP2.out, HSet.out v, Below.grown hE3 hG hE3.le (fun j hj => by cases hj; exact hgb)⟩
                        case measure => simp [intOf]; omega
                · have hyb : ((y : Int) != (k : Int)) = true := by simp; omega
                  have HP := hide (HW.out.pass hk1 (by rw [← HNl.out]; exact hsN) (by rw [← HY.out]; exact hyk))
                  clear hO
                  go_wp2
                  go_roundw
                  case rel => exact ⟨s + 1, nx, was, any, O, by omega, by go_num, rfl, rfl, rfl, HP.out, HO1.out, hE3⟩
                  case measure => simp [intOf]; omega
              · have hs2 : s = N := by omega
                have hnI : ¬ (s : Int) < (N : Int) := by omega
                have hW2 := HW.out
                rw [hs2, HNl.out] at hW2
                have HP := hide hW2.turn
                clear hW2 hW hO hs2
                go_wp2
                go_roundw
                case rel => exact ⟨k + 1, nx, was, any, O, by omega, by omega, by go_num, rfl, rfl, rfl, HP.out, HO1.out, hE3⟩
                case measure => simp [intOf]; omega
          · obtain rfl : k = 16 := by omega
            have hOe := hW.all HR.out
            have HOe := hide hOe
            have HO1 := hide hO
            clear hW hO hOe
            go_wp2
            go_ret2
            rw [HN.out]
            exact ⟨_, rfl, by rw [← HOe.out]; exact HO1.out, hE3⟩
end Go.Proofs.Ytabhemmmefefgaa
