/- The document's Codes of chapter 8. The document's coder of chapter 9: a slice of lengths and one of words, as a value. The document's New and Put of chapter 9. The contract of the document's Bytes. A writer of the program and one of the document, side by side. A slice of numbers that came in. The document's Pack of chapter 9. The document's Write of chapter 11. The document's Write of chapter 12. What the laws of chapter 12 ask of the program; the example; BlockWrites, BlockReads, BlockBack, BlockBounds. A trail of places with the same three bytes, and the longest along it. Plain mathematics for the program of chapter 10. A map from three bytes, of a call's own. The program's lz.longer and same: how many bytes are the same from two places on. -/
import Derived.Test.YthpbckignppaiaaGreatDoorS01
import Derived.Test.YthpbckignppaiaaGreatDoorS02
import Derived.Test.YthpbckignppaiaaGreatDoorS03
import Derived.BigQuiet
import Derived.StillTailTactics
import Derived.Deep.QuietTactic
import Derived.Deep.RegionLaw
import Derived.Deep.RegionHeld3
import Derived.Deep.RegionWith
import Derived.OwnWalk
import Derived.Lib.SlBytesConst
import Derived.WideKeyArr2
import Derived.WideKeyPair
import Derived.DeepKeys4
import Derived.Maps.OwnSet
import Derived.Maps.Views
namespace Go.Proofs.YthpbckignppaiaaGreatDoor
open Go.RowKit Len Can
def TellsH (w : World) (r : List Nat × Int) (e : Ending) (w' : World) : Prop := ∃ v, e = .returned (.tuple #[v, .int .i64 r.2]) ∧ OwnH w' w.heap.size v r.1 ∧ Ext w w'
set_option maxHeartbeats 4000000 in
set_option maxRecDepth 100000 in
theorem refCodes_any (A : Option Addr) (n c : Nat) (l : List UInt8) (w : World) (h : Bytes w w.heap.size A n l) : Calls Tryz.prog 43 #[.slice A n c] w (TellsH w (codesE l)) := by
  have hl := h.1
  subst hl
  have C1 := refCheck_any A l.length c l w h
  cases hr : right l with
  | false =>
    have HN := hide (show codesE l = ([], 7) by unfold codesE; rw [hr]; rfl)
    rw [check_wrong hr] at C1
    generalize codesE l = res at *
    clear hr h
    go_enter Tryz.func43, Tryz.ntmps43
    go_wp2_with fail
    refine C1.mono ?_
    rintro e w2 ⟨rfl, hE⟩
    go_wp2
    go_ret2
    rw [HN.out]
    exact ⟨_, rfl, OwnH.nil _ _, hE⟩
  | true =>
    have HN := hide (show codesE l = (codesL l, 0) by unfold codesE; rw [hr]; rfl)
    rw [check_right hr] at C1
    obtain ⟨h300, h15, _⟩ := right_facts hr
    have HR := hide hr
    have H15 := hide h15
    have HSt := hide (Words.start (l := l))
    generalize codesE l = res at *
    clear hr h15
    obtain ⟨N, hN⟩ : ∃ N, N = l.length := ⟨_, rfl⟩
    have HNl := hide hN
    rw [← hN] at C1 h300 ⊢
    rw [← hN] at h
    have HB := hide h
    clear hN h
    go_enter Tryz.func43, Tryz.ntmps43
    go_wp2_with fail
    refine C1.mono ?_
    rintro e w2 ⟨rfl, hE⟩
    clear C1
    go_wp2_with fail
    go_loopw [4, 5] (fun a b wr => ∃ k : Nat, k ≤ N ∧ b = .int .i64 (k : Int) ∧ OwnH wr w.heap.size a (List.replicate k 0) ∧ Ext w wr) (fun _ b _ => N - (intOf b).toNat)
    case atStart => exact ⟨0, by omega, rfl, OwnH.nil _ _, hE⟩
    case round =>
      obtain ⟨k, hk, rfl, hO, hE2⟩ := hrel
      by_cases hkj : k < N
      · have hkI : (k : Int) < (N : Int) := by omega
        have hEa := extNew wr (.cells #[.int .u16 0] 93)
        have hOa := hO.ext hEa
        have hsb := hE2.le
        have hl0 : (List.replicate k (0 : Nat)).length ≤ 1000 := by simp; omega
        go_wp2_with (at_builtin; refine wpList_appH rfl (.tmp 21) (.tmp 22) rfl rfl 0 hOa rfl hl0 hsb ?_; intro v5 w5 hO5 hG5)
        have hE5 : Ext w w5 := Below.grown (hE2.trans hEa) hG5 (hE2.trans hEa).le (fun k hk => (hO.lt k hk).1)
        have e : List.replicate k (0 : Nat) ++ [0] = List.replicate (k + 1) 0 := List.replicate_succ'.symm
        rw [e] at hO5
        go_roundw
        case rel => exact ⟨k + 1, by omega, by go_num, hO5, hE5⟩
        case measure => simp [intOf]; omega
      · obtain rfl : N = k := by omega
        clear hkj hk
        have hst := HSt.out
        rw [← HNl.out] at hst
        obtain ⟨Z, hZ⟩ : ∃ Z, Z = List.replicate N (0 : Nat) := ⟨_, rfl⟩
        have hZl : Z.length = N := by rw [hZ]; simp
        rw [← hZ] at hO hst
        obtain ⟨Av, cv, rfl, hcv, _, hav⟩ := hO.form
        rw [hZl] at hcv ⊢
        have HO := hide hO
        have HS := hide hst
        have HZl := hide hZl
        clear hZ hO hst hZl
        obtain ⟨wa, rfl⟩ : ∃ W, W = wr := ⟨_, rfl⟩
        go_wp2_with fail
        go_loopw [6, 7, 8, 9] (fun a b d x wq => ∃ (k nx was : Nat) (any : Bool) (O : List Nat), 1 ≤ k ∧ k ≤ 16 ∧ x = .int .i64 (k : Int) ∧ a = .int .i64 (nx : Int) ∧ b = .int .i64 (was : Int) ∧ d = .bool any ∧ Words l k 0 nx was any O ∧ OwnH wq w.heap.size (.slice Av N cv) O ∧ Ext w wq) (fun _ _ _ x _ => 17 - (intOf x).toNat)
        case atStart => exact ⟨1, 0, 0, false, Z, by omega, by omega, rfl, rfl, rfl, rfl, HS.out, by have := HO.out; rw [HZl.out] at this; exact this, hE2⟩
        case round =>
          obtain ⟨k, nx, was, any, O, hk1, hk16, rfl, rfl, rfl, rfl, hW, hO, hE3⟩ := hrel
          by_cases hk15 : k ≤ 15
          · have hkI : (k : Int) ≤ 15 := by omega
            have HW0 := hide hW
            have HO0 := hide hO
            obtain ⟨wb, rfl⟩ : ∃ W, W = wr := ⟨_, rfl⟩
            clear hW hO
            go_wp2_with fail
            go_loopw [6, 7, 8, 10] (fun a b d x wq => ∃ (s nx was : Nat) (any : Bool) (O : List Nat), s ≤ N ∧ x = .int .i64 (s : Int) ∧ a = .int .i64 (nx : Int) ∧ b = .int .i64 (was : Int) ∧ d = .bool any ∧ Words l k s nx was any O ∧ OwnH wq w.heap.size (.slice Av N cv) O ∧ Ext w wq) (fun _ _ _ x _ => N - (intOf x).toNat)
            case atStart => exact ⟨0, nx, was, any, O, Nat.zero_le _, rfl, rfl, rfl, rfl, HW0.out, HO0.out, hE3⟩
            case round =>
              clear HW0 HO0 hE3
              obtain ⟨s, nx, was, any, O, hs, rfl, rfl, rfl, rfl, hW, hO, hE3⟩ := hrel
              have hsm := hW.small HR.out
              have HW := hide hW
              have HO1 := hide hO
              by_cases hsN : s < N
              · have hsI : (s : Int) < (N : Int) := by omega
                rcases (hE3.bytes HB.out).2 with h0 | ⟨b, off, rfl, hbl, hc⟩
                · omega
                have hcell := hc s hsN
                have hy8 := UInt8.toNat_lt (l.getD s 0)
                obtain ⟨y, hy⟩ : ∃ y, y = lenAt l s := ⟨_, rfl⟩
                have hcl : wr.cell? ⟨b, off + s, none⟩ = some (.int .u8 (y : Int)) := by rw [hy]; exact hcell
                have hy8' : y < 256 := by rw [hy]; exact hy8
                have HY := hide hy
                clear hc hcell hy8 hy hW
                by_cases hyk : y = k
                · have hyb : ((y : Int) != (k : Int)) = false := by simp [hyk]
                  have HYk := hide hyk
                  clear hyk
                  have hput := HW.out.put hk1 hk15 (by rw [← HNl.out]; exact hsN) (by rw [← HY.out]; exact HYk.out)
                  have hpsm := hput.small HR.out
                  obtain ⟨gO, rfl, hgb, hgl⟩ : ∃ g, Av = some ⟨g, 0, none⟩ ∧ w.heap.size ≤ g ∧ g < wr.heap.size := by
                    obtain ⟨A9, c9, e9, _, _, h9⟩ := hO.form
                    simp only [Value.slice.injEq] at e9
                    obtain ⟨rfl, e10, rfl⟩ := e9
                    rcases h9 with h9 | ⟨g, e, hg⟩
                    · omega
                    · exact ⟨g, e, hg⟩
                  have hOl : O.length = N := by rw [HW.out.len, ← HNl.out]
                  rw [← hOl] at hO
                  obtain ⟨k1, k2⟩ := hO.cell (i := s) (by omega)
                  have hset := fun x => hO.set s x
                  rw [hOl] at hset
                  have HSet := hide hset
                  clear hset hO hOl
                  cases any with
                  | false =>
                    have hw16 : IntKind.u16.wrap (nx : Int) = (nx : Int) := by simp [IntKind.wrap, IntKind.bits, IntKind.signed]; omega
                    have hG := grown_setCell wr gO s (.int .u16 (nx : Int))
                    have HPut := hide hput
                    clear hput
                    go_wp2
                    go_roundw
                    case rel => exact ⟨s + 1, nx, k, true, O.set s nx, by omega, by go_num, rfl, rfl, rfl, HPut.out, HSet.out nx, Below.grown hE3 hG hE3.le (fun j hj => by cases hj; exact hgb)⟩
                    case measure => simp [intOf]; omega
                  | true =>
                    have hy3 := HW.out.yes rfl
                    have HPut := hide hput
                    have hwk : was ≤ k := hy3.2.2
                    have hw1 : 1 ≤ was := hy3.2.1
                    clear hput hy3
                    obtain ⟨wc, rfl⟩ : ∃ W, W = wr := ⟨_, rfl⟩
                    have HSm := hide (show ∀ j, j ≤ k → was ≤ j → (nx + 1) * 2 ^ (j - was) ≤ 32768 from fun j hj1 hj2 => by
                      have h1 : nextW true nx was k < 32768 := hpsm
                      unfold nextW at h1
                      rw [if_pos rfl] at h1
                      have h2 : 2 ^ (j - was) ≤ 2 ^ (k - was) := Nat.pow_le_pow_right (by omega) (by omega)
                      have h3 := Nat.mul_le_mul_left (nx + 1) h2
                      omega)
                    go_wp2_with fail
                    go_loopw [6, 11] (fun a x wq => ∃ j v : Nat, was ≤ j ∧ j ≤ k ∧ x = .int .i64 (j : Int) ∧ a = .int .i64 (v : Int) ∧ v = (nx + 1) * 2 ^ (j - was) ∧ wq = wc) (fun _ x _ => k - (intOf x).toNat)
                    case atStart => exact ⟨was, nx + 1, Nat.le_refl _, hwk, rfl, by go_num, by simp, rfl⟩
                    case round =>
                      obtain ⟨j, v, hj1, hj2, rfl, rfl, hv, rfl⟩ := hrel
                      have hvs : v ≤ 32768 := by rw [hv]; exact HSm.out j hj2 hj1
                      by_cases hjk : j < k
                      · have hjI : (j : Int) < (k : Int) := by omega
                        have HV := hide (show 2 * v = (nx + 1) * 2 ^ (j + 1 - was) by rw [hv, show j + 1 - was = (j - was) + 1 by omega, Nat.pow_succ, Nat.mul_comm 2, Nat.mul_assoc])
                        clear hv
                        go_wp2
                        go_roundw
                        case rel => exact ⟨j + 1, 2 * v, by omega, by omega, by go_num, by go_num, HV.out, trivial⟩
                        case measure => simp [intOf]; omega
                      · obtain rfl : j = k := by omega
                        have hv2 : v = nextW true nx was j := by unfold nextW; rw [if_pos rfl]; exact hv
                        have hP2 := HPut.out
                        rw [← hv2] at hP2
                        have HP2 := hide hP2
                        have hvl : v < 32768 := hP2.small HR.out
                        have hw16 : IntKind.u16.wrap (v : Int) = (v : Int) := by simp [IntKind.wrap, IntKind.bits, IntKind.signed]; omega
                        have hG := grown_setCell wr gO s (.int .u16 (v : Int))
                        clear hv hv2 hP2
                        go_wp2
                        go_roundw
                        case rel => exact ⟨s + 1, v, j, true, O.set s v, by omega, by go_num, rfl, rfl, rfl, HP2.out, HSet.out v, Below.grown hE3 hG hE3.le (fun j hj => by cases hj; exact hgb)⟩
                        case measure => simp [intOf]; omega
                · have hyb : ((y : Int) != (k : Int)) = true := by simp; omega
                  have HP := hide (HW.out.pass hk1 (by rw [← HNl.out]; exact hsN) (by rw [← HY.out]; exact hyk))
                  clear hO
                  go_wp2
                  go_roundw
                  case rel => exact ⟨s + 1, nx, was, any, O, by omega, by go_num, rfl, rfl, rfl, HP.out, HO1.out, hE3⟩
                  case measure => simp [intOf]; omega
              · have hs2 : s = N := by omega
                have hnI : ¬ (s : Int) < (N : Int) := by omega
                have hW2 := HW.out
                rw [hs2, HNl.out] at hW2
                have HP := hide hW2.turn
                clear hW2 hW hO hs2
                go_wp2
                go_roundw
                case rel => exact ⟨k + 1, nx, was, any, O, by omega, by omega, by go_num, rfl, rfl, rfl, HP.out, HO1.out, hE3⟩
                case measure => simp [intOf]; omega
          · obtain rfl : k = 16 := by omega
            have hOe := hW.all HR.out
            have HOe := hide hOe
            have HO1 := hide hO
            clear hW hO hOe
            go_wp2
            go_ret2
            rw [HN.out]
            exact ⟨_, rfl, by rw [← HOe.out]; exact HO1.out, hE3⟩
end Go.Proofs.YthpbckignppaiaaGreatDoor

namespace Go.Proofs.YthpbckignppaiaaGreatDoor
open Go.RowKit Len Can Huf
def H16At (w : World) (B : Nat) (A : Option Addr) (n : Nat) (L : List Nat) : Prop :=
  L.length = n ∧ (n = 0 ∨ ∃ b off, A = some ⟨b, off, none⟩ ∧ b < B ∧ ∀ i, i < n → w.cell? ⟨b, off + i, none⟩ = some (.int .u16 ((L.getD i 0 : Nat) : Int)))
theorem H16At.below {w w' : World} {B C : Nat} {A : Option Addr} {n : Nat} {L : List Nat} (h : H16At w B A n L) (hb : Below C w w') (hC : B ≤ C) : H16At w' B A n L := by
  refine ⟨h.1, ?_⟩
  rcases h.2 with h0 | ⟨b, off, hA, hB, hc⟩
  · exact .inl h0
  · exact .inr ⟨b, off, hA, hB, fun i hi => by rw [hb.cell (p := ⟨b, off + i, none⟩) (Nat.lt_of_lt_of_le hB hC)]; exact hc i hi⟩
theorem H16At.mono {w : World} {B C : Nat} {A : Option Addr} {n : Nat} {L : List Nat} (h : H16At w B A n L) (hC : B ≤ C) : H16At w C A n L := by
  refine ⟨h.1, ?_⟩
  rcases h.2 with h0 | ⟨b, off, hA, hB, hc⟩
  · exact .inl h0
  · exact .inr ⟨b, off, hA, Nat.lt_of_lt_of_le hB hC, hc⟩
theorem OwnH.reads {w : World} {base : Nat} {v : Value} {L : List Nat} (h : OwnH w base v L) : ∃ A c, v = .slice A L.length c ∧ L.length ≤ c ∧ c ≤ maxLen ∧ H16At w w.heap.size A L.length L := by
  obtain ⟨A, c, rfl, hc, hm, hA⟩ := h.form
  refine ⟨A, c, rfl, hc, hm, rfl, ?_⟩
  rcases hA with h0 | ⟨g, rfl, hb, hg⟩
  · exact .inl h0
  · exact .inr ⟨g, 0, rfl, hg, fun i hi => by rw [Nat.zero_add]; exact (h.cell hi).1⟩
def RefCod (w : World) (B : Nat) (v : Value) (l : List UInt8) : Prop :=
  ∃ A1 c1 A2 c2, v = .agg #[.slice A1 l.length c1, .slice A2 l.length c2] ∧ l.length ≤ c1 ∧ c1 ≤ maxLen ∧ Bytes w B A1 l.length l ∧ H16At w B A2 l.length (codesL l)
def RefCodR (w : World) (lo hi : Nat) (v : Value) (l : List UInt8) : Prop :=
  ∃ A1 c1 A2 c2, v = .agg #[.slice A1 l.length c1, .slice A2 l.length c2] ∧ OwnB w lo (.slice A1 l.length c1) l ∧ OwnH w lo (.slice A2 l.length c2) (codesL l) ∧
    (∀ k, Value.ownBlock (.slice A1 l.length c1) = some k → k < hi) ∧ (∀ k, Value.ownBlock (.slice A2 l.length c2) = some k → k < hi)
theorem RefCodR.mod {w w' : World} {lo hi g : Nat} {ob : Option Nat} {v : Value} {l : List UInt8} (h : RefCodR w lo hi v l) (hM : Mod w w' g ob) (hg : g < lo ∨ hi ≤ g) (ho : ∀ k, ob = some k → k < lo ∨ hi ≤ k) : RefCodR w' lo hi v l := by
  obtain ⟨A1, c1, A2, c2, e, h1, h2, h3, h4⟩ := h
  have far : ∀ x : Value, (∀ k, x.ownBlock = some k → lo ≤ k ∧ k < hi) → x.ownBlock ≠ some g ∧ (x.ownBlock = none ∨ x.ownBlock ≠ ob) := fun x hx => by
    refine ⟨fun e => by have := hx g e; omega, ?_⟩
    cases hv : x.ownBlock with
    | none => exact .inl rfl
    | some k =>
      refine .inr fun e => ?_
      have := hx k hv
      have := ho k e.symm
      omega
  obtain ⟨a1, a2⟩ := far _ (fun k hk => ⟨(h1.lt k hk).1, h3 k hk⟩)
  obtain ⟨b1, b2⟩ := far _ (fun k hk => ⟨(h2.lt k hk).1, h4 k hk⟩)
  refine ⟨A1, c1, A2, c2, e, hM.own h1 a1 a2, ⟨h2.1, ?_⟩, h3, h4⟩
  rcases h2.2 with hn | ⟨x, cap, cur, e2, hb, hgg, rest⟩
  · exact .inl hn
  · rw [e2] at b1 b2
    refine .inr ⟨x, cap, cur, e2, hb, ?_, rest⟩
    rw [hM.block x (Array.getElem?_eq_some_iff.1 hgg).1 (fun e3 => b1 (by subst e3; rfl)) (fun e3 => by
      rcases b2 with b2 | b2
      · simp [Value.ownBlock] at b2
      · exact b2 (by simpa [Value.ownBlock] using e3))]
    exact hgg
theorem RefCodR.ext {w w' : World} {lo hi : Nat} {v : Value} {l : List UInt8} (h : RefCodR w lo hi v l) (hE : Ext w w') : RefCodR w' lo hi v l := by
  obtain ⟨A1, c1, A2, c2, e, h1, h2, h3, h4⟩ := h
  exact ⟨A1, c1, A2, c2, e, h1.ext hE, h2.ext hE, h3, h4⟩
def RefNewR (w : World) (l : List UInt8) (e : Ending) (w' : World) : Prop :=
  ∃ v, e = .returned (.tuple #[v, .int .i64 (checkE l)]) ∧ (right l = true → RefCodR w' w.heap.size w'.heap.size v l) ∧ (right l = false → v = .agg #[.slice none 0 0, .slice none 0 0]) ∧ Ext w w'
theorem Can.codesL_len (l : List UInt8) : (codesL l).length = l.length := by simp [codesL]
theorem Can.codesL_at {l : List UInt8} {i : Nat} (hi : i < l.length) : (codesL l).getD i 0 = word l i := by simp [codesL, List.getD_eq_getElem?_getD, hi]
theorem RefCodR.cod {w : World} {lo hi : Nat} {v : Value} {l : List UInt8} (h : RefCodR w lo hi v l) : RefCod w w.heap.size v l := by
  obtain ⟨A1, c1, A2, c2, e, h1, h2, _, _⟩ := h
  obtain ⟨A7, c7, e7, h7c, h7m, h7⟩ := h1.form
  simp only [Value.slice.injEq] at e7
  obtain ⟨rfl, _, rfl⟩ := e7
  obtain ⟨A8, c8, e8, _, _, h8⟩ := OwnH.reads h2
  simp only [Value.slice.injEq] at e8
  obtain ⟨rfl, _, rfl⟩ := e8
  rw [codesL_len] at h8
  exact ⟨_, _, _, _, e, h7c, h7m, h7, h8⟩
end Go.Proofs.YthpbckignppaiaaGreatDoor

namespace Go.Proofs.YthpbckignppaiaaGreatDoor
open Go.RowKit Len Can Huf
theorem cod_info : (Tryz.prog.info? 52).map (·.size) = some 2 := by kernel_rfl
theorem two_slices (A1 : Option Addr) (n1 c1 : Nat) (A2 : Option Addr) (n2 c2 : Nat) : (#[.slice A1 n1 c1, .slice A2 n2 c2] : Array Value).all (·.oneCell') = true := by
  simp
  exact ⟨rfl, rfl⟩
set_option maxHeartbeats 1000000 in
set_option maxRecDepth 100000 in
theorem refNew9R_any (A : Option Addr) (n c : Nat) (l : List UInt8) (w : World) (h : Bytes w w.heap.size A n l) : Calls Tryz.prog 23 #[.slice A n c] w (RefNewR w l) := by
  have hl := h.1
  subst hl
  have hE1 := extNew w (.cells #[.slice none 0 0, .slice none 0 0] 52)
  have hW1 := Whole.new w 52 #[.slice none 0 0, .slice none 0 0]
  have C1 := refCodes_any A l.length c l _ (hE1.bytes h)
  cases hr : right l with
  | false =>
    have HN := hide (check_wrong hr)
    have HR := hide hr
    rw [show codesE l = ([], 7) by unfold codesE; rw [hr]; rfl] at C1
    clear h hr
    go_enter Tryz.func23, Tryz.ntmps23
    go_wp2_with fail
    refine C1.mono ?_
    rintro e w2 ⟨v, rfl, hO, hE2⟩
    obtain ⟨A2, c2, rfl, _⟩ := hO.reads
    have hW2 := hW1.ext hE2
    clear C1 hO
    go_wp2_with (refine wpList_storeW rfl 52 (.tmp 2) (.tmp 13) rfl rfl rfl hW2 rfl cod_info (two_slices ..) ?_; intro w5 hW5 hG5 _)
    refine bodyPost_ret (results_row2 rfl _ rfl rfl (run_loadVar_row _ _ _ _ _ _ _ hW5 Tryz.underlying52 rfl cod_info)) rfl ?_
    have hE := hE1.trans hE2
    exact ⟨_, by rw [HN.out]; rfl, (fun h => by rw [HR.out] at h; cases h), fun _ => rfl, Below.grown hE hG5 hE.le (fun k hk => by cases hk; exact Nat.le_refl _)⟩
  | true =>
    have HN := hide (check_right hr)
    have HR := hide hr
    have hl300 := (right_facts hr).1
    rw [show codesE l = (codesL l, 0) by unfold codesE; rw [hr]; rfl] at C1
    have HB := hide (hE1.bytes h)
    clear h hr
    go_enter Tryz.func23, Tryz.ntmps23
    go_wp2_with fail
    refine C1.mono ?_
    rintro e w2 ⟨v, rfl, hO, hE2⟩
    have hO := hO
    obtain ⟨A2, c2, rfl, h2c, h2m, h2⟩ := hO.reads
    have HO := hide hO
    have HL := hide (codesL_len l)
    rw [HL.out] at h2 h2c
    have H2 := hide h2
    rw [HL.out]
    have hb2 := hE2.bytes HB.out
    have hE3 := extNew w2 (.cells #[] 5)
    have hO3 := OwnB.empty w2 (base := w2.heap.size) (Nat.le_refl _)
    have hb3 := hE3.bytes hb2
    have hW3 := (hW1.ext hE2).alloc (.cells #[] 5)
    have hlen : ([] : List UInt8).length + l.length ≤ 140737488355328 := by simp; omega
    have hlt1 : w.heap.size < w2.heap.size := by have := hE2.le; rw [World.size_alloc] at this; omega
    have hne5 : ∀ u : Unit, Value.ownBlock (.slice (some ⟨w2.heap.size, 0, none⟩) 0 0) ≠ some w.heap.size := fun _ => by simp [Value.ownBlock]; omega
    clear C1 hO h2 hb2
    go_wp2_with (first
      | (at_builtin; refine wpList_app rfl (.tmp 15) (.tmp 16) rfl rfl hO3 rfl hb3 hlen hE3.le ?_; intro v5 w5 hO5 hG5; simp only [List.nil_append] at hO5; have hW5 := hW3.ownGrown hG5 (hne5 ()); obtain ⟨A5, c5, rfl, h5c, h5m, h5⟩ := hO5.form)
      | (refine wpList_storeW rfl 52 (.tmp 2) (.tmp 19) rfl rfl rfl hW5 rfl cod_info (two_slices ..) ?_; intro w6 hW6 hG6 _))
    refine bodyPost_ret (results_row2 rfl _ rfl rfl (run_loadVar_row _ _ _ _ _ _ _ hW6 Tryz.underlying52 rfl cod_info)) rfl ?_
    have hG5' : (w2.alloc (.cells #[] 5)).grownBy w5 (some w2.heap.size) := hG5
    have hE := hE1.trans hE2
    have hE5 : Ext w w5 := Below.grown (hE.alloc (.cells #[] 5)) hG5' (hE.alloc (.cells #[] 5)).le (fun k hk => by cases hk; omega)
    have hO6 := (Mod.ofRow (ob := none) hG6).own hO5 (fun e => by have := (hO5.lt _ e).1; omega) (by cases Value.ownBlock (.slice A5 l.length c5) <;> simp)
    have hH := HO.out
    have hHl := hH.lt
    rw [World.size_alloc] at hHl
    have hH6 := World.ownsRow.kept (World.ownsRow.kept (hH.ext hE3) hG5' (by
      cases hv : Value.ownBlock (.slice A2 (codesL l).length c2) with
      | none => simp
      | some k => have := (hHl k hv).2; simp; omega)) hG6 (by
      cases hv : Value.ownBlock (.slice A2 (codesL l).length c2) with
      | none => simp
      | some k => have := (hHl k hv).1; simp; omega)
    refine ⟨_, by rw [HN.out]; rfl, fun _ => ?_, (fun h => by rw [HR.out] at h; cases h), Below.grown hE5 hG6 hE5.le (fun k hk => by cases hk; exact Nat.le_refl _)⟩
    have hH6' : OwnH w6 w.heap.size (.slice A2 (codesL l).length c2) (codesL l) := OwnH.mono hH6 (by rw [World.size_alloc]; omega)
    rw [HL.out] at hH6'
    have hO6' : OwnB w6 w.heap.size (.slice A5 l.length c5) l := ⟨hO6.1, hO6.2.imp_right fun ⟨g, cap, cur, e, hg, r⟩ => ⟨g, cap, cur, e, by omega, r⟩⟩
    exact ⟨_, _, _, _, rfl, hO6', hH6', fun k hk => (hO6'.lt k hk).2, fun k hk => (hH6'.lt k hk).2⟩
theorem Huf.put_bad {l : List UInt8} {s : Int} (h : fine l s = false) : putE l s = 13 := by unfold putE; rw [h]; rfl
theorem Huf.put_fine {l : List UInt8} {s : Int} (h : fine l s = true) : putE l s = 0 := by unfold putE; rw [if_pos h]
def Huf.putX (l : List UInt8) (s : Int) : List Bool := if fine l s then putB l s else []
set_option maxHeartbeats 2000000 in
set_option maxRecDepth 100000 in
theorem refPut9H_any {w : World} {base g : Nat} {ob : Option Nat} {B : List Bool} {v : Value} {l : List UInt8} (hv : RefCod w w.heap.size v l) (hr : right l = true) (h : RefW w base g ob (B.map bit8)) (s : Int) (hB : B.length ≤ 800000000) :
    Calls Tryz.prog 25 #[v, .pointer (some ⟨g, 0, none⟩), .int .i64 s] w (RefPuts w base g ob ((B ++ putX l s).map bit8) (putE l s)) := by
  obtain ⟨A1, c1, A2, c2, rfl, h1c, h1m, h1, h2⟩ := hv
  have hE1 := extNew w (.cells #[.slice A1 l.length c1, .slice A2 l.length c2] 52)
  have hW1 := Whole.new w 52 #[.slice A1 l.length c1, .slice A2 l.length c2]
  have d0 : (w.alloc (.cells #[.slice A1 l.length c1, .slice A2 l.length c2] 52)).cell? ⟨w.heap.size, 0, none⟩ = some (.slice A1 l.length c1) := hW1.at 0 rfl
  have d1 : (w.alloc (.cells #[.slice A1 l.length c1, .slice A2 l.length c2] 52)).cell? ⟨w.heap.size, 1, none⟩ = some (.slice A2 l.length c2) := hW1.at 1 rfl
  obtain ⟨h300, h15, _⟩ := right_facts hr
  have hbase := Nat.le_trans h.le (Nat.le_of_lt h.lt)
  have H := hide h
  have stay : ∀ e : Int, e = 13 → fine l s = false → RefPuts w base g ob ((B ++ putX l s).map bit8) (putE l s) (.returned (.int .i64 e)) (w.alloc (.cells #[.slice A1 l.length c1, .slice A2 l.length c2] 52)) := fun e he hf => by
    subst he
    refine ⟨by rw [Huf.put_bad hf], ob, ?_, .inl rfl, Mod.ofExt hE1⟩
    unfold putX
    rw [hf, if_neg (by simp), List.append_nil]
    exact H.out.ext hE1
  have HStay := hide stay
  clear stay h
  obtain ⟨G, hG⟩ : ∃ G, G = (B ++ putX l s).map bit8 := ⟨_, rfl⟩
  rw [← hG] at HStay ⊢
  have HG := hide hG
  clear hG
  by_cases h0 : s < 0
  · have hf : fine l s = false := decide_eq_false (by omega)
    have HK := hide (HStay.out 13 rfl hf)
    clear HStay hf hW1
    go_enter Tryz.func25, Tryz.ntmps25
    go_wp2
    go_ret
    exact HK.out
  obtain ⟨k, rfl⟩ := Int.eq_ofNat_of_zero_le (show 0 ≤ s by omega)
  by_cases hk : k < l.length
  · have hkI : (k : Int) < (l.length : Int) := by omega
    rcases h1.2 with hn | ⟨b1, o1, rfl, hb1, hc1⟩
    · omega
    rcases h2.2 with hn | ⟨b2, o2, rfl, hb2, hc2⟩
    · omega
    have e1 : (w.alloc (.cells #[.slice (some ⟨b1, o1, none⟩) l.length c1, .slice (some ⟨b2, o2, none⟩) l.length c2] 52)).cell? ⟨b1, o1 + k, none⟩ = some (.int .u8 ((lenAt l k : Nat) : Int)) := (hE1.cell (i := o1 + k) (by omega)).trans (hc1 k hk)
    have e2 : (w.alloc (.cells #[.slice (some ⟨b1, o1, none⟩) l.length c1, .slice (some ⟨b2, o2, none⟩) l.length c2] 52)).cell? ⟨b2, o2 + k, none⟩ = some (.int .u16 ((word l k : Nat) : Int)) := by
      rw [hE1.cell (i := o2 + k) (by omega), hc2 k hk, codesL_at hk]
    have hy15 := h15 k hk
    by_cases y0 : lenAt l k = 0
    · have hf : fine l (k : Int) = false := decide_eq_false (by rw [Int.toNat_natCast]; omega)
      have HK := hide (HStay.out 13 rfl hf)
      rw [y0] at e1
      change World.cell? _ ⟨b1, o1 + k, none⟩ = some (.int .u8 0) at e1
      clear HStay hf hW1 hc1 hc2 h1 h2 e2 y0 hy15
      go_enter Tryz.func25, Tryz.ntmps25
      go_wp2
      go_ret
      exact HK.out
    · have hf : fine l (k : Int) = true := decide_eq_true (by rw [Int.toNat_natCast]; omega)
      have hw := word_fits hr hk y0
      have hwl := word_lt hr hk
      have CP := fun W (hW : RefW W base g ob (B.map bit8)) => refPut_any hW (word l k) ((lenAt l k : Nat) : Int) (by omega) (by simp; omega)
      have hg := Bit.put_good (x := word l k) (n := ((lenAt l k : Nat) : Int)) (decide_eq_true ⟨by omega, by omega, by rw [Int.toNat_natCast]; exact hw⟩)
      simp only [hg.1, hg.2, Int.toNat_natCast] at CP
      have HX := hide (show putX l (k : Int) = Bit.num (word l k) (lenAt l k) by unfold putX; rw [if_pos hf]; unfold putB; rw [Int.toNat_natCast])
      have HE := hide (Huf.put_fine hf)
      have hyb : ((lenAt l k : Int) == 0) = false := by rw [beq_eq_false_iff_ne]; omega
      clear HStay hf hW1 hc1 hc2 h1 h2 hg
      generalize word l k = x at *
      generalize lenAt l k = y at *
      go_enter Tryz.func25, Tryz.ntmps25
      go_wp2_with fail
      generalize w.alloc (.cells #[.slice (some ⟨b1, o1, none⟩) l.length c1, .slice (some ⟨b2, o2, none⟩) l.length c2] 52) = w1 at *
      go_still_tail 13, (by kernel_rfl)
      change wpList _ _ _ _ _ (World.drew _)
      go_wp2_with fail
      refine (CP _ (H.out.ext hE1.drew)).mono ?_
      rintro e w2 ⟨rfl, ob2, hR2, hN2, hM2⟩
      go_wp2
      go_ret
      refine ⟨ret_i64 HE.out.symm, ob2, ?_, (NewOb.same w ob).trans hE1.le hN2, (Mod.ofExt hE1.drew).trans hM2 (.inl rfl)⟩
      rw [HG.out, HX.out, List.map_append]
      exact hR2
  · have hf : fine l (k : Int) = false := decide_eq_false (by omega)
    have hkI : ¬ (k : Int) < (l.length : Int) := by omega
    have HK := hide (HStay.out 13 rfl hf)
    clear HStay hf hW1
    go_enter Tryz.func25, Tryz.ntmps25
    go_wp2
    go_ret
    exact HK.out
end Go.Proofs.YthpbckignppaiaaGreatDoor

namespace Go.Proofs.YthpbckignppaiaaGreatDoor
open Go.RowKit
theorem Bit.val_bit (f : Nat → Bool) : ∀ n j, j < n → (Bit.val f n).testBit (n - 1 - j) = f j
  | n + 1, j, h => by
    rw [Bit.val]
    have hb : (2 * Bit.val f n + (f n).toNat) / 2 = Bit.val f n := by cases f n <;> simp <;> omega
    rcases Nat.lt_or_ge j n with hj | hj
    · rw [show n + 1 - 1 - j = (n - 1 - j) + 1 by omega, Nat.testBit_succ, hb]
      exact Bit.val_bit f n j hj
    · obtain rfl : j = n := by omega
      rw [show j + 1 - 1 - j = 0 by omega, Nat.testBit_zero]
      cases f j <;> simp
def Bit.Front (l : List UInt8) (B : List Bool) (m : Nat) : Prop := l.length = m ∧ ∀ t, t < 8 * m → Bit.at_ l t = B.getD t false
theorem Bit.Front.next {l : List UInt8} {B : List Bool} {m : Nat} (h : Bit.Front l B m) : Bit.Front (l ++ [UInt8.ofNat (Bit.val (fun t => B.getD (8 * m + t) false) 8)]) B (m + 1) := by
  obtain ⟨hl, hb⟩ := h
  refine ⟨by simp [hl], fun t ht => ?_⟩
  have hv := Bit.val_lt (fun t => B.getD (8 * m + t) false) 8
  have h2 := Bit.val_bit (fun t => B.getD (8 * m + t) false) 8 (t % 8) (by omega)
  generalize Bit.val (fun t => B.getD (8 * m + t) false) 8 = X at *
  unfold Bit.at_
  rcases Nat.lt_or_ge t (8 * m) with h8 | h8
  · have h1 := hb t h8
    unfold Bit.at_ at h1
    rw [← h1]
    simp only [List.getD_eq_getElem?_getD]
    rw [List.getElem?_append_left (by omega)]
  · have h1 : t / 8 = m := by omega
    simp only [List.getD_eq_getElem?_getD]
    rw [h1, List.getElem?_append_right (by omega), hl, Nat.sub_self]
    simp only [List.getElem?_cons_zero, Option.getD_some]
    rw [UInt8.toNat_ofNat', Nat.mod_eq_of_lt hv]
    rw [show (8 : Nat) - 1 - t % 8 = 7 - t % 8 by omega] at h2
    rw [h2, show 8 * m + t % 8 = t by omega, List.getD_eq_getElem?_getD]
theorem Bit.Front.packs {l : List UInt8} {B : List Bool} {m : Nat} (h : Bit.Front l B m) (hm : m = (B.length + 7) / 8) : Bit.Packs l B := ⟨h.1.trans hm, fun i hi => h.2 i (by rw [← h.1]; exact hi)⟩
set_option maxHeartbeats 2000000 in
theorem refBytes_any {w : World} {base g : Nat} {ob : Option Nat} {B : List Bool} (h : RefW w base g ob (B.map bit8)) (hB : B.length ≤ 900000000) :
    Calls Tryz.prog 27 #[.pointer (some ⟨g, 0, none⟩)] w fun e w' => ∃ l, Bit.Packs l B ∧ MadeB w l e w' := by
  obtain ⟨v, hW, hO, hne, hb, rfl⟩ := h
  obtain ⟨A, c, rfl, hc, _, hbb⟩ := hO.form
  have hLn := hide (show (B.map bit8).length = B.length by simp)
  rw [hLn.out] at hW hbb hc
  have HW := hide hW
  have HBB := hide hbb
  clear hbb hO hne
  go_enter Tryz.func27, Tryz.ntmps27
  go_wp2
  go_loopw [3, 4, 5, 6] (fun o i _ _ wr => ∃ (m : Nat) (l : List UInt8), m ≤ (B.length + 7) / 8 ∧ i = .int .i64 ((8 * m : Nat) : Int) ∧ OwnB wr w.heap.size o l ∧ Bit.Front l B m ∧ Ext w wr) (fun _ i _ _ _ => B.length + 8 - (intOf i).toNat)
  case atStart => exact ⟨0, [], by omega, rfl, OwnB.nil _ _, ⟨rfl, fun t ht => by omega⟩, Ext.refl _⟩
  case round =>
    obtain ⟨m, l, hm, rfl, hOl, hF, hE⟩ := hrel
    have d0 : wr.cell? ⟨g, 0, none⟩ = some (.slice A B.length c) := (HW.out.ext hE).at 0 rfl
    have HF := hide hF
    by_cases hlt : 8 * m < B.length
    · have HC := hide ((hE.bytes HBB.out).2)
      go_wp2
      go_loop [5, 6] (fun x k => ∃ d : Nat, d ≤ 8 ∧ x = .int .i64 (Bit.val (fun t => B.getD (8 * m + t) false) d : Nat) ∧ k = .int .i64 ((8 * m + d : Nat) : Int)) (fun _ k => 8 * m + 8 - (intOf k).toNat)
      case atStart => exact ⟨0, by omega, rfl, by simp⟩
      case round =>
        obtain ⟨d, hd, rfl, rfl⟩ := hrel
        by_cases hd8 : d < 8
        · have hv := Bit.val_lt (fun t => B.getD (8 * m + t) false) d
          have hv8 : Bit.val (fun t => B.getD (8 * m + t) false) d < 256 := Nat.lt_of_lt_of_le hv (show 2 ^ d ≤ 2 ^ 8 from Nat.pow_le_pow_right (by omega) (by omega))
          have HV := hide (show Bit.val (fun t => B.getD (8 * m + t) false) (d + 1) = 2 * Bit.val (fun t => B.getD (8 * m + t) false) d + (B.getD (8 * m + d) false).toNat from rfl)
          clear hv
          generalize Bit.val (fun t => B.getD (8 * m + t) false) d = X at *
          by_cases hk : 8 * m + d < B.length
          · have hcell := HC.out
            rcases hcell with h0 | ⟨b, off, rfl, hbl, hcell⟩
            · omega
            have hc1 := hcell (8 * m + d) hk
            have hget : (B.map bit8).getD (8 * m + d) 0 = bit8 (B.getD (8 * m + d) false) := by simp [List.getD_eq_getElem?_getD, hk]
            rw [hget, bit8_int] at hc1
            clear hcell hget
            generalize B.getD (8 * m + d) false = bt at *
            have hbt : bt.toNat ≤ 1 := by cases bt <;> simp
            go_wp2
            go_round
            case rel => exact ⟨d + 1, by omega, by rw [HV.out]; go_num, by go_num⟩
            case measure => simp [intOf]; omega
          · have hfar := Bit.getD_far B (8 * m + d) (by omega)
            rw [hfar] at HV
            go_wp2
            go_round
            case rel => exact ⟨d + 1, by omega, by rw [HV.out]; simp, by go_num⟩
            case measure => simp [intOf]; omega
        · obtain rfl : d = 8 := by omega
          have HN := hide (HF.out.next)
          have hv := Bit.val_lt (fun t => B.getD (8 * m + t) false) 8
          generalize Bit.val (fun t => B.getD (8 * m + t) false) 8 = X at *
          obtain ⟨bt, rfl⟩ : ∃ bt : UInt8, X = bt.toNat := ⟨UInt8.ofNat X, by rw [UInt8.toNat_ofNat']; omega⟩
          rw [UInt8.ofNat_toNat] at HN
          have hbt := bt.toNat_lt
          have hl := HF.out.1
          have hfit : l.length + 1 ≤ 140737488355328 := by omega
          have hb1 := bytesNew wr [bt] #[.int .u8 (bt.toNat : Int)] 5 (0, 0) rfl 1 rfl
          have hO1 := hOl.ext (extNew wr (.cells #[.int .u8 (bt.toNat : Int)] 5))
          have hE1 := hE.trans (extNew wr (.cells #[.int .u8 (bt.toNat : Int)] 5))
          have hB1 := hE1.le
          clear hl hF
          go_wp2_with (at_builtin; refine wpList_appAt rfl (.tmp 42) (.tmp 45) rfl rfl hO1 rfl hb1 hfit hB1 ?_; intro v2 w2 hO2 hG2 hN2)
          go_roundw
          case rel => exact ⟨m + 1, _, by omega, by go_num, hO2, HN.out, hO1.below hE1 hG2 hB1⟩
          case measure => simp [intOf]; omega
    · have hP := hide (HF.out.packs (by omega))
      go_wp2
      go_ret
      exact ⟨l, hP.out, _, rfl, hOl, hE⟩
end Go.Proofs.YthpbckignppaiaaGreatDoor

namespace Go.Proofs.YthpbckignppaiaaGreatDoor
open Go.RowKit
theorem RefW.new (w : World) : RefW (w.alloc (.cells #[.slice none 0 0] 46)) w.heap.size w.heap.size none [] :=
  ⟨.slice none 0 0, Whole.new w _ _, OwnB.nil _ _, by simp [Value.ownBlock], Nat.le_refl _, rfl⟩
end Go.Proofs.YthpbckignppaiaaGreatDoor

namespace Go.Proofs.YthpbckignppaiaaGreatDoor
open Go.RowKit
def IntsAt (w : World) (B : Nat) (A : Option Addr) (n : Nat) (L : List Int) : Prop :=
  L.length = n ∧ (n = 0 ∨ ∃ b off, A = some ⟨b, off, none⟩ ∧ b < B ∧ ∀ i, i < n → w.cell? ⟨b, off + i, none⟩ = some (.int .i64 (L.getD i 0)))
theorem IntsAt.below {w w' : World} {B C : Nat} {A : Option Addr} {n : Nat} {L : List Int} (h : IntsAt w B A n L) (hb : Below C w w') (hC : B ≤ C) : IntsAt w' B A n L := by
  refine ⟨h.1, ?_⟩
  rcases h.2 with h0 | ⟨b, off, hA, hB, hc⟩
  · exact .inl h0
  · exact .inr ⟨b, off, hA, hB, fun i hi => by rw [hb.cell (p := ⟨b, off + i, none⟩) (Nat.lt_of_lt_of_le hB hC)]; exact hc i hi⟩
end Go.Proofs.YthpbckignppaiaaGreatDoor

namespace Go.Proofs.YthpbckignppaiaaGreatDoor
open Go.RowKit Len Can Huf
def PackTo (w : World) (r : List Bool × Int) (e : Ending) (w' : World) : Prop :=
  ∃ v l, e = .returned (.tuple #[v, .int .i64 r.2]) ∧ OwnB w' w.heap.size v l ∧ (r.2 = 0 → Bit.Packs l r.1) ∧ (r.2 ≠ 0 → l = []) ∧ Ext w w'
theorem Huf.putB_le {l : List UInt8} {s : Int} (hr : right l = true) (h : fine l s = true) : (putB l s).length ≤ 15 := by
  obtain ⟨h0, h1, h2⟩ := of_decide_eq_true h
  unfold putB
  rw [Bit.num_length]
  exact (right_facts hr).2.1 _ (by omega)
end Go.Proofs.YthpbckignppaiaaGreatDoor

namespace Go.Proofs.YthpbckignppaiaaGreatDoor
open Go.RowKit Lz Tok Len Can Huf
theorem Tok.countsS_lt (L : List TokV) (q : Nat) : (countsS L).getD q 0 ≤ L.length + 1 := by
  rw [← cntS_end, List.getD_eq_getElem?_getD, List.getElem?_set]
  have h1 := cntS_le L 256
  have h2 := cntS_le L q
  rw [List.getD_eq_getElem?_getD] at h2
  split
  · split
    · show (cntS L).getD 256 0 + 1 ≤ _
      omega
    · exact Nat.zero_le _
  · omega
theorem OwnB.away {w w' : World} {base hi g : Nat} {ob : Option Nat} {v : Value} {l : List UInt8} (h : OwnB w base v l) (hhi : ∀ k, v.ownBlock = some k → k < hi) (hM : Mod w w' g ob) (hg : g < base) (ho : ∀ k, ob = some k → hi ≤ k) : OwnB w' base v l := by
  refine hM.own h (fun e => by have := (h.lt g e).1; omega) ?_
  cases hv : v.ownBlock with
  | none => exact .inl rfl
  | some k =>
    refine .inr fun e => ?_
    have := hhi k hv
    have := ho k e.symm
    omega
theorem OwnB.at {w : World} {base n c : Nat} {A : Option Addr} {l : List UInt8} (h : OwnB w base (.slice A n c) l) (hn : n = l.length) : Bytes w w.heap.size A n l := by
  subst hn
  obtain ⟨A7, c7, e7, _, _, h7⟩ := h.form
  simp only [Value.slice.injEq] at e7
  obtain ⟨rfl, _, rfl⟩ := e7
  exact h7
theorem OwnB.atIn {w : World} {base hi n c : Nat} {A : Option Addr} {l : List UInt8} (h : OwnB w base (.slice A n c) l) (hn : n = l.length) (hhi : ∀ k, Value.ownBlock (.slice A n c) = some k → k < hi) : Bytes w hi A n l := by
  obtain ⟨h1, h2⟩ := h.at hn
  refine ⟨h1, h2.imp id ?_⟩
  rintro ⟨b, off, rfl, _, hc⟩
  exact ⟨b, off, rfl, hhi b rfl, hc⟩
theorem Tok.bodyB_next (x y : List UInt8) {L : List TokV} {i : Nat} (hi : i < L.length) : bodyB x y (L.take (i + 1)) = bodyB x y (L.take i) ++ tokB x y (L.getD i default) := by
  rw [take_next hi]
  unfold bodyB
  rw [List.flatMap_append]
  simp
theorem Tok.tokB_lit {x y : List UInt8} {t : TokV} (h : fine x (splitE t).1.sym = true) (h0 : t.len = 0) : tokB x y t = putX x (splitE t).1.sym := by
  unfold tokB putX
  rw [if_pos h0, if_pos h, List.append_nil]
theorem Tok.tokB_match {x y : List UInt8} {t : TokV} {k v c z : Nat} (e : splitE t = (⟨257 + (k : Int), v, c, z⟩, 0)) (h : fine x (257 + (k : Int)) = true) (h2 : fine y (c : Int) = true) (h0 : t.len ≠ 0) : tokB x y t = putX x (257 + (k : Int)) ++ Bit.num v k ++ putX y (c : Int) ++ Bit.num z c := by
  unfold tokB putX matchB
  rw [if_neg h0, e]
  dsimp only
  rw [if_pos h, if_pos h2, show (257 + (k : Int) - 257).toNat = k by omega, Int.toNat_natCast, Int.toNat_natCast, Int.toNat_natCast]
  simp only [List.append_assoc]
theorem Tok.putX_le {l : List UInt8} (s : Int) (hr : right l = true) : (putX l s).length ≤ 15 := by
  unfold putX
  split
  · rename_i h
    exact putB_le hr h
  · simp
theorem Tok.put_num {x k : Nat} (hk : k ≤ 64) (h : x < 2 ^ k) : Bit.putBits x (k : Int) = Bit.num x k := by
  have := (Bit.put_good (x := x) (n := (k : Int)) (decide_eq_true ⟨by omega, by omega, by rw [Int.toNat_natCast]; exact h⟩)).2
  rwa [Int.toNat_natCast] at this
set_option maxHeartbeats 1000000 in
set_option maxRecDepth 100000 in
theorem refWrite11_any (A : Option Addr) (n c : Nat) (L : List TokV) (w : World) (hn : n ≤ 100000) (hT : ToksAt w w.heap.size A n L) (hLn : RefLensC w) : Calls Tryz.prog 11 #[.slice A n c] w (PackTo w (writeE L)) := by
  have C1 := refCount_any A n c L w hn hT
  have hl := hT.1
  subst hl
  by_cases h32 : 32768 < L.length
  · have HN := hide (show writeE L = ([], 6) from if_pos h32)
    generalize writeE L = res at *
    have hI : (32768 : Int) < (L.length : Int) := by omega
    clear h32 hT C1 hLn
    go_enter Tryz.func11, Tryz.ntmps11
    go_wp2
    go_ret2
    rw [HN.out]
    exact ⟨_, [], rfl, OwnB.nil _ _, fun h => absurd h (by simp), fun _ => rfl, Ext.refl _⟩
  have hI : ¬ (32768 : Int) < (L.length : Int) := by omega
  cases hall : L.all may with
  | false =>
    have HN := hide (show writeE L = ([], 7) by unfold writeE; rw [if_neg h32, hall]; rfl)
    have HA := hide hall
    generalize writeE L = res at *
    clear h32 hT hLn hall
    go_enter Tryz.func11, Tryz.ntmps11
    go_wp2_with fail
    refine C1.mono ?_
    rintro e w1 ⟨hE1, hC⟩
    rw [HA.out, if_neg (by simp)] at hC
    subst hC
    clear C1
    go_wp2
    go_ret2
    rw [HN.out]
    exact ⟨_, [], rfl, OwnB.nil _ _, fun h => absurd h (by simp), fun _ => rfl, hE1⟩
  | true =>
    have HN := hide (show writeE L = (writeB L, 0) by unfold writeE; rw [if_neg h32, if_pos hall])
    have HA := hide hall
    generalize writeE L = res at *
    have HT := hide hT
    have HLn := hide hLn
    clear h32 hT hLn hall
    go_enter Tryz.func11, Tryz.ntmps11
    go_wp2_with fail
    refine C1.mono ?_
    rintro e w1 ⟨hE1, hC⟩
    rw [if_pos HA.out] at hC
    obtain ⟨g1, g2, hne, rfl, hO1, hO2⟩ := hC
    have hEw := extNew w1 (.cells #[.slice none 0 0] 46)
    have hR0 := RefW.new w1
    have hEa := hE1.trans hEw
    have hO1a := hO1.ext hEw
    have HO2a := hide (hO2.ext hEw)
    have hsz : (w1.alloc (.cells #[.slice none 0 0] 46)).heap.size = w1.heap.size + 1 := by simp
    have hg := hE1.le
    have hU1 := hO1a.at (by rw [countsS_len]) (fun q => by have := countsS_lt L q; omega)
    have C2 := HLn.out (countsS L) 15 (some ⟨g1, 0, none⟩) 265 265 _ hEa (Nat.le_refl _) hU1 (by omega) (by omega)
    rw [lens_found (by rw [countsS_len]; omega)] at C2
    change Calls _ _ _ _ (TellsB _ (bestS L, 0)) at C2
    clear C1 hO1 hO2 hO1a hE1 hU1
    go_wp2_with fail
    generalize hgg : w1.heap.size = g at *
    generalize w1.alloc (.cells #[.slice none 0 0] 46) = wa at *
    refine C2.mono ?_
    rintro e w2 ⟨v1, rfl, hV1, hE2⟩
    rw [hsz] at hV1
    clear C2 hEw
    have hle2 := hE2.le
    have hEb := hEa.trans hE2
    have hO2b := HO2a.out.ext hE2
    have hR2 := hR0.ext hE2
    have hU2 := hO2b.at (by rw [countsF_len]) (fun q => by have := cntF_le L q; omega)
    have C3 := HLn.out (countsF L) 15 (some ⟨g2, 0, none⟩) 12 12 _ hEb (Nat.le_refl _) hU2 (by omega) (by omega)
    rw [lens_found (by rw [countsF_len]; omega)] at C3
    change Calls _ _ _ _ (TellsB _ (bestF L, 0)) at C3
    clear hO2b hU2 HO2a HLn hR0
    dsimp only at hV1 ⊢
    go_wp2_with fail
    refine C3.mono ?_
    rintro e w3 ⟨v2, rfl, hV2, hE3⟩
    dsimp only at hV2 ⊢
    have hle3 := hE3.le
    have hEc := hEb.trans hE3
    have hR3 := hR2.ext hE3
    have hV1hi := fun k (hk : v1.ownBlock = some k) => (hV1.lt k hk).2
    have hV2hi := fun k (hk : v2.ownBlock = some k) => (hV2.lt k hk).2
    have hV1c := hV1.ext hE3
    obtain ⟨Ab1, cb1, rfl, _, _, _⟩ := hV1c.form
    obtain ⟨Ab2, cb2, rfl, _, _, _⟩ := hV2.form
    rw [bestS_len] at hV1c hV1hi ⊢
    rw [bestF_len] at hV2 hV2hi ⊢
    have hgw2 : g < w2.heap.size := by omega
    have hw23 : w2.heap.size ≤ w3.heap.size := hle3
    have C4 := refWriteK_any hR3 (by simp) Ab1 265 cb1 (bestS L) (fun W hM => (hV1c.away hV1hi hM (by omega) (fun k hk => by cases hk)).atIn (by rw [bestS_len]) (fun k hk => Nat.lt_of_lt_of_le (hV1hi k hk) hle3))
    rw [if_pos (bestS_right L), check_right (bestS_right L)] at C4
    have HV1 := hide hV1c
    have HV2 := hide hV2
    have HI1 := hide hV1hi
    have HI2 := hide hV2hi
    have hWl1 := wbits_len (bestS L)
    have hWl2 := wbits_len (bestF L)
    rw [bestS_len] at hWl1
    rw [bestF_len] at hWl2
    clear hV1 hV1c hV2 hV1hi hV2hi hR2 hR3 C3
    go_wp2_with fail
    refine C4.mono ?_
    rintro e w4 ⟨rfl, ob4, hR4, hN4, hM4⟩
    have hob4 := hN4.le (Nat.le_refl _) (fun k hk => by cases hk)
    have hV1d := HV1.out.away HI1.out hM4 (by omega) (fun k hk => by cases hk)
    have hV2d := HV2.out.away HI2.out hM4 hgw2 (fun k hk => by cases hk)
    have C5 := refWriteK_any hR4 (by simp; omega) Ab2 12 cb2 (bestF L) (fun W hM => (hV2d.away HI2.out hM hgw2 hob4).atIn (by rw [bestF_len]) (fun k hk => Nat.lt_of_lt_of_le (HI2.out k hk) hM4.size))
    rw [if_pos (bestF_right L), check_right (bestF_right L)] at C5
    have HV1d := hide hV1d
    have HV2d := hide hV2d
    clear hV1d hV2d C4 HV1 HV2 hR4
    go_wp2_with fail
    refine C5.mono ?_
    rintro e w5 ⟨rfl, ob5, hR5, hN5, hM5⟩
    have hM35 := hM4.trans hM5 hN4
    have hN35 := hN4.trans hM4.size hN5
    have hob5 := hN35.le (Nat.le_refl _) (fun k hk => by cases hk)
    have hob5h := fun k hk => (hR5.own k hk).2
    have hV1e := HV1d.out.away HI1.out hM5 (by omega) (fun k hk => Nat.le_trans hw23 (hob4 k hk))
    have hV2e := HV2d.out.away HI2.out hM5 hgw2 hob4
    have h35 := hM35.size
    have C6 := refNew9R_any Ab1 265 cb1 (bestS L) w5 (hV1e.at (by rw [bestS_len]))
    unfold RefNewR at C6
    rw [check_right (bestS_right L)] at C6
    have HV2e := hide hV2e
    have HR5 := hide hR5
    have HM35 := hide hM35
    have HN35 := hide hN35
    clear hV1e hV2e C5 HV1d HV2d hR5 hM4 hM5 hN4 hN5 hob4 HI1 hM35 hN35
    go_wp2_with fail
    refine C6.mono ?_
    rintro e w6 ⟨vc, rfl, hvc, _, hE6⟩
    have hvc := hvc (bestS_right L)
    obtain ⟨B1, d1, B2, d2, rfl, hvr⟩ := hvc
    have HCc := hide (show RefCodR w6 w5.heap.size w6.heap.size (.agg #[.slice B1 (bestS L).length d1, .slice B2 (bestS L).length d2]) (bestS L) from ⟨B1, d1, B2, d2, rfl, hvr⟩)
    clear hvr hvc C6
    rw [bestS_len] at HCc ⊢
    have hE6a := extNew w6 (.cells #[.slice B1 265 d1, .slice B2 265 d2] 52)
    have HWc := hide (Whole.new w6 52 #[.slice B1 265 d1, .slice B2 265 d2])
    have hs6 : (w6.alloc (.cells #[.slice B1 265 d1, .slice B2 265 d2] 52)).heap.size = w6.heap.size + 1 := by simp
    have hV2f := (HV2e.out.ext hE6).ext hE6a
    have C7 := refNew9R_any Ab2 12 cb2 (bestF L) _ (hV2f.at (by rw [bestF_len]))
    unfold RefNewR at C7
    rw [check_right (bestF_right L)] at C7
    have hle6 := hE6.le
    have hE56 := hE6.trans hE6a
    have HCc2 := hide (HCc.out.ext hE6a)
    clear hV2f HV2e HCc hE6a hE6
    go_wp2_with fail
    generalize w6.heap.size = H6 at *
    generalize w6.alloc (.cells #[.slice B1 265 d1, .slice B2 265 d2] 52) = w6a at *
    refine C7.mono ?_
    rintro e w7 ⟨vd, rfl, hvd, _, hE7⟩
    have hvd := hvd (bestF_right L)
    rw [hs6] at hvd
    obtain ⟨B3, d3, B4, d4, rfl, hvr⟩ := hvd
    have HCd := hide (show RefCodR w7 (H6 + 1) w7.heap.size (.agg #[.slice B3 (bestF L).length d3, .slice B4 (bestF L).length d4]) (bestF L) from ⟨B3, d3, B4, d4, rfl, hvr⟩)
    clear hvr hvd C7
    rw [bestF_len] at HCd ⊢
    have hE7a := extNew w7 (.cells #[.slice B3 12 d3, .slice B4 12 d4] 52)
    have HWd := hide (Whole.new w7 52 #[.slice B3 12 d3, .slice B4 12 d4])
    have hs7 : (w7.alloc (.cells #[.slice B3 12 d3, .slice B4 12 d4] 52)).heap.size = w7.heap.size + 1 := by simp
    have hle7 := hE7.le
    have hE58 := (hE56.trans hE7).trans hE7a
    have HCc3 := hide ((HCc2.out.ext hE7).ext hE7a)
    have HCd3 := hide (HCd.out.ext hE7a)
    have HWc3 := hide ((HWc.out.ext hE7).ext hE7a)
    have hR8 := HR5.out.ext hE58
    have hM38 := HM35.out.trans (Mod.ofExt (ob := ob5) hE58) HN35.out
    clear HCc2 HCd HWc HR5 hE7a hE7 hE56
    go_wp2_with fail
    generalize w7.heap.size = H7 at *
    generalize w7.alloc (.cells #[.slice B3 12 d3, .slice B4 12 d4] 52) = w8 at *
    rw [List.nil_append, ← List.map_append] at hR8
    have HR8 := hide hR8
    have hE8 : Ext w w8 := Below.trans hEc (hM38.below (B := w.heap.size) hEc.le hg (fun k hk => by cases hk))
    have hH6 : H6 ≠ g := by omega
    have hH7 : H7 ≠ g := by omega
    have HAll := hide (show ∀ W, Mod w8 W g ob5 → RefCodR W w5.heap.size H6 (.agg #[.slice B1 265 d1, .slice B2 265 d2]) (bestS L) ∧ RefCodR W (H6 + 1) H7 (.agg #[.slice B3 12 d3, .slice B4 12 d4]) (bestF L) ∧ Whole W H6 52 #[.slice B1 265 d1, .slice B2 265 d2] ∧ Whole W H7 52 #[.slice B3 12 d3, .slice B4 12 d4] ∧ Ext w W from fun W hM =>
      ⟨HCc3.out.mod hM (.inl (by omega)) (fun k hk => .inl (hob5h k hk)), HCd3.out.mod hM (.inl (by omega)) (fun k hk => .inl (by have := hob5h k hk; omega)), hM.whole HWc3.out hH6 (fun e => by have := hob5h H6 e; omega), hM.whole HWd.out hH7 (fun e => by have := hob5h H7 e; omega),
        Below.trans hE8 (hM.below (B := w.heap.size) hE8.le hg (fun k hk => by have := hob5 k hk; omega))⟩)
    clear HCc3 HWc3 hR8 hM38 HWd HCd3 hEc hE8 hE58 hE3 hEb hE2 hEa HM35 HI2 hob5 hob5h HN35
    go_loopw [16] (fun x wr => ∃ (i : Nat) (ob : Option Nat), i ≤ L.length ∧ x = .int .i64 (i : Int) ∧ RefW wr g g ob ((wbits (bestS L) ++ wbits (bestF L) ++ bodyB (bestS L) (bestF L) (L.take i)).map bit8) ∧ NewOb w8 ob5 ob ∧ Mod w8 wr g ob5 ∧ (bodyB (bestS L) (bestF L) (L.take i)).length ≤ 48 * i) (fun x _ => L.length - (intOf x).toNat)
    case atStart => exact ⟨0, ob5, by omega, rfl, by simpa [bodyB] using HR8.out, .inl rfl, Mod.refl _ _ _, by simp [bodyB]⟩
    case round =>
      clear HR8
      obtain ⟨i, ob, hi, rfl, hR, hN, hM, hlen⟩ := hrel
      by_cases hlt : i < L.length
      · have hiI : (i : Int) < (L.length : Int) := by omega
        obtain ⟨hCr, hDr, hWc, hWd, hEw⟩ := HAll.out wr hM
        have hMem : L.getD i default ∈ L := by
          rw [List.getD_eq_getElem?_getD, List.getElem?_eq_getElem hlt]
          exact List.getElem_mem hlt
        have hmay := List.all_eq_true.1 HA.out _ hMem
        have hfS := sym_fine hMem hmay
        have hfF := dist_fine hMem hmay
        have HBn := hide (bodyB_next (bestS L) (bestF L) hlt)
        have CM := fun W => refSplit_any (L.getD i default) W
        unfold tokV at CM
        have hToks := HT.out.below hEw (Nat.le_refl _)
        rcases hToks.2 with h0 | ⟨b1, o1, rfl, hb1, hc⟩
        · omega
        obtain ⟨hAt, hOk⟩ := hc i hlt
        obtain ⟨c0, c1, c2⟩ := hAt.cells
        clear hc hToks hAt hMem
        obtain ⟨t, ht⟩ : ∃ t, t = L.getD i default := ⟨_, rfl⟩
        rw [← ht] at c0 c1 c2 hOk CM hmay hfS hfF HBn
        have HCell := hide (show ∀ W, Ext w W → W.cell? ⟨b1, o1 + i * 3 + 1, none⟩ = some (.int .i64 t.len) from fun W hW => by
          have := (HT.out.below hW (Nat.le_refl _)).2
          rcases this with h0 | ⟨b', o', e', _, hc'⟩
          · omega
          simp only [Option.some.injEq, Addr.mk.injEq, and_true] at e'
          obtain ⟨rfl, rfl⟩ := e'
          have := (hc' i hlt).1
          rw [← ht] at this
          exact this.2.1)
        clear ht
        obtain ⟨P, hP⟩ : ∃ P, P = wbits (bestS L) ++ wbits (bestF L) ++ bodyB (bestS L) (bestF L) (L.take i) := ⟨_, rfl⟩
        have hPl : P.length ≤ 2770 + 48 * i := by rw [hP]; simp only [List.length_append]; omega
        rw [← hP] at hR
        have HP := hide hP
        have HN2 := hide hN
        have HM2 := hide hM
        have HRr := hide hR
        have hobr := fun k hk => (hR.own k hk).2
        have hgr := hR.lt
        clear hP hN hM hR
        by_cases h0 : t.len = 0
        · have hsp := split_lit hmay h0
          have HBt := hide (tokB_lit (y := bestF L) hfS h0)
          rw [hsp] at CM HBt
          dsimp only at HBt
          unfold SplitTo pcV at CM
          dsimp only at CM
          rw [h0] at c1 CM
          have HC0 := hide (show ∀ W, Ext w W → W.cell? ⟨b1, o1 + i * 3 + 1, none⟩ = some (.int .i64 0) from fun W hW => h0 ▸ HCell.out W hW)
          have h8 := UInt8.toNat_lt t.lit
          clear hsp hfS hfF hmay HCell h0 hOk
          generalize tokB (bestS L) (bestF L) t = T at *
          generalize t.lit.toNat = y at *
          generalize t.dist = td at *
          go_wp2_with fail
          refine (CM wr).mono ?_
          rintro e wa ⟨rfl, hEs⟩
          have hEp := hEs.trans (extNew wa (.cells #[.int .i64 (y : Int), .int .i64 0, .int .i64 0, .int .i64 0] 56))
          have hWcp := hWc.ext hEp
          have q0 := hWcp.at 0 (u := .slice B1 265 d1) rfl
          have q1 := hWcp.at 1 (u := .slice B2 265 d2) rfl
          have CP := refPut9H_any (hCr.ext hEp).cod (bestS_right L) (HRr.out.ext hEp) (y : Int) (by omega)
          have HMp := hide (HM2.out.trans (Mod.ofExt (ob := ob) hEp) HN2.out)
          clear CM c0 c1 c2 hWc hWd hCr hDr hEs hWcp
          go_wp2_with fail
          refine CP.mono ?_
          rintro e wc ⟨rfl, obc, hRc, hNc, hMc⟩
          have hMw := HMp.out.trans hMc HN2.out
          have hNw := HN2.out.trans HMp.out.size hNc
          obtain ⟨_, _, _, _, hEc⟩ := HAll.out wc hMw
          have f1 := HC0.out wc hEc
          have hxl := putX_le (l := bestS L) (y : Int) (bestS_right L)
          clear CP q0 q1
          go_wp2
          go_roundw
          case rel => exact ⟨i + 1, obc, by omega, by go_num, (by rw [HBn.out, HBt.out, ← List.append_assoc, ← HP.out]; exact hRc), hNw, hMw, by rw [HBn.out, HBt.out, List.length_append]; omega⟩
          case measure => simp [intOf]; omega
        · obtain ⟨k, x, cn, y, hk, hx, hcn, hy, e1, e2, e3⟩ := split_match hmay h0
          have hfF := hfF h0
          rw [e3] at hfS hfF
          dsimp only at hfS hfF
          have HBt := hide (tokB_match (x := bestS L) (y := bestF L) e3 hfS hfF h0)
          have hlp : 0 < t.len := by have := (may_facts hmay h0).2.1; omega
          rw [e3] at CM
          unfold SplitTo pcV at CM
          dsimp only at CM
          have hkp := pow_top hk
          have hcp := pow_top hcn
          have HYn := hide (put_num (x := y) (k := cn) (by omega) hy)
          obtain ⟨sy, hsy⟩ : ∃ s : Int, s = 257 + (k : Int) := ⟨_, rfl⟩
          rw [← hsy] at CM HBt
          have hsk : sy - 257 = (k : Int) := by omega
          have HXn := hide (show Bit.putBits x (sy - 257) = Bit.num x k by rw [hsk]; exact put_num (by omega) hx)
          have hs1 : 257 ≤ sy := by omega
          have hs2 : sy ≤ 264 := by omega
          have hx7 : x < 128 := by omega
          have hy7 : y < 2048 := by omega
          have hs3 : sy - 257 ≤ 7 := by omega
          clear e1 e2 e3 hsy hsk hx hy hkp hcp hfS hfF hmay h0 hOk
          generalize tokB (bestS L) (bestF L) t = T at *
          generalize hyy : t.lit.toNat = yl at *
          go_wp2_with fail
          refine (CM wr).mono ?_
          rintro e wa ⟨rfl, hEs⟩
          have hEp := hEs.trans (extNew wa (.cells #[.int .i64 sy, .int .i64 (x : Int), .int .i64 (cn : Int), .int .i64 (y : Int)] 56))
          have hWp := Whole.new wa 56 #[.int .i64 sy, .int .i64 (x : Int), .int .i64 (cn : Int), .int .i64 (y : Int)]
          have hles := hEs.le
          have HPc := hide (fun W (hM : Mod (wa.alloc (.cells #[.int .i64 sy, .int .i64 (x : Int), .int .i64 (cn : Int), .int .i64 (y : Int)] 56)) W g ob) => hM.whole hWp (by omega) (fun e => by have := hobr _ e; omega))
          have hWcp := hWc.ext hEp
          have q0 := hWcp.at 0 (u := .slice B1 265 d1) rfl
          have q1 := hWcp.at 1 (u := .slice B2 265 d2) rfl
          have CP := refPut9H_any (hCr.ext hEp).cod (bestS_right L) (HRr.out.ext hEp) sy (by omega)
          have HMp := hide (HM2.out.trans (Mod.ofExt (ob := ob) hEp) HN2.out)
          have hxl := putX_le (l := bestS L) sy (bestS_right L)
          have hfl := putX_le (l := bestF L) (cn : Int) (bestF_right L)
          have hnl1 := Bit.num_length x k
          have hnl2 := Bit.num_length y cn
          clear CM c0 c1 c2 hWc hWd hCr hDr hEs hWcp hWp
          go_wp2_with fail
          refine CP.mono ?_
          rintro e wc ⟨rfl, obc, hRc, hNc, hMc⟩
          obtain ⟨_, _, _, _, hEwc⟩ := HAll.out wc (HMp.out.trans hMc HN2.out)
          have f1 := HCell.out wc hEwc
          have hPc := HPc.out wc hMc
          have p0 := hPc.at 0 (u := .int .i64 sy) rfl
          have p1 := hPc.at 1 (u := .int .i64 (x : Int)) rfl
          have CP2 := refPut_any hRc x (sy - 257) (by omega) (by rw [List.length_map, List.length_append]; omega)
          rw [HXn.out, ← List.map_append] at CP2
          generalize Bit.putErr x (sy - 257) = E2 at CP2
          clear CP q0 q1 hPc hEwc hRc
          go_wp2_with fail
          refine CP2.mono ?_
          rintro e wd ⟨rfl, obd, hRd, hNd, hMd⟩
          have hMpd := hMc.trans hMd hNc
          have hNpd := hNc.trans hMc.size hNd
          obtain ⟨_, hDd, _, hWdd, _⟩ := HAll.out wd (HMp.out.trans hMpd HN2.out)
          have r0 := hWdd.at 0 (u := .slice B3 12 d3) rfl
          have r1 := hWdd.at 1 (u := .slice B4 12 d4) rfl
          have p2 := (HPc.out wd hMpd).at 2 (u := .int .i64 (cn : Int)) rfl
          have CP3 := refPut9H_any hDd.cod (bestF_right L) hRd (cn : Int) (by simp only [List.length_append]; omega)
          clear CP2 p0 p1 f1 hWdd hDd hRd hMd hNd hMc hNc
          go_wp2_with fail
          refine CP3.mono ?_
          rintro e we ⟨rfl, obe, hRe, hNe, hMe⟩
          have hMpe := hMpd.trans hMe hNpd
          have hNpe := hNpd.trans hMpd.size hNe
          have hPe := HPc.out we hMpe
          have s2 := hPe.at 2 (u := .int .i64 (cn : Int)) rfl
          have s3 := hPe.at 3 (u := .int .i64 (y : Int)) rfl
          have CP4 := refPut_any hRe y (cn : Int) (by omega) (by rw [List.length_map]; simp only [List.length_append]; omega)
          rw [HYn.out, ← List.map_append] at CP4
          generalize Bit.putErr y (cn : Int) = E4 at CP4
          clear CP3 r0 r1 p2 hPe hRe hMpd hNpd hMe hNe
          go_wp2_with fail
          refine CP4.mono ?_
          rintro e wf ⟨rfl, obf, hRf, hNf, hMf⟩
          have hMpf := hMpe.trans hMf hNpe
          have hNpf := hNpe.trans hMpe.size hNf
          clear CP4 s2 s3
          go_wp2
          go_roundw
          case rel => exact ⟨i + 1, obf, by omega, by go_num, (by rw [HBn.out, HBt.out, ← List.append_assoc, ← HP.out]; simpa only [List.append_assoc] using hRf), HN2.out.trans HMp.out.size hNpf, HMp.out.trans hMpf HN2.out, by rw [HBn.out, HBt.out]; simp only [List.length_append]; omega⟩
          case measure => simp [intOf]; omega
      · obtain rfl : L.length = i := by omega
        rw [List.take_length] at hR hlen
        obtain ⟨hCr, _, hWc, _, hEw⟩ := HAll.out wr hM
        have q0 := hWc.at 0 (u := .slice B1 265 d1) rfl
        have q1 := hWc.at 1 (u := .slice B2 265 d2) rfl
        have CP := refPut9H_any hCr.cod (bestS_right L) hR 256 (by simp only [List.length_append]; omega)
        have hxl := putX_le (l := bestS L) 256 (bestS_right L)
        have HEnd := hide (show putX (bestS L) 256 = putB (bestS L) 256 from if_pos (end_fine L))
        have HM2 := hide hM
        have HN2 := hide hN
        clear hR hWc hCr hM hN
        go_wp2_with fail
        refine CP.mono ?_
        rintro e wc ⟨rfl, obc, hRc, hNc, hMc⟩
        have hMw := HM2.out.trans hMc HN2.out
        obtain ⟨_, _, _, _, hEc⟩ := HAll.out wc hMw
        have CB := refBytes_any hRc (by simp only [List.length_append]; omega)
        clear CP q0 q1 hRc
        go_wp2_with fail
        refine CB.mono ?_
        rintro e wd ⟨l, hPk, v, rfl, hO, hE⟩
        go_wp2
        go_ret2
        rw [HN.out]
        refine ⟨v, l, rfl, hO.mono hEc.le, fun _ => ?_, fun h => absurd rfl h, hEc.trans hE⟩
        rw [HEnd.out] at hPk
        unfold writeB
        simpa only [List.append_assoc] using hPk
end Go.Proofs.YthpbckignppaiaaGreatDoor

namespace Go.Proofs.YthpbckignppaiaaGreatDoor
open Go.RowKit Num Lz Tok Blk
theorem Blk.write_toks {b : List UInt8} (h : b.length ≤ 32768) : writeE (toks b 0) = (writeB (toks b 0), 0) := by
  have hl := toks_len b 0
  unfold writeE
  rw [if_neg (by omega), if_pos (List.all_eq_true.2 (toks_may b 0))]
set_option maxHeartbeats 4000000 in
set_option maxRecDepth 100000 in
theorem refBWrite_any (A : Option Addr) (n c : Nat) (b : List UInt8) (plain : Bool) (w : World) (h : Bytes w w.heap.size A n b) (hLn : RefLensC w) :
    Calls Tryz.prog 6 #[.slice A n c, .bool plain] w (MadeE w (writeF b plain).1 (writeF b plain).2) := by
  have hl := h.1
  subst hl
  by_cases hbig : 32768 < b.length
  · have hbI : (32768 : Int) < (b.length : Int) := by omega
    have HN := hide (show writeF b plain = ([], 6) by unfold writeF; rw [if_pos hbig])
    rw [HN.out]
    clear HN
    go_enter Tryz.func6, Tryz.ntmps6
    go_wp2
    go_ret2
    exact ⟨_, rfl, OwnB.nil _ _, Ext.refl _⟩
  have hbI : ¬ (32768 : Int) < (b.length : Int) := by omega
  have HB := hide h
  have HN := hide (show writeF b plain = (Crc.put (headB b plain ++ bodyOf b plain), 0) by unfold writeF; rw [if_neg hbig]; rfl)
  rw [HN.out]
  clear HN h
  cases hu : useS b plain with
  | false =>
    have HW := hide (show headB b plain = [UInt8.ofNat 0] ++ enc b.length ++ enc b.length by unfold headB wayOf bodyOf; rw [hu]; rfl)
    have HBd := hide (show bodyOf b plain = b by unfold bodyOf; rw [hu]; rfl)
    rw [HW.out, HBd.out]
    clear HW HBd
    cases plain with
    | true =>
      clear hu hLn
      go_enter Tryz.func6, Tryz.ntmps6
      go_wp2_with fail
      have hF0 : Ext w w := Ext.refl w
      have hS0 : Bytes w w.heap.size A b.length b := HB.out
      have hO1 := OwnB.lit w #[.int .u8 0] [UInt8.ofNat 0] 1 rfl rfl (by omega) (base := w.heap.size) (Nat.le_refl _)
      have hE1 := extNew w (.cells #[.int .u8 0] 5)
      have C1 := refNum_any b.length (w.alloc (.cells #[.int .u8 0] 5)) (by omega)
      have hWn := hF0.le
      obtain ⟨B0, hB0⟩ : ∃ k, k = w.heap.size := ⟨_, rfl⟩
      have HB0 := hide hB0
      rw [← hB0] at hO1
      have hBel1 : Below B0 w (w.alloc (.cells #[.int .u8 0] 5)) := by rw [hB0]; exact hE1
      have hB1 : B0 ≤ (w.alloc (.cells #[.int .u8 0] 5)).heap.size := by rw [hB0]; exact hE1.le
      clear hE1 hB0
      generalize w.alloc (.cells #[.int .u8 0] 5) = u1 at *
      go_wp2_with fail
      refine C1.mono ?_
      rintro e u2 ⟨v2, rfl, hV2, hE2⟩
      obtain ⟨A2, c2, rfl, _, _, hb2⟩ := hV2.form
      have hO2 := hO1.ext hE2
      have hBel2 := hBel1.trans (Below.mono hE2 hB1)
      have hB2 : B0 ≤ u2.heap.size := Nat.le_trans hB1 hE2.le
      have hel := enc_len b.length
      have hl2 : [UInt8.ofNat 0].length + (enc b.length).length ≤ 140737488355328 := by simp; omega
      clear C1 hO1 hE2 hBel1 hB1 hV2
      go_wp2_with (at_builtin; refine wpList_app rfl (.tmp 31) (.tmp 35) rfl (by rw [HB0.out]; rfl) hO2 rfl hb2 hl2 hB2 ?_; intro v3 u3 hO3 hG3; have hBel3 := hO2.below hBel2 hG3 hB2)
      have C4 := refNum_any b.length u3 (by omega)
      have hB3 : B0 ≤ u3.heap.size := Nat.le_trans hB2 hG3.size
      clear hO2 hBel2 hG3 hb2 hl2 hB2
      go_wp2_with fail
      refine C4.mono ?_
      rintro e u4 ⟨v4, rfl, hV4, hE4⟩
      obtain ⟨A4, c4, rfl, _, _, hb4⟩ := hV4.form
      have hO4 := hO3.ext hE4
      have hBel4 := hBel3.trans (Below.mono hE4 hB3)
      have hB4 : B0 ≤ u4.heap.size := Nat.le_trans hB3 hE4.le
      have hel2 := enc_len b.length
      have hl4 : ([UInt8.ofNat 0] ++ enc b.length).length + (enc b.length).length ≤ 140737488355328 := by simp; omega
      clear C4 hO3 hE4 hBel3 hB3 hV4
      have hSx : ∀ W', Below B0 w W' → B0 ≤ W'.heap.size → Bytes W' W'.heap.size A b.length b := fun W' h1 h2 => (hS0.below h1 (by rw [HB0.out]; exact Nat.le_refl _)).mono (by rw [← HB0.out]; exact h2)
      have HSx := hide hSx
      clear hSx
      have hl5 : ([UInt8.ofNat 0] ++ enc b.length ++ enc b.length).length + b.length ≤ 140737488355328 := by simp; omega
      go_wp2_with (first
        | (at_builtin; refine wpList_app rfl (.tmp 37) (.tmp 41) rfl rfl hO4 rfl hb4 hl4 hB4 ?_; intro v5 u5 hO5 hG5; have hBel5 := hO4.below hBel4 hG5 hB4; have hB5 : B0 ≤ u5.heap.size := Nat.le_trans hB4 hG5.size; have hb5 := HSx.out u5 hBel5 hB5)
        | (at_builtin; refine wpList_app rfl (.tmp 43) (.tmp 44) rfl rfl hO5 rfl hb5 hl5 hB5 ?_; intro v6 u6 hO6 hG6; have hBel6 := hO5.below hBel5 hG6 hB5))
      clear hO4 hBel4 hG5 hb4 hl4 hB4
      obtain ⟨A6, c6, rfl, h6c, h6m, hb6⟩ := hO6.form
      have C7 := refCrcPut_any A6 _ c6 _ u6 (by simp; omega) hb6
      have hB6 : B0 ≤ u6.heap.size := Nat.le_trans hB5 hG6.size
      clear hO5 hBel5 hG6 hb5 hl5 hB5 hO6 hb6
      refine C7.mono ?_
      rintro e u7 ⟨v7, rfl, hO7, hE7⟩
      go_wp2
      go_ret2
      have hFu : Ext w u6 := Below.trans hF0 (Below.mono hBel6 (by rw [HB0.out]; exact hWn))
      exact ⟨_, rfl, hO7.mono hFu.le, hFu.trans hE7⟩
    | false =>
      have hnb : ¬ ((squeeze b).length : Int) < (b.length : Int) := by unfold useS at hu; simp at hu; omega
      have hLn2 := hLn
      have CF := refFind_any A b.length c b w (by omega) HB.out
      clear hLn
      go_enter Tryz.func6, Tryz.ntmps6
      go_wp2_with fail
      refine CF.mono ?_
      rintro e x1 ⟨y1, rfl, hT1, hX1⟩
      obtain ⟨At, ct, rfl, htc, htm, ht⟩ := hT1.at (fun t ht => toks_ok b 0 t ht)
      have htl := toks_len b 0
      have CW := refWrite11_any At (toks b 0).length ct (toks b 0) x1 (by omega) ht (fun often limit A n c W hE => hLn2 often limit A n c W (hX1.trans hE))
      rw [write_toks (by omega)] at CW
      clear CF hT1 ht hLn2
      generalize (toks b 0).length = tl at *
      go_wp2_with fail
      refine CW.mono ?_
      rintro e x2 ⟨y2, sq, rfl, hO2, hp2, _, hX2⟩
      obtain rfl := (hp2 rfl).is
      have hsq : Bit.pack (writeB (toks b 0)) = squeeze b := rfl
      rw [hsq] at hO2
      obtain ⟨As, cs, rfl, _, _, hs⟩ := hO2.form
      have hF0 := hX1.trans hX2
      clear CW hO2 hp2 hX1 hX2 hsq
      have hS0 := hF0.bytes HB.out
      clear hs hu
      generalize (squeeze b).length = sl at *
      go_wp2_with fail
      have hO1 := OwnB.lit x2 #[.int .u8 0] [UInt8.ofNat 0] 1 rfl rfl (by omega) (base := x2.heap.size) (Nat.le_refl _)
      have hE1 := extNew x2 (.cells #[.int .u8 0] 5)
      have C1 := refNum_any b.length (x2.alloc (.cells #[.int .u8 0] 5)) (by omega)
      have hWn := hF0.le
      obtain ⟨B0, hB0⟩ : ∃ k, k = x2.heap.size := ⟨_, rfl⟩
      have HB0 := hide hB0
      rw [← hB0] at hO1
      have hBel1 : Below B0 x2 (x2.alloc (.cells #[.int .u8 0] 5)) := by rw [hB0]; exact hE1
      have hB1 : B0 ≤ (x2.alloc (.cells #[.int .u8 0] 5)).heap.size := by rw [hB0]; exact hE1.le
      clear hE1 hB0
      generalize x2.alloc (.cells #[.int .u8 0] 5) = u1 at *
      go_wp2_with fail
      refine C1.mono ?_
      rintro e u2 ⟨v2, rfl, hV2, hE2⟩
      obtain ⟨A2, c2, rfl, _, _, hb2⟩ := hV2.form
      have hO2 := hO1.ext hE2
      have hBel2 := hBel1.trans (Below.mono hE2 hB1)
      have hB2 : B0 ≤ u2.heap.size := Nat.le_trans hB1 hE2.le
      have hel := enc_len b.length
      have hl2 : [UInt8.ofNat 0].length + (enc b.length).length ≤ 140737488355328 := by simp; omega
      clear C1 hO1 hE2 hBel1 hB1 hV2
      go_wp2_with (at_builtin; refine wpList_app rfl (.tmp 31) (.tmp 35) rfl (by rw [HB0.out]; rfl) hO2 rfl hb2 hl2 hB2 ?_; intro v3 u3 hO3 hG3; have hBel3 := hO2.below hBel2 hG3 hB2)
      have C4 := refNum_any b.length u3 (by omega)
      have hB3 : B0 ≤ u3.heap.size := Nat.le_trans hB2 hG3.size
      clear hO2 hBel2 hG3 hb2 hl2 hB2
      go_wp2_with fail
      refine C4.mono ?_
      rintro e u4 ⟨v4, rfl, hV4, hE4⟩
      obtain ⟨A4, c4, rfl, _, _, hb4⟩ := hV4.form
      have hO4 := hO3.ext hE4
      have hBel4 := hBel3.trans (Below.mono hE4 hB3)
      have hB4 : B0 ≤ u4.heap.size := Nat.le_trans hB3 hE4.le
      have hel2 := enc_len b.length
      have hl4 : ([UInt8.ofNat 0] ++ enc b.length).length + (enc b.length).length ≤ 140737488355328 := by simp; omega
      clear C4 hO3 hE4 hBel3 hB3 hV4
      have hSx : ∀ W', Below B0 x2 W' → B0 ≤ W'.heap.size → Bytes W' W'.heap.size A b.length b := fun W' h1 h2 => (hS0.below h1 (by rw [HB0.out]; exact Nat.le_refl _)).mono (by rw [← HB0.out]; exact h2)
      have HSx := hide hSx
      clear hSx
      have hl5 : ([UInt8.ofNat 0] ++ enc b.length ++ enc b.length).length + b.length ≤ 140737488355328 := by simp; omega
      go_wp2_with (first
        | (at_builtin; refine wpList_app rfl (.tmp 37) (.tmp 41) rfl rfl hO4 rfl hb4 hl4 hB4 ?_; intro v5 u5 hO5 hG5; have hBel5 := hO4.below hBel4 hG5 hB4; have hB5 : B0 ≤ u5.heap.size := Nat.le_trans hB4 hG5.size; have hb5 := HSx.out u5 hBel5 hB5)
        | (at_builtin; refine wpList_app rfl (.tmp 43) (.tmp 44) rfl rfl hO5 rfl hb5 hl5 hB5 ?_; intro v6 u6 hO6 hG6; have hBel6 := hO5.below hBel5 hG6 hB5))
      clear hO4 hBel4 hG5 hb4 hl4 hB4
      obtain ⟨A6, c6, rfl, h6c, h6m, hb6⟩ := hO6.form
      have C7 := refCrcPut_any A6 _ c6 _ u6 (by simp; omega) hb6
      have hB6 : B0 ≤ u6.heap.size := Nat.le_trans hB5 hG6.size
      clear hO5 hBel5 hG6 hb5 hl5 hB5 hO6 hb6
      refine C7.mono ?_
      rintro e u7 ⟨v7, rfl, hO7, hE7⟩
      go_wp2
      go_ret2
      have hFu : Ext w u6 := Below.trans hF0 (Below.mono hBel6 (by rw [HB0.out]; exact hWn))
      exact ⟨_, rfl, hO7.mono hFu.le, hFu.trans hE7⟩
  | true =>
    cases plain with
    | true => simp [useS] at hu
    | false =>
      have HW := hide (show headB b false = [UInt8.ofNat 1] ++ enc b.length ++ enc (squeeze b).length by unfold headB wayOf bodyOf; rw [hu]; rfl)
      have HBd := hide (show bodyOf b false = squeeze b by unfold bodyOf; rw [hu]; rfl)
      rw [HW.out, HBd.out]
      clear HW HBd
      have hnb : ((squeeze b).length : Int) < (b.length : Int) := by unfold useS at hu; simp at hu; omega
      have hLn2 := hLn
      have CF := refFind_any A b.length c b w (by omega) HB.out
      clear hLn
      go_enter Tryz.func6, Tryz.ntmps6
      go_wp2_with fail
      refine CF.mono ?_
      rintro e x1 ⟨y1, rfl, hT1, hX1⟩
      obtain ⟨At, ct, rfl, htc, htm, ht⟩ := hT1.at (fun t ht => toks_ok b 0 t ht)
      have htl := toks_len b 0
      have CW := refWrite11_any At (toks b 0).length ct (toks b 0) x1 (by omega) ht (fun often limit A n c W hE => hLn2 often limit A n c W (hX1.trans hE))
      rw [write_toks (by omega)] at CW
      clear CF hT1 ht hLn2
      generalize (toks b 0).length = tl at *
      go_wp2_with fail
      refine CW.mono ?_
      rintro e x2 ⟨y2, sq, rfl, hO2, hp2, _, hX2⟩
      obtain rfl := (hp2 rfl).is
      have hsq : Bit.pack (writeB (toks b 0)) = squeeze b := rfl
      rw [hsq] at hO2
      obtain ⟨As, cs, rfl, _, _, hs⟩ := hO2.form
      have hF0 := hX1.trans hX2
      clear CW hO2 hp2 hX1 hX2 hsq
      have hS0 := hs
      clear hs hu
      have hsl : (squeeze b).length ≤ 32768 := by omega
      go_wp2_with fail
      have hO1 := OwnB.lit x2 #[.int .u8 1] [UInt8.ofNat 1] 1 rfl rfl (by omega) (base := x2.heap.size) (Nat.le_refl _)
      have hE1 := extNew x2 (.cells #[.int .u8 1] 5)
      have C1 := refNum_any b.length (x2.alloc (.cells #[.int .u8 1] 5)) (by omega)
      have hWn := hF0.le
      obtain ⟨B0, hB0⟩ : ∃ k, k = x2.heap.size := ⟨_, rfl⟩
      have HB0 := hide hB0
      rw [← hB0] at hO1
      have hBel1 : Below B0 x2 (x2.alloc (.cells #[.int .u8 1] 5)) := by rw [hB0]; exact hE1
      have hB1 : B0 ≤ (x2.alloc (.cells #[.int .u8 1] 5)).heap.size := by rw [hB0]; exact hE1.le
      clear hE1 hB0
      generalize x2.alloc (.cells #[.int .u8 1] 5) = u1 at *
      go_wp2_with fail
      refine C1.mono ?_
      rintro e u2 ⟨v2, rfl, hV2, hE2⟩
      obtain ⟨A2, c2, rfl, _, _, hb2⟩ := hV2.form
      have hO2 := hO1.ext hE2
      have hBel2 := hBel1.trans (Below.mono hE2 hB1)
      have hB2 : B0 ≤ u2.heap.size := Nat.le_trans hB1 hE2.le
      have hel := enc_len b.length
      have hl2 : [UInt8.ofNat 1].length + (enc b.length).length ≤ 140737488355328 := by simp; omega
      clear C1 hO1 hE2 hBel1 hB1 hV2
      go_wp2_with (at_builtin; refine wpList_app rfl (.tmp 31) (.tmp 35) rfl (by rw [HB0.out]; rfl) hO2 rfl hb2 hl2 hB2 ?_; intro v3 u3 hO3 hG3; have hBel3 := hO2.below hBel2 hG3 hB2)
      have C4 := refNum_any (squeeze b).length u3 (by omega)
      have hB3 : B0 ≤ u3.heap.size := Nat.le_trans hB2 hG3.size
      clear hO2 hBel2 hG3 hb2 hl2 hB2
      go_wp2_with fail
      refine C4.mono ?_
      rintro e u4 ⟨v4, rfl, hV4, hE4⟩
      obtain ⟨A4, c4, rfl, _, _, hb4⟩ := hV4.form
      have hO4 := hO3.ext hE4
      have hBel4 := hBel3.trans (Below.mono hE4 hB3)
      have hB4 : B0 ≤ u4.heap.size := Nat.le_trans hB3 hE4.le
      have hel2 := enc_len (squeeze b).length
      have hl4 : ([UInt8.ofNat 1] ++ enc b.length).length + (enc (squeeze b).length).length ≤ 140737488355328 := by simp; omega
      clear C4 hO3 hE4 hBel3 hB3 hV4
      have hSx : ∀ W', Below B0 x2 W' → B0 ≤ W'.heap.size → Bytes W' W'.heap.size As (squeeze b).length (squeeze b) := fun W' h1 h2 => (hS0.below h1 (by rw [HB0.out]; exact Nat.le_refl _)).mono (by rw [← HB0.out]; exact h2)
      have HSx := hide hSx
      clear hSx
      have hl5 : ([UInt8.ofNat 1] ++ enc b.length ++ enc (squeeze b).length).length + (squeeze b).length ≤ 140737488355328 := by simp; omega
      go_wp2_with (first
        | (at_builtin; refine wpList_app rfl (.tmp 37) (.tmp 41) rfl rfl hO4 rfl hb4 hl4 hB4 ?_; intro v5 u5 hO5 hG5; have hBel5 := hO4.below hBel4 hG5 hB4; have hB5 : B0 ≤ u5.heap.size := Nat.le_trans hB4 hG5.size; have hb5 := HSx.out u5 hBel5 hB5)
        | (at_builtin; refine wpList_app rfl (.tmp 43) (.tmp 44) rfl rfl hO5 rfl hb5 hl5 hB5 ?_; intro v6 u6 hO6 hG6; have hBel6 := hO5.below hBel5 hG6 hB5))
      clear hO4 hBel4 hG5 hb4 hl4 hB4
      obtain ⟨A6, c6, rfl, h6c, h6m, hb6⟩ := hO6.form
      have C7 := refCrcPut_any A6 _ c6 _ u6 (by simp; omega) hb6
      have hB6 : B0 ≤ u6.heap.size := Nat.le_trans hB5 hG6.size
      clear hO5 hBel5 hG6 hb5 hl5 hB5 hO6 hb6
      refine C7.mono ?_
      rintro e u7 ⟨v7, rfl, hO7, hE7⟩
      go_wp2
      go_ret2
      have hFu : Ext w u6 := Below.trans hF0 (Below.mono hBel6 (by rw [HB0.out]; exact hWn))
      exact ⟨_, rfl, hO7.mono hFu.le, hFu.trans hE7⟩
end Go.Proofs.YthpbckignppaiaaGreatDoor

namespace Go.Proofs.YthpbckignppaiaaGreatDoor
open Go.RowKit Num Blk Lz Tok
def BWriteC (w : World) : Prop := ∀ (b : List UInt8) (plain : Bool) (A : Option Addr) (n c : Nat) (W : World), Ext w W → n ≤ c → c ≤ maxLen → Bytes W W.heap.size A n b → Calls Tryz.prog 5 #[.slice A n c, .bool plain] W (MadeE W (writeF b plain).1 (writeF b plain).2)
theorem Can.wbits_min : ∀ l : List UInt8, l.length ≤ 16 * (Can.wbits l).length
  | [] => by rw [Can.wbits_nil]; simp
  | x :: r => by
    by_cases h : x = 0
    · subst h
      have h1 := Can.wbits_min (r.drop (Can.zrun 63 r))
      have h2 := (Can.zrun_le 63 r).1
      rw [Can.wbits_zero, List.length_append, List.length_append, Bit.num_length, Bit.num_length]
      rw [List.length_drop] at h1
      simp only [List.length_cons]
      omega
    · have h1 := Can.wbits_min r
      rw [Can.wbits_used r h, List.length_append, Bit.num_length]
      simp only [List.length_cons]
      omega
termination_by l => l.length
decreasing_by all_goals (simp; try omega)
theorem Blk.squeeze_min (b : List UInt8) : 3 ≤ (squeeze b).length := by
  unfold squeeze
  rw [Bit.pack_len]
  have h1 := Can.wbits_min (bestS (toks b 0))
  rw [bestS_len] at h1
  have h2 : (Can.wbits (bestS (toks b 0))).length ≤ (writeB (toks b 0)).length := by
    unfold writeB
    simp only [List.length_append]
    omega
  omega
theorem Blk.example : writeF [97, 98] false = (Crc.put [0, 2, 2, 97, 98], 0) := by
  have h := squeeze_min [97, 98]
  have hu : useS [97, 98] false = false := by
    unfold useS
    simp only [Bool.not_false, Bool.true_and, decide_eq_false_iff_not]
    simp only [List.length_cons, List.length_nil]
    omega
  unfold writeF frame headB wayOf bodyOf
  rw [hu]
  rfl
set_option maxHeartbeats 2000000 in
set_option maxRecDepth 100000 in
theorem alive12_any {w W : World} (hB : BWriteC w) (hE : Ext w W) : Calls Tryz.prog 4 #[] W fun e W' => e = .returned (.bool true) ∧ Ext W W' := by
  have kc := fun (w : World) (C : Array Value) (n c : Nat) => Lib.run_convert_bytes_const (P := Tryz.prog) w 22 5 C n c Tryz.underlying22 Tryz.underlying5
  have hE1 := extNew W (.cells #[.int .u8 97, .int .u8 98] 5 (2, 3))
  have hb1 := bytesNew W [97, 98] #[.int .u8 97, .int .u8 98] 5 (2, 3) rfl 2 rfl
  have C := hB [97, 98] false _ 2 2 _ (hE.trans hE1) (Nat.le_refl _) (by unfold maxLen; omega) hb1
  rw [Blk.example] at C
  unfold MadeE at C
  dsimp only at C
  have CP := fun W2 => refCrcPut_any (some ⟨World.heap W2 |>.size, 0, none⟩) 5 5 [0, 2, 2, 97, 98] (W2.alloc (.cells #[.int .u8 0, .int .u8 2, .int .u8 2, .int .u8 97, .int .u8 98] 5)) (by omega) (bytesNew W2 [0, 2, 2, 97, 98] _ 5 (0, 0) rfl 5 rfl)
  generalize Crc.put [0, 2, 2, 97, 98] = x at *
  clear hb1 hB
  go_enter Tryz.func4, Tryz.ntmps4
  go_wp2_with fail
  refine C.mono ?_
  rintro e w2 ⟨v2, rfl, hO2, hE2⟩
  have hF2 := hE1.trans hE2
  have CP2 := CP w2
  clear C CP kc
  go_wp2_with fail
  refine CP2.mono ?_
  rintro e w4 ⟨v4, rfl, hO4, hE4⟩
  have hF4 := (hF2.alloc (.cells #[.int .u8 0, .int .u8 2, .int .u8 2, .int .u8 97, .int .u8 98] 5)).trans hE4
  obtain ⟨A2, c2, rfl, _, _, h2⟩ := (hO2.ext ((extNew w2 (.cells #[.int .u8 0, .int .u8 2, .int .u8 2, .int .u8 97, .int .u8 98] 5)).trans hE4)).form
  obtain ⟨A4, c4, rfl, _, _, h4⟩ := hO4.form
  have CS := same_any _ _ _ _ c2 c4 _ _ _ h2 h4
  rw [sameB_true rfl] at CS
  clear CP2 hO2 hO4 h2 h4
  generalize x.length = k at *
  go_wp2_with fail
  refine CS.mono ?_
  rintro e w5 ⟨rfl, hE5⟩
  go_wp2
  go_ret
  exact ⟨rfl, hF4.trans hE5⟩
set_option maxHeartbeats 2000000 in
set_option maxRecDepth 100000 in
theorem blockWrites_walk0 (plain : Bool) (A : Option Addr) (n c : Nat) (b : List UInt8) (w : World) (hB : BWriteC w) (hLn : RefLensC w) (hn : n ≤ c) (hc : c ≤ maxLen) (h : Bytes w w.heap.size A n b) :
    Calls Tryz.prog 3 #[.slice A n c, .bool plain] w fun e w' => e = .returned (.bool true) ∧ Ext w w' := by
  have C0 := alive12_any hB (Ext.refl w)
  by_cases hmid : 1000 < n ∧ n ≤ 32768
  · obtain ⟨m1, m2⟩ := hmid
    have hbI : (1000 : Int) < (n : Int) := by omega
    have hbI2 : (n : Int) ≤ 32768 := by omega
    go_enter Tryz.func3, Tryz.ntmps3
    go_wp2_with fail
    refine C0.mono ?_
    rintro e w1 ⟨rfl, hE1⟩
    go_wp2
    go_ret
    exact ⟨rfl, hE1⟩
  have H := hide h
  have HB := hide hB
  have HLn := hide hLn
  clear h hB hLn
  by_cases hbig : 1000 < n
  all_goals (
    first
      | have hbI : (1000 : Int) < (n : Int) := by omega
      | have hbI : ¬ (1000 : Int) < (n : Int) := by omega
    have hbI2 : 1000 < n → ¬ (n : Int) ≤ 32768 := fun h => by omega
    try have hbI3 := hbI2 hbig
    clear hbI2 hmid
    go_enter Tryz.func3, Tryz.ntmps3
    go_wp2_with fail
    refine C0.mono ?_
    rintro e w1 ⟨rfl, hE1⟩
    have C1 := HB.out b plain A n c w1 hE1 hn hc (hE1.bytes H.out)
    clear C0
    go_wp2_with fail
    refine C1.mono ?_
    rintro e w2 ⟨v2, rfl, hO2, hE2⟩
    have hF2 := hE1.trans hE2
    have C2 := refBWrite_any A n c b plain w2 (hF2.bytes H.out) (fun often limit A n c W hE => HLn.out often limit A n c W (hF2.trans hE))
    clear C1
    generalize writeF b plain = res at *
    go_wp2_with fail
    refine C2.mono ?_
    rintro e w3 ⟨v3, rfl, hO3, hE3⟩
    have hF3 := hF2.trans hE3
    obtain ⟨A4, c4, rfl, _, _, h4⟩ := (hO2.ext hE3).form
    obtain ⟨A5, c5, rfl, _, _, h5⟩ := hO3.form
    have CS := same_any _ _ _ _ c4 c5 _ _ _ h4 h5
    rw [sameB_true rfl] at CS
    have heb : (res.2 == res.2) = true := by simp
    clear C2 hO2 hO3 h4 h5
    generalize res.2 = er at *
    generalize res.1.length = k2 at *
    go_wp2_with fail
    refine CS.mono ?_
    rintro e w4 ⟨rfl, hE4⟩
    go_wp2
    go_ret
    exact ⟨rfl, hF3.trans hE4⟩)
end Go.Proofs.YthpbckignppaiaaGreatDoor

namespace Go.Proofs.YthpbckignppaiaaGreatDoor.Lz
def three (b : List UInt8) (p : Nat) : UInt8 × UInt8 × UInt8 := (b.getD p 0, b.getD (p + 1) 0, b.getD (p + 2) 0)
def lastOf (b : List UInt8) (k : UInt8 × UInt8 × UInt8) : Nat → Option Nat
  | 0 => none
  | q + 1 => if three b q = k then some q else lastOf b k q
theorem lastOf_some {b : List UInt8} {k : UInt8 × UInt8 × UInt8} : ∀ {n q : Nat}, lastOf b k n = some q → q < n ∧ three b q = k ∧ ∀ r, q < r → r < n → three b r ≠ k
  | 0, q, h => by cases h
  | n + 1, q, h => by
    rw [lastOf] at h
    split at h
    · rename_i hk
      injection h with h
      subst h
      exact ⟨by omega, hk, fun r h1 h2 => by omega⟩
    · rename_i hk
      obtain ⟨h1, h2, h3⟩ := lastOf_some h
      refine ⟨by omega, h2, fun r hr1 hr2 => ?_⟩
      by_cases e : r = n
      · rw [e]; exact hk
      · exact h3 r hr1 (by omega)
theorem lastOf_none {b : List UInt8} {k : UInt8 × UInt8 × UInt8} : ∀ {n : Nat}, lastOf b k n = none → ∀ r, r < n → three b r ≠ k
  | 0, _, r, hr => by omega
  | n + 1, h, r, hr => by
    rw [lastOf] at h
    split at h
    · cases h
    · rename_i hk
      by_cases e : r = n
      · rw [e]; exact hk
      · exact lastOf_none h r (by omega)
def backAt (b : List UInt8) (p : Nat) : Nat := if p + 3 ≤ b.length then (match lastOf b (three b p) p with | some q => if p - q ≤ 4095 then p - q else 0 | none => 0) else 0
theorem back_off {b : List UInt8} {p : Nat} (h : ¬ p + 3 ≤ b.length) : backAt b p = 0 := if_neg h
theorem back_some {b : List UInt8} {p q : Nat} (h : p + 3 ≤ b.length) (hq : lastOf b (three b p) p = some q) : backAt b p = if p - q ≤ 4095 then p - q else 0 := by unfold backAt; rw [if_pos h, hq]
theorem back_none {b : List UInt8} {p : Nat} (h : p + 3 ≤ b.length) (hq : lastOf b (three b p) p = none) : backAt b p = 0 := by unfold backAt; rw [if_pos h, hq]
theorem back_pos {b : List UInt8} {p : Nat} (h : 0 < backAt b p) : p + 3 ≤ b.length ∧ backAt b p ≤ 4095 ∧ backAt b p ≤ p ∧ three b (p - backAt b p) = three b p ∧ ∀ r, p - backAt b p < r → r < p → three b r ≠ three b p := by
  by_cases hp : p + 3 ≤ b.length
  · cases hq : lastOf b (three b p) p with
    | none => rw [back_none hp hq] at h; omega
    | some q =>
      have e := back_some hp hq
      obtain ⟨h1, h2, h3⟩ := lastOf_some hq
      by_cases h4 : p - q ≤ 4095
      · rw [if_pos h4] at e
        rw [e, show p - (p - q) = q by omega]
        exact ⟨hp, h4, by omega, h2, h3⟩
      · rw [if_neg h4] at e
        omega
  · rw [back_off hp] at h; omega
theorem back_zero {b : List UInt8} {p : Nat} (h : backAt b p = 0) (hp : p + 3 ≤ b.length) : ∀ r, r < p → p - r ≤ 4095 → three b r ≠ three b p := by
  intro r hr h4
  cases hq : lastOf b (three b p) p with
  | none => exact lastOf_none hq r hr
  | some q =>
    have e := back_some hp hq
    obtain ⟨h1, h2, h3⟩ := lastOf_some hq
    by_cases h5 : p - q ≤ 4095
    · rw [if_pos h5] at e; omega
    · exact h3 r (by omega) hr
theorem back_le (b : List UInt8) (p : Nat) : backAt b p ≤ 4095 := by
  rcases Nat.eq_zero_or_pos (backAt b p) with h | h
  · omega
  · exact (back_pos h).2.1
def trailN (b : List UInt8) (i : Nat) : List Nat := (List.range b.length).map fun p => if p < i then backAt b p else 0
theorem trail_len (b : List UInt8) (i : Nat) : (trailN b i).length = b.length := by simp [trailN]
theorem trail_zero (b : List UInt8) : trailN b 0 = List.replicate b.length 0 := by
  apply List.ext_getElem
  · simp [trailN]
  · intro i h1 h2
    simp [trailN]
theorem trail_set (b : List UInt8) (i : Nat) : (trailN b i).set i (backAt b i) = trailN b (i + 1) := by
  apply List.ext_getElem
  · simp [trailN]
  · intro j h1 h2
    rw [List.getElem_set]
    simp only [trailN, List.getElem_map, List.getElem_range]
    by_cases e : i = j
    · rw [if_pos e, if_pos (by omega), e]
    · rw [if_neg e]
      by_cases hj : j < i
      · rw [if_pos hj, if_pos (by omega)]
      · rw [if_neg hj, if_neg (by omega)]
theorem trail_same {b : List UInt8} {i : Nat} (h : backAt b i = 0) : trailN b i = trailN b (i + 1) := by
  apply List.ext_getElem
  · simp [trailN]
  · intro j h1 h2
    simp only [trailN, List.getElem_map, List.getElem_range]
    by_cases hj : j < i
    · rw [if_pos hj, if_pos (by omega)]
    · rw [if_neg hj]
      by_cases e : j = i
      · rw [if_pos (by omega), e, h]
      · rw [if_neg (by omega)]
theorem trail_all {b : List UInt8} {i : Nat} (h : b.length ≤ i + 2) : trailN b i = (List.range b.length).map (backAt b) := by
  apply List.ext_getElem
  · simp [trailN]
  · intro j h1 h2
    simp only [trailN, List.getElem_map, List.getElem_range]
    by_cases hj : j < i
    · rw [if_pos hj]
    · rw [if_neg hj, back_off (by omega)]
def longV (r : Nat × Nat) : Nat := if 3 ≤ r.1 then r.1 else 2
def tokR (b : List UInt8) (q : Nat) (r : Nat × Nat) : TokV := if 3 ≤ r.1 then ⟨0, r.1, r.2⟩ else ⟨b.getD q 0, 0, 0⟩
theorem tokAt_eq (b : List UInt8) (q : Nat) : tokAt b q = tokR b q (best b q (min 4095 q)) := rfl
theorem best_mono (b : List UInt8) (q : Nat) : ∀ {m n : Nat}, m ≤ n → (best b q m).1 ≤ (best b q n).1 := by
  intro m n h
  induction h with
  | refl => exact Nat.le_refl _
  | @step k _ ih =>
    rw [best]
    split
    · dsimp only; omega
    · exact ih
theorem best_skip {b : List UInt8} {q m n : Nat} (hmn : m ≤ n) (h : ∀ d, m < d → d ≤ n → run b q d < 3 ∨ run b q d ≤ (best b q m).1) : longV (best b q n) = longV (best b q m) ∧ tokR b q (best b q n) = tokR b q (best b q m) := by
  induction hmn with
  | refl => exact ⟨rfl, rfl⟩
  | @step k hk ih =>
    obtain ⟨i1, i2⟩ := ih fun d h1 h2 => h d h1 (by omega)
    rw [best]
    split
    · rename_i hlt
      rcases h (k + 1) (Nat.lt_succ_of_le hk) (Nat.le_refl _) with h3 | h3
      · have e1 : longV (run b q (k + 1), k + 1) = longV (best b q k) := by
          unfold longV; rw [if_neg (by dsimp only; omega), if_neg (show ¬ 3 ≤ (best b q k).1 by omega)]
        have e2 : tokR b q (run b q (k + 1), k + 1) = tokR b q (best b q k) := by
          unfold tokR; rw [if_neg (by dsimp only; omega), if_neg (show ¬ 3 ≤ (best b q k).1 by omega)]
        exact ⟨e1.trans i1, e2.trans i2⟩
      · have := best_mono b q hk
        omega
    · exact ⟨i1, i2⟩
theorem long_ge (r : Nat × Nat) : 2 ≤ longV r ∧ r.1 ≤ longV r := by unfold longV; split <;> omega
theorem long_or {r : Nat × Nat} {x : Nat} (h : x ≤ longV r) : x < 3 ∨ x ≤ r.1 := by unfold longV at h; split at h <;> omega
theorem best_take {b : List UInt8} {q m : Nat} (h : longV (best b q m) < run b q (m + 1)) : best b q (m + 1) = (run b q (m + 1), m + 1) := by
  rw [best, if_pos]
  have := long_ge (best b q m)
  omega
theorem run_three {b : List UInt8} {q d : Nat} (hd : d ≤ q) (h : 3 ≤ run b q d) : q + 3 ≤ b.length ∧ three b (q - d) = three b q := by
  have h0 := run_same (b := b) (p := q) (d := d) (j := 0) (by omega)
  have h1 := run_same (b := b) (p := q) (d := d) (j := 1) (by omega)
  have h2 := run_same (b := b) (p := q) (d := d) (j := 2) (by omega)
  refine ⟨by omega, ?_⟩
  unfold three
  rw [show q - d + 1 = q + 1 - d by omega, show q - d + 2 = q + 2 - d by omega, h1.2, h2.2]
  have := h0.2
  rw [Nat.add_zero] at this
  rw [this]
section
variable {b : List UInt8} {q m : Nat}
theorem not_three {d : Nat} (hd : d ≤ q) (h : three b (q - d) ≠ three b q) : run b q d < 3 := by
  refine Classical.byContradiction fun hc => h (run_three hd (by omega)).2
theorem between (h3 : three b (q - m) = three b q) (hm : m ≤ q) (hp : 0 < backAt b (q - m)) {d : Nat} (h1 : m < d) (h2 : d < m + backAt b (q - m)) : run b q d < 3 := by
  obtain ⟨_, _, hle, _, hno⟩ := back_pos hp
  refine not_three (by omega) ?_
  rw [← h3]
  exact hno (q - d) (by omega) (by omega)
theorem end_zero (h3 : three b (q - m) = three b q) (hm : m ≤ min 4095 q) (hp : backAt b (q - m) = 0) : tokR b q (best b q m) = tokAt b q := by
  rw [tokAt_eq]
  refine ((best_skip hm fun d h1 h2 => .inl ?_).2).symm
  refine Classical.byContradiction fun hc => ?_
  obtain ⟨hl, he⟩ := run_three (b := b) (q := q) (d := d) (by omega) (by omega)
  exact back_zero hp (by omega) (q - d) (by omega) (by omega) (by rw [he, h3])
theorem end_far (h3 : three b (q - m) = three b q) (hm : m ≤ min 4095 q) (hp : 0 < backAt b (q - m)) (hf : 4095 < m + backAt b (q - m)) : tokR b q (best b q m) = tokAt b q := by
  rw [tokAt_eq]
  exact ((best_skip hm fun d h1 h2 => .inl (between h3 (by omega) hp h1 (by omega))).2).symm
theorem run_most (d : Nat) (hq : q < b.length) : run b q d ≤ min 257 (b.length - q) := by
  have h1 := run_le (b := b) (p := q) (d := d)
  rcases Nat.eq_zero_or_pos (run b q d) with h | h
  · omega
  · have := run_end h
    omega
theorem end_most (hq : q < b.length) (hm : m ≤ min 4095 q) (h : min 257 (b.length - q) ≤ longV (best b q m)) : tokR b q (best b q m) = tokAt b q := by
  rw [tokAt_eq]
  exact ((best_skip hm fun d _ _ => long_or (Nat.le_trans (run_most d hq) h)).2).symm
theorem next_less (h3 : three b (q - m) = three b q) (hm : m ≤ q) (hp : 0 < backAt b (q - m)) (hr : run b q (m + backAt b (q - m)) ≤ longV (best b q m)) :
    longV (best b q (m + backAt b (q - m))) = longV (best b q m) ∧ tokR b q (best b q (m + backAt b (q - m))) = tokR b q (best b q m) := by
  refine best_skip (by omega) fun d h1 h2 => ?_
  by_cases e : d = m + backAt b (q - m)
  · rw [e]; exact long_or hr
  · exact .inl (between h3 hm hp h1 (by omega))
theorem next_more (h3 : three b (q - m) = three b q) (hm : m ≤ q) (hp : 0 < backAt b (q - m)) (hr : longV (best b q m) < run b q (m + backAt b (q - m))) :
    best b q (m + backAt b (q - m)) = (run b q (m + backAt b (q - m)), m + backAt b (q - m)) := by
  obtain ⟨g, hg⟩ : ∃ g, backAt b (q - m) = g + 1 := ⟨backAt b (q - m) - 1, by omega⟩
  have e := (best_skip (b := b) (q := q) (m := m) (n := m + g) (by omega) fun d h1 h2 => .inl (between h3 hm hp h1 (by omega))).1
  rw [hg, ← Nat.add_assoc] at hr ⊢
  exact best_take (by rw [e]; exact hr)
theorem next_three (h3 : three b (q - m) = three b q) (hp : 0 < backAt b (q - m)) : three b (q - (m + backAt b (q - m))) = three b q := by
  obtain ⟨_, _, hle, he, _⟩ := back_pos hp
  rw [show q - (m + backAt b (q - m)) = q - m - backAt b (q - m) by omega, he, h3]
theorem run_from {d : Nat} : ∀ {k : Nat}, k ≤ 257 → (∀ j, j < k → q + j < b.length ∧ b.getD (q + j - d) 0 = b.getD (q + j) 0) → runF b q d (257 - k) k = run b q d
  | 0, _, _ => rfl
  | k + 1, h1, h2 => by
    rw [← run_from (k := k) (by omega) fun j hj => h2 j (by omega), show 257 - k = 257 - (k + 1) + 1 by omega, runF, if_pos (h2 k (by omega))]
theorem run_cut {d n : Nat} (hn : n = min 257 (b.length - q)) : ∀ (f k : Nat), k + f = n → runF b q d f k = runF b q d (257 - k) k
  | 0, k, h => by
    rw [runF]
    by_cases e : k = 257
    · rw [e]; rfl
    · rw [show 257 - k = 256 - k + 1 by omega, runF, if_neg (by omega)]
  | f + 1, k, h => by
    rw [show 257 - k = 256 - k + 1 by omega, runF, runF]
    split
    · rw [run_cut hn f (k + 1) (by omega), show 257 - (k + 1) = 256 - k by omega]
    · rfl
theorem longer_iff {d k : Nat} (hd : d ≤ q) (hk : k < min 257 (b.length - q)) : (decide (b.getD (q - d + k) 0 = b.getD (q + k) 0) && decide ((b.drop (q - d)).take k = (b.drop q).take k)) = decide (k < run b q d) := by
  rw [Bool.eq_iff_iff]
  simp only [Bool.and_eq_true, decide_eq_true_eq]
  constructor
  · rintro ⟨h1, h2⟩
    refine run_all (n := k + 1) (by omega) fun j hj => ⟨by omega, ?_⟩
    rw [show q + j - d = q - d + j by omega]
    by_cases e : j = k
    · rw [e]; exact h1
    · have := congrArg (fun l => l.getD j 0) h2
      simp only [List.getD_eq_getElem?_getD, List.getElem?_take, List.getElem?_drop, if_pos (show j < k by omega)] at this
      rw [List.getD_eq_getElem?_getD, List.getD_eq_getElem?_getD]
      exact this
  · intro h
    have hs := fun j (hj : j < run b q d) => (run_same (b := b) (p := q) (d := d) hj).2
    refine ⟨?_, ?_⟩
    · have := hs k h
      rwa [show q + k - d = q - d + k by omega] at this
    · apply List.ext_getElem
      · simp only [List.length_take, List.length_drop]; omega
      · intro j h1 h2
        simp only [List.length_take, List.length_drop] at h1 h2
        have := hs j (by omega)
        rw [show q + j - d = q - d + j by omega, List.getD_eq_getElem?_getD, List.getD_eq_getElem?_getD, List.getElem?_eq_getElem (by omega), List.getElem?_eq_getElem (by omega)] at this
        simp only [List.getElem_take, List.getElem_drop]
        simpa using this
end
end Go.Proofs.YthpbckignppaiaaGreatDoor.Lz

namespace Go.Proofs.YthpbckignppaiaaGreatDoor
open Go.RowKit Lz
open Go.WideMaps (ArrKey)
def keyV (k : UInt8 × UInt8 × UInt8) : Value := .agg #[.int .u8 (k.1.toNat : Int), .int .u8 (k.2.1.toNat : Int), .int .u8 (k.2.2.toNat : Int)]
def keyL (k : UInt8 × UInt8 × UInt8) : Lit := .string (keyBytes [.int .u8 (k.1.toNat : Int), .int .u8 (k.2.1.toNat : Int), .int .u8 (k.2.2.toNat : Int)])
theorem three_arr : ArrKey Tryz.prog 102 5 3 := ⟨Tryz.underlying102, by kernel_rfl, by kernel_rfl, by kernel_rfl⟩
theorem three_law : Maps.Keyed Tryz.prog 102 := Maps.Keyed.of_law (deep_law_laid laidOut (m := 2) (by omega) (of_decide_eq_true (by kernel_rfl)) (by kernel_rfl) (by rw [Tryz.underlying102]))
theorem keyOf_three {P : Program} {k e : TypeId} {q : IntKind} (A : ArrKey P k e 3) (he : P.underlying e = some (.int q)) (hsz : ∃ m, P.types.size = m + 1) {a b c : Int} (wa : (Lit.int q a).wf = true) (wb : (Lit.int q b).wf = true) (wc : (Lit.int q c).wf = true) :
    keyOf P k (.agg #[.int q a, .int q b, .int q c]) = some (.string (keyBytes [.int q a, .int q b, .int q c])) := by
  have hkt := A.keyType hsz
  obtain ⟨m, hm⟩ := hsz
  unfold keyOf
  simp only [A.hu]
  rw [if_pos (by simp [hkt, Value.formed, A.hu, A.size]), hm]
  unfold Program.keyLits
  simp only [A.hu, Value.cells]
  rw [if_pos (by rw [A.size]; rfl), show List.range 3 = [0, 1, 2] from rfl, List.mapM_cons, List.mapM_cons, List.mapM_cons, List.mapM_nil]
  simp [A.one, Program.keyLits, he, wa, wb, wc]
theorem u8_wf (x : UInt8) : (Lit.int .u8 (x.toNat : Int)).wf = true := by
  have := UInt8.toNat_lt x
  have e1 : IntKind.u8.min = 0 := rfl
  have e2 : IntKind.u8.max = 255 := rfl
  simp [Lit.wf, e1, e2]
  omega
theorem key_of (k : UInt8 × UInt8 × UInt8) : keyOf Tryz.prog 102 (keyV k) = some (keyL k) :=
  keyOf_three three_arr Tryz.underlying5 ⟨Tryz.prog.types.size - 1, by kernel_rfl⟩ (u8_wf _) (u8_wf _) (u8_wf _)
theorem keyL_inj {a b : UInt8 × UInt8 × UInt8} (h : keyL a = keyL b) : a = b := by
  have h1 := key_of a
  rw [h] at h1
  have := three_law.inj h1 (key_of b)
  unfold keyV at this
  simp only [Value.agg.injEq, Array.mk.injEq, List.cons.injEq, Value.int.injEq, true_and, and_true] at this
  obtain ⟨x1, x2, x3⟩ := a
  obtain ⟨y1, y2, y3⟩ := b
  dsimp only at this
  obtain ⟨e1, e2, e3⟩ := this
  rw [UInt8.toNat_inj.1 (Int.ofNat.inj e1), UInt8.toNat_inj.1 (Int.ofNat.inj e2), UInt8.toNat_inj.1 (Int.ofNat.inj e3)]
def MapF (w : World) (m n : Nat) (f : UInt8 × UInt8 × UInt8 → Option Nat) : Prop :=
  ∃ D : DataW Unit, w.ownsMap Tryz.prog 102 (plainElem Tryz.prog 3) m n D ∧ ∀ k, Maps.has D (keyL k) = (f k).isSome ∧ ∀ p, f k = some p → ∀ z, D.atKey (keyL k) z = .lit (.int .i64 (p : Int))
theorem MapF.made (w : World) : MapF (w.alloc (.map #[] 0)) w.heap.size 0 (fun _ => none) :=
  ⟨_, World.ownsMap_made w _ _ _, fun _ => ⟨rfl, fun _ h => by cases h⟩⟩
theorem MapF.kept {w w' : World} {m n : Nat} {f : UInt8 × UInt8 × UInt8 → Option Nat} {row : Option Nat} (h : MapF w m n f) (hg : w.grownBy w' row) (hr : some m ≠ row) : MapF w' m n f := by
  obtain ⟨D, h1, h2⟩ := h
  exact ⟨D, h1.kept hg hr, h2⟩
theorem MapF.ext {w w' : World} {m n : Nat} {f : UInt8 × UInt8 × UInt8 → Option Nat} (h : MapF w m n f) (hE : Ext w w') : MapF w' m n f := h.kept (hE.grown none) (by simp)
theorem MapF.lt {w : World} {m n : Nat} {f : UInt8 × UInt8 × UInt8 → Option Nat} (h : MapF w m n f) : m < w.heap.size := by
  obtain ⟨D, h1, _⟩ := h
  exact h1.lt
section
variable {w : World} {ops : Array Oper} {rest : List Oper} {o : Oper} {a : Act} {Q : Exit → Act → World → Prop} {b n : Nat} {f : UInt8 × UInt8 × UInt8 → Option Nat}
theorem wpList_lookF (hg : o.guard = none) (m x : Operand) (hop : o.op = Op.lookup 100 m x true) (hm : a.eval m = .map (some b)) (hown : MapF w b n f) (k : UInt8 × UInt8 × UInt8) (hx : a.eval x = keyV k)
    (hK : ∀ c : Nat, (f k = none → c = 0) → (∀ p, f k = some p → c = p) → wpList Tryz.prog ops Q rest (a.put o.dst (.tuple #[.int .i64 (c : Int), .bool (f k).isSome])) w) : wpList Tryz.prog ops Q (o :: rest) a w := by
  obtain ⟨D, h1, h2⟩ := hown
  refine wpList_lookup_own_ok_int w hg m x 100 hop 102 3 .i64 three_law Tryz.underlying100 Tryz.underlying3 (by kernel_rfl) b n D hm h1 (keyV k) (keyL k) hx (key_of k) ?_
  intro c hc _
  obtain ⟨e1, e2⟩ := h2 k
  rw [e1]
  cases hf : f k with
  | none =>
    rw [hf] at e1
    have hz := Maps.atKey_of_not_has (D := D) (k := keyL k) e1 (.lit (.int .i64 0))
    rw [hz] at hc
    simp only [DataW.lit.injEq, Lit.int.injEq, true_and] at hc
    subst hc
    have := hK 0 (fun _ => rfl) (fun p hp => by rw [hf] at hp; cases hp)
    rw [hf] at this
    exact this
  | some p =>
    have hz := e2 p hf (.lit (.int .i64 0))
    rw [hz] at hc
    simp only [DataW.lit.injEq, Lit.int.injEq, true_and] at hc
    subst hc
    have := hK p (fun h => by rw [hf] at h; cases h) (fun p' hp => by rw [hf] at hp; injection hp)
    rw [hf] at this
    exact this
theorem wpList_putF (hg : o.guard = none) (m x v : Operand) (hop : o.op = Op.mapUpdate 100 m x v) (hm : a.eval m = .map (some b)) (hown : MapF w b n f) (hn : n ≤ 1000000) (k : UInt8 × UInt8 × UInt8) (hx : a.eval x = keyV k) (p : Nat) (hp : p ≤ 1000000) (hv : a.eval v = .int .i64 (p : Int))
    (hK : ∀ w', MapF w' b (n + 1) (fun k' => if k = k' then some p else f k') → w.grownBy w' (some b) → wpList Tryz.prog ops Q rest (a.put o.dst undef) w') : wpList Tryz.prog ops Q (o :: rest) a w := by
  obtain ⟨D, h1, h2⟩ := hown
  have hwf : (Lit.int .i64 (p : Int)).wf = true := by
    have e1 : IntKind.i64.min = -9223372036854775808 := rfl
    have e2 : IntKind.i64.max = 9223372036854775807 := rfl
    simp [Lit.wf, e1, e2]
    omega
  refine wpList_mapUpdate_own w hg m x v 100 hop 102 3 three_law Tryz.underlying100 _ b n D hm h1 (by unfold maxLen; omega) (keyV k) _ (keyL k) hx hv (key_of k) _ [] (plainElem_int Tryz.underlying3 hwf) ?_
  intro w' h3 hg3
  refine hK w' ⟨_, h3, fun k' => ?_⟩ hg3
  have hm1 := h1.isMap
  dsimp only
  by_cases e : k = k'
  · subst e
    rw [if_pos rfl]
    exact ⟨Maps.has_put_same hm1 (three_law.key (key_of k)) _, fun p' hp' z => by injection hp' with hp'; rw [← hp']; exact Maps.atKey_put_same hm1 (three_law.key (key_of k)) _ z⟩
  · rw [if_neg e]
    have hne : keyL k' ≠ keyL k := fun h => e (keyL_inj h).symm
    obtain ⟨e1, e2⟩ := h2 k'
    exact ⟨by rw [Maps.has_put_other hne]; exact e1, fun p' hp' z => by rw [Maps.atKey_put_other hne]; exact e2 p' hp' z⟩
theorem wpList_arrAt (hg : o.guard = none) (arr : TypeId) (x : Operand) (ho : o.op = .sliceToArrayPointer arr x) {N : Nat} {e : TypeId} (hu : Tryz.prog.underlying arr = some (.array N e)) {A : Option Addr} {m c : Nat} (hx : a.eval x = .slice A m c) (hn : N ≤ m)
    (h : wpList Tryz.prog ops Q rest (a.put o.dst (.pointer A)) w) : wpList Tryz.prog ops Q (o :: rest) a w := by
  refine wpList_plain hg fun _ hK => ?_
  unfold Oper.wp execOp
  simp only [ho, hx, Instr.arrayAt, run_underlying hu, Sem.run_bind, Sem.run_pure, Result.andThen_ok, if_neg (show ¬ m < N by omega)]
  exact hK _ _ h
end
end Go.Proofs.YthpbckignppaiaaGreatDoor

namespace Go.Proofs.YthpbckignppaiaaGreatDoor
open Go.RowKit Lz
set_option maxHeartbeats 1000000 in
set_option maxRecDepth 100000 in
theorem lzEqual_any (A B : Option Addr) (n m c d : Nat) (x y : List UInt8) (w : World) (hx : Bytes w w.heap.size A n x) (hy : Bytes w w.heap.size B m y) :
    Calls Tryz.prog 66 #[.slice A n c, .slice B m d] w fun e w' => e = .returned (.bool (decide (x = y))) ∧ w = w' := by
  have v1 := conv_bytes c hx (fun h => by subst h; rcases hx.2 with h | ⟨_, _, h, _⟩; exact h; cases h)
  have v2 := conv_bytes d hy (fun h => by subst h; rcases hy.2 with h | ⟨_, _, h, _⟩; exact h; cases h)
  clear hx hy
  go_enter Tryz.func66, Tryz.ntmps66
  go_wp2
  go_ret
  exact ⟨ret_bool (by rw [Bool.eq_iff_iff]; simp), rfl⟩
theorem Lz.same_on {b : List UInt8} {q d f k : Nat} (hf : k < f) (h : q + k < b.length ∧ b.getD (q + k - d) 0 = b.getD (q + k) 0) : runF b q d (f - k) k = runF b q d (f - (k + 1)) (k + 1) := by
  rw [show f - k = f - (k + 1) + 1 by omega, runF, if_pos h]
theorem Lz.same_off {b : List UInt8} {q d f k : Nat} (hf : k < f) (h : ¬ (q + k < b.length ∧ b.getD (q + k - d) 0 = b.getD (q + k) 0)) : runF b q d (f - k) k = k := by
  rw [show f - k = f - (k + 1) + 1 by omega, runF, if_neg h]
theorem Lz.same_top (b : List UInt8) (q d f : Nat) : runF b q d (f - f) f = f := by rw [Nat.sub_self]; rfl
set_option maxHeartbeats 4000000 in
set_option maxRecDepth 100000 in
theorem lzSame_any (A : Option Addr) (n c : Nat) (b : List UInt8) (p q k most : Nat) (w : World) (hn : n ≤ 100000) (hpq : p ≤ q) (hk : k ≤ most) (hm : q + most ≤ n) (h : Bytes w w.heap.size A n b) :
    Calls Tryz.prog 56 #[.slice A n c, .int .i64 (p : Int), .int .i64 (q : Int), .int .i64 (k : Int), .int .i64 (most : Int)] w fun e w' => e = .returned (.int .i64 (runF b q (q - p) (most - k) k : Int)) ∧ Ext w w' := by
  have hl := h.1
  subst hl
  have HB := hide h
  have HK := hide hk
  obtain ⟨res, hres⟩ : ∃ res, runF b q (q - p) (most - k) k = res := ⟨_, rfl⟩
  rw [hres]
  have HR := hide hres
  clear h hk hres
  go_enter Tryz.func56, Tryz.ntmps56
  go_wp2
  go_loopw [3] (fun x wr => ∃ k : Nat, k ≤ most ∧ x = .int .i64 (k : Int) ∧ runF b q (q - p) (most - k) k = res ∧ Qt w wr) (fun x _ => most - (intOf x).toNat)
  case atStart => exact ⟨k, HK.out, rfl, HR.out, Qt.refl _⟩
  case round =>
    clear HK HR
    obtain ⟨k, hk, rfl, hR, hQ⟩ := hrel
    have HR := hide hR
    clear hR
    by_cases hkm : k < most
    · have hkI : (k : Int) < (most : Int) := by omega
      have hkd : decide ((k : Int) < (most : Int)) = true := decide_eq_true hkI
      rcases (hQ.ext.bytes HB.out).2 with h0 | ⟨b1, o1, rfl, _, hc⟩
      · omega
      have e1 := hc (p + k) (by omega)
      have e2 := hc (q + k) (by omega)
      clear hc
      have hix : q + k - (q - p) = p + k := by omega
      have hin : q + k < b.length := by omega
      have HOn := hide (show b.getD (p + k) 0 = b.getD (q + k) 0 → runF b q (q - p) (most - k) k = runF b q (q - p) (most - (k + 1)) (k + 1) from fun h => same_on hkm ⟨hin, by rw [hix]; exact h⟩)
      have HOff := hide (show ¬ b.getD (p + k) 0 = b.getD (q + k) 0 → runF b q (q - p) (most - k) k = k from fun h => same_off hkm (fun hh => h (by rw [← hix]; exact hh.2)))
      generalize b.getD (p + k) 0 = y at *
      generalize b.getD (q + k) 0 = z at *
      by_cases he : y = z
      · subst he
        have hOn := HOn.out rfl
        rw [HR.out] at hOn
        have HR2 := hide hOn
        have hy8 := UInt8.toNat_lt y
        generalize y.toNat = yy at *
        clear HOff HOn HR hOn
        go_wp2_with fail
        go_quiet (fail)
        go_wp2
        go_roundw
        case rel => exact ⟨k + 1, by omega, by go_num, HR2.out.symm, hQ.drewN _⟩
        case measure => simp [intOf]; omega
      · have hOff := HOff.out he
        rw [HR.out] at hOff
        have HR2 := hide hOff
        have hy8 := UInt8.toNat_lt y
        have hz8 := UInt8.toNat_lt z
        have hne : y.toNat ≠ z.toNat := fun e => he (UInt8.toNat_inj.1 e)
        generalize y.toNat = yy at *
        generalize z.toNat = zz at *
        have hyz : ((yy : Int) == (zz : Int)) = false := by rw [beq_eq_false_iff_ne]; omega
        clear HOff HOn HR hOff he hne
        go_wp2_with fail
        go_quiet (fail)
        go_wp2
        go_ret
        exact ⟨ret_i64 (by rw [HR2.out]), (hQ.drewN _).ext⟩
    · obtain rfl : k = most := by omega
      have hkd : decide ((k : Int) < (k : Int)) = false := decide_eq_false (by omega)
      have hT := same_top b q (q - p) k
      rw [HR.out] at hT
      have HR2 := hide hT
      clear HR hT
      go_wp2_with fail
      go_quiet (fail)
      go_wp2
      go_ret
      exact ⟨ret_i64 (by rw [HR2.out]), (hQ.drewN _).ext⟩
set_option maxHeartbeats 4000000 in
set_option maxRecDepth 100000 in
theorem lzLonger_any (A : Option Addr) (n c : Nat) (b : List UInt8) (p q k : Nat) (w : World) (hn : n ≤ 100000) (hnc : n ≤ c) (hpq : p ≤ q) (hm : q + k < n) (h : Bytes w w.heap.size A n b) :
    Calls Tryz.prog 55 #[.slice A n c, .int .i64 (p : Int), .int .i64 (q : Int), .int .i64 (k : Int)] w fun e w' => e = .returned (.bool (decide (b.getD (p + k) 0 = b.getD (q + k) 0) && decide ((b.drop p).take k = (b.drop q).take k))) ∧ Ext w w' := by
  have hb1 := (h.drop (k := p) (by omega) hnc).take (k := k) (by omega)
  have hb2 := (h.drop (k := q) (by omega) hnc).take (k := k) (by omega)
  have CE := fun j => lzEqual_any (cutAt A c p) (cutAt A c q) k k (c - p) (c - q) _ _ (w.drewN j) (hb1.below ((Ext.refl w).drewN j) (Nat.le_refl _)) (hb2.below ((Ext.refl w).drewN j) (Nat.le_refl _))
  have hl := h.1
  subst hl
  have r1 := fun W => run_mid W A b.length c .i64 .i64 (p : Int) ((p : Int) + (k : Int)) (by omega) (by omega) (by omega)
  have r2 := fun W => run_mid W A b.length c .i64 .i64 (q : Int) ((q : Int) + (k : Int)) (by omega) (by omega) (by omega)
  rw [show ((p : Int) + (k : Int)).toNat - (p : Int).toNat = k by omega, Int.toNat_natCast] at r1
  rw [show ((q : Int) + (k : Int)).toNat - (q : Int).toNat = k by omega, Int.toNat_natCast] at r2
  rcases h.2 with h0 | ⟨b1, o1, rfl, _, hc⟩
  · omega
  have e1 := hc (p + k) (by omega)
  have e2 := hc (q + k) (by omega)
  generalize (b.drop p).take k = x at *
  generalize (b.drop q).take k = y at *
  generalize b.getD (p + k) 0 = s at *
  generalize b.getD (q + k) 0 = t at *
  generalize cutAt (some ⟨b1, o1, none⟩) c p = A1 at *
  generalize cutAt (some ⟨b1, o1, none⟩) c q = A2 at *
  clear hb1 hb2 hc h
  by_cases he : s = t
  · subst he
    have hr : (decide (s = s) && decide (x = y)) = decide (x = y) := by simp
    rw [hr]
    have HR := hide hr
    have hy8 := UInt8.toNat_lt s
    generalize s.toNat = yy at *
    generalize decide (x = y) = r at *
    clear hr HR
    go_enter Tryz.func55, Tryz.ntmps55
    go_wp2_with fail
    go_quiet (first | (go_at_call 66; exact Calls.quiet_of ((CE _).mono fun _ _ ⟨he, hw⟩ => ⟨he, 0, hw.symm⟩)))
    go_wp2
    go_ret
    exact ⟨rfl, (Ext.refl w).drewN _⟩
  · have hr : (decide (s = t) && decide (x = y)) = false := by rw [decide_eq_false he]; rfl
    rw [hr]
    have hy8 := UInt8.toNat_lt s
    have hz8 := UInt8.toNat_lt t
    have hne : s.toNat ≠ t.toNat := fun e => he (UInt8.toNat_inj.1 e)
    generalize s.toNat = yy at *
    generalize t.toNat = zz at *
    have hyz : ((yy : Int) == (zz : Int)) = false := by rw [beq_eq_false_iff_ne]; omega
    clear hr he hne CE r1 r2
    go_enter Tryz.func55, Tryz.ntmps55
    go_wp2_with fail
    go_quiet (fail)
    go_wp2
    go_ret
    exact ⟨rfl, (Ext.refl w).drewN _⟩
end Go.Proofs.YthpbckignppaiaaGreatDoor

