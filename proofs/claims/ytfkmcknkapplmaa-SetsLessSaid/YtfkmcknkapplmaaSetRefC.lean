/- The document's functions of chapter 14: Both, Less. -/
import Derived.Test.YtfkmcknkapplmaaSetRefB
import Derived.Deep.QuietTactic
namespace Go.Proofs.Ytfkmcknkapplmaa
open Go.RowKit Sets

theorem refSHasQ {A : Option Addr} {n c : Nat} {L : List Int} {w : World} (h : IntsAt w w.heap.size A n L) (hn : n ≤ 1000000) (x : Int) (m : Nat) :
    Calls Try.prog 25 #[.slice A n c, .int .i64 x] (w.drewN m) fun e w' => e = .returned (.bool (has L x)) ∧ ∃ k, w' = w.drewN k :=
  Calls.quiet_of ((refSHas_any A n c L x (w.drewN m) (h.later ((Ext.refl w).drewN m)) hn).mono fun _ _ ⟨e, hw⟩ => ⟨e, hw ▸ Qt.refl _⟩)
theorem Sets.take_filter {l : List Int} {p : Int → Bool} {i : Nat} (h : i < l.length) : (l.take (i + 1)).filter p = (l.take i).filter p ++ if p (l.getD i 0) = true then [l.getD i 0] else [] := by
  rw [List.take_add_one, List.getElem?_eq_getElem h, List.filter_append, List.getD_eq_getElem?_getD, List.getElem?_eq_getElem h]
  congr 1
  simp only [Option.toList_some, Option.getD_some, List.filter_cons, List.filter_nil]
theorem Sets.take_allB {ls : List (List Int)} {x : Int} {k : Nat} (h : k < ls.length) : (ls.take (k + 1)).all (fun l => has l x) = ((ls.take k).all (fun l => has l x) && has (ls.getD k []) x) := by
  rw [List.take_add_one, List.getElem?_eq_getElem h, List.all_append, List.getD_eq_getElem?_getD, List.getElem?_eq_getElem h]
  simp
theorem Sets.take_anyB {ls : List (List Int)} {x : Int} {k : Nat} (h : k < ls.length) : (ls.take (k + 1)).any (fun l => has l x) = ((ls.take k).any (fun l => has l x) || has (ls.getD k []) x) := by
  rw [List.take_add_one, List.getElem?_eq_getElem h, List.any_append, List.getD_eq_getElem?_getD, List.getElem?_eq_getElem h]
  simp
/-- Two lists of one slice. -/
theorem ILists.two {w : World} {A : Option Addr} {n : Nat} {ls : List (List Int)} (h : ILists w w.heap.size A n ls) {i k : Nat} (hi : i < n) (hk : k < n) :
    ∃ b off a1 c1 a2 c2, A = some ⟨b, off, none⟩ ∧ w.cell? ⟨b, off + i, none⟩ = some (.slice a1 (ls.getD i []).length c1) ∧ IntsAt w w.heap.size a1 (ls.getD i []).length (ls.getD i []) ∧ w.cell? ⟨b, off + k, none⟩ = some (.slice a2 (ls.getD k []).length c2) ∧ IntsAt w w.heap.size a2 (ls.getD k []).length (ls.getD k []) := by
  obtain ⟨b, off, a1, c1, rfl, h1, _, _, h2⟩ := h.at hi
  obtain ⟨b', off', a2, c2, e, h3, _, _, h4⟩ := h.at hk
  simp only [Option.some.injEq, Addr.mk.injEq, and_true] at e
  obtain ⟨rfl, rfl⟩ := e
  exact ⟨b, off, a1, c1, a2, c2, rfl, h1, h2, h3, h4⟩

set_option maxHeartbeats 4000000 in
set_option maxRecDepth 10000 in
theorem refSBoth_any (A : Option Addr) (n c : Nat) (ls : List (List Int)) (w : World) (h : ILists w w.heap.size A n ls) (hn : n ≤ 100000) (hs : ∀ l, l ∈ ls → l.length ≤ 1000000) :
    Calls Try.prog 17 #[.slice A n c] w (MadeS w (bothE ls)) := by
  have hl := h.1
  by_cases hz : n = 0
  · have HN := hide (show bothE ls = ([], 13) by unfold bothE; rw [if_pos (.inl (by omega))])
    have hzI : ((n : Int) == 0) = true := by rw [hz]; rfl
    rw [HN.out]
    clear h hs hl HN
    subst hz
    go_enter Try.func17, Try.ntmps17
    go_wp2
    go_ret2
    exact MadeS.none w (Ext.refl _) 13
  have hzI : ((n : Int) == 0) = false := by rw [beq_eq_false_iff_ne]; omega
  have C0 := refSAll_any A n c ls w h (by omega) hs
  have HA := hide h
  cases hk : all ls with
  | false =>
    have HN := hide (show bothE ls = ([], 13) by unfold bothE; rw [if_pos (.inr hk)])
    rw [hk] at C0
    rw [HN.out]
    clear h hs hl hk HN hz
    go_enter Try.func17, Try.ntmps17
    go_wp2_with fail
    refine C0.mono ?_
    rintro e w2 ⟨rfl, hE2⟩
    clear C0
    go_wp2
    go_ret2
    exact MadeS.none w hE2 13
  | true =>
    have HN := hide (show bothE ls = (bothL ls, 0) by unfold bothE; rw [hk, if_neg (by simp; intro e; exact hz (by rw [← hl, e]; rfl))])
    rw [hk] at C0
    have HLen := hide (show ∀ i, i < n → (ls.getD i []).length ≤ 1000000 from fun i hi => hs _ (by
      rw [List.getD_eq_getElem?_getD, List.getElem?_eq_getElem (by omega)]
      exact List.getElem_mem _))
    have HAll := hide (show ∀ x, ((ls.drop 1).take (n - 1)).all (fun l => has l x) = (ls.drop 1).all (fun l => has l x) from fun x => by rw [List.take_of_length_le (by rw [List.length_drop]; omega)])
    have HStep := hide (show ∀ x k, 1 ≤ k → k < n → ((ls.drop 1).take (k + 1 - 1)).all (fun l => has l x) = (((ls.drop 1).take (k - 1)).all (fun l => has l x) && has (ls.getD k []) x) from fun x k h1 hk => by
      obtain ⟨j, rfl⟩ : ∃ j, k = j + 1 := ⟨k - 1, by omega⟩
      rw [Nat.add_sub_cancel, Nat.add_sub_cancel, take_allB (by rw [List.length_drop]; omega)]
      congr 2
      rw [List.getD_eq_getElem?_getD, List.getElem?_drop, Nat.add_comm 1 j, ← List.getD_eq_getElem?_getD])
    have HRes := hide (show bothL ls = (ls.getD 0 []).filter fun x => (ls.drop 1).all fun l => has l x from rfl)
    rw [HN.out]
    unfold MadeS
    dsimp only
    generalize bothL ls = res at *
    have hn1 : 1 ≤ n := by omega
    clear h hs hl hk HN hz
    go_enter Try.func17, Try.ntmps17
    go_wp2_with fail
    refine C0.mono ?_
    rintro e w2 ⟨rfl, hE2⟩
    clear C0
    obtain ⟨l0, hl0⟩ : ∃ l, l = ls.getD 0 [] := ⟨_, rfl⟩
    rw [← hl0] at HRes
    have HL0 := hide hl0
    have HLl := hide (HLen.out 0 (by omega))
    rw [← hl0] at HLl
    clear hl0
    go_wp2
    go_loopw [5, 4] (fun y u wr => ∃ (i : Nat), i ≤ l0.length ∧ y = .int .i64 (i : Int) ∧ OwnI wr w.heap.size u ((l0.take i).filter fun x => (ls.drop 1).all fun l => has l x) ∧ Ext w wr) (fun y _ _ => l0.length - (intOf y).toNat)
    case atStart => exact ⟨0, by omega, rfl, by simpa using OwnI.nil w2 w.heap.size, hE2⟩
    case round =>
      clear hE2
      obtain ⟨i, hi, rfl, hO, hE⟩ := hrel
      obtain ⟨b1, o1, a1, c1, rfl, e0, _, _, hr⟩ := (HA.out.ext hE).at (show 0 < n by omega)
      rw [← HL0.out] at e0 hr
      rw [Nat.add_zero] at e0
      have hi2 : i ≤ 1000000 := by have := HLl.out; omega
      by_cases hlt : i < l0.length
      · have hiI : (i : Int) < (l0.length : Int) := by omega
        have HFl := hide (take_filter (l := l0) (p := fun x => (ls.drop 1).all fun l => has l x) hlt)
        obtain ⟨x, hx⟩ : ∃ x, x = l0.getD i 0 := ⟨_, rfl⟩
        rcases hr.2 with h9 | ⟨b2, o2, rfl, _, hc2⟩
        · omega
        have e2 := hc2 i hlt
        rw [← hx] at e2 HFl
        obtain ⟨wa, rfl⟩ : ∃ W, W = wr := ⟨_, rfl⟩
        have HO := hide hO
        have HE := hide hE
        have HC := hide (show ∀ W, Qt wa W → W.cell? ⟨b1, o1, none⟩ = some (.slice (some ⟨b2, o2, none⟩) l0.length c1) ∧ W.cell? ⟨b2, o2 + i, none⟩ = some (.int .i64 x) from fun W hW => by
          obtain ⟨m, rfl⟩ := hW
          exact ⟨by simpa using e0, by simpa using e2⟩)
        clear hr hc2 hx hO hE
        go_wp2_with fail
        go_loopw [7, 6] (fun y u wr => ∃ (k : Nat), 1 ≤ k ∧ k ≤ n ∧ y = .int .i64 (k : Int) ∧ u = .bool (((ls.drop 1).take (k - 1)).all fun l => has l x) ∧ Qt wa wr) (fun y _ _ => n - (intOf y).toNat)
        case atStart => exact ⟨1, by omega, hn1, rfl, by simp, Qt.refl _⟩
        case round =>
          clear e0 e2
          obtain ⟨k, hk1, hk, rfl, rfl, hQ⟩ := hrel
          obtain ⟨e0, e2⟩ := HC.out _ hQ
          have hk2 : k ≤ 100000 := by omega
          by_cases hkn : k < n
          · have hkI : (k : Int) < (n : Int) := by omega
            obtain ⟨b', o', a3, c3, a4, c4, eA, f1, _, f3, hr4⟩ := (HA.out.ext (HE.out.trans hQ.ext)).two (show 0 < n by omega) hkn
            simp only [Option.some.injEq, Addr.mk.injEq, and_true] at eA
            obtain ⟨rfl, rfl⟩ := eA
            have HSt := hide (HStep.out x k hk1 hkn)
            have CH := refSHasQ (c := c4) hr4 (HLen.out k hkn) x
            obtain ⟨lk, hlk⟩ : ∃ l, l = ls.getD k [] := ⟨_, rfl⟩
            rw [← hlk] at f3 CH HSt
            generalize lk.length = mk at *
            generalize has lk x = hb at *
            clear hr4 f1 hlk
            generalize ((ls.drop 1).take (k - 1)).all (fun l => has l x) = inb at *
            cases inb with
            | true =>
              go_wp2_with fail
              go_quiet (first | (go_at_call 25; exact CH _))
              go_wp2
              go_roundw
              case rel => exact ⟨k + 1, by omega, by omega, by go_num, by rw [HSt.out, Bool.true_and], hQ.drewN _⟩
              case measure => simp [intOf]; omega
            | false =>
              clear CH
              go_wp2_with fail
              go_quiet (fail)
              go_wp2
              go_roundw
              case rel => exact ⟨k + 1, by omega, by omega, by go_num, by rw [HSt.out, Bool.false_and], hQ.drewN _⟩
              case measure => simp [intOf]; omega
          · obtain rfl : n = k := by omega
            have HA2 := hide (show ((ls.drop 1).take (n - 1)).all (fun l => has l x) = (ls.drop 1).all (fun l => has l x) from HAll.out x)
            rw [HA2.out]
            have hOq := HO.out.ext hQ.ext
            have hEq := HE.out.trans hQ.ext
            have hfl : ((l0.take i).filter fun x => (ls.drop 1).all fun l => has l x).length ≤ 1000000 := by
              have h1 := List.length_filter_le (fun x => (ls.drop 1).all fun l => has l x) (l0.take i)
              rw [List.length_take] at h1
              omega
            cases hin : (ls.drop 1).all (fun l => has l x) with
            | true =>
              rw [hin, if_pos rfl] at HFl
              have HO2 := hide hOq
              have HE2 := hide hEq
              clear hOq hEq hin HA2
              go_wp2_with (at_builtin; refine wpList_lit rfl (.tmp 45) (.tmp 52) rfl HE2.out HO2.out rfl x rfl hfl ?_; intro v2 w5 hO5 hE5)
              rw [← HFl.out] at hO5
              go_roundw
              case rel => exact ⟨i + 1, by omega, by go_num, hO5, hE5⟩
              case measure => simp [intOf]; omega
            | false =>
              rw [hin, if_neg (by simp), List.append_nil] at HFl
              have HO2 := hide hOq
              have HE2 := hide hEq
              clear hOq hEq hin HA2 hfl
              go_wp2
              go_roundw
              case rel => exact ⟨i + 1, by omega, by go_num, by rw [HFl.out]; exact HO2.out, HE2.out⟩
              case measure => simp [intOf]; omega
      · obtain rfl : l0.length = i := by omega
        rw [List.take_length, ← HRes.out] at hO
        have HO := hide hO
        have HE := hide hE
        clear hO hE hr
        go_wp2
        go_ret2
        obtain ⟨A2, c2, rfl, h1, h2, h3⟩ := HO.out.form2
        exact ⟨A2, c2, rfl, h1, h2, h3, HE.out⟩
end Go.Proofs.Ytfkmcknkapplmaa
