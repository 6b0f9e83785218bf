/- The document's functions of chapter 14: Less, Rest. -/
import Derived.Test.YtfkmcknkapplmaaSetRefC
namespace Go.Proofs.Ytfkmcknkapplmaa
open Go.RowKit Sets

set_option maxHeartbeats 4000000 in
set_option maxRecDepth 10000 in
theorem refSLess_any (A1 : Option Addr) (n1 c1 : Nat) (l0 : List Int) (A : Option Addr) (n c : Nat) (ls : List (List Int)) (w : World) (h0 : IntsAt w w.heap.size A1 n1 l0) (hn1 : n1 ≤ 1000000) (h : ILists w w.heap.size A n ls) (hn : n ≤ 100000) (hs : ∀ l, l ∈ ls → l.length ≤ 1000000) :
    Calls Try.prog 22 #[.slice A1 n1 c1, .slice A n c] w (MadeS w (lessE l0 ls)) := by
  have hl := h.1
  have hl0 := h0.1
  subst hl0
  have CM := refSMay_any A1 l0.length c1 l0 w h0 hn1
  have HA := hide h
  have HI := hide h0
  cases hk0 : ok l0 with
  | false =>
    have HN := hide (show lessE l0 ls = ([], 13) by unfold lessE; rw [if_pos (.inl hk0)])
    rw [hk0] at CM
    rw [HN.out]
    clear h hs hl hk0 HN h0
    go_enter Try.func22, Try.ntmps22
    go_wp2_with fail
    refine CM.mono ?_
    rintro e w2 ⟨rfl, hQ2⟩
    clear CM
    go_wp2
    go_ret2
    exact MadeS.none w hQ2.ext 13
  | true =>
    rw [hk0] at CM
    have C0 := fun W (hE : Ext w W) => refSAll_any A n c ls W (HA.out.ext hE) (by omega) hs
    cases hk : all ls with
    | false =>
      have HN := hide (show lessE l0 ls = ([], 13) by unfold lessE; rw [if_pos (.inr hk)])
      rw [hk] at C0
      rw [HN.out]
      clear h hs hl hk HN h0 hk0
      go_enter Try.func22, Try.ntmps22
      go_wp2_with fail
      refine CM.mono ?_
      rintro e w2 ⟨rfl, hQ2⟩
      have C1 := C0 _ hQ2.ext
      clear CM C0
      go_wp2_with fail
      refine C1.mono ?_
      rintro e w3 ⟨rfl, hE3⟩
      clear C1
      go_wp2
      go_ret2
      exact MadeS.none w (hQ2.ext.trans hE3) 13
    | true =>
      have HN := hide (show lessE l0 ls = (lessL l0 ls, 0) by unfold lessE; rw [hk, hk0, if_neg (by simp)])
      rw [hk] at C0
      have HLen := hide (show ∀ i, i < n → (ls.getD i []).length ≤ 1000000 from fun i hi => hs _ (by
        rw [List.getD_eq_getElem?_getD, List.getElem?_eq_getElem (by omega)]
        exact List.getElem_mem _))
      have HAll := hide (show ∀ x, (ls.take n).any (fun l => has l x) = ls.any (fun l => has l x) from fun x => by rw [List.take_of_length_le (by omega)])
      have HStep := hide (show ∀ x k, k < n → (ls.take (k + 1)).any (fun l => has l x) = ((ls.take k).any (fun l => has l x) || has (ls.getD k []) x) from fun x k hk => take_anyB (by omega))
      have HRes := hide (show lessL l0 ls = l0.filter fun x => !(ls.any fun l => has l x) from rfl)
      rw [HN.out]
      unfold MadeS
      dsimp only
      generalize lessL l0 ls = res at *
      clear h hs hl hk HN h0 hk0
      go_enter Try.func22, Try.ntmps22
      go_wp2_with fail
      refine CM.mono ?_
      rintro e w2 ⟨rfl, hQ2⟩
      have C1 := C0 _ hQ2.ext
      clear CM C0
      go_wp2_with fail
      refine C1.mono ?_
      rintro e w3 ⟨rfl, hE3⟩
      have hE2 := hQ2.ext.trans hE3
      clear C1 hE3 hQ2
      go_wp2
      go_loopw [7, 6] (fun y u wr => ∃ (i : Nat), i ≤ l0.length ∧ y = .int .i64 (i : Int) ∧ OwnI wr w.heap.size u ((l0.take i).filter fun x => !(ls.any fun l => has l x)) ∧ Ext w wr) (fun y _ _ => l0.length - (intOf y).toNat)
      case atStart => exact ⟨0, by omega, rfl, by simpa using OwnI.nil w3 w.heap.size, hE2⟩
      case round =>
        clear hE2
        obtain ⟨i, hi, rfl, hO, hE⟩ := hrel
        by_cases hlt : i < l0.length
        · have hiI : (i : Int) < (l0.length : Int) := by omega
          have HFl := hide (take_filter (l := l0) (p := fun x => !(ls.any fun l => has l x)) hlt)
          obtain ⟨x, hx⟩ : ∃ x, x = l0.getD i 0 := ⟨_, rfl⟩
          rcases (HI.out.later hE).2 with h9 | ⟨b2, o2, rfl, _, hc2⟩
          · omega
          have e2 := hc2 i hlt
          rw [← hx] at e2 HFl
          obtain ⟨wa, rfl⟩ : ∃ W, W = wr := ⟨_, rfl⟩
          have HO := hide hO
          have HE := hide hE
          have HC := hide (show ∀ W, Qt wa W → W.cell? ⟨b2, o2 + i, none⟩ = some (.int .i64 x) from fun W hW => by
            obtain ⟨m, rfl⟩ := hW
            simpa using e2)
          clear hc2 hx hO hE
          go_wp2_with fail
          go_loopw [9, 8] (fun y u wr => ∃ (k : Nat), k ≤ n ∧ y = .int .i64 (k : Int) ∧ u = .bool ((ls.take k).any fun l => has l x) ∧ Qt wa wr) (fun y _ _ => n - (intOf y).toNat)
          case atStart => exact ⟨0, by omega, rfl, by simp, Qt.refl _⟩
          case round =>
            clear e2
            obtain ⟨k, hk, rfl, rfl, hQ⟩ := hrel
            have e2 := HC.out _ hQ
            have hk2 : k ≤ 100000 := by omega
            by_cases hkn : k < n
            · have hkI : (k : Int) < (n : Int) := by omega
              obtain ⟨b1, o1, a4, c4, rfl, f3, _, _, hr4⟩ := (HA.out.ext (HE.out.trans hQ.ext)).at hkn
              have HSt := hide (HStep.out x k hkn)
              have CH := refSHasQ (c := c4) hr4 (HLen.out k hkn) x
              obtain ⟨lk, hlk⟩ : ∃ l, l = ls.getD k [] := ⟨_, rfl⟩
              rw [← hlk] at f3 CH HSt
              generalize lk.length = mk at *
              generalize has lk x = hb at *
              clear hr4 hlk
              generalize (ls.take k).any (fun l => has l x) = inb at *
              cases inb with
              | true =>
                clear CH
                go_wp2_with fail
                go_quiet (fail)
                go_wp2
                go_roundw
                case rel => exact ⟨k + 1, by omega, by go_num, by rw [HSt.out, Bool.true_or], hQ.drewN _⟩
                case measure => simp [intOf]; omega
              | false =>
                go_wp2_with fail
                go_quiet (first | (go_at_call 25; exact CH _))
                go_wp2
                go_roundw
                case rel => exact ⟨k + 1, by omega, by go_num, by rw [HSt.out, Bool.false_or], hQ.drewN _⟩
                case measure => simp [intOf]; omega
            · obtain rfl : n = k := by omega
              have HA2 := hide (HAll.out x)
              rw [HA2.out]
              have hOq := HO.out.ext hQ.ext
              have hEq := HE.out.trans hQ.ext
              have hfl : ((l0.take i).filter fun x => !(ls.any fun l => has l x)).length ≤ 1000000 := by
                have h1 := List.length_filter_le (fun x => !(ls.any fun l => has l x)) (l0.take i)
                rw [List.length_take] at h1
                omega
              cases hin : ls.any (fun l => has l x) with
              | false =>
                rw [hin, if_pos (by simp)] at HFl
                have HO2 := hide hOq
                have HE2 := hide hEq
                clear hOq hEq hin HA2
                go_wp2_with (at_builtin; refine wpList_lit rfl (.tmp 44) (.tmp 49) rfl HE2.out HO2.out rfl x rfl hfl ?_; intro v2 w5 hO5 hE5)
                rw [← HFl.out] at hO5
                go_roundw
                case rel => exact ⟨i + 1, by omega, by go_num, hO5, hE5⟩
                case measure => simp [intOf]; omega
              | true =>
                rw [hin, if_neg (by simp), List.append_nil] at HFl
                have HO2 := hide hOq
                have HE2 := hide hEq
                clear hOq hEq hin HA2 hfl
                go_wp2
                go_roundw
                case rel => exact ⟨i + 1, by omega, by go_num, by rw [HFl.out]; exact HO2.out, HE2.out⟩
                case measure => simp [intOf]; omega
        · obtain rfl : l0.length = i := by omega
          rw [List.take_length, ← HRes.out] at hO
          have HO := hide hO
          have HE := hide hE
          clear hO hE
          go_wp2
          go_ret2
          obtain ⟨A2, c2, rfl, h1, h2, h3⟩ := HO.out.form2
          exact ⟨A2, c2, rfl, h1, h2, h3, HE.out⟩

/-- The rest as far as x; k: how many of the list are below x. -/
theorem Sets.rest_step {l : List Int} (hk : ok l = true) {x k : Nat} (h1 : k ≤ l.length) (h2 : ∀ j, j < k → l.getD j 0 < (x : Int)) (h3 : ∀ j, k ≤ j → j < l.length → (x : Int) ≤ l.getD j 0) :
    (k < l.length ∧ l.getD k 0 = (x : Int) → has l (x : Int) = true ∧ (∀ j, j < k + 1 → l.getD j 0 < ((x + 1 : Nat) : Int)) ∧ (∀ j, k + 1 ≤ j → j < l.length → ((x + 1 : Nat) : Int) ≤ l.getD j 0)) ∧
    (¬ (k < l.length ∧ l.getD k 0 = (x : Int)) → has l (x : Int) = false ∧ (∀ j, j < k → l.getD j 0 < ((x + 1 : Nat) : Int)) ∧ (∀ j, k ≤ j → j < l.length → ((x + 1 : Nat) : Int) ≤ l.getD j 0)) := by
  constructor
  · rintro ⟨hlt, e⟩
    refine ⟨has_iff.2 (e ▸ getD_mem hlt), fun j hj => ?_, fun j hj hjl => ?_⟩
    · have := ok_le hk (i := j) (j := k) (by omega) hlt
      omega
    · have := ok_lt hk (i := k) (j := j) (by omega) hjl
      omega
  · intro hne
    have key : ∀ j, k ≤ j → j < l.length → ((x + 1 : Nat) : Int) ≤ l.getD j 0 := fun j hj hjl => by
      have h4 := h3 k (Nat.le_refl _) (by omega)
      have h5 := ok_le hk hj hjl
      have h6 : l.getD k 0 ≠ (x : Int) := fun e => hne ⟨by omega, e⟩
      omega
    refine ⟨decide_eq_false fun hm => ?_, fun j hj => by have := h2 j hj; omega, key⟩
    obtain ⟨i, hi, e⟩ := mem_getD hm
    rcases Nat.lt_or_ge i k with h | h
    · have := h2 i h; omega
    · have := key i h hi; omega
theorem Sets.rest_succ (b : Nat) (l : List Int) : restL (b + 1) l = restL b l ++ if has l (b : Int) = false then [(b : Int)] else [] := by
  unfold restL
  rw [List.range_succ, List.map_append, List.filter_append]
  congr 1
  simp only [List.map_cons, List.map_nil, List.filter_cons, List.filter_nil]
  cases has l (b : Int) <;> simp
theorem Sets.rest_len (b : Nat) (l : List Int) : (restL b l).length ≤ b := by
  unfold restL
  refine Nat.le_trans (List.length_filter_le _ _) ?_
  simp

set_option maxHeartbeats 4000000 in
set_option maxRecDepth 10000 in
theorem refSRest_any (A : Option Addr) (n c : Nat) (l : List Int) (bound : Int) (w : World) (h : IntsAt w w.heap.size A n l) (hn : n ≤ 1000000) :
    Calls Try.prog 24 #[.int .i64 bound, .slice A n c] w (MadeS w (restE bound l)) := by
  have hl := h.1
  have CM := refSMay_any A n c l w h hn
  have HI := hide h
  by_cases hb0 : bound < 0
  · have HN := hide (show restE bound l = ([], 13) by unfold restE; rw [if_neg (by omega)])
    rw [HN.out]
    clear h hl HN CM
    go_enter Try.func24, Try.ntmps24
    go_wp2
    go_ret2
    exact MadeS.none w (Ext.refl _) 13
  by_cases hb1 : 20000 < bound
  · have HN := hide (show restE bound l = ([], 13) by unfold restE; rw [if_neg (by omega)])
    rw [HN.out]
    clear h hl HN CM
    go_enter Try.func24, Try.ntmps24
    go_wp2
    go_ret2
    exact MadeS.none w (Ext.refl _) 13
  obtain ⟨bd, rfl⟩ := Int.eq_ofNat_of_zero_le (show 0 ≤ bound by omega)
  cases hk : ok l with
  | false =>
    have HN := hide (show restE (bd : Int) l = ([], 13) by unfold restE; rw [hk, if_neg (by simp)])
    rw [HN.out]
    rw [hk] at CM
    clear h hl HN hk
    go_enter Try.func24, Try.ntmps24
    go_wp2_with fail
    refine CM.mono ?_
    rintro e w2 ⟨rfl, hQ2⟩
    clear CM
    go_wp2
    go_ret2
    exact MadeS.none w hQ2.ext 13
  | true =>
    rw [hk] at CM
    have HBad := hide (show ∀ i, i < n → (bd : Int) ≤ l.getD i 0 → restE (bd : Int) l = ([], 13) from fun i hi h => by
      unfold restE
      rw [if_neg (fun h9 => by
        have := (List.all_eq_true.1 h9.2.2) _ (getD_mem (l := l) (i := i) (by omega))
        have := of_decide_eq_true this
        omega)])
    have HGood := hide (show (∀ i, i < n → l.getD i 0 < (bd : Int)) → restE (bd : Int) l = (restL bd l, 0) from fun h => by
      unfold restE
      rw [if_pos ⟨⟨by omega, by omega⟩, hk, List.all_eq_true.2 fun y hy => by
        obtain ⟨i, hi, e⟩ := mem_getD hy
        rw [← e]
        exact decide_eq_true (h i (by omega))⟩, Int.toNat_natCast])
    have HSt := hide (fun (x k : Nat) h1 h2 h3 => rest_step (l := l) hk (x := x) (k := k) h1 h2 h3)
    have HNeg := hide (fun (i : Nat) (hi : i < n) => (ok_iff.1 hk).2 _ (getD_mem (l := l) (i := i) (by omega)))
    rw [hl] at HSt
    have hbd : bd ≤ 20000 := by omega
    have HLe := hide (fun x => rest_len x l)
    have HSu := hide (fun x => rest_succ x l)
    have HZ := hide (show restL 0 l = [] from rfl)
    generalize restE (bd : Int) l = res at *
    clear h hl hk hb0 hb1
    go_enter Try.func24, Try.ntmps24
    go_wp2_with fail
    refine CM.mono ?_
    rintro e w2 ⟨rfl, hQ2⟩
    clear CM
    go_wp2
    go_loopw [6] (fun y wr => ∃ i : Nat, i ≤ n ∧ y = .int .i64 (i : Int) ∧ (∀ j, j < i → l.getD j 0 < (bd : Int)) ∧ Qt w wr) (fun y _ => n - (intOf y).toNat)
    case atStart => exact ⟨0, by omega, rfl, fun j hj => absurd hj (by omega), hQ2⟩
    case round =>
      clear hQ2
      obtain ⟨i, hi, rfl, hall, hQ⟩ := hrel
      have HAll := hide hall
      clear hall
      by_cases hlt : i < n
      · have hiI : (i : Int) < (n : Int) := by omega
        rcases (HI.out.later hQ.ext).2 with hn0 | ⟨b1, o1, rfl, _, hc1⟩
        · omega
        have e1 := hc1 i hlt
        have HB := hide (HBad.out i hlt)
        obtain ⟨y, hy⟩ : ∃ y, y = l.getD i 0 := ⟨_, rfl⟩
        rw [← hy] at e1 HB
        have HY := hide hy
        clear hc1 hy
        by_cases g : (bd : Int) ≤ y
        · have HN := hide (HB.out g)
          clear HB
          go_wp2
          go_ret2
          rw [HN.out]
          exact MadeS.none w hQ.ext 13
        · clear HB
          go_wp2
          go_roundw
          case rel => exact ⟨i + 1, by omega, by go_num, fun j hj => (by
            by_cases e : j = i
            · rw [e, ← HY.out]; omega
            · exact HAll.out j (by omega)), hQ⟩
          case measure => simp [intOf]; omega
      · obtain rfl : n = i := by omega
        have HR := hide (HGood.out HAll.out)
        have HQ := hide hQ
        clear hQ HBad HGood HAll
        rw [HR.out]
        go_wp2
        go_loopw [9, 8, 7] (fun y z u wr => ∃ (x k : Nat), x ≤ bd ∧ k ≤ n ∧ y = .int .i64 (x : Int) ∧ z = .int .i64 (k : Int) ∧ (∀ j, j < k → l.getD j 0 < (x : Int)) ∧ (∀ j, k ≤ j → j < n → (x : Int) ≤ l.getD j 0) ∧ OwnI wr w.heap.size u (restL x l) ∧ Ext w wr) (fun y _ _ _ => bd - (intOf y).toNat)
        case atStart => exact ⟨0, 0, by omega, by omega, rfl, rfl, fun j hj => absurd hj (by omega), fun j _ hj => HNeg.out j hj, by rw [HZ.out]; exact OwnI.nil _ _, HQ.out.ext⟩
        case round =>
          clear HQ
          obtain ⟨x, k, hx, hk, rfl, rfl, h1, h2, hO, hE⟩ := hrel
          obtain ⟨s1, s2⟩ := HSt.out x k hk h1 h2
          have HS1 := hide s1
          have HS2 := hide s2
          have HO := hide hO
          have HE := hide hE
          have hrl : (restL x l).length ≤ 1000000 := by have := HLe.out x; omega
          have HSx := hide (HSu.out x)
          clear s1 s2 h1 h2 hO hE
          by_cases hxb : x < bd
          · have hxI : (x : Int) < (bd : Int) := by omega
            by_cases hkn : k < n
            · have hkI : (k : Int) < (n : Int) := by omega
              rcases (HI.out.later HE.out).2 with hn0 | ⟨b1, o1, rfl, _, hc1⟩
              · omega
              have e1 := hc1 k hkn
              obtain ⟨y, hy⟩ : ∃ y, y = l.getD k 0 := ⟨_, rfl⟩
              rw [← hy] at e1 HS1 HS2
              clear hc1 hy
              by_cases g : y = (x : Int)
              · obtain ⟨t1, t2, t3⟩ := HS1.out ⟨hkn, g⟩
                have hb : (y == (x : Int)) = true := by simpa using g
                have HT := hide (And.intro t2 t3)
                rw [t1, if_neg (by simp), List.append_nil] at HSx
                clear t1 t2 t3 HS1 HS2 g
                go_wp2
                go_roundw
                case rel => exact ⟨x + 1, k + 1, by omega, by omega, by go_num, by go_num, HT.out.1, HT.out.2, by rw [HSx.out]; exact HO.out, HE.out⟩
                case measure => simp [intOf]; omega
              · obtain ⟨t1, t2, t3⟩ := HS2.out (fun h => g h.2)
                have hb : (y == (x : Int)) = false := by simpa using g
                have HT := hide (And.intro t2 t3)
                rw [t1, if_pos rfl] at HSx
                clear t1 t2 t3 HS1 HS2 g
                go_wp2_with (at_builtin; refine wpList_lit rfl (.tmp 52) (.tmp 54) rfl HE.out HO.out rfl (x : Int) rfl hrl ?_; intro v2 w5 hO5 hE5)
                rw [← HSx.out] at hO5
                go_roundw
                case rel => exact ⟨x + 1, k, by omega, by omega, by go_num, rfl, HT.out.1, HT.out.2, hO5, hE5⟩
                case measure => simp [intOf]; omega
            · have hkI : ¬ (k : Int) < (n : Int) := by omega
              obtain ⟨t1, t2, t3⟩ := HS2.out (fun h => hkn h.1)
              have HT := hide (And.intro t2 t3)
              rw [t1, if_pos rfl] at HSx
              clear t1 t2 t3 HS1 HS2
              go_wp2_with (at_builtin; refine wpList_lit rfl (.tmp 52) (.tmp 54) rfl HE.out HO.out rfl (x : Int) rfl hrl ?_; intro v2 w5 hO5 hE5)
              rw [← HSx.out] at hO5
              go_roundw
              case rel => exact ⟨x + 1, k, by omega, by omega, by go_num, rfl, HT.out.1, HT.out.2, hO5, hE5⟩
              case measure => simp [intOf]; omega
          · obtain rfl : bd = x := by omega
            go_wp2
            go_ret2
            obtain ⟨A2, c2, rfl, h1, h2, h3⟩ := HO.out.form2
            rw [HR.out]
            exact ⟨A2, c2, rfl, h1, h2, h3, HE.out⟩
end Go.Proofs.Ytfkmcknkapplmaa
