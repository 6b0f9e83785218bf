/- The law NumsAll. -/
import Derived.Test.YtgnmdpklkmlpfaaNumAlive
import Derived.Test.YtgnmdpklkmlpfaaConcat
import Derived.Test.YtgnmdpklkmlpfaaStrs
import Derived.OpenShut
namespace Go.Proofs.Ytgnmdpklkmlpfaa
open Go.RowKit

theorem Ext.parts {w w' : World} (hE : Ext w w') {A : Option Addr} {n : Nat} {ls : List (List UInt8)} (h : Parts w w.heap.size A n ls) : Parts w' w'.heap.size A n ls := by
  refine ⟨h.1, ?_⟩
  rcases h.2 with h0 | ⟨b, off, hA, hB, hc⟩
  · exact .inl h0
  · refine .inr ⟨b, off, hA, Nat.lt_of_lt_of_le hB hE.le, fun i hi => ?_⟩
    obtain ⟨A', n', c', h1, h2, h3⟩ := hc i hi
    exact ⟨A', n', c', (hE.cell hB).trans h1, h2, hE.bytes h3⟩
theorem flat_small : ∀ (ls : List (List UInt8)), (∀ k, k < ls.length → (ls.getD k []).length ≤ 500) → ls.flatten.length ≤ 500 * ls.length
  | [], _ => by simp
  | a :: ls, h => by
    have h0 := h 0 (by simp)
    have h1 := flat_small ls (fun k hk => by simpa using h (k + 1) (by simpa using hk))
    simp only [List.flatten_cons, List.length_append, List.length_cons]
    simp at h0
    omega

set_option maxHeartbeats 2000000 in
set_option maxRecDepth 100000 in
theorem numsAll_walk (A : Option Addr) (n c : Nat) (ls : List (List UInt8)) (w : World) (_hn : n ≤ c) (_hc : c ≤ maxLen) (hb : Parts w w.heap.size A n ls) :
    Calls Try.prog 4 #[.slice A n c] w fun e w' => e = .returned (.bool true) ∧ Below w.heap.size w w' := by
  have C0 := alive3_any w
  have hll := hb.1
  subst hll
  by_cases hbig : (100 : Int) < (ls.length : Int)
  · go_enter Try.func4, Try.ntmps4
    go_wp2_with fail
    refine C0.mono ?_
    rintro e w1 ⟨rfl, hE1⟩
    go_wp2
    go_ret
    exact ⟨rfl, hE1⟩
  · go_enter Try.func4, Try.ntmps4
    go_wp2_with fail
    refine C0.mono ?_
    rintro e w1 ⟨rfl, hE1⟩
    go_wp2
    go_loopw [3, 4] (fun v i wr => ∃ j : Nat, j ≤ ls.length ∧ i = .int .i64 (j : Int) ∧ OwnB wr w.heap.size v (ls.take j).flatten ∧ Ext w wr ∧ ∀ k, k < j → (ls.getD k []).length ≤ 500) (fun _ i _ => ls.length - (intOf i).toNat)
    case atStart => exact ⟨0, by omega, rfl, by simpa using OwnB.nil _ _, hE1, by omega⟩
    case round =>
      obtain ⟨j, hj, rfl, hO3, hE3, hall⟩ := hrel
      by_cases hlt : j < ls.length
      · obtain ⟨_, hb2⟩ := hb
        rcases hb2 with h0 | ⟨blk, off, rfl, hB, hcs⟩
        · omega
        obtain ⟨A', n', c', hc1, _, hb1⟩ := hcs j hlt
        have hc2 := (hE3.cell (i := off + j) hB).trans hc1
        have hb2 := hE3.bytes hb1
        have hn' := hb1.1
        clear hcs hc1 hb1
        by_cases h5 : (500 : Int) < (n' : Int)
        · go_wp2
          go_ret
          exact ⟨rfl, hE3⟩
        · have HF := hide (flat_take ls j hlt)
          have hj0 : (0 : Int) ≤ (j : Int) := by omega
          have hj1 : (j : Int) < (ls.length : Int) := by omega
          have HA := hide hall
          have HN := hide hn'
          have hfl : (ls.take j).flatten.length ≤ 500 * j := by
            have h1 := flat_small (ls.take j) (fun k hk => by
              rw [List.length_take] at hk
              have := hall k (by omega)
              rwa [List.getD_eq_getElem?_getD, List.getElem?_take_of_lt (by omega), ← List.getD_eq_getElem?_getD])
            rw [List.length_take] at h1
            omega
          have hfit : (ls.take j).flatten.length + n' ≤ 140737488355328 := by omega
          have hB3 := hE3.le
          clear hall hn' hfl
          go_wp2_with (at_builtin; refine wpList_appAt rfl (.tmp 22) (.tmp 26) rfl rfl hO3 rfl hb2 hfit hB3 ?_; intro v4 w4 hO4 hG4 _)
          go_roundw
          case rel =>
            refine ⟨j + 1, by omega, by go_num, by rw [HF.out]; exact hO4, hO3.below hE3 hG4 hB3, fun k hk => ?_⟩
            by_cases hkj : k = j
            · subst hkj
              have := HN.out
              omega
            · exact HA.out k (by omega)
          case measure => simp [intOf]; omega
      · obtain rfl : j = ls.length := by omega
        rw [List.take_length] at hO3
        have htot : ls.flatten.length ≤ 1000000000 := by have := flat_small ls hall; omega
        have CA := all_any A c ls wr (hE3.parts hb) (by omega) htot
        clear hall hb
        generalize ls.flatten = F at *
        obtain ⟨A3, n3, c3, rfl, _, _, hb3⟩ := hO3.form'
        go_wp2_with fail
        refine CA.mono ?_
        rintro e w4 ⟨v4, rfl, hO4, hE4⟩
        obtain ⟨A4, n4, c4, rfl, _, _, hb4⟩ := hO4.form'
        go_wp2_with fail
        refine (same_any A4 A3 n4 n3 c4 c3 F F w4 hb4 (hE4.bytes hb3)).mono ?_
        rintro e w5 ⟨rfl, hE5⟩
        rw [sameB_true rfl]
        go_wp2
        go_ret
        exact ⟨rfl, (hE3.trans hE4).trans hE5⟩
end Go.Proofs.Ytgnmdpklkmlpfaa
