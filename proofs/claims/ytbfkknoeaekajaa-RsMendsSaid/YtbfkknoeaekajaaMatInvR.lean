/- The document's Inverse. -/
import Derived.Test.YtbfkknoeaekajaaMatTbl
import Derived.Test.YtbfkknoeaekajaaMatGauss
import Derived.Test.YtbfkknoeaekajaaMatInv
import Derived.Test.YtbfkknoeaekajaaMatPickR
import Derived.Test.YtbfkknoeaekajaaRegTail
namespace Go.Proofs.Ytbfkknoeaekajaa
open Go.RowKit

/-- The document's Inverse tells what an inverse is. -/
def RefInverseC : Prop := ∀ (m : MV) (A : Option Addr) (k : Nat) (W : World), m.lies W A k → Calls Try.prog 48 #[m.arg A k] W (MadeM W m.invE.1 m.invE.2)
theorem MV.invE_flat {m : MV} {n : Nat} (hm : m.may = true) (hr : m.r = n) (hc : m.c = n) {v : Nat → UInt8} (h : Mat.Ker n m.at v) : m.invE = (MV.zero, 14) := by
  have he : ¬ ∃ X, Mat.Inv m.r.toNat m.at X := by
    rw [hr, Int.toNat_natCast]
    rintro ⟨X, hX⟩
    exact h.none hX.2
  unfold MV.invE
  rw [if_pos ⟨hm, by rw [hr, hc]⟩, dif_neg he]
theorem MV.invE_not {m : MV} (h : ¬ (m.may = true ∧ m.r = m.c)) : m.invE = (MV.zero, 13) := by
  unfold MV.invE
  rw [if_neg h]
theorem cellsOf_row (n : Nat) (f : Mat.M) (i : Nat) (hn : 0 < n) : ∀ k, k ≤ n → cellsOf n f (i * n + k) = cellsOf n f (i * n) ++ rowB k (f i)
  | 0, _ => by simp [rowB]
  | k + 1, hk => by
    have hdiv : (i * n + k) / n = i := by rw [Nat.mul_comm, Nat.mul_add_div hn, Nat.div_eq_of_lt (by omega), Nat.add_zero]
    have hmod : (i * n + k) % n = k := by rw [Nat.mul_comm, Nat.mul_add_mod, Nat.mod_eq_of_lt (by omega)]
    rw [← Nat.add_assoc, cellsOf_succ, cellsOf_row n f i hn k (by omega), hdiv, hmod, rowB_succ, List.append_assoc]
theorem set_there (R : Nat → Value) {n i p : Nat} (_hi : i < n) (hp : p < n) : (((List.range n).map R).set i (R p))[p]? = some (R p) := by
  rw [List.getElem?_set]
  by_cases h : i = p
  · simp [h, hp]
  · simp [h, hp]

attribute [local go_sem ↓] run_cut
set_option maxHeartbeats 8000000 in
set_option maxRecDepth 100000 in
theorem refInverse_any : RefInverseC := by
  intro m A kk w h
  obtain ⟨h1, hl1, hlk⟩ := h
  clear hlk
  have M1 := fun W => refMay_any m A m.l.length kk W rfl hl1
  have hE1 := extNew w (.cells #[.int .i64 m.r, .int .i64 m.c, .slice A m.l.length kk] 42)
  have hE2 := extNew (w.alloc (.cells #[.int .i64 m.r, .int .i64 m.c, .slice A m.l.length kk] 42)) (.cells #[.int .i64 0, .int .i64 0, .slice none 0 0] 42)
  have hWa := (Whole.new w 42 #[.int .i64 m.r, .int .i64 m.c, .slice A m.l.length kk]).ext hE2
  have hWr := Whole.new (w.alloc (.cells #[.int .i64 m.r, .int .i64 m.c, .slice A m.l.length kk] 42)) 42 #[.int .i64 0, .int .i64 0, .slice none 0 0]
  have hE := hE1.trans hE2
  rw [World.size_alloc] at hWr
  clear hE1 hE2
  have hae : m.arg A kk = .agg #[.int .i64 m.r, .int .i64 m.c, .slice A m.l.length kk] := rfl
  rw [hae]
  clear hae
  by_cases hm : m.may = true
  · rw [hm] at M1
    obtain ⟨q1, q2, q3, q4, q5⟩ := MV.may_iff.1 hm
    by_cases hrc : m.r = m.c
    · have HI := hide (fun (n : Nat) (hr : m.r = n) (v : Nat → UInt8) hv => MV.invE_flat (n := n) hm hr (by rw [← hrc]; exact hr) (v := v) hv)
      have HV := hide (fun (X : Mat.M) hX => MV.invE_of hm hrc (X := X) hX)
      have HA := hide (show ∀ i j, m.at i j = m.l.getD (i * m.c.toNat + j) 0 from fun _ _ => rfl)
      generalize m.invE = res at *
      generalize m.at = fa at *
      obtain ⟨r, c, l⟩ := m
      dsimp only at *
      subst hrc
      obtain ⟨n, rfl⟩ := Int.eq_ofNat_of_zero_le q1
      simp only [Int.toNat_natCast] at HV HA
      have HI2 := hide (HI.out n rfl)
      clear HI
      have l5 : l.length = n * n := by omega
      have hn : n ≤ 255 := by omega
      have hn' : (n : Int) ≤ 255 := by omega
      have HL := hide l5
      have h2n : IntKind.i64.wrap (2 * (n : Int)) = ((2 * n : Nat) : Int) := by rw [IntKind.wrap_i64]; omega
      have hne : ((n : Int) != (n : Int)) = false := by simp
      clear q1 q2 q3 q4 q5 l5 hl1 hm
      go_enter Try.func48, Try.ntmps48
      go_wp2_with fail
      refine (M1 _).mono ?_
      rintro e w2 ⟨rfl, hF2⟩
      have hWa2 := hWa.ext hF2
      have hWr2 := hWr.ext hF2
      have hEw2 := hE.trans hF2
      have b0 := hWa2.at 0 rfl
      have b1 := hWa2.at 1 rfl
      have b2 := hWa2.at 2 rfl
      have hrl := hWr2.lt
      clear M1 hE hWa hWr hF2
      go_wp2_with fail
      go_loopw [5, 6] (fun v i wr => ∃ (j : Nat) (R : Nat → Value), j ≤ n ∧ i = .int .i64 (j : Int) ∧ Tbl wr w2.heap.size v j (2 * n) R (Mat.both n fa) ∧ Ext w2 wr) (fun _ i _ => n - (intOf i).toNat)
      case atStart => exact ⟨0, fun _ => default, by omega, rfl, Tbl.bare _ _ _ _ _, Ext.refl _⟩
      case round =>
        obtain ⟨i, R, hi, rfl, hT, hEr⟩ := hrel
        by_cases hlt : i < n
        · obtain ⟨wa, rfl⟩ : ∃ W, W = wr := ⟨_, rfl⟩
          go_wp2_with fail
          go_loopw [7, 8] (fun x j wq => ∃ k : Nat, k ≤ 2 * n ∧ j = .int .i64 (k : Int) ∧ OwnB wq wa.heap.size x (rowB k (Mat.both n fa i)) ∧ Ext wa wq) (fun _ j _ => 2 * n - (intOf j).toNat)
          case atStart => exact ⟨0, by omega, rfl, OwnB.nil _ _, Ext.refl _⟩
          case round =>
            obtain ⟨k, hk, rfl, hO, hEq⟩ := hrel
            by_cases hkt : k < 2 * n
            · have hkt' : (k : Int) < 2 * (n : Int) := by omega
              have hfit : (rowB k (Mat.both n fa i)).length + 1 ≤ 140737488355328 := by rw [rowB_len]; omega
              have hba := (hWa2.ext (hEr.trans hEq)).at 2 rfl
              by_cases hkn : k < n
              · have HB := hide (show Mat.both n fa i k = fa i k from if_pos hkn)
                have hia : i * n + k < n * n := by
                  have : (i + 1) * n ≤ n * n := Nat.mul_le_mul_right _ hlt
                  rw [Nat.add_mul, Nat.one_mul] at this
                  omega
                obtain ⟨_, h1'⟩ := (hEw2.trans (hEr.trans hEq)).bytes h1
                rcases h1' with h0 | ⟨g1, o1, hA1, _, hc1⟩
                · have := HL.out; omega
                subst hA1
                have m1 := hc1 (i * n + k) (by have := HL.out; omega)
                rw [← HA.out] at m1
                have hnn : n * n ≤ 65025 := Nat.mul_le_mul hn hn
                have hP1 : i * n ≤ 65025 := by omega
                have hm1 : IntKind.i64.wrap ((i : Int) * (n : Int)) = ((i * n : Nat) : Int) := by rw [(Int.natCast_mul i n).symm, IntKind.wrap_i64]; omega
                have hla : (l.length : Int) = ((n * n : Nat) : Int) := by rw [HL.out]
                generalize i * n = P at *
                have g1a : ((P : Int) + (k : Int)) < (l.length : Int) := by omega
                have g1b : (0 : Int) ≤ ((P : Int) + (k : Int)) := by omega
                have hkn' : (k : Int) < (n : Int) := by omega
                clear hla hc1 h1 hia hnn
                generalize fa i k = xa at *
                have hb1 := bytesNew wr [xa] #[.int .u8 (xa.toNat : Int)] 5 (0, 0) rfl 1 rfl
                have hE4 := extNew wr (.cells #[.int .u8 (xa.toNat : Int)] 5)
                have hO1 := hO.ext hE4
                have hB1 : wa.heap.size ≤ (wr.alloc (.cells #[.int .u8 (xa.toNat : Int)] 5)).heap.size := by
                  have := (hEq.trans hE4).le
                  omega
                go_wp2_with (at_builtin; refine wpList_appAt rfl (.tmp 61) (.tmp 63) rfl rfl hO1 rfl hb1 hfit hB1 ?_; intro v4 w4 hO4 hG4 hN4)
                go_roundw
                case rel => exact ⟨k + 1, by omega, by go_num, by rw [rowB_succ, HB.out]; exact hO4, Below.grown (hEq.trans hE4) hG4 (hEq.trans hE4).le (fun k hk => (hO1.lt k hk).1)⟩
                case measure => simp [intOf]; omega

              · have hkn' : ¬ ((k : Int) < (n : Int)) := by omega
                by_cases hki : k - n = i
                · have HB := hide (show Mat.both n fa i k = 1 by unfold Mat.both; rw [if_neg hkn, if_pos hki])
                  have hki' : ((k : Int) - (n : Int) == (i : Int)) = true := by simp; omega
                  clear hki h1
                  have hb1 := bytesNew wr [1] #[.int .u8 1] 5 (0, 0) rfl 1 rfl
                  have hE4 := extNew wr (.cells #[.int .u8 1] 5)
                  have hO1 := hO.ext hE4
                  have hB1 : wa.heap.size ≤ (wr.alloc (.cells #[.int .u8 1] 5)).heap.size := by
                    have := (hEq.trans hE4).le
                    omega
                  go_wp2_with (at_builtin; refine wpList_appAt rfl (.tmp 61) (.tmp 63) rfl rfl hO1 rfl hb1 hfit hB1 ?_; intro v4 w4 hO4 hG4 hN4)
                  go_roundw
                  case rel => exact ⟨k + 1, by omega, by go_num, by rw [rowB_succ, HB.out]; exact hO4, Below.grown (hEq.trans hE4) hG4 (hEq.trans hE4).le (fun k hk => (hO1.lt k hk).1)⟩
                  case measure => simp [intOf]; omega

                · have HB := hide (show Mat.both n fa i k = 0 by unfold Mat.both; rw [if_neg hkn, if_neg hki])
                  have hki' : ((k : Int) - (n : Int) == (i : Int)) = false := by simp; omega
                  clear hki h1
                  have hb1 := bytesNew wr [0] #[.int .u8 0] 5 (0, 0) rfl 1 rfl
                  have hE4 := extNew wr (.cells #[.int .u8 0] 5)
                  have hO1 := hO.ext hE4
                  have hB1 : wa.heap.size ≤ (wr.alloc (.cells #[.int .u8 0] 5)).heap.size := by
                    have := (hEq.trans hE4).le
                    omega
                  go_wp2_with (at_builtin; refine wpList_appAt rfl (.tmp 61) (.tmp 63) rfl rfl hO1 rfl hb1 hfit hB1 ?_; intro v4 w4 hO4 hG4 hN4)
                  go_roundw
                  case rel => exact ⟨k + 1, by omega, by go_num, by rw [rowB_succ, HB.out]; exact hO4, Below.grown (hEq.trans hE4) hG4 (hEq.trans hE4).le (fun k hk => (hO1.lt k hk).1)⟩
                  case measure => simp [intOf]; omega

            · obtain rfl : k = 2 * n := by omega
              have hkt' : ¬ (((2 * n : Nat) : Int) < 2 * (n : Int)) := by omega
              obtain ⟨A7, n7, c7, rfl, _, hn7, _⟩ := hO.form'
              have hE4 := extNew wr (.cells #[.slice A7 n7 c7] 35)
              have hT4 := (hT.ext hEq).ext hE4
              have hown := (hT.ext hEq).own
              have hB4 := (hEr.trans hEq).le
              clear h1
              go_wp2_with (at_builtin; refine wpList_appS rfl (.tmp 65) (.tmp 67) rfl rfl hown rfl (by omega) hB4 ?_; intro v4 w4 hO4 hG4 hN4)
              go_roundw
              case rel =>
                have hx := (hO.ext hE4).mono hEr.le
                have hnew : ∃ b, (Value.slice A7 n7 c7).ownBlock = some b ∧ wa.heap.size ≤ b := by
                  obtain ⟨b, ci, hxe, hb, _⟩ := hO.formG (by rw [rowB_len]; omega)
                  exact ⟨b, by rw [hxe]; rfl, hb⟩
                refine ⟨i + 1, _, by omega, by go_num, (hT4.push (by omega) hx (own_apart hnew fun k hk => (hT.own.lt k hk).2) (fun a ha e => own_apart hnew (fun k hk => ((hT.row a ha).lt k hk).2) e.symm) hO4 hG4 hN4).congr fun a b ha hb => ?_, Below.grown ((hEr.trans hEq).trans hE4) hG4 ((hEr.trans hEq).trans hE4).le (fun k hk => (hT.own.lt k hk).1)⟩
                by_cases hai : a = i
                · rw [if_pos hai, hai]
                · rw [if_neg hai]
              case measure => simp [intOf]; omega
        · obtain rfl : n = i := by omega
          have hIn0 := Mat.Inner.start n fa
          clear h1 hlt hi b0 b1 b2 h2n hne
          go_wp2_with fail
          go_loopw [10] (fun x wq => ∃ (j : Nat) (R : Nat → Value) (F : Mat.M), j ≤ n ∧ x = .int .i64 (j : Int) ∧ Tbl wq w2.heap.size u5 n (2 * n) R F ∧ Mat.Inner n j fa F ∧ Ext w2 wq) (fun x _ => n - (intOf x).toNat)
          case atStart => exact ⟨0, _, _, by omega, rfl, hT, hIn0, hEr⟩
          case round =>
            clear hT hIn0 hEr
            obtain ⟨i, R, F, hi, rfl, hT, hIn, hEr⟩ := hrel
            by_cases hlt : i < n
            · obtain ⟨g, kr, rfl, hgB, hgl⟩ := hT.form (by omega)
              obtain ⟨wa, rfl⟩ : ∃ W, W = wr := ⟨_, rfl⟩
              go_wp2_with fail
              go_loop [11] (fun x => ∃ q : Nat, i ≤ q ∧ q ≤ n ∧ x = .int .i64 (q : Int) ∧ ∀ a, i ≤ a → a < q → F a i = 0) (fun x => n - (intOf x).toNat)
              case atStart => exact ⟨i, by omega, by omega, rfl, fun a h1 h2 => absurd h1 (by omega)⟩
              case round =>
                obtain ⟨p, hip, hpn, rfl, hz⟩ := hrel
                have HZ := hide hz
                clear hz
                by_cases hpt : p < n
                · obtain ⟨gp, cp, hRp, hgp, hgpl, hgpg, hcp, kp, fp, hp⟩ := hT.rowAt hpt
                  obtain ⟨kpi, fpi⟩ := hp i (by omega)
                  have hi2 : (i : Int) < 2 * (n : Int) := by omega
                  have hi0 : (0 : Int) ≤ (i : Int) := by omega
                  have HP := hide hp
                  have HRp := hide hRp
                  clear hp hRp
                  by_cases hF : F p i = 0
                  · rw [hF] at kpi
                    have kpi' : wa.cell? ⟨gp, i, none⟩ = some (.int .u8 0) := kpi
                    clear kpi
                    go_wp2_with fail
                    go_round
                    case rel =>
                      refine ⟨p + 1, by omega, by omega, by go_num, fun a h1 h2 => ?_⟩
                      by_cases hap : a = p
                      · subst hap
                        exact hF
                      · exact HZ.out a h1 (by omega)
                    case measure => simp [intOf]; omega
                  · have hF' : (((F p i).toNat : Int) == 0) = false := by
                      rw [beq_eq_false_iff_ne]
                      intro e
                      exact hF (Mat.ext8 (by have : (F p i).toNat = 0 := by omega
                                             exact this))
                    have hpn' : ((p : Int) == (n : Int)) = false := by rw [beq_eq_false_iff_ne]; omega
                    have HF0 := hide hF
                    clear hF
                    go_wp2_with fail
                    obtain ⟨gi, ci, hRi, hgi, hgil, hgig, hci, kid, fid, hcz⟩ := hT.rowAt hlt
                    clear hcz
                    have kpd := kp
                    have st1 := (World.ownsRow.stored hT.own i (R p)).1
                    have kp1 := World.ownsRow.cellAt st1 p (by omega)
                    rw [set_there R hlt hpt] at kp1
                    have hTs := (hT.swap hlt hpt).ext (Ext.refl _).drew
                    have hEs := ((hEr.setCell hgB (i := i) (R p)).setCell hgB (i := p) (R i)).drew
                    rw [HRp.out] at kp1 hTs hEs
                    rw [hRi] at hTs hEs
                    have hp0 : (0 : Int) ≤ (p : Int) := by omega
                    have hin : (i : Int) < (n : Int) := by omega
                    have hpn2 : (p : Int) < (n : Int) := by omega
                    have HRi := hide hRi
                    clear hT st1 hRi kpi fpi kp
                    refine wp_region_T (fun W => W.cell? ⟨g, i, none⟩ = some (.slice (some ⟨gi, 0, none⟩) (2 * n) ci) ∧ W.cell? ⟨g, p, none⟩ = some (.slice (some ⟨gp, 0, none⟩) (2 * n) cp)) 13 16 #[false, false, false, false, false, false, false, false, false, false, false, false, false, false, false, false] (by kernel_rfl) rfl rfl ⟨kid, kpd⟩ ?_
                    intro hS0
                    refine wpAnyT_pure 2 (some 96) (.slice (some ⟨g, 0, none⟩) n kr) #[false, false, true, false, false, false, false, false, false, false, false, false, false, false, false, false] rfl rfl rfl (by kernel_rfl) (fun _ _ _ h => h) (fun _ => hS0) (by rfl) (fun W => by go_simp) ?_
                    simp only [Act.put, List.setIfInBounds_toArray, List.set_cons_zero, List.set_cons_succ]
                    refine wpAnyT_pure 3 (some 97) (.int .i64 (p : Int)) #[false, false, true, true, false, false, false, false, false, false, false, false, false, false, false, false] rfl rfl rfl (by kernel_rfl) (fun _ _ _ h => h) (fun _ => hS0) (by rfl) (fun W => by go_simp) ?_
                    simp only [Act.put, List.setIfInBounds_toArray, List.set_cons_zero, List.set_cons_succ]
                    refine wpAnyT_take 0 (some 94) (.slice (some ⟨g, 0, none⟩) n kr) #[true, false, true, true, false, false, false, false, false, false, false, false, false, false, false, false] rfl rfl rfl (by kernel_rfl) (fun _ _ _ h => h) hS0 (by rfl) (fun W ⟨x0, x1⟩ => by go_simp) ?_
                    simp only [Act.put, List.setIfInBounds_toArray, List.set_cons_zero, List.set_cons_succ]
                    refine wpAnyT_take 1 (some 95) (.int .i64 (i : Int)) #[true, true, true, true, false, false, false, false, false, false, false, false, false, false, false, false] rfl rfl rfl (by kernel_rfl) (fun _ _ _ h => h) hS0 (by rfl) (fun W ⟨x0, x1⟩ => by go_simp) ?_
                    simp only [Act.put, List.setIfInBounds_toArray, List.set_cons_zero, List.set_cons_succ]
                    refine wpAnyT_take 4 (some 98) (.slice (some ⟨g, 0, none⟩) n kr) #[true, true, true, true, true, false, false, false, false, false, false, false, false, false, false, false] rfl rfl rfl (by kernel_rfl) (fun _ _ _ h => h) hS0 (by rfl) (fun W ⟨x0, x1⟩ => by go_simp) ?_
                    simp only [Act.put, List.setIfInBounds_toArray, List.set_cons_zero, List.set_cons_succ]
                    refine wpAnyT_take 5 (some 99) (.int .i64 (p : Int)) #[true, true, true, true, true, true, false, false, false, false, false, false, false, false, false, false] rfl rfl rfl (by kernel_rfl) (fun _ _ _ h => h) hS0 (by rfl) (fun W ⟨x0, x1⟩ => by go_simp) ?_
                    simp only [Act.put, List.setIfInBounds_toArray, List.set_cons_zero, List.set_cons_succ]
                    refine wpAnyT_take 6 (some 100) (.pointer (some ⟨g, p, none⟩)) #[true, true, true, true, true, true, true, false, false, false, false, false, false, false, false, false] rfl rfl rfl (by kernel_rfl) (fun _ _ _ h => h) hS0 (by rfl) (fun W ⟨x0, x1⟩ => by go_simp) ?_
                    simp only [Act.put, List.setIfInBounds_toArray, List.set_cons_zero, List.set_cons_succ]
                    refine wpAnyT_take 7 (some 101) (.slice (some ⟨gp, 0, none⟩) (2 * n) cp) #[true, true, true, true, true, true, true, true, false, false, false, false, false, false, false, false] rfl rfl rfl (by kernel_rfl) (fun _ _ _ h => h) hS0 (by rfl) (fun W ⟨x0, x1⟩ => by go_simp) ?_
                    simp only [Act.put, List.setIfInBounds_toArray, List.set_cons_zero, List.set_cons_succ]
                    refine wpAnyT_take 8 (some 102) (.slice (some ⟨g, 0, none⟩) n kr) #[true, true, true, true, true, true, true, true, true, false, false, false, false, false, false, false] rfl rfl rfl (by kernel_rfl) (fun _ _ _ h => h) hS0 (by rfl) (fun W ⟨x0, x1⟩ => by go_simp) ?_
                    simp only [Act.put, List.setIfInBounds_toArray, List.set_cons_zero, List.set_cons_succ]
                    refine wpAnyT_take 9 (some 103) (.int .i64 (i : Int)) #[true, true, true, true, true, true, true, true, true, true, false, false, false, false, false, false] rfl rfl rfl (by kernel_rfl) (fun _ _ _ h => h) hS0 (by rfl) (fun W ⟨x0, x1⟩ => by go_simp) ?_
                    simp only [Act.put, List.setIfInBounds_toArray, List.set_cons_zero, List.set_cons_succ]
                    refine wpAnyT_take 10 (some 104) (.pointer (some ⟨g, i, none⟩)) #[true, true, true, true, true, true, true, true, true, true, true, false, false, false, false, false] rfl rfl rfl (by kernel_rfl) (fun _ _ _ h => h) hS0 (by rfl) (fun W ⟨x0, x1⟩ => by go_simp) ?_
                    simp only [Act.put, List.setIfInBounds_toArray, List.set_cons_zero, List.set_cons_succ]
                    refine wpAnyT_take 11 (some 105) (.slice (some ⟨gi, 0, none⟩) (2 * n) ci) #[true, true, true, true, true, true, true, true, true, true, true, true, false, false, false, false] rfl rfl rfl (by kernel_rfl) (fun _ _ _ h => h) hS0 (by rfl) (fun W ⟨x0, x1⟩ => by go_simp) ?_
                    simp only [Act.put, List.setIfInBounds_toArray, List.set_cons_zero, List.set_cons_succ]
                    refine wpAnyT_only 12 #[true, true, true, true, true, true, true, true, true, true, true, true, true, false, false, false] (by kernel_rfl) rfl rfl (by rfl) (fun K hK => ?_)
                    go_simp
                    refine hK _ _ (fun _ => ⟨kid, kpd⟩) ?_
                    clear hK K
                    refine wpAnyT_only 13 #[true, true, true, true, true, true, true, true, true, true, true, true, true, true, false, false] (by kernel_rfl) rfl rfl (by rfl) (fun K hK => ?_)
                    go_simp
                    refine hK _ _ (fun h => absurd h (by decide)) ?_
                    clear hK K
                    refine wpAnyT_only 14 #[true, true, true, true, true, true, true, true, true, true, true, true, true, true, true, false] (by kernel_rfl) rfl rfl (by rfl) (fun K hK => ?_)
                    go_simp
                    refine hK _ _ (fun h => absurd h (by decide)) ?_
                    clear hK K
                    refine wpAnyT_only 15 #[true, true, true, true, true, true, true, true, true, true, true, true, true, true, true, true] (by kernel_rfl) rfl rfl (by rfl) (fun K hK => ?_)
                    go_simp
                    refine hK _ _ (fun h => absurd h (by decide)) ?_
                    clear hK K
                    refine wpAnyT_done (by kernel_rfl) ?_ _
                    obtain ⟨R1, F1, hT1, hIn1, h01⟩ : ∃ R1 F1, Tbl ((wa.setCell ⟨g, i, none⟩ (.slice (some ⟨gp, 0, none⟩) (2 * n) cp)).setCell ⟨g, p, none⟩ (.slice (some ⟨gi, 0, none⟩) (2 * n) ci)).drew w2.heap.size (.slice (some ⟨g, 0, none⟩) n kr) n (2 * n) R1 F1 ∧ Mat.Inner n i fa F1 ∧ F1 i i ≠ 0 :=
                      ⟨_, _, hTs, hIn.swap hlt hpt hip, by show F (Mat.sw i p i) i ≠ 0; rw [Mat.sw_here]; exact HF0.out⟩
                    clear hTs HF0 HZ kid fid kpd kp1 fp hgp hgpl hgpg hcp HP HRp hgi hgil hgig hci HRi hEr hIn hF' hpn'
                    generalize ((wa.setCell ⟨g, i, none⟩ (.slice (some ⟨gp, 0, none⟩) (2 * n) cp)).setCell ⟨g, p, none⟩ (.slice (some ⟨gi, 0, none⟩) (2 * n) ci)).drew = wb at *
                    clear hS0 hgl hip hpn hpt hpn2 hp0
                    obtain ⟨g1, c1, hR1, y1, y2, y3, y4, kid, y5, hc1⟩ := hT1.rowAt hlt
                    clear y1 y2 y3 y4 y5
                    have kii := (hc1 i (by omega)).1
                    have CI := fun W => refInv_any (F1 i i).toNat W (Mat.lt _)
                    have e1 : Gf.invR (F1 i i).toNat = (Gf.inv (F1 i i).toNat, 0) := if_neg fun e => h01 (Mat.ext8 e)
                    have e2 := Mat.fi_toNat h01
                    rw [e1, ← e2] at CI
                    obtain ⟨hIn2, h12⟩ := hIn1.scale h01
                    rw [if_pos rfl] at h12
                    obtain ⟨cc, hcc⟩ : ∃ cc, cc = Mat.fi (F1 i i) := ⟨_, rfl⟩
                    rw [← hcc] at CI hIn2 h12
                    clear e1 e2 hcc hc1 hIn1 h01
                    go_wp2_with fail
                    refine (CI _).mono ?_
                    rintro e w9 ⟨rfl, rfl⟩
                    clear CI kii kid hR1
                    go_wp2_with fail
                    go_loopw [14] (fun x wq => ∃ j : Nat, j ≤ 2 * n ∧ x = .int .i64 (j : Int) ∧ Tbl wq w2.heap.size (.slice (some ⟨g, 0, none⟩) n kr) n (2 * n) R1 (fun a b => if a = i then (if b < j then Mat.fm (F1 a b) cc else F1 a b) else F1 a b) ∧ Ext w2 wq) (fun x _ => 2 * n - (intOf x).toNat)
                    case atStart => exact ⟨0, by omega, rfl, hT1.congr fun a b _ _ => by simp, hEs⟩
                    case round =>
                      obtain ⟨j, hj, rfl, hT5, hE5⟩ := hrel
                      by_cases hjt : j < 2 * n
                      · have hjt' : (j : Int) < 2 * (n : Int) := by omega
                        have hj0 : (0 : Int) ≤ (j : Int) := by omega
                        obtain ⟨gi, ci, hRi, hgi, hgil, hgig, hci, kid, fid, hc5⟩ := hT5.rowAt hlt
                        obtain ⟨kjd, fjd⟩ := hc5 j hjt
                        simp only [if_true, Nat.lt_irrefl, if_false] at kjd
                        have C := fun W => refMul_any (F1 i j).toNat cc.toNat W (Mat.lt _) (Mat.lt _)
                        rw [← Mat.fm_toNat] at C
                        have hTp := (hT5.put hlt hRi j (Mat.fm (F1 i j) cc)).ext (Ext.refl _).drew
                        have hEp := (hE5.setCell hgi (i := j) (.int .u8 ((Mat.fm (F1 i j) cc).toNat : Int))).drew
                        have HTp := hide hTp
                        obtain ⟨x, hx⟩ : ∃ x, x = F1 i j := ⟨_, rfl⟩
                        rw [← hx] at kjd C
                        rw [← hx] at hEp
                        have HX := hide hx
                        have HRi := hide hRi
                        clear hT5 hc5 hTp hx hRi
                        go_wp2_with fail
                        refine wp_region_T (fun W => W.cell? ⟨g, i, none⟩ = some (.slice (some ⟨gi, 0, none⟩) (2 * n) ci) ∧ W.cell? ⟨gi, j, none⟩ = some (.int .u8 (x.toNat : Int))) 15 16 #[false, false, false, false, false, false, false, false, false, false, false, false, false, false, false, false] (by kernel_rfl) rfl rfl ⟨kid, kjd⟩ ?_
                        intro hS0
                        refine wpAnyT_take 0 (some 125) (.slice (some ⟨g, 0, none⟩) n kr) #[true, false, false, false, false, false, false, false, false, false, false, false, false, false, false, false] rfl rfl rfl (by kernel_rfl) (fun _ _ _ h => h) hS0 (by rfl) (fun W ⟨x0, x1⟩ => by go_simp) ?_
                        simp only [Act.put, List.setIfInBounds_toArray, List.set_cons_zero, List.set_cons_succ]
                        refine wpAnyT_take 1 (some 126) (.int .i64 (i : Int)) #[true, true, false, false, false, false, false, false, false, false, false, false, false, false, false, false] rfl rfl rfl (by kernel_rfl) (fun _ _ _ h => h) hS0 (by rfl) (fun W ⟨x0, x1⟩ => by go_simp) ?_
                        simp only [Act.put, List.setIfInBounds_toArray, List.set_cons_zero, List.set_cons_succ]
                        refine wpAnyT_take 2 (some 127) (.pointer (some ⟨g, i, none⟩)) #[true, true, true, false, false, false, false, false, false, false, false, false, false, false, false, false] rfl rfl rfl (by kernel_rfl) (fun _ _ _ h => h) hS0 (by rfl) (fun W ⟨x0, x1⟩ => by go_simp) ?_
                        simp only [Act.put, List.setIfInBounds_toArray, List.set_cons_zero, List.set_cons_succ]
                        refine wpAnyT_take 3 (some 128) (.slice (some ⟨gi, 0, none⟩) (2 * n) ci) #[true, true, true, true, false, false, false, false, false, false, false, false, false, false, false, false] rfl rfl rfl (by kernel_rfl) (fun _ _ _ h => h) hS0 (by rfl) (fun W ⟨x0, x1⟩ => by go_simp) ?_
                        simp only [Act.put, List.setIfInBounds_toArray, List.set_cons_zero, List.set_cons_succ]
                        refine wpAnyT_take 4 (some 129) (.int .i64 (j : Int)) #[true, true, true, true, true, false, false, false, false, false, false, false, false, false, false, false] rfl rfl rfl (by kernel_rfl) (fun _ _ _ h => h) hS0 (by rfl) (fun W ⟨x0, x1⟩ => by go_simp) ?_
                        simp only [Act.put, List.setIfInBounds_toArray, List.set_cons_zero, List.set_cons_succ]
                        refine wpAnyT_take 5 (some 130) (.slice (some ⟨g, 0, none⟩) n kr) #[true, true, true, true, true, true, false, false, false, false, false, false, false, false, false, false] rfl rfl rfl (by kernel_rfl) (fun _ _ _ h => h) hS0 (by rfl) (fun W ⟨x0, x1⟩ => by go_simp) ?_
                        simp only [Act.put, List.setIfInBounds_toArray, List.set_cons_zero, List.set_cons_succ]
                        refine wpAnyT_take 6 (some 131) (.int .i64 (i : Int)) #[true, true, true, true, true, true, true, false, false, false, false, false, false, false, false, false] rfl rfl rfl (by kernel_rfl) (fun _ _ _ h => h) hS0 (by rfl) (fun W ⟨x0, x1⟩ => by go_simp) ?_
                        simp only [Act.put, List.setIfInBounds_toArray, List.set_cons_zero, List.set_cons_succ]
                        refine wpAnyT_take 7 (some 132) (.pointer (some ⟨g, i, none⟩)) #[true, true, true, true, true, true, true, true, false, false, false, false, false, false, false, false] rfl rfl rfl (by kernel_rfl) (fun _ _ _ h => h) hS0 (by rfl) (fun W ⟨x0, x1⟩ => by go_simp) ?_
                        simp only [Act.put, List.setIfInBounds_toArray, List.set_cons_zero, List.set_cons_succ]
                        refine wpAnyT_take 8 (some 133) (.slice (some ⟨gi, 0, none⟩) (2 * n) ci) #[true, true, true, true, true, true, true, true, true, false, false, false, false, false, false, false] rfl rfl rfl (by kernel_rfl) (fun _ _ _ h => h) hS0 (by rfl) (fun W ⟨x0, x1⟩ => by go_simp) ?_
                        simp only [Act.put, List.setIfInBounds_toArray, List.set_cons_zero, List.set_cons_succ]
                        refine wpAnyT_take 9 (some 134) (.int .i64 (j : Int)) #[true, true, true, true, true, true, true, true, true, true, false, false, false, false, false, false] rfl rfl rfl (by kernel_rfl) (fun _ _ _ h => h) hS0 (by rfl) (fun W ⟨x0, x1⟩ => by go_simp) ?_
                        simp only [Act.put, List.setIfInBounds_toArray, List.set_cons_zero, List.set_cons_succ]
                        refine wpAnyT_take 10 (some 135) (.pointer (some ⟨gi, j, none⟩)) #[true, true, true, true, true, true, true, true, true, true, true, false, false, false, false, false] rfl rfl rfl (by kernel_rfl) (fun _ _ _ h => h) hS0 (by rfl) (fun W ⟨x0, x1⟩ => by go_simp) ?_
                        simp only [Act.put, List.setIfInBounds_toArray, List.set_cons_zero, List.set_cons_succ]
                        refine wpAnyT_take 11 (some 136) (.int .u8 (x.toNat : Int)) #[true, true, true, true, true, true, true, true, true, true, true, true, false, false, false, false] rfl rfl rfl (by kernel_rfl) (fun _ _ _ h => h) hS0 (by rfl) (fun W ⟨x0, x1⟩ => by go_simp) ?_
                        simp only [Act.put, List.setIfInBounds_toArray, List.set_cons_zero, List.set_cons_succ]
                        refine wpAnyT_take 12 (some 137) (.int .u8 (cc.toNat : Int)) #[true, true, true, true, true, true, true, true, true, true, true, true, true, false, false, false] rfl rfl rfl (by kernel_rfl) (fun _ _ _ h => h) hS0 (by rfl) (fun W ⟨x0, x1⟩ => by go_simp) ?_
                        simp only [Act.put, List.setIfInBounds_toArray, List.set_cons_zero, List.set_cons_succ]
                        refine wpAnyT_only 13 #[true, true, true, true, true, true, true, true, true, true, true, true, true, true, false, false] (by kernel_rfl) rfl rfl (by rfl) (fun K hK => ?_)
                        go_simp
                        refine (C _).mono ?_
                        rintro e w9 ⟨rfl, rfl⟩
                        refine hK _ _ (fun _ => ⟨kid, kjd⟩) ?_
                        clear hK K
                        refine wpAnyT_only 14 #[true, true, true, true, true, true, true, true, true, true, true, true, true, true, true, false] (by kernel_rfl) rfl rfl (by rfl) (fun K hK => ?_)
                        go_simp
                        refine hK _ _ (fun _ => ⟨kid, kjd⟩) ?_
                        clear hK K
                        refine wpAnyT_only 15 #[true, true, true, true, true, true, true, true, true, true, true, true, true, true, true, true] (by kernel_rfl) rfl rfl (by rfl) (fun K hK => ?_)
                        go_simp
                        refine hK _ _ (fun h => absurd h (by decide)) ?_
                        clear hK K
                        refine wpAnyT_done (by kernel_rfl) ?_ _
                        go_wp2
                        go_roundw
                        case rel =>
                          refine ⟨j + 1, by omega, by go_num, Tbl.congr (by have := HTp.out; rw [← HX.out] at this; exact this) fun a b _ _ => ?_, hEp⟩
                          by_cases hai : a = i
                          · subst hai
                            simp only [if_true]
                            by_cases hbj : b = j
                            · subst hbj
                              simp [HX.out]
                            · simp [hbj, show (b < j + 1) = (b < j) from propext ⟨fun h => by omega, fun h => by omega⟩]
                          · simp [hai]
                        case measure => simp [intOf]; omega
                      · obtain rfl : j = 2 * n := by omega
                        have hjt' : ¬ (((2 * n : Nat) : Int) < 2 * (n : Int)) := by omega
                        have hT6 : Tbl wr w2.heap.size (.slice (some ⟨g, 0, none⟩) n kr) n (2 * n) R1 (fun a b => if a = i then Mat.fm (F1 a b) cc else F1 a b) := hT5.congr fun a b _ hb => by simp [hb]
                        obtain ⟨F2, hF2⟩ : ∃ F2 : Mat.M, F2 = fun a b => if a = i then Mat.fm (F1 a b) cc else F1 a b := ⟨_, rfl⟩
                        have h12' : F2 i i = 1 := by rw [hF2]; show (if i = i then _ else _) = _; rw [if_pos rfl]; exact h12
                        rw [← hF2] at hT6 hIn2
                        clear hT5 hT1 hEs hF2 h12
                        go_wp2_with fail
                        go_loopw [15] (fun x wq => ∃ (k : Nat) (F3 : Mat.M), k ≤ n ∧ x = .int .i64 (k : Int) ∧ Tbl wq w2.heap.size (.slice (some ⟨g, 0, none⟩) n kr) n (2 * n) R1 F3 ∧ Mat.Inner n i fa F3 ∧ F3 i i = 1 ∧ (∀ a, a < k → F3 a i = Mat.one a i) ∧ Ext w2 wq) (fun x _ => n - (intOf x).toNat)
                        case atStart => exact ⟨0, F2, by omega, rfl, hT6, hIn2, h12', fun a ha => absurd ha (by omega), hE5⟩
                        case round =>
                          clear hT6 hIn2 h12' hE5
                          obtain ⟨k, F3, hk, rfl, hT6, hIn3, h31, hcol, hE6⟩ := hrel
                          have HC := hide hcol
                          clear hcol
                          by_cases hkt : k < n
                          · obtain ⟨gk, ck, hRk, y1, y2, y3, y4, kkd, y5, hck⟩ := hT6.rowAt hkt
                            have kki := (hck i (by omega)).1
                            clear y1 y2 y3 y4 y5 hck hRk
                            have hk0 : (0 : Int) ≤ (k : Int) := by omega
                            have hkt' : (k : Int) < (n : Int) := by omega
                            obtain ⟨d, hd⟩ : ∃ d, d = F3 k i := ⟨_, rfl⟩
                            rw [← hd] at kki
                            have HD := hide hd
                            clear hd
                            have H31 := hide h31
                            clear h31
                            obtain ⟨wc, rfl⟩ : ∃ W, W = wr := ⟨_, rfl⟩
                            go_wp2_with fail
                            by_cases hki : k = i
                            · subst hki
                              have hkk : ((k : Int) != (k : Int)) = false := by simp
                              go_loop [17] (fun x => x = .int .i64 0) (fun _ => 0)
                              case atStart => rfl
                              case round =>
                                obtain rfl := hrel
                                go_wp2_with fail
                                go_roundw
                                case rel =>
                                  refine ⟨k + 1, F3, by omega, by go_num, hT6, hIn3, H31.out, fun a ha => ?_, hE6⟩
                                  by_cases hak : a = k
                                  · rw [hak, H31.out, Mat.one, if_pos rfl]
                                  · exact HC.out a (by omega)
                                case measure => simp [intOf]; omega
                            · have hkk : ((k : Int) != (i : Int)) = true := by simp; omega
                              have HKI := hide hki
                              clear hki kkd kki
                              go_loopw [17] (fun x wq => ∃ j : Nat, j ≤ 2 * n ∧ x = .int .i64 (j : Int) ∧ Tbl wq w2.heap.size (.slice (some ⟨g, 0, none⟩) n kr) n (2 * n) R1 (fun a b => if a = k then (if b < j then F3 a b ^^^ Mat.fm d (F3 i b) else F3 a b) else F3 a b) ∧ Ext w2 wq) (fun x _ => 2 * n - (intOf x).toNat)
                              case atStart => exact ⟨0, by omega, rfl, hT6.congr fun a b _ _ => by simp, hE6⟩
                              case round =>
                                clear hT6 hE6
                                obtain ⟨j, hj, rfl, hT7, hE7⟩ := hrel
                                by_cases hjt : j < 2 * n
                                · have hjt' : (j : Int) < 2 * (n : Int) := by omega
                                  have hj0 : (0 : Int) ≤ (j : Int) := by omega
                                  obtain ⟨gi, ci, hRi, z1, z2, z3, z4, kid, z5, hc7⟩ := hT7.rowAt hlt
                                  obtain ⟨kjd, fjd⟩ := hc7 j hjt
                                  clear z1 z2 z3 z4 z5 hc7 hRi fjd
                                  obtain ⟨gk, ck, hRk, hgk, z2, z3, z4, kkd, z5, hc8⟩ := hT7.rowAt hkt
                                  obtain ⟨kxd, fxd⟩ := hc8 j hjt
                                  clear z2 z3 z4 z5 hc8
                                  rw [if_neg (fun e => HKI.out e.symm)] at kjd
                                  rw [if_pos rfl, if_neg (Nat.lt_irrefl j)] at kxd
                                  have C := fun W => refMul_any d.toNat (F3 i j).toNat W (Mat.lt _) (Mat.lt _)
                                  rw [← Mat.fm_toNat] at C
                                  have hxor := u8_xor_byte8 (F3 k j) (Mat.fm d (F3 i j))
                                  have hTp := (hT7.put hkt hRk j (F3 k j ^^^ Mat.fm d (F3 i j))).ext (Ext.refl _).drew
                                  have hEp := (hE7.setCell hgk (i := j) (.int .u8 ((F3 k j ^^^ Mat.fm d (F3 i j)).toNat : Int))).drew
                                  have HTp := hide hTp
                                  obtain ⟨x, hx⟩ : ∃ x, x = F3 k j := ⟨_, rfl⟩
                                  obtain ⟨y, hy⟩ : ∃ y, y = F3 i j := ⟨_, rfl⟩
                                  rw [← hx] at kxd hxor hEp
                                  rw [← hy] at kjd C hxor hEp
                                  have HX := hide hx
                                  have HY := hide hy
                                  clear hT7 hTp hx hy hRk
                                  obtain ⟨z, hz⟩ : ∃ z, z = x ^^^ Mat.fm d y := ⟨_, rfl⟩
                                  rw [← hz] at hxor hEp
                                  have HZ2 := hide hz
                                  clear hz
                                  obtain ⟨q, hq⟩ : ∃ q, q = Mat.fm d y := ⟨_, rfl⟩
                                  rw [← hq] at C hxor
                                  have HQ := hide hq
                                  clear hq
                                  go_wp2_with fail
                                  refine wp_region_T (fun W => W.cell? ⟨g, i, none⟩ = some (.slice (some ⟨gi, 0, none⟩) (2 * n) ci) ∧ W.cell? ⟨gi, j, none⟩ = some (.int .u8 (y.toNat : Int)) ∧ W.cell? ⟨g, k, none⟩ = some (.slice (some ⟨gk, 0, none⟩) (2 * n) ck) ∧ W.cell? ⟨gk, j, none⟩ = some (.int .u8 (x.toNat : Int))) 23 24 #[false, false, false, false, false, false, false, false, false, false, false, false, false, false, false, false, false, false, false, false, false, false, false, false] (by kernel_rfl) rfl rfl ⟨kid, kjd, kkd, kxd⟩ ?_
                                  intro hS0
                                  refine wpAnyT_take 0 (some 163) (.slice (some ⟨g, 0, none⟩) n kr) #[true, false, false, false, false, false, false, false, false, false, false, false, false, false, false, false, false, false, false, false, false, false, false, false] rfl rfl rfl (by kernel_rfl) (fun _ _ _ h => h) hS0 (by rfl) (fun W ⟨x0, x1, x2, x3⟩ => by go_simp) ?_
                                  simp only [Act.put, List.setIfInBounds_toArray, List.set_cons_zero, List.set_cons_succ]
                                  refine wpAnyT_take 1 (some 164) (.int .i64 (k : Int)) #[true, true, false, false, false, false, false, false, false, false, false, false, false, false, false, false, false, false, false, false, false, false, false, false] rfl rfl rfl (by kernel_rfl) (fun _ _ _ h => h) hS0 (by rfl) (fun W ⟨x0, x1, x2, x3⟩ => by go_simp) ?_
                                  simp only [Act.put, List.setIfInBounds_toArray, List.set_cons_zero, List.set_cons_succ]
                                  refine wpAnyT_take 2 (some 165) (.pointer (some ⟨g, k, none⟩)) #[true, true, true, false, false, false, false, false, false, false, false, false, false, false, false, false, false, false, false, false, false, false, false, false] rfl rfl rfl (by kernel_rfl) (fun _ _ _ h => h) hS0 (by rfl) (fun W ⟨x0, x1, x2, x3⟩ => by go_simp) ?_
                                  simp only [Act.put, List.setIfInBounds_toArray, List.set_cons_zero, List.set_cons_succ]
                                  refine wpAnyT_take 3 (some 166) (.slice (some ⟨gk, 0, none⟩) (2 * n) ck) #[true, true, true, true, false, false, false, false, false, false, false, false, false, false, false, false, false, false, false, false, false, false, false, false] rfl rfl rfl (by kernel_rfl) (fun _ _ _ h => h) hS0 (by rfl) (fun W ⟨x0, x1, x2, x3⟩ => by go_simp) ?_
                                  simp only [Act.put, List.setIfInBounds_toArray, List.set_cons_zero, List.set_cons_succ]
                                  refine wpAnyT_take 4 (some 167) (.int .i64 (j : Int)) #[true, true, true, true, true, false, false, false, false, false, false, false, false, false, false, false, false, false, false, false, false, false, false, false] rfl rfl rfl (by kernel_rfl) (fun _ _ _ h => h) hS0 (by rfl) (fun W ⟨x0, x1, x2, x3⟩ => by go_simp) ?_
                                  simp only [Act.put, List.setIfInBounds_toArray, List.set_cons_zero, List.set_cons_succ]
                                  refine wpAnyT_take 5 (some 168) (.slice (some ⟨g, 0, none⟩) n kr) #[true, true, true, true, true, true, false, false, false, false, false, false, false, false, false, false, false, false, false, false, false, false, false, false] rfl rfl rfl (by kernel_rfl) (fun _ _ _ h => h) hS0 (by rfl) (fun W ⟨x0, x1, x2, x3⟩ => by go_simp) ?_
                                  simp only [Act.put, List.setIfInBounds_toArray, List.set_cons_zero, List.set_cons_succ]
                                  refine wpAnyT_take 6 (some 169) (.int .i64 (k : Int)) #[true, true, true, true, true, true, true, false, false, false, false, false, false, false, false, false, false, false, false, false, false, false, false, false] rfl rfl rfl (by kernel_rfl) (fun _ _ _ h => h) hS0 (by rfl) (fun W ⟨x0, x1, x2, x3⟩ => by go_simp) ?_
                                  simp only [Act.put, List.setIfInBounds_toArray, List.set_cons_zero, List.set_cons_succ]
                                  refine wpAnyT_take 7 (some 170) (.pointer (some ⟨g, k, none⟩)) #[true, true, true, true, true, true, true, true, false, false, false, false, false, false, false, false, false, false, false, false, false, false, false, false] rfl rfl rfl (by kernel_rfl) (fun _ _ _ h => h) hS0 (by rfl) (fun W ⟨x0, x1, x2, x3⟩ => by go_simp) ?_
                                  simp only [Act.put, List.setIfInBounds_toArray, List.set_cons_zero, List.set_cons_succ]
                                  refine wpAnyT_take 8 (some 171) (.slice (some ⟨gk, 0, none⟩) (2 * n) ck) #[true, true, true, true, true, true, true, true, true, false, false, false, false, false, false, false, false, false, false, false, false, false, false, false] rfl rfl rfl (by kernel_rfl) (fun _ _ _ h => h) hS0 (by rfl) (fun W ⟨x0, x1, x2, x3⟩ => by go_simp) ?_
                                  simp only [Act.put, List.setIfInBounds_toArray, List.set_cons_zero, List.set_cons_succ]
                                  refine wpAnyT_take 9 (some 172) (.int .i64 (j : Int)) #[true, true, true, true, true, true, true, true, true, true, false, false, false, false, false, false, false, false, false, false, false, false, false, false] rfl rfl rfl (by kernel_rfl) (fun _ _ _ h => h) hS0 (by rfl) (fun W ⟨x0, x1, x2, x3⟩ => by go_simp) ?_
                                  simp only [Act.put, List.setIfInBounds_toArray, List.set_cons_zero, List.set_cons_succ]
                                  refine wpAnyT_take 10 (some 173) (.pointer (some ⟨gk, j, none⟩)) #[true, true, true, true, true, true, true, true, true, true, true, false, false, false, false, false, false, false, false, false, false, false, false, false] rfl rfl rfl (by kernel_rfl) (fun _ _ _ h => h) hS0 (by rfl) (fun W ⟨x0, x1, x2, x3⟩ => by go_simp) ?_
                                  simp only [Act.put, List.setIfInBounds_toArray, List.set_cons_zero, List.set_cons_succ]
                                  refine wpAnyT_take 11 (some 174) (.int .u8 (x.toNat : Int)) #[true, true, true, true, true, true, true, true, true, true, true, true, false, false, false, false, false, false, false, false, false, false, false, false] rfl rfl rfl (by kernel_rfl) (fun _ _ _ h => h) hS0 (by rfl) (fun W ⟨x0, x1, x2, x3⟩ => by go_simp) ?_
                                  simp only [Act.put, List.setIfInBounds_toArray, List.set_cons_zero, List.set_cons_succ]
                                  refine wpAnyT_take 12 (some 175) (.int .u8 (d.toNat : Int)) #[true, true, true, true, true, true, true, true, true, true, true, true, true, false, false, false, false, false, false, false, false, false, false, false] rfl rfl rfl (by kernel_rfl) (fun _ _ _ h => h) hS0 (by rfl) (fun W ⟨x0, x1, x2, x3⟩ => by go_simp) ?_
                                  simp only [Act.put, List.setIfInBounds_toArray, List.set_cons_zero, List.set_cons_succ]
                                  refine wpAnyT_take 13 (some 176) (.slice (some ⟨g, 0, none⟩) n kr) #[true, true, true, true, true, true, true, true, true, true, true, true, true, true, false, false, false, false, false, false, false, false, false, false] rfl rfl rfl (by kernel_rfl) (fun _ _ _ h => h) hS0 (by rfl) (fun W ⟨x0, x1, x2, x3⟩ => by go_simp) ?_
                                  simp only [Act.put, List.setIfInBounds_toArray, List.set_cons_zero, List.set_cons_succ]
                                  refine wpAnyT_take 14 (some 177) (.int .i64 (i : Int)) #[true, true, true, true, true, true, true, true, true, true, true, true, true, true, true, false, false, false, false, false, false, false, false, false] rfl rfl rfl (by kernel_rfl) (fun _ _ _ h => h) hS0 (by rfl) (fun W ⟨x0, x1, x2, x3⟩ => by go_simp) ?_
                                  simp only [Act.put, List.setIfInBounds_toArray, List.set_cons_zero, List.set_cons_succ]
                                  refine wpAnyT_take 15 (some 178) (.pointer (some ⟨g, i, none⟩)) #[true, true, true, true, true, true, true, true, true, true, true, true, true, true, true, true, false, false, false, false, false, false, false, false] rfl rfl rfl (by kernel_rfl) (fun _ _ _ h => h) hS0 (by rfl) (fun W ⟨x0, x1, x2, x3⟩ => by go_simp) ?_
                                  simp only [Act.put, List.setIfInBounds_toArray, List.set_cons_zero, List.set_cons_succ]
                                  refine wpAnyT_take 16 (some 179) (.slice (some ⟨gi, 0, none⟩) (2 * n) ci) #[true, true, true, true, true, true, true, true, true, true, true, true, true, true, true, true, true, false, false, false, false, false, false, false] rfl rfl rfl (by kernel_rfl) (fun _ _ _ h => h) hS0 (by rfl) (fun W ⟨x0, x1, x2, x3⟩ => by go_simp) ?_
                                  simp only [Act.put, List.setIfInBounds_toArray, List.set_cons_zero, List.set_cons_succ]
                                  refine wpAnyT_take 17 (some 180) (.int .i64 (j : Int)) #[true, true, true, true, true, true, true, true, true, true, true, true, true, true, true, true, true, true, false, false, false, false, false, false] rfl rfl rfl (by kernel_rfl) (fun _ _ _ h => h) hS0 (by rfl) (fun W ⟨x0, x1, x2, x3⟩ => by go_simp) ?_
                                  simp only [Act.put, List.setIfInBounds_toArray, List.set_cons_zero, List.set_cons_succ]
                                  refine wpAnyT_take 18 (some 181) (.pointer (some ⟨gi, j, none⟩)) #[true, true, true, true, true, true, true, true, true, true, true, true, true, true, true, true, true, true, true, false, false, false, false, false] rfl rfl rfl (by kernel_rfl) (fun _ _ _ h => h) hS0 (by rfl) (fun W ⟨x0, x1, x2, x3⟩ => by go_simp) ?_
                                  simp only [Act.put, List.setIfInBounds_toArray, List.set_cons_zero, List.set_cons_succ]
                                  refine wpAnyT_take 19 (some 182) (.int .u8 (y.toNat : Int)) #[true, true, true, true, true, true, true, true, true, true, true, true, true, true, true, true, true, true, true, true, false, false, false, false] rfl rfl rfl (by kernel_rfl) (fun _ _ _ h => h) hS0 (by rfl) (fun W ⟨x0, x1, x2, x3⟩ => by go_simp) ?_
                                  simp only [Act.put, List.setIfInBounds_toArray, List.set_cons_zero, List.set_cons_succ]
                                  refine wpAnyT_only 20 #[true, true, true, true, true, true, true, true, true, true, true, true, true, true, true, true, true, true, true, true, true, false, false, false] (by kernel_rfl) rfl rfl (by rfl) (fun K hK => ?_)
                                  go_simp
                                  refine (C _).mono ?_
                                  rintro e w9 ⟨rfl, rfl⟩
                                  refine hK _ _ (fun _ => ⟨kid, kjd, kkd, kxd⟩) ?_
                                  clear hK K
                                  refine wpAnyT_only 21 #[true, true, true, true, true, true, true, true, true, true, true, true, true, true, true, true, true, true, true, true, true, true, false, false] (by kernel_rfl) rfl rfl (by rfl) (fun K hK => ?_)
                                  go_simp
                                  refine hK _ _ (fun _ => ⟨kid, kjd, kkd, kxd⟩) ?_
                                  clear hK K
                                  refine wpAnyT_only 22 #[true, true, true, true, true, true, true, true, true, true, true, true, true, true, true, true, true, true, true, true, true, true, true, false] (by kernel_rfl) rfl rfl (by rfl) (fun K hK => ?_)
                                  go_simp
                                  refine hK _ _ (fun _ => ⟨kid, kjd, kkd, kxd⟩) ?_
                                  clear hK K
                                  refine wpAnyT_only 23 #[true, true, true, true, true, true, true, true, true, true, true, true, true, true, true, true, true, true, true, true, true, true, true, true] (by kernel_rfl) rfl rfl (by rfl) (fun K hK => ?_)
                                  go_simp
                                  refine hK _ _ (fun h => absurd h (by decide)) ?_
                                  clear hK K
                                  refine wpAnyT_done (by kernel_rfl) ?_ _
                                  go_wp2
                                  go_roundw
                                  case rel =>
                                    refine ⟨j + 1, by omega, by go_num, Tbl.congr (by have := HTp.out; rw [← HX.out, ← HY.out, ← HZ2.out] at this; exact this) fun a b _ _ => ?_, hEp⟩
                                    by_cases hak : a = k
                                    · subst hak
                                      by_cases hbj : b = j
                                      · subst hbj
                                        rw [if_pos rfl, if_pos rfl, if_pos rfl, if_pos (Nat.lt_succ_self _), HZ2.out, HX.out, HY.out]
                                      · simp [hbj, show (b < j + 1) = (b < j) from propext ⟨fun h => by omega, fun h => by omega⟩]
                                    · simp [hak]
                                  case measure => simp [intOf]; omega
                                · obtain rfl : j = 2 * n := by omega
                                  have hjt' : ¬ (((2 * n : Nat) : Int) < 2 * (n : Int)) := by omega
                                  obtain ⟨hA1, hA2, hA3⟩ := hIn3.add hlt H31.out HKI.out HC.out
                                  rw [← HD.out] at hA1 hA2 hA3
                                  have hT8 : Tbl wr w2.heap.size (.slice (some ⟨g, 0, none⟩) n kr) n (2 * n) R1 (fun a b => if a = k then F3 a b ^^^ Mat.fm d (F3 i b) else F3 a b) := hT7.congr fun a b _ hb => by simp [hb]
                                  have HA1 := hide hA1
                                  have HA2 := hide hA2
                                  have HA3 := hide hA3
                                  clear hT7 hA1 hA2 hA3
                                  go_wp2_with fail
                                  go_roundw
                                  case rel => exact ⟨k + 1, _, by omega, by go_num, hT8, HA1.out, HA2.out, HA3.out, hE7⟩
                                  case measure => simp [intOf]; omega
                          · obtain rfl : k = n := by omega
                            have hIn4 := hIn3.next HC.out
                            clear hIn3
                            go_wp2_with fail
                            go_roundw
                            case rel => exact ⟨i + 1, R1, F3, by omega, by go_num, hT6, hIn4, hE6⟩
                            case measure => simp [intOf]; omega
                · obtain rfl : n = p := by omega
                  have hnn : ((n : Int) == (n : Int)) = true := by simp
                  obtain ⟨v, hv⟩ := hIn.flat hlt (fun a h1 h2 => HZ.out a h1 h2)
                  have hres := HI2.out v hv
                  have hWz := hWr2.ext hEr
                  have hEf := hEw2.trans hEr
                  clear hv
                  go_wp2_with (refine wpList_storeW rfl 42 (.tmp 2) (.tmp 93) rfl rfl rfl hWz rfl mat_info (mat_one rfl) ?_; intro w5 hW5 hG5 _)
                  refine bodyPost_ret (results_mat rfl _ rfl rfl hW5 rfl) rfl ?_
                  exact MadeM.zero 14 (Below.grown hEf hG5 hEf.le (fun k hk => by cases hk; omega))
            · obtain rfl : n = i := by omega
              obtain ⟨X, hX⟩ : ∃ X : Mat.M, X = fun a b => F a (n + b) := ⟨_, rfl⟩
              have hInv := hIn.done
              rw [← hX] at hInv
              have HRes := hide (HV.out X hInv)
              have HXe := hide (show ∀ a b, X a b = F a (n + b) from fun a b => by rw [hX])
              clear hIn hInv hX hlt hi
              obtain ⟨wa, rfl⟩ : ∃ W, W = wr := ⟨_, rfl⟩
              have hN := extNew wa (.cells #[.int .i64 n, .int .i64 n, .slice none 0 0] 42)
              have hWx := Whole.new wa 42 #[.int .i64 n, .int .i64 n, .slice none 0 0]
              obtain ⟨gx, hgx⟩ : ∃ gx, gx = wa.heap.size := ⟨_, rfl⟩
              go_wp2_with fail
              rw [← hgx] at hWx ⊢
              have HG := hide hgx
              clear hgx
              go_loopw [19] (fun x wq => ∃ j : Nat, j ≤ n ∧ x = .int .i64 (j : Int) ∧ Made wq (gx + 1) gx n n (cellsOf n X (j * n)) ∧ Ext wa wq) (fun x _ => n - (intOf x).toNat)
              case atStart => exact ⟨0, by omega, rfl, ⟨_, hWx, by rw [Nat.zero_mul]; exact OwnB.nil _ _⟩, hN⟩
              case round =>
                obtain ⟨i, hi, rfl, ⟨v, hWv, hO⟩, hE8⟩ := hrel
                by_cases hlt : i < n
                · have hTd := (hT.ext hE8).ext (Ext.refl wr).drew
                  obtain ⟨g, kr, rfl, hgB, hgl⟩ := hT.form (by omega)
                  obtain ⟨gi, ci, hRi, hgi, hgil, hgig, hci, kid, fid, hc8⟩ := hTd.rowAt hlt
                  obtain ⟨A3, n3, c3, rfl, _, _, _⟩ := hO.form'
                  have hB8 : Bytes wr.drew wr.drew.heap.size (some ⟨gi, 0, none⟩) (2 * n) (rowB (2 * n) (F i)) :=
                    ⟨rowB_len _ _, .inr ⟨gi, 0, rfl, hgil, fun j hj => by rw [Nat.zero_add, rowB_at _ hj]; exact (hc8 j hj).1⟩⟩
                  have hB9 := hB8.drop (k := n) (by omega) hci
                  rw [rowB_drop, rowB_congr (g := X i) (fun j _ => (HXe.out i j).symm)] at hB9
                  have hS := cellsOf_row n X i (by omega) n (Nat.le_refl _)
                  have hS' : cellsOf n X ((i + 1) * n) = cellsOf n X (i * n) ++ rowB n (X i) := by rw [← hS, Nat.add_mul, Nat.one_mul]
                  have HS := hide hS'
                  have hnn : n * n ≤ 65025 := Nat.mul_le_mul hn hn
                  have hin2 : (i + 1) * n ≤ n * n := Nat.mul_le_mul_right _ hlt
                  rw [Nat.add_mul, Nat.one_mul] at hin2
                  have hfit : (cellsOf n X (i * n)).length + (2 * n - n) ≤ 140737488355328 := by rw [cellsOf_len]; omega
                  have hWd := hWv.ext (Ext.refl wr).drew
                  have hOd := hO.ext (Ext.refl wr).drew
                  have k2 := hWd.at 2 rfl
                  have hBx : gx + 1 ≤ wr.drew.heap.size := hWd.lt
                  have hne1 : (Value.slice A3 n3 c3).ownBlock ≠ some gx := fun e => by
                    have := (hO.lt _ e).1
                    omega
                  have hn0 : (0 : Int) ≤ (n : Int) := by omega
                  have hcn : (n : Int) ≤ 2 * (n : Int) := by omega
                  have hcn' : (n : Int) ≤ ((2 * n : Nat) : Int) := by omega
                  have hi0 : (0 : Int) ≤ (i : Int) := by omega
                  have hin : (i : Int) < (n : Int) := by omega
                  have hE8d := hE8.drew
                  clear hTd hRi hgi hgil hgig hc8 fid hS hS' hB8 hgB hgl hnn hin2
                  go_wp2_with fail
                  refine wp_region_T (fun W => W.cell? ⟨gx, 2, none⟩ = some (.slice A3 n3 c3) ∧ W.cell? ⟨g, i, none⟩ = some (.slice (some ⟨gi, 0, none⟩) (2 * n) ci)) 8 11 #[false, false, false, false, false, false, false, false, false, false, false] (by kernel_rfl) rfl rfl ⟨k2, kid⟩ ?_
                  intro hS0
                  refine wpAnyT_take 0 (some 194) (.pointer (some ⟨gx, 2, none⟩)) #[true, false, false, false, false, false, false, false, false, false, false] rfl rfl rfl (by kernel_rfl) (fun _ _ _ h => h) hS0 (by rfl) (fun W ⟨x0, x1⟩ => by go_simp) ?_
                  simp only [Act.put, List.setIfInBounds_toArray, List.set_cons_zero, List.set_cons_succ]
                  refine wpAnyT_take 1 (some 195) (.slice A3 n3 c3) #[true, true, false, false, false, false, false, false, false, false, false] rfl rfl rfl (by kernel_rfl) (fun _ _ _ h => h) hS0 (by rfl) (fun W ⟨x0, x1⟩ => by go_simp) ?_
                  simp only [Act.put, List.setIfInBounds_toArray, List.set_cons_zero, List.set_cons_succ]
                  refine wpAnyT_take 2 (some 196) (.slice (some ⟨g, 0, none⟩) n kr) #[true, true, true, false, false, false, false, false, false, false, false] rfl rfl rfl (by kernel_rfl) (fun _ _ _ h => h) hS0 (by rfl) (fun W ⟨x0, x1⟩ => by go_simp) ?_
                  simp only [Act.put, List.setIfInBounds_toArray, List.set_cons_zero, List.set_cons_succ]
                  refine wpAnyT_take 3 (some 197) (.int .i64 (i : Int)) #[true, true, true, true, false, false, false, false, false, false, false] rfl rfl rfl (by kernel_rfl) (fun _ _ _ h => h) hS0 (by rfl) (fun W ⟨x0, x1⟩ => by go_simp) ?_
                  simp only [Act.put, List.setIfInBounds_toArray, List.set_cons_zero, List.set_cons_succ]
                  refine wpAnyT_take 4 (some 198) (.pointer (some ⟨g, i, none⟩)) #[true, true, true, true, true, false, false, false, false, false, false] rfl rfl rfl (by kernel_rfl) (fun _ _ _ h => h) hS0 (by rfl) (fun W ⟨x0, x1⟩ => by go_simp) ?_
                  simp only [Act.put, List.setIfInBounds_toArray, List.set_cons_zero, List.set_cons_succ]
                  refine wpAnyT_take 5 (some 199) (.slice (some ⟨gi, 0, none⟩) (2 * n) ci) #[true, true, true, true, true, true, false, false, false, false, false] rfl rfl rfl (by kernel_rfl) (fun _ _ _ h => h) hS0 (by rfl) (fun W ⟨x0, x1⟩ => by go_simp) ?_
                  simp only [Act.put, List.setIfInBounds_toArray, List.set_cons_zero, List.set_cons_succ]
                  refine wpAnyT_take 6 (some 200) (.int .i64 (n : Int)) #[true, true, true, true, true, true, true, false, false, false, false] rfl rfl rfl (by kernel_rfl) (fun _ _ _ h => h) hS0 (by rfl) (fun W ⟨x0, x1⟩ => by go_simp) ?_
                  simp only [Act.put, List.setIfInBounds_toArray, List.set_cons_zero, List.set_cons_succ]
                  refine wpAnyT_take 7 (some 201) (.slice (cutAt (some ⟨gi, 0, none⟩) ci n) (2 * n - n) (ci - n)) #[true, true, true, true, true, true, true, true, false, false, false] rfl rfl rfl (by kernel_rfl) (fun _ _ _ h => h) hS0 (by rfl) (fun W ⟨x0, x1⟩ => by go_simp) ?_
                  simp only [Act.put, List.setIfInBounds_toArray, List.set_cons_zero, List.set_cons_succ]
                  refine wpAnyT_only 8 #[true, true, true, true, true, true, true, true, true, false, false] (by kernel_rfl) rfl rfl (by rfl) (fun K hK => ?_)
                  refine wp_appAt (.tmp 195) (.tmp 201) rfl rfl hOd rfl hB9 hfit hBx ?_
                  intro v7 w7 hO7 hG7 _
                  have hW7 := hWd.ownGrown hG7 hne1
                  have o1 := hO7.one
                  have o2 := hO7.cells1
                  refine hK _ _ (fun h => absurd h (by decide)) ?_
                  clear hK K
                  refine wpAnyT_only 9 #[true, true, true, true, true, true, true, true, true, true, false] (by kernel_rfl) rfl rfl (by rfl) (fun K hK => ?_)
                  go_simp
                  refine hK _ _ (fun h => absurd h (by decide)) ?_
                  clear hK K
                  refine wpAnyT_only 10 #[true, true, true, true, true, true, true, true, true, true, true] (by kernel_rfl) rfl rfl (by rfl) (fun K hK => ?_)
                  refine wp_storeC 35 (.tmp 203) (.tmp 202) rfl #[.int .i64 n, .int .i64 n, v7] rfl rfl hW7 (by simp) (by kernel_rfl) o1 o2 rfl ?_
                  intro w8 hW8 hG8
                  refine hK _ _ (fun h => absurd h (by decide)) ?_
                  clear hK K
                  refine wpAnyT_done (by kernel_rfl) ?_ _
                  go_wp2
                  go_roundw
                  case rel =>
                    have hne8 : v7.ownBlock ≠ some gx := fun e => by
                      have := (hO7.lt _ e).1
                      omega
                    have hgxa : wa.heap.size ≤ gx := by rw [HG.out]; exact Nat.le_refl _
                    have hF7 : Ext wa w7 := Below.grown hE8d hG7 hE8d.le (fun k hk => by have := (hOd.lt k hk).1; omega)
                    have hF8 : Ext wa w8 := Below.grown hF7 hG8 hF7.le (fun k hk => by cases hk; exact hgxa)
                    exact ⟨i + 1, by omega, by go_num, ⟨v7, hW8, by rw [HS.out]; exact (Mod.ofRow (ob := none) hG8).own hO7 hne8 (by simp [Classical.em])⟩, hF8⟩
                  case measure => simp [intOf]; omega
                · obtain rfl : n = i := by omega
                  have o1 := hO.one
                  have hWz := (hWr2.ext hEr).ext hE8
                  have hEf := (hEw2.trans hEr).trans hE8
                  have hgxa : w.heap.size + 2 ≤ gx + 1 := by
                    have := HG.out
                    have := hEr.le
                    omega
                  go_wp2_with (first
                    | (refine wpList_load_row rfl 42 (.tmp 18) rfl _ rfl _ _ _ _ hWv Try.underlying42 rfl mat_info ?_)
                    | (refine wpList_storeW rfl 42 (.tmp 2) (.tmp 204) rfl rfl rfl hWz rfl mat_info (mat_one o1) ?_; intro w5 hW5 hG5 _))
                  refine bodyPost_ret (results_mat rfl _ rfl rfl hW5 rfl) rfl ?_
                  rw [HRes.out]
                  have hne5 : v.ownBlock ≠ some (w.heap.size + 1) := fun e => by
                    have := (hO.lt _ e).1
                    omega
                  exact ⟨v, rfl, ((Mod.ofRow (ob := none) hG5).own hO hne5 (by simp [Classical.em])).mono (by omega), Below.grown hEf hG5 hEf.le (fun k hk => by cases hk; omega)⟩
    · have HN := hide (MV.invE_not fun h => hrc h.2)
      rw [HN.out]
      have hne : (m.r != m.c) = true := by simpa using hrc
      clear hrc hm q1 q2 q3 q4 q5 HN
      go_enter Try.func48, Try.ntmps48
      go_wp2_with fail
      refine (M1 _).mono ?_
      rintro e w2 ⟨rfl, hF2⟩
      have hWa2 := hWa.ext hF2
      have hWr2 := hWr.ext hF2
      have hEw2 := hE.trans hF2
      have b0 := hWa2.at 0 rfl
      have b1 := hWa2.at 1 rfl
      have b2 := hWa2.at 2 rfl
      clear M1 hE hWa hWr hF2
      go_wp2_with (refine wpList_storeW rfl 42 (.tmp 2) (.tmp 30) rfl rfl rfl hWr2 rfl mat_info (mat_one rfl) ?_; intro w5 hW5 hG5 _)
      refine bodyPost_ret (results_mat rfl _ rfl rfl hW5 rfl) rfl ?_
      exact MadeM.zero 13 (Below.grown hEw2 hG5 hEw2.le (fun k hk => by cases hk; omega))
  · have HN := hide (MV.invE_not fun h => hm h.1)
    rw [HN.out]
    rw [Bool.not_eq_true] at hm
    rw [hm] at M1
    clear hm HN
    go_enter Try.func48, Try.ntmps48
    go_wp2_with fail
    refine (M1 _).mono ?_
    rintro e w2 ⟨rfl, hF2⟩
    have hWr2 := hWr.ext hF2
    have hEw2 := hE.trans hF2
    clear M1 hE hWa hWr hF2
    go_wp2_with (refine wpList_storeW rfl 42 (.tmp 2) (.tmp 30) rfl rfl rfl hWr2 rfl mat_info (mat_one rfl) ?_; intro w5 hW5 hG5 _)
    refine bodyPost_ret (results_mat rfl _ rfl rfl hW5 rfl) rfl ?_
    exact MadeM.zero 13 (Below.grown hEw2 hG5 hEw2.le (fun k hk => by cases hk; omega))
end Go.Proofs.Ytbfkknoeaekajaa
