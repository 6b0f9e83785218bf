/- The document's product of matrices. -/
import Derived.Test.YtedkajpodepkiaaMatDef
namespace Go.Proofs.Ytedkajpodepkiaa
open Go.RowKit

set_option maxHeartbeats 4000000 in
set_option maxRecDepth 100000 in
theorem refMatMul_any (a b : MV) (A1 A2 : Option Addr) (k1 k2 : Nat) (w : World) (h1 : Bytes w w.heap.size A1 a.l.length a.l) (h2 : Bytes w w.heap.size A2 b.l.length b.l) (hl1 : a.l.length ≤ maxLen) (hl2 : b.l.length ≤ maxLen) :
    Calls Try.prog 28 #[.agg #[.int .i64 a.r, .int .i64 a.c, .slice A1 a.l.length k1], .agg #[.int .i64 b.r, .int .i64 b.c, .slice A2 b.l.length k2]] w
      (if a.may = true ∧ b.may = true ∧ a.c = b.r then MadeM w (a.mulR b) 0 else MadeM w MV.zero 13) := by
  have M1 := fun W => refMay_any a A1 a.l.length k1 W rfl hl1
  have M2 := fun W => refMay_any b A2 b.l.length k2 W rfl hl2
  have hE1 := extNew w (.cells #[.int .i64 a.r, .int .i64 a.c, .slice A1 a.l.length k1] 24)
  have hE2 := extNew (w.alloc (.cells #[.int .i64 a.r, .int .i64 a.c, .slice A1 a.l.length k1] 24)) (.cells #[.int .i64 b.r, .int .i64 b.c, .slice A2 b.l.length k2] 24)
  have hE3 := extNew ((w.alloc (.cells #[.int .i64 a.r, .int .i64 a.c, .slice A1 a.l.length k1] 24)).alloc (.cells #[.int .i64 b.r, .int .i64 b.c, .slice A2 b.l.length k2] 24)) (.cells #[.int .i64 0, .int .i64 0, .slice none 0 0] 24)
  have hWa := ((Whole.new w 24 #[.int .i64 a.r, .int .i64 a.c, .slice A1 a.l.length k1]).ext hE2).ext hE3
  have hWb := (Whole.new (w.alloc (.cells #[.int .i64 a.r, .int .i64 a.c, .slice A1 a.l.length k1] 24)) 24 #[.int .i64 b.r, .int .i64 b.c, .slice A2 b.l.length k2]).ext hE3
  have hWr := Whole.new ((w.alloc (.cells #[.int .i64 a.r, .int .i64 a.c, .slice A1 a.l.length k1] 24)).alloc (.cells #[.int .i64 b.r, .int .i64 b.c, .slice A2 b.l.length k2] 24)) 24 #[.int .i64 0, .int .i64 0, .slice none 0 0]
  have hE := (hE1.trans hE2).trans hE3
  rw [World.size_alloc] at hWb
  rw [World.size_alloc, World.size_alloc] at hWr
  clear hE1 hE2 hE3
  by_cases hok : a.may = true ∧ b.may = true ∧ a.c = b.r
  · rw [if_pos hok]
    obtain ⟨ha, hb, hcr⟩ := hok
    rw [ha] at M1
    rw [hb] at M2
    obtain ⟨q1, q2, q3, q4, q5⟩ := MV.may_iff.1 ha
    obtain ⟨p1, p2, p3, p4, p5⟩ := MV.may_iff.1 hb
    have HR := hide (show a.mulR b = ⟨a.r, b.c, cellsOf b.c.toNat (Mat.mm a.c.toNat a.at b.at) (a.r.toNat * b.c.toNat)⟩ from rfl)
    have HA := hide (show ∀ i j, a.at i j = a.l.getD (i * a.c.toNat + j) 0 from fun _ _ => rfl)
    have HB := hide (show ∀ i j, b.at i j = b.l.getD (i * b.c.toNat + j) 0 from fun _ _ => rfl)
    generalize a.at = fa at *
    generalize b.at = fb at *
    rw [HR.out]
    clear HR ha hb
    obtain ⟨ar, ac, la⟩ := a
    obtain ⟨br, bc, lb⟩ := b
    dsimp only at *
    subst hcr
    obtain ⟨ar, rfl⟩ := Int.eq_ofNat_of_zero_le q1
    obtain ⟨ac, rfl⟩ := Int.eq_ofNat_of_zero_le q3
    obtain ⟨bc, rfl⟩ := Int.eq_ofNat_of_zero_le p3
    simp only [Int.toNat_natCast] at *
    have la5 : la.length = ar * ac := by omega
    have lb5 : lb.length = ac * bc := by omega
    have ha1 : ar ≤ 255 := by omega
    have ha2 : ac ≤ 255 := by omega
    have hb2 : bc ≤ 255 := by omega
    have hab : ar * bc ≤ 255 * 255 := Nat.mul_le_mul ha1 hb2
    have hac : ar * ac ≤ 255 * 255 := Nat.mul_le_mul ha1 ha2
    have hcb : ac * bc ≤ 255 * 255 := Nat.mul_le_mul ha2 hb2
    have HLa := hide la5
    have HLb := hide lb5
    have hne : ((ac : Int) != (ac : Int)) = false := by simp
    clear q1 q2 q3 q4 q5 p1 p2 p3 p4 p5 la5 lb5 hl1 hl2
    go_enter Try.func28, Try.ntmps28
    go_wp2_with fail
    refine (M1 _).mono ?_
    rintro e w2 ⟨rfl, hF2⟩
    have hWb2 := hWb.ext hF2
    have hWa2 := hWa.ext hF2
    have hWr2 := hWr.ext hF2
    have b0 := hWb2.at 0 rfl
    have b1 := hWb2.at 1 rfl
    have b2 := hWb2.at 2 rfl
    go_wp2_with fail
    refine (M2 _).mono ?_
    rintro e w3 ⟨rfl, hF3⟩
    have hWb3 := hWb2.ext hF3
    have hWa3 := hWa2.ext hF3
    have hWr3 := hWr2.ext hF3
    have hE3 := (hE.trans hF2).trans hF3
    have d0 := hWa3.at 0 rfl
    have d1 := hWa3.at 1 rfl
    have e0 := hWb3.at 0 rfl
    have e1 := hWb3.at 1 rfl
    have hrl := hWr3.lt
    have hN := extNew w3 (.cells #[.int .i64 ar, .int .i64 bc, .slice none 0 0] 24)
    have hWx := Whole.new w3 24 #[.int .i64 ar, .int .i64 bc, .slice none 0 0]
    clear M1 M2 hF2 hF3 hWa2 hWb2 hWr2 hWa hWb hWr hE b0 b1 b2
    obtain ⟨gx, hgx⟩ : ∃ gx, gx = w3.heap.size := ⟨_, rfl⟩
    go_wp2_with fail
    rw [← hgx] at hWx ⊢
    have hg1 : w3.heap.size ≤ gx := by omega
    have HG := hide hgx
    clear hgx
    go_loopw [7] (fun i wr => ∃ j : Nat, j ≤ ar ∧ i = .int .i64 (j : Int) ∧ Made wr (gx + 1) gx ar bc (cellsOf bc (Mat.mm ac fa fb) (j * bc)) ∧ Ext w3 wr) (fun i _ => ar - (intOf i).toNat)
    case atStart => exact ⟨0, by omega, rfl, ⟨_, hWx, by rw [Nat.zero_mul]; exact OwnB.nil _ _⟩, hN⟩
    case round =>
      obtain ⟨i, hi, rfl, hMd, hEr⟩ := hrel
      have d0' := (hWa3.ext hEr).at 0 rfl
      have e1' := (hWb3.ext hEr).at 1 rfl
      by_cases hlt : i < ar
      · go_wp2_with fail
        go_loopw [8] (fun x wr => ∃ j : Nat, j ≤ bc ∧ x = .int .i64 (j : Int) ∧ Made wr (gx + 1) gx ar bc (cellsOf bc (Mat.mm ac fa fb) (i * bc + j)) ∧ Ext w3 wr) (fun x _ => bc - (intOf x).toNat)
        case atStart => exact ⟨0, by omega, rfl, by rw [Nat.add_zero]; exact hMd, hEr⟩
        case round =>
          obtain ⟨j, hj, rfl, hMd2, hEr2⟩ := hrel
          have d1' := (hWa3.ext hEr2).at 1 rfl
          have e1' := (hWb3.ext hEr2).at 1 rfl
          by_cases hjt : j < bc
          · go_wp2_with fail
            go_loopw [9, 10] (fun c x wq => ∃ k : Nat, k ≤ ac ∧ x = .int .i64 (k : Int) ∧ c = .int .u8 ((Mat.sum k fun t => Mat.fm (fa i t) (fb t j)).toNat : Int) ∧ Ext wr wq) (fun _ x _ => ac - (intOf x).toNat)
            case atStart => exact ⟨0, by omega, rfl, rfl, Ext.refl _⟩
            case round =>
              obtain ⟨k, hk, rfl, rfl, hEq⟩ := hrel
              have hE2q := hEr2.trans hEq
              have f1 := (hWa3.ext hE2q).at 1 rfl
              have f2 := (hWa3.ext hE2q).at 2 rfl
              have f3 := (hWb3.ext hE2q).at 1 rfl
              have f4 := (hWb3.ext hE2q).at 2 rfl
              by_cases hkt : k < ac
              · have hEw := hE3.trans hE2q
                have hia : i * ac + k < ar * ac := by
                  have : (i + 1) * ac ≤ ar * ac := Nat.mul_le_mul_right _ hlt
                  rw [Nat.add_mul, Nat.one_mul] at this
                  omega
                have hkb : k * bc + j < ac * bc := by
                  have : (k + 1) * bc ≤ ac * bc := Nat.mul_le_mul_right _ hkt
                  rw [Nat.add_mul, Nat.one_mul] at this
                  omega
                obtain ⟨_, h1'⟩ := hEw.bytes h1
                obtain ⟨_, h2'⟩ := hEw.bytes h2
                rcases h1' with h0 | ⟨g1, o1, hA1, _, hc1⟩
                · have := HLa.out; omega
                rcases h2' with h0 | ⟨g2, o2, hA2, _, hc2⟩
                · have := HLb.out; omega
                subst hA1
                subst hA2
                have m1 := hc1 (i * ac + k) (by have := HLa.out; omega)
                have m2 := hc2 (k * bc + j) (by have := HLb.out; omega)
                rw [← HA.out] at m1
                rw [← HB.out] at m2
                have C := fun m => refMul_any (fa i k).toNat (fb k j).toNat (wr.drewN m) (Mat.lt _) (Mat.lt _)
                have hmx := Gf.mul_lt (Mat.lt (fa i k)) (Mat.lt (fb k j))
                have HS := hide (show Mat.sum (k + 1) (fun t => Mat.fm (fa i t) (fb t j)) = Mat.sum k (fun t => Mat.fm (fa i t) (fb t j)) ^^^ Mat.fm (fa i k) (fb k j) from rfl)
                have hx := u8_xor_byte8 (Mat.sum k fun t => Mat.fm (fa i t) (fb t j)) (Mat.fm (fa i k) (fb k j))
                rw [Mat.fm_toNat] at hx
                have hb1 : (i : Int) * (ac : Int) = ((i * ac : Nat) : Int) := (Int.natCast_mul i ac).symm
                have hb2' : (k : Int) * (bc : Int) = ((k * bc : Nat) : Int) := (Int.natCast_mul k bc).symm
                have hP1 : i * ac ≤ 65025 := by omega
                have hP2 : k * bc ≤ 65025 := by omega
                have hm1 : IntKind.i64.wrap ((i : Int) * (ac : Int)) = ((i * ac : Nat) : Int) := by rw [hb1, IntKind.wrap_i64]; omega
                have hm2 : IntKind.i64.wrap ((k : Int) * (bc : Int)) = ((k * bc : Nat) : Int) := by rw [hb2', IntKind.wrap_i64]; omega
                have hla : (la.length : Int) = ((ar * ac : Nat) : Int) := by rw [HLa.out]
                have hlb : (lb.length : Int) = ((ac * bc : Nat) : Int) := by rw [HLb.out]
                generalize i * ac = P at *
                generalize k * bc = Q at *
                have g1a : ((P : Int) + (k : Int)) < (la.length : Int) := by omega
                have g2a : ((Q : Int) + (j : Int)) < (lb.length : Int) := by omega
                have g1b : (0 : Int) ≤ ((P : Int) + (k : Int)) := by omega
                have g2b : (0 : Int) ≤ ((Q : Int) + (j : Int)) := by omega
                clear hb1 hb2' hla hlb hc1 hc2 h1 h2 hMd hMd2
                generalize Gf.mul (fa i k).toNat (fb k j).toNat = y at *
                generalize Mat.sum k (fun t => Mat.fm (fa i t) (fb t j)) = S at *
                generalize fa i k = xa at *
                generalize fb k j = xb at *
                generalize Mat.fm xa xb = z at *
                generalize S ^^^ z = N at *
                go_wp2_with fail
                go_quiet (first | (go_at_call 39; exact Calls.quiet_of ((C _).mono fun _ _ ⟨he, hw⟩ => ⟨he, 0, hw.symm⟩)))
                go_wp2
                go_roundw
                case rel => exact ⟨k + 1, by omega, by go_num, by rw [HS.out], hEq.drewN _⟩
                case measure => simp [intOf]; omega
              · obtain rfl : k = ac := by omega
                obtain ⟨v, hWv0, hO0⟩ := hMd2
                have hWv := hWv0.ext hEq
                have hO := hO0.ext hEq
                have hS := cellsOf_succ bc (Mat.mm k fa fb) (i * bc + j)
                have hdiv : (i * bc + j) / bc = i := by
                  rw [Nat.mul_comm, Nat.mul_add_div (by omega), Nat.div_eq_of_lt hjt, Nat.add_zero]
                have hmod : (i * bc + j) % bc = j := by
                  rw [Nat.mul_comm, Nat.mul_add_mod, Nat.mod_eq_of_lt hjt]
                rw [hdiv, hmod] at hS
                have hcell : Mat.mm k fa fb i j = Mat.sum k fun t => Mat.fm (fa i t) (fb t j) := rfl
                rw [hcell] at hS
                have HS := hide hS
                have hlen := cellsOf_len bc (Mat.mm k fa fb) (i * bc + j)
                have hib : i * bc + j < ar * bc := by
                  have : (i + 1) * bc ≤ ar * bc := Nat.mul_le_mul_right _ hlt
                  rw [Nat.add_mul, Nat.one_mul] at this
                  omega
                have hfit : (cellsOf bc (Mat.mm k fa fb) (i * bc + j)).length + 1 ≤ 140737488355328 := by omega
                generalize Mat.sum k (fun t => Mat.fm (fa i t) (fb t j)) = bt at *
                have hbt := bt.toNat_lt
                have hb1 := bytesNew wr [bt] #[.int .u8 (bt.toNat : Int)] 5 (0, 0) rfl 1 rfl
                have hE4 := extNew wr (.cells #[.int .u8 (bt.toNat : Int)] 5)
                have hO1 := hO.ext hE4
                have hW4 := hWv.ext hE4
                have hlt2 := hWv.lt
                have hB1 : gx + 1 ≤ (wr.alloc (.cells #[.int .u8 (bt.toNat : Int)] 5)).heap.size := by
                  have := hE4.le
                  omega
                have c2 := hWv.at 2 rfl
                clear hS hdiv hmod hcell hlen hWv0 hO0 hMd h1 h2 hO hWv hkt hk
                go_wp2_with (first
                  | (at_builtin; refine wpList_appAt rfl (.tmp 74) (.tmp 76) rfl rfl hO1 rfl hb1 hfit hB1 ?_; intro v4 w4 hO4 hG4 hN4; have hne4 : v.ownBlock ≠ some gx := (fun e => (by (have := (hO1.lt _ e).1; omega))); have hW5 := hW4.ownGrown hG4 hne4; have o1 := hO4.one; have o2 := hO4.cells1)
                  | (refine wpList_storeC rfl 22 (.tmp 78) (.tmp 77) rfl #[.int .i64 ar, .int .i64 bc, v4] rfl rfl hW5 (by simp) (by kernel_rfl) o1 o2 rfl ?_; intro w5 hW6 hG5))
                go_roundw
                case rel =>
                  have hne5 : v4.ownBlock ≠ some gx := fun e => by
                    have := (hO4.lt _ e).1
                    omega
                  have hF4 : Ext w3 w4 := Below.grown (hE2q.trans hE4) hG4 (hE2q.trans hE4).le (fun k hk => by have := (hO1.lt k hk).1; omega)
                  have hF5 : Ext w3 w5 := Below.grown hF4 hG5 hF4.le (fun k hk => by cases hk; omega)
                  exact ⟨j + 1, by omega, by go_num, ⟨v4, hW6, by rw [← Nat.add_assoc, HS.out]; exact (Mod.ofRow (ob := none) hG5).own hO4 hne5 (by simp [Classical.em])⟩, hF5⟩
                case measure => simp [intOf]; omega
          · obtain rfl : j = bc := by omega
            go_wp2
            go_roundw
            case rel => exact ⟨i + 1, by omega, by go_num, by rw [Nat.add_mul, Nat.one_mul]; exact hMd2, hEr2⟩
            case measure => simp [intOf]; omega
      · obtain rfl : i = ar := by omega
        obtain ⟨v, hWv, hO⟩ := hMd
        have hWrr := hWr3.ext hEr
        have o1 := hO.one
        go_wp2_with (first
          | (refine wpList_load_row rfl 24 (.tmp 6) rfl _ rfl _ _ _ _ hWv Try.underlying24 rfl mat_info ?_)
          | (refine wpList_storeW rfl 24 (.tmp 4) (.tmp 79) rfl rfl rfl hWrr rfl mat_info (mat_one o1) ?_; intro w5 hW5 hG5 _))
        refine bodyPost_ret (results_mat rfl _ rfl rfl hW5 rfl) rfl ?_
        have hne5 : v.ownBlock ≠ some (w.heap.size + 1 + 1) := fun e => by
          have := (hO.lt _ e).1
          omega
        exact ⟨v, rfl, ((Mod.ofRow (ob := none) hG5).own hO hne5 (by simp [Classical.em])).mono (by omega), Below.grown (hE3.trans hEr) hG5 (hE3.trans hEr).le (fun k hk => by cases hk; omega)⟩
  · rw [if_neg hok]
    by_cases ha : a.may = true
    · by_cases hb : b.may = true
      · have hne : (a.c != b.r) = true := by simpa using fun e => hok ⟨ha, hb, e⟩
        rw [ha] at M1
        rw [hb] at M2
        clear hok ha hb
        go_enter Try.func28, Try.ntmps28
        go_wp2_with fail
        refine (M1 _).mono ?_
        rintro e w2 ⟨rfl, hF2⟩
        have hWb2 := hWb.ext hF2
        have hWa2 := hWa.ext hF2
        have hWr2 := hWr.ext hF2
        have b0 := hWb2.at 0 rfl
        have b1 := hWb2.at 1 rfl
        have b2 := hWb2.at 2 rfl
        go_wp2_with fail
        refine (M2 _).mono ?_
        rintro e w3 ⟨rfl, hF3⟩
        have hWb3 := hWb2.ext hF3
        have hWa3 := hWa2.ext hF3
        have hWr3 := hWr2.ext hF3
        have a1 := hWa3.at 1 rfl
        have b0' := hWb3.at 0 rfl
        go_wp2_with (refine wpList_storeW rfl 24 (.tmp 4) (.tmp 26) rfl rfl rfl hWr3 rfl mat_info (mat_one rfl) ?_; intro w5 hW5 hG5 _)
        refine bodyPost_ret (results_mat rfl _ rfl rfl hW5 rfl) rfl ?_
        exact MadeM.zero 13 (Below.grown ((hE.trans hF2).trans hF3) hG5 ((hE.trans hF2).trans hF3).le (fun k hk => by cases hk; omega))
      · rw [ha] at M1
        rw [Bool.not_eq_true] at hb
        rw [hb] at M2
        clear hok ha hb
        go_enter Try.func28, Try.ntmps28
        go_wp2_with fail
        refine (M1 _).mono ?_
        rintro e w2 ⟨rfl, hF2⟩
        have hWb2 := hWb.ext hF2
        have hWr2 := hWr.ext hF2
        have b0 := hWb2.at 0 rfl
        have b1 := hWb2.at 1 rfl
        have b2 := hWb2.at 2 rfl
        go_wp2_with fail
        refine (M2 _).mono ?_
        rintro e w3 ⟨rfl, hF3⟩
        have hWr3 := hWr2.ext hF3
        go_wp2_with (refine wpList_storeW rfl 24 (.tmp 4) (.tmp 26) rfl rfl rfl hWr3 rfl mat_info (mat_one rfl) ?_; intro w5 hW5 hG5 _)
        refine bodyPost_ret (results_mat rfl _ rfl rfl hW5 rfl) rfl ?_
        exact MadeM.zero 13 (Below.grown ((hE.trans hF2).trans hF3) hG5 ((hE.trans hF2).trans hF3).le (fun k hk => by cases hk; omega))
    · rw [Bool.not_eq_true] at ha
      rw [ha] at M1
      clear hok ha
      go_enter Try.func28, Try.ntmps28
      go_wp2_with fail
      refine (M1 _).mono ?_
      rintro e w2 ⟨rfl, hF2⟩
      have hWr2 := hWr.ext hF2
      go_wp2_with (refine wpList_storeW rfl 24 (.tmp 4) (.tmp 26) rfl rfl rfl hWr2 rfl mat_info (mat_one rfl) ?_; intro w5 hW5 hG5 _)
      refine bodyPost_ret (results_mat rfl _ rfl rfl hW5 rfl) rfl ?_
      exact MadeM.zero 13 (Below.grown (hE.trans hF2) hG5 (hE.trans hF2).le (fun k hk => by cases hk; omega))
end Go.Proofs.Ytedkajpodepkiaa
