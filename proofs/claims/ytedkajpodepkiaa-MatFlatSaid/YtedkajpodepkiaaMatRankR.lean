/- The document's Rank. -/
import Derived.Test.YtedkajpodepkiaaMatTbl
import Derived.Test.YtedkajpodepkiaaMatEch
import Derived.Test.YtedkajpodepkiaaMatDef
import Derived.Test.YtedkajpodepkiaaGfRefDiv
import Derived.Test.YtedkajpodepkiaaRegTail
namespace Go.Proofs.Ytedkajpodepkiaa
open Go.RowKit

/-- The first place that is not 0. -/
def IsFirst (l : List UInt8) (p : Nat) : Prop := p ≤ l.length ∧ (∀ j, j < p → l.getD j 0 = 0) ∧ (p < l.length → l.getD p 0 ≠ 0)
theorem first_only {c p q : Nat} {f : Nat → UInt8} (h : IsFirst (rowB c f) p) (hq : q < c) (hne : f q ≠ 0) (hlow : ∀ j, j < q → f j = 0) : p = q := by
  obtain ⟨h1, h2, h3⟩ := h
  rw [rowB_len] at h1 h3
  rcases Nat.lt_trichotomy p q with h | h | h
  · have := h3 (by omega)
    rw [rowB_at _ (by omega)] at this
    exact absurd (hlow p h) this
  · exact h
  · have := h2 q h
    rw [rowB_at _ hq] at this
    exact absurd this hne
theorem u8_zero {x : UInt8} (h : x ≠ 0) : ((x.toNat : Int) != 0) = true := by
  rw [bne_iff_ne]
  intro e
  exact h (Mat.ext8 (by have : x.toNat = 0 := by omega
                        exact this))

set_option maxHeartbeats 1000000 in
set_option maxRecDepth 100000 in
theorem refFirst_any (A : Option Addr) (k : Nat) (l : List UInt8) (w : World) (h : Bytes w w.heap.size A l.length l) (hl : l.length ≤ 1000000) :
    Calls Try.prog 44 #[.slice A l.length k] w fun e w' => (∃ p : Nat, IsFirst l p ∧ e = .returned (.int .i64 (p : Int))) ∧ w = w' := by
  go_enter Try.func44, Try.ntmps44
  go_wp2
  go_loop [3] (fun i => ∃ j : Nat, j ≤ l.length ∧ i = .int .i64 (j : Int) ∧ ∀ a, a < j → l.getD a 0 = 0) (fun i => l.length - (intOf i).toNat)
  case atStart => exact ⟨0, by omega, rfl, fun a ha => absurd ha (by omega)⟩
  case round =>
    obtain ⟨j, hj, rfl, hz⟩ := hrel
    have HZ := hide hz
    clear hz
    by_cases hlt : j < l.length
    · rcases h.2 with h0 | ⟨b, o, rfl, hB, hcell⟩
      · omega
      have kc := hcell j hlt
      have hj0 : (0 : Int) ≤ (j : Int) := by omega
      have hj1 : (j : Int) < (l.length : Int) := by omega
      obtain ⟨x, hx⟩ : ∃ x, x = l.getD j 0 := ⟨_, rfl⟩
      rw [← hx] at kc
      have HX := hide hx
      clear hx hcell h
      by_cases hx0 : x = 0
      · subst hx0
        have kc' : w.cell? ⟨b, o + j, none⟩ = some (.int .u8 0) := kc
        clear kc
        go_wp2
        go_round
        case rel =>
          refine ⟨j + 1, by omega, by go_num, fun a ha => ?_⟩
          by_cases haj : a = j
          · rw [haj, ← HX.out]
          · exact HZ.out a (by omega)
        case measure => simp [intOf]; omega
      · have hne := u8_zero hx0
        have HN := hide hx0
        clear hx0
        go_wp2
        go_ret
        exact ⟨⟨j, ⟨by omega, HZ.out, fun _ => by rw [← HX.out]; exact HN.out⟩, rfl⟩, rfl⟩
    · obtain rfl : j = l.length := by omega
      clear h
      go_wp2
      go_ret
      exact ⟨⟨_, ⟨Nat.le_refl _, HZ.out, fun h => absurd h (by omega)⟩, rfl⟩, rfl⟩

/-- The rank, or why there is none. -/
noncomputable def MV.rankE (m : MV) : Nat × Int := if m.may = true then (Mat.rankOf m.r.toNat m.c.toNat m.at, 0) else (0, 13)
def RefRankC : Prop := ∀ (m : MV) (A : Option Addr) (k : Nat) (W : World), m.lies W A k → Calls Try.prog 32 #[m.arg A k] W fun e W' => e = .returned (.tuple #[.int .i64 ((m.rankE.1 : Nat) : Int), .int .i64 m.rankE.2]) ∧ Ext W W'
theorem row_mid {l : List UInt8} {m c i : Nat} (hl : l.length = m * c) (hi : i < m) {f : Mat.M} (hf : ∀ a b, f a b = l.getD (a * c + b) 0) : (l.drop (i * c)).take c = rowB c (f i) := by
  have hle : i * c + c ≤ m * c := by
    have : (i + 1) * c ≤ m * c := Nat.mul_le_mul_right _ hi
    rwa [Nat.add_mul, Nat.one_mul] at this
  apply List.ext_getElem?
  intro j
  by_cases hj : j < c
  · rw [List.getElem?_take, if_pos hj, List.getElem?_drop]
    simp [rowB, hj, hf, List.getD_eq_getElem?_getD, List.getElem?_eq_getElem (show i * c + j < l.length by omega)]
  · rw [List.getElem?_eq_none (by simp; omega), List.getElem?_eq_none (by rw [rowB_len]; omega)]

theorem fi_toNat' {a : UInt8} (h : a ≠ 0) : (Mat.fi a).toNat = Gf.inv a.toNat := by
  have h0 : a.toNat ≠ 0 := fun e => h (Mat.ext8 e)
  unfold Mat.fi
  rw [UInt8.toNat_ofNat', Nat.mod_eq_of_lt (Gf.inv_lt (Mat.lt a) h0)]

attribute [local go_sem ↓] run_mid
set_option maxHeartbeats 8000000 in
set_option maxRecDepth 100000 in
theorem refRank_any : RefRankC := by
  intro M A kk w h
  obtain ⟨h1, hl1, hkk⟩ := h
  have M1 := fun W => refMay_any M A M.l.length kk W rfl hl1
  have hE := extNew w (.cells #[.int .i64 M.r, .int .i64 M.c, .slice A M.l.length kk] 24)
  have hWa := Whole.new w 24 #[.int .i64 M.r, .int .i64 M.c, .slice A M.l.length kk]
  have hae : M.arg A kk = .agg #[.int .i64 M.r, .int .i64 M.c, .slice A M.l.length kk] := rfl
  rw [hae]
  clear hae
  by_cases hm : M.may = true
  · rw [hm] at M1
    obtain ⟨q1, q2, q3, q4, q5⟩ := MV.may_iff.1 hm
    have HR := hide (show M.rankE = (Mat.rankOf M.r.toNat M.c.toNat M.at, 0) from if_pos hm)
    have HA := hide (show ∀ i j, M.at i j = M.l.getD (i * M.c.toNat + j) 0 from fun _ _ => rfl)
    generalize M.rankE = res at *
    generalize M.at = fa at *
    obtain ⟨m, c, l⟩ := M
    dsimp only at *
    obtain ⟨m, rfl⟩ := Int.eq_ofNat_of_zero_le q1
    obtain ⟨c, rfl⟩ := Int.eq_ofNat_of_zero_le q3
    simp only [Int.toNat_natCast] at HR HA
    have l5 : l.length = m * c := by omega
    have hm2 : m ≤ 255 := by omega
    have hc2 : c ≤ 255 := by omega
    have hc' : (c : Int) ≤ 255 := by omega
    have HL := hide l5
    clear q1 q2 q3 q4 q5 l5 hl1 hm
    go_enter Try.func32, Try.ntmps32
    go_wp2_with fail
    refine (M1 _).mono ?_
    rintro e w2 ⟨rfl, hF2⟩
    have hWa2 := hWa.ext hF2
    have hEw2 := hE.trans hF2
    clear M1 hE hWa hF2
    go_wp2_with fail
    go_loopw [4, 5] (fun v i wq => ∃ (j r : Nat) (R : Nat → Value) (T : Mat.M) (ld : Nat → Nat), j ≤ m ∧ r ≤ j ∧ i = .int .i64 (j : Int) ∧ Tbl wq w2.heap.size v r c R T ∧ Mat.Taken m c j fa T ld r ∧ Ext w2 wq) (fun _ i _ => m - (intOf i).toNat)
    case atStart => exact ⟨0, 0, fun _ => default, fun _ _ => 0, fun _ => 0, by omega, by omega, rfl, Tbl.bare _ _ _ _ _, Mat.Taken.start _ _ _ _ _, Ext.refl _⟩
    case round =>
      obtain ⟨i, r, R, T, ld, hi, hri, rfl, hT, hTk, hEr⟩ := hrel
      have b0 := (hWa2.ext hEr).at 0 rfl
      have b1 := (hWa2.ext hEr).at 1 rfl
      have b2 := (hWa2.ext hEr).at 2 rfl
      obtain ⟨A5, k5, rfl⟩ := hT.len
      by_cases hlt : i < m
      · obtain ⟨wa, rfl⟩ : ∃ W, W = wr := ⟨_, rfl⟩
        have hE4 := extNew wa (.cells #[] 5)
        have hO4 := OwnB.empty wa (base := wa.heap.size) (Nat.le_refl _)
        have hP : i * c + c ≤ m * c := by
          have : (i + 1) * c ≤ m * c := Nat.mul_le_mul_right _ hlt
          rwa [Nat.add_mul, Nat.one_mul] at this
        have hmc : m * c ≤ 65025 := Nat.mul_le_mul hm2 hc2
        have hB4 := (hEw2.trans (hEr.trans hE4)).bytes h1
        have hB5 := (hB4.drop (k := i * c) (c := kk) (by have := HL.out; omega) hkk).take (k := c) (by have := HL.out; omega)
        rw [row_mid HL.out hlt HA.out] at hB5
        have hm1 : IntKind.i64.wrap ((i : Int) * (c : Int)) = ((i * c : Nat) : Int) := by rw [(Int.natCast_mul i c).symm, IntKind.wrap_i64]; omega
        have hm3 : IntKind.i64.wrap (((i : Int) + 1) * (c : Int)) = ((i * c + c : Nat) : Int) := by
          have e : ((i : Int) + 1) * (c : Int) = ((i * c + c : Nat) : Int) := by rw [Int.add_mul, Int.one_mul]; simp
          rw [e, IntKind.wrap_i64]; omega
        have hfit : ([] : List UInt8).length + (i * c + c - i * c) ≤ 140737488355328 := by simp; omega
        have hB5' : Bytes (wa.alloc (.cells #[] 5)) (wa.alloc (.cells #[] 5)).heap.size (cutAt A kk (i * c)) (i * c + c - i * c) (rowB c (fa i)) := by rw [Nat.add_sub_cancel_left]; exact hB5
        have hlk : (l.length : Int) = ((m * c : Nat) : Int) := by rw [HL.out]
        have hkk' : ((i * c + c : Nat) : Int) ≤ (kk : Int) := by omega
        generalize i * c = P at *
        have hkk2 : (P : Int) + (c : Int) ≤ (kk : Int) := by omega
        have hpc : (P : Int) ≤ (P : Int) + (c : Int) := by omega
        have hp0 : (0 : Int) ≤ (P : Int) := by omega
        clear hP hmc hlk
        have hB6 : wa.heap.size ≤ (wa.alloc (.cells #[] 5)).heap.size := hE4.le
        have d1 := ((hWa2.ext hEr).ext hE4).at 1 rfl
        have d2 := ((hWa2.ext hEr).ext hE4).at 2 rfl
        clear h1 hB4
        go_wp2_with (at_builtin; refine wpList_appAt rfl (.tmp 21) (.tmp 33) rfl rfl hO4 rfl hB5' hfit hB6 ?_; intro v6 w6 hO6 hG6 hN6)
        have hE6 : Ext wa w6 := Below.grown hE4 hG6 hE4.le (fun k hk => (hO4.lt k hk).1)
        rw [List.nil_append] at hO6
        obtain ⟨A6, c6, hv6, hc6, _, _⟩ := hO6.form
        rw [rowB_len] at hc6 hv6
        subst hv6
        have hle0 := Mat.Less.start c T ld (fa i)
        clear hO4 hB5 hB5' hB6 hfit hm1 hm3 hkk' hkk2 hpc hp0 d1 d2 hE4 hG6 hN6
        go_loopw [7] (fun x wq => ∃ (k : Nat) (Rv : Nat → UInt8), k ≤ r ∧ x = .int .i64 (k : Int) ∧ OwnB wq wa.heap.size (.slice A6 c c6) (rowB c Rv) ∧ Mat.Less c k T ld (fa i) Rv ∧ Ext wa wq) (fun x _ => r - (intOf x).toNat)
        case atStart => exact ⟨0, fa i, by omega, rfl, hO6, hle0, hE6⟩
        case round =>
          clear hO6 hle0 hE6
          obtain ⟨k, Rv, hk, rfl, hO, hLs, hE7⟩ := hrel
          by_cases hkt : k < r
          · have hT7 := hT.ext hE7
            obtain ⟨g, kr, hv, hgB, hgl⟩ := hT.form (by omega)
            obtain ⟨rfl, rfl⟩ : A5 = some ⟨g, 0, none⟩ ∧ k5 = kr := by simpa using hv
            obtain ⟨gk, ck, hRk, y1, y2, y3, y4, kkd, y5, hck⟩ := hT7.rowAt hkt
            have hldk := hTk.ech.lt k hkt
            have hne := hTk.ech.ne k hkt
            have hlow := hTk.ech.low k hkt
            have hBk : Bytes wr wr.heap.size (some ⟨gk, 0, none⟩) (rowB c (T k)).length (rowB c (T k)) :=
              ⟨rfl, .inr ⟨gk, 0, rfl, y2, fun j hj => by rw [rowB_len] at hj; rw [Nat.zero_add, rowB_at _ hj]; exact (hck j hj).1⟩⟩
            have CF := refFirst_any (some ⟨gk, 0, none⟩) ck (rowB c (T k)) wr hBk (by rw [rowB_len]; omega)
            simp only [rowB_len] at CF
            have hLs' := hLs.step hTk.ech hkt
            have HLs := hide hLs'
            have ktl := (hck (ld k) hldk).1
            have hOf := hO.formG (by rw [rowB_len]; omega)
            obtain ⟨g6, c6', hv6, hg6, _⟩ := hOf
            rw [rowB_len] at hv6
            obtain ⟨rfl, rfl⟩ : A6 = some ⟨g6, 0, none⟩ ∧ c6 = c6' := by simpa using hv6
            have krl := (hO.cell (i := ld k) (by rw [rowB_len]; exact hldk)).1
            rw [rowB_at _ hldk] at krl
            have hk0 : (0 : Int) ≤ (k : Int) := by omega
            have hk1 : (k : Int) < (r : Int) := by omega
            have hr2 : (r : Int) ≤ 255 := by omega
            have CD := fun W => refDiv_any (Rv (ld k)).toNat (T k (ld k)).toNat W (Mat.lt _) (Mat.lt _)
            have e1 : Gf.divR (Rv (ld k)).toNat (T k (ld k)).toNat = (Gf.mul (Rv (ld k)).toNat (Gf.inv (T k (ld k)).toNat), 0) := if_neg fun e => hne (Mat.ext8 e)
            have e2 := fi_toNat' hne
            rw [e1, ← e2, ← Mat.fm_toNat] at CD
            have HLOW := hide hlow
            have HNE := hide hne
            have HCK := hide hck
            obtain ⟨q, hq⟩ : ∃ q, q = Mat.fm (Rv (ld k)) (Mat.fi (T k (ld k))) := ⟨_, rfl⟩
            rw [← hq] at CD
            have HQ := hide hq
            clear hlow hne hck hBk hLs' hLs hv hv6 hRk y1 y2 y3 y4 y5 e1 e2 hq
            obtain ⟨wc, rfl⟩ : ∃ W, W = wr := ⟨_, rfl⟩
            go_wp2_with fail
            refine CF.mono ?_
            rintro e w9 ⟨⟨p, hp, rfl⟩, rfl⟩
            obtain rfl : p = ld k := first_only hp hldk HNE.out HLOW.out
            have hlk0 : (0 : Int) ≤ ((ld k : Nat) : Int) := by omega
            have hlk1 : ((ld k : Nat) : Int) < (c : Int) := by omega
            clear CF hp
            generalize Rv (ld k) = xr at *
            generalize T k (ld k) = xt at *
            obtain ⟨L, hL⟩ : ∃ L, L = ld k := ⟨_, rfl⟩
            rw [← hL] at krl ktl hlk0 hlk1 hldk ⊢
            have HLk := hide hL
            clear hL
            have C := fun m => CD (wc.drewN m)
            go_wp2_with fail
            go_quiet (first | (go_at_call 45; exact Calls.quiet_of ((C _).mono fun _ _ ⟨he, hw⟩ => ⟨he, 0, hw.symm⟩)))
            clear ktl krl kkd C CD
            go_wp2_with fail
            go_loopw [11] (fun x wq => ∃ j : Nat, j ≤ c ∧ x = .int .i64 (j : Int) ∧ OwnB wq wa.heap.size (.slice (some ⟨g6, 0, none⟩) c c6) (rowB c (fun b => if b < j then Rv b ^^^ Mat.fm q (T k b) else Rv b)) ∧ Ext wa wq) (fun x _ => c - (intOf x).toNat)
            case atStart => exact ⟨0, by omega, rfl, by rw [rowB_congr (g := Rv) (fun b _ => if_neg (by omega))]; exact hO.ext ((Ext.refl wc).drewN nq), hE7.drewN _⟩
            case round =>
              clear hO hE7 hT7
              obtain ⟨j, hj, rfl, hO, hE8⟩ := hrel
              by_cases hjt : j < c
              · have hT8 := hT.ext hE8
                obtain ⟨gk, ck, hRk, y1, y2, y3, y4, kkd, y5, hck⟩ := hT8.rowAt hkt
                have kyd := (hck j hjt).1
                obtain ⟨kxd, fxd⟩ := hO.cell (i := j) (by rw [rowB_len]; exact hjt)
                rw [rowB_at _ hjt, if_neg (Nat.lt_irrefl j)] at kxd
                have C := fun W => refMul_any q.toNat (T k j).toNat W (Mat.lt _) (Mat.lt _)
                rw [← Mat.fm_toNat] at C
                have hxor := u8_xor_byte8 (Rv j) (Mat.fm q (T k j))
                obtain ⟨z, hz⟩ : ∃ z, z = Rv j ^^^ Mat.fm q (T k j) := ⟨_, rfl⟩
                rw [← hz] at hxor
                have hOp := (hO.set j z).ext (Ext.refl _).drew
                rw [rowB_set] at hOp
                have hEp := (hE8.setCell hg6 (i := j) (.int .u8 (z.toNat : Int))).drew
                have hj0 : (0 : Int) ≤ (j : Int) := by omega
                have hj1 : (j : Int) < (c : Int) := by omega
                have HZE := hide (hz)
                have HOp := hide hOp
                clear hz hOp hO hck hRk y1 y2 y3 y4 y5 hT8
                obtain ⟨u, hu⟩ : ∃ u, u = Mat.fm q (T k j) := ⟨_, rfl⟩
                obtain ⟨x, hx⟩ : ∃ x, x = Rv j := ⟨_, rfl⟩
                rw [← hu] at C hxor
                rw [← hx] at kxd hxor
                clear hu hx
                obtain ⟨y, hy⟩ : ∃ y, y = T k j := ⟨_, rfl⟩
                rw [← hy] at kyd C
                clear hy
                go_wp2_with fail
                refine wp_region_T (fun W => W.cell? ⟨g6, j, none⟩ = some (.int .u8 (x.toNat : Int)) ∧ W.cell? ⟨g, k, none⟩ = some (.slice (some ⟨gk, 0, none⟩) c ck) ∧ W.cell? ⟨gk, j, none⟩ = some (.int .u8 (y.toNat : Int))) 17 18 #[false, false, false, false, false, false, false, false, false, false, false, false, false, false, false, false, false, false] (by kernel_rfl) rfl rfl ⟨kxd, kkd, kyd⟩ ?_
                intro hS0
                refine wpAnyT_take 0 (some 67) (.slice (some ⟨g6, 0, none⟩) c c6) #[true, false, false, false, false, false, false, false, false, false, false, false, false, false, false, false, false, false] rfl rfl rfl (by kernel_rfl) (fun _ _ _ h => h) hS0 (by rfl) (fun W ⟨x0, x1, x2⟩ => by go_simp) ?_
                simp only [Act.put, List.setIfInBounds_toArray, List.set_cons_zero, List.set_cons_succ]
                refine wpAnyT_take 1 (some 68) (.int .i64 (j : Int)) #[true, true, false, false, false, false, false, false, false, false, false, false, false, false, false, false, false, false] rfl rfl rfl (by kernel_rfl) (fun _ _ _ h => h) hS0 (by rfl) (fun W ⟨x0, x1, x2⟩ => by go_simp) ?_
                simp only [Act.put, List.setIfInBounds_toArray, List.set_cons_zero, List.set_cons_succ]
                refine wpAnyT_take 2 (some 69) (.slice (some ⟨g6, 0, none⟩) c c6) #[true, true, true, false, false, false, false, false, false, false, false, false, false, false, false, false, false, false] rfl rfl rfl (by kernel_rfl) (fun _ _ _ h => h) hS0 (by rfl) (fun W ⟨x0, x1, x2⟩ => by go_simp) ?_
                simp only [Act.put, List.setIfInBounds_toArray, List.set_cons_zero, List.set_cons_succ]
                refine wpAnyT_take 3 (some 70) (.int .i64 (j : Int)) #[true, true, true, true, false, false, false, false, false, false, false, false, false, false, false, false, false, false] rfl rfl rfl (by kernel_rfl) (fun _ _ _ h => h) hS0 (by rfl) (fun W ⟨x0, x1, x2⟩ => by go_simp) ?_
                simp only [Act.put, List.setIfInBounds_toArray, List.set_cons_zero, List.set_cons_succ]
                refine wpAnyT_take 4 (some 71) (.pointer (some ⟨g6, j, none⟩)) #[true, true, true, true, true, false, false, false, false, false, false, false, false, false, false, false, false, false] rfl rfl rfl (by kernel_rfl) (fun _ _ _ h => h) hS0 (by rfl) (fun W ⟨x0, x1, x2⟩ => by go_simp) ?_
                simp only [Act.put, List.setIfInBounds_toArray, List.set_cons_zero, List.set_cons_succ]
                refine wpAnyT_take 5 (some 72) (.int .u8 (x.toNat : Int)) #[true, true, true, true, true, true, false, false, false, false, false, false, false, false, false, false, false, false] rfl rfl rfl (by kernel_rfl) (fun _ _ _ h => h) hS0 (by rfl) (fun W ⟨x0, x1, x2⟩ => by go_simp) ?_
                simp only [Act.put, List.setIfInBounds_toArray, List.set_cons_zero, List.set_cons_succ]
                refine wpAnyT_take 6 (some 73) (.int .u8 (q.toNat : Int)) #[true, true, true, true, true, true, true, false, false, false, false, false, false, false, false, false, false, false] rfl rfl rfl (by kernel_rfl) (fun _ _ _ h => h) hS0 (by rfl) (fun W ⟨x0, x1, x2⟩ => by go_simp) ?_
                simp only [Act.put, List.setIfInBounds_toArray, List.set_cons_zero, List.set_cons_succ]
                refine wpAnyT_take 7 (some 74) (.slice (some ⟨g, 0, none⟩) r k5) #[true, true, true, true, true, true, true, true, false, false, false, false, false, false, false, false, false, false] rfl rfl rfl (by kernel_rfl) (fun _ _ _ h => h) hS0 (by rfl) (fun W ⟨x0, x1, x2⟩ => by go_simp) ?_
                simp only [Act.put, List.setIfInBounds_toArray, List.set_cons_zero, List.set_cons_succ]
                refine wpAnyT_take 8 (some 75) (.int .i64 (k : Int)) #[true, true, true, true, true, true, true, true, true, false, false, false, false, false, false, false, false, false] rfl rfl rfl (by kernel_rfl) (fun _ _ _ h => h) hS0 (by rfl) (fun W ⟨x0, x1, x2⟩ => by go_simp) ?_
                simp only [Act.put, List.setIfInBounds_toArray, List.set_cons_zero, List.set_cons_succ]
                refine wpAnyT_take 9 (some 76) (.pointer (some ⟨g, k, none⟩)) #[true, true, true, true, true, true, true, true, true, true, false, false, false, false, false, false, false, false] rfl rfl rfl (by kernel_rfl) (fun _ _ _ h => h) hS0 (by rfl) (fun W ⟨x0, x1, x2⟩ => by go_simp) ?_
                simp only [Act.put, List.setIfInBounds_toArray, List.set_cons_zero, List.set_cons_succ]
                refine wpAnyT_take 10 (some 77) (.slice (some ⟨gk, 0, none⟩) c ck) #[true, true, true, true, true, true, true, true, true, true, true, false, false, false, false, false, false, false] rfl rfl rfl (by kernel_rfl) (fun _ _ _ h => h) hS0 (by rfl) (fun W ⟨x0, x1, x2⟩ => by go_simp) ?_
                simp only [Act.put, List.setIfInBounds_toArray, List.set_cons_zero, List.set_cons_succ]
                refine wpAnyT_take 11 (some 78) (.int .i64 (j : Int)) #[true, true, true, true, true, true, true, true, true, true, true, true, false, false, false, false, false, false] rfl rfl rfl (by kernel_rfl) (fun _ _ _ h => h) hS0 (by rfl) (fun W ⟨x0, x1, x2⟩ => by go_simp) ?_
                simp only [Act.put, List.setIfInBounds_toArray, List.set_cons_zero, List.set_cons_succ]
                refine wpAnyT_take 12 (some 79) (.pointer (some ⟨gk, j, none⟩)) #[true, true, true, true, true, true, true, true, true, true, true, true, true, false, false, false, false, false] rfl rfl rfl (by kernel_rfl) (fun _ _ _ h => h) hS0 (by rfl) (fun W ⟨x0, x1, x2⟩ => by go_simp) ?_
                simp only [Act.put, List.setIfInBounds_toArray, List.set_cons_zero, List.set_cons_succ]
                refine wpAnyT_take 13 (some 80) (.int .u8 (y.toNat : Int)) #[true, true, true, true, true, true, true, true, true, true, true, true, true, true, false, false, false, false] rfl rfl rfl (by kernel_rfl) (fun _ _ _ h => h) hS0 (by rfl) (fun W ⟨x0, x1, x2⟩ => by go_simp) ?_
                simp only [Act.put, List.setIfInBounds_toArray, List.set_cons_zero, List.set_cons_succ]
                refine wpAnyT_only 14 #[true, true, true, true, true, true, true, true, true, true, true, true, true, true, true, false, false, false] (by kernel_rfl) rfl rfl (by rfl) (fun K hK => ?_)
                go_simp
                refine (C _).mono ?_
                rintro e w9 ⟨rfl, rfl⟩
                refine hK _ _ (fun _ => ⟨kxd, kkd, kyd⟩) ?_
                clear hK K
                refine wpAnyT_only 15 #[true, true, true, true, true, true, true, true, true, true, true, true, true, true, true, true, false, false] (by kernel_rfl) rfl rfl (by rfl) (fun K hK => ?_)
                go_simp
                refine hK _ _ (fun _ => ⟨kxd, kkd, kyd⟩) ?_
                clear hK K
                refine wpAnyT_only 16 #[true, true, true, true, true, true, true, true, true, true, true, true, true, true, true, true, true, false] (by kernel_rfl) rfl rfl (by rfl) (fun K hK => ?_)
                go_simp
                refine hK _ _ (fun _ => ⟨kxd, kkd, kyd⟩) ?_
                clear hK K
                refine wpAnyT_only 17 #[true, true, true, true, true, true, true, true, true, true, true, true, true, true, true, true, true, true] (by kernel_rfl) rfl rfl (by rfl) (fun K hK => ?_)
                go_simp
                refine hK _ _ (fun h => absurd h (by decide)) ?_
                clear hK K
                refine wpAnyT_done (by kernel_rfl) ?_ _
                go_wp2
                go_roundw
                case rel =>
                  refine ⟨j + 1, by omega, by go_num, ?_, hEp⟩
                  rw [rowB_congr (g := fun b => if b = j then z else if b < j then Rv b ^^^ Mat.fm q (T k b) else Rv b) (fun b _ => ?_)]
                  · exact HOp.out
                  · by_cases hbj : b = j
                    · rw [if_pos hbj, if_pos (by omega), hbj]; exact HZE.out.symm
                    · simp [hbj, show (b < j + 1) = (b < j) from propext ⟨fun h => by omega, fun h => by omega⟩]
                case measure => simp [intOf]; omega
              · obtain rfl : c = j := by omega
                have hLn := HLs.out
                rw [← HQ.out] at hLn
                rw [rowB_congr (g := fun b => Rv b ^^^ Mat.fm q (T k b)) (fun b hb => if_pos hb)] at hO
                have HLn := hide hLn
                clear hLn
                go_wp2_with fail
                go_roundw
                case rel => exact ⟨k + 1, _, by omega, by go_num, hO, HLn.out, hE8⟩
                case measure => simp [intOf]; omega
          · obtain rfl : r = k := by omega
            obtain ⟨A7, c7, hv7, _, _, hB7⟩ := hO.form
            obtain ⟨rfl, rfl⟩ : A6 = A7 ∧ c6 = c7 := by simpa [rowB_len] using hv7
            have CF := refFirst_any A6 c6 (rowB c Rv) wr hB7 (by rw [rowB_len]; omega)
            simp only [rowB_len] at CF
            have hr2 : (r : Int) ≤ 255 := by omega
            clear hv7 hB7
            go_wp2_with fail
            refine CF.mono ?_
            rintro e w9 ⟨⟨p, hp, rfl⟩, rfl⟩
            obtain ⟨hp1, hp2, hp3⟩ := hp
            rw [rowB_len] at hp1 hp3
            have HP2 := hide hp2
            have HP3 := hide hp3
            clear CF hp2 hp3
            by_cases hpc : p < c
            · have hpc' : (p : Int) < (c : Int) := by omega
              have hE4 := extNew wr (.cells #[.slice A6 c c6] 22)
              have hT4 := (hT.ext hE7).ext hE4
              have hown := (hT.ext hE7).own
              have hB4 := (hEr.trans hE7).le
              go_wp2_with (at_builtin; refine wpList_appS rfl (.tmp 89) (.tmp 91) rfl rfl hown rfl (by omega) hB4 ?_; intro v4 w4 hO4 hG4 hN4)
              go_roundw
              case rel =>
                have hx := (hO.ext hE4).mono hEr.le
                have hnew : ∃ b, (Value.slice A6 c c6).ownBlock = some b ∧ wa.heap.size ≤ b := by
                  obtain ⟨b, ci, hxe, hb, _⟩ := hO.formG (by rw [rowB_len]; omega)
                  exact ⟨b, by rw [hxe]; rfl, hb⟩
                exact ⟨i + 1, r + 1, _, _, _, by omega, by omega, by go_num, hT4.push (by omega) hx (own_apart hnew fun k hk => (hT.own.lt k hk).2) (fun a ha e => own_apart hnew (fun k hk => ((hT.row a ha).lt k hk).2) e.symm) hO4 hG4 hN4,
                  hTk.push hlt hLs hpc (by have := HP3.out hpc; rwa [rowB_at _ hpc] at this) (fun j hj => by have := HP2.out j hj; rwa [rowB_at _ (by omega)] at this), Below.grown ((hEr.trans hE7).trans hE4) hG4 ((hEr.trans hE7).trans hE4).le (fun k hk => (hT.own.lt k hk).1)⟩
              case measure => simp [intOf]; omega
            · have hpc' : ¬ ((p : Int) < (c : Int)) := by omega
              go_wp2_with fail
              go_roundw
              case rel => exact ⟨i + 1, r, R, T, ld, by omega, by omega, by go_num, hT.ext hE7, hTk.stay hLs (fun j hj => by have := HP2.out j (by omega); rwa [rowB_at _ hj] at this), hEr.trans hE7⟩
              case measure => simp [intOf]; omega
      · obtain rfl : m = i := by omega
        have hrk := Mat.rankOf_of hTk.done
        have hfin := HR.out
        rw [hrk] at hfin
        have HFin := hide hfin
        have hr2 : (r : Int) ≤ 255 := by omega
        clear hfin hrk hTk h1
        go_wp2_with fail
        go_ret2
        exact ⟨by rw [HFin.out]; rfl, hEw2.trans hEr⟩
  · have HN := hide (show M.rankE = (0, 13) from if_neg hm)
    rw [Bool.not_eq_true] at hm
    rw [hm] at M1
    clear hm
    go_enter Try.func32, Try.ntmps32
    go_wp2_with fail
    refine (M1 _).mono ?_
    rintro e w2 ⟨rfl, hF2⟩
    go_wp2
    go_ret2
    exact ⟨by rw [HN.out]; rfl, hE.trans hF2⟩
end Go.Proofs.Ytedkajpodepkiaa
