/- Chapter 23: StripeDamage. -/
import Derived.Test.YtkfipfhmbhmamaaDoorB04
import Derived.Test.YtkfipfhmbhmamaaDoorB05
import Derived.Test.YtkfipfhmbhmamaaDoorB12
import Derived.Test.YtkfipfhmbhmamaaDoorB15
import Derived.Test.YtkfipfhmbhmamaaDoorB31
namespace Go.Proofs.YtkfipfhmbhmamaaDoor
open Go.RowKit Stp

attribute [local go_sem ↓] run_mid
set_option maxHeartbeats 16000000 in
set_option maxRecDepth 100000 in
theorem stripeDamage_walk0 (sa sb sc : Nat) (A : Option Addr) (n cap : Nat) (b : List UInt8) (AT : Option Addr) (nt ct : Nat) (L : List (Nat × UInt8)) (w : World) (hL : LayC23 w) (hR : ReadC23 w) (ha : sa < 256) (hsb : sb < 256) (hsc : sc < 256) (h1 : n ≤ cap) (h2 : cap ≤ maxLen) (hb : Bytes w w.heap.size A n b) (hT : TurnsAt w w.heap.size AT nt L) :
    Calls Tryd.prog 8 #[.agg #[.int .u8 (sa : Int), .int .u8 (sb : Int), .int .u8 (sc : Int)], .slice A n cap, .slice AT nt ct] w fun e w' => e = .returned (.bool true) ∧ Ext w w' := by
  have C0 := fun W (hE : Ext w W) => alive23_any hL hE
  have hbl := hb.1
  obtain ⟨w1, hw1⟩ : ∃ w1, w1 = w.alloc (.cells #[.int .u8 (sa : Int), .int .u8 (sb : Int), .int .u8 (sc : Int)] 38) := ⟨_, rfl⟩
  have HE1 := hide (show Ext w w1 by rw [hw1]; exact extNew w _)
  have HW := hide (show Whole w1 w.heap.size 38 #[.int .u8 (sa : Int), .int .u8 (sb : Int), .int .u8 (sc : Int)] by rw [hw1]; exact Whole.new w _ _)
  by_cases hbig : 600 < (n : Int)
  · clear hL hR hb hbl ha hsb hsc h1 h2 HW hT
    go_enter Tryd.func8, Tryd.ntmps8
    go_wp2_with fail
    rw [← hw1]
    refine (C0 _ HE1.out).mono ?_
    rintro e w2 ⟨rfl, hE2⟩
    go_wp2
    go_ret
    exact ⟨rfl, HE1.out.trans hE2⟩
  by_cases hbigt : 60 < (nt : Int)
  · clear hL hR hb hbl ha hsb hsc h1 h2 HW hT
    go_enter Tryd.func8, Tryd.ntmps8
    go_wp2_with fail
    rw [← hw1]
    refine (C0 _ HE1.out).mono ?_
    rintro e w2 ⟨rfl, hE2⟩
    go_wp2
    go_ret
    exact ⟨rfl, HE1.out.trans hE2⟩
  have CO := fun W => shapeOf_any sa sb sc W ha hsb hsc
  obtain ⟨k, hk⟩ : ∃ k, k = 1 + sa % 6 := ⟨_, rfl⟩
  obtain ⟨m, hm⟩ : ∃ m, m = sb % 5 := ⟨_, rfl⟩
  obtain ⟨c, hc⟩ : ∃ c, c = 1 + sc % 24 := ⟨_, rfl⟩
  simp only [← hk, ← hm, ← hc] at CO
  have hk1 : 1 ≤ k := by omega
  have hk6 : k ≤ 6 := by omega
  have hm4 : m ≤ 4 := by omega
  have hc1 : 1 ≤ c := by omega
  have hc24 : c ≤ 24 := by omega
  have hn : b.length ≤ 600 := by omega
  obtain ⟨f1, f2, f3⟩ := small_facts hk1 hm4 hc1 hk6 hc24 hn
  obtain ⟨f5, f6⟩ := small_size hk1 hm4 hc1 hk6 hc24 hn
  rw [hbl] at f1 f2 f3 f5 f6
  have CL := fun W (hE : Ext w W) => hL k m c A n cap b W hE (by unfold IsI64; omega) (by unfold IsI64; omega) (by unfold IsI64; omega) (hE.bytes hb) h1 h2 (by rw [f1]; dsimp only; omega)
  rw [f2] at CL
  have HDam := hide (fun (s : List UInt8) (hs : s.length = sizeN k m c n) j (hj : j < stripesN k c n) (hl : m < lostS k m c s j (k + m)) => damage (k := k) (m := m) (c := c) (n := n) f1 hs hj hl)
  have HSz := hide (show sizeN k m c n = stripesN k c n * (k + m) * (c + 4) from rfl)
  generalize layQ k m c b (stripesN k c n * (k + m)) = X at *
  generalize sizeN k m c n = lx at *
  generalize stripesN k c n = N at *
  unfold MadeE at CL
  dsimp only at CL
  have CR := fun W (hE : Ext w W) (s : List UInt8) A' c' (hX : Bytes W W.heap.size A' lx s) hc' hm' => hR k m c n A' lx c' s W hE (by unfold IsI64; omega) (by unfold IsI64; omega) (by unfold IsI64; omega) (by unfold IsI64; omega) hX hc' hm' (by omega)
  unfold RdTo23 at CR
  obtain ⟨t, ht⟩ : ∃ t, t = k + m := ⟨_, rfl⟩
  obtain ⟨d, hd⟩ : ∃ d, d = c + 4 := ⟨_, rfl⟩
  obtain ⟨Q, hQ⟩ : ∃ q, q = N * t := ⟨_, rfl⟩
  have hlx : lx = Q * d := by rw [HSz.out, hQ, ht, hd]
  rw [← ht, ← hQ] at f6
  have pt : (k : Int) + (m : Int) = (t : Int) := by omega
  have pd : (c : Int) + 4 = (d : Int) := by omega
  have hd5 : 5 ≤ d := by omega
  have hd28 : (d : Int) ≤ 28 := by omega
  have ht1 : 1 ≤ t := by omega
  have pq : (lx : Int).tdiv (d : Int) = (Q : Int) := by rw [Int.tdiv_eq_ediv_of_nonneg (by omega), hlx, Int.natCast_mul]; exact Int.mul_ediv_cancel _ (by omega)
  have hd0 : ((d : Int) == 0) = false := by rw [beq_eq_false_iff_ne]; omega
  have ht0 : ((t : Int) == 0) = false := by rw [beq_eq_false_iff_ne]; omega
  have HB := hide hb
  have HBl := hide hbl
  have HT := hide hT
  have Ht := hide ht
  have Hd := hide hd
  have HQ := hide hQ
  have Hlx := hide hlx
  have hlx9 : (lx : Int) ≤ 20000 := by omega
  have hQ9 : (Q : Int) ≤ 4000 := by omega
  clear hL hR hb hbl ha hsb hsc h1 h2 hk hm hc f1 f2 f5 f6 hn hT ht hd hQ hlx
  go_enter Tryd.func8, Tryd.ntmps8
  go_wp2_with fail
  rw [← hw1]
  clear hw1
  refine (C0 _ HE1.out).mono ?_
  rintro e w2 ⟨rfl, hE2⟩
  have hF2 := HE1.out.trans hE2
  have hW2 := HW.out.ext hE2
  have s0 := hW2.at 0 (u := .int .u8 (sa : Int)) rfl
  have s1 := hW2.at 1 (u := .int .u8 (sb : Int)) rfl
  have s2 := hW2.at 2 (u := .int .u8 (sc : Int)) rfl
  clear HW hW2 hE2 C0
  go_wp2_with fail
  refine (CO _).mono ?_
  rintro e w3 ⟨rfl, hE3⟩
  have hF3 := hF2.trans hE3
  have CL := CL w3 hF3
  clear s0 s1 s2 CO hE3 hF2
  go_wp2_with fail
  refine CL.mono ?_
  rintro e w4 ⟨v4, rfl, hO4, hE4⟩
  have hF4 := hF3.trans hE4
  obtain ⟨A4, c4, hv4, hc4, hm4', -⟩ := hO4.form
  rw [f3] at hv4 hc4
  subst hv4
  have hO4 := hO4.mono hF3.le
  have HC4 := hide (And.intro hc4 hm4')
  clear CL hE4 hF3 HE1 hc4 hm4'
  go_wp2_with fail
  go_loopw [12] (fun z wr => ∃ (i : Nat) (s : List UInt8), i ≤ nt ∧ z = .int .i64 (i : Int) ∧ s.length = lx ∧ OwnB wr w.heap.size (.slice A4 lx c4) s ∧ Ext w wr) (fun z _ => nt - (intOf z).toNat)
  case atStart => exact ⟨0, X, by omega, rfl, f3, hO4, hF4⟩
  case round =>
    clear hO4 hF4
    obtain ⟨i, s, hi, rfl, hsl, hO, hE⟩ := hrel
    by_cases hgo : i < nt ∧ 0 < lx
    · obtain ⟨hint, hl0⟩ := hgo
      have hintI : (i : Int) < (nt : Int) := by omega
      have hi0 : (0 : Int) ≤ (i : Int) := by omega
      have hl0I : (0 : Int) < (lx : Int) := by omega
      obtain ⟨g, c', hv, hbg, -⟩ := hO.formG (by omega)
      rw [hsl] at hv
      simp only [Value.slice.injEq] at hv
      obtain ⟨rfl, -, rfl⟩ := hv
      rcases (HT.out.later hE).2 with h0 | ⟨gt, ot, rfl, hgt, hct⟩
      · omega
      obtain ⟨ka, kb, hlt⟩ := hct i hint
      obtain ⟨u, hu⟩ : ∃ u, u = (L.getD i (0, 0)).1 := ⟨_, rfl⟩
      obtain ⟨by_, hby⟩ : ∃ u, u = (L.getD i (0, 0)).2 := ⟨_, rfl⟩
      rw [← hu] at ka hlt
      rw [← hby] at kb
      have em : (u : Int).tmod (lx : Int) = ((u % lx : Nat) : Int) := by rw [Int.tmod_eq_emod_of_nonneg (by omega)]; exact (Int.natCast_emod _ _).symm
      have hat : u % lx < lx := Nat.mod_lt _ hl0
      generalize u % lx = at_ at *
      have hatI : (at_ : Int) < (lx : Int) := by omega
      have hat0 : (0 : Int) ≤ (at_ : Int) := by omega
      have hats : at_ < s.length := by omega
      have hlz : ((lx : Int) == 0) = false := by rw [beq_eq_false_iff_ne]; omega
      have huI : (u : Int) < 65536 := by omega
      have HSl := hide hsl
      obtain ⟨sv, hsv⟩ : ∃ x, x = s.getD at_ 0 := ⟨_, rfl⟩
      have hcs : ∀ W, Ext wr W → W.cell? ⟨g, at_, none⟩ = some (.int .u8 (sv.toNat : Int)) := fun W hX => by rw [hsv]; exact ((hO.ext hX).cell hats).1
      obtain ⟨xv, hxv⟩ : ∃ x, x = sv ^^^ by_ := ⟨_, rfl⟩
      have hxo : bits .xor .u8 (sv.toNat : Int) (by_.toNat : Int) = (xv.toNat : Int) := by rw [hxv]; exact u8_xor_byte8 sv by_
      clear hct hu hby hsl hsv hxv
      go_wp2_with fail
      refine wp_region_T (fun W => Ext wr W) 13 14 #[false, false, false, false, false, false, false, false, false, false, false, false, false, false] (by kernel_rfl) rfl rfl (Ext.refl wr).drew ?_
      intro hS0
      refine wpAnyT_take 0 (some 68) (.slice (some ⟨g, 0, none⟩) lx c4) #[true, false, false, false, false, false, false, false, false, false, false, false, false, false] rfl rfl rfl (by kernel_rfl) (fun _ _ _ h => h) hS0 (by rfl) (fun W hX => by go_simp) ?_
      simp only [Act.put, List.setIfInBounds_toArray, List.set_cons_zero, List.set_cons_succ]
      refine wpAnyT_take 1 (some 69) (.int .i64 (at_ : Int)) #[true, true, false, false, false, false, false, false, false, false, false, false, false, false] rfl rfl rfl (by kernel_rfl) (fun _ _ _ h => h) hS0 (by rfl) (fun W hX => by go_simp) ?_
      simp only [Act.put, List.setIfInBounds_toArray, List.set_cons_zero, List.set_cons_succ]
      refine wpAnyT_take 2 (some 70) (.slice (some ⟨g, 0, none⟩) lx c4) #[true, true, true, false, false, false, false, false, false, false, false, false, false, false] rfl rfl rfl (by kernel_rfl) (fun _ _ _ h => h) hS0 (by rfl) (fun W hX => by go_simp) ?_
      simp only [Act.put, List.setIfInBounds_toArray, List.set_cons_zero, List.set_cons_succ]
      refine wpAnyT_take 3 (some 71) (.int .i64 (at_ : Int)) #[true, true, true, true, false, false, false, false, false, false, false, false, false, false] rfl rfl rfl (by kernel_rfl) (fun _ _ _ h => h) hS0 (by rfl) (fun W hX => by go_simp) ?_
      simp only [Act.put, List.setIfInBounds_toArray, List.set_cons_zero, List.set_cons_succ]
      refine wpAnyT_take 4 (some 72) (.pointer (some ⟨g, at_, none⟩)) #[true, true, true, true, true, false, false, false, false, false, false, false, false, false] rfl rfl rfl (by kernel_rfl) (fun _ _ _ h => h) hS0 (by rfl) (fun W hX => by go_simp) ?_
      simp only [Act.put, List.setIfInBounds_toArray, List.set_cons_zero, List.set_cons_succ]
      refine wpAnyT_take 5 (some 73) (.int .u8 (sv.toNat : Int)) #[true, true, true, true, true, true, false, false, false, false, false, false, false, false] rfl rfl rfl (by kernel_rfl) (fun _ _ _ h => h) hS0 (by rfl) (fun W hX => by have s0 := hcs W hX; go_simp) ?_
      simp only [Act.put, List.setIfInBounds_toArray, List.set_cons_zero, List.set_cons_succ]
      refine wpAnyT_take 6 (some 74) (.slice (some ⟨gt, ot, none⟩) nt ct) #[true, true, true, true, true, true, true, false, false, false, false, false, false, false] rfl rfl rfl (by kernel_rfl) (fun _ _ _ h => h) hS0 (by rfl) (fun W hX => by go_simp) ?_
      simp only [Act.put, List.setIfInBounds_toArray, List.set_cons_zero, List.set_cons_succ]
      refine wpAnyT_take 7 (some 75) (.int .i64 (i : Int)) #[true, true, true, true, true, true, true, true, false, false, false, false, false, false] rfl rfl rfl (by kernel_rfl) (fun _ _ _ h => h) hS0 (by rfl) (fun W hX => by go_simp) ?_
      simp only [Act.put, List.setIfInBounds_toArray, List.set_cons_zero, List.set_cons_succ]
      refine wpAnyT_take 8 (some 76) (.pointer (some ⟨gt, ot + i * 2, none⟩)) #[true, true, true, true, true, true, true, true, true, false, false, false, false, false] rfl rfl rfl (by kernel_rfl) (fun _ _ _ h => h) hS0 (by rfl) (fun W hX => by go_simp) ?_
      simp only [Act.put, List.setIfInBounds_toArray, List.set_cons_zero, List.set_cons_succ]
      refine wpAnyT_take 9 (some 77) (.pointer (some ⟨gt, ot + i * 2 + 1, none⟩)) #[true, true, true, true, true, true, true, true, true, true, false, false, false, false] rfl rfl rfl (by kernel_rfl) (fun _ _ _ h => h) hS0 (by rfl) (fun W hX => by go_simp) ?_
      simp only [Act.put, List.setIfInBounds_toArray, List.set_cons_zero, List.set_cons_succ]
      refine wpAnyT_take 10 (some 78) (.int .u8 (by_.toNat : Int)) #[true, true, true, true, true, true, true, true, true, true, true, false, false, false] rfl rfl rfl (by kernel_rfl) (fun _ _ _ h => h) hS0 (by rfl) (fun W hX => by have s0 := (hX.cell (i := ot + i * 2 + 1) hgt).trans kb; go_simp) ?_
      simp only [Act.put, List.setIfInBounds_toArray, List.set_cons_zero, List.set_cons_succ]
      refine wpAnyT_take 11 (some 79) (.int .u8 (xv.toNat : Int)) #[true, true, true, true, true, true, true, true, true, true, true, true, false, false] rfl rfl rfl (by kernel_rfl) (fun _ _ _ h => h) hS0 (by rfl) (fun W hX => by go_simp) ?_
      simp only [Act.put, List.setIfInBounds_toArray, List.set_cons_zero, List.set_cons_succ]
      refine wpAnyT_only 12 #[true, true, true, true, true, true, true, true, true, true, true, true, true, false] (by kernel_rfl) rfl rfl (by rfl) (fun K0 hK0 => ?_)
      go_simp
      refine hK0 _ _ (fun _ => hS0) ?_
      clear hK0 K0
      refine wpAnyT_only 13 #[true, true, true, true, true, true, true, true, true, true, true, true, true, true] (by kernel_rfl) rfl rfl (by rfl) (fun K1 hK1 => ?_)
      refine wpOper_storeB 5 (.tmp 80) (.tmp 79) rfl rfl rfl (hcs _ hS0) ((hO.ext hS0).cell hats).2 (by kernel_rfl) rfl rfl ?_
      refine hK1 _ _ (fun h => absurd h (by decide)) (wpAnyT_done (by kernel_rfl) ?_ _)
      clear hK1 K1
      have hO' := (hO.set at_ xv).ext (Ext.refl _).drew
      have hE' := (hE.setCell (g := g) (i := at_) hbg (.int .u8 (xv.toNat : Int))).drew
      go_wp2
      go_roundw
      case rel => exact ⟨i + 1, _, by omega, by go_num, by rw [List.length_set]; exact HSl.out, hO', hE'⟩
      case measure => simp [intOf]; omega
    · have hstop : (i : Int) < (nt : Int) → ¬ (0 : Int) < (lx : Int) := fun h1 h2 => hgo ⟨by omega, by omega⟩
      have hcase : (¬ (i : Int) < (nt : Int)) ∨ ((i : Int) < (nt : Int) ∧ ¬ (0 : Int) < (lx : Int)) := by
        rcases Nat.lt_or_ge i nt with h | h
        · exact .inr ⟨by omega, hstop (by omega)⟩
        · exact .inl (by omega)
      clear hstop
      rcases hcase with hx | ⟨hx, hy⟩
      all_goals
        have HO := hide hO
        have HSl := hide hsl
        have HBy := hide (show Bytes wr wr.heap.size A4 lx s from OwnB.bytesR hO)
        have HE := hide hE
        obtain ⟨wb, rfl⟩ : ∃ W, W = wr := ⟨_, rfl⟩
        clear hO hsl hE hgo
        go_wp2_with fail
        try clear hx hy
        try clear hx
        go_loopw [14, 15, 16] (fun zin zo z wr => ∃ (q I : Nat) (O : Bool), q ≤ Q ∧ z = .int .i64 (q : Int) ∧ zin = .int .i64 (I : Int) ∧ I ≤ q ∧ zo = .bool O ∧ (q % t ≠ 0 → I = lostS k m c s (q / t) (q % t)) ∧ (O = true → ∃ j, j < N ∧ m < lostS k m c s j (k + m)) ∧ Ext wb wr) (fun _ _ z _ => Q - (intOf z).toNat)
        case atStart => exact ⟨0, 0, false, by omega, rfl, rfl, by omega, rfl, fun h => absurd (Nat.zero_mod t) h, (fun h => by cases h), Ext.refl _⟩
        case round =>
          obtain ⟨q, I, O, hq, rfl, rfl, hIq9, rfl, hIl, hOv, hE⟩ := hrel
          by_cases hqQ : q < Q
          · have hqQI : (q : Int) < (Q : Int) := by omega
            have emq : (q : Int).tmod (t : Int) = ((q % t : Nat) : Int) := by rw [Int.tmod_eq_emod_of_nonneg (by omega)]; exact (Int.natCast_emod _ _).symm
            have hqN : q / t < N := by
              rw [Nat.div_lt_iff_lt_mul (by omega)]
              have := HQ.out
              omega
            have hat := lost_at (k := k) (m := m) (c := c) (s := s) q
            rw [← Ht.out] at hat
            have HNi := hide (fun (h : (q + 1) % t ≠ 0) => next_in (i := q) (show 0 < t by omega) h)
            have hmono := lost_mono (k := k) (m := m) (c := c) (s := s) (j := q / t) (i := q % t + 1) (i' := t) (by have := Nat.mod_lt q (show 0 < t by omega); omega)
            have hl0 := lost_zero k m c s (q / t)
            obtain ⟨fr, hfr⟩ : ∃ x, x = q * d := ⟨_, rfl⟩
            have p1 : (q : Int) * (d : Int) = (fr : Int) := by rw [hfr]; exact (Int.natCast_mul _ _).symm
            have p2 : ((q : Int) + 1) * (d : Int) = ((fr + d : Nat) : Int) := by rw [Int.add_mul, p1]; omega
            have hle : fr + d ≤ lx := by rw [hfr, Hlx.out, ← Nat.succ_mul]; exact Nat.mul_le_mul_right _ hqQ
            have hpart : partQ c s q = (s.drop fr).take d := by unfold partQ; rw [hfr, Hd.out]
            obtain ⟨f2, hf2⟩ : ∃ x, x = fr + d := ⟨_, rfl⟩
            rw [← hf2] at p2 hle
            have hfd : f2 - fr = d := by omega
            have hc4 := HC4.out.1
            have r1 : (0 : Int) ≤ (fr : Int) := by omega
            have r2 : (fr : Int) ≤ (f2 : Int) := by omega
            have r3 : (f2 : Int) ≤ (c4 : Int) := by omega
            have r4 : (f2 : Int) ≤ 20000 := by omega
            have hBq : Bytes wr wr.heap.size (cutAt A4 c4 fr) (f2 - fr) (partQ c s q) := by
              rw [hpart, hfd]
              exact (((hE.bytes HBy.out).drop (by omega) hc4).take (by omega))
            have CC := refCut_any (cutAt A4 c4 fr) (f2 - fr) (c4 - fr) (partQ c s q) wr (by omega) (by omega) hBq
            unfold CutB at CC
            have hgd : goodQ c s q = decide (Crc.cutErr (partQ c s q) = 0) := rfl
            generalize Crc.cutErr (partQ c s q) = ce at *
            generalize Crc.cutBytes (partQ c s q) = x at *
            clear hfr hpart hf2 hBq hfd hle
            obtain ⟨I2, hI2⟩ : ∃ y, y = lostS k m c s (q / t) (q % t + 1) := ⟨_, rfl⟩
            rw [← hI2] at hat hmono
            have HRl := hide (show (q + 1) % t ≠ 0 → I2 = lostS k m c s ((q + 1) / t) ((q + 1) % t) from fun h => by rw [(HNi.out h).1, (HNi.out h).2]; exact hI2)
            have HOv := hide (show m < I2 → ∃ j, j < N ∧ m < lostS k m c s j (k + m) from fun h => ⟨q / t, hqN, by rw [← Ht.out]; omega⟩)
            clear hI2 hmono hqN HNi
            by_cases hz : q % t = 0
            · rw [hz, hl0] at hat
              have hzI : ((q % t : Nat) : Int) = 0 := by omega
              rw [hzI] at emq
              clear hIl hz hzI hl0
              by_cases hce : ce = 0
              · subst hce
                rw [decide_eq_true rfl] at hgd
                rw [hgd, if_pos rfl, Nat.add_zero] at hat
                subst hat
                clear hgd
                go_wp2_with fail
                refine CC.mono ?_
                rintro e6 w6 ⟨v6, rfl, -, hE6⟩
                go_wp2
                go_roundw
                case rel => exact ⟨q + 1, 0, O, by omega, by go_num, rfl, by omega, rfl, HRl.out, hOv, hE.trans hE6⟩
                case measure => simp [intOf]; omega
              · have hceb : (ce == 0) = false := by rw [beq_eq_false_iff_ne]; exact hce
                rw [decide_eq_false hce] at hgd
                rw [hgd, if_neg (by decide)] at hat
                clear hgd hce
                cases O with
                | true =>
                  have HO2 := hide (hOv rfl)
                  clear hOv
                  subst hat
                  go_wp2_with fail
                  refine CC.mono ?_
                  rintro e6 w6 ⟨v6, rfl, -, hE6⟩
                  go_wp2
                  go_roundw
                  case rel => exact ⟨q + 1, 1, true, by omega, by go_num, by rfl, by omega, rfl, HRl.out, fun _ => HO2.out, hE.trans hE6⟩
                  case measure => simp [intOf]; omega
                | false =>
                  clear hOv
                  by_cases hov : m < I2
                  · have HO2 := hide (HOv.out hov)
                    have hovI : (m : Int) < 1 := by omega
                    clear hov
                    subst hat
                    go_wp2_with fail
                    refine CC.mono ?_
                    rintro e6 w6 ⟨v6, rfl, -, hE6⟩
                    go_wp2
                    go_roundw
                    case rel => exact ⟨q + 1, 1, true, by omega, by go_num, by rfl, by omega, rfl, HRl.out, fun _ => HO2.out, hE.trans hE6⟩
                    case measure => simp [intOf]; omega
                  · have hovI : ¬ (m : Int) < 1 := by omega
                    clear hov
                    subst hat
                    go_wp2_with fail
                    refine CC.mono ?_
                    rintro e6 w6 ⟨v6, rfl, -, hE6⟩
                    go_wp2
                    go_roundw
                    case rel => exact ⟨q + 1, 1, false, by omega, by go_num, by rfl, by omega, (by first | rfl | (simp; omega)), HRl.out, (fun h => by cases h), hE.trans hE6⟩
                    case measure => simp [intOf]; omega
            · have hI := hIl hz
              rw [← hI] at hat
              have hzI : (((q % t : Nat) : Int) == 0) = false := by rw [beq_eq_false_iff_ne]; omega
              obtain ⟨qt, hqt⟩ : ∃ x, x = q % t := ⟨_, rfl⟩
              rw [← hqt] at emq hzI
              have hIq : (I : Int) ≤ 4000 := by omega
              clear hIl hz hI hl0 hqt
              by_cases hce : ce = 0
              · subst hce
                rw [decide_eq_true rfl] at hgd
                rw [hgd, if_pos rfl, Nat.add_zero] at hat
                subst hat
                clear hgd
                go_wp2_with fail
                refine CC.mono ?_
                rintro e6 w6 ⟨v6, rfl, -, hE6⟩
                go_wp2
                go_roundw
                case rel => exact ⟨q + 1, I2, O, by omega, by go_num, rfl, by omega, rfl, HRl.out, hOv, hE.trans hE6⟩
                case measure => simp [intOf]; omega
              · have hceb : (ce == 0) = false := by rw [beq_eq_false_iff_ne]; exact hce
                rw [decide_eq_false hce] at hgd
                rw [hgd, if_neg (by decide)] at hat
                clear hgd hce
                cases O with
                | true =>
                  have HO2 := hide (hOv rfl)
                  clear hOv
                  subst hat
                  go_wp2_with fail
                  refine CC.mono ?_
                  rintro e6 w6 ⟨v6, rfl, -, hE6⟩
                  go_wp2
                  go_roundw
                  case rel => exact ⟨q + 1, I + 1, true, by omega, by go_num, by go_num, by omega, rfl, HRl.out, fun _ => HO2.out, hE.trans hE6⟩
                  case measure => simp [intOf]; omega
                | false =>
                  clear hOv
                  by_cases hov : m < I2
                  · have HO2 := hide (HOv.out hov)
                    have hovI : (m : Int) < (I : Int) + 1 := by omega
                    clear hov
                    subst hat
                    go_wp2_with fail
                    refine CC.mono ?_
                    rintro e6 w6 ⟨v6, rfl, -, hE6⟩
                    go_wp2
                    go_roundw
                    case rel => exact ⟨q + 1, I + 1, true, by omega, by go_num, by go_num, by omega, rfl, HRl.out, fun _ => HO2.out, hE.trans hE6⟩
                    case measure => simp [intOf]; omega
                  · have hovI : ¬ (m : Int) < (I : Int) + 1 := by omega
                    clear hov
                    subst hat
                    go_wp2_with fail
                    refine CC.mono ?_
                    rintro e6 w6 ⟨v6, rfl, -, hE6⟩
                    go_wp2
                    go_roundw
                    case rel => exact ⟨q + 1, I + 1, false, by omega, by go_num, by go_num, by omega, (by first | rfl | (simp; omega)), HRl.out, (fun h => by cases h), hE.trans hE6⟩
                    case measure => simp [intOf]; omega
          · obtain rfl : Q = q := by omega
            have hqQI : ¬ (Q : Int) < (Q : Int) := by omega
            have hF := HE.out.trans hE
            have CRs := CR wr hF s A4 c4 (hE.bytes HBy.out) HC4.out.1 HC4.out.2
            clear hIl hIq9
            cases O with
            | true =>
              obtain ⟨j, hj, hl⟩ := hOv rfl
              obtain ⟨er, her, h12⟩ := HDam.out s HSl.out j hj hl
              rw [her] at CRs
              dsimp only [List.length_nil] at CRs
              clear hOv HDam CR hj hl her
              rcases h12 with rfl | rfl
              · go_wp2_with fail
                refine CRs.mono ?_
                rintro e5 w5 ⟨A5, a5, B5, b5, rfl, -, -, hE5⟩
                go_wp2
                go_ret
                exact ⟨rfl, hF.trans hE5⟩
              · go_wp2_with fail
                refine CRs.mono ?_
                rintro e5 w5 ⟨A5, a5, B5, b5, rfl, -, -, hE5⟩
                go_wp2
                go_ret
                exact ⟨rfl, hF.trans hE5⟩
            | false =>
              generalize readE (k : Int) (m : Int) (c : Int) (n : Int) s = r at *
              obtain ⟨r1, r2, r3⟩ := r
              dsimp only at CRs
              clear hOv HDam CR
              generalize r1.length = l1 at *
              generalize r2.length = l2 at *
              go_wp2_with fail
              refine CRs.mono ?_
              rintro e5 w5 ⟨A5, a5, B5, b5, rfl, -, -, hE5⟩
              go_wp2
              go_ret
              exact ⟨rfl, hF.trans hE5⟩
end Go.Proofs.YtkfipfhmbhmamaaDoor

