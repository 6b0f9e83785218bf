/- Chapter 23: StripeMends. -/
import Derived.Test.YtkfipfhmbhmamaaDoorB32
import Derived.Test.YtkfipfhmbhmamaaDoorB02
namespace Go.Proofs.YtkfipfhmbhmamaaDoor
open Go.RowKit Stp

attribute [local go_sem ↓] run_mid
set_option maxHeartbeats 16000000 in
set_option maxRecDepth 100000 in
theorem stripeMends_walk0 (sa sb sc : Nat) (A : Option Addr) (n cap : Nat) (b : List UInt8) (AT : Option Addr) (nt ct : Nat) (L : List (Nat × UInt8)) (w : World) (hL : LayC23 w) (hR : ReadC23 w) (ha : sa < 256) (hsb : sb < 256) (hsc : sc < 256) (h1 : n ≤ cap) (h2 : cap ≤ maxLen) (hb : Bytes w w.heap.size A n b) (hT : TurnsAt w w.heap.size AT nt L) :
    Calls Tryd.prog 7 #[.agg #[.int .u8 (sa : Int), .int .u8 (sb : Int), .int .u8 (sc : Int)], .slice A n cap, .slice AT nt ct] w fun e w' => e = .returned (.bool true) ∧ Ext w w' := by
  have C0 := fun W (hE : Ext w W) => alive23_any hL hE
  have hbl := hb.1
  obtain ⟨w1, hw1⟩ : ∃ w1, w1 = w.alloc (.cells #[.int .u8 (sa : Int), .int .u8 (sb : Int), .int .u8 (sc : Int)] 38) := ⟨_, rfl⟩
  have HE1 := hide (show Ext w w1 by rw [hw1]; exact extNew w _)
  have HW := hide (show Whole w1 w.heap.size 38 #[.int .u8 (sa : Int), .int .u8 (sb : Int), .int .u8 (sc : Int)] by rw [hw1]; exact Whole.new w _ _)
  by_cases hbig : 600 < (n : Int)
  · clear hL hR hb hbl ha hsb hsc h1 h2 HW hT
    go_enter Tryd.func7, Tryd.ntmps7
    go_wp2_with fail
    rw [← hw1]
    refine (C0 _ HE1.out).mono ?_
    rintro e w2 ⟨rfl, hE2⟩
    go_wp2
    go_ret
    exact ⟨rfl, HE1.out.trans hE2⟩
  by_cases hbigt : 60 < (nt : Int)
  · clear hL hR hb hbl ha hsb hsc h1 h2 HW hT
    go_enter Tryd.func7, Tryd.ntmps7
    go_wp2_with fail
    rw [← hw1]
    refine (C0 _ HE1.out).mono ?_
    rintro e w2 ⟨rfl, hE2⟩
    go_wp2
    go_ret
    exact ⟨rfl, HE1.out.trans hE2⟩
  have CO := fun W => shapeOf_any sa sb sc W ha hsb hsc
  obtain ⟨k, hk⟩ : ∃ k, k = 1 + sa % 6 := ⟨_, rfl⟩
  obtain ⟨m, hm⟩ : ∃ m, m = sb % 5 := ⟨_, rfl⟩
  obtain ⟨c, hc⟩ : ∃ c, c = 1 + sc % 24 := ⟨_, rfl⟩
  simp only [← hk, ← hm, ← hc] at CO
  have hk1 : 1 ≤ k := by omega
  have hk6 : k ≤ 6 := by omega
  have hm4 : m ≤ 4 := by omega
  have hc1 : 1 ≤ c := by omega
  have hc24 : c ≤ 24 := by omega
  have hn : b.length ≤ 600 := by omega
  obtain ⟨f1, f2, f3⟩ := small_facts hk1 hm4 hc1 hk6 hc24 hn
  obtain ⟨f5, f6⟩ := small_size hk1 hm4 hc1 hk6 hc24 hn
  rw [hbl] at f1 f2 f3 f5 f6
  have CL := fun W (hE : Ext w W) => hL k m c A n cap b W hE (by unfold IsI64; omega) (by unfold IsI64; omega) (by unfold IsI64; omega) (hE.bytes hb) h1 h2 (by rw [f1]; dsimp only; omega)
  rw [f2] at CL
  have HAll := hide (fun (s : List UInt8) (hs : s.length = sizeN k m c n) (h : Hurt k m c b s) => h.all hk1 (by omega) hc1 (by rw [hbl]; exact f1) (by rw [hbl]; exact hs))
  have HHurt := hide (fun (s : List UInt8) => hurt_of (k := k) (m := m) (c := c) (b := b) (s := s) hk1)
  have HGood := hide (fun q (hq : q < stripesN k c n * (k + m)) => (lay_good (k := k) (m := m) (c := c) (b := b) hk1 hq).1)
  rw [hbl] at HAll HHurt
  have HSz := hide (show sizeN k m c n = stripesN k c n * (k + m) * (c + 4) from rfl)
  generalize layQ k m c b (stripesN k c n * (k + m)) = X at *
  generalize sizeN k m c n = lx at *
  generalize stripesN k c n = N at *
  unfold MadeE at CL
  dsimp only at CL
  have CR := fun W (hE : Ext w W) (s : List UInt8) A' c' (hX : Bytes W W.heap.size A' lx s) hc' hm' => hR k m c n A' lx c' s W hE (by unfold IsI64; omega) (by unfold IsI64; omega) (by unfold IsI64; omega) (by unfold IsI64; omega) hX hc' hm' (by omega)
  unfold RdTo23 at CR
  obtain ⟨t, ht⟩ : ∃ t, t = k + m := ⟨_, rfl⟩
  obtain ⟨d, hd⟩ : ∃ d, d = c + 4 := ⟨_, rfl⟩
  obtain ⟨Q, hQ⟩ : ∃ q, q = N * t := ⟨_, rfl⟩
  have hlx : lx = Q * d := by rw [HSz.out, hQ, ht, hd]
  rw [← ht, ← hQ] at f6
  have pt : (k : Int) + (m : Int) = (t : Int) := by omega
  have pd : (c : Int) + 4 = (d : Int) := by omega
  have hd5 : 5 ≤ d := by omega
  have hd28 : (d : Int) ≤ 28 := by omega
  have ht1 : 1 ≤ t := by omega
  have pq : (lx : Int).tdiv (d : Int) = (Q : Int) := by rw [Int.tdiv_eq_ediv_of_nonneg (by omega), hlx, Int.natCast_mul]; exact Int.mul_ediv_cancel _ (by omega)
  have hd0 : ((d : Int) == 0) = false := by rw [beq_eq_false_iff_ne]; omega
  have ht0 : ((t : Int) == 0) = false := by rw [beq_eq_false_iff_ne]; omega
  have HB := hide hb
  have HBl := hide hbl
  have HT := hide hT
  have Ht := hide ht
  have Hd := hide hd
  have HQ := hide hQ
  have Hlx := hide hlx
  have hlx9 : (lx : Int) ≤ 20000 := by omega
  have hQ9 : (Q : Int) ≤ 4000 := by omega
  clear hL hR hb hbl ha hsb hsc h1 h2 hk hm hc f1 f2 f5 f6 hn hT ht hd hQ hlx
  go_enter Tryd.func7, Tryd.ntmps7
  go_wp2_with fail
  rw [← hw1]
  clear hw1
  refine (C0 _ HE1.out).mono ?_
  rintro e w2 ⟨rfl, hE2⟩
  have hF2 := HE1.out.trans hE2
  have hW2 := HW.out.ext hE2
  have s0 := hW2.at 0 (u := .int .u8 (sa : Int)) rfl
  have s1 := hW2.at 1 (u := .int .u8 (sb : Int)) rfl
  have s2 := hW2.at 2 (u := .int .u8 (sc : Int)) rfl
  clear HW hW2 hE2 C0
  go_wp2_with fail
  refine (CO _).mono ?_
  rintro e w3 ⟨rfl, hE3⟩
  have hF3 := hF2.trans hE3
  have CL := CL w3 hF3
  clear s0 s1 s2 CO hE3 hF2
  go_wp2_with fail
  refine CL.mono ?_
  rintro e w4 ⟨v4, rfl, hO4, hE4⟩
  have hF4 := hF3.trans hE4
  obtain ⟨A4, c4, hv4, hc4, hm4', -⟩ := hO4.form
  rw [f3] at hv4 hc4
  subst hv4
  have hO4 := hO4.mono hF3.le
  have HC4 := hide (And.intro hc4 hm4')
  have HX4 := hide (show Bytes w4 w4.heap.size A4 lx X from OwnB.bytesR hO4)
  have HF4 := hide hF4
  clear CL hE4 hF3 HE1 hc4 hm4' hO4 hF4
  have hOb := OwnB.empty w4 (Nat.le_refl w4.heap.size)
  have hEa := extNew w4 (.cells #[] 5)
  have h4a := hEa.bytes HX4.out
  have hfit0 : ([] : List UInt8).length + lx ≤ 140737488355328 := by rw [List.length_nil]; omega
  have hBa := hEa.le
  go_wp2_with (at_builtin; refine wpList_app rfl (.tmp 51) (.tmp 52) rfl rfl hOb rfl h4a hfit0 hBa ?_; intro v5 w5 hO5 hG5; have hE5 : Ext w4 w5 := OwnB.below hOb hEa hG5 hBa; rw [List.nil_append] at hO5; obtain ⟨A5, c5, hv5, hc5, hm5, -⟩ := hO5.form; rw [f3] at hv5 hc5; subst hv5; have HC5 := hide (And.intro hc5 hm5); clear hOb h4a hG5 hEa hBa hc5 hm5)
  go_loopw [13] (fun z wr => ∃ (i : Nat) (s : List UInt8), i ≤ nt ∧ z = .int .i64 (i : Int) ∧ s.length = lx ∧ OwnB wr w4.heap.size (.slice A5 lx c5) s ∧ Ext w4 wr) (fun z _ => nt - (intOf z).toNat)
  case atStart => exact ⟨0, X, by omega, rfl, f3, hO5, hE5⟩
  case round =>
    clear hO5 hE5
    obtain ⟨i, s, hi, rfl, hsl, hO, hE⟩ := hrel
    by_cases hgo : i < nt ∧ 0 < lx
    · obtain ⟨hint, hl0⟩ := hgo
      have hintI : (i : Int) < (nt : Int) := by omega
      have hi0 : (0 : Int) ≤ (i : Int) := by omega
      have hl0I : (0 : Int) < (lx : Int) := by omega
      obtain ⟨g, c', hv, hbg, -⟩ := hO.formG (by omega)
      rw [hsl] at hv
      simp only [Value.slice.injEq] at hv
      obtain ⟨rfl, -, rfl⟩ := hv
      rcases (HT.out.later (HF4.out.trans hE)).2 with h0 | ⟨gt, ot, rfl, hgt, hct⟩
      · omega
      obtain ⟨ka, kb, hlt⟩ := hct i hint
      obtain ⟨u, hu⟩ : ∃ u, u = (L.getD i (0, 0)).1 := ⟨_, rfl⟩
      obtain ⟨by_, hby⟩ : ∃ u, u = (L.getD i (0, 0)).2 := ⟨_, rfl⟩
      rw [← hu] at ka hlt
      rw [← hby] at kb
      have em : (u : Int).tmod (lx : Int) = ((u % lx : Nat) : Int) := by rw [Int.tmod_eq_emod_of_nonneg (by omega)]; exact (Int.natCast_emod _ _).symm
      have hat : u % lx < lx := Nat.mod_lt _ hl0
      generalize u % lx = at_ at *
      have hatI : (at_ : Int) < (lx : Int) := by omega
      have hat0 : (0 : Int) ≤ (at_ : Int) := by omega
      have hats : at_ < s.length := by omega
      have hlz : ((lx : Int) == 0) = false := by rw [beq_eq_false_iff_ne]; omega
      have huI : (u : Int) < 65536 := by omega
      have HSl := hide hsl
      obtain ⟨sv, hsv⟩ : ∃ x, x = s.getD at_ 0 := ⟨_, rfl⟩
      have hcs : ∀ W, Ext wr W → W.cell? ⟨g, at_, none⟩ = some (.int .u8 (sv.toNat : Int)) := fun W hX => by rw [hsv]; exact ((hO.ext hX).cell hats).1
      obtain ⟨xv, hxv⟩ : ∃ x, x = sv ^^^ by_ := ⟨_, rfl⟩
      have hxo : bits .xor .u8 (sv.toNat : Int) (by_.toNat : Int) = (xv.toNat : Int) := by rw [hxv]; exact u8_xor_byte8 sv by_
      clear hct hu hby hsl hsv hxv
      go_wp2_with fail
      refine wp_region_T (fun W => Ext wr W) 13 14 #[false, false, false, false, false, false, false, false, false, false, false, false, false, false] (by kernel_rfl) rfl rfl (Ext.refl wr).drew ?_
      intro hS0
      refine wpAnyT_take 0 (some 74) (.slice (some ⟨g, 0, none⟩) lx c5) #[true, false, false, false, false, false, false, false, false, false, false, false, false, false] rfl rfl rfl (by kernel_rfl) (fun _ _ _ h => h) hS0 (by rfl) (fun W hX => by go_simp) ?_
      simp only [Act.put, List.setIfInBounds_toArray, List.set_cons_zero, List.set_cons_succ]
      refine wpAnyT_take 1 (some 75) (.int .i64 (at_ : Int)) #[true, true, false, false, false, false, false, false, false, false, false, false, false, false] rfl rfl rfl (by kernel_rfl) (fun _ _ _ h => h) hS0 (by rfl) (fun W hX => by go_simp) ?_
      simp only [Act.put, List.setIfInBounds_toArray, List.set_cons_zero, List.set_cons_succ]
      refine wpAnyT_take 2 (some 76) (.slice (some ⟨g, 0, none⟩) lx c5) #[true, true, true, false, false, false, false, false, false, false, false, false, false, false] rfl rfl rfl (by kernel_rfl) (fun _ _ _ h => h) hS0 (by rfl) (fun W hX => by go_simp) ?_
      simp only [Act.put, List.setIfInBounds_toArray, List.set_cons_zero, List.set_cons_succ]
      refine wpAnyT_take 3 (some 77) (.int .i64 (at_ : Int)) #[true, true, true, true, false, false, false, false, false, false, false, false, false, false] rfl rfl rfl (by kernel_rfl) (fun _ _ _ h => h) hS0 (by rfl) (fun W hX => by go_simp) ?_
      simp only [Act.put, List.setIfInBounds_toArray, List.set_cons_zero, List.set_cons_succ]
      refine wpAnyT_take 4 (some 78) (.pointer (some ⟨g, at_, none⟩)) #[true, true, true, true, true, false, false, false, false, false, false, false, false, false] rfl rfl rfl (by kernel_rfl) (fun _ _ _ h => h) hS0 (by rfl) (fun W hX => by go_simp) ?_
      simp only [Act.put, List.setIfInBounds_toArray, List.set_cons_zero, List.set_cons_succ]
      refine wpAnyT_take 5 (some 79) (.int .u8 (sv.toNat : Int)) #[true, true, true, true, true, true, false, false, false, false, false, false, false, false] rfl rfl rfl (by kernel_rfl) (fun _ _ _ h => h) hS0 (by rfl) (fun W hX => by have s0 := hcs W hX; go_simp) ?_
      simp only [Act.put, List.setIfInBounds_toArray, List.set_cons_zero, List.set_cons_succ]
      refine wpAnyT_take 6 (some 80) (.slice (some ⟨gt, ot, none⟩) nt ct) #[true, true, true, true, true, true, true, false, false, false, false, false, false, false] rfl rfl rfl (by kernel_rfl) (fun _ _ _ h => h) hS0 (by rfl) (fun W hX => by go_simp) ?_
      simp only [Act.put, List.setIfInBounds_toArray, List.set_cons_zero, List.set_cons_succ]
      refine wpAnyT_take 7 (some 81) (.int .i64 (i : Int)) #[true, true, true, true, true, true, true, true, false, false, false, false, false, false] rfl rfl rfl (by kernel_rfl) (fun _ _ _ h => h) hS0 (by rfl) (fun W hX => by go_simp) ?_
      simp only [Act.put, List.setIfInBounds_toArray, List.set_cons_zero, List.set_cons_succ]
      refine wpAnyT_take 8 (some 82) (.pointer (some ⟨gt, ot + i * 2, none⟩)) #[true, true, true, true, true, true, true, true, true, false, false, false, false, false] rfl rfl rfl (by kernel_rfl) (fun _ _ _ h => h) hS0 (by rfl) (fun W hX => by go_simp) ?_
      simp only [Act.put, List.setIfInBounds_toArray, List.set_cons_zero, List.set_cons_succ]
      refine wpAnyT_take 9 (some 83) (.pointer (some ⟨gt, ot + i * 2 + 1, none⟩)) #[true, true, true, true, true, true, true, true, true, true, false, false, false, false] rfl rfl rfl (by kernel_rfl) (fun _ _ _ h => h) hS0 (by rfl) (fun W hX => by go_simp) ?_
      simp only [Act.put, List.setIfInBounds_toArray, List.set_cons_zero, List.set_cons_succ]
      refine wpAnyT_take 10 (some 84) (.int .u8 (by_.toNat : Int)) #[true, true, true, true, true, true, true, true, true, true, true, false, false, false] rfl rfl rfl (by kernel_rfl) (fun _ _ _ h => h) hS0 (by rfl) (fun W hX => by have s0 := (hX.cell (i := ot + i * 2 + 1) hgt).trans kb; go_simp) ?_
      simp only [Act.put, List.setIfInBounds_toArray, List.set_cons_zero, List.set_cons_succ]
      refine wpAnyT_take 11 (some 85) (.int .u8 (xv.toNat : Int)) #[true, true, true, true, true, true, true, true, true, true, true, true, false, false] rfl rfl rfl (by kernel_rfl) (fun _ _ _ h => h) hS0 (by rfl) (fun W hX => by go_simp) ?_
      simp only [Act.put, List.setIfInBounds_toArray, List.set_cons_zero, List.set_cons_succ]
      refine wpAnyT_only 12 #[true, true, true, true, true, true, true, true, true, true, true, true, true, false] (by kernel_rfl) rfl rfl (by rfl) (fun K0 hK0 => ?_)
      go_simp
      refine hK0 _ _ (fun _ => hS0) ?_
      clear hK0 K0
      refine wpAnyT_only 13 #[true, true, true, true, true, true, true, true, true, true, true, true, true, true] (by kernel_rfl) rfl rfl (by rfl) (fun K1 hK1 => ?_)
      refine wpOper_storeB 5 (.tmp 86) (.tmp 85) rfl rfl rfl (hcs _ hS0) ((hO.ext hS0).cell hats).2 (by kernel_rfl) rfl rfl ?_
      refine hK1 _ _ (fun h => absurd h (by decide)) (wpAnyT_done (by kernel_rfl) ?_ _)
      clear hK1 K1
      have hO' := (hO.set at_ xv).ext (Ext.refl _).drew
      have hE' := (hE.setCell (g := g) (i := at_) hbg (.int .u8 (xv.toNat : Int))).drew
      go_wp2
      go_roundw
      case rel => exact ⟨i + 1, _, by omega, by go_num, by rw [List.length_set]; exact HSl.out, hO', hE'⟩
      case measure => simp [intOf]; omega
    · have hstop : (i : Int) < (nt : Int) → ¬ (0 : Int) < (lx : Int) := fun h1 h2 => hgo ⟨by omega, by omega⟩
      have hcase : (¬ (i : Int) < (nt : Int)) ∨ ((i : Int) < (nt : Int) ∧ ¬ (0 : Int) < (lx : Int)) := by
        rcases Nat.lt_or_ge i nt with h | h
        · exact .inr ⟨by omega, hstop (by omega)⟩
        · exact .inl (by omega)
      clear hstop
      rcases hcase with hx | ⟨hx, hy⟩
      · have HO := hide hO
        have HSl := hide hsl
        have HBy := hide (show Bytes wr wr.heap.size A5 lx s from OwnB.bytesR hO)
        have HX4 := hide (hE.bytes HX4.out)
        have HE := hide (HF4.out.trans hE)
        obtain ⟨wb, rfl⟩ : ∃ W, W = wr := ⟨_, rfl⟩
        clear hO hsl hE hgo
        go_wp2_with fail
        clear hx
        go_loopw [15, 16, 17] (fun zc zin z wr => ∃ (q I : Nat), q ≤ Q ∧ z = .int .i64 (q : Int) ∧ zin = .int .i64 (I : Int) ∧ I ≤ q ∧ (q % t ≠ 0 → I = lostS k m c s (q / t) (q % t) ∧ I ≤ m) ∧ OwnI wr wb.heap.size zc (badQ c s q) ∧ (∀ x, x < q → goodQ c s x = true → partQ c s x = partQ c X x) ∧ (∀ x, x < q → lostS k m c s (x / t) (x % t + 1) ≤ m) ∧ Ext wb wr) (fun _ _ z _ => Q - (intOf z).toNat)
        case atStart => exact ⟨0, 0, by omega, rfl, rfl, by omega, fun h => absurd (Nat.zero_mod t) h, OwnI.nil _ _, fun x hx => absurd hx (by omega), fun x hx => absurd hx (by omega), Ext.refl _⟩
        case round =>
          obtain ⟨q, I, hq, rfl, rfl, hIq9, hIl, hIc, hpt, hfew, hE⟩ := hrel
          by_cases hqQ : q < Q
          · have hqQI : (q : Int) < (Q : Int) := by omega
            have emq : (q : Int).tmod (t : Int) = ((q % t : Nat) : Int) := by rw [Int.tmod_eq_emod_of_nonneg (by omega)]; exact (Int.natCast_emod _ _).symm
            have hat := lost_at (k := k) (m := m) (c := c) (s := s) q
            rw [← Ht.out] at hat
            have HNi := hide (fun (h : (q + 1) % t ≠ 0) => next_in (i := q) (show 0 < t by omega) h)
            have hl0 := lost_zero k m c s (q / t)
            obtain ⟨fr, hfr⟩ : ∃ x, x = q * d := ⟨_, rfl⟩
            have p1 : (q : Int) * (d : Int) = (fr : Int) := by rw [hfr]; exact (Int.natCast_mul _ _).symm
            have p2 : ((q : Int) + 1) * (d : Int) = ((fr + d : Nat) : Int) := by rw [Int.add_mul, p1]; omega
            have hle : fr + d ≤ lx := by rw [hfr, Hlx.out, ← Nat.succ_mul]; exact Nat.mul_le_mul_right _ hqQ
            have hpart : ∀ y, partQ c y q = (y.drop fr).take d := fun y => by unfold partQ; rw [hfr, Hd.out]
            obtain ⟨f2, hf2⟩ : ∃ x, x = fr + d := ⟨_, rfl⟩
            rw [← hf2] at p2 hle
            have hfd : f2 - fr = d := by omega
            have hc4 := HC4.out.1
            have hc5 := HC5.out.1
            have r1 : (0 : Int) ≤ (fr : Int) := by omega
            have r2 : (fr : Int) ≤ (f2 : Int) := by omega
            have r3 : (f2 : Int) ≤ (c4 : Int) := by omega
            have r5 : (f2 : Int) ≤ (c5 : Int) := by omega
            have r4 : (f2 : Int) ≤ 20000 := by omega
            have HBX := hide (show Bytes wr wr.heap.size (cutAt A4 c4 fr) (f2 - fr) (partQ c X q) by
              rw [hpart, hfd]
              exact (((hE.bytes HX4.out).drop (by omega) hc4).take (by omega)))
            have HBs := hide (show Bytes wr wr.heap.size (cutAt A5 c5 fr) (f2 - fr) (partQ c s q) by
              rw [hpart, hfd]
              exact (((hE.bytes HBy.out).drop (by omega) hc5).take (by omega)))
            have hgX := HGood.out q (by rw [← Ht.out, ← HQ.out]; exact hqQ)
            have hgXd : goodQ c X q = decide (Crc.cutErr (partQ c X q) = 0) := rfl
            have hgd : goodQ c s q = decide (Crc.cutErr (partQ c s q) = 0) := rfl
            rw [hgX] at hgXd
            have hbn := bad_next c s q
            have hlb : (badQ c s q).length ≤ 1000000 := Nat.le_trans (bad_len c s q) (by omega)
            obtain ⟨px, hpx⟩ : ∃ x, x = partQ c X q := ⟨_, rfl⟩
            obtain ⟨ps, hps⟩ : ∃ x, x = partQ c s q := ⟨_, rfl⟩
            rw [← hpx] at HBX hgXd
            rw [← hps] at HBs hgd
            have CX := fun W (hX : Ext wr W) => same_any (cutAt A4 c4 fr) (cutAt A5 c5 fr) (f2 - fr) (f2 - fr) (c4 - fr) (c5 - fr) px ps W (hX.bytes HBX.out) (hX.bytes HBs.out)
            have CC := fun W (hX : Ext wr W) => refCut_any (cutAt A5 c5 fr) (f2 - fr) (c5 - fr) ps W (by omega) (by omega) (hX.bytes HBs.out)
            unfold CutB at CC
            have HPd := hide (show px = ps → partQ c s q = partQ c X q from fun h => by rw [← hpx, ← hps, h])
            obtain ⟨I2, hI2⟩ : ∃ y, y = lostS k m c s (q / t) (q % t + 1) := ⟨_, rfl⟩
            rw [← hI2] at hat
            have HRl := hide (show (q + 1) % t ≠ 0 → I2 ≤ m → I2 = lostS k m c s ((q + 1) / t) ((q + 1) % t) ∧ I2 ≤ m from fun h h2 => by rw [(HNi.out h).1, (HNi.out h).2]; exact ⟨hI2, h2⟩)
            have HFew := hide (show I2 ≤ m → ∀ x, x < q + 1 → lostS k m c s (x / t) (x % t + 1) ≤ m from fun h x hx => by
              by_cases e : x = q
              · subst e
                rw [← hI2]
                exact h
              · exact hfew x (by omega))
            have HPt := hide (show (goodQ c s q = true → partQ c s q = partQ c X q) → ∀ x, x < q + 1 → goodQ c s x = true → partQ c s x = partQ c X x from fun h x hx hg => by
              by_cases e : x = q
              · subst e
                exact h hg
              · exact hpt x (by omega) hg)
            clear hfr hpart hf2 hfd hle hpx hps hgX hI2 HNi hfew hpt
            by_cases hz : q % t = 0
            · rw [hz, hl0] at hat
              have hzI : ((q % t : Nat) : Int) = 0 := by omega
              rw [hzI] at emq
              clear hIl hz hzI hl0
              by_cases hpp : px = ps
              · have hgs : goodQ c s q = true := by rw [hgd, ← hpp]; exact hgXd.symm
                rw [hgs, if_pos rfl, Nat.add_zero] at hat
                rw [hgs, if_pos rfl, List.append_nil] at hbn
                have HBn := hide hbn
                have HPp := hide (HPd.out hpp)
                have CX := fun W (hX : Ext wr W) => by have := CX W hX; rw [sameB_true hpp] at this; exact this
                subst hat
                clear hgd hgXd hgs hbn hpp CC
                go_wp2_with fail
                go_quiet (fail)
                go_wp2_with fail
                refine (CX _ ((Ext.refl wr).drewN _)).mono ?_
                rintro e6 w6 ⟨rfl, hE6⟩
                have hE7 := (Ext.refl wr).drewN _ |>.trans hE6
                go_wp2
                go_roundw
                case rel => exact ⟨q + 1, 0, by omega, by go_num, rfl, by omega, fun h => HRl.out h (Nat.zero_le _), by rw [HBn.out]; exact hIc.ext hE7, HPt.out (fun _ => HPp.out), HFew.out (Nat.zero_le _), hE.trans hE7⟩
                case measure => simp [intOf]; omega
              · have hsf : sameB px ps = false := decide_eq_false hpp
                have CX := fun W (hX : Ext wr W) => by have := CX W hX; rw [hsf] at this; exact this
                by_cases hce : Crc.cutErr ps = 0
                · have CC := fun W (hX : Ext wr W) => by have := CC W hX; rw [hce] at this; exact this
                  clear hgd hgXd hbn hpp hsf hat hce
                  go_wp2_with fail
                  go_quiet (fail)
                  go_wp2_with fail
                  refine (CX _ ((Ext.refl wr).drewN _)).mono ?_
                  rintro e6 w6 ⟨rfl, hE6⟩
                  have hE7 := (Ext.refl wr).drewN _ |>.trans hE6
                  have CC7 := CC w6 hE7
                  clear CC CX
                  go_wp2_with fail
                  refine CC7.mono ?_
                  rintro e8 w8 ⟨v8, rfl, -, hE8⟩
                  go_wp2
                  go_ret
                  exact ⟨rfl, (HE.out.trans hE).trans (hE7.trans hE8)⟩
                · have hceb : (Crc.cutErr ps == 0) = false := by rw [beq_eq_false_iff_ne]; exact hce
                  rw [decide_eq_false hce] at hgd
                  rw [hgd, if_neg (by decide)] at hat hbn
                  have HBn := hide hbn
                  have HG := hide hgd
                  generalize Crc.cutErr ps = ce at *
                  clear hgd hgXd hbn hpp hsf hce
                  by_cases hov : m < I2
                  · have hovI : (m : Int) < 1 := by omega
                    clear hov hat
                    go_wp2_with fail
                    go_quiet (fail)
                    go_wp2_with fail
                    refine (CX _ ((Ext.refl wr).drewN _)).mono ?_
                    rintro e6 w6 ⟨rfl, hE6⟩
                    have hE7 := (Ext.refl wr).drewN _ |>.trans hE6
                    have CC7 := CC w6 hE7
                    clear CC CX
                    go_wp2_with fail
                    refine CC7.mono ?_
                    rintro e8 w8 ⟨v8, rfl, -, hE8⟩
                    go_wp2
                    go_ret
                    exact ⟨rfl, (HE.out.trans hE).trans (hE7.trans hE8)⟩
                  · have hovI : ¬ (m : Int) < 1 := by omega
                    have hnm : I2 ≤ m := by omega
                    have HR2 := hide (fun h => HRl.out h hnm)
                    have HF2 := hide (HFew.out hnm)
                    clear hov hnm HRl HFew
                    subst hat
                    go_wp2_with fail
                    go_quiet (fail)
                    go_wp2_with fail
                    refine (CX _ ((Ext.refl wr).drewN _)).mono ?_
                    rintro e6 w6 ⟨rfl, hE6⟩
                    have hE7 := (Ext.refl wr).drewN _ |>.trans hE6
                    have CC7 := CC w6 hE7
                    clear CC CX
                    go_wp2_with fail
                    refine CC7.mono ?_
                    rintro e8 w8 ⟨v8, rfl, -, hE8⟩
                    have hE9 := hE7.trans hE8
                    have hI9 := hIc.ext hE9
                    have hB9 := (hE.trans hE9).le
                    have hEc := (hE.trans hE9).trans (extNew w8 (.cells #[.int .i64 (q : Int)] 3))
                    clear CC7 hE8 hE7 hE6
                    go_wp2_with (at_builtin; (refine wpList_appIB rfl (.tmp 141) (.tmp 143) rfl rfl (q : Int) (hI9.ext (extNew w8 (.cells #[.int .i64 (q : Int)] 3))) rfl hlb hB9 ?_; intro v10 w10 hI10 hG10; have hE10 : Ext wb w10 := Below.grown hEc hG10 hEc.le (fun g hg => (OwnI.lt hI9 g hg).1)))
                    go_roundw
                    case rel => exact ⟨q + 1, 1, by omega, by go_num, by rfl, by omega, HR2.out, by rw [HBn.out]; exact hI10, HPt.out (fun h => by rw [HG.out] at h; cases h), HF2.out, hE10⟩
                    case measure => simp [intOf]; omega
            · obtain ⟨hI, hIm⟩ := hIl hz
              rw [← hI] at hat
              have hzI : (((q % t : Nat) : Int) == 0) = false := by rw [beq_eq_false_iff_ne]; omega
              obtain ⟨qt, hqt⟩ : ∃ x, x = q % t := ⟨_, rfl⟩
              rw [← hqt] at emq hzI
              have hIq : (I : Int) ≤ 4000 := by omega
              clear hIl hz hI hl0 hqt
              by_cases hpp : px = ps
              · have hgs : goodQ c s q = true := by rw [hgd, ← hpp]; exact hgXd.symm
                rw [hgs, if_pos rfl, Nat.add_zero] at hat
                rw [hgs, if_pos rfl, List.append_nil] at hbn
                have HBn := hide hbn
                have HPp := hide (HPd.out hpp)
                have CX := fun W (hX : Ext wr W) => by have := CX W hX; rw [sameB_true hpp] at this; exact this
                subst hat
                clear hgd hgXd hgs hbn hpp CC
                go_wp2_with fail
                go_quiet (fail)
                go_wp2_with fail
                refine (CX _ ((Ext.refl wr).drewN _)).mono ?_
                rintro e6 w6 ⟨rfl, hE6⟩
                have hE7 := (Ext.refl wr).drewN _ |>.trans hE6
                go_wp2
                go_roundw
                case rel => exact ⟨q + 1, I2, by omega, by go_num, rfl, by omega, fun h => HRl.out h (hIm), by rw [HBn.out]; exact hIc.ext hE7, HPt.out (fun _ => HPp.out), HFew.out (hIm), hE.trans hE7⟩
                case measure => simp [intOf]; omega
              · have hsf : sameB px ps = false := decide_eq_false hpp
                have CX := fun W (hX : Ext wr W) => by have := CX W hX; rw [hsf] at this; exact this
                by_cases hce : Crc.cutErr ps = 0
                · have CC := fun W (hX : Ext wr W) => by have := CC W hX; rw [hce] at this; exact this
                  clear hgd hgXd hbn hpp hsf hat hce
                  go_wp2_with fail
                  go_quiet (fail)
                  go_wp2_with fail
                  refine (CX _ ((Ext.refl wr).drewN _)).mono ?_
                  rintro e6 w6 ⟨rfl, hE6⟩
                  have hE7 := (Ext.refl wr).drewN _ |>.trans hE6
                  have CC7 := CC w6 hE7
                  clear CC CX
                  go_wp2_with fail
                  refine CC7.mono ?_
                  rintro e8 w8 ⟨v8, rfl, -, hE8⟩
                  go_wp2
                  go_ret
                  exact ⟨rfl, (HE.out.trans hE).trans (hE7.trans hE8)⟩
                · have hceb : (Crc.cutErr ps == 0) = false := by rw [beq_eq_false_iff_ne]; exact hce
                  rw [decide_eq_false hce] at hgd
                  rw [hgd, if_neg (by decide)] at hat hbn
                  have HBn := hide hbn
                  have HG := hide hgd
                  generalize Crc.cutErr ps = ce at *
                  clear hgd hgXd hbn hpp hsf hce
                  by_cases hov : m < I2
                  · have hovI : (m : Int) < (I : Int) + 1 := by omega
                    clear hov hat
                    go_wp2_with fail
                    go_quiet (fail)
                    go_wp2_with fail
                    refine (CX _ ((Ext.refl wr).drewN _)).mono ?_
                    rintro e6 w6 ⟨rfl, hE6⟩
                    have hE7 := (Ext.refl wr).drewN _ |>.trans hE6
                    have CC7 := CC w6 hE7
                    clear CC CX
                    go_wp2_with fail
                    refine CC7.mono ?_
                    rintro e8 w8 ⟨v8, rfl, -, hE8⟩
                    go_wp2
                    go_ret
                    exact ⟨rfl, (HE.out.trans hE).trans (hE7.trans hE8)⟩
                  · have hovI : ¬ (m : Int) < (I : Int) + 1 := by omega
                    have hnm : I2 ≤ m := by omega
                    have HR2 := hide (fun h => HRl.out h hnm)
                    have HF2 := hide (HFew.out hnm)
                    clear hov hnm HRl HFew
                    subst hat
                    go_wp2_with fail
                    go_quiet (fail)
                    go_wp2_with fail
                    refine (CX _ ((Ext.refl wr).drewN _)).mono ?_
                    rintro e6 w6 ⟨rfl, hE6⟩
                    have hE7 := (Ext.refl wr).drewN _ |>.trans hE6
                    have CC7 := CC w6 hE7
                    clear CC CX
                    go_wp2_with fail
                    refine CC7.mono ?_
                    rintro e8 w8 ⟨v8, rfl, -, hE8⟩
                    have hE9 := hE7.trans hE8
                    have hI9 := hIc.ext hE9
                    have hB9 := (hE.trans hE9).le
                    have hEc := (hE.trans hE9).trans (extNew w8 (.cells #[.int .i64 (q : Int)] 3))
                    clear CC7 hE8 hE7 hE6
                    go_wp2_with (at_builtin; (refine wpList_appIB rfl (.tmp 141) (.tmp 143) rfl rfl (q : Int) (hI9.ext (extNew w8 (.cells #[.int .i64 (q : Int)] 3))) rfl hlb hB9 ?_; intro v10 w10 hI10 hG10; have hE10 : Ext wb w10 := Below.grown hEc hG10 hEc.le (fun g hg => (OwnI.lt hI9 g hg).1)))
                    go_roundw
                    case rel => exact ⟨q + 1, I + 1, by omega, by go_num, by go_num, by omega, HR2.out, by rw [HBn.out]; exact hI10, HPt.out (fun h => by rw [HG.out] at h; cases h), HF2.out, hE10⟩
                    case measure => simp [intOf]; omega
          · obtain rfl : Q = q := by omega
            have hqQI : ¬ (Q : Int) < (Q : Int) := by omega
            have hF := HE.out.trans hE
            have hH := HHurt.out s (fun x hx hg => hpt x (by rw [HQ.out, Ht.out]; exact hx) hg) (fun j hj => by
              have h1 : j * t + (t - 1) < Q := by
                have h2 : (j + 1) * t ≤ N * t := Nat.mul_le_mul_right _ hj
                rw [Nat.succ_mul, ← HQ.out] at h2
                omega
              have h2 := hfew _ h1
              rw [show j * t + (t - 1) = t * j + (t - 1) by rw [Nat.mul_comm], Nat.mul_add_div (by omega), Nat.div_eq_of_lt (by omega), Nat.mul_add_mod, Nat.mod_eq_of_lt (by omega), Nat.add_zero, show t - 1 + 1 = t by omega] at h2
              rw [← Ht.out]
              exact h2)
            have hre := HAll.out s HSl.out hH
            have CRs := CR wr hF s A5 c5 (hE.bytes HBy.out) HC5.out.1 HC5.out.2
            rw [hre, ← Ht.out, ← HQ.out] at CRs
            dsimp only at CRs
            have HLb := hide (show (badQ c s Q).length ≤ 140737488355328 from Nat.le_trans (bad_len c s Q) (by omega))
            obtain ⟨B6, b6, hv6, -, hI6⟩ := OwnI.form hIc
            subst hv6
            rw [HBl.out] at CRs
            have HI6 := hide hI6
            clear hH hre hIl hIq9 hpt hfew hIc CR hI6 HAll HHurt HGood
            generalize badQ c s Q = Lb at *
            go_wp2_with fail
            refine CRs.mono ?_
            rintro e7 w7 ⟨A7, a7, B7, b7, rfl, hx7, hi7, hE7⟩
            have CS := same_any _ _ _ _ a7 cap _ _ w7 hx7 ((hF.trans hE7).bytes HB.out)
            rw [sameB_true rfl] at CS
            clear CRs hx7
            go_wp2_with fail
            refine CS.mono ?_
            rintro e8 w8 ⟨rfl, hE8⟩
            have CI := refSame9_any B7 B6 b7 b6 Lb Lb w8 (hi7.later hE8) (HI6.out.later (hE7.trans hE8)) HLb.out
            rw [decide_eq_true rfl] at CI
            clear CS
            go_wp2_with fail
            refine CI.mono ?_
            rintro e9 w9 ⟨rfl, hE9⟩
            go_wp2
            go_ret
            exact ⟨rfl, ((hF.trans hE7).trans hE8).trans hE9⟩
      · have hQ0 : Q = 0 := by
          rcases Nat.eq_zero_or_pos Q with h | h
          · exact h
          · have := Nat.mul_pos h (show 0 < d by omega)
            have := Hlx.out
            omega
        have HO := hide hO
        have HSl := hide hsl
        have HBy := hide (show Bytes wr wr.heap.size A5 lx s from OwnB.bytesR hO)
        have HX4 := hide (hE.bytes HX4.out)
        have HE := hide (HF4.out.trans hE)
        obtain ⟨wb, rfl⟩ : ∃ W, W = wr := ⟨_, rfl⟩
        clear hO hsl hE hgo
        go_wp2_with fail
        clear hx hy
        go_loopw [15, 16, 17] (fun zc zin z wr => ∃ (q I : Nat), q ≤ Q ∧ z = .int .i64 (q : Int) ∧ zin = .int .i64 (I : Int) ∧ I ≤ q ∧ (q % t ≠ 0 → I = lostS k m c s (q / t) (q % t) ∧ I ≤ m) ∧ OwnI wr wb.heap.size zc (badQ c s q) ∧ (∀ x, x < q → goodQ c s x = true → partQ c s x = partQ c X x) ∧ (∀ x, x < q → lostS k m c s (x / t) (x % t + 1) ≤ m) ∧ Ext wb wr) (fun _ _ z _ => Q - (intOf z).toNat)
        case atStart => exact ⟨0, 0, by omega, rfl, rfl, by omega, fun h => absurd (Nat.zero_mod t) h, OwnI.nil _ _, fun x hx => absurd hx (by omega), fun x hx => absurd hx (by omega), Ext.refl _⟩
        case round =>
          obtain ⟨q, I, hq, rfl, rfl, hIq9, hIl, hIc, hpt, hfew, hE⟩ := hrel
          by_cases hqQ : q < Q
          · exact absurd hqQ (by omega)
          · obtain rfl : Q = q := by omega
            have hqQI : ¬ (Q : Int) < (Q : Int) := by omega
            have hF := HE.out.trans hE
            have hH := HHurt.out s (fun x hx hg => hpt x (by rw [HQ.out, Ht.out]; exact hx) hg) (fun j hj => by
              have h1 : j * t + (t - 1) < Q := by
                have h2 : (j + 1) * t ≤ N * t := Nat.mul_le_mul_right _ hj
                rw [Nat.succ_mul, ← HQ.out] at h2
                omega
              have h2 := hfew _ h1
              rw [show j * t + (t - 1) = t * j + (t - 1) by rw [Nat.mul_comm], Nat.mul_add_div (by omega), Nat.div_eq_of_lt (by omega), Nat.mul_add_mod, Nat.mod_eq_of_lt (by omega), Nat.add_zero, show t - 1 + 1 = t by omega] at h2
              rw [← Ht.out]
              exact h2)
            have hre := HAll.out s HSl.out hH
            have CRs := CR wr hF s A5 c5 (hE.bytes HBy.out) HC5.out.1 HC5.out.2
            rw [hre, ← Ht.out, ← HQ.out] at CRs
            dsimp only at CRs
            have HLb := hide (show (badQ c s Q).length ≤ 140737488355328 from Nat.le_trans (bad_len c s Q) (by omega))
            obtain ⟨B6, b6, hv6, -, hI6⟩ := OwnI.form hIc
            subst hv6
            rw [HBl.out] at CRs
            have HI6 := hide hI6
            clear hH hre hIl hIq9 hpt hfew hIc CR hI6 HAll HHurt HGood
            generalize badQ c s Q = Lb at *
            go_wp2_with fail
            refine CRs.mono ?_
            rintro e7 w7 ⟨A7, a7, B7, b7, rfl, hx7, hi7, hE7⟩
            have CS := same_any _ _ _ _ a7 cap _ _ w7 hx7 ((hF.trans hE7).bytes HB.out)
            rw [sameB_true rfl] at CS
            clear CRs hx7
            go_wp2_with fail
            refine CS.mono ?_
            rintro e8 w8 ⟨rfl, hE8⟩
            have CI := refSame9_any B7 B6 b7 b6 Lb Lb w8 (hi7.later hE8) (HI6.out.later (hE7.trans hE8)) HLb.out
            rw [decide_eq_true rfl] at CI
            clear CS
            go_wp2_with fail
            refine CI.mono ?_
            rintro e9 w9 ⟨rfl, hE9⟩
            go_wp2
            go_ret
            exact ⟨rfl, ((hF.trans hE7).trans hE8).trans hE9⟩
end Go.Proofs.YtkfipfhmbhmamaaDoor
