/- The document's Read of chapter 18. PostReads. For the document's Read of chapter 16: cursors side by side, steps of readR. -/
import Derived.Test.YtcphapdjimeoaaaGreatB01
import Derived.Test.YtcphapdjimeoaaaGreatB02
import Derived.Test.YtcphapdjimeoaaaGreatB06
import Derived.Test.YtcphapdjimeoaaaGreatB24
import Derived.Test.YtcphapdjimeoaaaGreatB28
import Derived.Laws.Concat
namespace Go.Proofs.YtcphapdjimeoaaaGreat
open Go.RowKit Pst

/-- A list of texts, a number and an error are told. -/
def Rd16To (W : World) (r : List (List UInt8) × Nat × Int) (e : Ending) (w' : World) : Prop := ∃ A c, e = .returned (.tuple #[.slice A r.1.length c, .int .i64 (r.2.1 : Int), .int .i64 r.2.2]) ∧ r.1.length ≤ c ∧ c ≤ maxLen ∧ TextsAt w' w'.heap.size A r.1.length r.1 ∧ Ext W w'
theorem results_ixe {fn : Func} {p u : Tmp} (h : fn.results = #[.cell p 27, .tmp u]) (tmps : Array Value) {w : World} {g : Nat} {cs : Array Value} {x : Value} (hp : tmps.getD p undef = .pointer (some ⟨g, 0, none⟩)) (hx : tmps.getD u undef = x)
    (hW : Whole w g 27 cs) (hs : cs.size = 2) : (results fn tmps).run Tryz.prog w = .ok (.tuple #[.agg cs, x]) w := by
  have hl := run_loadVar_row (P := Tryz.prog) w g 27 27 cs (0, 0) _ hW Tryz.underlying27 rfl (by rw [hs]; exact ix_info)
  have e : (results fn tmps).run Tryz.prog w = ((asAddr (tmps.getD p undef)).run Tryz.prog w).andThen fun a w₁ => ((loadVar 27 a).run Tryz.prog w₁).andThen fun z w₂ => .ok (.tuple #[z, tmps.getD u undef]) w₂ := by
    simp only [results, h]
    simp [Sem.run_bind, Result.andThen]
  rw [e, hp, hx]
  simp [asAddr, Result.andThen, hl]
theorem ixNil (W : World) : (IxV.mk none 0 0 none 0 0 ⟨[], []⟩).lies W := ⟨⟨Nat.le_refl _, Nat.zero_le _, rfl, .inl rfl⟩, Nat.le_refl _, Nat.zero_le _, rfl, .inl rfl⟩
theorem Pst.lists_step {bound : Int} {b : List UInt8} {k q : Nat} :
    ((Ef.readE bound (b.drop q)).2.2 ≠ 0 → (listsR bound b (k + 1) q).2.2 = (Ef.readE bound (b.drop q)).2.2) ∧
    ((Ef.readE bound (b.drop q)).2.2 = 0 → (Ef.readE bound (b.drop q)).1 = [] → (listsR bound b (k + 1) q).2.2 = 2) ∧
    ((Ef.readE bound (b.drop q)).2.2 = 0 → (Ef.readE bound (b.drop q)).1 ≠ [] → (listsR bound b (k + 1) q).2.2 = (listsR bound b k (q + (Ef.readE bound (b.drop q)).2.1)).2.2 ∧
      ((listsR bound b k (q + (Ef.readE bound (b.drop q)).2.1)).2.2 = 0 → listsR bound b (k + 1) q = ((Ef.readE bound (b.drop q)).1 :: (listsR bound b k (q + (Ef.readE bound (b.drop q)).2.1)).1, (listsR bound b k (q + (Ef.readE bound (b.drop q)).2.1)).2.1, 0))) := by
  refine ⟨fun h => ?_, fun h h2 => ?_, fun h h2 => ⟨?_, fun h3 => ?_⟩⟩
  · rw [listsR, if_pos h]
  · rw [listsR, if_neg (by simp [h]), if_pos h2]
  · rw [listsR, if_neg (by simp [h]), if_neg h2]
    by_cases h3 : (listsR bound b k (q + (Ef.readE bound (b.drop q)).2.1)).2.2 = 0
    · rw [if_neg (by simp [h3]), h3]
    · rw [if_pos h3]
  · rw [listsR, if_neg (by simp [h]), if_neg h2, if_neg (by simp [h3])]

set_option maxHeartbeats 1000000 in
set_option maxRecDepth 100000 in
theorem refRead18Arg_any (size bound : Int) (v : Value) (w : World) (hb : size < 1 ∨ 64 < size ∨ bound < 0 ∨ 20000 < bound) : Calls Tryz.prog 7 #[.int .i64 size, .int .i64 bound, v] w (RdIxTo w (⟨[], []⟩, 13)) := by
  by_cases h1 : size < 1
  · go_enter Tryz.func7, Tryz.ntmps7
    go_wp2
    exact bodyPost_ret (results_ixe rfl _ rfl rfl (Whole.new w _ _) rfl) rfl ⟨⟨none, 0, 0, none, 0, 0, ⟨[], []⟩⟩, rfl, rfl, ixNil _, extNew w _⟩
  by_cases h2 : 64 < size
  · go_enter Tryz.func7, Tryz.ntmps7
    go_wp2
    exact bodyPost_ret (results_ixe rfl _ rfl rfl (Whole.new w _ _) rfl) rfl ⟨⟨none, 0, 0, none, 0, 0, ⟨[], []⟩⟩, rfl, rfl, ixNil _, extNew w _⟩
  by_cases h3 : bound < 0
  · go_enter Tryz.func7, Tryz.ntmps7
    go_wp2
    exact bodyPost_ret (results_ixe rfl _ rfl rfl (Whole.new w _ _) rfl) rfl ⟨⟨none, 0, 0, none, 0, 0, ⟨[], []⟩⟩, rfl, rfl, ixNil _, extNew w _⟩
  have h4 : 20000 < bound := by omega
  go_enter Tryz.func7, Tryz.ntmps7
  go_wp2
  exact bodyPost_ret (results_ixe rfl _ rfl rfl (Whole.new w _ _) rfl) rfl ⟨⟨none, 0, 0, none, 0, 0, ⟨[], []⟩⟩, rfl, rfl, ixNil _, extNew w _⟩

attribute [local go_sem ↓] run_cut
set_option maxHeartbeats 8000000 in
set_option maxRecDepth 100000 in
theorem refRead18B_any (size bound : Nat) (A : Option Addr) (n c : Nat) (b : List UInt8) (w : World) (hs : 1 ≤ size ∧ size ≤ 64) (hbd : bound ≤ 20000) (hnc : n ≤ c) (hn : n ≤ 800) (hb : Bytes w w.heap.size A n b)
    (C16 : ∀ W, Ext w W → Calls Tryz.prog 19 #[.int .i64 (size : Int), .slice A n c] W (Rd16To W (Dic.readR b size))) :
    Calls Tryz.prog 7 #[.int .i64 (size : Int), .int .i64 (bound : Int), .slice A n c] w (RdIxTo w (readE (size : Int) (bound : Int) b)) := by
  have hb1 : ¬ (size : Int) < 1 := by omega
  have hb2 : ¬ (64 : Int) < (size : Int) := by omega
  have hb3 : ¬ (bound : Int) < 0 := by omega
  have hb4 : ¬ (20000 : Int) < (bound : Int) := by omega
  go_enter Tryz.func7, Tryz.ntmps7
  have HE0 := hide (extNew w (.cells #[.slice none 0 0, .slice none 0 0] 27))
  have HW0 := hide (show Whole (w.alloc (.cells #[.slice none 0 0, .slice none 0 0] 27)) w.heap.size 27 #[.slice none 0 0, .slice none 0 0] from Whole.new w _ _)
  have C16' := C16 _ HE0.out
  unfold Rd16To at C16'
  obtain ⟨T, q0, e0, hT⟩ : ∃ T q e, Dic.readR b size = (T, q, e) := ⟨_, _, _, rfl⟩
  have HX := hide (show readE (size : Int) (bound : Int) b = if e0 ≠ 0 then (⟨[], []⟩, e0) else if (listsR (bound : Int) b T.length q0).2.2 ≠ 0 then (⟨[], []⟩, (listsR (bound : Int) b T.length q0).2.2) else if (listsR (bound : Int) b T.length q0).2.1 < b.length then (⟨[], []⟩, 2) else (⟨T, (listsR (bound : Int) b T.length q0).1⟩, 0) by
    unfold readE
    rw [if_neg (by omega), Int.toNat_natCast, hT])
  rw [hT] at C16'
  dsimp only at C16'
  generalize readE (size : Int) (bound : Int) b = res at *
  have HB := hide hb
  have HF := hide (fun (h : e0 = 0) => show q0 ≤ n ∧ T.length ≤ n by
    subst h
    have := Dic.one_facts (size := (size : Int)) (b := b) (l := T) (n := q0) (by unfold Dic.readE; rw [if_neg (by omega), Int.toNat_natCast, hT])
    have := hb.1
    omega)
  clear C16 hT hb
  go_wp2_with fail
  refine C16'.mono ?_
  rintro e w2 ⟨At, ct, rfl, ht1, ht2, ht3, hE2⟩
  obtain ⟨m, hm⟩ : ∃ m, m = T.length := ⟨_, rfl⟩
  rw [← hm] at HX ht1 ht3 ⊢
  have HM := hide hm
  have HTx := hide ht3
  have HE2 := hide (HE0.out.trans hE2)
  have HW2 := hide (HW0.out.ext hE2)
  clear C16' HE0 HW0 ht3 hE2 hm
  by_cases he : e0 = 0
  · subst he
    rw [if_neg (by simp)] at HX
    obtain ⟨hq0n, hmn⟩ := HF.out rfl
    rw [← HM.out] at hmn
    have hlt2 := HW2.out.lt
    obtain ⟨w3, hw3⟩ : ∃ w3, w3 = w2.alloc (.cells #[.slice At m ct, .slice none 0 0] 27) := ⟨_, rfl⟩
    have hE3 : Ext w2 w3 := by rw [hw3]; exact extNew w2 _
    have hX3 : Whole w3 w2.heap.size 27 #[.slice At m ct, .slice none 0 0] := by rw [hw3]; exact Whole.new w2 _ _
    have HT3 := hide ((HTx.out.later hE3).up (B' := w3.heap.size) (Nat.le_refl _))
    have HW3 := hide (HW2.out.ext hE3)
    have HE3 := hide (HE2.out.trans hE3)
    have hlt3 := hX3.lt
    have HX3 := hide hX3
    clear HF HTx HW2 hX3 hE3
    go_wp2
    rw [← hw3]
    clear hw3
    obtain ⟨gx, hgx⟩ : ∃ gx, gx = w2.heap.size := ⟨_, rfl⟩
    rw [← hgx] at HX3 hlt2 hlt3 ⊢
    clear hgx
    go_loopw [12, 9] (fun x y wr => ∃ (i q : Nat) (L : List (List Int)) (lv : Value), i ≤ m ∧ i = L.length ∧ x = .int .i64 (i : Int) ∧ y = .int .i64 (q : Int) ∧ q ≤ n ∧ OwnLs wr w3.heap.size lv L ∧ TextsAt wr w3.heap.size At m T ∧ w3.heap.size ≤ wr.heap.size ∧ Whole wr gx 27 #[.slice At m ct, lv] ∧ Whole wr w.heap.size 27 #[.slice none 0 0, .slice none 0 0] ∧ Ext w wr ∧
      (listsR (bound : Int) b m q0).2.2 = (listsR (bound : Int) b (m - i) q).2.2 ∧ ((listsR (bound : Int) b (m - i) q).2.2 = 0 → listsR (bound : Int) b m q0 = (L ++ (listsR (bound : Int) b (m - i) q).1, (listsR (bound : Int) b (m - i) q).2.1, 0))) (fun x _ _ => m - (intOf x).toNat)
    case atStart => exact ⟨0, q0, [], .slice none 0 0, by omega, rfl, rfl, rfl, hq0n, OwnLs.nil _ _, HT3.out, Nat.le_refl _, HX3.out, HW3.out, HE3.out, rfl, fun h => by rw [Nat.sub_zero] at h ⊢; rw [List.nil_append, ← h]⟩
    case round =>
      clear HT3 HX3 HW3 HE3
      obtain ⟨i, q, L, lv, hi, hiL, rfl, rfl, hq, hLs, hT, hsz, hX, hR, hE, hl1, hl2⟩ := hrel
      obtain ⟨Al, cl, hlv, hcl1, hcl2, -⟩ := hLs.form
      rw [← hiL] at hlv hcl1
      subst hlv
      have HLs := hide hLs
      have HT := hide hT
      have HXx := hide hX
      have HRr := hide hR
      have HE := hide hE
      have HSz := hide hsz
      have HIL := hide hiL
      have hqI : (q : Int) ≤ (n : Int) := by omega
      by_cases hlt : i < m
      · have hiI : (i : Int) < (m : Int) := by omega
        obtain ⟨f, hf⟩ : ∃ f, m - i = f + 1 := ⟨m - i - 1, by omega⟩
        rw [hf] at hl1 hl2
        have CR := refRead13B_any bound (cutAt A c q) (n - q) (c - q) (b.drop q) wr hbd (by omega) (by omega) ((hE.bytes HB.out).drop hq hnc)
        have hst := lists_step (bound := (bound : Int)) (b := b) (k := f) (q := q)
        have hone := fun ids p => Ef.read_one (bound := (bound : Int)) (b := b.drop q) (ids := ids) (n := p)
        obtain ⟨l1, p1, e1, hr⟩ : ∃ l p e, Ef.readE (bound : Int) (b.drop q) = (l, p, e) := ⟨_, _, _, rfl⟩
        rw [hr] at CR hst hone
        dsimp only at hst
        unfold Rd13To at CR
        dsimp only at CR
        obtain ⟨s1, s2, s3⟩ := hst
        obtain ⟨wo, rfl⟩ : ∃ W, W = wr := ⟨_, rfl⟩
        clear hr hLs hT hX hR hE hsz hiL
        by_cases he1 : e1 = 0
        · subst he1
          obtain ⟨-, hp1⟩ := hone l1 p1 rfl
          rw [List.length_drop, HB.out.1] at hp1
          by_cases hl0 : l1 = []
          · subst hl0
            have HR := hide (show res = (⟨[], []⟩, 2) by
              have h := s2 rfl rfl
              rw [HX.out, hl1, h]
              rw [if_pos (by decide)])
            clear s1 s2 s3 hl1 hl2 HX hone
            go_wp2_with fail
            refine CR.mono ?_
            rintro e w4 ⟨v4, rfl, hO4, hE4⟩
            obtain ⟨A4, c4, hv4, -, -, -⟩ := hO4.form2
            subst hv4
            have HW4 := hide (HRr.out.ext hE4)
            have HE4 := hide (HE.out.trans hE4)
            clear CR hO4 hE4
            go_wp2_with (refine wpList_storeW rfl 27 (.tmp 6) (.tmp 66) rfl rfl rfl HW4.out rfl ix_info (ix_one _ _ _ _ _ _) ?_; intro w6 hW6 hG6 _)
            refine bodyPost_ret (results_ixe rfl _ rfl rfl hW6 rfl) rfl ?_
            rw [HR.out]
            exact ⟨⟨none, 0, 0, none, 0, 0, ⟨[], []⟩⟩, rfl, rfl, ixNil _, Below.grown HE4.out hG6 HE4.out.le (fun k hk => by cases hk; omega)⟩
          · obtain ⟨k1, hk1⟩ : ∃ k1, k1 = l1.length := ⟨_, rfl⟩
            have hk10 : ((k1 : Int) == 0) = false := by
              have : 0 < l1.length := List.length_pos_iff.2 hl0
              simp; omega
            obtain ⟨t1, t2⟩ := s3 rfl hl0
            have HN1 := hide (hl1.trans t1)
            have HN2 := hide (show (listsR (bound : Int) b f (q + p1)).2.2 = 0 → listsR (bound : Int) b m q0 = ((L ++ [l1]) ++ (listsR (bound : Int) b f (q + p1)).1, (listsR (bound : Int) b f (q + p1)).2.1, 0) from fun h => by
              rw [hl2 (t1.trans h), t2 h]
              simp)
            have HFi := hide (show f = m - (i + 1) by omega)
            have HK1 := hide hk1
            clear s1 s2 s3 hl1 hl2 t1 t2 hone hl0 hk1
            go_wp2_with fail
            refine CR.mono ?_
            rintro e w4 ⟨v4, rfl, hO4, hE4⟩
            obtain ⟨A4, c4, hv4, -, -, -⟩ := hO4.form2
            subst hv4
            rw [← HK1.out] at hO4 ⊢
            have d1 := (HXx.out.ext hE4).at 1 (u := .slice Al i cl) rfl
            have HO4 := hide hO4
            have HX4 := hide (HXx.out.ext hE4)
            have HE4 := hide hE4
            have hne : (Value.slice Al i cl).ownBlock ≠ some gx := fun e => by have := (HLs.out.lt _ e).1; omega
            have hlm : L.length ≤ 1000000 := by have := HIL.out; omega
            clear CR hO4 hE4
            go_wp2_with (first
              | (at_builtin; refine wpList_appLs rfl (.tmp 68) (.tmp 70) rfl rfl (HLs.out.ext HE4.out) (HO4.out.lower (by have := HSz.out; omega)) rfl hlm (by have := HSz.out; have := HE4.out.le; omega) ?_; intro v6 w6 hL6 hG6 _; obtain ⟨A6, c6, hv6, -, -, -⟩ := hL6.form; rw [List.length_append, List.length_singleton, ← HIL.out] at hv6; subst hv6; have HL6 := hide hL6; have HG6 := hide hG6; have HX6 := hide ((HX4.out.ext (extNew w4 _)).ownGrown hG6 hne); clear hL6 hG6 d1)
              | (refine wpList_storeC rfl 25 (.tmp 72) (.tmp 71) rfl #[.slice At m ct, .slice A6 (i + 1) c6] rfl rfl HX6.out (by simp) (by kernel_rfl) rfl rfl rfl ?_; intro w7 hW7 hG7; have HW7 := hide hW7; have HG7 := hide hG7; clear hW7 hG7))
            have hF6 := (HE4.out.trans (extNew w4 (.cells #[.slice A4 k1 c4] 43)))
            have hle6 := hF6.le
            have hB6 : Below w3.heap.size wo w6 := Below.grown (Below.mono hF6 HSz.out) HG6.out (by have := HSz.out; omega) (fun k hk => (HLs.out.lt k hk).1)
            have hT7 := (HT.out.below hB6 (Nat.le_refl _)).keptXB (by have := HSz.out; have := hB6.size; omega) HX6.out HG7.out
            have hL7 := HL6.out.kept HX6.out (by decide) (by decide) HG7.out
            have hR7 := ((HRr.out.ext hF6).ownGrown HG6.out (fun e => by have := (HLs.out.lt _ e).1; omega)).grown HG7.out (by omega)
            have hE6 : Ext w w6 := Below.grown (HE.out.trans hF6) HG6.out (HE.out.trans hF6).le (fun k hk => by have := (HLs.out.lt k hk).1; omega)
            have hE7 : Ext w w7 := Below.grown hE6 HG7.out hE6.le (fun k hk => by cases hk; omega)
            have hs7 : w3.heap.size ≤ w7.heap.size := by have := HSz.out; have := hB6.size; have := HG7.out.size; omega
            refine ⟨⟨i + 1, q + p1, L ++ [l1], _, by omega, by rw [List.length_append, List.length_singleton, ← HIL.out], by go_num, by go_num, by omega, hL7, hT7, hs7, HW7.out, hR7, hE7, ?_, ?_⟩, by simp [intOf]; omega⟩
            · rw [← HFi.out]; exact HN1.out
            · rw [← HFi.out]; exact HN2.out
        · have hne1 : (e1 != 0) = true := by simpa using he1
          have HR := hide (show res = (⟨[], []⟩, e1) by
            have h := s1 he1
            rw [HX.out, hl1, h, if_pos he1])
          clear s1 s2 s3 hl1 hl2 HX hone he1
          go_wp2_with fail
          refine CR.mono ?_
          rintro e w4 ⟨v4, rfl, hO4, hE4⟩
          obtain ⟨A4, c4, hv4, -, -, -⟩ := hO4.form2
          subst hv4
          have HW4 := hide (HRr.out.ext hE4)
          have HE4 := hide (HE.out.trans hE4)
          clear CR hO4 hE4
          go_wp2_with (refine wpList_storeW rfl 27 (.tmp 6) (.tmp 61) rfl rfl rfl HW4.out rfl ix_info (ix_one _ _ _ _ _ _) ?_; intro w6 hW6 hG6 _)
          refine bodyPost_ret (results_ixe rfl _ rfl rfl hW6 rfl) rfl ?_
          rw [HR.out]
          exact ⟨⟨none, 0, 0, none, 0, 0, ⟨[], []⟩⟩, rfl, rfl, ixNil _, Below.grown HE4.out hG6 HE4.out.le (fun k hk => by cases hk; omega)⟩
      · have hiI : ¬ (i : Int) < (m : Int) := by omega
        have hmi : m - i = 0 := by omega
        obtain rfl : m = i := by omega
        rw [hmi, listsR] at hl2
        have hL2 := hl2 rfl
        dsimp only at hL2
        rw [List.append_nil] at hL2
        rw [hL2] at HX
        rw [HB.out.1] at HX
        clear hl1 hl2 hL2 hmi hLs hT hX hR hE hsz hiL hlt
        by_cases hqn : q < n
        · have hqnI : (q : Int) < (n : Int) := by omega
          have HR := hide (show res = (⟨[], []⟩, 2) by rw [HX.out, if_neg (by simp), if_pos hqn])
          clear HX
          go_wp2_with (refine wpList_storeW rfl 27 (.tmp 6) (.tmp 80) rfl rfl rfl HRr.out rfl ix_info (ix_one _ _ _ _ _ _) ?_; intro w6 hW6 hG6 _)
          refine bodyPost_ret (results_ixe rfl _ rfl rfl hW6 rfl) rfl ?_
          rw [HR.out]
          exact ⟨⟨none, 0, 0, none, 0, 0, ⟨[], []⟩⟩, rfl, rfl, ixNil _, Below.grown HE.out hG6 HE.out.le (fun k hk => by cases hk; omega)⟩
        · have hqnI : ¬ (q : Int) < (n : Int) := by omega
          have HR := hide (show res = (⟨T, L⟩, 0) by rw [HX.out, if_neg (by simp), if_neg hqn])
          have d0 := HXx.out.at 0 (u := .slice At m ct) rfl
          have d1 := HXx.out.at 1 (u := .slice Al m cl) rfl
          clear HX
          go_wp2_with (refine wpList_storeW rfl 27 (.tmp 6) (.tmp 81) rfl rfl rfl HRr.out rfl ix_info (ix_one _ _ _ _ _ _) ?_; intro w6 hW6 hG6 _)
          have hT6 : TextsAt w6 w6.heap.size At m T := (HT.out.keptXB HSz.out HRr.out hG6).up (by have := HSz.out; have := hG6.size; omega)
          obtain ⟨Az, cz, hz, z1, z2, z3⟩ := (HLs.out.kept HRr.out (by decide) (by decide) hG6).form
          injection hz with q1 q2 q3
          subst q1 q3
          rw [← q2] at z1 z3
          refine bodyPost_ret (results_ixe rfl _ rfl rfl hW6 rfl) rfl ?_
          rw [HR.out]
          exact ⟨⟨At, m, ct, Al, m, cl, ⟨T, L⟩⟩, rfl, rfl, ⟨⟨ht1, ht2, hT6⟩, z1, z2, z3⟩, Below.grown HE.out hG6 HE.out.le (fun k hk => by cases hk; omega)⟩
  · have hne : (e0 != 0) = true := by simpa using he
    have HR := hide (show res = (⟨[], []⟩, e0) by rw [HX.out, if_pos he])
    go_wp2_with (refine wpList_storeW rfl 27 (.tmp 6) (.tmp 40) rfl rfl rfl HW2.out rfl ix_info (ix_one _ _ _ _ _ _) ?_; intro w6 hW6 hG6 _)
    refine bodyPost_ret (results_ixe rfl _ rfl rfl hW6 rfl) rfl ?_
    rw [HR.out]
    exact ⟨⟨none, 0, 0, none, 0, 0, ⟨[], []⟩⟩, rfl, rfl, ixNil _, Below.grown HE2.out hG6 HE2.out.le (fun k hk => by cases hk; omega)⟩
end Go.Proofs.YtcphapdjimeoaaaGreat

namespace Go.Proofs.YtcphapdjimeoaaaGreat
open Go.RowKit Pst

/-- From world w on, the document's Read of chapter 16 tells what it should. -/
def D16C (w : World) : Prop := ∀ (size : Nat) (A : Option Addr) (n c : Nat) (b : List UInt8) (W : World), Ext w W → 1 ≤ size → size ≤ 64 → n ≤ c → n ≤ 800 → Bytes W W.heap.size A n b → Calls Tryz.prog 19 #[.int .i64 (size : Int), .slice A n c] W (Rd16To W (Dic.readR b size))
theorem Pst.read_small {size bound : Int} {b : List UInt8} {x : Ix} {e : Int} (h : readE size bound b = (x, e)) (hl : b.length ≤ 800) : x.terms.length ≤ 800 ∧ x.lists.length ≤ 800 ∧ ∀ l, l ∈ x.lists → l.length ≤ 20000 := by
  by_cases he : e = 0
  · subst he
    obtain ⟨h1, h2⟩ := read_one h
    obtain ⟨f1, f2, -, f4⟩ := read_few h2 h1 hl
    exact ⟨f1, f2, f4⟩
  · have hx : x = ⟨[], []⟩ := by
      unfold readE at h
      repeat' split at h
      all_goals (simp only [Prod.mk.injEq] at h)
      all_goals first | exact h.1.symm | exact absurd h.2.symm he
    subst hx
    exact ⟨by simp, by simp, fun l hl => by simp at hl⟩
theorem refRead18_any (size bound : Int) (A : Option Addr) (n c : Nat) (b : List UInt8) (w : World) (h16 : D16C w) (hnc : n ≤ c) (hn : n ≤ 800) (hb : Bytes w w.heap.size A n b) :
    Calls Tryz.prog 7 #[.int .i64 size, .int .i64 bound, .slice A n c] w (RdIxTo w (readE size bound b)) := by
  by_cases h : size < 1 ∨ 64 < size ∨ bound < 0 ∨ 20000 < bound
  · have e : readE size bound b = (⟨[], []⟩, 13) := by unfold readE; rw [if_pos h]
    rw [e]
    exact refRead18Arg_any size bound _ w h
  · obtain ⟨s, rfl⟩ : ∃ s : Nat, size = (s : Int) := ⟨size.toNat, by omega⟩
    obtain ⟨d, rfl⟩ : ∃ d : Nat, bound = (d : Int) := ⟨bound.toNat, by omega⟩
    exact refRead18B_any s d A n c b w ⟨by omega, by omega⟩ (by omega) hnc hn hb (fun W hE => h16 s A n c b W hE (by omega) (by omega) hnc hn (hE.bytes hb))

attribute [local go_sem ↓] run_cut
set_option maxHeartbeats 4000000 in
set_option maxRecDepth 100000 in
theorem postReads_walk0 (size bound : Int) (A : Option Addr) (n c : Nat) (b : List UInt8) (w : World) (hB : PBuildC w) (hR : PReadC w) (h16 : D16C w) (hs : IsI64 size) (hb : IsI64 bound) (hn : n ≤ c) (hc : c ≤ maxLen) (hx : Bytes w w.heap.size A n b) :
    Calls Tryz.prog 3 #[.int .i64 size, .int .i64 bound, .slice A n c] w fun e w' => e = .returned (.bool true) ∧ Ext w w' := by
  have C0 := alive18_any hB (Ext.refl w)
  have hbl := hx.1
  subst hbl
  by_cases hlen : 800 < b.length
  · have hlI : (800 : Int) < (b.length : Int) := by omega
    generalize b.length = bl at *
    go_enter Tryz.func3, Tryz.ntmps3
    go_wp2_with fail
    refine C0.mono ?_
    rintro e w2 ⟨rfl, hE2⟩
    go_wp2
    go_ret
    exact ⟨rfl, hE2⟩
  have hlI : ¬ (800 : Int) < (b.length : Int) := by omega
  have C1 := hide (fun W (hE : Ext w W) => hR size bound b A c W hE hs hb hn hc (by omega) (hE.bytes hx))
  have C2 := hide (fun W (hE : Ext w W) => refRead18_any size bound A b.length c b W (fun s A n c b V hV => h16 s A n c b V (hE.trans hV)) hn (by omega) (hE.bytes hx))
  have HFew := hide (fun x e (h : readE size bound b = (x, e)) => read_small h (by omega))
  generalize hrd : readE size bound b = rd at *
  obtain ⟨x0, e0⟩ := rd
  obtain ⟨f1, f2, f3⟩ := HFew.out x0 e0 rfl
  unfold RdIxTo at C1 C2
  dsimp only at C1 C2
  clear hrd hlen hx HFew
  go_enter Tryz.func3, Tryz.ntmps3
  generalize b.length = bl at *
  go_wp2_with fail
  refine C0.mono ?_
  rintro e w2 ⟨rfl, hE2⟩
  have C3 := C1.out w2 hE2
  have HE2 := hide hE2
  clear C0 hE2
  go_wp2_with fail
  refine C3.mono ?_
  rintro e w5 ⟨m5, rfl, hx5, hm5, hE5⟩
  have hE6 := extNew w5 (.cells #[.slice m5.a1 m5.n1 m5.c1, .slice m5.a2 m5.n2 m5.c2] 27)
  have hW6 := Whole.new w5 27 #[.slice m5.a1 m5.n1 m5.c1, .slice m5.a2 m5.n2 m5.c2]
  have C4 := C2.out _ (HE2.out.trans (hE5.trans hE6))
  have HE6 := hide (HE2.out.trans (hE5.trans hE6))
  have HM6 := hide (hm5.later hE6)
  have HW6 := hide hW6
  clear C3 hm5 hE5 hE6 hW6
  go_wp2_with fail
  refine C4.mono ?_
  rintro e w7 ⟨m7, rfl, hx7, hm7, hE7⟩
  have hE8 := extNew w7 (.cells #[.slice m7.a1 m7.n1 m7.c1, .slice m7.a2 m7.n2 m7.c2] 27)
  have hW8 := Whole.new w7 27 #[.slice m7.a1 m7.n1 m7.c1, .slice m7.a2 m7.n2 m7.c2]
  have hF8 := hE7.trans hE8
  have hM5 := HM6.out.later hF8
  have q1 := hM5.1.2.2.1
  have q2 := hM5.2.2.2.1
  have C5 := refSame18_any m5 m7 _ hM5 (hm7.later hE8) (by rw [hx5] at q1; omega) (by rw [hx5] at q2; omega) (fun l hl => by have := f3 l (by rw [hx5] at hl; exact hl); omega)
  rw [decide_eq_true (hx5.trans hx7.symm)] at C5
  have d0 := (HW6.out.ext hF8).at 0 (u := .slice m5.a1 m5.n1 m5.c1) rfl
  have d1 := (HW6.out.ext hF8).at 1 (u := .slice m5.a2 m5.n2 m5.c2) rfl
  have d2 := hW8.at 0 (u := .slice m7.a1 m7.n1 m7.c1) rfl
  have d3 := hW8.at 1 (u := .slice m7.a2 m7.n2 m7.c2) rfl
  have HE8 := hide (HE6.out.trans hF8)
  clear C4 hx5 hx7 hm7 hE7 hE8 hW8 hF8 hM5 q1 q2 f1 f2 f3
  go_wp2_with fail
  refine C5.mono ?_
  rintro e w9 ⟨rfl, hE9⟩
  go_wp2
  go_ret
  exact ⟨rfl, HE8.out.trans hE9⟩
end Go.Proofs.YtcphapdjimeoaaaGreat

namespace Go.Proofs.YtcphapdjimeoaaaGreat
open Go.RowKit Wrd Dic Num

theorem run_catNil {P : Program} (w : World) (y : List UInt8) (hy : (y.length : Int) ≤ 8388608) : (Op.stringOp .add ⟨#[]⟩ ⟨y.toArray⟩).run P w = .ok (.string ⟨y.toArray⟩) w := run_string_add_lists w [] y (by simp) hy

theorem row_notKind {w : World} {base s n g : Nat} {e t : TypeId} {v : Value} {xs : List Value} {cs : Array Value} (h : w.ownsRow base e s v n xs) (hb : Whole w g t cs) (ht : t ≠ e) : v.ownBlock ≠ some g := by
  intro hv
  rcases h.2 with ⟨rfl, _⟩ | ⟨g', cap, cur, rfl, _, hg, _⟩
  · simp [Value.ownBlock] at hv
  · simp only [Value.ownBlock, Option.some.injEq] at hv
    subst hv
    unfold Whole at hb
    rw [hb] at hg
    simp only [Option.some.injEq, Obj.cells.injEq] at hg
    exact ht hg.2.1
theorem row_mod {w w' : World} {base s n g : Nat} {e : TypeId} {v : Value} {xs : List Value} (hM : Mod w w' g none) (h : w.ownsRow base e s v n xs) (hg : v.ownBlock ≠ some g) : w'.ownsRow base e s v n xs := by
  refine ⟨h.1, ?_⟩
  rcases h.2 with hn | ⟨x, cap, cur, rfl, hb, hgg, rest⟩
  · exact .inl hn
  · refine .inr ⟨x, cap, cur, rfl, hb, ?_, rest⟩
    rw [hM.block x (Array.getElem?_eq_some_iff.1 hgg).1 (by intro e; subst e; simp [Value.ownBlock] at hg) (by simp)]
    exact hgg
section
variable {w w' : World} {base g q : Nat} {b : List UInt8} {e : Int}
theorem RefCF.whole16 (h : RefC w base g b q e) : ∃ cs, Whole w g 83 cs := by obtain ⟨v, h, _⟩ := h; exact ⟨_, h⟩
/-- A cursor stays where another cursor moves. -/
theorem RefCF.other16 {g' : Nat} {cs : Array Value} (h : RefC w base g b q e) (hW : Whole w g' 83 cs) (hne : g ≠ g') (hM : Mod w w' g' none) : RefC w' base g b q e := by
  obtain ⟨v, hV, hO, r⟩ := h
  exact ⟨v, hM.whole hV hne (by simp), row_mod hM hO (row_notKind hO hW (by decide)), r⟩
/-- A cursor stays where a list grows. -/
theorem RefCF.grow16 {b1 s n : Nat} {e1 : TypeId} {u : Value} {xs : List Value} (h : RefC w base g b q e) (hR : w.ownsRow b1 e1 s u n xs) (h1 : 83 ≠ e1) (h2 : 5 ≠ e1) (hG : w.grownBy w' u.ownBlock) : RefC w' base g b q e := by
  obtain ⟨v, hV, hO, r⟩ := h
  exact ⟨v, hV.ownGrown hG (row_notKind hR hV h1), World.ownsRow.kept hO hG (ownsRow_apart hO hR h2), r⟩
end
theorem Num.intR_gt (b : List UInt8) (q : Nat) (e most : Int) (h : (Num.intR b q e most).2.2 = 0) : q < (Num.intR b q e most).2.1 := by
  have hs := (scanF_facts b q 10 0 0 (by decide) (by decide)).2.1
  have he := (Num.intR_le b q e most h).1
  subst he
  unfold intR at h ⊢
  unfold numR scan at h ⊢
  simp only [if_true] at h ⊢
  split at h
  · rename_i h2
    rw [if_pos h2]
    split at h
    · simp at h
    · rename_i h3
      rw [if_neg h3]
      exact (hs h2).1
  · rename_i h2
    exact absurd h h2
theorem Dic.sizes_step {b : List UInt8} {k q z q' : Nat} {e : Int} (h : intR b q 0 2000 = (z, q', e)) :
    (e ≠ 0 → (sizesR b (k + 1) q).2.2 = e) ∧
    (e = 0 → (sizesR b (k + 1) q).2.2 = (sizesR b k q').2.2 ∧ ((sizesR b k q').2.2 = 0 → sizesR b (k + 1) q = (z :: (sizesR b k q').1, (sizesR b k q').2.1, 0))) := by
  refine ⟨fun he => ?_, fun he => ⟨?_, fun h3 => ?_⟩⟩
  · rw [sizesR, h, if_pos he]
  · subst he
    rw [sizesR, h, if_neg (by simp)]
    dsimp only
    by_cases h3 : (sizesR b k q').2.2 = 0
    · rw [if_neg (by simp [h3]), h3]
    · rw [if_pos h3]
  · subst he
    rw [sizesR, h, if_neg (by simp)]
    dsimp only
    rw [if_neg (by simp [h3])]
theorem Dic.buckets_lt {size n j : Nat} (hs : 1 ≤ size) : j < bucketsN size n ↔ j * size < n := by
  unfold bucketsN
  rw [Nat.lt_iff_add_one_le, Nat.le_div_iff_mul_le (by omega), Nat.succ_mul]
  omega

theorem RefCF.low16 {w : World} {base base' g q : Nat} {b : List UInt8} {e : Int} (h : RefC w base g b q e) (hb : base' ≤ base) : RefC w base' g b q e := by
  obtain ⟨v, h1, h2, h3, h4, r⟩ := h
  exact ⟨v, h1, h2.mono hb, h3, Nat.le_trans hb h4, r⟩
theorem Dic.last_app (T c : List (List UInt8)) : (T ++ c).getLastD [] = c.getLastD (T.getLastD []) := by
  rw [List.getLastD_eq_getLast?, List.getLastD_eq_getLast?, List.getLastD_eq_getLast?, List.getLast?_append]
  cases c.getLast? <;> rfl
theorem Dic.last_getD {L : List (List UInt8)} {t : Nat} (h : L.length = t + 1) : L.getLastD [] = L.getD t [] := by
  rw [List.getLastD_eq_getLast?, List.getLast?_eq_getElem?, h, List.getD_eq_getElem?_getD, Nat.add_sub_cancel]
theorem Dic.le_less (a t : List UInt8) : (Op.bytesLess a t || a == t) = !Op.bytesLess t a := by
  cases h : Op.bytesLess t a with
  | true =>
    have h1 : Op.bytesLess a t = false := by
      cases h2 : Op.bytesLess a t with
      | false => rfl
      | true => have := less_trans _ _ _ h h2; rw [less_self] at this; cases this
    have h2 : (a == t) = false := by
      rw [beq_eq_false_iff_ne]
      rintro rfl
      rw [less_self] at h
      cases h
    rw [h1, h2]
    rfl
  | false =>
    by_cases he : t = a
    · subst he; simp
    · rw [less_total _ _ h he]
      rfl
theorem Dic.parts_step {b P : List UInt8} {size z left p q' : Nat} {zs : List Nat} {was : List UInt8} {e1 : Int} (h : takeR b p 0 (z : Int) = (P, q', e1)) :
    (e1 ≠ 0 → (partsR b size (z :: zs) left was p).2.2 = e1) ∧
    (e1 = 0 → (partR P (min size left) was).2 ≠ 0 → (partsR b size (z :: zs) left was p).2.2 = (partR P (min size left) was).2) ∧
    (∀ c, e1 = 0 → partR P (min size left) was = (c, 0) → (partsR b size (z :: zs) left was p).2.2 = (partsR b size zs (left - min size left) (c.getLastD was) q').2.2 ∧
      ((partsR b size zs (left - min size left) (c.getLastD was) q').2.2 = 0 → partsR b size (z :: zs) left was p = (c ++ (partsR b size zs (left - min size left) (c.getLastD was) q').1, (partsR b size zs (left - min size left) (c.getLastD was) q').2.1, 0))) := by
  refine ⟨fun he => ?_, fun he h2 => ?_, fun c he h2 => ⟨?_, fun h3 => ?_⟩⟩
  · rw [partsR, h, if_pos he]
  · subst he
    rw [partsR, h, if_neg (by simp), if_pos h2]
  · subst he
    rw [partsR, h, if_neg (by simp)]
    dsimp only
    rw [h2, if_neg (by simp)]
    dsimp only
    by_cases h3 : (partsR b size zs (left - min size left) (c.getLastD was) q').2.2 = 0
    · rw [if_neg (fun hh => hh h3), h3]
    · rw [if_pos h3]
  · subst he
    rw [partsR, h, if_neg (by simp)]
    dsimp only
    rw [h2, if_neg (by simp)]
    dsimp only
    rw [if_neg (fun hh => hh h3)]
theorem Dic.texts_step {p : List UInt8} {k q q' : Nat} {first : Bool} {was s : List UInt8} {e : Int} (h : oneR p first was q = (s, q', e)) :
    (e ≠ 0 → (textsR p (k + 1) first was q).2.2 = e) ∧
    (e = 0 → (textsR p (k + 1) first was q).2.2 = (textsR p k false s q').2.2 ∧ ((textsR p k false s q').2.2 = 0 → textsR p (k + 1) first was q = (s :: (textsR p k false s q').1, (textsR p k false s q').2.1, 0))) := by
  refine ⟨fun he => ?_, fun he => ⟨?_, fun h3 => ?_⟩⟩
  · rw [textsR, h, if_pos he]
  · subst he
    rw [textsR, h, if_neg (by simp)]
    dsimp only
    by_cases h3 : (textsR p k false s q').2.2 = 0
    · rw [if_neg (by simp [h3]), h3]
    · rw [if_pos h3]
  · subst he
    rw [textsR, h, if_neg (by simp)]
    dsimp only
    rw [if_neg (by simp [h3])]
theorem Num.take_len {b P : List UInt8} {q q' : Nat} {e n e' : Int} (h : takeR b q e n = (P, q', e')) : P.length ≤ b.length := by
  unfold takeR at h
  repeat' split at h
  all_goals (simp only [Prod.mk.injEq] at h; rw [← h.1])
  all_goals first | (simp; done) | (rw [List.length_take, List.length_drop]; omega)
theorem Dic.one_cases {p was rs : List UInt8} {first : Bool} {q m q8 q9 : Nat} {e8 e9 : Int} (h1 : sameR p first was q = (m, q8, e8)) (h2 : textR p q8 e8 25 = (rs, q9, e9)) :
    (e9 ≠ 0 → oneR p first was q = ([], 0, e9)) ∧
    (e9 = 0 → (rs = [] ∨ 25 < (was.take m ++ rs).length ∨ Op.bytesLess was (was.take m ++ rs) = false ∨ (first = false ∧ alike was (was.take m ++ rs) ≠ m)) → oneR p first was q = ([], 0, 2)) ∧
    (e9 = 0 → ¬ (rs = [] ∨ 25 < (was.take m ++ rs).length ∨ Op.bytesLess was (was.take m ++ rs) = false ∨ (first = false ∧ alike was (was.take m ++ rs) ≠ m)) → oneR p first was q = (was.take m ++ rs, q9, 0)) := by
  unfold oneR
  rw [h1]
  dsimp only
  rw [h2]
  dsimp only
  exact ⟨fun h => if_pos h, fun h k => by rw [if_neg (by simp [h]), if_pos k], fun h k => by rw [if_neg (by simp [h]), if_neg k]⟩
theorem Num.text_ok {b rs : List UInt8} {q q' : Nat} {e : Int} (h : textR b q e 25 = (rs, q', 0)) : e = 0 ∧ rs.length ≤ 25 := by
  unfold textR at h
  split at h
  · rename_i h0
    obtain ⟨h1, h2, -⟩ := intR_le b q e 25 h0
    refine ⟨h1, ?_⟩
    split at h
    · simp at h
    · unfold takeR at h
      rw [if_pos rfl] at h
      repeat' split at h
      all_goals (simp only [Prod.mk.injEq] at h; rw [← h.1])
      all_goals first | (simp; done) | (rw [List.length_take]; omega)
  · rename_i h0
    simp only [Prod.mk.injEq] at h
    exact absurd (congrArg Prod.snd h.2) h0
theorem Dic.part_yes {P was : List UInt8} {k : Nat} {c : List (List UInt8)} {q : Nat} (h : textsR P k true was 0 = (c, q, 0)) (hq : ¬ q < P.length) : partR P k was = (c, 0) := by
  unfold partR
  rw [h, if_neg (by simp), if_neg hq]
theorem Dic.part_left {P was : List UInt8} {k : Nat} {c : List (List UInt8)} {q : Nat} (h : textsR P k true was 0 = (c, q, 0)) (hq : q < P.length) : partR P k was = ([], 2) := by
  unfold partR
  rw [h, if_neg (by simp), if_pos hq]
theorem Dic.part_no {P was : List UInt8} {k : Nat} {e : Int} (h : (textsR P k true was 0).2.2 = e) (he : e ≠ 0) : partR P k was = ([], e) := by
  unfold partR
  rw [if_pos (by rw [h]; exact he), h]

end Go.Proofs.YtcphapdjimeoaaaGreat

