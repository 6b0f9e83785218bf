/- The program's Read of chapter 18: its lists. -/
import Derived.Test.YtcphapdjimeoaaaGreatB15
import Derived.Test.YtcphapdjimeoaaaGreatB29
import Derived.Test.YtcphapdjimeoaaaGreatB31
namespace Go.Proofs.YtcphapdjimeoaaaGreat
open Go.RowKit Pst

/-- What the program's readLists tells of n lists from the place q on. -/
def Pst.resL (bound : Int) (b : List UInt8) (n q : Nat) : List (List Int) × Int :=
  if (listsR bound b n q).2.2 ≠ 0 then ([], (listsR bound b n q).2.2) else if (listsR bound b n q).2.1 < b.length then ([], 2) else ((listsR bound b n q).1, 0)
def LsTo (w : World) (r : List (List Int) × Int) (e : Ending) (w' : World) : Prop := ∃ v, e = .returned (.tuple #[v, .int .i64 r.2]) ∧ OwnLs w' w.heap.size v r.1 ∧ Ext w w'

attribute [local go_sem ↓] run_cut
set_option maxHeartbeats 4000000 in
set_option maxRecDepth 100000 in
theorem pReadLists_any (bound : Int) (b : List UInt8) (q n : Nat) (A : Option Addr) (k c : Nat) (w : World) (hbd : 0 ≤ bound ∧ bound ≤ 20000) (hk : k = (b.drop q).length) (hq : q ≤ b.length) (hkc : k ≤ c) (hcm : c ≤ maxLen) (hbl : b.length ≤ 40000) (hn : n ≤ 40000) (hB : Bytes w w.heap.size A k (b.drop q)) :
    Calls Tryz.prog 16 #[.int .i64 bound, .int .i64 (n : Int), .slice A k c] w (LsTo w (resL bound b n q)) := by
  have HX := hide (show resL bound b n q = if (listsR bound b n q).2.2 ≠ 0 then ([], (listsR bound b n q).2.2) else if (listsR bound b n q).2.1 < b.length then ([], 2) else ((listsR bound b n q).1, 0) from rfl)
  have HI64 := hide (show IsI64 bound by unfold IsI64; omega)
  have HBl := hide hbl
  have HB := hide hB
  have HK := hide hk
  have HQ := hide hq
  have HC := hide (And.intro hkc hcm)
  generalize resL bound b n q = res at *
  unfold LsTo
  clear hbd hk hq hkc hcm hbl hB
  go_enter Tryz.func16, Tryz.ntmps16
  go_wp2_with fail
  go_loopw [13, 8, 2] (fun y v s wr => ∃ (i p kk cc : Nat) (Ab : Option Addr) (L : List (List Int)), i ≤ n ∧ y = .int .i64 (i : Int) ∧ s = .slice Ab kk cc ∧ kk = (b.drop p).length ∧ p ≤ b.length ∧ kk ≤ cc ∧ cc ≤ maxLen ∧ Bytes wr w.heap.size Ab kk (b.drop p) ∧ OwnLs wr w.heap.size v L ∧ L.length = i ∧ Ext w wr ∧
      (listsR bound b n q).2.2 = (listsR bound b (n - i) p).2.2 ∧ ((listsR bound b (n - i) p).2.2 = 0 → listsR bound b n q = (L ++ (listsR bound b (n - i) p).1, (listsR bound b (n - i) p).2.1, 0))) (fun y _ _ _ => n - (intOf y).toNat)
  case atStart => exact ⟨0, q, k, c, A, [], by omega, rfl, rfl, HK.out, HQ.out, HC.out.1, HC.out.2, HB.out, OwnLs.nil _ _, rfl, Ext.refl w, rfl, fun h => by rw [Nat.sub_zero] at h ⊢; rw [List.nil_append, ← h]⟩
  case round =>
    clear HB HK HQ HC
    obtain ⟨i, p, kk, cc, Ab, L, hi, rfl, rfl, hkk, hp, hkc, hcm, hB, hLs, hL, hE, hl1, hl2⟩ := hrel
    obtain ⟨Al, cl, hlv, -, -, -⟩ := hLs.form
    rw [hL] at hlv
    subst hlv
    have HLs := hide hLs
    have HE := hide hE
    have HLl := hide hL
    by_cases hlt : i < n
    · have hiI : (i : Int) < (n : Int) := by omega
      obtain ⟨f, hf⟩ : ∃ f, n - i = f + 1 := ⟨n - i - 1, by omega⟩
      rw [hf] at hl1 hl2
      have hB2 : Bytes wr wr.heap.size Ab (b.drop p).length (b.drop p) := by rw [← hkk]; exact hB.mono hE.le
      have C := efReadC_any wr bound (b.drop p) Ab cc wr (Ext.refl wr) HI64.out (by omega) hcm (by have := HBl.out; rw [List.length_drop]; omega) hB2
      have hst := lists_step (bound := bound) (b := b) (k := f) (q := p)
      have hone := fun ids m => Ef.read_one (bound := bound) (b := b.drop p) (ids := ids) (n := m)
      rw [← hkk] at C
      obtain ⟨l1, p1, e1, hr⟩ : ∃ l p' e, Ef.readE bound (b.drop p) = (l, p', e) := ⟨_, _, _, rfl⟩
      rw [hr] at C hst hone
      unfold RdTo at C
      dsimp only at hst C
      obtain ⟨s1, s2, s3⟩ := hst
      obtain ⟨wo, rfl⟩ : ∃ W, W = wr := ⟨_, rfl⟩
      have HKk := hide hkk
      have HBb := hide hB
      clear hr hLs hE hL hB2 hB hkk
      by_cases he1 : e1 = 0
      · subst he1
        obtain ⟨-, hp1⟩ := hone l1 p1 rfl
        rw [← HKk.out] at hp1
        obtain ⟨k1, hk1⟩ : ∃ k1, k1 = l1.length := ⟨_, rfl⟩
        have HK1 := hide hk1
        by_cases hl0 : l1 = []
        · have HR := hide (show res = ([], 2) by
            have h := s2 rfl hl0
            rw [HX.out, hl1, h]
            rw [if_pos (by decide)])
          have hk0 : k1 = 0 := by rw [hk1, hl0]; rfl
          subst hk0
          clear s1 s2 s3 hl1 hl2 HX hone hl0 hk1
          go_wp2_with fail
          refine C.mono ?_
          rintro e w4 ⟨hE4, hC4, -⟩
          obtain ⟨g, rfl, hG⟩ := hC4 (by trivial)
          have CL := efLen_any hG
          rw [← HK1.out] at CL
          have HE4 := hide (HE.out.trans hE4)
          clear C hC4 hE4 hG
          go_wp2_with fail
          refine CL.mono ?_
          rintro e w5 ⟨rfl, hE5⟩
          clear CL
          go_wp2
          refine bodyPost_ret (results_tmp2 rfl _ _ _) rfl ?_
          rw [HR.out]
          exact ⟨_, rfl, OwnLs.nil _ _, HE4.out.trans hE5⟩
        · have hk10 : ((k1 : Int) == 0) = false := by
            have : 0 < l1.length := List.length_pos_iff.2 hl0
            simp; omega
          obtain ⟨t1, t2⟩ := s3 rfl hl0
          have HN1 := hide (hl1.trans t1)
          have HN2 := hide (show (listsR bound b f (p + p1)).2.2 = 0 → listsR bound b n q = ((L ++ [l1]) ++ (listsR bound b f (p + p1)).1, (listsR bound b f (p + p1)).2.1, 0) from fun h => by
            rw [hl2 (t1.trans h), t2 h]
            simp)
          have HFi := hide (show f = n - (i + 1) by omega)
          clear s1 s2 s3 hl1 hl2 t1 t2 hone hl0 hk1
          go_wp2_with fail
          refine C.mono ?_
          rintro e w4 ⟨hE4, hC4, -⟩
          obtain ⟨g, rfl, hG⟩ := hC4 (by trivial)
          have CL := efLen_any hG
          rw [← HK1.out] at CL
          have HGx := hide hG
          have HE4 := hide hE4
          clear C hC4 hE4 hG
          go_wp2_with fail
          refine CL.mono ?_
          rintro e w5 ⟨rfl, hE5⟩
          have CA := efAllO_any (efLst_keep HGx.out hE5)
          have HE5 := hide (HE4.out.trans hE5)
          clear CL hE5 HE4
          go_wp2_with fail
          refine CA.mono ?_
          rintro e w6 ⟨v6, rfl, hO6, hE6⟩
          have HE6 := hide (HE5.out.trans hE6)
          obtain ⟨A6, c6, hv6⟩ : ∃ A c, v6 = .slice A k1 c := by
            obtain ⟨A6, c6, h, -⟩ := OwnI.form hO6
            exact ⟨A6, c6, by rw [h, HK1.out]⟩
          subst hv6
          have HO6 := hide (OwnI.lower (b' := w.heap.size) hO6 (by have := HE5.out.le; have := HE.out.le; omega))
          have hlm : L.length ≤ 1000000 := by have := HLl.out; omega
          have hp1I : (p1 : Int) ≤ (kk : Int) := by omega
          clear CA hO6 hE6 HE5
          go_wp2_with (at_builtin; refine wpList_appLs rfl (.tmp 30) (.tmp 33) rfl rfl (HLs.out.ext HE6.out) HO6.out rfl hlm (by have := HE.out.le; have := HE6.out.le; omega) ?_; intro v7 w7 hL7 hG7 _; have HL7 := hide hL7; have HG7 := hide hG7; clear hL7 hG7)
          have hX6 : Ext w w6 := HE.out.trans HE6.out
          have hAl := extNew w6 (.cells #[.slice A6 k1 c6] 43)
          have hE7 : Ext w w7 := Below.grown (hX6.trans hAl) HG7.out (hX6.trans hAl).le (fun k hk => (HLs.out.lt k hk).1)
          have hB7 : Bytes w7 w.heap.size (cutAt Ab cc p1) (kk - p1) (b.drop (p + p1)) := by
            have h1 := (HBb.out.below (Below.mono (Below.trans (Below.mono HE6.out (Nat.le_refl _)) (Below.mono hAl HE6.out.le)) HE.out.le) (Nat.le_refl _)).drop (k := p1) (c := cc) (by omega) hkc
            rw [List.drop_drop] at h1
            exact h1.below (Below.grown (Below.refl _ _) HG7.out (hX6.trans hAl).le (fun k hk => (HLs.out.lt k hk).1)) (Nat.le_refl _)
          refine ⟨⟨i + 1, p + p1, kk - p1, cc - p1, cutAt Ab cc p1, L ++ [l1], by omega, by go_num, rfl, by rw [HKk.out, List.length_drop, List.length_drop]; omega, by have := HKk.out; rw [List.length_drop] at this; omega, by omega, by omega, hB7, HL7.out, by rw [List.length_append, List.length_singleton, HLl.out], hE7, ?_, ?_⟩, by simp [intOf]; omega⟩
          · rw [← HFi.out]; exact HN1.out
          · rw [← HFi.out]; exact HN2.out
      · have hne1 : (e1 != 0) = true := by simpa using he1
        have HR := hide (show res = ([], e1) by
          have h := s1 he1
          rw [HX.out, hl1, h, if_pos he1])
        clear s1 s2 s3 hl1 hl2 HX hone
        go_wp2_with fail
        refine C.mono ?_
        rintro e w4 ⟨hE4, -, hC4⟩
        obtain rfl := hC4 he1
        clear C hC4 he1
        go_wp2
        refine bodyPost_ret (results_tmp2 rfl _ _ _) rfl ?_
        rw [HR.out]
        exact ⟨_, rfl, OwnLs.nil _ _, HE.out.trans hE4⟩
    · have hiI : ¬ (i : Int) < (n : Int) := by omega
      have hni : n - i = 0 := by omega
      obtain rfl : n = i := by omega
      rw [hni, listsR] at hl2
      have hL2 := hl2 rfl
      dsimp only at hL2
      rw [List.append_nil] at hL2
      rw [hL2] at HX
      have hkb : kk = b.length - p := by rw [hkk, List.length_drop]
      clear hl1 hl2 hL2 hni hLs hE hL hB hkk hlt
      by_cases hqn : p < b.length
      · have hqnI : (0 : Int) < (kk : Int) := by omega
        have HR := hide (show res = ([], 2) by rw [HX.out, if_neg (by simp), if_pos hqn])
        clear HX hkb
        go_wp2
        refine bodyPost_ret (results_tmp2 rfl _ _ _) rfl ?_
        rw [HR.out]
        exact ⟨_, rfl, OwnLs.nil _ _, HE.out⟩
      · have hqnI : ¬ (0 : Int) < (kk : Int) := by omega
        have HR := hide (show res = (L, 0) by rw [HX.out, if_neg (by simp), if_neg hqn])
        clear HX hkb
        go_wp2
        refine bodyPost_ret (results_tmp2 rfl _ _ _) rfl ?_
        rw [HR.out]
        exact ⟨_, rfl, HLs.out, HE.out⟩
end Go.Proofs.YtcphapdjimeoaaaGreat

