/- The program's reader of chapter 16: next, counts, last. The program's reader of chapter 16: bucket. How the program reads the buckets one by one: plain mathematics. -/
import Derived.Test.YtcphapdjimeoaaaGreatB01
import Derived.Test.YtcphapdjimeoaaaGreatB03
import Derived.Test.YtcphapdjimeoaaaGreatB06
import Derived.Test.YtcphapdjimeoaaaGreatB14
import Derived.Test.YtcphapdjimeoaaaGreatB30
import Derived.Test.YtcphapdjimeoaaaGreatB33
namespace Go.Proofs.YtcphapdjimeoaaaGreat
open Go.RowKit Num Wrd Dic

/-- Block gr is a reader, which stands at a place; block gd is its dictionary, with what is read so far. -/
structure RdrD (w W : World) (gr gd : Nat) (A : Option Addr) (c : Nat) (b : List UInt8) (size at_ : Nat) (T F : List (List UInt8)) (vT vF : Value) : Prop where
  rd : Whole W gr 72 #[.pointer (some ⟨gd, 0, none⟩), .slice A b.length c, .int .i64 (at_ : Int)]
  dc : Whole W gd 70 #[vT, .int .i64 (size : Int), vF]
  two : TwoTx W w.heap.size vT T vF F
  ext : Ext w W
  ge : w.heap.size ≤ gr ∧ w.heap.size ≤ gd
  fits : at_ ≤ b.length
section
variable {w W W' : World} {gr gd c size at_ : Nat} {A : Option Addr} {b : List UInt8} {T F : List (List UInt8)} {vT vF : Value}
theorem RdrD.later (h : RdrD w W gr gd A c b size at_ T F vT vF) (hE : Ext W W') : RdrD w W' gr gd A c b size at_ T F vT vF := ⟨h.rd.ext hE, h.dc.ext hE, h.two.ext hE, h.ext.trans hE, h.ge, h.fits⟩
/-- It goes on to another place. -/
theorem RdrD.move (h : RdrD w W gr gd A c b size at_ T F vT vF) {q : Nat} (hq : q ≤ b.length) (hW : Whole W' gr 72 #[.pointer (some ⟨gd, 0, none⟩), .slice A b.length c, .int .i64 (q : Int)]) (hG : W.grownBy W' (some gr)) : RdrD w W' gr gd A c b size q T F vT vF := by
  have hne : gd ≠ gr := by
    intro e
    have h1 := h.rd
    have h2 := h.dc
    rw [e] at h2
    unfold Whole at h1 h2
    rw [h1] at h2
    simp at h2
  exact ⟨hW, h.dc.grown hG hne, h.two.put h.rd (by decide) hG, Below.grown h.ext hG h.ext.le (fun k hk => by cases hk; exact h.ge.1), h.ge, hq⟩
end
/-- What comes next of the bytes. -/
def nextA (A : Option Addr) (c at_ : Nat) : Option Addr := cutAt (cutAt A c at_) (c - at_) 0
theorem next_bytes {w W : World} {A : Option Addr} {c at_ n : Nat} {b : List UInt8} (h : Bytes w w.heap.size A b.length b) (hE : Ext w W) (hc : b.length ≤ c) (ha : at_ ≤ b.length) : Bytes W W.heap.size (nextA A c at_) (min n (b.length - at_)) ((b.drop at_).take n) := by
  have h1 := (hE.bytes h).drop (k := at_) (c := c) ha hc
  have h2 := Ef.bytes_head (c := c - at_) (k := min n (b.length - at_)) h1 (by omega) (by omega)
  have : (b.drop at_).take (min n (b.length - at_)) = (b.drop at_).take n := by
    rw [Nat.min_def]
    split
    · rfl
    · rw [List.take_of_length_le (by simp), List.take_of_length_le (by simp; omega)]
  rw [this] at h2
  exact h2
set_option maxHeartbeats 1000000 in
set_option maxRecDepth 10000 in
theorem dNext_any {w W : World} {gr gd c size at_ : Nat} {A : Option Addr} {b : List UInt8} {T F : List (List UInt8)} {vT vF : Value} (h : RdrD w W gr gd A c b size at_ T F vT vF) (hc : b.length ≤ c) (n : Nat) :
    Calls Tryz.prog 85 #[.pointer (some ⟨gr, 0, none⟩), .int .i64 (n : Int)] W fun e W' => e = .returned (.slice (nextA A c at_) (min n (b.length - at_)) (c - at_)) ∧ Ext W W' := by
  have c1 := h.rd.at 1 (u := .slice A b.length c) rfl
  have c2 := h.rd.at 2 (u := .int .i64 (at_ : Int)) rfl
  have hf := h.fits
  obtain ⟨bl, hbl⟩ : ∃ n, n = b.length := ⟨_, rfl⟩
  rw [← hbl] at c1 hc hf ⊢
  obtain ⟨q, hq⟩ : ∃ q, q = bl - at_ := ⟨_, rfl⟩
  obtain ⟨m, hm⟩ : ∃ m, m = min n q := ⟨_, rfl⟩
  have hmin : (if (q : Int) < (n : Int) then (q : Int) else (n : Int)) = (m : Int) := by split <;> omega
  have hcut := fun W => run_cut W A bl c .i64 (at_ : Int) (by omega) (by omega)
  simp only [Int.toNat_natCast] at hcut
  have hhead := fun W => run_headB W (cutAt A c at_) q (c - at_) .i64 (m : Int) (by omega) (by omega)
  simp only [Int.toNat_natCast] at hhead
  unfold nextA
  rw [← hq] at hcut ⊢
  rw [← hm]
  generalize cutAt (cutAt A c at_) (c - at_) 0 = A2 at *
  generalize cutAt A c at_ = A1 at *
  generalize c - at_ = d at *
  have HM := hide hmin
  clear hmin hm hq hbl h
  go_enter Tryz.func85, Tryz.ntmps85
  go_wp2_with fail
  go_quiet (fail)
  go_wp2_with (refine wpList_min rfl (.tmp 16) (.tmp 18) rfl rfl rfl HM.out ?_)
  go_ret
  exact ⟨rfl, (Ext.refl W).drewN _⟩

/-- What counts tells. -/
def CntTo (w : World) (gr gd : Nat) (A : Option Addr) (c : Nat) (b : List UInt8) (size : Nat) (T F : List (List UInt8)) (vT vF : Value) (m : Nat) (r : List Nat × Nat × Int) (e : Ending) (W' : World) : Prop :=
  (r.2.2 = 0 → ∃ A2 c2, e = .returned (.tuple #[.slice A2 m c2, .int .i64 0]) ∧ OwnI W' w.heap.size (.slice A2 m c2) (r.1.map Int.ofNat) ∧ m ≤ c2 ∧ RdrD w W' gr gd A c b size r.2.1 T F vT vF) ∧
  (r.2.2 ≠ 0 → e = .returned (.tuple #[.slice none 0 0, .int .i64 r.2.2]) ∧ Ext w W')
theorem Mod.ownI {w w' : World} {g : Nat} {ob : Option Nat} (h : Mod w w' g ob) {base : Nat} {v : Value} {L : List Int} (hv : OwnI w base v L) (hg : v.ownBlock ≠ some g) (ho : v.ownBlock = none ∨ v.ownBlock ≠ ob) : OwnI w' base v L := by
  refine ⟨hv.1, ?_⟩
  rcases hv.2 with hn | ⟨x, cap, cur, rfl, hb, hgg, rest⟩
  · exact .inl hn
  · refine .inr ⟨x, cap, cur, rfl, hb, ?_, rest⟩
    rw [h.block x (Array.getElem?_eq_some_iff.1 hgg).1 (by intro e; subst e; simp [Value.ownBlock] at hg) (by
      intro e
      rcases ho with ho | ho
      · simp [Value.ownBlock] at ho
      · exact ho (by simpa [Value.ownBlock] using e))]
    exact hgg
theorem PC.farTo' {w w' : World} {gc r q base : Nat} {p : List UInt8} {e : Int} {ob : Option Nat} (h : PC w gc r p q e) (hG : w.grownBy w' ob) (ho : ∀ k, ob = some k → base ≤ k) (hb : gc < base ∧ r < base) : PC w' gc r p q e := by
  obtain ⟨A, c, hW, hc, hR, hl, h⟩ := h
  exact ⟨A, c, (hG.block gc hW.lt (fun e => by have := ho gc e.symm; omega)).trans hW, hc, hR.at (hG.block r hl (fun e => by have := ho r e.symm; omega)), Nat.lt_of_lt_of_le hl hG.size, h⟩
set_option maxHeartbeats 4000000 in
set_option maxRecDepth 10000 in
theorem dCounts_any {w W : World} {gr gd c size at_ : Nat} {A : Option Addr} {b : List UInt8} {T F : List (List UInt8)} {vT vF : Value} (h : RdrD w W gr gd A c b size at_ T F vT vF) (hB : Bytes w w.heap.size A b.length b) (hc : b.length ≤ c) (hl : b.length ≤ 1000000) (m most : Nat) (hm : m ≤ 2000000) (hmost : most ≤ 2000000) :
    Calls Tryz.prog 58 #[.pointer (some ⟨gr, 0, none⟩), .int .i64 (m : Int), .int .i64 (most : Int)] W (CntTo w gr gd A c b size T F vT vF m (numsR b (most : Int) m at_)) := by
  have CX := dNext_any h hc (m * 10)
  rw [show ((m * 10 : Nat) : Int) = (m : Int) * 10 by omega] at CX
  have hfit := h.fits
  obtain ⟨p, hp⟩ : ∃ p, p = (b.drop at_).take (m * 10) := ⟨_, rfl⟩
  have hpl : p.length = min (m * 10) (b.length - at_) := by rw [hp]; simp
  have hBy := fun W1 (hE : Ext w W1) => next_bytes (n := m * 10) hB hE hc hfit
  rw [← hp, ← hpl] at hBy
  rw [← hpl] at CX
  have hpart := nums_part (b := b) (at_ := at_) (K := m * 10) (most := (most : Int)) m 0 (by omega)
  rw [← hp, Nat.add_zero] at hpart
  have hplong := nums_long (b := b) (most := (most : Int)) m at_
  obtain ⟨res, hres⟩ : ∃ r, r = numsR b (most : Int) m at_ := ⟨_, rfl⟩
  rw [← hres] at hpart hplong ⊢
  have HP := hide hpart
  have HL := hide hplong
  have hp6 : p.length ≤ 1000000 := by omega
  have hpc : p.length ≤ c - at_ := by omega
  have HH := hide h
  have HBy := hide hBy
  have hrl := h.rd.lt
  clear hp hpl hpart hplong hres hBy h hB
  generalize nextA A c at_ = A1 at *
  have hp2 : (p.length : Int) ≤ 1000000 := by omega
  obtain ⟨pl, hpl⟩ : ∃ n, n = p.length := ⟨_, rfl⟩
  rw [← hpl] at CX hp6 hpc hp2 HBy
  have HPL := hide hpl
  clear hpl
  go_enter Tryz.func58, Tryz.ntmps58
  go_wp2_with fail
  refine CX.mono ?_
  rintro e W1 ⟨rfl, hE1⟩
  have CN := pcNew_any A1 pl (c - at_) p W1 hpc hp6 (HBy.out W1 (HH.out.ext.trans hE1))
  have HE1 := hide hE1
  clear CX hE1
  go_wp2_with fail
  refine CN.mono ?_
  rintro e W2 ⟨gc, r, rfl, hgc, hPC, hE2⟩
  have HE2 := hide (HE1.out.trans hE2)
  have HPC := hide hPC
  have hgr := And.intro hPC.lt hPC.rlt
  have HRD := hide (HH.out.later HE2.out)
  have HG2 := hide (show W.heap.size ≤ gc from Nat.le_trans HE1.out.le hgc)
  clear CN hPC hE2 hgc
  go_wp2
  go_loopw [17, 9] (fun x v wr => ∃ (k : Nat) (vs : List Nat) (q : Nat), k ≤ m ∧ x = .int .i64 (k : Int) ∧ PC wr gc r p q 0 ∧ OwnI wr W2.heap.size v (vs.map Int.ofNat) ∧ vs.length = k ∧ k ≤ q ∧ numsR p (most : Int) m 0 = behind vs (numsR p (most : Int) (m - k) q) ∧ Ext W wr ∧ W2.heap.size ≤ wr.heap.size) (fun x _ _ => m - (intOf x).toNat)
  case atStart => exact ⟨0, [], 0, by omega, rfl, HPC.out, OwnI.nil _ _, rfl, by omega, by rw [behind_nil (nums_err _ _ _ _), Nat.sub_zero], HE2.out, Nat.le_refl _⟩
  case round =>
    clear HPC
    obtain ⟨k, vs, q, hk, rfl, hPC, hO, hvl, hkq, hR, hE, hbs⟩ := hrel
    have HR := hide hR
    have HVL := hide hvl
    have hq6 := hPC.bounds
    rw [← HPL.out] at hq6
    clear hR hvl
    by_cases hlt : k < m
    · have hkI : (k : Int) < (m : Int) := by omega
      obtain ⟨d, hd⟩ : ∃ d, m - k = d + 1 := ⟨m - k - 1, by omega⟩
      have CI := pcInt_any hPC (most : Int) (by omega)
      have HNG := hide (show ∀ x q' e, intR p q 0 (most : Int) = (x, q', e) → (e ≠ 0 → res.2.2 = e) ∧ (e = 0 → k < q' ∧ numsR p (most : Int) m 0 = behind (vs ++ [x]) (numsR p (most : Int) (m - (k + 1)) q')) from fun x q' e hi => by
        have h1 := HR.out
        rw [hd] at h1
        constructor
        · intro he
          rw [nums_bad (by rw [hi]; exact he), hi] at h1
          unfold behind at h1
          dsimp only at h1
          rw [if_pos he, HP.out] at h1
          simpa using congrArg (fun r => r.2.2) h1
        · intro he
          subst he
          obtain ⟨_, i2, _, i4⟩ := int_is hi
          have i5 := enc_pos x
          rw [i4] at i5
          unfold seg at i5
          simp at i5
          refine ⟨by omega, ?_⟩
          rw [nums_good (by rw [hi]), hi, behind_behind] at h1
          rw [show m - (k + 1) = d by omega]
          exact h1)
      obtain ⟨x, q', e, hi⟩ : ∃ x q' e, intR p q 0 (most : Int) = (x, q', e) := ⟨_, _, _, rfl⟩
      have HI := hide (HNG.out x q' e hi)
      rw [hi] at CI
      dsimp only at CI
      have HE := hide hE
      have HO := hide hO
      have HPr := hide hPC
      clear HNG hi hd hE hO hPC HR
      go_wp2_with fail
      refine CI.mono ?_
      rintro e2 w3 ⟨rfl, hP3, hM3⟩
      have hO3 := hM3.ownI HO.out (fun e => by have := (HO.out.lt _ e).1; omega) (by cases (u9 : Value).ownBlock <;> simp)
      have HE3 := hide (show Ext W w3 from Below.trans HE.out (hM3.below (B := W.heap.size) HE.out.le HG2.out (fun k hk => by cases hk)))
      have hb3 : W2.heap.size ≤ w3.heap.size := Nat.le_trans hbs hM3.size
      have hEa := extNew w3 (.cells #[.int .i64 (x : Int)] 3)
      have hO3a := hide (hO3.ext hEa)
      have hP3a := hide (hP3.ext hEa)
      have HE3a := hide (HE3.out.trans hEa)
      have hvs : (vs.map Int.ofNat).length ≤ 1000000 := by rw [List.length_map, HVL.out]; omega
      clear CI hM3 hO3 hEa hP3
      go_wp2_with (at_builtin; refine wpList_appIB rfl (.tmp 19) (.tmp 23) rfl rfl (x : Int) hO3a.out rfl hvs hb3 ?_; intro v4 w4 hO4 hG4; have HO4 := hide hO4; have hP4 := hP3a.out.farTo' hG4 (fun k hk => (hO3a.out.lt k hk).1) hgr; have HE4 := hide (show Ext W w4 from Below.grown HE3a.out hG4 HE3a.out.le (fun k hk => by have := (hO3a.out.lt k hk).1; have := HG2.out; omega)); have hb4 : W2.heap.size ≤ w4.heap.size := Nat.le_trans hb3 (Nat.le_trans (by simp) hG4.size); have HP4 := hide hP4; have CE := pcErr_any hP4; clear hO4 hG4 hP4)
      refine CE.mono ?_
      rintro e3 w5 ⟨rfl, rfl⟩
      clear CE
      by_cases he : e = 0
      · subst he
        have HN := hide (HI.out.2 rfl)
        go_wp2
        go_roundw
        case rel => exact ⟨k + 1, vs ++ [x], q', by omega, by go_num, HP4.out, by simpa using HO4.out, by rw [List.length_append, HVL.out]; rfl, by have := HN.out.1; omega, HN.out.2, HE4.out, hb4⟩
        case measure => simp [intOf]; omega
      · have heb : (e != 0) = true := by rw [bne_iff_ne]; exact he
        have HR := hide (HI.out.1 he)
        have HNe := hide he
        clear he
        go_wp2
        go_ret2
        rw [← HR.out]
        exact ⟨fun h => absurd (HR.out.symm.trans h) HNe.out, fun _ => ⟨rfl, HH.out.ext.trans HE4.out⟩⟩
    · have hkI : ¬ (k : Int) < (m : Int) := by omega
      obtain rfl : k = m := by omega
      have hr0 := HR.out
      rw [Nat.sub_self, numsR, HP.out] at hr0
      unfold behind at hr0
      dsimp only at hr0
      rw [if_neg (by simp), List.append_nil] at hr0
      simp only [Prod.mk.injEq] at hr0
      obtain ⟨r1, r2, r3⟩ := hr0
      have HR1 := hide r1
      have HR3 := hide r3
      have hL := HL.out r3 hfit
      have HQ := hide (show res.2.1 = at_ + q by omega)
      have HQ2 := hide (show at_ + q ≤ b.length by omega)
      obtain ⟨A2, c2, hv, hc2, -⟩ := hO.form
      have hlm : (vs.map Int.ofNat).length = k := by rw [List.length_map, HVL.out]
      rw [hlm] at hv hc2
      subst hv
      have HC2 := hide hc2
      have HO := hide hO
      have HLM := hide hlm
      have HE := hide hE
      have CAt := fun X (hX : Ext wr X) => pcAt_any (hPC.ext hX)
      have HRr := hide (HH.out.later hE)
      have hRw := HRr.out.rd
      obtain ⟨bl, hbl⟩ : ∃ n, n = b.length := ⟨_, rfl⟩
      rw [← hbl] at hRw
      have HBL := hide hbl
      obtain ⟨at2, ha2⟩ : ∃ n, n = at_ + q := ⟨_, rfl⟩
      have hsum : (at_ : Int) + (q : Int) = (at2 : Int) := by omega
      have hwa : IntKind.i64.wrap (at2 : Int) = (at2 : Int) := by rw [IntKind.wrap_i64]; have := HQ2.out; omega
      have ha2l : (at2 : Int) ≤ 1000000 := by have := HQ2.out; omega
      rw [← ha2] at HQ HQ2
      have hgrW := HH.out.rd.lt
      have hlW := HE2.out.le
      clear hPC hO hE hlm hbl ha2 hq6 r1 r2 r3 hL hc2
      go_wp2_with fail
      refine wp_region_T (fun W => Whole W gr 72 #[.pointer (some ⟨gd, 0, none⟩), .slice A bl c, .int .i64 (at_ : Int)]) 9 10 #[false, false, false, false, false, false, false, false, false, false] (by kernel_rfl) rfl rfl (hRw.ext (Ext.refl wr).drew) ?_
      intro hS0
      refine wpAnyT_take 0 (some 31) (.pointer (some ⟨gr, 0, none⟩)) #[true, false, false, false, false, false, false, false, false, false] rfl rfl rfl (by kernel_rfl) (fun _ _ _ h => h) hS0 (by rfl) (fun W hX => by have s0 := hX.at 0 (u := .pointer (some ⟨gd, 0, none⟩)) rfl; have s1 := hX.at 1 (u := .slice A bl c) rfl; have s2 := hX.at 2 (u := .int .i64 (at_ : Int)) rfl; go_simp) ?_
      simp only [Act.put, List.setIfInBounds_toArray, List.set_cons_zero, List.set_cons_succ]
      refine wpAnyT_take 1 (some 32) (.pointer (some ⟨gr, 0, none⟩)) #[true, true, false, false, false, false, false, false, false, false] rfl rfl rfl (by kernel_rfl) (fun _ _ _ h => h) hS0 (by rfl) (fun W hX => by have s0 := hX.at 0 (u := .pointer (some ⟨gd, 0, none⟩)) rfl; have s1 := hX.at 1 (u := .slice A bl c) rfl; have s2 := hX.at 2 (u := .int .i64 (at_ : Int)) rfl; go_simp) ?_
      simp only [Act.put, List.setIfInBounds_toArray, List.set_cons_zero, List.set_cons_succ]
      refine wpAnyT_take 2 (some 33) (.pointer (some ⟨gr, 2, none⟩)) #[true, true, true, false, false, false, false, false, false, false] rfl rfl rfl (by kernel_rfl) (fun _ _ _ h => h) hS0 (by rfl) (fun W hX => by have s0 := hX.at 0 (u := .pointer (some ⟨gd, 0, none⟩)) rfl; have s1 := hX.at 1 (u := .slice A bl c) rfl; have s2 := hX.at 2 (u := .int .i64 (at_ : Int)) rfl; go_simp) ?_
      simp only [Act.put, List.setIfInBounds_toArray, List.set_cons_zero, List.set_cons_succ]
      refine wpAnyT_take 3 (some 34) (.int .i64 (at_ : Int)) #[true, true, true, true, false, false, false, false, false, false] rfl rfl rfl (by kernel_rfl) (fun _ _ _ h => h) hS0 (by rfl) (fun W hX => by have s0 := hX.at 0 (u := .pointer (some ⟨gd, 0, none⟩)) rfl; have s1 := hX.at 1 (u := .slice A bl c) rfl; have s2 := hX.at 2 (u := .int .i64 (at_ : Int)) rfl; go_simp) ?_
      simp only [Act.put, List.setIfInBounds_toArray, List.set_cons_zero, List.set_cons_succ]
      refine wpAnyT_take 4 (some 35) (.pointer (some ⟨gc, 0, none⟩)) #[true, true, true, true, true, false, false, false, false, false] rfl rfl rfl (by kernel_rfl) (fun _ _ _ h => h) hS0 (by rfl) (fun W hX => by have s0 := hX.at 0 (u := .pointer (some ⟨gd, 0, none⟩)) rfl; have s1 := hX.at 1 (u := .slice A bl c) rfl; have s2 := hX.at 2 (u := .int .i64 (at_ : Int)) rfl; go_simp) ?_
      simp only [Act.put, List.setIfInBounds_toArray, List.set_cons_zero, List.set_cons_succ]
      refine wpAnyT_only 5 #[true, true, true, true, true, true, false, false, false, false] (by kernel_rfl) rfl rfl (by rfl) (fun K0 hK0 => ?_)
      go_simp
      refine (CAt wr.drew (Ext.refl wr).drew).mono ?_
      rintro e5 w5 ⟨rfl, rfl⟩
      refine hK0 _ _ (fun _ => hS0) ?_
      clear hK0 K0
      refine wpAnyT_take 6 (some 37) (.int .i64 (at2 : Int)) #[true, true, true, true, true, true, true, false, false, false] rfl rfl rfl (by kernel_rfl) (fun _ _ _ h => h) hS0 (by rfl) (fun W hX => by have s0 := hX.at 0 (u := .pointer (some ⟨gd, 0, none⟩)) rfl; have s1 := hX.at 1 (u := .slice A bl c) rfl; have s2 := hX.at 2 (u := .int .i64 (at_ : Int)) rfl; go_simp) ?_
      simp only [Act.put, List.setIfInBounds_toArray, List.set_cons_zero, List.set_cons_succ]
      refine wpAnyT_take 7 (some 38) (.pointer (some ⟨gr, 0, none⟩)) #[true, true, true, true, true, true, true, true, false, false] rfl rfl rfl (by kernel_rfl) (fun _ _ _ h => h) hS0 (by rfl) (fun W hX => by have s0 := hX.at 0 (u := .pointer (some ⟨gd, 0, none⟩)) rfl; have s1 := hX.at 1 (u := .slice A bl c) rfl; have s2 := hX.at 2 (u := .int .i64 (at_ : Int)) rfl; go_simp) ?_
      simp only [Act.put, List.setIfInBounds_toArray, List.set_cons_zero, List.set_cons_succ]
      refine wpAnyT_take 8 (some 39) (.pointer (some ⟨gr, 2, none⟩)) #[true, true, true, true, true, true, true, true, true, false] rfl rfl rfl (by kernel_rfl) (fun _ _ _ h => h) hS0 (by rfl) (fun W hX => by have s0 := hX.at 0 (u := .pointer (some ⟨gd, 0, none⟩)) rfl; have s1 := hX.at 1 (u := .slice A bl c) rfl; have s2 := hX.at 2 (u := .int .i64 (at_ : Int)) rfl; go_simp) ?_
      simp only [Act.put, List.setIfInBounds_toArray, List.set_cons_zero, List.set_cons_succ]
      refine wpAnyT_only 9 #[true, true, true, true, true, true, true, true, true, true] (by kernel_rfl) rfl rfl (by rfl) (fun K1 hK1 => ?_)
      refine wpOper_putC 3 (.tmp 39) (.tmp 37) rfl #[.pointer (some ⟨gd, 0, none⟩), .slice A bl c, .int .i64 (at2 : Int)] rfl rfl hS0 (by simp) (by kernel_rfl) rfl rfl rfl ?_
      intro w6 hW6 hG6
      refine hK1 _ _ (fun h => absurd h (by decide)) (wpAnyT_done (by kernel_rfl) ?_ _)
      clear hK1 K1
      have hRD2 := (HRr.out.later (Ext.refl wr).drew).move HQ2.out (by rw [← HBL.out]; exact hW6) hG6
      have hO6 : OwnI w6 W2.heap.size (.slice A2 k c2) (vs.map Int.ofNat) := World.ownsRow.kept (HO.out.ext (Ext.refl wr).drew) hG6 (by
        cases hv : (Value.slice A2 k c2).ownBlock with
        | none => exact .inl rfl
        | some j => exact .inr (fun e => by have := (HO.out.lt j hv).1; simp at e; omega))
      have HF := hide (And.intro (show OwnI w6 w.heap.size (.slice A2 k c2) (vs.map Int.ofNat) from ⟨hO6.1, hO6.2.elim Or.inl fun ⟨g, cap, cur, hv, hg, r⟩ => Or.inr ⟨g, cap, cur, hv, by have := HH.out.ext.le; omega, r⟩⟩) hRD2)
      clear hRD2 hO6 hW6 hG6 hRw CAt hS0
      go_wp2
      go_ret2
      refine ⟨fun _ => ⟨A2, c2, rfl, ?_, HC2.out, ?_⟩, fun h => absurd HR3.out h⟩
      · rw [show res.1 = vs from HR1.out]
        exact HF.out.1
      · rw [HQ.out]
        exact HF.out.2

/-- The last text. -/
theorem Dic.at_last (l : List (List UInt8)) : atD l ((l.length : Int) - 1) = l.getLastD [] := by
  unfold atD inD
  rcases Nat.eq_zero_or_pos l.length with h | h
  · obtain rfl := List.eq_nil_of_length_eq_zero h
    rfl
  · rw [decide_eq_true (by omega), if_pos rfl, show ((l.length : Int) - 1).toNat = l.length - 1 by omega, List.getD_eq_getElem?_getD, List.getLastD_eq_getLast?, List.getLast?_eq_getElem?]
set_option maxHeartbeats 1000000 in
set_option maxRecDepth 10000 in
theorem dLast_any {w W : World} {gr gd c size at_ : Nat} {A : Option Addr} {b : List UInt8} {T F : List (List UInt8)} {vT vF : Value} (h : RdrD w W gr gd A c b size at_ T F vT vF) :
    Calls Tryz.prog 86 #[.pointer (some ⟨gr, 0, none⟩)] W fun e W' => e = .returned (.string ⟨(T.getLastD []).toArray⟩) ∧ Ext W W' := by
  obtain ⟨A2, c2, rfl, -, -, hT⟩ := h.two.1.form
  have CL := fun m => dLenW_any (h.dc.ext ((Ext.refl W).drewN m))
  have CA := fun m => dAtW_any (h.dc.ext ((Ext.refl W).drewN m)) (hT.later ((Ext.refl W).drewN m)) ((T.length : Int) - 1)
  rw [at_last] at CA
  have c0 := h.rd.at 0 (u := .pointer (some ⟨gd, 0, none⟩)) rfl
  have hl : (T.length : Int) ≤ 9223372036854775807 := by
    obtain ⟨_, c4, _, h1, h2, _⟩ := h.two.1.form
    unfold maxLen at h2
    omega
  generalize T.getLastD [] = t at *
  generalize inD T ((T.length : Int) - 1) = ok at *
  generalize T.length = n at *
  clear h hT
  go_enter Tryz.func86, Tryz.ntmps86
  go_wp2_with fail
  go_quiet (first | (go_at_call 17; exact Calls.quiet_of ((CL _).mono fun _ _ ⟨he, hw⟩ => ⟨he, 0, hw.symm⟩)) | (go_at_call 106; exact Calls.quiet_of ((CA _).mono fun _ _ ⟨he, hw⟩ => ⟨he, 0, hw.symm⟩)))
  go_wp2
  go_ret
  exact ⟨rfl, (Ext.refl W).drewN _⟩
end Go.Proofs.YtcphapdjimeoaaaGreat

namespace Go.Proofs.YtcphapdjimeoaaaGreat
open Go.RowKit Num Wrd Dic

/-- One bucket of the bytes: its texts, or an error. -/
def Dic.bktR (b : List UInt8) (at_ z k : Nat) (was : List UInt8) : List (List UInt8) × Int :=
  if (takeR b at_ 0 (z : Int)).2.2 ≠ 0 then ([], (takeR b at_ 0 (z : Int)).2.2) else partR (takeR b at_ 0 (z : Int)).1 k was
theorem Dic.bkt_short {b : List UInt8} {at_ z k : Nat} {was : List UInt8} (h : b.length - at_ < z) : bktR b at_ z k was = ([], 1) := by
  have : takeR b at_ 0 (z : Int) = ([], at_, 1) := by unfold takeR; rw [if_pos rfl, if_neg (by omega), if_pos (by omega)]
  unfold bktR
  rw [this]
  rfl
theorem Dic.bkt_part {b : List UInt8} {at_ z k : Nat} {was : List UInt8} (h : z ≤ b.length - at_) : bktR b at_ z k was = partR ((b.drop at_).take z) k was := by
  have : takeR b at_ 0 (z : Int) = ((b.drop at_).take z, at_ + z, 0) := by unfold takeR; rw [if_pos rfl, if_neg (by omega), if_neg (by omega), Int.toNat_natCast]
  unfold bktR
  rw [this]
  rfl

/-- Blocks of other kinds than the reader's are as they were. -/
def OffD (W W' : World) : Prop := ∀ (k : Nat) (cs : Array Value) (t : TypeId) (fr : Nat × Nat), W.heap[k]? = some (.cells cs t fr) → t ≠ 72 → t ≠ 70 → t ≠ 9 → W'.heap[k]? = some (.cells cs t fr)
section
variable {W W' W'' : World}
theorem OffD.refl (W : World) : OffD W W := fun _ _ _ _ h _ _ _ => h
theorem OffD.trans (h : OffD W W') (k : OffD W' W'') : OffD W W'' := fun i cs t fr h0 h1 h2 h3 => k i cs t fr (h i cs t fr h0 h1 h2 h3) h1 h2 h3
theorem OffD.ext (hE : Ext W W') : OffD W W' := fun k _ _ _ h _ _ _ => (hE.block k (Array.getElem?_eq_some_iff.1 h).1).trans h
theorem OffD.own {base : Nat} {v : Value} {L : List (List UInt8)} (h : OwnTx W base v L) (hG : W.grownBy W' v.ownBlock) : OffD W W' := fun k cs t fr h0 _ _ h3 => by
  refine (hG.block k (Array.getElem?_eq_some_iff.1 h0).1 fun e => ?_).trans h0
  rcases h.2 with ⟨rfl, _⟩ | ⟨g, cap, cur, rfl, _, hg, _⟩
  · cases e
  · simp only [Value.ownBlock, Option.some.injEq] at e
    subst e
    rw [h0] at hg
    simp only [Option.some.injEq, Obj.cells.injEq] at hg
    exact h3 hg.2.1
theorem OffD.put {g : Nat} {t : TypeId} {cs : Array Value} (h : Whole W g t cs) (ht : t = 72 ∨ t = 70) (hG : W.grownBy W' (some g)) : OffD W W' := fun k cs' t' fr h0 h1 h2 _ => by
  refine (hG.block k (Array.getElem?_eq_some_iff.1 h0).1 fun e => ?_).trans h0
  simp only [Option.some.injEq] at e
  subst e
  unfold Whole at h
  rw [h0] at h
  simp only [Option.some.injEq, Obj.cells.injEq] at h
  rcases ht with rfl | rfl
  · exact h1 h.2.1
  · exact h2 h.2.1
theorem OwnI.off {base : Nat} {v : Value} {L : List Int} (h : OwnI W base v L) (hO : OffD W W') : OwnI W' base v L := by
  refine ⟨h.1, ?_⟩
  rcases h.2 with hn | ⟨x, cap, cur, rfl, hb, hgg, rest⟩
  · exact .inl hn
  · exact .inr ⟨x, cap, cur, rfl, hb, hO x _ _ _ hgg (by decide) (by decide) (by decide), rest⟩
end
theorem RdrD.apart {w W : World} {gr gd c size at_ : Nat} {A : Option Addr} {b : List UInt8} {T F : List (List UInt8)} {vT vF : Value} (h : RdrD w W gr gd A c b size at_ T F vT vF) : gr ≠ gd := by
  intro e
  have h1 := h.rd
  have h2 := h.dc
  rw [← e] at h2
  unfold Whole at h1 h2
  rw [h1] at h2
  simp at h2
/-- A list has grown, and is stored. -/
theorem RdrD.growF {w W W1 W2 : World} {gr gd c size at_ : Nat} {A : Option Addr} {b : List UInt8} {T F F' : List (List UInt8)} {vT vF vF' : Value} (h : RdrD w W gr gd A c b size at_ T F vT vF) (hO : OwnTx W1 w.heap.size vF' F') (hG : W.grownBy W1 vF.ownBlock) (hN : NewOb W vF.ownBlock vF'.ownBlock)
    (hD : Whole W1 gd 70 #[vT, .int .i64 (size : Int), vF]) (hW : Whole W2 gd 70 #[vT, .int .i64 (size : Int), vF']) (hG2 : W1.grownBy W2 (some gd)) : RdrD w W2 gr gd A c b size at_ T F' vT vF' := by
  have h1 := h.rd.ownGrown hG (h.two.2.1.notKind h.rd (by decide))
  have hE1 : Ext w W1 := Below.grown h.ext hG h.ext.le (fun k hk => (h.two.2.1.lt k hk).1)
  exact ⟨h1.grown hG2 h.apart, hW, (h.two.flip.grow hO hG hN).flip.put hD (by decide) hG2, Below.grown hE1 hG2 hE1.le (fun k hk => by cases hk; exact h.ge.2), h.ge, h.fits⟩
theorem RdrD.growT {w W W1 W2 : World} {gr gd c size at_ : Nat} {A : Option Addr} {b : List UInt8} {T F T' : List (List UInt8)} {vT vF vT' : Value} (h : RdrD w W gr gd A c b size at_ T F vT vF) (hO : OwnTx W1 w.heap.size vT' T') (hG : W.grownBy W1 vT.ownBlock) (hN : NewOb W vT.ownBlock vT'.ownBlock)
    (hD : Whole W1 gd 70 #[vT, .int .i64 (size : Int), vF]) (hW : Whole W2 gd 70 #[vT', .int .i64 (size : Int), vF]) (hG2 : W1.grownBy W2 (some gd)) : RdrD w W2 gr gd A c b size at_ T' F vT' vF := by
  have h1 := h.rd.ownGrown hG (h.two.1.notKind h.rd (by decide))
  have hE1 : Ext w W1 := Below.grown h.ext hG h.ext.le (fun k hk => (h.two.1.lt k hk).1)
  exact ⟨h1.grown hG2 h.apart, hW, (h.two.grow hO hG hN).put hD (by decide) hG2, Below.grown hE1 hG2 hE1.le (fun k hk => by cases hk; exact h.ge.2), h.ge, h.fits⟩
theorem Dic.further_len {p a : List UInt8} {q : Nat} (h : (furtherP p a q 0).2.2 = 0) : (furtherP p a q 0).1.length ≤ 25 := by
  unfold furtherP at h ⊢
  dsimp only at h ⊢
  generalize addT p a q 0 = x at *
  by_cases hd : followD a x = true
  · unfold followD at hd
    rw [Bool.and_eq_true, decide_eq_true_eq] at hd
    exact hd.1
  · exfalso
    unfold followE failR at h
    rw [if_neg hd] at h
    split at h
    · exact absurd h (by decide)
    · rename_i h2
      exact h2 h
theorem OwnTx.atBase {w : World} {base g o n c : Nat} {L : List (List UInt8)} (h : OwnTx w base (.slice (some ⟨g, o, none⟩) n c) L) : base ≤ g ∧ o = 0 := by
  rcases h.2 with ⟨h', _⟩ | ⟨g1, c1, cur, h', hb, _⟩
  · simp at h'
  · simp only [Value.slice.injEq, Option.some.injEq, Addr.mk.injEq, and_true] at h'
    obtain ⟨⟨rfl, rfl⟩, _⟩ := h'
    exact ⟨hb, rfl⟩
def sliceLenD : Value → Nat
  | .slice _ n _ => n
  | _ => 0
/-- What bucket tells. -/
def BktTo (w W : World) (gr gd : Nat) (A : Option Addr) (c : Nat) (b : List UInt8) (size at2 : Nat) (T F : List (List UInt8)) (r : List (List UInt8) × Int) (e : Ending) (W' : World) : Prop :=
  (r.2 = 0 → e = .returned (.int .i64 0) ∧ (∃ vT vF, RdrD w W' gr gd A c b size at2 (T ++ r.1) (F ++ [r.1.getD 0 []]) vT vF) ∧ OffD W W') ∧
  (r.2 ≠ 0 → e = .returned (.int .i64 r.2) ∧ Ext w W')
theorem Mod.ownTx {w w' : World} {g : Nat} {ob : Option Nat} (h : Mod w w' g ob) {base : Nat} {v : Value} {L : List (List UInt8)} (hv : OwnTx w base v L) (hg : v.ownBlock ≠ some g) (ho : v.ownBlock = none ∨ v.ownBlock ≠ ob) : OwnTx w' base v L := by
  refine ⟨hv.1, ?_⟩
  rcases hv.2 with hn | ⟨x, cap, cur, rfl, hb, hgg, rest⟩
  · exact .inl hn
  · refine .inr ⟨x, cap, cur, rfl, hb, ?_, rest⟩
    rw [h.block x (Array.getElem?_eq_some_iff.1 hgg).1 (by intro e; subst e; simp [Value.ownBlock] at hg) (by
      intro e
      rcases ho with ho | ho
      · simp [Value.ownBlock] at ho
      · exact ho (by simpa [Value.ownBlock] using e))]
    exact hgg
theorem BkSt.farTo {w w' : World} {gb gc r q base : Nat} {p a : List UInt8} {e : Int} {ob : Option Nat} (h : BkSt w gb gc r p q e a) (hG : w.grownBy w' ob) (ho : ∀ k, ob = some k → base ≤ k) (hb : gb < base ∧ gc < base ∧ r < base) : BkSt w' gb gc r p q e a :=
  ⟨h.whole.ownGrown hG (fun e => by have := ho gb e; omega), h.cur.farTo' hG ho hb.2, h.ne⟩
set_option maxHeartbeats 4000000 in
set_option maxRecDepth 10000 in
theorem dBkt_any {w W : World} {gr gd c size at_ : Nat} {A : Option Addr} {b : List UInt8} {T F : List (List UInt8)} {vT vF : Value} (h : RdrD w W gr gd A c b size at_ T F vT vF) (hB : Bytes w w.heap.size A b.length b) (hc : b.length ≤ c) (hl : b.length ≤ 1000000) (k z : Nat) (hk1 : 1 ≤ k) (hk2 : k ≤ 64) (hz : z ≤ 2000) (hTl : T.length ≤ 1000000) (hFl : F.length ≤ 1000000) :
    Calls Tryz.prog 59 #[.pointer (some ⟨gr, 0, none⟩), .int .i64 (k : Int), .int .i64 (z : Int)] W (BktTo w W gr gd A c b size (at_ + z) T F (bktR b at_ z k (T.getLastD []))) := by
  have CX := dNext_any h hc z
  have hfit := h.fits
  by_cases hs : b.length - at_ < z
  · rw [bkt_short hs]
    obtain ⟨m, hm⟩ : ∃ m, m = min z (b.length - at_) := ⟨_, rfl⟩
    have hmz : (m : Int) < (z : Int) := by omega
    rw [← hm] at CX
    have HX := hide h.ext
    clear hm hs h hB
    go_enter Tryz.func59, Tryz.ntmps59
    go_wp2_with fail
    refine CX.mono ?_
    rintro e W1 ⟨rfl, hE1⟩
    have HE1 := hide (HX.out.trans hE1)
    clear CX hE1
    go_wp2
    go_ret
    exact ⟨fun h => absurd h (by decide), fun _ => ⟨rfl, HE1.out⟩⟩
  have hzl : z ≤ b.length - at_ := by omega
  rw [bkt_part hzl]
  obtain ⟨p, hp⟩ : ∃ p, p = (b.drop at_).take z := ⟨_, rfl⟩
  have hpl : p.length = z := by rw [hp, List.length_take, List.length_drop]; omega
  have hBy := fun W1 (hE : Ext w W1) => next_bytes (n := z) hB hE hc hfit
  rw [show min z (b.length - at_) = z by omega] at CX hBy
  rw [← hp] at hBy ⊢
  have hzz : ¬ (z : Int) < (z : Int) := by omega
  have hzc : z ≤ c - at_ := by omega
  obtain ⟨was, hwe⟩ : ∃ s, s = T.getLastD [] := ⟨_, rfl⟩
  have CLa := fun W1 (hE : Ext W W1) => dLast_any (h.later hE)
  rw [← hwe] at CLa ⊢
  have HH := hide h
  have HBy := hide hBy
  have HPL := hide hpl
  obtain ⟨res, hres⟩ : ∃ r, r = partR p k was := ⟨_, rfl⟩
  rw [← hres]
  have HRes := hide hres
  have hgl := h.rd.lt
  have HA2 := hide (show at_ + z ≤ b.length by omega)
  generalize nextA A c at_ = A1 at *
  clear hp hpl hBy hres h hB hs hwe
  go_enter Tryz.func59, Tryz.ntmps59
  go_wp2_with fail
  refine CX.mono ?_
  rintro e W1 ⟨rfl, hE1⟩
  have CN := pcNew_any A1 z (c - at_) p W1 hzc (by omega) (HBy.out W1 (HH.out.ext.trans hE1))
  have HE1 := hide hE1
  clear CX hE1
  go_wp2_with fail
  refine CN.mono ?_
  rintro e W2 ⟨gc, r, rfl, hgc, hPC, hE2⟩
  have CL2 := CLa W2 (HE1.out.trans hE2)
  have HPC := hide hPC
  have HE2 := hide (HE1.out.trans hE2)
  have HG2 := hide (show W.heap.size ≤ gc from Nat.le_trans HE1.out.le hgc)
  clear CN CLa hPC hE2 hgc
  go_wp2_with fail
  refine CL2.mono ?_
  rintro e W3 ⟨rfl, hE3⟩
  have hP3 := HPC.out.ext hE3
  have hbox := Whole.new W3 140 #[.pointer (some ⟨gc, 0, none⟩), .string ⟨was.toArray⟩]
  have hEb := extNew W3 (.cells #[.pointer (some ⟨gc, 0, none⟩), .string ⟨was.toArray⟩] 140)
  have hlg := hP3.lt
  have hlr := hP3.rlt
  have hBk : BkSt (W3.alloc (.cells #[.pointer (some ⟨gc, 0, none⟩), .string ⟨was.toArray⟩] 140)) W3.heap.size gc r p 0 0 was := ⟨hbox, hP3.ext hEb, by omega⟩
  have HE4 := hide ((HE2.out.trans hE3).trans hEb)
  have HG4 := hide (show W.heap.size ≤ W3.heap.size from (HE2.out.trans hE3).le)
  have CF := dFirst_any hBk
  have HBk := hide hBk
  have hlt4 : W3.heap.size < (W3.alloc (.cells #[.pointer (some ⟨gc, 0, none⟩), .string ⟨was.toArray⟩] 140)).heap.size := by simp
  clear CL2 HPC hP3 hbox hE3 hEb hBk
  go_wp2_with fail
  generalize W3.alloc (.cells #[.pointer (some ⟨gc, 0, none⟩), .string ⟨was.toArray⟩] 140) = W4 at *
  generalize W3.heap.size = gb at *
  refine CF.mono ?_
  rintro e w5 ⟨rfl, hB5⟩
  have HSt := hide (stand_first (p := p) (was := was) hk1)
  have htl := text_len25 (p := p) (q := 0) (e := 0)
  obtain ⟨t0, q0, e0, h0⟩ : ∃ t q e, firstP p was 0 0 = (t, q, e) := ⟨_, _, _, rfl⟩
  have ht0 : t0.length ≤ 25 := by have : t0 = (textR p 0 0 25).1 := by rw [show t0 = (firstP p was 0 0).1 by rw [h0]]; rfl
                                  rw [this]; exact htl
  rw [h0] at hB5 HSt ⊢
  dsimp only at hB5 HSt
  have hEt := extNew w5 (.cells #[.string ⟨t0.toArray⟩] 9)
  have HB5 := hide (hB5.1.ext hEt)
  have HE5 := hide (show Ext W (w5.alloc (.cells #[.string ⟨t0.toArray⟩] 9)) from Ext.trans (show Ext W w5 from Below.trans HE4.out (hB5.2.below (B := W.heap.size) HE4.out.le HG2.out (fun j hj => by cases hj; exact HG4.out))) hEt)
  have hbase : gb < W4.heap.size ∧ gc < W4.heap.size ∧ r < W4.heap.size := ⟨hlt4, HBk.out.cur.lt, HBk.out.cur.rlt⟩
  have hs5 : W4.heap.size ≤ w5.heap.size := hB5.2.size
  have hs5a : W4.heap.size ≤ (w5.alloc (.cells #[.string ⟨t0.toArray⟩] 9)).heap.size := Nat.le_trans hs5 (by simp)
  have HO5 := hide (show OwnTx (w5.alloc (.cells #[.string ⟨t0.toArray⟩] 9)) W4.heap.size (.slice (some ⟨w5.heap.size, 0, none⟩) 1 1) [t0] from World.ownsRow_lit (e := 9) (size := 1) w5 #[.string ⟨t0.toArray⟩] 1 hs5 (by unfold maxLen; omega) (by simp))
  have ht50 : t0.length ≤ 25 := ht0
  clear hB5 hEt CF h0 htl ht0 hlg hlr
  go_wp2
  go_loopw [9] (fun v wr => ∃ (Tc : List (List UInt8)) (a : List UInt8) (q : Nat) (e : Int) (A9 : Option Addr) (c9 : Nat), v = .slice A9 Tc.length c9 ∧ OwnTx wr W4.heap.size (.slice A9 Tc.length c9) Tc ∧ BkSt wr gb gc r p q e a ∧ Stand p k was Tc a q e ∧ (e = 0 → a.length ≤ 25) ∧ Ext W wr ∧ W4.heap.size ≤ wr.heap.size) (fun v _ => k - sliceLenD v)
  case atStart => exact ⟨[t0], t0, q0, e0, _, _, rfl, HO5.out, HB5.out, HSt.out, fun _ => ht50, HE5.out, hs5a⟩
  case round =>
    clear HO5 HB5 HSt HE5 HBk ht50 hs5a
    obtain ⟨Tc, a, q, e, A9, c9, rfl, hO, hBk, hSt, ha, hE, hbs⟩ := hrel
    obtain ⟨n9, hn9⟩ : ∃ n, n = Tc.length := ⟨_, rfl⟩
    rw [← hn9] at hO
    have HN9 := hide hn9
    have HO := hide hO
    have HB := hide hBk
    have HS := hide hSt
    have HE := hide hE
    have CE := pcErr_any hBk.cur
    have cg := hBk.whole.at 0 (u := .pointer (some ⟨gc, 0, none⟩)) rfl
    have hn1 : n9 ≤ k ∧ 1 ≤ n9 := by rw [hn9]; exact ⟨hSt.2.1, hSt.1⟩
    rw [← hn9]
    clear hn9 hO hBk hSt hE
    by_cases hgo : n9 < k ∧ e = 0
    · obtain ⟨hlt, rfl⟩ := hgo
      have hltI : (n9 : Int) < (k : Int) := by omega
      have ha25 := ha rfl
      have CF := dFurther_any HB.out (by omega)
      have HSn := hide (stand_next HS.out (by rw [← HN9.out]; exact hlt))
      have HAL := hide (further_len (p := p) (a := a) (q := q))
      obtain ⟨t, q', e', hf⟩ : ∃ t q' e', furtherP p a q 0 = (t, q', e') := ⟨_, _, _, rfl⟩
      rw [hf] at CF HSn HAL
      dsimp only at CF HSn HAL
      clear hf ha hlt
      go_wp2_with fail
      refine CE.mono ?_
      rintro e2 wx ⟨rfl, rfl⟩
      clear CE
      go_wp2_with fail
      refine CF.mono ?_
      rintro e2 w6 ⟨rfl, hB6⟩
      have hO6 := hB6.2.ownTx HO.out (fun h => by have := (HO.out.lt _ h).1; omega) (.inr (fun h => by have := (HO.out.lt _ h).1; omega))
      have hE6 : Ext W w6 := Below.trans HE.out (hB6.2.below (B := W.heap.size) HE.out.le HG2.out (fun j hj => by cases hj; exact HG4.out))
      have hEt := extNew w6 (.cells #[.string ⟨t.toArray⟩] 9)
      have HO7 := hide (hO6.ext hEt)
      have HB7 := hide (hB6.1.ext hEt)
      have HE7 := hide (hE6.trans hEt)
      have hs7 : W4.heap.size ≤ (w6.alloc (.cells #[.string ⟨t.toArray⟩] 9)).heap.size := Nat.le_trans hbs (Nat.le_trans hB6.2.size (by simp))
      have htn := textsNew w6 [t] #[.string ⟨t.toArray⟩] 9 (0, 0) rfl 1 rfl
      have hTn : Tc.length + 1 ≤ 2000000 := by rw [← HN9.out]; omega
      clear CF hB6 hO6 hE6 hEt
      go_wp2_with (at_builtin; refine wpList_appTxD rfl (.tmp 39) (.tmp 42) rfl rfl HO7.out rfl htn hTn hs7 ?_; intro v8 w8 hO8 hG8 hN8; have HB8 := hide (HB7.out.farTo hG8 (fun j hj => (HO7.out.lt j hj).1) hbase); have HE8 := hide (show Ext W w8 from Below.grown HE7.out hG8 HE7.out.le (fun j hj => by have := (HO7.out.lt j hj).1; have := HE4.out.le; omega)); have hs8 : W4.heap.size ≤ w8.heap.size := Nat.le_trans hs7 hG8.size; obtain ⟨A8, c8, rfl, -, -, -⟩ := hO8.form; have HO8 := hide hO8; clear hO8 hG8 hN8 htn hTn)
      go_roundw
      case rel => exact ⟨Tc ++ [t], t, q', e', A8, c8, by simp, HO8.out, HB8.out, HSn.out, HAL.out, HE8.out, hs8⟩
      case measure => simp [sliceLenD]; have := HN9.out; omega
    · have HEnd := hide (stand_end HS.out (by rw [← HN9.out]; omega))
      have CEnd := pcEnd_any HB.out.cur
      rw [← HRes.out] at HEnd
      obtain ⟨er, her⟩ : ∃ x, x = endR p q e := ⟨_, rfl⟩
      rw [← her] at HEnd CEnd
      clear her
      by_cases hlt : n9 < k
      · have hltI : (n9 : Int) < (k : Int) := by omega
        have heb : (e == 0) = false := by rw [beq_eq_false_iff_ne]; intro h; exact hgo ⟨hlt, h⟩
        clear hgo hlt ha
        go_wp2_with fail
        refine CE.mono ?_
        rintro e2 wx ⟨rfl, rfl⟩
        clear CE
        go_wp2_with fail
        refine CEnd.mono ?_
        rintro e2 w6 ⟨rfl, hP6, hM6⟩
        have hO6 := hM6.ownTx HO.out (fun h => by have := (HO.out.lt _ h).1; omega) (by cases (Value.slice A9 n9 c9).ownBlock <;> simp)
        have hE6 : Ext W w6 := Below.trans HE.out (hM6.below (B := W.heap.size) HE.out.le HG2.out (fun j hj => by cases hj))
        have HO6 := hide hO6
        have HE6 := hide hE6
        clear CEnd hP6 hM6 hO6 hE6
        by_cases her : er = 0
        case neg =>
          have heb : (er != 0) = true := by rw [bne_iff_ne]; exact her
          have HR := hide (And.intro HEnd.out.1 her)
          clear her HEnd
          go_wp2
          go_ret
          exact ⟨fun h => absurd (HR.out.1.symm.trans h) HR.out.2, fun _ => ⟨by rw [HR.out.1]; rfl, HH.out.ext.trans HE6.out⟩⟩
        subst her
        have HR := hide (HEnd.out.2 rfl)
        obtain ⟨bx, ox, rfl, hcx⟩ := HO6.out.textsOf.cellAt (show 0 < n9 by omega) (Ext.refl w6)
        rw [Nat.add_zero] at hcx
        obtain ⟨t0, ht0⟩ : ∃ t, t = Tc.getD 0 [] := ⟨_, rfl⟩
        rw [← ht0] at hcx
        have HT0 := hide ht0
        have hR6 := HH.out.later HE6.out
        obtain ⟨AT, cT, hvT, -, -, -⟩ := hR6.two.1.form
        obtain ⟨AF, cF, hvF, -, -, -⟩ := hR6.two.2.1.form
        obtain ⟨nT, hnT⟩ : ∃ n, n = T.length := ⟨_, rfl⟩
        obtain ⟨nF, hnF⟩ : ∃ n, n = F.length := ⟨_, rfl⟩
        rw [← hnT] at hvT
        rw [← hnF] at hvF
        subst hvT hvF
        obtain ⟨bl, hbl⟩ : ∃ n, n = b.length := ⟨_, rfl⟩
        have HBL := hide hbl
        have hS := And.intro ((hR6.rd).ext (Ext.refl w6).drew) (And.intro (hR6.dc.ext (Ext.refl w6).drew) (show w6.drew.cell? ⟨bx, ox, none⟩ = some (.string ⟨t0.toArray⟩) from hcx))
        rw [← hbl] at hS
        have HR6 := hide hR6
        have HNT := hide hnT
        have HNF := hide hnF
        have hn0 : n9 ≠ 0 := by omega
        have hbx := HO6.out.atBase.1
        have HAp := hide (show Ap (.slice (some ⟨bx, ox, none⟩) n9 c9) (.slice AF nF cF) from fun j hj e => by have h1 := (HO6.out.lt j hj).1; have h2 := (HH.out.two.2.1.lt j e).2; have := HE4.out.le; omega)
        clear ht0 hR6 hnT hnF hbl HEnd
        go_wp2_with fail
        refine wp_region_T (fun W => Whole W gr 72 #[.pointer (some ⟨gd, 0, none⟩), .slice A bl c, .int .i64 (at_ : Int)] ∧ Whole W gd 70 #[.slice AT nT cT, .int .i64 (size : Int), .slice AF nF cF] ∧ W.cell? ⟨bx, ox, none⟩ = some (.string ⟨t0.toArray⟩)) 18 19 #[false, false, false, false, false, false, false, false, false, false, false, false, false, false, false, false, false, false, false] (by kernel_rfl) rfl rfl hS ?_
        intro hS0
        refine wpAnyT_take 0 (some 52) (.pointer (some ⟨gr, 0, none⟩)) #[true, false, false, false, false, false, false, false, false, false, false, false, false, false, false, false, false, false, false] rfl rfl rfl (by kernel_rfl) (fun _ _ _ h => h) hS0 (by rfl) (fun W hX => by have s0 := hX.1.at 0 (u := .pointer (some ⟨gd, 0, none⟩)) rfl; have s2 := hX.1.at 2 (u := .int .i64 (at_ : Int)) rfl; have d0 := hX.2.1.at 0 (u := .slice AT nT cT) rfl; have d2 := hX.2.1.at 2 (u := .slice AF nF cF) rfl; have e0 := hX.2.2; go_simp) ?_
        simp only [Act.put, List.setIfInBounds_toArray, List.set_cons_zero, List.set_cons_succ]
        refine wpAnyT_take 1 (some 53) (.pointer (some ⟨gr, 0, none⟩)) #[true, true, false, false, false, false, false, false, false, false, false, false, false, false, false, false, false, false, false] rfl rfl rfl (by kernel_rfl) (fun _ _ _ h => h) hS0 (by rfl) (fun W hX => by have s0 := hX.1.at 0 (u := .pointer (some ⟨gd, 0, none⟩)) rfl; have s2 := hX.1.at 2 (u := .int .i64 (at_ : Int)) rfl; have d0 := hX.2.1.at 0 (u := .slice AT nT cT) rfl; have d2 := hX.2.1.at 2 (u := .slice AF nF cF) rfl; have e0 := hX.2.2; go_simp) ?_
        simp only [Act.put, List.setIfInBounds_toArray, List.set_cons_zero, List.set_cons_succ]
        refine wpAnyT_take 2 (some 54) (.pointer (some ⟨gr, 0, none⟩)) #[true, true, true, false, false, false, false, false, false, false, false, false, false, false, false, false, false, false, false] rfl rfl rfl (by kernel_rfl) (fun _ _ _ h => h) hS0 (by rfl) (fun W hX => by have s0 := hX.1.at 0 (u := .pointer (some ⟨gd, 0, none⟩)) rfl; have s2 := hX.1.at 2 (u := .int .i64 (at_ : Int)) rfl; have d0 := hX.2.1.at 0 (u := .slice AT nT cT) rfl; have d2 := hX.2.1.at 2 (u := .slice AF nF cF) rfl; have e0 := hX.2.2; go_simp) ?_
        simp only [Act.put, List.setIfInBounds_toArray, List.set_cons_zero, List.set_cons_succ]
        refine wpAnyT_take 3 (some 55) (.pointer (some ⟨gd, 0, none⟩)) #[true, true, true, true, false, false, false, false, false, false, false, false, false, false, false, false, false, false, false] rfl rfl rfl (by kernel_rfl) (fun _ _ _ h => h) hS0 (by rfl) (fun W hX => by have s0 := hX.1.at 0 (u := .pointer (some ⟨gd, 0, none⟩)) rfl; have s2 := hX.1.at 2 (u := .int .i64 (at_ : Int)) rfl; have d0 := hX.2.1.at 0 (u := .slice AT nT cT) rfl; have d2 := hX.2.1.at 2 (u := .slice AF nF cF) rfl; have e0 := hX.2.2; go_simp) ?_
        simp only [Act.put, List.setIfInBounds_toArray, List.set_cons_zero, List.set_cons_succ]
        refine wpAnyT_take 4 (some 56) (.pointer (some ⟨gr, 0, none⟩)) #[true, true, true, true, true, false, false, false, false, false, false, false, false, false, false, false, false, false, false] rfl rfl rfl (by kernel_rfl) (fun _ _ _ h => h) hS0 (by rfl) (fun W hX => by have s0 := hX.1.at 0 (u := .pointer (some ⟨gd, 0, none⟩)) rfl; have s2 := hX.1.at 2 (u := .int .i64 (at_ : Int)) rfl; have d0 := hX.2.1.at 0 (u := .slice AT nT cT) rfl; have d2 := hX.2.1.at 2 (u := .slice AF nF cF) rfl; have e0 := hX.2.2; go_simp) ?_
        simp only [Act.put, List.setIfInBounds_toArray, List.set_cons_zero, List.set_cons_succ]
        refine wpAnyT_take 5 (some 57) (.pointer (some ⟨gr, 0, none⟩)) #[true, true, true, true, true, true, false, false, false, false, false, false, false, false, false, false, false, false, false] rfl rfl rfl (by kernel_rfl) (fun _ _ _ h => h) hS0 (by rfl) (fun W hX => by have s0 := hX.1.at 0 (u := .pointer (some ⟨gd, 0, none⟩)) rfl; have s2 := hX.1.at 2 (u := .int .i64 (at_ : Int)) rfl; have d0 := hX.2.1.at 0 (u := .slice AT nT cT) rfl; have d2 := hX.2.1.at 2 (u := .slice AF nF cF) rfl; have e0 := hX.2.2; go_simp) ?_
        simp only [Act.put, List.setIfInBounds_toArray, List.set_cons_zero, List.set_cons_succ]
        refine wpAnyT_take 6 (some 58) (.pointer (some ⟨gr, 0, none⟩)) #[true, true, true, true, true, true, true, false, false, false, false, false, false, false, false, false, false, false, false] rfl rfl rfl (by kernel_rfl) (fun _ _ _ h => h) hS0 (by rfl) (fun W hX => by have s0 := hX.1.at 0 (u := .pointer (some ⟨gd, 0, none⟩)) rfl; have s2 := hX.1.at 2 (u := .int .i64 (at_ : Int)) rfl; have d0 := hX.2.1.at 0 (u := .slice AT nT cT) rfl; have d2 := hX.2.1.at 2 (u := .slice AF nF cF) rfl; have e0 := hX.2.2; go_simp) ?_
        simp only [Act.put, List.setIfInBounds_toArray, List.set_cons_zero, List.set_cons_succ]
        refine wpAnyT_take 7 (some 59) (.pointer (some ⟨gd, 0, none⟩)) #[true, true, true, true, true, true, true, true, false, false, false, false, false, false, false, false, false, false, false] rfl rfl rfl (by kernel_rfl) (fun _ _ _ h => h) hS0 (by rfl) (fun W hX => by have s0 := hX.1.at 0 (u := .pointer (some ⟨gd, 0, none⟩)) rfl; have s2 := hX.1.at 2 (u := .int .i64 (at_ : Int)) rfl; have d0 := hX.2.1.at 0 (u := .slice AT nT cT) rfl; have d2 := hX.2.1.at 2 (u := .slice AF nF cF) rfl; have e0 := hX.2.2; go_simp) ?_
        simp only [Act.put, List.setIfInBounds_toArray, List.set_cons_zero, List.set_cons_succ]
        refine wpAnyT_take 8 (some 60) (.pointer (some ⟨gd, 0, none⟩)) #[true, true, true, true, true, true, true, true, true, false, false, false, false, false, false, false, false, false, false] rfl rfl rfl (by kernel_rfl) (fun _ _ _ h => h) hS0 (by rfl) (fun W hX => by have s0 := hX.1.at 0 (u := .pointer (some ⟨gd, 0, none⟩)) rfl; have s2 := hX.1.at 2 (u := .int .i64 (at_ : Int)) rfl; have d0 := hX.2.1.at 0 (u := .slice AT nT cT) rfl; have d2 := hX.2.1.at 2 (u := .slice AF nF cF) rfl; have e0 := hX.2.2; go_simp) ?_
        simp only [Act.put, List.setIfInBounds_toArray, List.set_cons_zero, List.set_cons_succ]
        refine wpAnyT_take 9 (some 61) (.pointer (some ⟨gd, 2, none⟩)) #[true, true, true, true, true, true, true, true, true, true, false, false, false, false, false, false, false, false, false] rfl rfl rfl (by kernel_rfl) (fun _ _ _ h => h) hS0 (by rfl) (fun W hX => by have s0 := hX.1.at 0 (u := .pointer (some ⟨gd, 0, none⟩)) rfl; have s2 := hX.1.at 2 (u := .int .i64 (at_ : Int)) rfl; have d0 := hX.2.1.at 0 (u := .slice AT nT cT) rfl; have d2 := hX.2.1.at 2 (u := .slice AF nF cF) rfl; have e0 := hX.2.2; go_simp) ?_
        simp only [Act.put, List.setIfInBounds_toArray, List.set_cons_zero, List.set_cons_succ]
        refine wpAnyT_take 10 (some 62) (.slice AF nF cF) #[true, true, true, true, true, true, true, true, true, true, true, false, false, false, false, false, false, false, false] rfl rfl rfl (by kernel_rfl) (fun _ _ _ h => h) hS0 (by rfl) (fun W hX => by have s0 := hX.1.at 0 (u := .pointer (some ⟨gd, 0, none⟩)) rfl; have s2 := hX.1.at 2 (u := .int .i64 (at_ : Int)) rfl; have d0 := hX.2.1.at 0 (u := .slice AT nT cT) rfl; have d2 := hX.2.1.at 2 (u := .slice AF nF cF) rfl; have e0 := hX.2.2; go_simp) ?_
        simp only [Act.put, List.setIfInBounds_toArray, List.set_cons_zero, List.set_cons_succ]
        refine wpAnyT_take 11 (some 63) (.slice (some ⟨bx, ox, none⟩) n9 c9) #[true, true, true, true, true, true, true, true, true, true, true, true, false, false, false, false, false, false, false] rfl rfl rfl (by kernel_rfl) (fun _ _ _ h => h) hS0 (by rfl) (fun W hX => by have s0 := hX.1.at 0 (u := .pointer (some ⟨gd, 0, none⟩)) rfl; have s2 := hX.1.at 2 (u := .int .i64 (at_ : Int)) rfl; have d0 := hX.2.1.at 0 (u := .slice AT nT cT) rfl; have d2 := hX.2.1.at 2 (u := .slice AF nF cF) rfl; have e0 := hX.2.2; go_simp) ?_
        simp only [Act.put, List.setIfInBounds_toArray, List.set_cons_zero, List.set_cons_succ]
        refine wpAnyT_take 12 (some 64) (.pointer (some ⟨bx, ox, none⟩)) #[true, true, true, true, true, true, true, true, true, true, true, true, true, false, false, false, false, false, false] rfl rfl rfl (by kernel_rfl) (fun _ _ _ h => h) hS0 (by rfl) (fun W hX => by have s0 := hX.1.at 0 (u := .pointer (some ⟨gd, 0, none⟩)) rfl; have s2 := hX.1.at 2 (u := .int .i64 (at_ : Int)) rfl; have d0 := hX.2.1.at 0 (u := .slice AT nT cT) rfl; have d2 := hX.2.1.at 2 (u := .slice AF nF cF) rfl; have e0 := hX.2.2; go_simp) ?_
        simp only [Act.put, List.setIfInBounds_toArray, List.set_cons_zero, List.set_cons_succ]
        refine wpAnyT_take 13 (some 65) (.string ⟨t0.toArray⟩) #[true, true, true, true, true, true, true, true, true, true, true, true, true, true, false, false, false, false, false] rfl rfl rfl (by kernel_rfl) (fun _ _ _ h => h) hS0 (by rfl) (fun W hX => by have s0 := hX.1.at 0 (u := .pointer (some ⟨gd, 0, none⟩)) rfl; have s2 := hX.1.at 2 (u := .int .i64 (at_ : Int)) rfl; have d0 := hX.2.1.at 0 (u := .slice AT nT cT) rfl; have d2 := hX.2.1.at 2 (u := .slice AF nF cF) rfl; have e0 := hX.2.2; go_simp) ?_
        simp only [Act.put, List.setIfInBounds_toArray, List.set_cons_zero, List.set_cons_succ]
        refine wpAnyT_only 14 #[true, true, true, true, true, true, true, true, true, true, true, true, true, true, true, false, false, false, false] (by kernel_rfl) rfl rfl (by rfl) (fun K0 hK0 => ?_)
        go_simp
        have hEb : Ext w6 (w6.alloc (.cells #[.string ⟨t0.toArray⟩] 9)).drew := (extNew w6 _).drew
        have hR7 := HR6.out.later hEb
        have HO7 := hide (HO6.out.ext hEb)
        have htn : TextsAt (w6.alloc (.cells #[.string ⟨t0.toArray⟩] 9)).drew ((w6.alloc (.cells #[.string ⟨t0.toArray⟩] 9)).drew).heap.size (some ⟨w6.heap.size, 0, none⟩) 1 [t0] := (textsNew w6 [t0] #[.string ⟨t0.toArray⟩] 9 (0, 0) rfl 1 rfl).later (Ext.refl _).drew
        have hOff7 := (OffD.ext HE6.out).trans (OffD.ext hEb)
        have hE7 := HE6.out.trans hEb
        have hS1 := And.intro hR7.rd (And.intro hR7.dc ((hEb.cell (World.block_lt_of_cell? _ _ hcx)).trans hcx))
        rw [← HBL.out] at hS1
        clear hEb hcx
        generalize (w6.alloc (.cells #[.string ⟨t0.toArray⟩] 9)).drew = w7 at *
        generalize w6.heap.size = b66 at *
        refine hK0 _ _ (fun _ => hS1) ?_
        clear hK0 K0
        refine wpAnyT_only 15 #[true, true, true, true, true, true, true, true, true, true, true, true, true, true, true, true, false, false, false] (by kernel_rfl) rfl rfl (by rfl) (fun K1 hK1 => ?_)
        refine wpOper_appTxD (v := .slice AF nF cF) (.tmp 62) (.tmp 66) rfl rfl hR7.two.2.1 rfl htn (by omega) hR7.ext.le ?_
        intro v8 w8 hO8 hG8 hN8
        have hx8 := World.cell?_of_block (a := ⟨bx, ox, none⟩) (hG8.block bx (World.block_lt_of_cell? _ _ hS1.2.2) (fun e => by have h2 := (HH.out.two.2.1.lt bx e.symm).2; have := HE4.out.le; have := hbx; omega))
        have hS2 := And.intro (hS1.1.ownGrown hG8 (hR7.two.2.1.notKind hS1.1 (by decide))) (And.intro (hS1.2.1.ownGrown hG8 (hR7.two.2.1.notKind hS1.2.1 (by decide))) (hx8.trans hS1.2.2))
        obtain ⟨AF2, cF2, hv8, -, -, -⟩ := hO8.form
        obtain ⟨nF2, hnF2⟩ : ∃ n, n = (F ++ [t0]).length := ⟨_, rfl⟩
        rw [← hnF2] at hv8
        subst hv8
        change K1 (Act.put _ (some 67) _) _
        refine hK1 _ _ (fun _ => hS2) ?_
        clear hK1 K1
        simp only [Act.put, List.setIfInBounds_toArray, List.set_cons_zero, List.set_cons_succ]
        refine wpAnyT_take 16 (some 68) (.pointer (some ⟨gd, 0, none⟩)) #[true, true, true, true, true, true, true, true, true, true, true, true, true, true, true, true, true, false, false] rfl rfl rfl (by kernel_rfl) (fun _ _ _ h => h) hS2 (by rfl) (fun W hX => by have s0 := hX.1.at 0 (u := .pointer (some ⟨gd, 0, none⟩)) rfl; have s2 := hX.1.at 2 (u := .int .i64 (at_ : Int)) rfl; have d0 := hX.2.1.at 0 (u := .slice AT nT cT) rfl; have d2 := hX.2.1.at 2 (u := .slice AF nF cF) rfl; have e0 := hX.2.2; go_simp) ?_
        simp only [Act.put, List.setIfInBounds_toArray, List.set_cons_zero, List.set_cons_succ]
        refine wpAnyT_take 17 (some 69) (.pointer (some ⟨gd, 2, none⟩)) #[true, true, true, true, true, true, true, true, true, true, true, true, true, true, true, true, true, true, false] rfl rfl rfl (by kernel_rfl) (fun _ _ _ h => h) hS2 (by rfl) (fun W hX => by have s0 := hX.1.at 0 (u := .pointer (some ⟨gd, 0, none⟩)) rfl; have s2 := hX.1.at 2 (u := .int .i64 (at_ : Int)) rfl; have d0 := hX.2.1.at 0 (u := .slice AT nT cT) rfl; have d2 := hX.2.1.at 2 (u := .slice AF nF cF) rfl; have e0 := hX.2.2; go_simp) ?_
        simp only [Act.put, List.setIfInBounds_toArray, List.set_cons_zero, List.set_cons_succ]
        refine wpAnyT_only 18 #[true, true, true, true, true, true, true, true, true, true, true, true, true, true, true, true, true, true, true] (by kernel_rfl) rfl rfl (by rfl) (fun K2 hK2 => ?_)
        refine wpOper_putC 68 (.tmp 69) (.tmp 67) rfl #[.slice AT nT cT, .int .i64 (size : Int), .slice AF2 nF2 cF2] rfl rfl hS2.2.1 (by simp) (by kernel_rfl) rfl rfl rfl ?_
        intro w9 hW9 hG9
        refine hK2 _ _ (fun h => absurd h (by decide)) (wpAnyT_done (by kernel_rfl) ?_ _)
        clear hK2 K2
        simp only [Act.put]
        have hR9 := hR7.growF hO8 hG8 hN8 hS2.2.1 hW9 hG9
        have hO9 := (HO7.out.grown hG8 HAp.out).put hS2.2.1 (by decide) hG9
        have hOff9 := (hOff7.trans (OffD.own hR7.two.2.1 hG8)).trans (OffD.put hS2.2.1 (.inr rfl) hG9)
        have HOff9 := hide hOff9
        have HR9 := hide hR9
        have HO9 := hide hO9
        have hrd9 := hR9.rd
        rw [← HBL.out] at hrd9
        have hSb := And.intro (hrd9.ext (Ext.refl w9).drew) (hR9.dc.ext (Ext.refl w9).drew)
        clear hR9 hO9 hOff9 hR7 hO8 hG8 hN8 hS2 hW9 hG9 hS0 hS1 hS hOff7 hE7 htn HO7 hx8 hnF2 hrd9 hbx HAp
        go_wp2_with fail
        refine wp_region_T (fun W => Whole W gr 72 #[.pointer (some ⟨gd, 0, none⟩), .slice A bl c, .int .i64 (at_ : Int)] ∧ Whole W gd 70 #[.slice AT nT cT, .int .i64 (size : Int), .slice AF2 nF2 cF2]) 15 16 #[false, false, false, false, false, false, false, false, false, false, false, false, false, false, false, false] (by kernel_rfl) rfl rfl hSb ?_
        intro hS0
        refine wpAnyT_take 0 (some 70) (.pointer (some ⟨gr, 0, none⟩)) #[true, false, false, false, false, false, false, false, false, false, false, false, false, false, false, false] rfl rfl rfl (by kernel_rfl) (fun _ _ _ h => h) hS0 (by rfl) (fun W hX => by have s0 := hX.1.at 0 (u := .pointer (some ⟨gd, 0, none⟩)) rfl; have s2 := hX.1.at 2 (u := .int .i64 (at_ : Int)) rfl; have d0 := hX.2.at 0 (u := .slice AT nT cT) rfl; have d2 := hX.2.at 2 (u := .slice AF2 nF2 cF2) rfl; go_simp) ?_
        simp only [Act.put, List.setIfInBounds_toArray, List.set_cons_zero, List.set_cons_succ]
        refine wpAnyT_take 1 (some 71) (.pointer (some ⟨gr, 0, none⟩)) #[true, true, false, false, false, false, false, false, false, false, false, false, false, false, false, false] rfl rfl rfl (by kernel_rfl) (fun _ _ _ h => h) hS0 (by rfl) (fun W hX => by have s0 := hX.1.at 0 (u := .pointer (some ⟨gd, 0, none⟩)) rfl; have s2 := hX.1.at 2 (u := .int .i64 (at_ : Int)) rfl; have d0 := hX.2.at 0 (u := .slice AT nT cT) rfl; have d2 := hX.2.at 2 (u := .slice AF2 nF2 cF2) rfl; go_simp) ?_
        simp only [Act.put, List.setIfInBounds_toArray, List.set_cons_zero, List.set_cons_succ]
        refine wpAnyT_take 2 (some 72) (.pointer (some ⟨gr, 0, none⟩)) #[true, true, true, false, false, false, false, false, false, false, false, false, false, false, false, false] rfl rfl rfl (by kernel_rfl) (fun _ _ _ h => h) hS0 (by rfl) (fun W hX => by have s0 := hX.1.at 0 (u := .pointer (some ⟨gd, 0, none⟩)) rfl; have s2 := hX.1.at 2 (u := .int .i64 (at_ : Int)) rfl; have d0 := hX.2.at 0 (u := .slice AT nT cT) rfl; have d2 := hX.2.at 2 (u := .slice AF2 nF2 cF2) rfl; go_simp) ?_
        simp only [Act.put, List.setIfInBounds_toArray, List.set_cons_zero, List.set_cons_succ]
        refine wpAnyT_take 3 (some 73) (.pointer (some ⟨gd, 0, none⟩)) #[true, true, true, true, false, false, false, false, false, false, false, false, false, false, false, false] rfl rfl rfl (by kernel_rfl) (fun _ _ _ h => h) hS0 (by rfl) (fun W hX => by have s0 := hX.1.at 0 (u := .pointer (some ⟨gd, 0, none⟩)) rfl; have s2 := hX.1.at 2 (u := .int .i64 (at_ : Int)) rfl; have d0 := hX.2.at 0 (u := .slice AT nT cT) rfl; have d2 := hX.2.at 2 (u := .slice AF2 nF2 cF2) rfl; go_simp) ?_
        simp only [Act.put, List.setIfInBounds_toArray, List.set_cons_zero, List.set_cons_succ]
        refine wpAnyT_take 4 (some 74) (.pointer (some ⟨gr, 0, none⟩)) #[true, true, true, true, true, false, false, false, false, false, false, false, false, false, false, false] rfl rfl rfl (by kernel_rfl) (fun _ _ _ h => h) hS0 (by rfl) (fun W hX => by have s0 := hX.1.at 0 (u := .pointer (some ⟨gd, 0, none⟩)) rfl; have s2 := hX.1.at 2 (u := .int .i64 (at_ : Int)) rfl; have d0 := hX.2.at 0 (u := .slice AT nT cT) rfl; have d2 := hX.2.at 2 (u := .slice AF2 nF2 cF2) rfl; go_simp) ?_
        simp only [Act.put, List.setIfInBounds_toArray, List.set_cons_zero, List.set_cons_succ]
        refine wpAnyT_take 5 (some 75) (.pointer (some ⟨gr, 0, none⟩)) #[true, true, true, true, true, true, false, false, false, false, false, false, false, false, false, false] rfl rfl rfl (by kernel_rfl) (fun _ _ _ h => h) hS0 (by rfl) (fun W hX => by have s0 := hX.1.at 0 (u := .pointer (some ⟨gd, 0, none⟩)) rfl; have s2 := hX.1.at 2 (u := .int .i64 (at_ : Int)) rfl; have d0 := hX.2.at 0 (u := .slice AT nT cT) rfl; have d2 := hX.2.at 2 (u := .slice AF2 nF2 cF2) rfl; go_simp) ?_
        simp only [Act.put, List.setIfInBounds_toArray, List.set_cons_zero, List.set_cons_succ]
        refine wpAnyT_take 6 (some 76) (.pointer (some ⟨gr, 0, none⟩)) #[true, true, true, true, true, true, true, false, false, false, false, false, false, false, false, false] rfl rfl rfl (by kernel_rfl) (fun _ _ _ h => h) hS0 (by rfl) (fun W hX => by have s0 := hX.1.at 0 (u := .pointer (some ⟨gd, 0, none⟩)) rfl; have s2 := hX.1.at 2 (u := .int .i64 (at_ : Int)) rfl; have d0 := hX.2.at 0 (u := .slice AT nT cT) rfl; have d2 := hX.2.at 2 (u := .slice AF2 nF2 cF2) rfl; go_simp) ?_
        simp only [Act.put, List.setIfInBounds_toArray, List.set_cons_zero, List.set_cons_succ]
        refine wpAnyT_take 7 (some 77) (.pointer (some ⟨gd, 0, none⟩)) #[true, true, true, true, true, true, true, true, false, false, false, false, false, false, false, false] rfl rfl rfl (by kernel_rfl) (fun _ _ _ h => h) hS0 (by rfl) (fun W hX => by have s0 := hX.1.at 0 (u := .pointer (some ⟨gd, 0, none⟩)) rfl; have s2 := hX.1.at 2 (u := .int .i64 (at_ : Int)) rfl; have d0 := hX.2.at 0 (u := .slice AT nT cT) rfl; have d2 := hX.2.at 2 (u := .slice AF2 nF2 cF2) rfl; go_simp) ?_
        simp only [Act.put, List.setIfInBounds_toArray, List.set_cons_zero, List.set_cons_succ]
        refine wpAnyT_take 8 (some 78) (.pointer (some ⟨gd, 0, none⟩)) #[true, true, true, true, true, true, true, true, true, false, false, false, false, false, false, false] rfl rfl rfl (by kernel_rfl) (fun _ _ _ h => h) hS0 (by rfl) (fun W hX => by have s0 := hX.1.at 0 (u := .pointer (some ⟨gd, 0, none⟩)) rfl; have s2 := hX.1.at 2 (u := .int .i64 (at_ : Int)) rfl; have d0 := hX.2.at 0 (u := .slice AT nT cT) rfl; have d2 := hX.2.at 2 (u := .slice AF2 nF2 cF2) rfl; go_simp) ?_
        simp only [Act.put, List.setIfInBounds_toArray, List.set_cons_zero, List.set_cons_succ]
        refine wpAnyT_take 9 (some 79) (.pointer (some ⟨gd, 0, none⟩)) #[true, true, true, true, true, true, true, true, true, true, false, false, false, false, false, false] rfl rfl rfl (by kernel_rfl) (fun _ _ _ h => h) hS0 (by rfl) (fun W hX => by have s0 := hX.1.at 0 (u := .pointer (some ⟨gd, 0, none⟩)) rfl; have s2 := hX.1.at 2 (u := .int .i64 (at_ : Int)) rfl; have d0 := hX.2.at 0 (u := .slice AT nT cT) rfl; have d2 := hX.2.at 2 (u := .slice AF2 nF2 cF2) rfl; go_simp) ?_
        simp only [Act.put, List.setIfInBounds_toArray, List.set_cons_zero, List.set_cons_succ]
        refine wpAnyT_take 10 (some 80) (.slice AT nT cT) #[true, true, true, true, true, true, true, true, true, true, true, false, false, false, false, false] rfl rfl rfl (by kernel_rfl) (fun _ _ _ h => h) hS0 (by rfl) (fun W hX => by have s0 := hX.1.at 0 (u := .pointer (some ⟨gd, 0, none⟩)) rfl; have s2 := hX.1.at 2 (u := .int .i64 (at_ : Int)) rfl; have d0 := hX.2.at 0 (u := .slice AT nT cT) rfl; have d2 := hX.2.at 2 (u := .slice AF2 nF2 cF2) rfl; go_simp) ?_
        simp only [Act.put, List.setIfInBounds_toArray, List.set_cons_zero, List.set_cons_succ]
        refine wpAnyT_take 11 (some 81) (.slice (some ⟨bx, ox, none⟩) n9 c9) #[true, true, true, true, true, true, true, true, true, true, true, true, false, false, false, false] rfl rfl rfl (by kernel_rfl) (fun _ _ _ h => h) hS0 (by rfl) (fun W hX => by have s0 := hX.1.at 0 (u := .pointer (some ⟨gd, 0, none⟩)) rfl; have s2 := hX.1.at 2 (u := .int .i64 (at_ : Int)) rfl; have d0 := hX.2.at 0 (u := .slice AT nT cT) rfl; have d2 := hX.2.at 2 (u := .slice AF2 nF2 cF2) rfl; go_simp) ?_
        simp only [Act.put, List.setIfInBounds_toArray, List.set_cons_zero, List.set_cons_succ]
        refine wpAnyT_only 12 #[true, true, true, true, true, true, true, true, true, true, true, true, true, false, false, false] (by kernel_rfl) rfl rfl (by rfl) (fun K0 hK0 => ?_)
        have hR9d := HR9.out.later (Ext.refl w9).drew
        refine wpOper_appTxD (v := .slice AT nT cT) (.tmp 80) (.tmp 81) rfl rfl hR9d.two.1 rfl (HO9.out.ext (Ext.refl w9).drew).textsOf (by omega) hR9d.ext.le ?_
        intro v10 w10 hO10 hG10 hN10
        have hS2 := And.intro (hS0.1.ownGrown hG10 (hR9d.two.1.notKind hS0.1 (by decide))) (hS0.2.ownGrown hG10 (hR9d.two.1.notKind hS0.2 (by decide)))
        obtain ⟨AT2, cT2, hv10, -, -, -⟩ := hO10.form
        obtain ⟨nT2, hnT2⟩ : ∃ n, n = (T ++ Tc).length := ⟨_, rfl⟩
        rw [← hnT2] at hv10
        subst hv10
        change K0 (Act.put _ (some 82) _) _
        refine hK0 _ _ (fun _ => hS2) ?_
        clear hK0 K0
        simp only [Act.put, List.setIfInBounds_toArray, List.set_cons_zero, List.set_cons_succ]
        refine wpAnyT_take 13 (some 83) (.pointer (some ⟨gd, 0, none⟩)) #[true, true, true, true, true, true, true, true, true, true, true, true, true, true, false, false] rfl rfl rfl (by kernel_rfl) (fun _ _ _ h => h) hS2 (by rfl) (fun W hX => by have s0 := hX.1.at 0 (u := .pointer (some ⟨gd, 0, none⟩)) rfl; have s2 := hX.1.at 2 (u := .int .i64 (at_ : Int)) rfl; have d0 := hX.2.at 0 (u := .slice AT nT cT) rfl; have d2 := hX.2.at 2 (u := .slice AF2 nF2 cF2) rfl; go_simp) ?_
        simp only [Act.put, List.setIfInBounds_toArray, List.set_cons_zero, List.set_cons_succ]
        refine wpAnyT_take 14 (some 84) (.pointer (some ⟨gd, 0, none⟩)) #[true, true, true, true, true, true, true, true, true, true, true, true, true, true, true, false] rfl rfl rfl (by kernel_rfl) (fun _ _ _ h => h) hS2 (by rfl) (fun W hX => by have s0 := hX.1.at 0 (u := .pointer (some ⟨gd, 0, none⟩)) rfl; have s2 := hX.1.at 2 (u := .int .i64 (at_ : Int)) rfl; have d0 := hX.2.at 0 (u := .slice AT nT cT) rfl; have d2 := hX.2.at 2 (u := .slice AF2 nF2 cF2) rfl; go_simp) ?_
        simp only [Act.put, List.setIfInBounds_toArray, List.set_cons_zero, List.set_cons_succ]
        refine wpAnyT_only 15 #[true, true, true, true, true, true, true, true, true, true, true, true, true, true, true, true] (by kernel_rfl) rfl rfl (by rfl) (fun K1 hK1 => ?_)
        refine wpOper_putC 68 (.tmp 84) (.tmp 82) rfl #[.slice AT2 nT2 cT2, .int .i64 (size : Int), .slice AF2 nF2 cF2] rfl rfl hS2.2 (by simp) (by kernel_rfl) rfl rfl rfl ?_
        intro w11 hW11 hG11
        refine hK1 _ _ (fun h => absurd h (by decide)) (wpAnyT_done (by kernel_rfl) ?_ _)
        clear hK1 K1
        simp only [Act.put]
        have hR11 := hR9d.growT hO10 hG10 hN10 hS2.2 hW11 hG11
        have HOff11 := hide (((HOff9.out.trans (OffD.ext (Ext.refl w9).drew)).trans (OffD.own hR9d.two.1 hG10)).trans (OffD.put hS2.2 (.inr rfl) hG11))
        have HR11 := hide hR11
        have g2 := hR11.rd.at 2 (u := .int .i64 (at_ : Int)) rfl
        have f2 := hR11.rd.frozen 2
        have hsum : (at_ : Int) + (z : Int) = ((at_ + z : Nat) : Int) := by omega
        have hat : ((at_ + z : Nat) : Int) ≤ 1000000 := by have := HA2.out; omega
        have hwa : IntKind.i64.wrap ((at_ + z : Nat) : Int) = ((at_ + z : Nat) : Int) := by rw [IntKind.wrap_i64]; omega
        obtain ⟨at2, ha2⟩ : ∃ n, n = at_ + z := ⟨_, rfl⟩
        rw [← ha2] at hsum hat hwa
        have HA := hide ha2
        clear hR11 hR9d hO10 hG10 hN10 hS2 hW11 hG11 hS0 hSb HR9 HO9 HOff9 hnT2 ha2
        go_wp2
        go_ret
        have hG12 := grown_setCell w11 gr 2 (.int .i64 (at2 : Int))
        have hW12 := HR11.out.rd.set 2 (.int .i64 (at2 : Int))
        rw [HR.out]
        refine ⟨fun _ => ⟨rfl, ⟨.slice AT2 nT2 cT2, .slice AF2 nF2 cF2, ?_⟩, HOff11.out.trans (OffD.put HR11.out.rd (.inl rfl) hG12)⟩, fun h => absurd rfl h⟩
        rw [← HT0.out]
        exact HR11.out.move (q := at_ + z) HA2.out (by rw [← HA.out]; exact hW12) hG12
      · have hltI : ¬ (n9 : Int) < (k : Int) := by omega
        clear hgo hlt ha CE
        go_wp2_with fail
        refine CEnd.mono ?_
        rintro e2 w6 ⟨rfl, hP6, hM6⟩
        have hO6 := hM6.ownTx HO.out (fun h => by have := (HO.out.lt _ h).1; omega) (by cases (Value.slice A9 n9 c9).ownBlock <;> simp)
        have hE6 : Ext W w6 := Below.trans HE.out (hM6.below (B := W.heap.size) HE.out.le HG2.out (fun j hj => by cases hj))
        have HO6 := hide hO6
        have HE6 := hide hE6
        clear CEnd hP6 hM6 hO6 hE6
        by_cases her : er = 0
        case neg =>
          have heb : (er != 0) = true := by rw [bne_iff_ne]; exact her
          have HR := hide (And.intro HEnd.out.1 her)
          clear her HEnd
          go_wp2
          go_ret
          exact ⟨fun h => absurd (HR.out.1.symm.trans h) HR.out.2, fun _ => ⟨by rw [HR.out.1]; rfl, HH.out.ext.trans HE6.out⟩⟩
        subst her
        have HR := hide (HEnd.out.2 rfl)
        obtain ⟨bx, ox, rfl, hcx⟩ := HO6.out.textsOf.cellAt (show 0 < n9 by omega) (Ext.refl w6)
        rw [Nat.add_zero] at hcx
        obtain ⟨t0, ht0⟩ : ∃ t, t = Tc.getD 0 [] := ⟨_, rfl⟩
        rw [← ht0] at hcx
        have HT0 := hide ht0
        have hR6 := HH.out.later HE6.out
        obtain ⟨AT, cT, hvT, -, -, -⟩ := hR6.two.1.form
        obtain ⟨AF, cF, hvF, -, -, -⟩ := hR6.two.2.1.form
        obtain ⟨nT, hnT⟩ : ∃ n, n = T.length := ⟨_, rfl⟩
        obtain ⟨nF, hnF⟩ : ∃ n, n = F.length := ⟨_, rfl⟩
        rw [← hnT] at hvT
        rw [← hnF] at hvF
        subst hvT hvF
        obtain ⟨bl, hbl⟩ : ∃ n, n = b.length := ⟨_, rfl⟩
        have HBL := hide hbl
        have hS := And.intro ((hR6.rd).ext (Ext.refl w6).drew) (And.intro (hR6.dc.ext (Ext.refl w6).drew) (show w6.drew.cell? ⟨bx, ox, none⟩ = some (.string ⟨t0.toArray⟩) from hcx))
        rw [← hbl] at hS
        have HR6 := hide hR6
        have HNT := hide hnT
        have HNF := hide hnF
        have hn0 : n9 ≠ 0 := by omega
        have hbx := HO6.out.atBase.1
        have HAp := hide (show Ap (.slice (some ⟨bx, ox, none⟩) n9 c9) (.slice AF nF cF) from fun j hj e => by have h1 := (HO6.out.lt j hj).1; have h2 := (HH.out.two.2.1.lt j e).2; have := HE4.out.le; omega)
        clear ht0 hR6 hnT hnF hbl HEnd
        go_wp2_with fail
        refine wp_region_T (fun W => Whole W gr 72 #[.pointer (some ⟨gd, 0, none⟩), .slice A bl c, .int .i64 (at_ : Int)] ∧ Whole W gd 70 #[.slice AT nT cT, .int .i64 (size : Int), .slice AF nF cF] ∧ W.cell? ⟨bx, ox, none⟩ = some (.string ⟨t0.toArray⟩)) 18 19 #[false, false, false, false, false, false, false, false, false, false, false, false, false, false, false, false, false, false, false] (by kernel_rfl) rfl rfl hS ?_
        intro hS0
        refine wpAnyT_take 0 (some 52) (.pointer (some ⟨gr, 0, none⟩)) #[true, false, false, false, false, false, false, false, false, false, false, false, false, false, false, false, false, false, false] rfl rfl rfl (by kernel_rfl) (fun _ _ _ h => h) hS0 (by rfl) (fun W hX => by have s0 := hX.1.at 0 (u := .pointer (some ⟨gd, 0, none⟩)) rfl; have s2 := hX.1.at 2 (u := .int .i64 (at_ : Int)) rfl; have d0 := hX.2.1.at 0 (u := .slice AT nT cT) rfl; have d2 := hX.2.1.at 2 (u := .slice AF nF cF) rfl; have e0 := hX.2.2; go_simp) ?_
        simp only [Act.put, List.setIfInBounds_toArray, List.set_cons_zero, List.set_cons_succ]
        refine wpAnyT_take 1 (some 53) (.pointer (some ⟨gr, 0, none⟩)) #[true, true, false, false, false, false, false, false, false, false, false, false, false, false, false, false, false, false, false] rfl rfl rfl (by kernel_rfl) (fun _ _ _ h => h) hS0 (by rfl) (fun W hX => by have s0 := hX.1.at 0 (u := .pointer (some ⟨gd, 0, none⟩)) rfl; have s2 := hX.1.at 2 (u := .int .i64 (at_ : Int)) rfl; have d0 := hX.2.1.at 0 (u := .slice AT nT cT) rfl; have d2 := hX.2.1.at 2 (u := .slice AF nF cF) rfl; have e0 := hX.2.2; go_simp) ?_
        simp only [Act.put, List.setIfInBounds_toArray, List.set_cons_zero, List.set_cons_succ]
        refine wpAnyT_take 2 (some 54) (.pointer (some ⟨gr, 0, none⟩)) #[true, true, true, false, false, false, false, false, false, false, false, false, false, false, false, false, false, false, false] rfl rfl rfl (by kernel_rfl) (fun _ _ _ h => h) hS0 (by rfl) (fun W hX => by have s0 := hX.1.at 0 (u := .pointer (some ⟨gd, 0, none⟩)) rfl; have s2 := hX.1.at 2 (u := .int .i64 (at_ : Int)) rfl; have d0 := hX.2.1.at 0 (u := .slice AT nT cT) rfl; have d2 := hX.2.1.at 2 (u := .slice AF nF cF) rfl; have e0 := hX.2.2; go_simp) ?_
        simp only [Act.put, List.setIfInBounds_toArray, List.set_cons_zero, List.set_cons_succ]
        refine wpAnyT_take 3 (some 55) (.pointer (some ⟨gd, 0, none⟩)) #[true, true, true, true, false, false, false, false, false, false, false, false, false, false, false, false, false, false, false] rfl rfl rfl (by kernel_rfl) (fun _ _ _ h => h) hS0 (by rfl) (fun W hX => by have s0 := hX.1.at 0 (u := .pointer (some ⟨gd, 0, none⟩)) rfl; have s2 := hX.1.at 2 (u := .int .i64 (at_ : Int)) rfl; have d0 := hX.2.1.at 0 (u := .slice AT nT cT) rfl; have d2 := hX.2.1.at 2 (u := .slice AF nF cF) rfl; have e0 := hX.2.2; go_simp) ?_
        simp only [Act.put, List.setIfInBounds_toArray, List.set_cons_zero, List.set_cons_succ]
        refine wpAnyT_take 4 (some 56) (.pointer (some ⟨gr, 0, none⟩)) #[true, true, true, true, true, false, false, false, false, false, false, false, false, false, false, false, false, false, false] rfl rfl rfl (by kernel_rfl) (fun _ _ _ h => h) hS0 (by rfl) (fun W hX => by have s0 := hX.1.at 0 (u := .pointer (some ⟨gd, 0, none⟩)) rfl; have s2 := hX.1.at 2 (u := .int .i64 (at_ : Int)) rfl; have d0 := hX.2.1.at 0 (u := .slice AT nT cT) rfl; have d2 := hX.2.1.at 2 (u := .slice AF nF cF) rfl; have e0 := hX.2.2; go_simp) ?_
        simp only [Act.put, List.setIfInBounds_toArray, List.set_cons_zero, List.set_cons_succ]
        refine wpAnyT_take 5 (some 57) (.pointer (some ⟨gr, 0, none⟩)) #[true, true, true, true, true, true, false, false, false, false, false, false, false, false, false, false, false, false, false] rfl rfl rfl (by kernel_rfl) (fun _ _ _ h => h) hS0 (by rfl) (fun W hX => by have s0 := hX.1.at 0 (u := .pointer (some ⟨gd, 0, none⟩)) rfl; have s2 := hX.1.at 2 (u := .int .i64 (at_ : Int)) rfl; have d0 := hX.2.1.at 0 (u := .slice AT nT cT) rfl; have d2 := hX.2.1.at 2 (u := .slice AF nF cF) rfl; have e0 := hX.2.2; go_simp) ?_
        simp only [Act.put, List.setIfInBounds_toArray, List.set_cons_zero, List.set_cons_succ]
        refine wpAnyT_take 6 (some 58) (.pointer (some ⟨gr, 0, none⟩)) #[true, true, true, true, true, true, true, false, false, false, false, false, false, false, false, false, false, false, false] rfl rfl rfl (by kernel_rfl) (fun _ _ _ h => h) hS0 (by rfl) (fun W hX => by have s0 := hX.1.at 0 (u := .pointer (some ⟨gd, 0, none⟩)) rfl; have s2 := hX.1.at 2 (u := .int .i64 (at_ : Int)) rfl; have d0 := hX.2.1.at 0 (u := .slice AT nT cT) rfl; have d2 := hX.2.1.at 2 (u := .slice AF nF cF) rfl; have e0 := hX.2.2; go_simp) ?_
        simp only [Act.put, List.setIfInBounds_toArray, List.set_cons_zero, List.set_cons_succ]
        refine wpAnyT_take 7 (some 59) (.pointer (some ⟨gd, 0, none⟩)) #[true, true, true, true, true, true, true, true, false, false, false, false, false, false, false, false, false, false, false] rfl rfl rfl (by kernel_rfl) (fun _ _ _ h => h) hS0 (by rfl) (fun W hX => by have s0 := hX.1.at 0 (u := .pointer (some ⟨gd, 0, none⟩)) rfl; have s2 := hX.1.at 2 (u := .int .i64 (at_ : Int)) rfl; have d0 := hX.2.1.at 0 (u := .slice AT nT cT) rfl; have d2 := hX.2.1.at 2 (u := .slice AF nF cF) rfl; have e0 := hX.2.2; go_simp) ?_
        simp only [Act.put, List.setIfInBounds_toArray, List.set_cons_zero, List.set_cons_succ]
        refine wpAnyT_take 8 (some 60) (.pointer (some ⟨gd, 0, none⟩)) #[true, true, true, true, true, true, true, true, true, false, false, false, false, false, false, false, false, false, false] rfl rfl rfl (by kernel_rfl) (fun _ _ _ h => h) hS0 (by rfl) (fun W hX => by have s0 := hX.1.at 0 (u := .pointer (some ⟨gd, 0, none⟩)) rfl; have s2 := hX.1.at 2 (u := .int .i64 (at_ : Int)) rfl; have d0 := hX.2.1.at 0 (u := .slice AT nT cT) rfl; have d2 := hX.2.1.at 2 (u := .slice AF nF cF) rfl; have e0 := hX.2.2; go_simp) ?_
        simp only [Act.put, List.setIfInBounds_toArray, List.set_cons_zero, List.set_cons_succ]
        refine wpAnyT_take 9 (some 61) (.pointer (some ⟨gd, 2, none⟩)) #[true, true, true, true, true, true, true, true, true, true, false, false, false, false, false, false, false, false, false] rfl rfl rfl (by kernel_rfl) (fun _ _ _ h => h) hS0 (by rfl) (fun W hX => by have s0 := hX.1.at 0 (u := .pointer (some ⟨gd, 0, none⟩)) rfl; have s2 := hX.1.at 2 (u := .int .i64 (at_ : Int)) rfl; have d0 := hX.2.1.at 0 (u := .slice AT nT cT) rfl; have d2 := hX.2.1.at 2 (u := .slice AF nF cF) rfl; have e0 := hX.2.2; go_simp) ?_
        simp only [Act.put, List.setIfInBounds_toArray, List.set_cons_zero, List.set_cons_succ]
        refine wpAnyT_take 10 (some 62) (.slice AF nF cF) #[true, true, true, true, true, true, true, true, true, true, true, false, false, false, false, false, false, false, false] rfl rfl rfl (by kernel_rfl) (fun _ _ _ h => h) hS0 (by rfl) (fun W hX => by have s0 := hX.1.at 0 (u := .pointer (some ⟨gd, 0, none⟩)) rfl; have s2 := hX.1.at 2 (u := .int .i64 (at_ : Int)) rfl; have d0 := hX.2.1.at 0 (u := .slice AT nT cT) rfl; have d2 := hX.2.1.at 2 (u := .slice AF nF cF) rfl; have e0 := hX.2.2; go_simp) ?_
        simp only [Act.put, List.setIfInBounds_toArray, List.set_cons_zero, List.set_cons_succ]
        refine wpAnyT_take 11 (some 63) (.slice (some ⟨bx, ox, none⟩) n9 c9) #[true, true, true, true, true, true, true, true, true, true, true, true, false, false, false, false, false, false, false] rfl rfl rfl (by kernel_rfl) (fun _ _ _ h => h) hS0 (by rfl) (fun W hX => by have s0 := hX.1.at 0 (u := .pointer (some ⟨gd, 0, none⟩)) rfl; have s2 := hX.1.at 2 (u := .int .i64 (at_ : Int)) rfl; have d0 := hX.2.1.at 0 (u := .slice AT nT cT) rfl; have d2 := hX.2.1.at 2 (u := .slice AF nF cF) rfl; have e0 := hX.2.2; go_simp) ?_
        simp only [Act.put, List.setIfInBounds_toArray, List.set_cons_zero, List.set_cons_succ]
        refine wpAnyT_take 12 (some 64) (.pointer (some ⟨bx, ox, none⟩)) #[true, true, true, true, true, true, true, true, true, true, true, true, true, false, false, false, false, false, false] rfl rfl rfl (by kernel_rfl) (fun _ _ _ h => h) hS0 (by rfl) (fun W hX => by have s0 := hX.1.at 0 (u := .pointer (some ⟨gd, 0, none⟩)) rfl; have s2 := hX.1.at 2 (u := .int .i64 (at_ : Int)) rfl; have d0 := hX.2.1.at 0 (u := .slice AT nT cT) rfl; have d2 := hX.2.1.at 2 (u := .slice AF nF cF) rfl; have e0 := hX.2.2; go_simp) ?_
        simp only [Act.put, List.setIfInBounds_toArray, List.set_cons_zero, List.set_cons_succ]
        refine wpAnyT_take 13 (some 65) (.string ⟨t0.toArray⟩) #[true, true, true, true, true, true, true, true, true, true, true, true, true, true, false, false, false, false, false] rfl rfl rfl (by kernel_rfl) (fun _ _ _ h => h) hS0 (by rfl) (fun W hX => by have s0 := hX.1.at 0 (u := .pointer (some ⟨gd, 0, none⟩)) rfl; have s2 := hX.1.at 2 (u := .int .i64 (at_ : Int)) rfl; have d0 := hX.2.1.at 0 (u := .slice AT nT cT) rfl; have d2 := hX.2.1.at 2 (u := .slice AF nF cF) rfl; have e0 := hX.2.2; go_simp) ?_
        simp only [Act.put, List.setIfInBounds_toArray, List.set_cons_zero, List.set_cons_succ]
        refine wpAnyT_only 14 #[true, true, true, true, true, true, true, true, true, true, true, true, true, true, true, false, false, false, false] (by kernel_rfl) rfl rfl (by rfl) (fun K0 hK0 => ?_)
        go_simp
        have hEb : Ext w6 (w6.alloc (.cells #[.string ⟨t0.toArray⟩] 9)).drew := (extNew w6 _).drew
        have hR7 := HR6.out.later hEb
        have HO7 := hide (HO6.out.ext hEb)
        have htn : TextsAt (w6.alloc (.cells #[.string ⟨t0.toArray⟩] 9)).drew ((w6.alloc (.cells #[.string ⟨t0.toArray⟩] 9)).drew).heap.size (some ⟨w6.heap.size, 0, none⟩) 1 [t0] := (textsNew w6 [t0] #[.string ⟨t0.toArray⟩] 9 (0, 0) rfl 1 rfl).later (Ext.refl _).drew
        have hOff7 := (OffD.ext HE6.out).trans (OffD.ext hEb)
        have hE7 := HE6.out.trans hEb
        have hS1 := And.intro hR7.rd (And.intro hR7.dc ((hEb.cell (World.block_lt_of_cell? _ _ hcx)).trans hcx))
        rw [← HBL.out] at hS1
        clear hEb hcx
        generalize (w6.alloc (.cells #[.string ⟨t0.toArray⟩] 9)).drew = w7 at *
        generalize w6.heap.size = b66 at *
        refine hK0 _ _ (fun _ => hS1) ?_
        clear hK0 K0
        refine wpAnyT_only 15 #[true, true, true, true, true, true, true, true, true, true, true, true, true, true, true, true, false, false, false] (by kernel_rfl) rfl rfl (by rfl) (fun K1 hK1 => ?_)
        refine wpOper_appTxD (v := .slice AF nF cF) (.tmp 62) (.tmp 66) rfl rfl hR7.two.2.1 rfl htn (by omega) hR7.ext.le ?_
        intro v8 w8 hO8 hG8 hN8
        have hx8 := World.cell?_of_block (a := ⟨bx, ox, none⟩) (hG8.block bx (World.block_lt_of_cell? _ _ hS1.2.2) (fun e => by have h2 := (HH.out.two.2.1.lt bx e.symm).2; have := HE4.out.le; have := hbx; omega))
        have hS2 := And.intro (hS1.1.ownGrown hG8 (hR7.two.2.1.notKind hS1.1 (by decide))) (And.intro (hS1.2.1.ownGrown hG8 (hR7.two.2.1.notKind hS1.2.1 (by decide))) (hx8.trans hS1.2.2))
        obtain ⟨AF2, cF2, hv8, -, -, -⟩ := hO8.form
        obtain ⟨nF2, hnF2⟩ : ∃ n, n = (F ++ [t0]).length := ⟨_, rfl⟩
        rw [← hnF2] at hv8
        subst hv8
        change K1 (Act.put _ (some 67) _) _
        refine hK1 _ _ (fun _ => hS2) ?_
        clear hK1 K1
        simp only [Act.put, List.setIfInBounds_toArray, List.set_cons_zero, List.set_cons_succ]
        refine wpAnyT_take 16 (some 68) (.pointer (some ⟨gd, 0, none⟩)) #[true, true, true, true, true, true, true, true, true, true, true, true, true, true, true, true, true, false, false] rfl rfl rfl (by kernel_rfl) (fun _ _ _ h => h) hS2 (by rfl) (fun W hX => by have s0 := hX.1.at 0 (u := .pointer (some ⟨gd, 0, none⟩)) rfl; have s2 := hX.1.at 2 (u := .int .i64 (at_ : Int)) rfl; have d0 := hX.2.1.at 0 (u := .slice AT nT cT) rfl; have d2 := hX.2.1.at 2 (u := .slice AF nF cF) rfl; have e0 := hX.2.2; go_simp) ?_
        simp only [Act.put, List.setIfInBounds_toArray, List.set_cons_zero, List.set_cons_succ]
        refine wpAnyT_take 17 (some 69) (.pointer (some ⟨gd, 2, none⟩)) #[true, true, true, true, true, true, true, true, true, true, true, true, true, true, true, true, true, true, false] rfl rfl rfl (by kernel_rfl) (fun _ _ _ h => h) hS2 (by rfl) (fun W hX => by have s0 := hX.1.at 0 (u := .pointer (some ⟨gd, 0, none⟩)) rfl; have s2 := hX.1.at 2 (u := .int .i64 (at_ : Int)) rfl; have d0 := hX.2.1.at 0 (u := .slice AT nT cT) rfl; have d2 := hX.2.1.at 2 (u := .slice AF nF cF) rfl; have e0 := hX.2.2; go_simp) ?_
        simp only [Act.put, List.setIfInBounds_toArray, List.set_cons_zero, List.set_cons_succ]
        refine wpAnyT_only 18 #[true, true, true, true, true, true, true, true, true, true, true, true, true, true, true, true, true, true, true] (by kernel_rfl) rfl rfl (by rfl) (fun K2 hK2 => ?_)
        refine wpOper_putC 68 (.tmp 69) (.tmp 67) rfl #[.slice AT nT cT, .int .i64 (size : Int), .slice AF2 nF2 cF2] rfl rfl hS2.2.1 (by simp) (by kernel_rfl) rfl rfl rfl ?_
        intro w9 hW9 hG9
        refine hK2 _ _ (fun h => absurd h (by decide)) (wpAnyT_done (by kernel_rfl) ?_ _)
        clear hK2 K2
        simp only [Act.put]
        have hR9 := hR7.growF hO8 hG8 hN8 hS2.2.1 hW9 hG9
        have hO9 := (HO7.out.grown hG8 HAp.out).put hS2.2.1 (by decide) hG9
        have hOff9 := (hOff7.trans (OffD.own hR7.two.2.1 hG8)).trans (OffD.put hS2.2.1 (.inr rfl) hG9)
        have HOff9 := hide hOff9
        have HR9 := hide hR9
        have HO9 := hide hO9
        have hrd9 := hR9.rd
        rw [← HBL.out] at hrd9
        have hSb := And.intro (hrd9.ext (Ext.refl w9).drew) (hR9.dc.ext (Ext.refl w9).drew)
        clear hR9 hO9 hOff9 hR7 hO8 hG8 hN8 hS2 hW9 hG9 hS0 hS1 hS hOff7 hE7 htn HO7 hx8 hnF2 hrd9 hbx HAp
        go_wp2_with fail
        refine wp_region_T (fun W => Whole W gr 72 #[.pointer (some ⟨gd, 0, none⟩), .slice A bl c, .int .i64 (at_ : Int)] ∧ Whole W gd 70 #[.slice AT nT cT, .int .i64 (size : Int), .slice AF2 nF2 cF2]) 15 16 #[false, false, false, false, false, false, false, false, false, false, false, false, false, false, false, false] (by kernel_rfl) rfl rfl hSb ?_
        intro hS0
        refine wpAnyT_take 0 (some 70) (.pointer (some ⟨gr, 0, none⟩)) #[true, false, false, false, false, false, false, false, false, false, false, false, false, false, false, false] rfl rfl rfl (by kernel_rfl) (fun _ _ _ h => h) hS0 (by rfl) (fun W hX => by have s0 := hX.1.at 0 (u := .pointer (some ⟨gd, 0, none⟩)) rfl; have s2 := hX.1.at 2 (u := .int .i64 (at_ : Int)) rfl; have d0 := hX.2.at 0 (u := .slice AT nT cT) rfl; have d2 := hX.2.at 2 (u := .slice AF2 nF2 cF2) rfl; go_simp) ?_
        simp only [Act.put, List.setIfInBounds_toArray, List.set_cons_zero, List.set_cons_succ]
        refine wpAnyT_take 1 (some 71) (.pointer (some ⟨gr, 0, none⟩)) #[true, true, false, false, false, false, false, false, false, false, false, false, false, false, false, false] rfl rfl rfl (by kernel_rfl) (fun _ _ _ h => h) hS0 (by rfl) (fun W hX => by have s0 := hX.1.at 0 (u := .pointer (some ⟨gd, 0, none⟩)) rfl; have s2 := hX.1.at 2 (u := .int .i64 (at_ : Int)) rfl; have d0 := hX.2.at 0 (u := .slice AT nT cT) rfl; have d2 := hX.2.at 2 (u := .slice AF2 nF2 cF2) rfl; go_simp) ?_
        simp only [Act.put, List.setIfInBounds_toArray, List.set_cons_zero, List.set_cons_succ]
        refine wpAnyT_take 2 (some 72) (.pointer (some ⟨gr, 0, none⟩)) #[true, true, true, false, false, false, false, false, false, false, false, false, false, false, false, false] rfl rfl rfl (by kernel_rfl) (fun _ _ _ h => h) hS0 (by rfl) (fun W hX => by have s0 := hX.1.at 0 (u := .pointer (some ⟨gd, 0, none⟩)) rfl; have s2 := hX.1.at 2 (u := .int .i64 (at_ : Int)) rfl; have d0 := hX.2.at 0 (u := .slice AT nT cT) rfl; have d2 := hX.2.at 2 (u := .slice AF2 nF2 cF2) rfl; go_simp) ?_
        simp only [Act.put, List.setIfInBounds_toArray, List.set_cons_zero, List.set_cons_succ]
        refine wpAnyT_take 3 (some 73) (.pointer (some ⟨gd, 0, none⟩)) #[true, true, true, true, false, false, false, false, false, false, false, false, false, false, false, false] rfl rfl rfl (by kernel_rfl) (fun _ _ _ h => h) hS0 (by rfl) (fun W hX => by have s0 := hX.1.at 0 (u := .pointer (some ⟨gd, 0, none⟩)) rfl; have s2 := hX.1.at 2 (u := .int .i64 (at_ : Int)) rfl; have d0 := hX.2.at 0 (u := .slice AT nT cT) rfl; have d2 := hX.2.at 2 (u := .slice AF2 nF2 cF2) rfl; go_simp) ?_
        simp only [Act.put, List.setIfInBounds_toArray, List.set_cons_zero, List.set_cons_succ]
        refine wpAnyT_take 4 (some 74) (.pointer (some ⟨gr, 0, none⟩)) #[true, true, true, true, true, false, false, false, false, false, false, false, false, false, false, false] rfl rfl rfl (by kernel_rfl) (fun _ _ _ h => h) hS0 (by rfl) (fun W hX => by have s0 := hX.1.at 0 (u := .pointer (some ⟨gd, 0, none⟩)) rfl; have s2 := hX.1.at 2 (u := .int .i64 (at_ : Int)) rfl; have d0 := hX.2.at 0 (u := .slice AT nT cT) rfl; have d2 := hX.2.at 2 (u := .slice AF2 nF2 cF2) rfl; go_simp) ?_
        simp only [Act.put, List.setIfInBounds_toArray, List.set_cons_zero, List.set_cons_succ]
        refine wpAnyT_take 5 (some 75) (.pointer (some ⟨gr, 0, none⟩)) #[true, true, true, true, true, true, false, false, false, false, false, false, false, false, false, false] rfl rfl rfl (by kernel_rfl) (fun _ _ _ h => h) hS0 (by rfl) (fun W hX => by have s0 := hX.1.at 0 (u := .pointer (some ⟨gd, 0, none⟩)) rfl; have s2 := hX.1.at 2 (u := .int .i64 (at_ : Int)) rfl; have d0 := hX.2.at 0 (u := .slice AT nT cT) rfl; have d2 := hX.2.at 2 (u := .slice AF2 nF2 cF2) rfl; go_simp) ?_
        simp only [Act.put, List.setIfInBounds_toArray, List.set_cons_zero, List.set_cons_succ]
        refine wpAnyT_take 6 (some 76) (.pointer (some ⟨gr, 0, none⟩)) #[true, true, true, true, true, true, true, false, false, false, false, false, false, false, false, false] rfl rfl rfl (by kernel_rfl) (fun _ _ _ h => h) hS0 (by rfl) (fun W hX => by have s0 := hX.1.at 0 (u := .pointer (some ⟨gd, 0, none⟩)) rfl; have s2 := hX.1.at 2 (u := .int .i64 (at_ : Int)) rfl; have d0 := hX.2.at 0 (u := .slice AT nT cT) rfl; have d2 := hX.2.at 2 (u := .slice AF2 nF2 cF2) rfl; go_simp) ?_
        simp only [Act.put, List.setIfInBounds_toArray, List.set_cons_zero, List.set_cons_succ]
        refine wpAnyT_take 7 (some 77) (.pointer (some ⟨gd, 0, none⟩)) #[true, true, true, true, true, true, true, true, false, false, false, false, false, false, false, false] rfl rfl rfl (by kernel_rfl) (fun _ _ _ h => h) hS0 (by rfl) (fun W hX => by have s0 := hX.1.at 0 (u := .pointer (some ⟨gd, 0, none⟩)) rfl; have s2 := hX.1.at 2 (u := .int .i64 (at_ : Int)) rfl; have d0 := hX.2.at 0 (u := .slice AT nT cT) rfl; have d2 := hX.2.at 2 (u := .slice AF2 nF2 cF2) rfl; go_simp) ?_
        simp only [Act.put, List.setIfInBounds_toArray, List.set_cons_zero, List.set_cons_succ]
        refine wpAnyT_take 8 (some 78) (.pointer (some ⟨gd, 0, none⟩)) #[true, true, true, true, true, true, true, true, true, false, false, false, false, false, false, false] rfl rfl rfl (by kernel_rfl) (fun _ _ _ h => h) hS0 (by rfl) (fun W hX => by have s0 := hX.1.at 0 (u := .pointer (some ⟨gd, 0, none⟩)) rfl; have s2 := hX.1.at 2 (u := .int .i64 (at_ : Int)) rfl; have d0 := hX.2.at 0 (u := .slice AT nT cT) rfl; have d2 := hX.2.at 2 (u := .slice AF2 nF2 cF2) rfl; go_simp) ?_
        simp only [Act.put, List.setIfInBounds_toArray, List.set_cons_zero, List.set_cons_succ]
        refine wpAnyT_take 9 (some 79) (.pointer (some ⟨gd, 0, none⟩)) #[true, true, true, true, true, true, true, true, true, true, false, false, false, false, false, false] rfl rfl rfl (by kernel_rfl) (fun _ _ _ h => h) hS0 (by rfl) (fun W hX => by have s0 := hX.1.at 0 (u := .pointer (some ⟨gd, 0, none⟩)) rfl; have s2 := hX.1.at 2 (u := .int .i64 (at_ : Int)) rfl; have d0 := hX.2.at 0 (u := .slice AT nT cT) rfl; have d2 := hX.2.at 2 (u := .slice AF2 nF2 cF2) rfl; go_simp) ?_
        simp only [Act.put, List.setIfInBounds_toArray, List.set_cons_zero, List.set_cons_succ]
        refine wpAnyT_take 10 (some 80) (.slice AT nT cT) #[true, true, true, true, true, true, true, true, true, true, true, false, false, false, false, false] rfl rfl rfl (by kernel_rfl) (fun _ _ _ h => h) hS0 (by rfl) (fun W hX => by have s0 := hX.1.at 0 (u := .pointer (some ⟨gd, 0, none⟩)) rfl; have s2 := hX.1.at 2 (u := .int .i64 (at_ : Int)) rfl; have d0 := hX.2.at 0 (u := .slice AT nT cT) rfl; have d2 := hX.2.at 2 (u := .slice AF2 nF2 cF2) rfl; go_simp) ?_
        simp only [Act.put, List.setIfInBounds_toArray, List.set_cons_zero, List.set_cons_succ]
        refine wpAnyT_take 11 (some 81) (.slice (some ⟨bx, ox, none⟩) n9 c9) #[true, true, true, true, true, true, true, true, true, true, true, true, false, false, false, false] rfl rfl rfl (by kernel_rfl) (fun _ _ _ h => h) hS0 (by rfl) (fun W hX => by have s0 := hX.1.at 0 (u := .pointer (some ⟨gd, 0, none⟩)) rfl; have s2 := hX.1.at 2 (u := .int .i64 (at_ : Int)) rfl; have d0 := hX.2.at 0 (u := .slice AT nT cT) rfl; have d2 := hX.2.at 2 (u := .slice AF2 nF2 cF2) rfl; go_simp) ?_
        simp only [Act.put, List.setIfInBounds_toArray, List.set_cons_zero, List.set_cons_succ]
        refine wpAnyT_only 12 #[true, true, true, true, true, true, true, true, true, true, true, true, true, false, false, false] (by kernel_rfl) rfl rfl (by rfl) (fun K0 hK0 => ?_)
        have hR9d := HR9.out.later (Ext.refl w9).drew
        refine wpOper_appTxD (v := .slice AT nT cT) (.tmp 80) (.tmp 81) rfl rfl hR9d.two.1 rfl (HO9.out.ext (Ext.refl w9).drew).textsOf (by omega) hR9d.ext.le ?_
        intro v10 w10 hO10 hG10 hN10
        have hS2 := And.intro (hS0.1.ownGrown hG10 (hR9d.two.1.notKind hS0.1 (by decide))) (hS0.2.ownGrown hG10 (hR9d.two.1.notKind hS0.2 (by decide)))
        obtain ⟨AT2, cT2, hv10, -, -, -⟩ := hO10.form
        obtain ⟨nT2, hnT2⟩ : ∃ n, n = (T ++ Tc).length := ⟨_, rfl⟩
        rw [← hnT2] at hv10
        subst hv10
        change K0 (Act.put _ (some 82) _) _
        refine hK0 _ _ (fun _ => hS2) ?_
        clear hK0 K0
        simp only [Act.put, List.setIfInBounds_toArray, List.set_cons_zero, List.set_cons_succ]
        refine wpAnyT_take 13 (some 83) (.pointer (some ⟨gd, 0, none⟩)) #[true, true, true, true, true, true, true, true, true, true, true, true, true, true, false, false] rfl rfl rfl (by kernel_rfl) (fun _ _ _ h => h) hS2 (by rfl) (fun W hX => by have s0 := hX.1.at 0 (u := .pointer (some ⟨gd, 0, none⟩)) rfl; have s2 := hX.1.at 2 (u := .int .i64 (at_ : Int)) rfl; have d0 := hX.2.at 0 (u := .slice AT nT cT) rfl; have d2 := hX.2.at 2 (u := .slice AF2 nF2 cF2) rfl; go_simp) ?_
        simp only [Act.put, List.setIfInBounds_toArray, List.set_cons_zero, List.set_cons_succ]
        refine wpAnyT_take 14 (some 84) (.pointer (some ⟨gd, 0, none⟩)) #[true, true, true, true, true, true, true, true, true, true, true, true, true, true, true, false] rfl rfl rfl (by kernel_rfl) (fun _ _ _ h => h) hS2 (by rfl) (fun W hX => by have s0 := hX.1.at 0 (u := .pointer (some ⟨gd, 0, none⟩)) rfl; have s2 := hX.1.at 2 (u := .int .i64 (at_ : Int)) rfl; have d0 := hX.2.at 0 (u := .slice AT nT cT) rfl; have d2 := hX.2.at 2 (u := .slice AF2 nF2 cF2) rfl; go_simp) ?_
        simp only [Act.put, List.setIfInBounds_toArray, List.set_cons_zero, List.set_cons_succ]
        refine wpAnyT_only 15 #[true, true, true, true, true, true, true, true, true, true, true, true, true, true, true, true] (by kernel_rfl) rfl rfl (by rfl) (fun K1 hK1 => ?_)
        refine wpOper_putC 68 (.tmp 84) (.tmp 82) rfl #[.slice AT2 nT2 cT2, .int .i64 (size : Int), .slice AF2 nF2 cF2] rfl rfl hS2.2 (by simp) (by kernel_rfl) rfl rfl rfl ?_
        intro w11 hW11 hG11
        refine hK1 _ _ (fun h => absurd h (by decide)) (wpAnyT_done (by kernel_rfl) ?_ _)
        clear hK1 K1
        simp only [Act.put]
        have hR11 := hR9d.growT hO10 hG10 hN10 hS2.2 hW11 hG11
        have HOff11 := hide (((HOff9.out.trans (OffD.ext (Ext.refl w9).drew)).trans (OffD.own hR9d.two.1 hG10)).trans (OffD.put hS2.2 (.inr rfl) hG11))
        have HR11 := hide hR11
        have g2 := hR11.rd.at 2 (u := .int .i64 (at_ : Int)) rfl
        have f2 := hR11.rd.frozen 2
        have hsum : (at_ : Int) + (z : Int) = ((at_ + z : Nat) : Int) := by omega
        have hat : ((at_ + z : Nat) : Int) ≤ 1000000 := by have := HA2.out; omega
        have hwa : IntKind.i64.wrap ((at_ + z : Nat) : Int) = ((at_ + z : Nat) : Int) := by rw [IntKind.wrap_i64]; omega
        obtain ⟨at2, ha2⟩ : ∃ n, n = at_ + z := ⟨_, rfl⟩
        rw [← ha2] at hsum hat hwa
        have HA := hide ha2
        clear hR11 hR9d hO10 hG10 hN10 hS2 hW11 hG11 hS0 hSb HR9 HO9 HOff9 hnT2 ha2
        go_wp2
        go_ret
        have hG12 := grown_setCell w11 gr 2 (.int .i64 (at2 : Int))
        have hW12 := HR11.out.rd.set 2 (.int .i64 (at2 : Int))
        rw [HR.out]
        refine ⟨fun _ => ⟨rfl, ⟨.slice AT2 nT2 cT2, .slice AF2 nF2 cF2, ?_⟩, HOff11.out.trans (OffD.put HR11.out.rd (.inl rfl) hG12)⟩, fun h => absurd rfl h⟩
        rw [← HT0.out]
        exact HR11.out.move (q := at_ + z) HA2.out (by rw [← HA.out]; exact hW12) hG12
end Go.Proofs.YtcphapdjimeoaaaGreat

namespace Go.Proofs.YtcphapdjimeoaaaGreat
namespace Dic
open Num Wrd

theorem parts_err (b : List UInt8) (size : Nat) : ∀ (zs : List Nat) (left : Nat) (was : List UInt8) (q : Nat), (partsR b size zs left was q).2.2 ≠ 0 → (partsR b size zs left was q).1 = [] ∧ (partsR b size zs left was q).2.1 = 0
  | [], _, _, _, h => by simp [partsR] at h
  | z :: zs, left, was, q, h => by
    rw [partsR] at h ⊢
    split
    · exact ⟨rfl, rfl⟩
    · rename_i h1
      rw [if_neg h1] at h
      split
      · exact ⟨rfl, rfl⟩
      · rename_i h2
        rw [if_neg h2] at h
        split
        · exact ⟨rfl, rfl⟩
        · rename_i h3
          rw [if_neg h3] at h
          exact absurd rfl h
theorem take_to {b : List UInt8} {q z : Nat} (h : (takeR b q 0 (z : Int)).2.2 = 0) : (takeR b q 0 (z : Int)).2.1 = q + z := by
  unfold takeR at h ⊢
  rw [if_pos rfl] at h ⊢
  rw [if_neg (by omega)] at h ⊢
  split
  · rename_i h2; rw [if_pos h2] at h; simp at h
  · simp
theorem parts_bad {b : List UInt8} {size z left q : Nat} {zs : List Nat} {was : List UInt8} (h : (bktR b q z (min size left) was).2 ≠ 0) : partsR b size (z :: zs) left was q = ([], 0, (bktR b q z (min size left) was).2) := by
  unfold bktR at h ⊢
  rw [partsR]
  by_cases h1 : (takeR b q 0 (z : Int)).2.2 ≠ 0
  · rw [if_pos h1, if_pos h1]
  · rw [if_neg h1] at h ⊢
    rw [if_neg h1, if_pos h]
theorem parts_good {b : List UInt8} {size z left q : Nat} {zs : List Nat} {was : List UInt8} {c : List (List UInt8)} (h : bktR b q z (min size left) was = (c, 0)) :
    partsR b size (z :: zs) left was q = behind c (partsR b size zs (left - min size left) (c.getLastD was) (q + z)) := by
  unfold bktR at h
  rw [partsR]
  by_cases h1 : (takeR b q 0 (z : Int)).2.2 ≠ 0
  · rw [if_pos h1] at h
    exact absurd (congrArg Prod.snd h) h1
  · rw [if_neg h1] at h
    rw [if_neg h1, h, take_to (Decidable.of_not_not h1)]
    dsimp only
    rw [if_neg (by simp)]
    rfl
theorem tail_long : ∀ (t : List (List UInt8)) (was : List UInt8), t.length ≤ (tailB was t).length
  | [], _ => by simp
  | s :: t, was => by
    have h1 := tail_long t s
    have h2 := enc_pos (alike was s)
    rw [tailB, List.length_append, List.length_cons]
    unfold itemB
    rw [List.length_append]
    omega
theorem bucket_long : ∀ (c : List (List UInt8)), c.length ≤ (bucketB c).length
  | [] => by simp
  | s :: t => by
    have h1 := tail_long t s
    have h2 := enc_pos s.length
    rw [bucketB, List.length_append, List.length_cons]
    unfold textB
    rw [List.length_append]
    omega
/-- A bucket that is read: so many texts, and they have a byte each at least. -/
theorem bkt_is {b : List UInt8} {q z k : Nat} {was : List UInt8} {c : List (List UInt8)} (hk : 1 ≤ k) (h : bktR b q z k was = (c, 0)) : c.length = k ∧ c.length ≤ z := by
  unfold bktR at h
  by_cases h1 : (takeR b q 0 (z : Int)).2.2 ≠ 0
  · rw [if_pos h1] at h
    exact absurd (congrArg Prod.snd h) h1
  · rw [if_neg h1] at h
    obtain ⟨x, q', hx⟩ : ∃ x q', takeR b q 0 (z : Int) = (x, q', 0) := ⟨_, _, Prod.ext rfl (Prod.ext rfl (Decidable.of_not_not h1))⟩
    rw [hx] at h
    obtain ⟨t1, t2, _, t4⟩ := take_is hx
    obtain ⟨p1, p2, _⟩ := part_is hk h
    have h3 := bucket_long c
    rw [p2] at h3
    dsimp only at h3
    omega
theorem last_app (T c : List (List UInt8)) : (T ++ c).getLastD [] = c.getLastD (T.getLastD []) := by
  rw [List.getLastD_eq_getLast?, List.getLastD_eq_getLast?, List.getLastD_eq_getLast?, List.getLast?_append]
  cases c.getLast? <;> rfl
theorem buckets_zero {size n : Nat} (hs : 1 ≤ size) : bucketsN size n = 0 ↔ n = 0 := by
  constructor
  · intro h
    rcases Nat.eq_zero_or_pos n with h0 | h0
    · exact h0
    · have := buckets_over (k := 0) hs (by omega : 0 * size < n)
      omega
  · rintro rfl
    unfold bucketsN
    rw [Nat.zero_add]
    exact Nat.div_eq_of_lt (by omega)
theorem buckets_next {size n : Nat} (hs : 1 ≤ size) (h : 1 ≤ n) : bucketsN size n = bucketsN size (n - min size n) + 1 := by
  unfold bucketsN
  rcases Nat.lt_or_ge size n with h1 | h1
  · rw [Nat.min_eq_left (by omega), show n + size - 1 = (n - size + size - 1) + size by omega, Nat.add_div_right _ (by omega)]
  · rw [Nat.min_eq_right h1, Nat.sub_self, Nat.zero_add, Nat.div_eq_of_lt (show size - 1 < size by omega), Nat.zero_add]
    exact Nat.div_eq_of_lt_le (by omega) (by omega)
/-- Where the program stands between two buckets: j are read, T their texts, F the first of each, q the place. -/
structure Among (b : List UInt8) (size n q0 : Nat) (zs : List Nat) (j : Nat) (T F : List (List UInt8)) (q : Nat) : Prop where
  rest : partsR b size zs n [] q0 = behind T (partsR b size (zs.drop j) (n - T.length) (T.getLastD []) q)
  left : (zs.drop j).length = bucketsN size (n - T.length)
  few : T.length ≤ q
  all : T.length ≤ n
  full : T.length = j * size ∨ T.length = n
  firsts : F.length = j
  are : ∀ i, i < j → F.getD i [] = T.getD (i * size) []
  in_ : ∀ i, i < j → i * size < T.length
theorem among_start {b : List UInt8} {size n q0 : Nat} {zs : List Nat} (hz : zs.length = bucketsN size n) : Among b size n q0 zs 0 [] [] q0 :=
  ⟨by rw [behind_nil (parts_err _ _ _ _ _ _)]; rfl, by simpa using hz, by simp, by simp, .inl (by simp), rfl, fun i hi => by omega, fun i hi => by omega⟩
theorem among_more {b : List UInt8} {size n q0 j q : Nat} {zs : List Nat} {T F : List (List UInt8)} (hs : 1 ≤ size) (h : Among b size n q0 zs j T F q) (hj : j < zs.length) : 1 ≤ n - T.length ∧ T.length = j * size := by
  have h1 := h.left
  rw [List.length_drop] at h1
  have h2 : n - T.length ≠ 0 := fun h0 => by
    rw [(buckets_zero hs).2 h0] at h1
    omega
  refine ⟨by omega, ?_⟩
  rcases h.full with h3 | h3
  · exact h3
  · omega
theorem among_bad {b : List UInt8} {size n q0 j q : Nat} {zs : List Nat} {T F : List (List UInt8)} (h : Among b size n q0 zs j T F q) (hj : j < zs.length) (he : (bktR b q (zs.getD j 0) (min size (n - T.length)) (T.getLastD [])).2 ≠ 0) :
    (partsR b size zs n [] q0).2.2 = (bktR b q (zs.getD j 0) (min size (n - T.length)) (T.getLastD [])).2 := by
  have hd : zs.drop j = zs.getD j 0 :: zs.drop (j + 1) := by rw [List.drop_eq_getElem_cons hj, List.getD_eq_getElem?_getD, List.getElem?_eq_getElem hj]; rfl
  rw [h.rest, hd, parts_bad he]
  unfold behind
  dsimp only
  rw [if_pos he]
theorem among_next {b : List UInt8} {size n q0 j q : Nat} {zs : List Nat} {T F c : List (List UInt8)} (hs : 1 ≤ size) (h : Among b size n q0 zs j T F q) (hj : j < zs.length) (hc : bktR b q (zs.getD j 0) (min size (n - T.length)) (T.getLastD []) = (c, 0)) :
    Among b size n q0 zs (j + 1) (T ++ c) (F ++ [c.getD 0 []]) (q + zs.getD j 0) := by
  obtain ⟨hl, hT⟩ := among_more hs h hj
  have hd : zs.drop j = zs.getD j 0 :: zs.drop (j + 1) := by rw [List.drop_eq_getElem_cons hj, List.getD_eq_getElem?_getD, List.getElem?_eq_getElem hj]; rfl
  obtain ⟨c1, c2⟩ := bkt_is (by omega) hc
  have hrest := h.rest
  rw [hd, parts_good hc, behind_behind] at hrest
  have hlen : (T ++ c).length = T.length + min size (n - T.length) := by rw [List.length_append, c1]
  have hleft := h.left
  rw [buckets_next hs hl, hd, List.length_cons] at hleft
  refine ⟨?_, ?_, by rw [List.length_append]; have := h.few; omega, by rw [hlen]; omega, ?_, by rw [List.length_append, h.firsts]; rfl, fun i hi => ?_, fun i hi => ?_⟩
  · rw [hrest, last_app, hlen, show n - (T.length + min size (n - T.length)) = n - T.length - min size (n - T.length) by omega]
  · rw [hlen, show n - (T.length + min size (n - T.length)) = n - T.length - min size (n - T.length) by omega]
    omega
  · rw [hlen]
    rcases Nat.lt_or_ge (n - T.length) size with h3 | h3
    · exact .inr (by omega)
    · refine .inl ?_
      rw [Nat.min_eq_left h3, Nat.add_mul, Nat.one_mul, hT]
  · rcases Nat.lt_or_ge i j with h3 | h3
    · have h4 := h.are i h3
      have h5 := h.in_ i h3
      simp only [List.getD_eq_getElem?_getD] at h4 ⊢
      rw [List.getElem?_append_left (by rw [h.firsts]; exact h3), List.getElem?_append_left h5]
      exact h4
    · obtain rfl : i = j := by omega
      simp only [List.getD_eq_getElem?_getD]
      rw [List.getElem?_append_right (by rw [h.firsts]; omega), List.getElem?_append_right (by omega), h.firsts, Nat.sub_self, ← hT, Nat.sub_self]
      rfl
  · rw [hlen]
    rcases Nat.lt_or_ge i j with h3 | h3
    · have := h.in_ i h3
      omega
    · obtain rfl : i = j := by omega
      omega
theorem among_end {b : List UInt8} {size n q0 q : Nat} {zs : List Nat} {T F : List (List UInt8)} (hs : 1 ≤ size) (h : Among b size n q0 zs zs.length T F q) (hz : zs.length = bucketsN size n) : partsR b size zs n [] q0 = (T, q, 0) ∧ FirstsOf size T F := by
  have h1 := h.rest
  have h2 := h.left
  rw [List.drop_length] at h1 h2
  have h3 : n - T.length = 0 := (buckets_zero hs).1 (by rw [← h2]; rfl)
  rw [partsR] at h1
  unfold behind at h1
  dsimp only at h1
  rw [if_neg (by simp), List.append_nil] at h1
  refine ⟨h1, ?_, fun i hi => ?_⟩
  · have := h.all
    rw [h.firsts, hz, show T.length = n by omega]
  · rw [h.firsts] at hi
    exact h.are i hi
/-- What is read, of the numbers ahead and the buckets. -/
theorem read_first {b : List UInt8} {size : Nat} {e : Int} (h : (numsR b 1048576 1 0).2.2 = e) (he : e ≠ 0) : readR b size = ([], 0, e) := by
  subst h
  by_cases h1 : (intR b 0 0 1048576).2.2 = 0
  · rw [nums_good h1] at he
    unfold behind at he
    simp [numsR] at he
  · unfold readR
    rw [if_pos h1, nums_bad h1]
theorem read_then {b : List UInt8} {size n q : Nat} (h : numsR b 1048576 1 0 = ([n], q, 0)) : readR b size = if (numsR b 2000 (bucketsN size n) q).2.2 ≠ 0 then ([], 0, (numsR b 2000 (bucketsN size n) q).2.2) else
    partsR b size (numsR b 2000 (bucketsN size n) q).1 n [] (numsR b 2000 (bucketsN size n) q).2.1 := by
  by_cases h1 : (intR b 0 0 1048576).2.2 = 0
  case neg =>
    rw [nums_bad h1] at h
    simp at h
  obtain ⟨n', q', hi⟩ : ∃ n' q', intR b 0 0 1048576 = (n', q', 0) := ⟨_, _, Prod.ext rfl (Prod.ext rfl h1)⟩
  rw [nums_good h1, hi] at h
  have hn : n' = n ∧ q' = q := by
    unfold behind at h
    simpa [numsR] using h
  obtain ⟨rfl, rfl⟩ := hn
  unfold readR
  rw [hi]
  dsimp only
  rw [if_neg (by simp), sizes_nums]
  split
  · rfl
  · split
    · rename_i h2
      obtain ⟨h3, h4⟩ := parts_err _ _ _ _ _ _ h2
      exact Prod.ext h3.symm (Prod.ext h4.symm rfl)
    · rfl
end Dic
end Go.Proofs.YtcphapdjimeoaaaGreat

