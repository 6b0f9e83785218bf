/- Contracts of the document's cursor: Int, Take, Fail, End. Contracts of the document's cursor: Byte, Fixed, Text. -/
import Derived.Test.YtcphapdjimeoaaaGreatB01
import Derived.Test.YtcphapdjimeoaaaGreatB05
import Derived.Deep.RegionHeld3
import Derived.Deep.RegionWith
namespace Go.Proofs.YtcphapdjimeoaaaGreat
open Go.RowKit
attribute [local go_sem ↓] run_mid

set_option maxHeartbeats 1000000 in
set_option maxRecDepth 100000 in
theorem curInt_any {P0 : Value → Prop} {w : World} {base g q : Nat} {b : List UInt8} {e : Int} (h : RefCF P0 w base g b q e) (most : Int) (hm : most ≤ 9223372036854775807) :
    Calls Tryz.prog 37 #[.pointer (some ⟨g, 0, none⟩), .int .i64 most] w fun e' w' => e' = .returned (.int .i64 (((Num.intR b q e most).1 : Nat) : Int)) ∧ CurToF P0 w base g b (Num.intR b q e most).2.1 (Num.intR b q e most).2.2 w' := by
  obtain ⟨A, c, c0, c1, c2, f1, f2, hc, hbb⟩ := h.cells
  obtain ⟨hq, hl⟩ := h.bounds
  have C1 := curNum_any h
  have HI := hide (show Num.intR b q e most = (if (Num.numR b q e).2.2 = 0 then (if most < ((Num.numR b q e).1 : Int) then (0, q, 6) else Num.numR b q e) else (0, (Num.numR b q e).2.1, (Num.numR b q e).2.2)) from rfl)
  generalize Num.numR b q e = r at *
  obtain ⟨x, q', e'⟩ := r
  dsimp only at *
  clear h c0 c2 f1 f2 hc hbb
  by_cases he : e' = 0
  · subst he
    by_cases hx : most < (x : Int)
    · have HR := hide (show Num.intR b q e most = (0, q, 6) by rw [HI.out, if_pos rfl, if_pos hx])
      by_cases h0 : most < 0
      · clear hx
        go_enter Tryz.func37, Tryz.ntmps37
        go_wp2_with fail
        refine C1.mono ?_
        rintro e2 w2 ⟨rfl, hR2, hM2⟩
        obtain ⟨_, _, _, d1, d2, g1, g2, _, _⟩ := hR2.cells
        have HR2 := hide hR2
        clear hR2
        go_wp2
        go_ret
        have h1 := HR2.out.setAt (q' := q) hq rfl
        have h2 := h1.1.setErr (e' := 6)
        have h12 := h1.then h2
        rw [HR.out]
        exact ⟨rfl, h12.1, hM2.trans h12.2 (.inl rfl)⟩
      · obtain ⟨m, rfl⟩ := Int.eq_ofNat_of_zero_le (show 0 ≤ most by omega)
        have hwm : IntKind.u64.wrap (m : Int) = (m : Int) := by rw [IntKind.wrap_u64]; omega
        clear h0
        go_enter Tryz.func37, Tryz.ntmps37
        go_wp2_with fail
        refine C1.mono ?_
        rintro e2 w2 ⟨rfl, hR2, hM2⟩
        obtain ⟨_, _, _, d1, d2, g1, g2, _, _⟩ := hR2.cells
        have HR2 := hide hR2
        clear hR2
        go_wp2
        go_ret
        have h1 := HR2.out.setAt (q' := q) hq rfl
        have h2 := h1.1.setErr (e' := 6)
        have h12 := h1.then h2
        rw [HR.out]
        exact ⟨rfl, h12.1, hM2.trans h12.2 (.inl rfl)⟩
    · have HR := hide (show Num.intR b q e most = (x, q', 0) by rw [HI.out, if_pos rfl, if_neg hx])
      obtain ⟨m, rfl⟩ := Int.eq_ofNat_of_zero_le (show 0 ≤ most by omega)
      have hwm : IntKind.u64.wrap (m : Int) = (m : Int) := by rw [IntKind.wrap_u64]; omega
      have hx' : ¬ ((m : Int) < (x : Int)) := hx
      have hwx : IntKind.i64.wrap (x : Int) = (x : Int) := by rw [IntKind.wrap_i64]; omega
      clear hx
      go_enter Tryz.func37, Tryz.ntmps37
      go_wp2_with fail
      refine C1.mono ?_
      rintro e2 w2 ⟨rfl, hR2, hM2⟩
      obtain ⟨_, _, _, d1, d2, g1, g2, _, _⟩ := hR2.cells
      have HR2 := hide hR2
      clear hR2
      go_wp2
      go_ret
      rw [HR.out]
      exact ⟨rfl, HR2.out, hM2⟩
  · have HR := hide (show Num.intR b q e most = (0, q', e') by rw [HI.out, if_neg he])
    have he' : (e' != 0) = true := by simpa using he
    clear he
    go_enter Tryz.func37, Tryz.ntmps37
    go_wp2_with fail
    refine C1.mono ?_
    rintro e2 w2 ⟨rfl, hR2, hM2⟩
    obtain ⟨_, _, _, d1, d2, g1, g2, _, _⟩ := hR2.cells
    have HR2 := hide hR2
    clear hR2
    go_wp2
    go_ret
    rw [HR.out]
    exact ⟨rfl, HR2.out, hM2⟩

/-- Behind a call that takes bytes. -/
def Took (P0 : Value → Prop) (w : World) (base g : Nat) (b : List UInt8) (r : List UInt8 × Nat × Int) (e : Ending) (w' : World) : Prop :=
  ∃ v, e = .returned v ∧ OwnB w' w.heap.size v r.1 ∧ CurToF P0 w base g b r.2.1 r.2.2 w'

set_option maxHeartbeats 1000000 in
set_option maxRecDepth 100000 in
theorem curTake_any {P0 : Value → Prop} {w : World} {base g q : Nat} {b : List UInt8} {e : Int} (h : RefCF P0 w base g b q e) (n : Int) :
    Calls Tryz.prog 38 #[.pointer (some ⟨g, 0, none⟩), .int .i64 n] w (Took P0 w base g b (Num.takeR b q e n)) := by
  obtain ⟨A, c, c0, c1, c2, f1, f2, hc, hbb⟩ := h.cells
  obtain ⟨hq, hl⟩ := h.bounds
  have CL := curLeft_any h
  have hglt := h.lt
  by_cases he : e = 0
  · subst he
    by_cases h0 : n < 0
    · have HR := hide (show Num.takeR b q 0 n = ([], q, 13) by unfold Num.takeR; rw [if_pos rfl, if_pos h0])
      have HC := hide h
      clear h
      go_enter Tryz.func38, Tryz.ntmps38
      go_wp2
      go_ret
      rw [HR.out]
      exact ⟨_, rfl, OwnB.nil _ _, HC.out.setErr⟩
    · obtain ⟨k, rfl⟩ := Int.eq_ofNat_of_zero_le (show 0 ≤ n by omega)
      by_cases hs : b.length - q < k
      · have HR := hide (show Num.takeR b q 0 (k : Int) = ([], q, 1) by unfold Num.takeR; rw [if_pos rfl, if_neg h0, if_pos (by omega)])
        have hs' : ((b.length - q : Nat) : Int) < (k : Int) := by omega
        go_enter Tryz.func38, Tryz.ntmps38
        go_wp2_with fail
        refine CL.mono ?_
        rintro e2 w2 ⟨rfl, hQ2⟩
        have hR2 := h.ext hQ2.ext
        obtain ⟨_, _, _, d1, d2, g1, g2, _, _⟩ := hR2.cells
        have HR2 := hide hR2
        clear hR2 h c0 c1 c2 f1 f2
        go_wp2
        go_ret
        rw [HR.out]
        exact ⟨_, rfl, OwnB.nil _ _, (CurToF.refl HR2.out).then HR2.out.setErr |>.1, (Mod.ofExt hQ2.ext).trans HR2.out.setErr.2 (.inl rfl)⟩
      · have HR := hide (show Num.takeR b q 0 (k : Int) = ((b.drop q).take k, q + k, 0) by unfold Num.takeR; rw [if_pos rfl, if_neg h0, if_neg (by omega)]; simp)
        have hs' : ¬ (((b.length - q : Nat) : Int) < (k : Int)) := by omega
        go_enter Tryz.func38, Tryz.ntmps38
        go_wp2_with fail
        refine CL.mono ?_
        rintro e2 w2 ⟨rfl, hQ2⟩
        have hR2 := h.ext hQ2.ext
        obtain ⟨A2, c2', d0, d1, d2, g1, g2, hc2, hbb2⟩ := hR2.cells
        have HR2 := hide hR2
        have ho : OwnB (w2.alloc (.cells #[] 5)).drew w.heap.size (.slice (some ⟨w2.heap.size, 0, none⟩) 0 0) [] := (OwnB.empty w2 hQ2.ext.le).ext (Ext.refl _).drew
        have hE := extNew w2 (.cells #[] 5)
        have hEd : Ext w2 (w2.alloc (.cells #[] 5)).drew := hE.drew
        have k0 : (w2.alloc (.cells #[] 5)).cell? ⟨g, 0, none⟩ = some (.slice A2 b.length c2') := (hE.cell HR2.out.lt).trans d0
        have k1 : (w2.alloc (.cells #[] 5)).cell? ⟨g, 1, none⟩ = some (.int .i64 (q : Int)) := (hE.cell HR2.out.lt).trans d1
        obtain ⟨t, ht⟩ : ∃ t, t = q + k := ⟨_, rfl⟩
        have hw : IntKind.i64.wrap ((q : Int) + k) = (t : Int) := by rw [IntKind.wrap_i64]; omega
        have HTk := hide (show (b.drop q).take k = (b.drop q).take (t - q) by rw [ht, Nat.add_sub_cancel_left])
        have hcut := (hbb2.drop (k := q) hq hc2).take (k := t - q) (by omega)
        have hb' := hEd.bytes hcut
        have hfit : ([] : List UInt8).length + (t - q) ≤ 140737488355328 := by simp; omega
        have hB : w.heap.size ≤ (w2.alloc (.cells #[] 5)).drew.heap.size := (hQ2.ext.trans hEd).le
        have a1 : (0 : Int) ≤ q := by omega
        have a2 : (q : Int) ≤ (t : Int) := by omega
        have a3 : (t : Int) ≤ (c2' : Int) := by omega
        have hqk : q + k ≤ b.length := by omega
        have Ht := hide ht
        clear ht
        clear hR2 h c0 c1 c2 f1 f2 hcut hbb2 hbb
        go_wp2_with fail
        go_region_held3 (fun w' => w'.cell? ⟨g, 0, none⟩ = some (.slice A2 b.length c2') ∧ w'.cell? ⟨g, 1, none⟩ = some (.int .i64 (q : Int))) (first | exact ⟨d0, d1⟩ | exact ⟨k0, k1⟩ | exact ⟨m0, m1⟩) (first
          | (refine step_appAt rfl (.tmp 23) (.tmp 38) rfl rfl ho rfl hb' hfit hB ?_; intro v3 w3 hO3' hG3 _; have hO3 : OwnB w3 w.heap.size v3 ((b.drop q).take (t - q)) := hO3'; have hE3 : Ext w w3 := ho.below (hQ2.ext.trans hEd) hG3 hB; have hE23 : Ext w2 w3 := Below.grown hEd hG3 hEd.le (fun k hk => by cases hk; exact Nat.le_refl _); have m0 : w3.cell? ⟨g, 0, none⟩ = some (.slice A2 b.length c2') := (hE23.cell HR2.out.lt).trans d0; have m1 : w3.cell? ⟨g, 1, none⟩ = some (.int .i64 (q : Int)) := (hE23.cell HR2.out.lt).trans d1; clear hO3' hG3))
        have HR3 := hide (HR2.out.ext hE23)
        have n1 : w3.frozen? ⟨g, 1, none⟩ = false := by obtain ⟨_, _, _, _, _, h, _⟩ := HR3.out.cells; exact h
        clear k0 k1 hE hEd ho hb' hE23
        go_wp2
        go_ret
        have hS := HR3.out.setAt (q' := q + k) (x := (t : Int)) hqk (by have := Ht.out; omega)
        rw [HR.out]
        exact ⟨v3, rfl, by dsimp only; rw [HTk.out]; exact hO3.far (fun e => by have := (hO3.lt _ e).1; omega) 1 _, hS.1, (Mod.ofExt hE3).trans hS.2 (.inl rfl)⟩
  · have HR := hide (show Num.takeR b q e n = ([], q, e) by unfold Num.takeR; rw [if_neg he])
    have he' : (e != 0) = true := by simpa using he
    have HC := hide h
    clear he h
    go_enter Tryz.func38, Tryz.ntmps38
    go_wp2
    go_ret
    rw [HR.out]
    exact ⟨_, rfl, OwnB.nil _ _, CurToF.refl HC.out⟩

end Go.Proofs.YtcphapdjimeoaaaGreat

namespace Go.Proofs.YtcphapdjimeoaaaGreat
open Go.RowKit

theorem ret_u8 {a b : Int} (h : a = b) : Ending.returned (.int .u8 a) = .returned (.int .u8 b) := by rw [h]

theorem Num.intR_le (b : List UInt8) (q : Nat) (e most : Int) (h : (Num.intR b q e most).2.2 = 0) : e = 0 ∧ ((Num.intR b q e most).1 : Int) ≤ most ∧ (Num.intR b q e most).2.1 ≤ b.length := by
  unfold Num.intR at *
  by_cases h1 : (Num.numR b q e).2.2 = 0
  · rw [if_pos h1] at h ⊢
    have he : e = 0 := by
      unfold Num.numR at h1
      by_cases he : e = 0
      · exact he
      · rw [if_neg he] at h1; exact absurd h1 he
    subst he
    by_cases h2 : most < ((Num.numR b q 0).1 : Int)
    · rw [if_pos h2] at h; simp at h
    · rw [if_neg h2] at h ⊢
      exact ⟨rfl, by omega, ((Num.scan_facts b q).2.1 h1).2⟩
  · rw [if_neg h1] at h
    exact absurd h h1

set_option maxHeartbeats 1000000 in
set_option maxRecDepth 100000 in
theorem curText_any {P0 : Value → Prop} {w : World} {base g q : Nat} {b : List UInt8} {e : Int} (h : RefCF P0 w base g b q e) (most : Int) (hm : most ≤ 9223372036854775807) :
    Calls Tryz.prog 39 #[.pointer (some ⟨g, 0, none⟩), .int .i64 most] w fun e' w' => e' = .returned (.string ⟨(Num.textR b q e most).1.toArray⟩) ∧ CurToF P0 w base g b (Num.textR b q e most).2.1 (Num.textR b q e most).2.2 w' := by
  obtain ⟨A, c, c0, c1, c2, f1, f2, hc, hbb⟩ := h.cells
  obtain ⟨hq, hl⟩ := h.bounds
  have CI := curInt_any h most hm
  have HT := hide (show Num.textR b q e most = (if (Num.intR b q e most).2.2 = 0 then (if b.length - (Num.intR b q e most).2.1 < (Num.intR b q e most).1 then ([], q, 1) else Num.takeR b (Num.intR b q e most).2.1 0 ((Num.intR b q e most).1 : Int)) else ([], (Num.intR b q e most).2)) from rfl)
  have HI := hide (Num.intR_le b q e most)
  generalize Num.intR b q e most = r at *
  obtain ⟨x, q', e'⟩ := r
  dsimp only at *
  clear h c0 hbb hc f1 f2
  go_enter Tryz.func39, Tryz.ntmps39
  go_wp2_with fail
  refine CI.mono ?_
  rintro e2 w2 ⟨rfl, hR2, hM2⟩
  obtain ⟨_, _, _, d1, d2, g1, g2, _, _⟩ := hR2.cells
  by_cases he : e' = 0
  · subst he
    by_cases hs : b.length - q' < x
    · have HR := hide (show Num.textR b q e most = ([], q, 1) by rw [HT.out, if_pos rfl, if_pos hs])
      have hs' : ((b.length - q' : Nat) : Int) < (x : Int) := by omega
      go_wp2_with fail
      refine (curLeft_any hR2).mono ?_
      rintro e3 w3 ⟨rfl, hQ3⟩
      have hR3 := hR2.ext hQ3.ext
      obtain ⟨_, _, _, k1, k2, l1, l2, _, _⟩ := hR3.cells
      have HR3 := hide hR3
      clear hR2 hR3 d1 d2 g1 g2
      go_wp2
      go_ret
      have h1 := HR3.out.setAt (q' := q) hq rfl
      have h2 := h1.1.setErr (e' := 1)
      have h12 := h1.then h2
      rw [HR.out]
      exact ⟨rfl, h12.1, (hM2.trans (Mod.ofExt hQ3.ext) (.inl rfl)).trans h12.2 (.inl rfl)⟩
    · have HR := hide (show Num.textR b q e most = Num.takeR b q' 0 (x : Int) by rw [HT.out, if_pos rfl, if_neg hs])
      have hs' : ¬ (((b.length - q' : Nat) : Int) < (x : Int)) := by omega
      go_wp2_with fail
      refine (curLeft_any hR2).mono ?_
      rintro e3 w3 ⟨rfl, hQ3⟩
      have hR3 := hR2.ext hQ3.ext
      clear hR2 d1 d2 g1 g2
      go_wp2_with fail
      refine (curTake_any hR3 (x : Int)).mono ?_
      rintro e4 w4 ⟨v4, rfl, hO4, hR4, hM4⟩
      generalize Num.takeR b q' 0 (x : Int) = rr at *
      obtain ⟨l, q4, e4'⟩ := rr
      dsimp only at *
      obtain ⟨A4, c4, rfl, _, _, hb4⟩ := hO4.form
      have hcv := conv_bytes (w := w4) c4 hb4 (fun h => by subst h; rcases hb4.2 with h | ⟨_, _, h, _⟩; exact h; cases h)
      have HR4 := hide hR4
      clear hR3 hR4 hO4 hb4
      go_wp2
      go_ret
      rw [HR.out]
      exact ⟨rfl, HR4.out, (hM2.trans (Mod.ofExt hQ3.ext) (.inl rfl)).trans hM4 (.inl rfl)⟩
  · have HR := hide (show Num.textR b q e most = ([], q', e') by rw [HT.out, if_neg he])
    have he' : (e' != 0) = true := by simpa using he
    have HR2 := hide hR2
    clear he hR2
    go_wp2
    go_ret
    rw [HR.out]
    exact ⟨rfl, HR2.out, hM2⟩
end Go.Proofs.YtcphapdjimeoaaaGreat

