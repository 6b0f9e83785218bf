/- The library's slices.Chunk at texts: what comes, round by round. -/
import Derived.Test.YtcphapdjimeoaaaGreatB02
import Derived.Test.YtcphapdjimeoaaaGreatB03
import Derived.Test.YtcphapdjimeoaaaGreatB34
namespace Go.Proofs.YtcphapdjimeoaaaGreat
open Go.RowKit Dic

attribute [local go_sem] Oper.semAt_some

/-- Where a part begins. -/
def partA (A : Option Addr) (p : Nat) : Option Addr := A.map fun a => ⟨a.block, a.off + p, none⟩
/-- A part of a list of texts with its room cut. -/
theorem run_midTx (W : World) (b o n c : Nat) (l h : Nat) (h1 : l < h) (h2 : h ≤ c) :
    (Instr.slice 24 (.slice (some ⟨b, o, none⟩) n c) (some (.int .i64 (l : Int))) (some (.int .i64 (h : Int))) (some (.int .i64 (h : Int)))).run Tryz.prog W = .ok (.slice (some ⟨b, o + l, none⟩) (h - l) (h - l)) W := by
  rw [run_slice_lhm (P := Tryz.prog) (w := W) 24 (some ⟨b, o, none⟩) n c (by kernel_rfl) .i64 .i64 .i64 (l : Int) (h : Int) (h : Int) (by omega) (by omega) (by omega) (by omega)]
  have hs : (sizeOf (Tryz.prog.elem 24)).run Tryz.prog W = .ok 1 W := by kernel_rfl
  rw [hs]
  simp [Result.andThen, sliced, show ¬ h = l by omega, Addr.add]
/-- How many stand in chunk k. -/
def chunkS (sz len k : Nat) : Nat := min sz (len - k * sz)

set_option maxHeartbeats 1000000 in
theorem chunkTx_in (n : Nat) (A : Option Addr) (m c sz : Nat) (hs : 1 ≤ sz) (w : World) :
    CallsIn Fence.wide n Tryz.prog 48 #[.slice A m c, .int .i64 (sz : Int)] w fun e w' => e = .returned (.func (.func 72) #[] #[.pointer (some ⟨w.heap.size, 0, none⟩), .pointer (some ⟨w.heap.size + 1, 0, none⟩)]) ∧ w' = (w.alloc (.cells #[.slice A m c] 24)).alloc (.cells #[.int .i64 (sz : Int)] 3) := by
  have hsI : ¬ (sz : Int) < 1 := by omega
  refine callsIn_of_wp Tryz.func48 rfl trivial ?_ rfl
  simp only [Tryz.ntmps48, List.size_toArray, List.length_cons, List.length_nil, Nat.reduceAdd, Nat.reduceSub, Array.replicate_succ, Array.replicate_zero, List.push_toArray, List.append_toArray, List.nil_append, List.cons_append]
  gi_wp2
  go_ret
  exact ⟨rfl, rfl⟩

set_option maxHeartbeats 2000000 in
set_option maxRecDepth 100000 in
theorem chunkTx_gives {n B1 B2 g off len c sz : Nat} {A : Option Addr} {I : Nat → World → Prop} {w : World} (hn : 2 ≤ n) (hN : len ≤ 1000000) (hc : len ≤ c) (_hcm : c ≤ maxLen) (hs : 1 ≤ sz) (hs2 : sz ≤ 64) (hA : len = 0 ∨ A = some ⟨g, off, none⟩)
    (hI : ∀ k W, I k W → W.cell? ⟨B1, 0, none⟩ = some (.slice A len c) ∧ W.cell? ⟨B2, 0, none⟩ = some (.int .i64 (sz : Int))) :
    RGives n Tryz.prog 72 #[.pointer (some ⟨B1, 0, none⟩), .pointer (some ⟨B2, 0, none⟩)] (fun k => #[.slice (partA A (k * sz)) (chunkS sz len k) (chunkS sz len k)]) (bucketsN sz len) I w := by
  unfold maxLen at _hcm
  intro l J W hE hJI hC hY h0
  have HI := hide (fun k W h => hI k W (hJI k W h))
  have HY := hide hY
  have HC := hide hC
  clear hI hY hC hJI
  refine callsIn_of_wp Tryz.func72 rfl trivial ?_ rfl
  simp only [Tryz.ntmps72, List.size_toArray, List.length_cons, List.length_nil, Nat.reduceAdd, Nat.reduceSub, Array.replicate_succ, Array.replicate_zero, List.push_toArray, List.append_toArray, List.nil_append, List.cons_append]
  gi_wp2
  gi_loopw [4] (fun i wr => ∃ (k p : Nat), i = .int .i64 (p : Int) ∧ p = k * sz ∧ k ≤ bucketsN sz len ∧ J k wr) (fun i _ => len + 64 - (intOf i).toNat)
  case atStart => exact ⟨0, 0, rfl, by simp, Nat.zero_le _, h0⟩
  case round =>
    obtain ⟨k, p, rfl, hp, hk, hJ⟩ := hrel
    have HP := hide hp
    obtain ⟨b1, b2⟩ := HI.out k wr hJ
    by_cases hkn : p < len
    · have hkN : k < bucketsN sz len := buckets_over hs (by rw [← hp]; exact hkn)
      have hYk := fun W hJ => HY.out k W hJ hkN
      rcases hA with h | h
      · omega
      subst h
      have hpA : partA (some ⟨g, off, none⟩) p = some ⟨g, off + p, none⟩ := rfl
      rw [← hp, hpA] at hYk
      obtain ⟨q, hq⟩ : ∃ q, q = len - p := ⟨_, rfl⟩
      obtain ⟨e, he⟩ : ∃ e, e = chunkS sz len k := ⟨_, rfl⟩
      have hRC := fun W => run_cutTx W (some ⟨g, off, none⟩) len c .i64 (p : Int) (by omega) (by omega)
      simp only [Int.toNat_natCast] at hRC
      rw [← hq] at hRC
      generalize cutAt (some ⟨g, off, none⟩) c p = A3 at hRC
      generalize c - p = d at hRC
      have HRC := hide hRC
      have he2 : e = min sz q := by rw [he, hq, hp]; rfl
      have HMin := hide (show (if (q : Int) < (sz : Int) then (q : Int) else (sz : Int)) = (e : Int) by
        rw [he2]
        by_cases h : (q : Int) < (sz : Int)
        · rw [if_pos h]; omega
        · rw [if_neg h]; omega)
      have heq : 1 ≤ e ∧ p + e ≤ len := by omega
      obtain ⟨he1, hpe⟩ := heq
      rw [← he] at hYk
      have HYk := hide hYk
      clear hYk
      have hRM : ∀ W, (Instr.slice 24 (.slice (some ⟨g, off, none⟩) len c) (some (.int .i64 (p : Int))) (some (.int .i64 ((p : Int) + (e : Int)))) (some (.int .i64 ((p : Int) + (e : Int))))).run Tryz.prog W = .ok (.slice (some ⟨g, off + p, none⟩) e e) W := fun W => by
        have := run_midTx W g off len c p (p + e) (by omega) (by omega)
        rw [Int.natCast_add, Nat.add_sub_cancel_left] at this
        exact this
      have HRM := hide hRM
      clear hRM
      clear hRC he he2 hq hp
      obtain ⟨wa, rfl⟩ : ∃ W, W = wr := ⟨_, rfl⟩
      gi_wp2
      refine wpIn_wide.2 ?_
      refine wp_region_T (fun W => W.cell? ⟨B1, 0, none⟩ = some (.slice (some ⟨g, off, none⟩) len c) ∧ W.cell? ⟨B2, 0, none⟩ = some (.int .i64 (sz : Int))) 6 7 #[false, false, false, false, false, false, false] (by kernel_rfl) rfl rfl ⟨b1, b2⟩ ?_
      intro hS0
      refine wpAnyT_take 0 (some 13) (.int .i64 (sz : Int)) #[true, false, false, false, false, false, false] rfl rfl rfl (by kernel_rfl) (fun _ _ _ h => h) hS0 (by rfl) (fun W hX => by obtain ⟨f1, f2⟩ := hX; go_simp) ?_
      simp only [Act.put, List.setIfInBounds_toArray, List.set_cons_zero, List.set_cons_succ]
      refine wpAnyT_take 1 (some 14) (.slice (some ⟨g, off, none⟩) len c) #[true, true, false, false, false, false, false] rfl rfl rfl (by kernel_rfl) (fun _ _ _ h => h) hS0 (by rfl) (fun W hX => by obtain ⟨f1, f2⟩ := hX; go_simp) ?_
      simp only [Act.put, List.setIfInBounds_toArray, List.set_cons_zero, List.set_cons_succ]
      refine wpAnyT_take 2 (some 15) (.int .i64 (p : Int)) #[true, true, true, false, false, false, false] rfl rfl rfl (by kernel_rfl) (fun _ _ _ h => h) hS0 (by rfl) (fun W hX => by go_simp) ?_
      simp only [Act.put, List.setIfInBounds_toArray, List.set_cons_zero, List.set_cons_succ]
      refine wpAnyT_take 3 (some 16) (.slice A3 q d) #[true, true, true, true, false, false, false] rfl rfl rfl (by kernel_rfl) (fun _ _ _ h => h) hS0 (by rfl) (fun W hX => by have hr := HRC.out W; go_simp) ?_
      simp only [Act.put, List.setIfInBounds_toArray, List.set_cons_zero, List.set_cons_succ]
      refine wpAnyT_take 4 (some 17) (.int .i64 (q : Int)) #[true, true, true, true, true, false, false] rfl rfl rfl (by kernel_rfl) (fun _ _ _ h => h) hS0 (by rfl) (fun W hX => by go_simp) ?_
      simp only [Act.put, List.setIfInBounds_toArray, List.set_cons_zero, List.set_cons_succ]
      refine wpAnyT_take 5 (some 18) (.int .i64 (e : Int)) #[true, true, true, true, true, true, false] rfl rfl rfl (by kernel_rfl) (fun _ _ _ h => h) hS0 (by rfl) (fun W hX => by go_simp; first | exact HMin.out | (have h := HMin.out; split at h <;> omega)) ?_
      simp only [Act.put, List.setIfInBounds_toArray, List.set_cons_zero, List.set_cons_succ]
      refine wpAnyT_only 6 #[true, true, true, true, true, true, true] (by kernel_rfl) rfl rfl (by rfl) (fun K1 hK1 => ?_)
      go_simp
      refine hK1 _ _ (fun h => absurd h (by decide)) (wpAnyT_done (by kernel_rfl) ?_ _)
      clear hK1 K1
      have hJ3 := HC.out k wa wa.drew hJ ⟨rfl, rfl, rfl, Nat.le_refl _, fun _ _ _ => rfl⟩
      obtain ⟨d1, d2⟩ := hS0
      generalize wa.drew = w3 at hJ3 d1 d2 ⊢
      obtain ⟨fn, tmps, assign, body, hy, hR⟩ := HYk.out w3 hJ3
      have hRM := HRM.out
      clear hJ b1 b2
      gi_wp2
      refine ⟨fun _ => by omega, hR.mono ?_⟩
      rintro e4 W4 ⟨rfl, hJ4⟩
      obtain ⟨f1, f2⟩ := HI.out (k + 1) W4 hJ4
      gi_wp2
      go_roundw
      case rel => exact ⟨k + 1, p + sz, by go_num, by rw [HP.out, Nat.add_mul, Nat.one_mul], hkN, hJ4⟩
      case measure => simp [intOf]; omega
    · have hpI : ¬ (p : Int) < (len : Int) := by omega
      have hkk : k = bucketsN sz len := by
        rcases Nat.lt_or_ge k (bucketsN sz len) with h | h
        · have := buckets_in hs h
          omega
        · omega
      rw [hkk] at hJ
      clear hp
      gi_wp2
      go_end0
      exact ⟨⟨_, rfl⟩, hJ⟩
end Go.Proofs.YtcphapdjimeoaaaGreat

