/- In a round of a loop over an iterator: what a call, a store, an append leave of the loop's own blocks. The library's slices.Chunk at bytes that fill all chunks: what comes, round by round. -/
import Derived.Test.YtkfipfhmbhmamaaDoorB02
import Derived.Test.YtkfipfhmbhmamaaDoorB03
import Derived.Test.YtkfipfhmbhmamaaDoorB20
namespace Go.Proofs.YtkfipfhmbhmamaaDoor
open Go.RowKit

theorem KeepsOthers.ofExt {W W' : World} (hE : Ext W W') : KeepsOthers W W' := KeepsOthers.of_grownBy (row := none) ⟨hE.os, hE.tape, hE.output, hE.le, fun k hk _ => hE.block k hk⟩ (fun _ _ h => by cases h)
theorem KeepsOthers.ofWhole {W W' : World} {g : Nat} {t : TypeId} {cs : Array Value} (h : Whole W g t cs) (hG : W.grownBy W' (some g)) : KeepsOthers W W' := KeepsOthers.of_grownBy hG (fun j o hj ho => by
  simp only [Option.some.injEq] at hj
  subst hj
  unfold Whole at h
  rw [h] at ho
  cases ho
  rfl)
theorem KeepsOthers.ofOwn {W W' : World} {base : Nat} {v : Value} {l : List UInt8} (h : OwnB W base v l) (hG : W.grownBy W' v.ownBlock) : KeepsOthers W W' := KeepsOthers.of_grownBy hG (fun j o hj ho => by
  rcases h.2 with ⟨rfl, _⟩ | ⟨g1, c1, u1, rfl, _, hg1, _⟩
  · cases hj
  · simp only [Value.ownBlock, Option.some.injEq] at hj
    subst hj
    rw [hg1] at ho
    cases ho
    rfl)
theorem wpListIn_appAtR {ops : Array Oper} {rest : List Oper} {o : Oper} {a : Act} {Q : Exit → Act → World → Prop} {w : World} {base : Nat} {v : Value} {l : List UInt8} (L N : Nat) (hgd : o.guard = none) (s x : Operand) (ho : o.op = .call { callee := .builtin .append, args := #[s, x], argTypes := #[27, 27] }) (hs : a.eval s = v) (hown : OwnB w base v l)
    {A : Option Addr} {m c : Nat} {k : List UInt8} (hx : a.eval x = .slice A m c) (hb : Bytes w w.heap.size A m k) (hlen : l.length + m ≤ 140737488355328) (hbase : base ≤ w.heap.size)
    (h : ∀ v' w', OwnB w' base v' (l ++ k) → w.grownBy w' v.ownBlock → NewOb w v.ownBlock v'.ownBlock → wpListIn (Fence.wide.inRound L) N Tryd.prog ops Q rest (a.put o.dst v') w') : wpListIn (Fence.wide.inRound L) N Tryd.prog ops Q (o :: rest) a w :=
  wpListIn_plain hgd fun _ hK => operRound L N (fun c hc => by rw [ho] at hc; cases hc) (wp_appAt s x ho hs hown hx hb hlen hbase fun v' w' h2 h3 h4 => hK _ _ (h v' w' h2 h3 h4))
end Go.Proofs.YtkfipfhmbhmamaaDoor

namespace Go.Proofs.YtkfipfhmbhmamaaDoor
open Go.RowKit

attribute [local go_sem] Oper.semAt_some

/-- Where a part begins. -/
def partB (A : Option Addr) (p : Nat) : Option Addr := A.map fun a => ⟨a.block, a.off + p, none⟩
/-- A part of bytes with its room cut. -/
theorem run_midBB (W : World) (b o n c : Nat) (l h : Nat) (h1 : l < h) (h2 : h ≤ c) :
    (Instr.slice 27 (.slice (some ⟨b, o, none⟩) n c) (some (.int .i64 (l : Int))) (some (.int .i64 (h : Int))) (some (.int .i64 (h : Int)))).run Tryd.prog W = .ok (.slice (some ⟨b, o + l, none⟩) (h - l) (h - l)) W := by
  rw [run_slice_lhm (P := Tryd.prog) (w := W) 27 (some ⟨b, o, none⟩) n c (by kernel_rfl) .i64 .i64 .i64 (l : Int) (h : Int) (h : Int) (by omega) (by omega) (by omega) (by omega)]
  have hs : (sizeOf (Tryd.prog.elem 27)).run Tryd.prog W = .ok 1 W := by kernel_rfl
  rw [hs]
  simp [Result.andThen, sliced, show ¬ h = l by omega, Addr.add]
set_option maxHeartbeats 1000000 in
theorem chunkB_in (n : Nat) (A : Option Addr) (m c sz : Nat) (hs : 1 ≤ sz) (w : World) :
    CallsIn Fence.wide n Tryd.prog 50 #[.slice A m c, .int .i64 (sz : Int)] w fun e w' => e = .returned (.func (.func 70) #[] #[.pointer (some ⟨w.heap.size, 0, none⟩), .pointer (some ⟨w.heap.size + 1, 0, none⟩)]) ∧ w' = (w.alloc (.cells #[.slice A m c] 27)).alloc (.cells #[.int .i64 (sz : Int)] 3) := by
  have hsI : ¬ (sz : Int) < 1 := by omega
  refine callsIn_of_wp Tryd.func50 rfl trivial ?_ rfl
  simp only [Tryd.ntmps50, List.size_toArray, List.length_cons, List.length_nil, Nat.reduceAdd, Nat.reduceSub, Array.replicate_succ, Array.replicate_zero, List.push_toArray, List.append_toArray, List.nil_append, List.cons_append]
  gi_wp2
  go_ret
  exact ⟨rfl, rfl⟩

set_option maxHeartbeats 2000000 in
set_option maxRecDepth 100000 in
theorem chunkB_gives {n B1 B2 g off len c sz N : Nat} {A : Option Addr} {I : Nat → World → Prop} {w : World} (hn : 2 ≤ n) (hN : len ≤ 1000000) (hc : len ≤ c) (_hcm : c ≤ maxLen) (hs : 1 ≤ sz) (hs2 : sz ≤ 4100) (hlen : len = N * sz) (hA : len = 0 ∨ A = some ⟨g, off, none⟩)
    (hI : ∀ k W, I k W → W.cell? ⟨B1, 0, none⟩ = some (.slice A len c) ∧ W.cell? ⟨B2, 0, none⟩ = some (.int .i64 (sz : Int))) :
    RGives n Tryd.prog 70 #[.pointer (some ⟨B1, 0, none⟩), .pointer (some ⟨B2, 0, none⟩)] (fun k => #[.slice (partB A (k * sz)) sz sz]) N I w := by
  unfold maxLen at _hcm
  intro l J W hE hJI hC hY h0
  have HI := hide (fun k W h => hI k W (hJI k W h))
  have HY := hide hY
  have HC := hide hC
  have HLen := hide hlen
  clear hI hY hC hJI hlen
  refine callsIn_of_wp Tryd.func70 rfl trivial ?_ rfl
  simp only [Tryd.ntmps70, List.size_toArray, List.length_cons, List.length_nil, Nat.reduceAdd, Nat.reduceSub, Array.replicate_succ, Array.replicate_zero, List.push_toArray, List.append_toArray, List.nil_append, List.cons_append]
  gi_wp2
  gi_loopw [4] (fun i wr => ∃ (k p : Nat), i = .int .i64 (p : Int) ∧ p = k * sz ∧ k ≤ N ∧ J k wr) (fun i _ => len + 4100 - (intOf i).toNat)
  case atStart => exact ⟨0, 0, rfl, by simp, Nat.zero_le _, h0⟩
  case round =>
    obtain ⟨k, p, rfl, hp, hk, hJ⟩ := hrel
    have HP := hide hp
    obtain ⟨b1, b2⟩ := HI.out k wr hJ
    by_cases hkn : p < len
    · have hkN : k < N := Nat.lt_of_mul_lt_mul_right (by rw [← hp, ← HLen.out]; exact hkn)
      have hpe : p + sz ≤ len := by rw [hp, HLen.out, ← Nat.succ_mul]; exact Nat.mul_le_mul_right _ hkN
      have hYk := fun W hJ => HY.out k W hJ hkN
      rcases hA with h | h
      · omega
      subst h
      have hpA : partB (some ⟨g, off, none⟩) p = some ⟨g, off + p, none⟩ := rfl
      rw [← hp, hpA] at hYk
      obtain ⟨q, hq⟩ : ∃ q, q = len - p := ⟨_, rfl⟩
      have hRC := fun W => run_cut W (some ⟨g, off, none⟩) len c .i64 (p : Int) (by omega) (by omega)
      simp only [Int.toNat_natCast] at hRC
      rw [← hq] at hRC
      generalize cutAt (some ⟨g, off, none⟩) c p = A3 at hRC
      generalize c - p = d at hRC
      have HRC := hide hRC
      have HMin := hide (show (if (q : Int) < (sz : Int) then (q : Int) else (sz : Int)) = (sz : Int) by
        by_cases h : (q : Int) < (sz : Int)
        · rw [if_pos h]; omega
        · rw [if_neg h])
      have HYk := hide hYk
      clear hYk
      have hRM : ∀ W, (Instr.slice 27 (.slice (some ⟨g, off, none⟩) len c) (some (.int .i64 (p : Int))) (some (.int .i64 ((p : Int) + (sz : Int)))) (some (.int .i64 ((p : Int) + (sz : Int))))).run Tryd.prog W = .ok (.slice (some ⟨g, off + p, none⟩) sz sz) W := fun W => by
        have := run_midBB W g off len c p (p + sz) (by omega) (by omega)
        rw [Int.natCast_add, Nat.add_sub_cancel_left] at this
        exact this
      have HRM := hide hRM
      clear hRM
      clear hRC hq hp
      obtain ⟨wa, rfl⟩ : ∃ W, W = wr := ⟨_, rfl⟩
      gi_wp2
      refine wpIn_wide.2 ?_
      refine wp_region_T (fun W => W.cell? ⟨B1, 0, none⟩ = some (.slice (some ⟨g, off, none⟩) len c) ∧ W.cell? ⟨B2, 0, none⟩ = some (.int .i64 (sz : Int))) 6 7 #[false, false, false, false, false, false, false] (by kernel_rfl) rfl rfl ⟨b1, b2⟩ ?_
      intro hS0
      refine wpAnyT_take 0 (some 13) (.int .i64 (sz : Int)) #[true, false, false, false, false, false, false] rfl rfl rfl (by kernel_rfl) (fun _ _ _ h => h) hS0 (by rfl) (fun W hX => by obtain ⟨f1, f2⟩ := hX; go_simp) ?_
      simp only [Act.put, List.setIfInBounds_toArray, List.set_cons_zero, List.set_cons_succ]
      refine wpAnyT_take 1 (some 14) (.slice (some ⟨g, off, none⟩) len c) #[true, true, false, false, false, false, false] rfl rfl rfl (by kernel_rfl) (fun _ _ _ h => h) hS0 (by rfl) (fun W hX => by obtain ⟨f1, f2⟩ := hX; go_simp) ?_
      simp only [Act.put, List.setIfInBounds_toArray, List.set_cons_zero, List.set_cons_succ]
      refine wpAnyT_take 2 (some 15) (.int .i64 (p : Int)) #[true, true, true, false, false, false, false] rfl rfl rfl (by kernel_rfl) (fun _ _ _ h => h) hS0 (by rfl) (fun W hX => by go_simp) ?_
      simp only [Act.put, List.setIfInBounds_toArray, List.set_cons_zero, List.set_cons_succ]
      refine wpAnyT_take 3 (some 16) (.slice A3 q d) #[true, true, true, true, false, false, false] rfl rfl rfl (by kernel_rfl) (fun _ _ _ h => h) hS0 (by rfl) (fun W hX => by have hr := HRC.out W; go_simp) ?_
      simp only [Act.put, List.setIfInBounds_toArray, List.set_cons_zero, List.set_cons_succ]
      refine wpAnyT_take 4 (some 17) (.int .i64 (q : Int)) #[true, true, true, true, true, false, false] rfl rfl rfl (by kernel_rfl) (fun _ _ _ h => h) hS0 (by rfl) (fun W hX => by go_simp) ?_
      simp only [Act.put, List.setIfInBounds_toArray, List.set_cons_zero, List.set_cons_succ]
      refine wpAnyT_take 5 (some 18) (.int .i64 (sz : Int)) #[true, true, true, true, true, true, false] rfl rfl rfl (by kernel_rfl) (fun _ _ _ h => h) hS0 (by rfl) (fun W hX => by go_simp; first | exact HMin.out | (have h := HMin.out; split at h <;> omega)) ?_
      simp only [Act.put, List.setIfInBounds_toArray, List.set_cons_zero, List.set_cons_succ]
      refine wpAnyT_only 6 #[true, true, true, true, true, true, true] (by kernel_rfl) rfl rfl (by rfl) (fun K1 hK1 => ?_)
      go_simp
      refine hK1 _ _ (fun h => absurd h (by decide)) (wpAnyT_done (by kernel_rfl) ?_ _)
      clear hK1 K1
      have hJ3 := HC.out k wa wa.drew hJ ⟨rfl, rfl, rfl, Nat.le_refl _, fun _ _ _ => rfl⟩
      obtain ⟨d1, d2⟩ := hS0
      generalize wa.drew = w3 at hJ3 d1 d2 ⊢
      obtain ⟨fn, tmps, assign, body, hy, hR⟩ := HYk.out w3 hJ3
      have hRM := HRM.out
      clear hJ b1 b2
      gi_wp2
      refine ⟨fun _ => by omega, hR.mono ?_⟩
      rintro e4 W4 ⟨rfl, hJ4⟩
      obtain ⟨f1, f2⟩ := HI.out (k + 1) W4 hJ4
      gi_wp2
      go_roundw
      case rel => exact ⟨k + 1, p + sz, by go_num, by rw [HP.out, Nat.succ_mul], hkN, hJ4⟩
      case measure => simp [intOf]; omega
    · have hpI : ¬ (p : Int) < (len : Int) := by omega
      have hkk : k = N := by
        rcases Nat.lt_or_ge k N with h | h
        · have h1 : k * sz + sz ≤ N * sz := by rw [← Nat.succ_mul]; exact Nat.mul_le_mul_right _ h
          have h2 := HLen.out
          omega
        · omega
      rw [hkk] at hJ
      clear hp
      gi_wp2
      go_end0
      exact ⟨⟨_, rfl⟩, hJ⟩
end Go.Proofs.YtkfipfhmbhmamaaDoor

