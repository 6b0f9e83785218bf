/- The program's together: lists put together by halves. -/
import Derived.Test.YtfkmcknkapplmaaSetPMerge
import Derived.Test.YtfkmcknkapplmaaRegTail
namespace Go.Proofs.Ytfkmcknkapplmaa
open Go.RowKit Sets

theorem run_cutLL (W : World) (a : Option Addr) (n c : Nat) (k : IntKind) (l : Int) (h0 : 0 ≤ l) (h1 : l ≤ n) :
    (Instr.slice 28 (.slice a n c) (some (.int k l)) none none).run Try.prog W = .ok (.slice (cutAt a c l.toNat) (n - l.toNat) (c - l.toNat)) W := by
  rw [run_slice_l (P := Try.prog) (w := W) 28 a n c (by kernel_rfl) k l h0 h1]
  have hs : (sizeOf (Try.prog.elem 28)).run Try.prog W = .ok 1 W := by kernel_rfl
  rw [hs]
  simp [Result.andThen, sliced, cutAt]
theorem run_topLL (W : World) (a : Option Addr) (n c : Nat) (k : IntKind) (h : Int) (h0 : 0 ≤ h) (h2 : h ≤ c) :
    (Instr.slice 28 (.slice a n c) none (some (.int k h)) none).run Try.prog W = .ok (.slice a h.toNat c) W := by
  rw [run_slice_h (P := Try.prog) (w := W) 28 a n c (by kernel_rfl) k h h0 h2]
  have hs : (sizeOf (Try.prog.elem 28)).run Try.prog W = .ok 1 W := by kernel_rfl
  rw [hs]
  rcases a with _ | ⟨b, o, s⟩ <;> simp [Result.andThen, sliced, Addr.add]
theorem ILists.top {w : World} {B n : Nat} {A : Option Addr} {ls : List (List Int)} (h : ILists w B A n ls) {k : Nat} (hk : k ≤ n) : ILists w B A k (ls.take k) := by
  refine ⟨by rw [List.length_take, h.1]; omega, ?_⟩
  rcases h.2 with h0 | ⟨b, off, hA, hB, hc⟩
  · exact .inl (by omega)
  · refine .inr ⟨b, off, hA, hB, fun i hi => ?_⟩
    obtain ⟨v, h1, h2⟩ := hc i (by omega)
    refine ⟨v, h1, ?_⟩
    have e : (ls.take k).getD i [] = ls.getD i [] := by simp [List.getD_eq_getElem?_getD, hi]
    rwa [e]
theorem ILists.cut {w : World} {B n : Nat} {A : Option Addr} {ls : List (List Int)} (h : ILists w B A n ls) {k c : Nat} (hk : k ≤ n) (hc : n ≤ c) : ILists w B (cutAt A c k) (n - k) (ls.drop k) := by
  refine ⟨by rw [List.length_drop, h.1], ?_⟩
  by_cases hkn : k = n
  · exact .inl (by omega)
  rcases h.2 with h0 | ⟨b, off, rfl, hB, hcell⟩
  · exact .inl (by omega)
  · refine .inr ⟨b, off + k, ?_, hB, fun i hi => ?_⟩
    · simp [cutAt, show ¬ c = k by omega, Addr.add]
    · obtain ⟨v, h1, h2⟩ := hcell (k + i) (by omega)
      refine ⟨v, by rw [Nat.add_assoc]; exact h1, ?_⟩
      have e : (ls.drop k).getD i [] = ls.getD (k + i) [] := by simp [List.getD_eq_getElem?_getD]
      rwa [e]
theorem Sets.all_take {ls : List (List Int)} (h : all ls = true) (k : Nat) : all (ls.take k) = true := List.all_eq_true.2 fun l hl => List.all_eq_true.1 h l (List.mem_of_mem_take hl)
theorem Sets.all_drop {ls : List (List Int)} (h : all ls = true) (k : Nat) : all (ls.drop k) = true := List.all_eq_true.2 fun l hl => List.all_eq_true.1 h l (List.mem_of_mem_drop hl)
/-- Both halves put together. -/
theorem Sets.any_halves {ls : List (List Int)} (h : all ls = true) (k : Nat) (r : List Int) (hr : ok r = true) (hm : ∀ z, z ∈ r ↔ z ∈ anyL (ls.take k) ∨ z ∈ anyL (ls.drop k)) : r = anyL ls := by
  refine ok_ext hr (ok_any h) fun z => ?_
  rw [hm z, mem_any h, mem_any (all_take h k), mem_any (all_drop h k)]
  constructor
  · rintro (⟨l, h1, h2⟩ | ⟨l, h1, h2⟩)
    · exact ⟨l, List.mem_of_mem_take h1, h2⟩
    · exact ⟨l, List.mem_of_mem_drop h1, h2⟩
  · rintro ⟨l, h1, h2⟩
    rw [← List.take_append_drop k ls, List.mem_append] at h1
    exact h1.imp (fun h => ⟨l, h, h2⟩) (fun h => ⟨l, h, h2⟩)
theorem Sets.any_one {l : List Int} (h : ok l = true) : anyL [l] = l := by
  have ha : all [l] = true := by simp [all, h]
  exact ok_ext (ok_any ha) h fun z => by rw [mem_any ha]; simp

attribute [local go_sem ↓] run_cutLL run_topLL
set_option maxHeartbeats 2000000 in
set_option maxRecDepth 10000 in
theorem together_any : ∀ (f : Nat) (A : Option Addr) (n c : Nat) (ls : List (List Int)) (w : World), n ≤ f → ILists w w.heap.size A n ls → n ≤ c → c ≤ maxLen → n ≤ 12 → (∀ l, l ∈ ls → l.length ≤ 20000) → all ls = true →
    Calls Try.prog 32 #[.slice A n c] w (MadeL w (anyL ls)) := by
  intro f
  induction f with
  | zero =>
    intro A n c ls w hf h hc hm hn hs ha
    obtain rfl : n = 0 := by omega
    obtain rfl : ls = [] := List.eq_nil_of_length_eq_zero h.1
    unfold MadeL
    clear h
    go_enter Try.func32, Try.ntmps32
    go_wp2
    go_ret
    exact ⟨none, 0, rfl, Nat.le_refl _, by unfold maxLen; omega, ⟨rfl, .inl rfl⟩, Ext.refl _⟩
  | succ f ih =>
    intro A n c ls w hf h hc hm hn hs ha
    have hl := h.1
    by_cases h0 : n = 0
    · exact ih A n c ls w (by omega) h hc hm hn hs ha
    by_cases h1 : n = 1
    · subst h1
      obtain ⟨l, rfl⟩ : ∃ l, ls = [l] := List.length_eq_one_iff.1 hl
      have hlo : ok l = true := by simpa [all] using ha
      rw [any_one hlo]
      obtain ⟨b1, o1, a1, c1, rfl, e1, k1, k2, hr⟩ := h.at (i := 0) (by omega)
      have hl2 : l.length ≤ 20000 := hs l (by simp)
      have e1 : w.cell? ⟨b1, o1, none⟩ = some (.slice a1 l.length c1) := e1
      have C := cloneI_any a1 l.length c1 l w (by omega) hr
      obtain ⟨m, hm2⟩ : ∃ m, m = l.length := ⟨_, rfl⟩
      rw [← hm2] at e1 C
      have HC := hide C
      clear h hs ha hl hlo hr C hm2 k1 hl2
      go_enter Try.func32, Try.ntmps32
      go_wp2_with fail
      refine HC.out.mono ?_
      rintro e w2 ⟨A2, c2, rfl, q1, q2, q3, hE2⟩
      have HF := hide (And.intro q1 (And.intro q2 (And.intro q3 hE2)))
      clear q1 q2 q3 hE2
      go_wp2
      go_ret
      exact ⟨A2, c2, rfl, HF.out.1, HF.out.2.1, HF.out.2.2.1, HF.out.2.2.2⟩
    · obtain ⟨k, hk⟩ : ∃ k, k = n / 2 := ⟨_, rfl⟩
      have hkn : k ≤ n := by omega
      have hk0 : 0 < k := by omega
      have hkc : (k : Int) ≤ (c : Int) := by omega
      have hkI : (k : Int) ≤ (n : Int) := by omega
      have hq : (n : Int) / 2 = (k : Int) := by omega
      have hqt : (n : Int).tdiv 2 = (k : Int) := by rw [Int.tdiv_eq_ediv_of_nonneg (by omega)]; omega
      have hwk : IntKind.i64.wrap (k : Int) = (k : Int) := by rw [IntKind.wrap_i64]; omega
      have b0 : ((n : Int) == 0) = false := by rw [beq_eq_false_iff_ne]; omega
      have b1 : ((n : Int) == 1) = false := by rw [beq_eq_false_iff_ne]; omega
      have z1 := any_len (ls.take k) 20000 (fun l hl => hs l (List.mem_of_mem_take hl))
      have z2 := any_len (ls.drop k) 20000 (fun l hl => hs l (List.mem_of_mem_drop hl))
      have y1 : (anyL (ls.take k)).length ≤ 500000 := Nat.le_trans z1 (Nat.le_trans (Nat.mul_le_mul_right _ (show (ls.take k).length ≤ 12 by rw [List.length_take]; omega)) (by omega))
      have y2 : (anyL (ls.drop k)).length ≤ 500000 := Nat.le_trans z2 (Nat.le_trans (Nat.mul_le_mul_right _ (show (ls.drop k).length ≤ 12 by rw [List.length_drop]; omega)) (by omega))
      have C1 := hide (show ∀ W, Ext w W → Calls Try.prog 32 #[.slice A k c] W (MadeL W (anyL (ls.take k))) from fun W hE =>
        ih A k c (ls.take k) W (by omega) ((h.ext hE).top hkn) (by omega) hm (by omega) (fun l hl => hs l (List.mem_of_mem_take hl)) (all_take ha k))
      have C2 := hide (show ∀ W, Ext w W → Calls Try.prog 32 #[.slice (cutAt A c k) (n - k) (c - k)] W (MadeL W (anyL (ls.drop k))) from fun W hE =>
        ih _ (n - k) (c - k) (ls.drop k) W (by omega) ((h.ext hE).cut hkn hc) (by omega) (by omega) (by omega) (fun l hl => hs l (List.mem_of_mem_drop hl)) (all_drop ha k))
      have C3 := hide (show ∀ (W : World) (A1 : Option Addr) (c1 : Nat) (A2 : Option Addr) (c2 : Nat), IntsAt W W.heap.size A1 (anyL (ls.take k)).length (anyL (ls.take k)) → IntsAt W W.heap.size A2 (anyL (ls.drop k)).length (anyL (ls.drop k)) → (anyL (ls.drop k)).length ≤ c2 → c2 ≤ maxLen →
          Calls Try.prog 41 #[.slice A1 (anyL (ls.take k)).length c1, .slice A2 (anyL (ls.drop k)).length c2] W (MadeL W (anyL ls)) from fun W A1 c1 A2 c2 i1 i2 j1 j2 =>
        merged_any A1 _ c1 A2 _ c2 _ _ W i1 i2 y1 y2 j1 j2 (ok_any (all_take ha k)) (ok_any (all_drop ha k)) (any_halves ha k))
      generalize anyL (ls.take k) = l1 at *
      generalize anyL (ls.drop k) = l2 at *
      generalize anyL ls = res at *
      unfold MadeL at C1 C2 C3 ⊢
      clear h hs ha ih hl hk z1 z2 y1 y2
      go_enter Try.func32, Try.ntmps32
      go_wp2_with fail
      refine wp_region_T (fun W => Ext w W) 11 12 #[false, false, false, false, false, false, false, false, false, false, false, false] (by kernel_rfl) rfl rfl (Ext.refl w).drew ?_
      intro hS0
      refine wpAnyT_take 0 (some 7) (.slice A n c) #[true, false, false, false, false, false, false, false, false, false, false, false] rfl rfl rfl (by kernel_rfl) (fun _ _ _ h => h) hS0 (by rfl) (fun W hX => by go_simp) ?_
      simp only [Act.put, List.setIfInBounds_toArray, List.set_cons_zero, List.set_cons_succ]
      refine wpAnyT_take 1 (some 8) (.int .i64 (n : Int)) #[true, true, false, false, false, false, false, false, false, false, false, false] rfl rfl rfl (by kernel_rfl) (fun _ _ _ h => h) hS0 (by rfl) (fun W hX => by go_simp) ?_
      simp only [Act.put, List.setIfInBounds_toArray, List.set_cons_zero, List.set_cons_succ]
      refine wpAnyT_take 2 (some 9) (.int .i64 (k : Int)) #[true, true, true, false, false, false, false, false, false, false, false, false] rfl rfl rfl (by kernel_rfl) (fun _ _ _ h => h) hS0 (by rfl) (fun W hX => by go_simp) ?_
      simp only [Act.put, List.setIfInBounds_toArray, List.set_cons_zero, List.set_cons_succ]
      refine wpAnyT_take 3 (some 10) (.slice A k c) #[true, true, true, true, false, false, false, false, false, false, false, false] rfl rfl rfl (by kernel_rfl) (fun _ _ _ h => h) hS0 (by rfl) (fun W hX => by go_simp) ?_
      simp only [Act.put, List.setIfInBounds_toArray, List.set_cons_zero, List.set_cons_succ]
      refine wpAnyT_take 5 (some 12) (.slice A n c) #[true, true, true, true, false, true, false, false, false, false, false, false] rfl rfl rfl (by kernel_rfl) (fun _ _ _ h => h) hS0 (by rfl) (fun W hX => by go_simp) ?_
      simp only [Act.put, List.setIfInBounds_toArray, List.set_cons_zero, List.set_cons_succ]
      refine wpAnyT_take 6 (some 13) (.int .i64 (n : Int)) #[true, true, true, true, false, true, true, false, false, false, false, false] rfl rfl rfl (by kernel_rfl) (fun _ _ _ h => h) hS0 (by rfl) (fun W hX => by go_simp) ?_
      simp only [Act.put, List.setIfInBounds_toArray, List.set_cons_zero, List.set_cons_succ]
      refine wpAnyT_take 7 (some 14) (.int .i64 (k : Int)) #[true, true, true, true, false, true, true, true, false, false, false, false] rfl rfl rfl (by kernel_rfl) (fun _ _ _ h => h) hS0 (by rfl) (fun W hX => by go_simp) ?_
      simp only [Act.put, List.setIfInBounds_toArray, List.set_cons_zero, List.set_cons_succ]
      refine wpAnyT_take 8 (some 15) (.slice (cutAt A c k) (n - k) (c - k)) #[true, true, true, true, false, true, true, true, true, false, false, false] rfl rfl rfl (by kernel_rfl) (fun _ _ _ h => h) hS0 (by rfl) (fun W hX => by go_simp) ?_
      simp only [Act.put, List.setIfInBounds_toArray, List.set_cons_zero, List.set_cons_succ]
      refine wpAnyT_only 4 #[true, true, true, true, true, true, true, true, true, false, false, false] (by kernel_rfl) rfl rfl (by rfl) (fun K0 hK0 => ?_)
      go_simp
      go_at_call 32
      refine (C1.out _ hS0).mono ?_
      rintro e w1 ⟨A1, c1, rfl, p1, p2, p3, hE1⟩
      have hS1 := hS0.trans hE1
      refine hK0 _ _ (fun _ => hS1) ?_
      clear hK0 K0
      refine wpAnyT_only 9 #[true, true, true, true, true, true, true, true, true, true, false, false] (by kernel_rfl) rfl rfl (by rfl) (fun K1 hK1 => ?_)
      go_simp
      go_at_call 32
      refine (C2.out _ hS1).mono ?_
      rintro e w2 ⟨A2, c2, rfl, q1, q2, q3, hE2⟩
      have hS2 := hS1.trans hE2
      have CM := C3.out _ A1 c1 A2 c2 (p3.later hE2) q3 q1 q2
      refine hK1 _ _ (fun _ => hS2) ?_
      clear hK1 K1
      refine wpAnyT_only 10 #[true, true, true, true, true, true, true, true, true, true, true, false] (by kernel_rfl) rfl rfl (by rfl) (fun K2 hK2 => ?_)
      go_simp
      go_at_call 41
      refine CM.mono ?_
      rintro e w3 ⟨A3, c3, rfl, r1, r2, r3, hE3⟩
      have hS3 := hS2.trans hE3
      refine hK2 _ _ (fun _ => hS3) ?_
      clear hK2 K2
      refine wpAnyT_only 11 #[true, true, true, true, true, true, true, true, true, true, true, true] (by kernel_rfl) rfl rfl (by rfl) (fun K3 hK3 => ?_)
      go_simp
      refine hK3 _ _ (fun h => absurd h (by decide)) (wpAnyT_done (by kernel_rfl) ?_ _)
      clear hK3 K3
      go_wp2
      go_ret
      exact ⟨A3, c3, rfl, r1, r2, r3, hS3⟩
end Go.Proofs.Ytfkmcknkapplmaa
