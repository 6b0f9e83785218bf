/- What goes on in each of the cursor's reading calls: the number. -/
import Derived.Test.YtgnmdpklkmlpfaaCurCount
import Derived.Test.YtgnmdpklkmlpfaaRegTail
namespace Go.Proofs.Ytgnmdpklkmlpfaa
open Go.RowKit

theorem Num.scanF_drop (b : List UInt8) (q : Nat) : ∀ (f i x : Nat), Num.scanF b q f i x = ((Num.scanF (b.drop q) 0 f i x).1, q + (Num.scanF (b.drop q) 0 f i x).2.1, (Num.scanF (b.drop q) 0 f i x).2.2)
  | 0, _, _ => by simp [Num.scanF]
  | f + 1, i, x => by
    have hg : (b.drop q).getD (0 + i) 0 = b.getD (q + i) 0 := by simp [List.getD_eq_getElem?_getD]
    rw [Num.scanF, Num.scanF, hg, List.length_drop]
    by_cases h1 : b.length ≤ q + i
    · have h1' : b.length - q ≤ 0 + i := by omega
      simp only [if_pos h1, if_pos h1']; simp
    · have h1' : ¬ (b.length - q ≤ 0 + i) := by omega
      simp only [if_neg h1, if_neg h1']
      by_cases h2 : (i = 9 ∧ (b.getD (q + i) 0).toNat ≠ 1) ∨ (0 < i ∧ (b.getD (q + i) 0).toNat = 0)
      · simp only [if_pos h2]; simp
      · simp only [if_neg h2]
        by_cases h3 : (b.getD (q + i) 0).toNat < 128
        · simp only [if_pos h3]; simp; omega
        · simp only [if_neg h3]
          exact Num.scanF_drop b q f (i + 1) _
theorem Num.scan_drop (b : List UInt8) (q : Nat) : Num.scan b q = ((Num.scan (b.drop q) 0).1, q + (Num.scan (b.drop q) 0).2.1, (Num.scan (b.drop q) 0).2.2) := Num.scanF_drop b q 10 0 0

theorem entered_tell64 : Entered 55 := entered_of Try.func55 (by kernel_rfl) rfl
/-- The closure tells the number and takes its bytes; or an error. -/
theorem numGoes {w : World} {g r t Bt Bc q m c : Nat} {b : List UInt8} {A : Option Addr} (h : PC w g r b q 0) (hrow : w.cell? ⟨g, 0, none⟩ = some (.slice A m c)) (hBt : w.cell? ⟨Bt, 0, none⟩ = some (.pointer (some ⟨t, 0, none⟩))) (hBc : w.cell? ⟨Bc, 0, none⟩ = some (.pointer (some ⟨g, 0, none⟩)))
    (ht : Whole w t 22 #[.int .u64 0]) (htg : t ≠ g) (htr : t ≠ r) (hct : Bc ≠ t) (hcg : Bc ≠ g) :
    Calls Try.prog 40 #[.slice A m c, .func (.func 55) #[] #[.pointer (some ⟨Bt, 0, none⟩), .pointer (some ⟨Bc, 0, none⟩)]] w
      fun e w' => e = .returned (.int .i64 (Num.numR b q 0).2.2) ∧ Told w g r t 22 b (.int .u64 (((Num.numR b q 0).1 : Nat) : Int)) (Num.numR b q 0).2.1 w' := by
  obtain ⟨A0, c0, d0, _, _, _, _, _, hc0, hR0⟩ := h.cells
  rw [hrow] at d0
  simp only [Option.some.injEq, Value.slice.injEq] at d0
  obtain ⟨rfl, rfl, rfl⟩ := d0
  have hl := h.bounds
  have hN : Num.numR b q 0 = Num.scan b q := rfl
  have hd := Num.scan_drop b q
  have hf := Num.scan_facts (b.drop q) 0
  have hlen : (b.drop q).length = b.length - q := List.length_drop
  rw [hN, hd]
  have := number_any (w := w) (A := A) (c := c) (l := b.drop q) (K := 55) (cap := #[.pointer (some ⟨Bt, 0, none⟩), .pointer (some ⟨Bc, 0, none⟩)])
    (R := fun e w' => e = .returned (.int .i64 (Num.scan (b.drop q) 0).2.2) ∧ Told w g r t 22 b (.int .u64 (((Num.scan (b.drop q) 0).1 : Nat) : Int)) (q + (Num.scan (b.drop q) 0).2.1) w')
    entered_tell64 (by rw [hlen]; exact hR0.bytes) (by omega) (by omega) (fun e w' he => ⟨_, he.1⟩)
    (fun h0 => by
      obtain ⟨h1, h2⟩ := hf.2.1 h0
      rw [h0]
      have hRd := hR0.drop (k := (Num.scan (b.drop q) 0).2.1) (by omega) hc0
      rw [List.drop_drop, Nat.sub_sub] at hRd
      rw [hlen, Nat.sub_sub]
      exact tell64_any h (by omega) (by omega) hBt hBc ht htg htr hct hcg hRd (by omega))
    (fun h0 => by
      obtain ⟨h1, h2⟩ := hf.2.2.1 h0
      rw [h1, h2]
      exact ⟨rfl, Told.refl h ht⟩)
  rwa [hlen] at this

set_option maxHeartbeats 2000000 in
set_option maxRecDepth 100000 in
theorem num1_any {w : World} {g r t B0 q : Nat} {b : List UInt8} (h : PC w g r b q 0) (hB0 : w.cell? ⟨B0, 0, none⟩ = some (.pointer (some ⟨g, 0, none⟩))) (ht : Whole w t 22 #[.int .u64 0]) (htg : t ≠ g) (htr : t ≠ r) :
    Calls Try.prog 39 #[.pointer (some ⟨B0, 0, none⟩), .pointer (some ⟨t, 0, none⟩)] w
      fun e w' => e = .returned (.int .i64 (Num.numR b q 0).2.2) ∧ Told w g r t 22 b (.int .u64 (((Num.numR b q 0).1 : Nat) : Int)) (Num.numR b q 0).2.1 w' := by
  obtain ⟨A, c, c0, x1, x2, x3, x4, x5, hc, hR⟩ := h.cells
  clear x1 x2 x3 x4 x5
  have hglt := h.lt
  have htlt := ht.lt
  have hBlt := World.block_lt_of_cell? w ⟨B0, 0, none⟩ hB0
  have HP := hide h
  have HT := hide ht
  clear h ht hR hc
  go_enter Try.func39, Try.ntmps39
  go_wp2
  refine wp_region_T (fun W => W.cell? ⟨B0, 0, none⟩ = some (.pointer (some ⟨g, 0, none⟩)) ∧ W.cell? ⟨g, 0, none⟩ = some (.slice A (b.length - q) c)) 6 8 #[false, false, false, false, false, false, false, false] (by kernel_rfl) rfl rfl ⟨hB0, c0⟩ ?_
  intro hS0
  refine wpAnyT_take 0 (some 3) (.pointer (some ⟨g, 0, none⟩)) #[true, false, false, false, false, false, false, false] rfl rfl rfl (by kernel_rfl) (fun _ _ _ h => h) hS0 (by rfl) (fun W ⟨s0, s1⟩ => by go_simp) ?_
  simp only [Act.put, List.setIfInBounds_toArray, List.set_cons_zero, List.set_cons_succ]
  refine wpAnyT_take 1 (some 4) (.pointer (some ⟨g, 0, none⟩)) #[true, true, false, false, false, false, false, false] rfl rfl rfl (by kernel_rfl) (fun _ _ _ h => h) hS0 (by rfl) (fun W ⟨s0, s1⟩ => by go_simp) ?_
  simp only [Act.put, List.setIfInBounds_toArray, List.set_cons_zero, List.set_cons_succ]
  refine wpAnyT_take 2 (some 5) (.pointer (some ⟨g, 0, none⟩)) #[true, true, true, false, false, false, false, false] rfl rfl rfl (by kernel_rfl) (fun _ _ _ h => h) hS0 (by rfl) (fun W ⟨s0, s1⟩ => by go_simp) ?_
  simp only [Act.put, List.setIfInBounds_toArray, List.set_cons_zero, List.set_cons_succ]
  refine wpAnyT_take 3 (some 6) (.slice A (b.length - q) c) #[true, true, true, true, false, false, false, false] rfl rfl rfl (by kernel_rfl) (fun _ _ _ h => h) hS0 (by rfl) (fun W ⟨s0, s1⟩ => by go_simp) ?_
  simp only [Act.put, List.setIfInBounds_toArray, List.set_cons_zero, List.set_cons_succ]
  refine wpAnyT_take 4 (some 7) (.pointer (some ⟨g, 0, none⟩)) #[true, true, true, true, true, false, false, false] rfl rfl rfl (by kernel_rfl) (fun _ _ _ h => h) hS0 (by rfl) (fun W ⟨s0, s1⟩ => by go_simp) ?_
  simp only [Act.put, List.setIfInBounds_toArray, List.set_cons_zero, List.set_cons_succ]
  refine wpAnyT_only 5 #[true, true, true, true, true, true, false, false] (by kernel_rfl) rfl rfl (by rfl) (fun K hK => ?_)
  go_simp
  refine (taker64_any g t _).mono ?_
  rintro e w2 ⟨Bt, Bc, rfl, _, hBc1, hBt, hBc, hE2'⟩
  have hE2 : Ext w w2 := (Ext.refl w).drew.trans hE2'
  have k0 := (hE2.cell (i := 0) hBlt).trans hB0
  have k1 := (hE2.cell (i := 0) hglt).trans c0
  change w.heap.size ≤ Bc at hBc1
  refine hK _ _ (fun _ => ⟨k0, k1⟩) ?_
  clear hK K
  refine wpAnyT_only 6 #[true, true, true, true, true, true, true, false] (by kernel_rfl) rfl rfl (by rfl) (fun K hK => ?_)
  go_simp
  refine (numGoes (HP.out.ext hE2) k1 hBt hBc (HT.out.ext hE2) htg htr (by omega) (by omega)).mono ?_
  rintro e w3 ⟨rfl, hT3⟩
  refine hK _ _ (fun h => absurd h (by decide)) ?_
  clear hK K
  refine wpAnyT_only 7 #[true, true, true, true, true, true, true, true] (by kernel_rfl) rfl rfl (by rfl) (fun K hK => ?_)
  go_simp
  refine hK _ _ (fun h => absurd h (by decide)) ?_
  refine wpAnyT_done (by kernel_rfl) ?_ _
  go_wp2
  go_ret
  exact ⟨rfl, Told.from hE2 hT3⟩
end Go.Proofs.Ytgnmdpklkmlpfaa
