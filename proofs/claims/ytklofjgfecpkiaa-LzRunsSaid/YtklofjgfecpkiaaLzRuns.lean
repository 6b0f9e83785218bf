/- LzRuns, under what the program tells: the tokens of a byte that stands many times. -/
import Derived.Test.YtklofjgfecpkiaaLzLaw
namespace Go.Proofs.Ytklofjgfecpkiaa.Lz

section
variable {m p d : Nat} {c : UInt8}
theorem rep_at {i : Nat} (h : i < m) : (List.replicate m c).getD i 0 = c := by
  rw [List.getD_eq_getElem?_getD, List.getElem?_replicate, if_pos h]
  rfl
theorem rep_run (hp : p < m) (hd : 1 ≤ d) (hdp : d ≤ p) : run (List.replicate m c) p d = min 257 (m - p) := by
  have h1 := run_le (b := List.replicate m c) (p := p) (d := d)
  have h2 : run (List.replicate m c) p d ≤ m - p := by
    by_cases h0 : 0 < run (List.replicate m c) p d
    · have := run_end h0
      rw [List.length_replicate] at this
      omega
    · omega
  have h3 := run_all (b := List.replicate m c) (p := p) (d := d) (n := min 257 (m - p)) (by omega) (fun j hj => ⟨by rw [List.length_replicate]; omega, by rw [rep_at (by omega), rep_at (by omega)]⟩)
  omega
theorem rep_best (hp : p < m) : ∀ k, 1 ≤ k → k ≤ p → best (List.replicate m c) p k = (min 257 (m - p), 1)
  | 0, h, _ => by omega
  | 1, _, h => by
    rw [best, rep_run hp (by omega) h, if_pos (by rw [best]; dsimp only; omega)]
  | k + 2, _, h => by
    rw [best, rep_best hp (k + 1) (by omega) (by omega), rep_run hp (by omega) h, if_neg (by dsimp only; omega)]
theorem rep_bestAt (hp : p < m) (h0 : 0 < p) : bestAt (List.replicate m c) p = (min 257 (m - p), 1) := rep_best hp _ (by omega) (by omega)
/-- The token at place p, and how far it goes. -/
theorem rep_tok (hp : p < m) : (0 < p ∧ 3 ≤ m - p → tokAt (List.replicate m c) p = ⟨0, ((min 257 (m - p) : Nat) : Int), 1⟩ ∧ stepAt (List.replicate m c) p = min 257 (m - p)) ∧
    (¬ (0 < p ∧ 3 ≤ m - p) → tokAt (List.replicate m c) p = ⟨c, 0, 0⟩ ∧ stepAt (List.replicate m c) p = 1) := by
  unfold tokAt stepAt
  by_cases h0 : 0 < p
  · rw [rep_bestAt hp h0]
    dsimp only
    refine ⟨fun h => ?_, fun h => ?_⟩
    · rw [if_pos (by omega), if_pos (by omega)]
      exact ⟨rfl, rfl⟩
    · rw [if_neg (by omega), if_neg (by omega), rep_at hp]
      exact ⟨rfl, rfl⟩
  · have e : p = 0 := by omega
    subst e
    refine ⟨fun h => absurd h.1 (by omega), fun _ => ?_⟩
    have hb : bestAt (List.replicate m c) 0 = (0, 0) := rfl
    rw [hb, if_neg (by decide), if_neg (by decide), rep_at hp]
    exact ⟨rfl, rfl⟩
theorem drop_next {b : List UInt8} {L : List TokV} {i q : Nat} (h : L.drop i = toks b q) (hi : i < L.length) : q < b.length ∧ L.getD i default = tokAt b q ∧ L.drop (i + 1) = toks b (q + stepAt b q) := by
  rw [List.drop_eq_getElem_cons hi] at h
  by_cases hq : q < b.length
  · rw [toks_next hq] at h
    simp only [List.cons.injEq] at h
    refine ⟨hq, ?_, h.2⟩
    rw [List.getD_eq_getElem?_getD, List.getElem?_eq_getElem hi]
    exact h.1
  · rw [toks_end hq] at h
    cases h
end
end Go.Proofs.Ytklofjgfecpkiaa.Lz
namespace Go.Proofs.Ytklofjgfecpkiaa
open Go.RowKit Lz

theorem Lz.tmod3000 (a : Nat) : (a : Int) % 3000 = ((a % 3000 : Nat) : Int) := by omega

set_option maxHeartbeats 4000000 in
set_option maxRecDepth 100000 in
theorem lzRuns_walk0 (c : UInt8) (nn : Nat) (w : World) (hF : FindC w) (hnn : nn ≤ 65535) :
    Calls Try.prog 8 #[.int .u8 (c.toNat : Int), .int .u16 (nn : Int)] w fun e w' => e = .returned (.bool true) ∧ Ext w w' := by
  have C0 := alive10_any hF (Ext.refl w)
  have HF := hide hF
  have hc8 := UInt8.toNat_lt c
  have hmt := tmod3000 nn
  have hm3 : nn % 3000 < 3000 := Nat.mod_lt _ (by omega)
  generalize nn % 3000 = m at *
  clear hF
  go_enter Try.func8, Try.ntmps8
  go_wp2_with fail
  refine C0.mono ?_
  rintro e w1 ⟨rfl, hE1⟩
  clear C0
  go_wp2_with fail
  rw [hmt]
  clear hmt
  go_loopw [6, 7] (fun o x wr => ∃ i : Nat, i ≤ m ∧ x = .int .i64 (i : Int) ∧ OwnB wr w.heap.size o (List.replicate i c) ∧ Ext w wr) (fun _ x _ => m - (intOf x).toNat)
  case atStart => exact ⟨0, by omega, rfl, OwnB.nil _ _, hE1⟩
  case round =>
    clear hE1
    obtain ⟨i, hi, rfl, hO, hE⟩ := hrel
    by_cases hlt : i < m
    · have hiI : (i : Int) < (m : Int) := by omega
      have hEa := extNew wr (.cells #[.int .u8 (c.toNat : Int)] 5)
      have hb1 := bytesNew wr [c] #[.int .u8 (c.toNat : Int)] 5 (0, 0) rfl 1 rfl
      have hOa := hO.ext hEa
      have hlen : (List.replicate i c).length + 1 ≤ 140737488355328 := by simp; omega
      have hbs : w.heap.size ≤ (wr.alloc (.cells #[.int .u8 (c.toNat : Int)] 5)).heap.size := (hE.trans hEa).le
      go_wp2_with (at_builtin; refine wpList_app rfl (.tmp 22) (.tmp 24) rfl rfl hOa rfl hb1 hlen hbs ?_; intro v5 w5 hO5 hG5)
      have hE5 : Ext w w5 := Below.grown (hE.trans hEa) hG5 (hE.trans hEa).le (fun k hk => (hO.lt k hk).1)
      rw [show List.replicate i c ++ [c] = List.replicate (i + 1) c from List.replicate_succ'.symm] at hO5
      clear hb1 hOa hlen hbs
      go_roundw
      case rel => exact ⟨i + 1, by omega, by go_num, hO5, hE5⟩
      case measure => simp [intOf]; omega
    · obtain rfl : m = i := by omega
      obtain ⟨A, cA, rfl, hcA, hcm, hb⟩ := hO.form
      rw [List.length_replicate] at hcA hb ⊢
      have C1 := HF.out (List.replicate m c) A m cA wr hE hcA hcm (by omega) hb
      unfold MadeTk at C1
      have hok := toks_ok (List.replicate m c) 0
      have hlen := toks_len (List.replicate m c) 0
      rw [List.length_replicate] at hlen
      have hL0 : (toks (List.replicate m c) 0).drop 0 = toks (List.replicate m c) 0 := rfl
      obtain ⟨L, hL⟩ : ∃ L, L = toks (List.replicate m c) 0 := ⟨_, rfl⟩
      rw [← hL] at C1 hok hlen
      have HL := hide hL
      clear hO hb hL hL0
      go_wp2_with fail
      refine C1.mono ?_
      rintro e w4 ⟨v4, rfl, hO4, hE4⟩
      have hF4 := hE.trans hE4
      obtain ⟨A4, c4, rfl, _, _, h4⟩ := hO4.at hok
      have H4 := hide h4
      have HDrop := hide (fun (i q : Nat) (h : L.drop i = toks (List.replicate m c) q) (hi : i < L.length) => drop_next h hi)
      have HEnd := hide (show ∀ q, L.drop L.length = toks (List.replicate m c) q → ¬ q < m from fun q h hq => by
        rw [List.drop_length, toks_next (by rw [List.length_replicate]; exact hq)] at h
        cases h)
      have HRep := hide (fun (p : Nat) (hp : p < m) => rep_tok (c := c) hp)
      have hLn : L.length ≤ 3000 := by omega
      clear C1 hO4 h4 hok hE4 hE
      go_wp2_with fail
      go_loopw [9, 10] (fun z x wr => ∃ i q : Nat, i ≤ L.length ∧ q ≤ m ∧ x = .int .i64 (i : Int) ∧ z = .int .i64 ((m - q : Nat) : Int) ∧ L.drop i = toks (List.replicate m c) q ∧ (0 < i ↔ 0 < q) ∧ Ext w4 wr) (fun _ x _ => L.length - (intOf x).toNat)
      case atStart => exact ⟨0, 0, by omega, by omega, rfl, by simp, HL.out, by omega, Ext.refl _⟩
      case round =>
        obtain ⟨i, q, hi, hq, rfl, rfl, hd, hiq, hE⟩ := hrel
        by_cases hlt : i < L.length
        · have hiI : (i : Int) < (L.length : Int) := by omega
          obtain ⟨hqm, htk, hdn⟩ := HDrop.out i q hd hlt
          rw [List.length_replicate] at hqm
          obtain ⟨r1, r2⟩ := HRep.out q hqm
          have HCell := hide (show ∀ W, Ext w4 W → ∃ b o, A4 = some ⟨b, o, none⟩ ∧ W.cell? ⟨b, o + i * 3, none⟩ = some (.int .u8 ((L.getD i default).lit.toNat : Int)) ∧ W.cell? ⟨b, o + i * 3 + 1, none⟩ = some (.int .i64 (L.getD i default).len) ∧ W.cell? ⟨b, o + i * 3 + 2, none⟩ = some (.int .i64 (L.getD i default).dist) from fun W hW => by
            rcases (H4.out.later hW).2 with h0 | ⟨b, o, e, _, hc⟩
            · omega
            exact ⟨b, o, e, (hc i hlt).1.cells⟩)
          have hEa := fun o => hE.trans (extNew wr o)
          have HD := hide hdn
          have hiq2 := hiq
          have HIq := hide hiq
          clear hd hdn hiq
          by_cases hm3' : 0 < q ∧ 3 ≤ m - q
          · obtain ⟨e1, e2⟩ := r1 hm3'
            rw [htk, e1] at HCell
            rw [e2] at HD
            have hi0 : (0 : Int) < (i : Int) := by omega
            have hl3 : (3 : Int) ≤ ((m - q : Nat) : Int) := by omega
            by_cases h257 : 257 < m - q
            · have h257I : (257 : Int) < ((m - q : Nat) : Int) := by omega
              have hmin : min 257 (m - q) = 257 := by omega
              rw [hmin] at HCell HD
              obtain ⟨b, o, rfl, c0, c1', c2'⟩ := HCell.out _ (hEa (.cells #[.int .u8 0, .int .i64 257, .int .i64 1] 36))
              have hEn := hEa (.cells #[.int .u8 0, .int .i64 257, .int .i64 1] 36)
              change World.cell? _ ⟨b, o + i * 3, none⟩ = some (.int .u8 0) at c0
              change World.cell? _ ⟨b, o + i * 3 + 1, none⟩ = some (.int .i64 257) at c1'
              clear HCell hEa r1 r2 htk e1 e2 hiq2 hm3' hmin
              go_wp2_with fail
              go_quiet (fail)
              go_wp2
              go_roundw
              case rel => exact ⟨i + 1, q + 257, by omega, by omega, by go_num, congrArg (Value.int .i64) (by omega), HD.out, by omega, hEn.drewN _⟩
              case measure => simp [intOf]; omega
            · have h257I : ¬ (257 : Int) < ((m - q : Nat) : Int) := by omega
              have hmin : min 257 (m - q) = m - q := by omega
              rw [hmin] at HCell HD
              obtain ⟨b, o, rfl, c0, c1', c2'⟩ := HCell.out _ (hEa (.cells #[.int .u8 0, .int .i64 ((m - q : Nat) : Int), .int .i64 1] 36))
              have hEn := hEa (.cells #[.int .u8 0, .int .i64 ((m - q : Nat) : Int), .int .i64 1] 36)
              change World.cell? _ ⟨b, o + i * 3, none⟩ = some (.int .u8 0) at c0
              have hmq : q + (m - q) = m := by omega
              rw [hmq] at HD
              clear HCell hEa r1 r2 htk e1 e2 hiq2 hm3' hmin
              go_wp2_with fail
              go_quiet (fail)
              go_wp2
              go_roundw
              case rel => exact ⟨i + 1, m, by omega, by omega, by go_num, congrArg (Value.int .i64) (by omega), HD.out, by omega, hEn.drewN _⟩
              case measure => simp [intOf]; omega
          · obtain ⟨e1, e2⟩ := r2 hm3'
            rw [htk, e1] at HCell
            rw [e2] at HD
            obtain ⟨b, o, rfl, c0, c1', c2'⟩ := HCell.out _ (hEa (.cells #[.int .u8 (c.toNat : Int), .int .i64 0, .int .i64 0] 36))
            have hEn := hEa (.cells #[.int .u8 (c.toNat : Int), .int .i64 0, .int .i64 0] 36)
            clear HCell hEa r1 r2 htk e1 e2
            by_cases hi0 : 0 < i
            · have hi0I : (0 : Int) < (i : Int) := by omega
              have hl3 : ¬ (3 : Int) ≤ ((m - q : Nat) : Int) := by omega
              clear hm3' hiq2
              go_wp2_with fail
              go_quiet (fail)
              go_wp2
              go_roundw
              case rel => exact ⟨i + 1, q + 1, by omega, by omega, by go_num, congrArg (Value.int .i64) (by omega), HD.out, by omega, hEn.drewN _⟩
              case measure => simp [intOf]; omega
            · have hi0I : ¬ (0 : Int) < (i : Int) := by omega
              clear hm3' hiq2
              go_wp2_with fail
              go_quiet (fail)
              go_wp2
              go_roundw
              case rel => exact ⟨i + 1, q + 1, by omega, by omega, by go_num, congrArg (Value.int .i64) (by omega), HD.out, by omega, hEn.drewN _⟩
              case measure => simp [intOf]; omega
        · obtain rfl : L.length = i := by omega
          have hz := HEnd.out q hd
          have hq0 : m - q = 0 := by omega
          rw [hq0]
          clear hz hd hq0
          go_wp2
          go_ret
          exact ⟨rfl, hF4.trans hE⟩
end Go.Proofs.Ytklofjgfecpkiaa
