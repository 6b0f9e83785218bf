/- Marked of chapter 19: the program's and the document's. -/
import Derived.Test.YtlhncfjeleibmaaOptMark
import Derived.Test.YtlhncfjeleibmaaConv
import Derived.BigQuiet
namespace Go.Proofs.Ytlhncfjeleibmaa
open Go.RowKit Opt

namespace Opt
theorem marked_1 {l : List UInt8} (h : l.length < 5) : marked l = (0, 1) := if_pos h
theorem marked_3 {l : List UInt8} (h : ¬ l.length < 5) (h4 : l.take 4 ≠ [70, 73, 82, 75]) : marked l = (0, 3) := by
  unfold marked
  rw [if_neg h, if_pos h4]
theorem marked_0 {l : List UInt8} (h : ¬ l.length < 5) (h4 : l.take 4 = [70, 73, 82, 75]) (h5 : 1 ≤ ((l.getD 4 0).toNat : Int) ∧ ((l.getD 4 0).toNat : Int) ≤ 3) : marked l = (((l.getD 4 0).toNat : Int), 0) := by
  unfold marked
  rw [if_neg h, if_neg (fun hn => hn h4), if_pos h5]
theorem marked_4 {l : List UInt8} (h : ¬ l.length < 5) (h4 : l.take 4 = [70, 73, 82, 75]) (h5 : ¬ (1 ≤ ((l.getD 4 0).toNat : Int) ∧ ((l.getD 4 0).toNat : Int) ≤ 3)) : marked l = (0, 4) := by
  unfold marked
  rw [if_neg h, if_neg (fun hn => hn h4), if_neg h5]
end Opt
/-- What Marked tells. -/
def MarkTo (w : World) (r : Int × Int) (e : Ending) (w' : World) : Prop := e = .returned (.tuple #[.int .i64 r.1, .int .i64 r.2]) ∧ Ext w w'

set_option maxHeartbeats 2000000 in
set_option maxRecDepth 100000 in
theorem pMarked_any (A : Option Addr) (n c : Nat) (l : List UInt8) (w : World) (hn : n ≤ c) (hc : c ≤ maxLen) (h : Bytes w w.heap.size A n l) : Calls Try.prog 15 #[.slice A n c] w (MarkTo w (marked l)) := by
  have hl := h.1
  unfold maxLen at hc
  unfold MarkTo
  by_cases h5 : n < 5
  · have HR := hide (marked_1 (l := l) (by omega))
    generalize marked l = res at *
    have h5' : (n : Int) ≤ 4 := by omega
    clear h
    go_enter Try.func15, Try.ntmps15
    go_wp2
    go_ret2
    rw [HR.out]
    exact ⟨rfl, Ext.refl _⟩
  have h5' : ¬ (n : Int) ≤ 4 := by omega
  have h5n : ¬ l.length < 5 := by omega
  have FT := fun W => pThere_any ((l.getD 4 0).toNat : Int) W
  rcases h.2 with h0 | ⟨g, off, rfl, hb, hcell⟩
  · omega
  have cell4 := hcell 4 (by omega)
  have hx := Ef.bytes_head h (k := 4) (c := c) (by omega) hn
  have v1 := conv_bytes c hx (fun h => by unfold cutAt at h; split at h <;> cases h)
  have vs := fun W => run_headB W (some ⟨g, off, none⟩) n c .i64 4 (by omega) (by omega)
  have h8 : (l.getD 4 0).toNat < 256 := UInt8.toNat_lt (l.getD 4 0)
  by_cases h4 : l.take 4 = [70, 73, 82, 75]
  · have hq : (l.take 4 == [70, 73, 82, 75]) = true := by rw [h4]; rfl
    by_cases h13 : 1 ≤ ((l.getD 4 0).toNat : Int) ∧ ((l.getD 4 0).toNat : Int) ≤ 3
    · have HR := hide (marked_0 h5n h4 h13)
      rw [decide_eq_true h13] at FT
      generalize marked l = res at *
      generalize (l.getD 4 0).toNat = x at *
      clear hcell hb h hx h4 h13
      go_enter Try.func15, Try.ntmps15
      go_wp2_with fail
      refine (FT _).mono ?_
      rintro e w2 ⟨rfl, hE2⟩
      go_wp2
      go_ret2
      rw [HR.out]
      exact ⟨rfl, hE2⟩
    · have HR := hide (marked_4 h5n h4 h13)
      rw [decide_eq_false h13] at FT
      generalize marked l = res at *
      generalize (l.getD 4 0).toNat = x at *
      clear hcell hb h hx h4 h13
      go_enter Try.func15, Try.ntmps15
      go_wp2_with fail
      refine (FT _).mono ?_
      rintro e w2 ⟨rfl, hE2⟩
      go_wp2
      go_ret2
      rw [HR.out]
      exact ⟨rfl, hE2⟩
  · have hq : (l.take 4 == [70, 73, 82, 75]) = false := by rw [beq_eq_false_iff_ne]; exact h4
    have HR := hide (marked_3 h5n h4)
    generalize marked l = res at *
    generalize (l.getD 4 0).toNat = x at *
    clear hcell hb h hx FT h4
    go_enter Try.func15, Try.ntmps15
    go_wp2
    go_ret2
    rw [HR.out]
    exact ⟨rfl, Ext.refl _⟩

theorem Opt.take4 {l : List UInt8} (h : ¬ l.length < 5) : (l.take 4 = [70, 73, 82, 75]) ↔ (l.getD 0 0 = 70 ∧ l.getD 1 0 = 73 ∧ l.getD 2 0 = 82 ∧ l.getD 3 0 = 75) := by
  match l, h with
  | a :: b :: c :: d :: e :: t, _ => simp
  | [], h => simp at h
  | [_], h => simp at h
  | [_, _], h => simp at h
  | [_, _, _], h => simp at h
  | [_, _, _, _], h => simp at h
theorem Opt.byte_eq {a : UInt8} {k : Nat} (h : a.toNat = k) : a = UInt8.ofNat k := by rw [← h, UInt8.ofNat_toNat]

set_option maxHeartbeats 2000000 in
set_option maxRecDepth 100000 in
theorem refMarked_any (A : Option Addr) (n c : Nat) (l : List UInt8) (w : World) (h : Bytes w w.heap.size A n l) : Calls Try.prog 16 #[.slice A n c] w (MarkTo w (marked l)) := by
  have hl := h.1
  unfold MarkTo
  by_cases h5 : n < 5
  · have HR := hide (marked_1 (l := l) (by omega))
    generalize marked l = res at *
    have h5' : (n : Int) < 5 := by omega
    clear h
    go_enter Try.func16, Try.ntmps16
    go_wp2
    go_ret2
    rw [HR.out]
    exact ⟨rfl, Ext.refl _⟩
  have h5' : 5 ≤ (n : Int) := by omega
  have h5n : ¬ l.length < 5 := by omega
  rcases h.2 with h0 | ⟨g, off, rfl, hb, hcell⟩
  · omega
  have cell0 := hcell 0 (by omega)
  rw [Nat.add_zero] at cell0
  have cell1 := hcell 1 (by omega)
  have cell2 := hcell 2 (by omega)
  have cell3 := hcell 3 (by omega)
  have cell4 := hcell 4 (by omega)
  have h8 : ((l.getD 4 0).toNat : Int) < 256 := by have := UInt8.toNat_lt (l.getD 4 0); omega
  have h80 : 0 ≤ ((l.getD 4 0).toNat : Int) := by omega
  clear h hb hcell
  by_cases g0 : l.getD 0 0 = 70
  rotate_left
  · have gn : ¬ ((l.getD 0 0).toNat : Int) = 70 := fun he => g0 (byte_eq (k := 70) (by omega))
    have gb : (((l.getD 0 0).toNat : Int) == 70) = false := by rw [beq_eq_false_iff_ne]; exact gn
    have HR := hide (marked_3 h5n (fun h => g0 ((take4 h5n).1 h).1))
    clear g0
    generalize marked l = res at *
    generalize ((l.getD 0 0).toNat : Int) = x0 at *
    generalize ((l.getD 1 0).toNat : Int) = x1 at *
    generalize ((l.getD 2 0).toNat : Int) = x2 at *
    generalize ((l.getD 3 0).toNat : Int) = x3 at *
    generalize ((l.getD 4 0).toNat : Int) = x4 at *
    go_enter Try.func16, Try.ntmps16
    go_wp2
    go_ret2
    rw [HR.out]
    exact ⟨rfl, Ext.refl _⟩
  have e0 : ((l.getD 0 0).toNat : Int) = 70 := by rw [g0]; rfl
  rw [e0] at cell0
  by_cases g1 : l.getD 1 0 = 73
  rotate_left
  · have gn : ¬ ((l.getD 1 0).toNat : Int) = 73 := fun he => g1 (byte_eq (k := 73) (by omega))
    have gb : (((l.getD 1 0).toNat : Int) == 73) = false := by rw [beq_eq_false_iff_ne]; exact gn
    have HR := hide (marked_3 h5n (fun h => g1 ((take4 h5n).1 h).2.1))
    clear g1 g0
    generalize marked l = res at *
    generalize ((l.getD 0 0).toNat : Int) = x0 at *
    generalize ((l.getD 1 0).toNat : Int) = x1 at *
    generalize ((l.getD 2 0).toNat : Int) = x2 at *
    generalize ((l.getD 3 0).toNat : Int) = x3 at *
    generalize ((l.getD 4 0).toNat : Int) = x4 at *
    go_enter Try.func16, Try.ntmps16
    go_wp2
    go_ret2
    rw [HR.out]
    exact ⟨rfl, Ext.refl _⟩
  have e1 : ((l.getD 1 0).toNat : Int) = 73 := by rw [g1]; rfl
  rw [e1] at cell1
  by_cases g2 : l.getD 2 0 = 82
  rotate_left
  · have gn : ¬ ((l.getD 2 0).toNat : Int) = 82 := fun he => g2 (byte_eq (k := 82) (by omega))
    have gb : (((l.getD 2 0).toNat : Int) == 82) = false := by rw [beq_eq_false_iff_ne]; exact gn
    have HR := hide (marked_3 h5n (fun h => g2 ((take4 h5n).1 h).2.2.1))
    clear g2 g0 g1
    generalize marked l = res at *
    generalize ((l.getD 0 0).toNat : Int) = x0 at *
    generalize ((l.getD 1 0).toNat : Int) = x1 at *
    generalize ((l.getD 2 0).toNat : Int) = x2 at *
    generalize ((l.getD 3 0).toNat : Int) = x3 at *
    generalize ((l.getD 4 0).toNat : Int) = x4 at *
    go_enter Try.func16, Try.ntmps16
    go_wp2
    go_ret2
    rw [HR.out]
    exact ⟨rfl, Ext.refl _⟩
  have e2 : ((l.getD 2 0).toNat : Int) = 82 := by rw [g2]; rfl
  rw [e2] at cell2
  by_cases g3 : l.getD 3 0 = 75
  rotate_left
  · have gn : ¬ ((l.getD 3 0).toNat : Int) = 75 := fun he => g3 (byte_eq (k := 75) (by omega))
    have gb : (((l.getD 3 0).toNat : Int) == 75) = false := by rw [beq_eq_false_iff_ne]; exact gn
    have HR := hide (marked_3 h5n (fun h => g3 ((take4 h5n).1 h).2.2.2))
    clear g3 g0 g1 g2
    generalize marked l = res at *
    generalize ((l.getD 0 0).toNat : Int) = x0 at *
    generalize ((l.getD 1 0).toNat : Int) = x1 at *
    generalize ((l.getD 2 0).toNat : Int) = x2 at *
    generalize ((l.getD 3 0).toNat : Int) = x3 at *
    generalize ((l.getD 4 0).toNat : Int) = x4 at *
    go_enter Try.func16, Try.ntmps16
    go_wp2
    go_ret2
    rw [HR.out]
    exact ⟨rfl, Ext.refl _⟩
  have e3 : ((l.getD 3 0).toNat : Int) = 75 := by rw [g3]; rfl
  rw [e3] at cell3
  have h4 := (take4 h5n).2 ⟨g0, g1, g2, g3⟩
  clear g0 g1 g2 g3 e0 e1 e2 e3
  by_cases h13 : 1 ≤ ((l.getD 4 0).toNat : Int) ∧ ((l.getD 4 0).toNat : Int) ≤ 3
  · have HR := hide (marked_0 h5n h4 h13)
    clear h4
    obtain ⟨h1, h3⟩ := h13
    generalize marked l = res at *
    generalize ((l.getD 4 0).toNat : Int) = x4 at *
    go_enter Try.func16, Try.ntmps16
    go_wp2
    go_ret2
    rw [HR.out]
    exact ⟨rfl, Ext.refl _⟩
  · have HR := hide (marked_4 h5n h4 h13)
    clear h4
    generalize marked l = res at *
    generalize ((l.getD 4 0).toNat : Int) = x4 at *
    by_cases h1 : 1 ≤ x4
    · have h3 : ¬ x4 ≤ 3 := fun h => h13 ⟨h1, h⟩
      clear h13
      go_enter Try.func16, Try.ntmps16
      go_wp2
      go_ret2
      rw [HR.out]
      exact ⟨rfl, Ext.refl _⟩
    · clear h13
      go_enter Try.func16, Try.ntmps16
      go_wp2
      go_ret2
      rw [HR.out]
      exact ⟨rfl, Ext.refl _⟩
end Go.Proofs.Ytlhncfjeleibmaa
