/- The program's lz.longer and same: how many bytes are the same from two places on. -/
import Derived.Test.YtklofjgfecpkiaaLzRef
import Derived.Test.YtklofjgfecpkiaaConv
import Derived.Test.YtklofjgfecpkiaaMod
import Derived.BigQuiet
namespace Go.Proofs.Ytklofjgfecpkiaa
open Go.RowKit Lz

set_option maxHeartbeats 1000000 in
set_option maxRecDepth 100000 in
theorem lzEqual_any (A B : Option Addr) (n m c d : Nat) (x y : List UInt8) (w : World) (hx : Bytes w w.heap.size A n x) (hy : Bytes w w.heap.size B m y) :
    Calls Try.prog 25 #[.slice A n c, .slice B m d] w fun e w' => e = .returned (.bool (decide (x = y))) ∧ w = w' := by
  have v1 := conv_bytes c hx (fun h => by subst h; rcases hx.2 with h | ⟨_, _, h, _⟩; exact h; cases h)
  have v2 := conv_bytes d hy (fun h => by subst h; rcases hy.2 with h | ⟨_, _, h, _⟩; exact h; cases h)
  clear hx hy
  go_enter Try.func25, Try.ntmps25
  go_wp2
  go_ret
  exact ⟨ret_bool (by rw [Bool.eq_iff_iff]; simp), rfl⟩

theorem Lz.same_on {b : List UInt8} {q d f k : Nat} (hf : k < f) (h : q + k < b.length ∧ b.getD (q + k - d) 0 = b.getD (q + k) 0) : runF b q d (f - k) k = runF b q d (f - (k + 1)) (k + 1) := by
  rw [show f - k = f - (k + 1) + 1 by omega, runF, if_pos h]
theorem Lz.same_off {b : List UInt8} {q d f k : Nat} (hf : k < f) (h : ¬ (q + k < b.length ∧ b.getD (q + k - d) 0 = b.getD (q + k) 0)) : runF b q d (f - k) k = k := by
  rw [show f - k = f - (k + 1) + 1 by omega, runF, if_neg h]
theorem Lz.same_top (b : List UInt8) (q d f : Nat) : runF b q d (f - f) f = f := by rw [Nat.sub_self]; rfl

set_option maxHeartbeats 4000000 in
set_option maxRecDepth 100000 in
/-- How many bytes are the same, of which the first k are known to be. -/
theorem lzSame_any (A : Option Addr) (n c : Nat) (b : List UInt8) (p q k most : Nat) (w : World) (hn : n ≤ 100000) (hpq : p ≤ q) (hk : k ≤ most) (hm : q + most ≤ n) (h : Bytes w w.heap.size A n b) :
    Calls Try.prog 24 #[.slice A n c, .int .i64 (p : Int), .int .i64 (q : Int), .int .i64 (k : Int), .int .i64 (most : Int)] w fun e w' => e = .returned (.int .i64 (runF b q (q - p) (most - k) k : Int)) ∧ Ext w w' := by
  have hl := h.1
  subst hl
  have HB := hide h
  have HK := hide hk
  obtain ⟨res, hres⟩ : ∃ res, runF b q (q - p) (most - k) k = res := ⟨_, rfl⟩
  rw [hres]
  have HR := hide hres
  clear h hk hres
  go_enter Try.func24, Try.ntmps24
  go_wp2
  go_loopw [3] (fun x wr => ∃ k : Nat, k ≤ most ∧ x = .int .i64 (k : Int) ∧ runF b q (q - p) (most - k) k = res ∧ Qt w wr) (fun x _ => most - (intOf x).toNat)
  case atStart => exact ⟨k, HK.out, rfl, HR.out, Qt.refl _⟩
  case round =>
    clear HK HR
    obtain ⟨k, hk, rfl, hR, hQ⟩ := hrel
    have HR := hide hR
    clear hR
    by_cases hkm : k < most
    · have hkI : (k : Int) < (most : Int) := by omega
      have hkd : decide ((k : Int) < (most : Int)) = true := decide_eq_true hkI
      rcases (hQ.ext.bytes HB.out).2 with h0 | ⟨b1, o1, rfl, _, hc⟩
      · omega
      have e1 := hc (p + k) (by omega)
      have e2 := hc (q + k) (by omega)
      clear hc
      have hix : q + k - (q - p) = p + k := by omega
      have hin : q + k < b.length := by omega
      have HOn := hide (show b.getD (p + k) 0 = b.getD (q + k) 0 → runF b q (q - p) (most - k) k = runF b q (q - p) (most - (k + 1)) (k + 1) from fun h => same_on hkm ⟨hin, by rw [hix]; exact h⟩)
      have HOff := hide (show ¬ b.getD (p + k) 0 = b.getD (q + k) 0 → runF b q (q - p) (most - k) k = k from fun h => same_off hkm (fun hh => h (by rw [← hix]; exact hh.2)))
      generalize b.getD (p + k) 0 = y at *
      generalize b.getD (q + k) 0 = z at *
      by_cases he : y = z
      · subst he
        have hOn := HOn.out rfl
        rw [HR.out] at hOn
        have HR2 := hide hOn
        have hy8 := UInt8.toNat_lt y
        generalize y.toNat = yy at *
        clear HOff HOn HR hOn
        go_wp2_with fail
        go_quiet (fail)
        go_wp2
        go_roundw
        case rel => exact ⟨k + 1, by omega, by go_num, HR2.out.symm, hQ.drewN _⟩
        case measure => simp [intOf]; omega
      · have hOff := HOff.out he
        rw [HR.out] at hOff
        have HR2 := hide hOff
        have hy8 := UInt8.toNat_lt y
        have hz8 := UInt8.toNat_lt z
        have hne : y.toNat ≠ z.toNat := fun e => he (UInt8.toNat_inj.1 e)
        generalize y.toNat = yy at *
        generalize z.toNat = zz at *
        have hyz : ((yy : Int) == (zz : Int)) = false := by rw [beq_eq_false_iff_ne]; omega
        clear HOff HOn HR hOff he hne
        go_wp2_with fail
        go_quiet (fail)
        go_wp2
        go_ret
        exact ⟨ret_i64 (by rw [HR2.out]), (hQ.drewN _).ext⟩
    · obtain rfl : k = most := by omega
      have hkd : decide ((k : Int) < (k : Int)) = false := decide_eq_false (by omega)
      have hT := same_top b q (q - p) k
      rw [HR.out] at hT
      have HR2 := hide hT
      clear HR hT
      go_wp2_with fail
      go_quiet (fail)
      go_wp2
      go_ret
      exact ⟨ret_i64 (by rw [HR2.out]), (hQ.drewN _).ext⟩

set_option maxHeartbeats 4000000 in
set_option maxRecDepth 100000 in
theorem lzLonger_any (A : Option Addr) (n c : Nat) (b : List UInt8) (p q k : Nat) (w : World) (hn : n ≤ 100000) (hnc : n ≤ c) (hpq : p ≤ q) (hm : q + k < n) (h : Bytes w w.heap.size A n b) :
    Calls Try.prog 23 #[.slice A n c, .int .i64 (p : Int), .int .i64 (q : Int), .int .i64 (k : Int)] w fun e w' => e = .returned (.bool (decide (b.getD (p + k) 0 = b.getD (q + k) 0) && decide ((b.drop p).take k = (b.drop q).take k))) ∧ Ext w w' := by
  have hb1 := (h.drop (k := p) (by omega) hnc).take (k := k) (by omega)
  have hb2 := (h.drop (k := q) (by omega) hnc).take (k := k) (by omega)
  have CE := fun j => lzEqual_any (cutAt A c p) (cutAt A c q) k k (c - p) (c - q) _ _ (w.drewN j) (hb1.below ((Ext.refl w).drewN j) (Nat.le_refl _)) (hb2.below ((Ext.refl w).drewN j) (Nat.le_refl _))
  have hl := h.1
  subst hl
  have r1 := fun W => run_mid W A b.length c .i64 .i64 (p : Int) ((p : Int) + (k : Int)) (by omega) (by omega) (by omega)
  have r2 := fun W => run_mid W A b.length c .i64 .i64 (q : Int) ((q : Int) + (k : Int)) (by omega) (by omega) (by omega)
  rw [show ((p : Int) + (k : Int)).toNat - (p : Int).toNat = k by omega, Int.toNat_natCast] at r1
  rw [show ((q : Int) + (k : Int)).toNat - (q : Int).toNat = k by omega, Int.toNat_natCast] at r2
  rcases h.2 with h0 | ⟨b1, o1, rfl, _, hc⟩
  · omega
  have e1 := hc (p + k) (by omega)
  have e2 := hc (q + k) (by omega)
  generalize (b.drop p).take k = x at *
  generalize (b.drop q).take k = y at *
  generalize b.getD (p + k) 0 = s at *
  generalize b.getD (q + k) 0 = t at *
  generalize cutAt (some ⟨b1, o1, none⟩) c p = A1 at *
  generalize cutAt (some ⟨b1, o1, none⟩) c q = A2 at *
  clear hb1 hb2 hc h
  by_cases he : s = t
  · subst he
    have hr : (decide (s = s) && decide (x = y)) = decide (x = y) := by simp
    rw [hr]
    have HR := hide hr
    have hy8 := UInt8.toNat_lt s
    generalize s.toNat = yy at *
    generalize decide (x = y) = r at *
    clear hr HR
    go_enter Try.func23, Try.ntmps23
    go_wp2_with fail
    go_quiet (first | (go_at_call 25; exact Calls.quiet_of ((CE _).mono fun _ _ ⟨he, hw⟩ => ⟨he, 0, hw.symm⟩)))
    go_wp2
    go_ret
    exact ⟨rfl, (Ext.refl w).drewN _⟩
  · have hr : (decide (s = t) && decide (x = y)) = false := by rw [decide_eq_false he]; rfl
    rw [hr]
    have hy8 := UInt8.toNat_lt s
    have hz8 := UInt8.toNat_lt t
    have hne : s.toNat ≠ t.toNat := fun e => he (UInt8.toNat_inj.1 e)
    generalize s.toNat = yy at *
    generalize t.toNat = zz at *
    have hyz : ((yy : Int) == (zz : Int)) = false := by rw [beq_eq_false_iff_ne]; omega
    clear hr he hne CE r1 r2
    go_enter Try.func23, Try.ntmps23
    go_wp2_with fail
    go_quiet (fail)
    go_wp2
    go_ret
    exact ⟨rfl, (Ext.refl w).drewN _⟩
end Go.Proofs.Ytklofjgfecpkiaa
