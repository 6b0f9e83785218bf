/- The document's Find of chapter 10. -/
import Derived.Test.YtklofjgfecpkiaaLzMath
import Derived.BigQuiet
namespace Go.Proofs.Ytklofjgfecpkiaa
open Go.RowKit Lz

/-- Behind a call that makes tokens. -/
def MadeTk (w : World) (L : List TokV) (e : Ending) (w' : World) : Prop := ∃ v, e = .returned v ∧ OwnTk w' w.heap.size v L ∧ Ext w w'
theorem Lz.run_start (b : List UInt8) (p d : Nat) : runF b p d (257 - 0) 0 = run b p d := rfl
theorem Lz.run_on {b : List UInt8} {p d k : Nat} (hk : k < 257) (h : p + k < b.length ∧ b.getD (p + k - d) 0 = b.getD (p + k) 0) : runF b p d (257 - k) k = runF b p d (257 - (k + 1)) (k + 1) := by
  rw [show 257 - k = 257 - (k + 1) + 1 by omega, runF, if_pos h]
theorem Lz.run_off {b : List UInt8} {p d k : Nat} (hk : k < 257) (h : ¬ (p + k < b.length ∧ b.getD (p + k - d) 0 = b.getD (p + k) 0)) : runF b p d (257 - k) k = k := by
  rw [show 257 - k = 257 - (k + 1) + 1 by omega, runF, if_neg h]
theorem Lz.run_top (b : List UInt8) (p d : Nat) : runF b p d (257 - 257) 257 = 257 := rfl

set_option maxHeartbeats 4000000 in
set_option maxRecDepth 100000 in
theorem refFind_any (A : Option Addr) (n c : Nat) (b : List UInt8) (w : World) (hn : n ≤ 100000) (h : Bytes w w.heap.size A n b) : Calls Try.prog 12 #[.slice A n c] w (MadeTk w (toks b 0)) := by
  have hl := h.1
  subst hl
  have HB := hide h
  have HEnd := hide (show ∀ p, ¬ p < b.length → toks b p = [] from fun p hp => toks_end hp)
  have HNext := hide (show ∀ p, p < b.length → toks b p = tokAt b p :: toks b (p + stepAt b p) from fun p hp => toks_next hp)
  have HIn := hide (show ∀ p, p < b.length → p + stepAt b p ≤ b.length from fun p hp => step_in hp)
  have HPos := hide (step_pos b)
  clear h
  go_enter Try.func12, Try.ntmps12
  go_wp2
  go_loopw [3, 4] (fun o a wr => ∃ (p : Nat) (L : List TokV), p ≤ b.length ∧ L.length ≤ p ∧ a = .int .i64 (p : Int) ∧ OwnTk wr w.heap.size o L ∧ L ++ toks b p = toks b 0 ∧ Ext w wr) (fun _ a _ => b.length - (intOf a).toNat)
  case atStart => exact ⟨0, [], by omega, by simp, rfl, OwnTk.nil _ _, rfl, Ext.refl _⟩
  case round =>
    obtain ⟨p, L, hp, hLp, rfl, hO, hL, hE⟩ := hrel
    obtain ⟨Ao, co, rfl, _⟩ := hO.form
    by_cases hlt : p < b.length
    · have hpI : (p : Int) < (b.length : Int) := by omega
      have hBest0 : best b p 0 = (0, 0) := rfl
      have HBest := hide (show ∀ m, best b p (m + 1) = if (best b p m).1 < run b p (m + 1) then (run b p (m + 1), m + 1) else best b p m from fun _ => rfl)
      have HLe := hide (best_le b p)
      have HO := hide hO
      have HL := hide hL
      obtain ⟨wa, rfl⟩ : ∃ W, W = wr := ⟨_, rfl⟩
      clear hO hL
      go_wp2_with fail
      go_loopw [5, 6, 7] (fun x y z wq => ∃ m : Nat, m ≤ min 4095 p ∧ x = .int .i64 ((best b p m).1 : Int) ∧ y = .int .i64 ((best b p m).2 : Int) ∧ z = .int .i64 ((m + 1 : Nat) : Int) ∧ Qt wa wq) (fun _ _ z _ => 4097 - (intOf z).toNat)
      case atStart => exact ⟨0, by omega, rfl, rfl, rfl, Qt.refl _⟩
      case round =>
        obtain ⟨m, hm, rfl, rfl, rfl, hQ⟩ := hrel
        have hbl := HLe.out m
        have hBn := HBest.out m
        by_cases hmp : m < min 4095 p
        · have hm1 : ((m + 1 : Nat) : Int) ≤ 4095 := by omega
          have hm2 : ((m + 1 : Nat) : Int) ≤ (p : Int) := by omega
          obtain ⟨⟨bn, bd⟩, hbe⟩ : ∃ r, r = best b p m := ⟨_, rfl⟩
          rw [← hbe] at hBn hbl ⊢
          dsimp only at hBn hbl ⊢
          have HBn := hide hBn
          have HQ := hide hQ
          obtain ⟨wb, rfl⟩ : ∃ W, W = wr := ⟨_, rfl⟩
          clear hBn hbe hQ hBest0
          go_wp2_with fail
          go_loopw [8] (fun x wq => ∃ k : Nat, k ≤ 257 ∧ x = .int .i64 (k : Int) ∧ runF b p (m + 1) (257 - k) k = run b p (m + 1) ∧ Qt wa wq) (fun x _ => 258 - (intOf x).toNat)
          case atStart => exact ⟨0, by omega, rfl, rfl, HQ.out⟩
          case round =>
            obtain ⟨k, hk, rfl, hrun, hQ⟩ := hrel
            have HRun := hide hrun
            clear hrun
            by_cases hk257 : k < 257
            · have hkI : (k : Int) < 257 := by omega
              have hkd : decide ((k : Int) < 257) = true := decide_eq_true hkI
              by_cases hpk : p + k < b.length
              · have hpkI : (p : Int) + (k : Int) < (b.length : Int) := by omega
                have hpkd : decide ((p : Int) + (k : Int) < (b.length : Int)) = true := decide_eq_true hpkI
                rcases ((hE.trans hQ.ext).bytes HB.out).2 with h0 | ⟨b1, o1, rfl, _, hc⟩
                · omega
                have e1 := hc (p + k - (m + 1)) (by omega)
                have e2 := hc (p + k) hpk
                have hix : ((p : Int) + (k : Int) - ((m + 1 : Nat) : Int)) = ((p + k - (m + 1) : Nat) : Int) := by omega
                have hix0 : (0 : Int) ≤ (p : Int) + (k : Int) - ((m + 1 : Nat) : Int) := by omega
                clear hc
                by_cases he : b.getD (p + k - (m + 1)) 0 = b.getD (p + k) 0
                · have HOn := hide (run_on hk257 ⟨hpk, he⟩)
                  rw [he] at e1
                  have hy8 := UInt8.toNat_lt (b.getD (p + k) 0)
                  generalize (b.getD (p + k) 0).toNat = y at *
                  clear he
                  go_wp2_with fail
                  go_quiet (fail)
                  go_wp2
                  go_roundw
                  case rel => exact ⟨k + 1, by omega, by go_num, by rw [← HOn.out]; exact HRun.out, hQ.drewN _⟩
                  case measure => simp [intOf]; omega
                · have hrunK := HRun.out
                  rw [run_off hk257 (fun h => he h.2)] at hrunK
                  have HK := hide hrunK
                  have hy8 := UInt8.toNat_lt (b.getD (p + k - (m + 1)) 0)
                  have hz8 := UInt8.toNat_lt (b.getD (p + k) 0)
                  have hne : (b.getD (p + k - (m + 1)) 0).toNat ≠ (b.getD (p + k) 0).toNat := fun e => he (UInt8.toNat_inj.1 e)
                  generalize (b.getD (p + k - (m + 1)) 0).toNat = y at *
                  generalize (b.getD (p + k) 0).toNat = z at *
                  have hyz : ((y : Int) == (z : Int)) = false := by rw [beq_eq_false_iff_ne]; omega
                  have hrk := HBn.out
                  rw [← HK.out] at hrk
                  clear he hne hrunK
                  by_cases hgt : bn < k
                  · rw [if_pos hgt] at hrk
                    have HR := hide hrk
                    have hgtI : (bn : Int) < (k : Int) := by omega
                    clear hrk
                    go_wp2_with fail
                    go_quiet (fail)
                    go_wp2
                    go_roundw
                    case rel => exact ⟨m + 1, by omega, by rw [HR.out], by rw [HR.out]; go_num, by go_num, hQ.drewN _⟩
                    case measure => simp [intOf]; omega
                  · rw [if_neg hgt] at hrk
                    have HR := hide hrk
                    have hgtI : ¬ (bn : Int) < (k : Int) := by omega
                    clear hrk
                    go_wp2_with fail
                    go_quiet (fail)
                    go_wp2
                    go_roundw
                    case rel => exact ⟨m + 1, by omega, by rw [HR.out], by rw [HR.out], by go_num, hQ.drewN _⟩
                    case measure => simp [intOf]; omega
              · have hpkd : decide ((p : Int) + (k : Int) < (b.length : Int)) = false := decide_eq_false (by omega)
                have hrunK := HRun.out
                rw [run_off hk257 (fun h => hpk h.1)] at hrunK
                have HK := hide hrunK
                have hrk := HBn.out
                rw [← HK.out] at hrk
                clear hrunK
                by_cases hgt : bn < k
                · rw [if_pos hgt] at hrk
                  have HR := hide hrk
                  have hgtI : (bn : Int) < (k : Int) := by omega
                  clear hrk
                  go_wp2_with fail
                  go_quiet (fail)
                  go_wp2
                  go_roundw
                  case rel => exact ⟨m + 1, by omega, by rw [HR.out], by rw [HR.out]; go_num, by go_num, hQ.drewN _⟩
                  case measure => simp [intOf]; omega
                · rw [if_neg hgt] at hrk
                  have HR := hide hrk
                  have hgtI : ¬ (bn : Int) < (k : Int) := by omega
                  clear hrk
                  go_wp2_with fail
                  go_quiet (fail)
                  go_wp2
                  go_roundw
                  case rel => exact ⟨m + 1, by omega, by rw [HR.out], by rw [HR.out], by go_num, hQ.drewN _⟩
                  case measure => simp [intOf]; omega
            · obtain rfl : k = 257 := by omega
              have hkd : decide (((257 : Nat) : Int) < 257) = false := decide_eq_false (by omega)
              have hrk := HBn.out
              rw [← HRun.out, run_top] at hrk
              by_cases hgt : bn < 257
              · rw [if_pos hgt] at hrk
                have HR := hide hrk
                have hgtI : (bn : Int) < ((257 : Nat) : Int) := by omega
                clear hrk
                go_wp2_with fail
                go_quiet (fail)
                go_wp2
                go_roundw
                case rel => exact ⟨m + 1, by omega, by rw [HR.out], by rw [HR.out]; go_num, by go_num, hQ.drewN _⟩
                case measure => simp [intOf]; omega
              · rw [if_neg hgt] at hrk
                have HR := hide hrk
                have hgtI : ¬ (bn : Int) < ((257 : Nat) : Int) := by omega
                clear hrk
                go_wp2_with fail
                go_quiet (fail)
                go_wp2
                go_roundw
                case rel => exact ⟨m + 1, by omega, by rw [HR.out], by rw [HR.out], by go_num, hQ.drewN _⟩
                case measure => simp [intOf]; omega
        · obtain rfl : m = min 4095 p := by omega
          have hpos := HPos.out p
          have hin := HIn.out p hlt
          have hnx := HNext.out p hlt
          have hTok := hide (show tokAt b p = if 3 ≤ (bestAt b p).1 then ⟨0, ((bestAt b p).1 : Int), ((bestAt b p).2 : Int)⟩ else ⟨b.getD p 0, 0, 0⟩ from rfl)
          have hStep := hide (show stepAt b p = if 3 ≤ (bestAt b p).1 then (bestAt b p).1 else 1 from rfl)
          have HNx := hide hnx
          change (bestAt b p).1 ≤ 257 ∧ _ at hbl
          have hBe : best b p (min 4095 p) = bestAt b p := rfl
          rw [hBe] at hbl ⊢
          generalize bestAt b p = r at *
          obtain ⟨bn, bd⟩ := r
          dsimp only at hbl ⊢
          have hbd : bd ≤ 4095 := by omega
          have hEq := hE.trans hQ.ext
          have hOq := HO.out.ext hQ.ext
          have hLn : L.length ≤ 1000000 := by omega
          clear hnx hBn hBe hBest0
          have hT := hTok.out
          have hS := hStep.out
          dsimp only at hT hS
          clear hTok hStep hpos
          by_cases h4 : min 4095 p + 1 ≤ 4095
          · have h4I : ((min 4095 p + 1 : Nat) : Int) ≤ 4095 := by omega
            have h5I : ¬ ((min 4095 p + 1 : Nat) : Int) ≤ (p : Int) := by omega
            obtain ⟨mm, hmm⟩ : ∃ mm, mm = min 4095 p := ⟨_, rfl⟩
            rw [← hmm] at h4I h5I hbl hm ⊢
            clear hmm h4 hmp
            by_cases h3 : 3 ≤ bn
            · rw [if_pos h3] at hT hS
              have h3I : (3 : Int) ≤ (bn : Int) := by omega
              have HT := hide hT
              have HS := hide hS
              have hEa := extNew wr (.cells #[.int .u8 0, .int .i64 (bn : Int), .int .i64 (bd : Int)] 36)
              have hOa := hOq.ext hEa
              have hbs : w.heap.size ≤ wr.heap.size := hEq.le
              clear hT hS
              go_wp2_with (at_builtin; refine wpList_appTkB rfl (.tmp 58) (.tmp 62) rfl rfl ⟨0, (bn : Int), (bd : Int)⟩ hOa rfl hLn hbs ?_; intro v5 w5 hO5 hG5 _)
              have hE5 : Ext w w5 := Below.grown (hEq.trans hEa) hG5 (hEq.trans hEa).le (fun k hk => (hOq.lt k hk).1)
              go_roundw
              case rel => exact ⟨p + bn, L ++ [⟨0, (bn : Int), (bd : Int)⟩], by rw [HS.out] at hin; exact hin, by rw [List.length_append]; simp; omega, by go_num, hO5, by rw [List.append_assoc, ← HL.out, HNx.out, HT.out, HS.out]; rfl, hE5⟩
              case measure => simp [intOf]; omega
            · rw [if_neg h3] at hT hS
              have h3I : ¬ (3 : Int) ≤ (bn : Int) := by omega
              rcases (hEq.bytes HB.out).2 with h0 | ⟨b1, o1, rfl, _, hc⟩
              · omega
              have e1 := hc p hlt
              have HT := hide hT
              have HS := hide hS
              have hEa := extNew wr (.cells #[.int .u8 ((b.getD p 0).toNat : Int), .int .i64 0, .int .i64 0] 36)
              have hOa := hOq.ext hEa
              have hbs : w.heap.size ≤ wr.heap.size := hEq.le
              have HTk := hide (show ∀ y, y = b.getD p 0 → (⟨y, 0, 0⟩ : TokV) = ⟨b.getD p 0, 0, 0⟩ from fun y e => by rw [e])
              obtain ⟨y, hy⟩ : ∃ y, y = b.getD p 0 := ⟨_, rfl⟩
              rw [← hy] at e1 hEa hOa
              have HTy := hide (HTk.out y hy)
              clear hT hS hc hy HTk
              go_wp2_with (at_builtin; refine wpList_appTkB rfl (.tmp 67) (.tmp 73) rfl rfl ⟨y, 0, 0⟩ hOa rfl hLn hbs ?_; intro v5 w5 hO5 hG5 _)
              have hE5 : Ext w w5 := Below.grown (hEq.trans hEa) hG5 (hEq.trans hEa).le (fun k hk => (hOq.lt k hk).1)
              go_roundw
              case rel => exact ⟨p + 1, L ++ [⟨y, 0, 0⟩], by omega, by rw [List.length_append]; simp; omega, by go_num, hO5, by rw [List.append_assoc, ← HL.out, HNx.out, HT.out, HS.out, HTy.out]; rfl, hE5⟩
              case measure => simp [intOf]; omega
          · have h4I : ¬ ((min 4095 p + 1 : Nat) : Int) ≤ 4095 := by omega
            obtain ⟨mm, hmm⟩ : ∃ mm, mm = min 4095 p := ⟨_, rfl⟩
            rw [← hmm] at h4I hbl hm ⊢
            clear hmm h4 hmp
            by_cases h3 : 3 ≤ bn
            · rw [if_pos h3] at hT hS
              have h3I : (3 : Int) ≤ (bn : Int) := by omega
              have HT := hide hT
              have HS := hide hS
              have hEa := extNew wr (.cells #[.int .u8 0, .int .i64 (bn : Int), .int .i64 (bd : Int)] 36)
              have hOa := hOq.ext hEa
              have hbs : w.heap.size ≤ wr.heap.size := hEq.le
              clear hT hS
              go_wp2_with (at_builtin; refine wpList_appTkB rfl (.tmp 58) (.tmp 62) rfl rfl ⟨0, (bn : Int), (bd : Int)⟩ hOa rfl hLn hbs ?_; intro v5 w5 hO5 hG5 _)
              have hE5 : Ext w w5 := Below.grown (hEq.trans hEa) hG5 (hEq.trans hEa).le (fun k hk => (hOq.lt k hk).1)
              go_roundw
              case rel => exact ⟨p + bn, L ++ [⟨0, (bn : Int), (bd : Int)⟩], by rw [HS.out] at hin; exact hin, by rw [List.length_append]; simp; omega, by go_num, hO5, by rw [List.append_assoc, ← HL.out, HNx.out, HT.out, HS.out]; rfl, hE5⟩
              case measure => simp [intOf]; omega
            · rw [if_neg h3] at hT hS
              have h3I : ¬ (3 : Int) ≤ (bn : Int) := by omega
              rcases (hEq.bytes HB.out).2 with h0 | ⟨b1, o1, rfl, _, hc⟩
              · omega
              have e1 := hc p hlt
              have HT := hide hT
              have HS := hide hS
              have hEa := extNew wr (.cells #[.int .u8 ((b.getD p 0).toNat : Int), .int .i64 0, .int .i64 0] 36)
              have hOa := hOq.ext hEa
              have hbs : w.heap.size ≤ wr.heap.size := hEq.le
              have HTk := hide (show ∀ y, y = b.getD p 0 → (⟨y, 0, 0⟩ : TokV) = ⟨b.getD p 0, 0, 0⟩ from fun y e => by rw [e])
              obtain ⟨y, hy⟩ : ∃ y, y = b.getD p 0 := ⟨_, rfl⟩
              rw [← hy] at e1 hEa hOa
              have HTy := hide (HTk.out y hy)
              clear hT hS hc hy HTk
              go_wp2_with (at_builtin; refine wpList_appTkB rfl (.tmp 67) (.tmp 73) rfl rfl ⟨y, 0, 0⟩ hOa rfl hLn hbs ?_; intro v5 w5 hO5 hG5 _)
              have hE5 : Ext w w5 := Below.grown (hEq.trans hEa) hG5 (hEq.trans hEa).le (fun k hk => (hOq.lt k hk).1)
              go_roundw
              case rel => exact ⟨p + 1, L ++ [⟨y, 0, 0⟩], by omega, by rw [List.length_append]; simp; omega, by go_num, hO5, by rw [List.append_assoc, ← HL.out, HNx.out, HT.out, HS.out, HTy.out]; rfl, hE5⟩
              case measure => simp [intOf]; omega
    · obtain rfl : p = b.length := by omega
      rw [HEnd.out _ (by omega), List.append_nil] at hL
      have HL := hide hL
      have HO := hide hO
      clear hL hO
      go_wp2
      go_ret
      refine ⟨_, rfl, ?_, hE⟩
      rw [← HL.out]
      exact HO.out
end Go.Proofs.Ytklofjgfecpkiaa
