/- WordsCase. -/
import Derived.Test.YtnkiopfpcddliaaWrdLaw
import Derived.Test.YtnkiopfpcddliaaWrdBool
import Derived.Test.YtnkiopfpcddliaaRegTail
namespace Go.Proofs.Ytnkiopfpcddliaa
open Go.RowKit Wrd

attribute [local go_sem ↓] run_txtAt run_txtLen run_txtCut
set_option maxHeartbeats 1000000 in
set_option maxRecDepth 10000 in
theorem wordsCase_walk0 (l : List UInt8) (A : Option Addr) (n c : Nat) (L : List Bool) (w : World) (hB : WWordsC w) (hn : n ≤ c) (hc : c ≤ maxLen) (h : BoolRow w w.heap.size A n L) : Calls Try.prog 7 #[.string ⟨l.toArray⟩, .slice A n c] w fun e w' => e = .returned (.bool true) ∧ Ext w w' := by
  have C0 := alive15_any hB (Ext.refl w)
  by_cases hbig : 2000 < l.length
  · have hbI : (2000 : Int) < (l.length : Int) := by omega
    clear hB h
    go_enter Try.func7, Try.ntmps7
    go_wp2_with fail
    refine C0.mono ?_
    rintro e w1 ⟨rfl, hE1⟩
    go_wp2
    go_ret
    exact ⟨rfl, hE1⟩
  have hbI : ¬ (2000 : Int) < (l.length : Int) := by omega
  have C1 := hide (fun W hE => hB l W hE (by omega))
  have HB2 := hide (fun (Q : List UInt8) (hQ : Q.length = l.length) (hm : Q.map small = l.map small) W hE => (words_case hm) ▸ hB Q W hE (by omega))
  have HLen := hide (words_len l)
  have HTake := hide (show ∀ i, i < l.length → l.take (i + 1) = l.take i ++ [l.getD i 0] from fun i hi => by
    rw [List.take_add_one, List.getD_eq_getElem?_getD, List.getElem?_eq_getElem hi]
    rfl)
  have HAll := hide (show l.take l.length = l from List.take_length)
  have HT0 := hide (show ([] : List UInt8).map small = (l.take 0).map small from rfl)
  unfold MadeTx at C1 HB2
  generalize wordsE l = res at *
  have HA := hide h
  have hnm : n ≤ 9223372036854775807 := by unfold maxLen at hc; omega
  clear hB h hc hn
  go_enter Try.func7, Try.ntmps7
  go_wp2_with fail
  refine C0.mono ?_
  rintro e w1 ⟨rfl, hE1⟩
  have HE1 := hide hE1
  clear C0 hE1
  go_wp2
  go_loopw [6, 5] (fun x u wr => ∃ (i : Nat) (q : Value) (Q : List UInt8), i ≤ l.length ∧ x = .int .i64 (i : Int) ∧ q = u ∧ OwnB wr w.heap.size q Q ∧ Q.length = i ∧ Q.map small = (l.take i).map small ∧ Ext w wr) (fun x _ _ => l.length - (intOf x).toNat)
  case atStart => exact ⟨0, _, [], by omega, rfl, rfl, OwnB.nil _ _, rfl, HT0.out, HE1.out⟩
  case round =>
    clear HE1 HT0
    obtain ⟨i, q, Q, hi, rfl, rfl, hO, hQl, hQm, hE⟩ := hrel
    have HE := hide hE
    have HQm := hide hQm
    clear hQm hE
    by_cases hlt : i < l.length
    · have hiI : (i : Int) < (l.length : Int) := by omega
      obtain ⟨c, hc0⟩ : ∃ c, c = l.getD i 0 := ⟨_, rfl⟩
      have hc : l[i]'hlt = c := by rw [hc0]; simp [List.getD_eq_getElem?_getD, hlt]
      have HT := hide (HTake.out i hlt)
      rw [← hc0] at HT
      have HO := hide hO
      have hql : Q.length + 1 ≤ 140737488355328 := by omega
      have hc255 : c.toNat < 256 := c.toNat_lt
      obtain ⟨y, hy⟩ : ∃ y, y = c.toNat := ⟨_, rfl⟩
      clear hc0 hO
      by_cases hin : i < n
      · have hinI : (i : Int) < (n : Int) := by omega
        have hd0 : decide ((i : Int) < (n : Int)) = true := decide_eq_true hinI
        rcases (HA.out.later HE.out).2 with hn0 | ⟨b1, o1, rfl, _, hcc⟩
        · omega
        have e1 := hcc i hin
        generalize L.getD i false = tb at *
        clear hcc
        cases tb with
        | true =>
          rcases (by omega : y < 65 ∨ (65 ≤ y ∧ y ≤ 90) ∨ (90 < y ∧ y < 97) ∨ (97 ≤ y ∧ y ≤ 122) ∨ 122 < y) with h5 | h5 | h5 | h5 | h5
          · have b0 : ¬ (97 : Int) ≤ (y : Int) := by omega
            have b1 : ¬ (65 : Int) ≤ (y : Int) := by omega
            have HY := hide hy
            have hcy := hy.symm
            clear hy
            have HW := hide (show (Q ++ [c]).map small = (l.take (i + 1)).map small by rw [HT.out, List.map_append, List.map_append, HQm.out])
            have hX := extNew wr (.cells #[.int .u8 (y : Int)] 5)
            have HQX := hide (HO.out.ext hX)
            have HBX := hide (bytesNew wr [c] #[.int .u8 (y : Int)] 5 (0, 0) (by rw [HY.out]; rfl) 1 rfl)
            have HEX := hide (HE.out.trans hX)
            clear hX
            go_wp2_with (at_builtin; refine wpList_app (l := Q) rfl (.tmp 48) (.tmp 50) rfl rfl HQX.out rfl HBX.out hql HEX.out.le ?_; intro v2 w2 hO2 hG2)
            go_roundw
            case rel => exact ⟨i + 1, v2, Q ++ [c], by omega, by go_num, rfl, hO2, by simp; omega, HW.out, Below.grown HEX.out hG2 HEX.out.le (fun j hj => (HQX.out.lt j hj).1)⟩
            case measure => simp [intOf]; omega
          · obtain ⟨z, hz⟩ : ∃ z, z = y := ⟨_, rfl⟩
            rw [← hz] at hy h5
            clear hz
            have hcz := hy.symm
            have hz := hy
            clear hy
            clear y
            obtain ⟨y, hy⟩ : ∃ y, y = (c + 32).toNat := ⟨_, rfl⟩
            have b0 : ¬ (97 : Int) ≤ (z : Int) := by omega
            have b1 : (65 : Int) ≤ (z : Int) := by omega
            have b2 : (z : Int) ≤ (90 : Int) := by omega
            have hwrap : IntKind.u8.wrap ((z : Int) + 32) = (y : Int) := by rw [IntKind.wrap_u8, hy, UInt8.toNat_add]; show _ = (((c.toNat + 32) % 256 : Nat) : Int); omega
            have hsm := small_up c (by omega) (by omega)
            have HY := hide hy
            clear hy hz
            have HW := hide (show (Q ++ [c + 32]).map small = (l.take (i + 1)).map small by rw [HT.out, List.map_append, List.map_append, HQm.out]; congr 1; simp only [List.map_cons, List.map_nil]; rw [hsm])
            have hX := extNew wr (.cells #[.int .u8 (y : Int)] 5)
            have HQX := hide (HO.out.ext hX)
            have HBX := hide (bytesNew wr [c + 32] #[.int .u8 (y : Int)] 5 (0, 0) (by rw [HY.out]; rfl) 1 rfl)
            have HEX := hide (HE.out.trans hX)
            clear hX
            go_wp2_with (at_builtin; refine wpList_app (l := Q) rfl (.tmp 48) (.tmp 50) rfl rfl HQX.out rfl HBX.out hql HEX.out.le ?_; intro v2 w2 hO2 hG2)
            go_roundw
            case rel => exact ⟨i + 1, v2, Q ++ [c + 32], by omega, by go_num, rfl, hO2, by simp; omega, HW.out, Below.grown HEX.out hG2 HEX.out.le (fun j hj => (HQX.out.lt j hj).1)⟩
            case measure => simp [intOf]; omega
          · have b0 : ¬ (97 : Int) ≤ (y : Int) := by omega
            have b1 : (65 : Int) ≤ (y : Int) := by omega
            have b2 : ¬ (y : Int) ≤ (90 : Int) := by omega
            have HY := hide hy
            have hcy := hy.symm
            clear hy
            have HW := hide (show (Q ++ [c]).map small = (l.take (i + 1)).map small by rw [HT.out, List.map_append, List.map_append, HQm.out])
            have hX := extNew wr (.cells #[.int .u8 (y : Int)] 5)
            have HQX := hide (HO.out.ext hX)
            have HBX := hide (bytesNew wr [c] #[.int .u8 (y : Int)] 5 (0, 0) (by rw [HY.out]; rfl) 1 rfl)
            have HEX := hide (HE.out.trans hX)
            clear hX
            go_wp2_with (at_builtin; refine wpList_app (l := Q) rfl (.tmp 48) (.tmp 50) rfl rfl HQX.out rfl HBX.out hql HEX.out.le ?_; intro v2 w2 hO2 hG2)
            go_roundw
            case rel => exact ⟨i + 1, v2, Q ++ [c], by omega, by go_num, rfl, hO2, by simp; omega, HW.out, Below.grown HEX.out hG2 HEX.out.le (fun j hj => (HQX.out.lt j hj).1)⟩
            case measure => simp [intOf]; omega
          · obtain ⟨z, hz⟩ : ∃ z, z = y := ⟨_, rfl⟩
            rw [← hz] at hy h5
            clear hz
            have hcz := hy.symm
            have hz := hy
            clear hy
            clear y
            obtain ⟨y, hy⟩ : ∃ y, y = (c - 32).toNat := ⟨_, rfl⟩
            have b0 : (97 : Int) ≤ (z : Int) := by omega
            have b1 : (z : Int) ≤ (122 : Int) := by omega
            have hwrap : IntKind.u8.wrap ((z : Int) - 32) = (y : Int) := by rw [IntKind.wrap_u8, hy, UInt8.toNat_sub]; show _ = (((256 - 32 + c.toNat) % 256 : Nat) : Int); omega
            have hsm := small_down c (by omega) (by omega)
            have HY := hide hy
            clear hy hz
            have HW := hide (show (Q ++ [c - 32]).map small = (l.take (i + 1)).map small by rw [HT.out, List.map_append, List.map_append, HQm.out]; congr 1; simp only [List.map_cons, List.map_nil]; rw [hsm])
            have hX := extNew wr (.cells #[.int .u8 (y : Int)] 5)
            have HQX := hide (HO.out.ext hX)
            have HBX := hide (bytesNew wr [c - 32] #[.int .u8 (y : Int)] 5 (0, 0) (by rw [HY.out]; rfl) 1 rfl)
            have HEX := hide (HE.out.trans hX)
            clear hX
            go_wp2_with (at_builtin; refine wpList_app (l := Q) rfl (.tmp 48) (.tmp 50) rfl rfl HQX.out rfl HBX.out hql HEX.out.le ?_; intro v2 w2 hO2 hG2)
            go_roundw
            case rel => exact ⟨i + 1, v2, Q ++ [c - 32], by omega, by go_num, rfl, hO2, by simp; omega, HW.out, Below.grown HEX.out hG2 HEX.out.le (fun j hj => (HQX.out.lt j hj).1)⟩
            case measure => simp [intOf]; omega
          · have b0 : (97 : Int) ≤ (y : Int) := by omega
            have b1 : ¬ (y : Int) ≤ (122 : Int) := by omega
            have b2 : (65 : Int) ≤ (y : Int) := by omega
            have b3 : ¬ (y : Int) ≤ (90 : Int) := by omega
            have HY := hide hy
            have hcy := hy.symm
            clear hy
            have HW := hide (show (Q ++ [c]).map small = (l.take (i + 1)).map small by rw [HT.out, List.map_append, List.map_append, HQm.out])
            have hX := extNew wr (.cells #[.int .u8 (y : Int)] 5)
            have HQX := hide (HO.out.ext hX)
            have HBX := hide (bytesNew wr [c] #[.int .u8 (y : Int)] 5 (0, 0) (by rw [HY.out]; rfl) 1 rfl)
            have HEX := hide (HE.out.trans hX)
            clear hX
            go_wp2_with (at_builtin; refine wpList_app (l := Q) rfl (.tmp 48) (.tmp 50) rfl rfl HQX.out rfl HBX.out hql HEX.out.le ?_; intro v2 w2 hO2 hG2)
            go_roundw
            case rel => exact ⟨i + 1, v2, Q ++ [c], by omega, by go_num, rfl, hO2, by simp; omega, HW.out, Below.grown HEX.out hG2 HEX.out.le (fun j hj => (HQX.out.lt j hj).1)⟩
            case measure => simp [intOf]; omega
        | false =>
          have HY := hide hy
          have hcy := hy.symm
          clear hy
          have HW := hide (show (Q ++ [c]).map small = (l.take (i + 1)).map small by rw [HT.out, List.map_append, List.map_append, HQm.out])
          have hX := extNew wr (.cells #[.int .u8 (y : Int)] 5)
          have HQX := hide (HO.out.ext hX)
          have HBX := hide (bytesNew wr [c] #[.int .u8 (y : Int)] 5 (0, 0) (by rw [HY.out]; rfl) 1 rfl)
          have HEX := hide (HE.out.trans hX)
          clear hX
          go_wp2_with (at_builtin; refine wpList_app (l := Q) rfl (.tmp 48) (.tmp 50) rfl rfl HQX.out rfl HBX.out hql HEX.out.le ?_; intro v2 w2 hO2 hG2)
          go_roundw
          case rel => exact ⟨i + 1, v2, Q ++ [c], by omega, by go_num, rfl, hO2, by simp; omega, HW.out, Below.grown HEX.out hG2 HEX.out.le (fun j hj => (HQX.out.lt j hj).1)⟩
          case measure => simp [intOf]; omega
      · have hinI : ¬ (i : Int) < (n : Int) := by omega
        have hd0 : decide ((i : Int) < (n : Int)) = false := decide_eq_false hinI
        have HY := hide hy
        have hcy := hy.symm
        clear hy
        have HW := hide (show (Q ++ [c]).map small = (l.take (i + 1)).map small by rw [HT.out, List.map_append, List.map_append, HQm.out])
        have hX := extNew wr (.cells #[.int .u8 (y : Int)] 5)
        have HQX := hide (HO.out.ext hX)
        have HBX := hide (bytesNew wr [c] #[.int .u8 (y : Int)] 5 (0, 0) (by rw [HY.out]; rfl) 1 rfl)
        have HEX := hide (HE.out.trans hX)
        clear hX
        go_wp2_with (at_builtin; refine wpList_app (l := Q) rfl (.tmp 48) (.tmp 50) rfl rfl HQX.out rfl HBX.out hql HEX.out.le ?_; intro v2 w2 hO2 hG2)
        go_roundw
        case rel => exact ⟨i + 1, v2, Q ++ [c], by omega, by go_num, rfl, hO2, by simp; omega, HW.out, Below.grown HEX.out hG2 HEX.out.le (fun j hj => (HQX.out.lt j hj).1)⟩
        case measure => simp [intOf]; omega
    · obtain rfl : i = l.length := by omega
      rw [HAll.out] at HQm
      have C2 := HB2.out Q hQl HQm.out
      obtain ⟨Aq, cq, rfl, hq1, hq2, hq3⟩ := hO.form
      have HB := hide hq3
      have HNo := hide (show Aq = none → Q.length = 0 from fun h => by subst h; rcases hq3.2 with h | ⟨_, _, h, _⟩; exact h; cases h)
      clear hO hq3 hQl
      go_wp2_with fail
      refine wp_region_T (fun W => Ext wr W) 6 7 #[false, false, false, false, false, false, false] (by kernel_rfl) rfl rfl (Ext.refl wr).drew ?_
      intro hS0
      refine wpAnyT_take 0 (some 52) (.string ⟨l.toArray⟩) #[true, false, false, false, false, false, false] rfl rfl rfl (by kernel_rfl) (fun _ _ _ h => h) hS0 (by rfl) (fun W hX => by go_simp) ?_
      simp only [Act.put, List.setIfInBounds_toArray, List.set_cons_zero, List.set_cons_succ]
      refine wpAnyT_take 2 (some 54) (.slice Aq Q.length cq) #[true, false, true, false, false, false, false] rfl rfl rfl (by kernel_rfl) (fun _ _ _ h => h) hS0 (by rfl) (fun W hX => by go_simp) ?_
      simp only [Act.put, List.setIfInBounds_toArray, List.set_cons_zero, List.set_cons_succ]
      refine wpAnyT_take 3 (some 55) (.string ⟨Q.toArray⟩) #[true, false, true, true, false, false, false] rfl rfl rfl (by kernel_rfl) (fun _ _ _ h => h) hS0 (by rfl) (fun W hX => by have s0 := conv_bytes cq (hX.bytes HB.out) HNo.out; go_simp) ?_
      simp only [Act.put, List.setIfInBounds_toArray, List.set_cons_zero, List.set_cons_succ]
      refine wpAnyT_only 1 #[true, true, true, true, false, false, false] (by kernel_rfl) rfl rfl (by rfl) (fun K0 hK0 => ?_)
      go_simp
      go_at_call 12
      refine (C1.out _ (HE.out.trans hS0)).mono ?_
      rintro e w2 ⟨A2, c2, rfl, _, _, h2, hE2⟩
      have hS2 := hS0.trans hE2
      refine hK0 _ _ (fun _ => hS2) ?_
      clear hK0 K0
      refine wpAnyT_only 4 #[true, true, true, true, true, false, false] (by kernel_rfl) rfl rfl (by rfl) (fun K1 hK1 => ?_)
      go_simp
      go_at_call 12
      refine (C2 _ (HE.out.trans hS2)).mono ?_
      rintro e w3 ⟨A3, c3, rfl, _, _, h3, hE3⟩
      have hS3 := hS2.trans hE3
      have CS := refSame15_any A2 A3 c2 c3 res res w3 (h2.later hE3) h3 (by have := HLen.out; omega)
      rw [decide_eq_true rfl] at CS
      refine hK1 _ _ (fun _ => hS3) ?_
      clear hK1 K1
      refine wpAnyT_only 5 #[true, true, true, true, true, true, false] (by kernel_rfl) rfl rfl (by rfl) (fun K2 hK2 => ?_)
      go_simp
      go_at_call 11
      refine CS.mono ?_
      rintro e w4 ⟨rfl, hE4⟩
      have hS4 := hS3.trans hE4
      refine hK2 _ _ (fun _ => hS4) ?_
      clear hK2 K2
      refine wpAnyT_only 6 #[true, true, true, true, true, true, true] (by kernel_rfl) rfl rfl (by rfl) (fun K3 hK3 => ?_)
      go_simp
      refine hK3 _ _ (fun h => absurd h (by decide)) (wpAnyT_done (by kernel_rfl) ?_ _)
      clear hK3 K3
      go_wp2
      go_ret
      exact ⟨rfl, HE.out.trans hS4⟩
end Go.Proofs.Ytnkiopfpcddliaa
