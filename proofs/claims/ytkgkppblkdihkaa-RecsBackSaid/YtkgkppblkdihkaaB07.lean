/- The program's levels of chapter 17. The program's ReadColumns of chapter 17. The contracts of the landed package recs, as the laws of chapter 17 ask them. RecsFits. The laws of chapter 17 at the landed package: their walks. -/
import Derived.Test.YtkgkppblkdihkaaB03
import Derived.Test.YtkgkppblkdihkaaB04
import Derived.Test.YtkgkppblkdihkaaB05
import Derived.Test.YtkgkppblkdihkaaB06
import Derived.Deep.DeepCutAuto
import Derived.OpenShut
namespace Go.Proofs.Ytkgkppblkdihkaa
open Go.RowKit Rcs Num

/-- What levels has so far. -/
def LevTo (b : List UInt8) (n q0 : Nat) (L : List UInt8) (q : Nat) (e : Int) : Prop :=
  L.length ≤ n ∧ ((e = 0 ∧ ∃ f, n - L.length ≤ f ∧ levelsR b n n none q0 = after L (levelsR b f (n - L.length) L.getLast? q)) ∨ (e ≠ 0 ∧ levelsR b n n none q0 = ([], 0, e)))
theorem Rcs.run_zero {b : List UInt8} {q left : Nat} (h : (runR b q left).2.2 ≠ 0) : (runR b q left).1 = 0 := by
  unfold runR intR at h ⊢
  split
  · rename_i h1
    rw [if_pos h1] at h
    split
    · rfl
    · rename_i h2
      rw [if_neg h2] at h
      exact absurd h1 h
  · rfl
theorem LevTo.next {b : List UInt8} {n q0 q : Nat} {L : List UInt8} (h : LevTo b n q0 L q 0) (hl : L.length < n) :
    ((runR b q (n - L.length)).1 = 0 ∨ L.getLast? = some (UInt8.ofNat (byteR b q 0).1) → LevTo b n q0 (L ++ List.replicate (runR b q (n - L.length)).1 (UInt8.ofNat (byteR b q 0).1)) (runR b q (n - L.length)).2.1 (failR (runR b q (n - L.length)).2.2 2) ∧ failR (runR b q (n - L.length)).2.2 2 ≠ 0) ∧
    (¬ ((runR b q (n - L.length)).1 = 0 ∨ L.getLast? = some (UInt8.ofNat (byteR b q 0).1)) → LevTo b n q0 (L ++ List.replicate (runR b q (n - L.length)).1 (UInt8.ofNat (byteR b q 0).1)) (runR b q (n - L.length)).2.1 (runR b q (n - L.length)).2.2 ∧ (runR b q (n - L.length)).2.2 = 0) := by
  obtain ⟨f, hf, h⟩ : ∃ f, n - L.length ≤ f ∧ levelsR b n n none q0 = after L (levelsR b f (n - L.length) L.getLast? q) := by
    rcases h.2 with h | h
    · exact h.2
    · exact absurd rfl h.1
  obtain ⟨f, rfl⟩ : ∃ k, f = k + 1 := ⟨f - 1, by omega⟩
  have hle := run_le' (b := b) (q := q) (left := n - L.length)
  have hlen : (L ++ List.replicate (runR b q (n - L.length)).1 (UInt8.ofNat (byteR b q 0).1)).length ≤ n := by rw [List.length_append, List.length_replicate]; omega
  by_cases he : (runR b q (n - L.length)).2.2 = 0
  · have hf2 : failR (runR b q (n - L.length)).2.2 2 = 2 := by unfold failR; rw [if_pos he]
    refine ⟨fun hc => ?_, fun hc => ?_⟩
    · rw [hf2]
      refine ⟨⟨hlen, .inr ⟨by omega, ?_⟩⟩, by omega⟩
      rw [h, levels_form (by omega) he hc]
      rfl
    · refine ⟨⟨hlen, .inl ⟨he, f, by rw [List.length_append, List.length_replicate]; have : (runR b q (n - L.length)).1 ≠ 0 := fun e => hc (.inl e); omega, ?_⟩⟩, he⟩
      rw [h, levels_good (by omega) he hc, after_after, last_run (Nat.pos_of_ne_zero fun e => hc (.inl e)), List.length_append, List.length_replicate, Nat.sub_sub]
  · have hf2 : failR (runR b q (n - L.length)).2.2 2 = (runR b q (n - L.length)).2.2 := by unfold failR; rw [if_neg he]
    have h0 := run_zero he
    refine ⟨fun hc => ?_, fun hc => absurd (.inl h0) hc⟩
    rw [hf2]
    refine ⟨⟨hlen, .inr ⟨he, ?_⟩⟩, he⟩
    rw [h, levels_bad (by omega) he]
    unfold after
    rw [if_pos he]
/-- The cursor's error, as its cell tells. -/
def errOf17 (W : World) (g : Nat) : Int := match W.cell? ⟨g, 2, none⟩ with
  | some v => intOf v
  | none => 0
theorem PC.errOf {W : World} {g r q : Nat} {b : List UInt8} {e : Int} (h : PC W g r b q e) : errOf17 W g = e := by
  obtain ⟨A, c, _, _, c2, _⟩ := h.cells
  unfold errOf17
  rw [c2]
  rfl
/-- What levels tells. -/
def LevelsTo (w : World) (g r : Nat) (b : List UInt8) (n q0 : Nat) (e0 : Int) (e : Ending) (w' : World) : Prop := ∃ v L q er, e = .returned v ∧ OwnB w' w.heap.size v L ∧ PcTo w g r b q er w' ∧ (e0 ≠ 0 → er = e0) ∧ (e0 = 0 → (er = 0 → levelsR b n n none q0 = (L, q, 0)) ∧ (er ≠ 0 → levelsR b n n none q0 = ([], 0, er)))
theorem OwnB.lower {w : World} {base base' : Nat} {v : Value} {l : List UInt8} (h : OwnB w base v l) (hb : base' ≤ base) : OwnB w base' v l := h.mono hb

set_option maxHeartbeats 4000000 in
set_option maxRecDepth 100000 in
theorem pLevels17_any (n : Nat) {w : World} {g r q0 : Nat} {b : List UInt8} {e0 : Int} (h : PC w g r b q0 e0) (hn : n ≤ 20000) :
    Calls Try.prog 50 #[.agg #[.pointer (some ⟨g, 0, none⟩)], .int .i64 (n : Int)] w (LevelsTo w g r b n q0 e0) := by
  have hg := h.lt
  have hr := h.rlt
  have e1 := extNew w (.cells #[.pointer (some ⟨g, 0, none⟩)] 64)
  have HS0 := hide (show RdB w (w.alloc (.cells #[.pointer (some ⟨g, 0, none⟩)] 64)) g r b q0 e0 from ⟨h.ext e1, Mod.ofExt e1, Whole.new w _ _⟩)
  have HB := hide (show g < w.heap.size ∧ r < w.heap.size from ⟨hg, hr⟩)
  have HT0 := hide (show e0 = 0 → LevTo b n q0 [] q0 0 from fun he => ⟨by simp, .inl ⟨rfl, n, by simp, by
    rw [after_nil (levels_err b _ _ _ _)]
    rfl⟩⟩)
  have HDn := hide (fun (L : List UInt8) (q : Nat) (e : Int) (hT : LevTo b n q0 L q e) (hl : ¬ (L.length < n ∧ e = 0)) => (show (e = 0 → levelsR b n n none q0 = (L, q, 0)) ∧ (e ≠ 0 → levelsR b n n none q0 = ([], 0, e)) from by
    obtain ⟨h0, ⟨he, f, hf, hT⟩ | ⟨he, hT⟩⟩ := hT
    · refine ⟨fun _ => ?_, fun h => absurd he h⟩
      have h1 : n - L.length = 0 := by omega
      rw [hT, h1, levels_none]
      simp [after]
    · exact ⟨fun h => absurd h he, fun _ => hT⟩))
  clear h hg hr e1
  go_enter Try.func50, Try.ntmps50
  go_wp2
  go_loopw [5] (fun v wr => ∃ (q : Nat) (e : Int) (L : List UInt8), (∃ A c, v = .slice A L.length c) ∧ RdB w wr g r b q e ∧ OwnB wr (w.heap.size + 1) v L ∧ (e0 ≠ 0 → e = e0) ∧ (e0 = 0 → LevTo b n q0 L q e) ∧ L.length ≤ n) (fun v wr => if errOf17 wr g = 0 then n + 1 - sliceLenR17 v else 0)
  case atStart => exact ⟨q0, e0, [], ⟨none, 0, rfl⟩, HS0.out, OwnB.nil _ _, fun _ => rfl, fun he => by rw [he]; exact HT0.out he, by simp⟩
  case round =>
    clear HT0 HS0
    obtain ⟨q, e, L, ⟨A, c, rfl⟩, hS, hO, hne, hT, hln⟩ := hrel
    have a0 := hS.box.at 0 (u := .pointer (some ⟨g, 0, none⟩)) rfl
    have C1 := pcErr_any hS.pc
    have HS := hide hS
    have HO := hide hO
    have HNe := hide hne
    have HT := hide hT
    have HErr := hide (hS.pc.errOf)
    have HFinD := hide (fun (hl : ¬ (L.length < n ∧ e = 0)) => (⟨.slice A L.length c, L, q, e, rfl, HO.out.lower (by omega), ⟨HS.out.pc, HS.out.mod⟩, HNe.out, fun he => HDn.out L q e (HT.out he) hl⟩ : LevelsTo w g r b n q0 e0 (.returned (.slice A L.length c)) wr))
    by_cases hlt : L.length < n
    · have hltI : (L.length : Int) < (n : Int) := by omega
      by_cases he : e = 0
      · subst he
        have he00 : e0 = 0 := by
          by_cases hh : e0 = 0
          · exact hh
          · exact absurd (HNe.out hh).symm hh
        obtain ⟨HN1, HN2⟩ := (hT he00).next hlt
        have C2 := pcByte_any hS.pc
        have hx256 := byteR_lt b q 0
        have hrdef : runR b q (n - L.length) = intR b (byteR b q 0).2.1 (byteR b q 0).2.2 ((n : Int) - (L.length : Int)) := by
          unfold runR
          rw [show ((n - L.length : Nat) : Int) = (n : Int) - (L.length : Int) by omega]
        have hrle := run_le' (b := b) (q := q) (left := n - L.length)
        obtain ⟨x, q1, e1, hbyte⟩ : ∃ x y z, byteR b q 0 = (x, y, z) := ⟨_, _, _, rfl⟩
        rw [hbyte] at C2 HN1 HN2 hx256 hrdef
        dsimp only at C2 HN1 HN2 hx256 hrdef
        obtain ⟨m, q2, e2, hrun⟩ : ∃ x y z, runR b q (n - L.length) = (x, y, z) := ⟨_, _, _, rfl⟩
        rw [hrun] at HN1 HN2 hrdef hrle
        dsimp only at HN1 HN2 hrle
        obtain ⟨lv, hlv⟩ : ∃ lv : UInt8, lv = UInt8.ofNat x := ⟨_, rfl⟩
        rw [← hlv] at HN1 HN2
        have hxv : x = lv.toNat := by rw [hlv, UInt8.toNat_ofNat']; omega
        rw [hxv] at C2
        have HN1' := hide HN1
        have HN2' := hide HN2
        obtain ⟨i, hi⟩ : ∃ i, i = L.length := ⟨_, rfl⟩
        rw [← hi] at hltI hlt hrle hrdef ⊢
        have HI := hide hi
        have CI := hide (fun W (S : RdB w W g r b q1 e1) => (pcInt_any S.pc ((n : Int) - (i : Int)) (by omega)))
        rw [← hrdef] at CI
        dsimp only at CI
        have HMeas := hide (fun (v' : Value) (W : World) (e' : Int) (hp : errOf17 W g = e') (hh : e' ≠ 0 ∨ i < sliceLenR17 v' ∧ sliceLenR17 v' ≤ n) => (show (if errOf17 W g = 0 then n + 1 - sliceLenR17 v' else 0) < if errOf17 wr g = 0 then n + 1 - sliceLenR17 (.slice A i c) else 0 from by
          rw [hp, HErr.out, if_pos rfl]
          show _ < n + 1 - i
          split
          · rcases hh with hh | hh
            · exact absurd ‹_› hh
            · omega
          · omega))
        have HFr := hide (fun (W : World) (S : RdB w W g r b q2 e2) => pcFail_any S.pc 2)
        have HLs := hide (fun (W : World) (O : OwnB W (w.heap.size + 1) (.slice A i c) L) => pIsLast17_any L lv A c W (by
          obtain ⟨A', c', hv, _, _, h3⟩ := O.form
          simp only [Value.slice.injEq] at hv
          obtain ⟨rfl, -, -⟩ := hv
          exact h3) (by omega))
        rw [← hi] at HLs HO
        have HRp := hide (fun (W : World) => repeatB_any lv m 1 (some ⟨W.heap.size, 0, none⟩) (W.alloc (.cells #[.int .u8 (lv.toNat : Int)] 5)) (by omega) (bytesNew W [lv] #[.int .u8 (lv.toNat : Int)] 5 (0, 0) rfl 1 rfl))
        have HE0 := hide he00
        have hm2 : m ≤ 20000 := by omega
        have hi2 : i ≤ 20000 := by omega
        clear HFinD hS hO hne hT HN1 HN2 hx256 hbyte hrun hlv hxv hi hrdef he00 hln HT HNe HDn
        go_wp2_with fail
        refine C1.mono ?_
        rintro e w1 ⟨rfl, rfl⟩
        go_wp2_with fail
        refine C2.mono ?_
        rintro e w2 ⟨rfl, hT2⟩
        have HS2 := hide (HS.out.call HB.out.1 hT2)
        have HO2 := hide (hT2.2.own HO.out (fun e => by have := (HO.out.lt _ e).1; have := HB.out.1; omega) (by cases hv : Value.ownBlock _ <;> simp))
        have C3 := CI.out w2 HS2.out
        have a2 := HS2.out.box.at 0 (u := .pointer (some ⟨g, 0, none⟩)) rfl
        clear C1 C2 hT2 a0
        go_wp2_with fail
        refine C3.mono ?_
        rintro e w3 ⟨rfl, hT3⟩
        have HS3 := hide (HS2.out.call HB.out.1 hT3)
        have HO3 := hide (hT3.2.own HO2.out (fun e => by have := (HO2.out.lt _ e).1; have := HB.out.1; omega) (by cases hv : Value.ownBlock _ <;> simp))
        have a3 := HS3.out.box.at 0 (u := .pointer (some ⟨g, 0, none⟩)) rfl
        clear C3 hT3 a2
        by_cases hm : m = 0
        · subst hm
          obtain ⟨n1, n2⟩ := HN1'.out (.inl rfl)
          have HN := hide n1
          have HNn := hide n2
          have C4 := HFr.out w3 HS3.out
          clear HN1' HN2' n1 n2
          go_wp2_with fail
          refine C4.mono ?_
          rintro e w4 ⟨rfl, hT4⟩
          have HS4 := hide (HS3.out.call HB.out.1 hT4)
          have HO4 := hide (hT4.2.own HO3.out (fun e => by have := (HO3.out.lt _ e).1; have := HB.out.1; omega) (by cases hv : Value.ownBlock _ <;> simp))
          clear C4 hT4 a3
          go_wp2_with fail
          refine (HRp.out w4).mono ?_
          rintro e w6 ⟨v6, rfl, hO6, hE6⟩
          obtain ⟨A6, c6, hv6, -, -, q6⟩ := hO6.form
          have HE6 := hide ((extNew w4 _).trans hE6)
          have HS6 := hide (HS4.out.ext HE6.out)
          have HO6 := hide (HO4.out.ext HE6.out)
          have hr6 : (List.replicate 0 lv).length = 0 := List.length_replicate
          rw [hr6] at hv6 q6
          have HQ6 := hide q6
          subst hv6
          clear hO6 hE6 q6 hr6 HRp
          go_wp2_with (at_builtin; refine wpList_appAt rfl (.tmp 38) (.tmp 42) rfl rfl HO6.out rfl HQ6.out (by have := HI.out; omega) HS6.out.lt ?_; intro v7 w7 hO7 hG7 _; have HS7 := hide (HS6.out.grow HB.out.1 HB.out.2 (fun k hk => (HO6.out.lt k hk).1) hG7); have HO7 := hide hO7; clear hO7 hG7)
          go_roundw
          case rel =>
            obtain ⟨A7, c7, hv7, -, -, -⟩ := HO7.out.form
            exact ⟨q2, _, _, ⟨A7, c7, hv7⟩, HS7.out, HO7.out, fun hh => absurd HE0.out hh, fun _ => HN.out, by rw [List.length_append, List.length_replicate]; have := HI.out; omega⟩
          case measure =>
            obtain ⟨A7, c7, hv7, -, -, -⟩ := HO7.out.form
            refine HMeas.out _ _ _ HS7.out.pc.errOf (.inl HNn.out)
        · have hmI : ((m : Int) == 0) = false := by simp; omega
          have hmN : (m == 0) = false := by simp; omega
          have C4 := HLs.out w3 HO3.out
          by_cases hla : L.getLast? = some lv
          · rw [decide_eq_true hla] at C4
            obtain ⟨n1, n2⟩ := HN1'.out (.inr hla)
            have HN := hide n1
            have HNn := hide n2
            clear HN1' HN2' n1 n2 hla hm
            go_wp2_with fail
            refine C4.mono ?_
            rintro e w4 ⟨rfl, rfl⟩
            have C5 := HFr.out w3 HS3.out
            go_wp2_with fail
            refine C5.mono ?_
            rintro e w4 ⟨rfl, hT4⟩
            have HS4 := hide (HS3.out.call HB.out.1 hT4)
            have HO4 := hide (hT4.2.own HO3.out (fun e => by have := (HO3.out.lt _ e).1; have := HB.out.1; omega) (by cases hv : Value.ownBlock _ <;> simp))
            clear C4 C5 hT4 a3
            go_wp2_with fail
            refine (HRp.out w4).mono ?_
            rintro e w6 ⟨v6, rfl, hO6, hE6⟩
            obtain ⟨A6, c6, hv6, -, -, q6⟩ := hO6.form
            have HE6 := hide ((extNew w4 _).trans hE6)
            have HS6 := hide (HS4.out.ext HE6.out)
            have HO6 := hide (HO4.out.ext HE6.out)
            have hr6 : (List.replicate m lv).length = m := List.length_replicate
            rw [hr6] at hv6 q6
            have HQ6 := hide q6
            subst hv6
            clear hO6 hE6 q6 hr6 HRp
            go_wp2_with (at_builtin; refine wpList_appAt rfl (.tmp 38) (.tmp 42) rfl rfl HO6.out rfl HQ6.out (by have := HI.out; omega) HS6.out.lt ?_; intro v7 w7 hO7 hG7 _; have HS7 := hide (HS6.out.grow HB.out.1 HB.out.2 (fun k hk => (HO6.out.lt k hk).1) hG7); have HO7 := hide hO7; clear hO7 hG7)
            go_roundw
            case rel =>
              obtain ⟨A7, c7, hv7, -, -, -⟩ := HO7.out.form
              exact ⟨q2, _, _, ⟨A7, c7, hv7⟩, HS7.out, HO7.out, fun hh => absurd HE0.out hh, fun _ => HN.out, by rw [List.length_append, List.length_replicate]; have := HI.out; omega⟩
            case measure =>
              obtain ⟨A7, c7, hv7, -, -, -⟩ := HO7.out.form
              refine HMeas.out _ _ _ HS7.out.pc.errOf (.inl HNn.out)
          · rw [decide_eq_false hla] at C4
            obtain ⟨n1, n2⟩ := HN2'.out (by rintro (hh | hh); exact hm hh; exact hla hh)
            have HN := hide n1
            have HMp := hide (Nat.pos_of_ne_zero hm)
            clear HN1' HN2' n1 n2 hla hm
            go_wp2_with fail
            refine C4.mono ?_
            rintro e w4 ⟨rfl, rfl⟩
            clear C4
            go_wp2_with fail
            refine (HRp.out w3).mono ?_
            rintro e w6 ⟨v6, rfl, hO6, hE6⟩
            obtain ⟨A6, c6, hv6, -, -, q6⟩ := hO6.form
            have HE6 := hide ((extNew w3 _).trans hE6)
            have HS6 := hide (HS3.out.ext HE6.out)
            have HO6 := hide (HO3.out.ext HE6.out)
            have hr6 : (List.replicate m lv).length = m := List.length_replicate
            rw [hr6] at hv6 q6
            have HQ6 := hide q6
            subst hv6
            clear hO6 hE6 q6 hr6 HRp
            go_wp2_with (at_builtin; refine wpList_appAt rfl (.tmp 38) (.tmp 42) rfl rfl HO6.out rfl HQ6.out (by have := HI.out; omega) HS6.out.lt ?_; intro v7 w7 hO7 hG7 _; have HS7 := hide (HS6.out.grow HB.out.1 HB.out.2 (fun k hk => (HO6.out.lt k hk).1) hG7); have HO7 := hide hO7; clear hO7 hG7)
            go_roundw
            case rel =>
              obtain ⟨A7, c7, hv7, -, -, -⟩ := HO7.out.form
              exact ⟨q2, _, _, ⟨A7, c7, hv7⟩, HS7.out, HO7.out, fun hh => absurd HE0.out hh, fun _ => HN.out, by rw [List.length_append, List.length_replicate]; have := HI.out; omega⟩
            case measure =>
              obtain ⟨A7, c7, hv7, -, -, -⟩ := HO7.out.form
              refine HMeas.out _ _ _ HS7.out.pc.errOf (.inr (by rw [hv7]; show _ < (L ++ List.replicate m lv).length ∧ (L ++ List.replicate m lv).length ≤ _; rw [List.length_append, List.length_replicate]; have := HI.out; have := HMp.out; omega))
      · have HF := hide (HFinD.out (fun hh => he hh.2))
        have he' : (e == 0) = false := by simpa using he
        clear HFinD hS hO hne hT HT HNe HDn
        generalize L.length = i at *
        go_wp2_with fail
        refine C1.mono ?_
        rintro e w1 ⟨rfl, rfl⟩
        go_wp2
        go_ret
        exact HF.out
    · have HF := hide (HFinD.out (fun hh => hlt hh.1))
      have hltI : ¬ (L.length : Int) < (n : Int) := by omega
      clear HFinD hS hO hne hT HT HNe HDn C1
      generalize L.length = i at *
      go_wp2
      go_ret
      exact HF.out
end Go.Proofs.Ytkgkppblkdihkaa

namespace Go.Proofs.Ytkgkppblkdihkaa
open Go.RowKit Rcs Num

set_option maxHeartbeats 1000000 in
set_option maxRecDepth 100000 in
theorem pReadCArg_any (n : Int) (v : Value) (w : World) (hn : n < 0 ∨ 20000 < n) : Calls Try.prog 29 #[.int .i64 n, v] w (CloTo w ([], [], 0, 13)) := by
  rcases hn with hn | hn
  · go_enter Try.func29, Try.ntmps29
    go_wp2
    refine bodyPost_ret (results_tmp4 rfl _ _ _) rfl ?_
    exact ⟨none, 0, none, 0, rfl, ⟨rfl, .inl rfl⟩, ⟨rfl, .inl rfl⟩, Ext.refl _⟩
  · have h0 : ¬ n < 0 := by omega
    go_enter Try.func29, Try.ntmps29
    go_wp2
    refine bodyPost_ret (results_tmp4 rfl _ _ _) rfl ?_
    exact ⟨none, 0, none, 0, rfl, ⟨rfl, .inl rfl⟩, ⟨rfl, .inl rfl⟩, Ext.refl _⟩

/-- Behind both calls. -/
theorem Rcs.read_both {b : List UInt8} {N q3 q4 : Nat} {e3 e4 : Int} {L3 : List Nat} {L4 : List UInt8} (h1 : e3 = 0 → timesR b N 0 0 = (L3, q3, 0)) (h2 : e3 ≠ 0 → timesR b N 0 0 = ([], 0, e3)) (h3 : e3 ≠ 0 → e4 = e3)
    (h4 : e3 = 0 → (e4 = 0 → levelsR b N N none q3 = (L4, q4, 0)) ∧ (e4 ≠ 0 → levelsR b N N none q3 = ([], 0, e4))) : readCR N b = if e4 ≠ 0 then ([], [], 0, e4) else (L3, L4, q4, 0) := by
  by_cases he : e3 = 0
  · obtain ⟨k1, k2⟩ := h4 he
    rw [read_levels (h1 he)]
    by_cases he4 : e4 = 0
    · rw [k1 he4, if_neg (by simp), if_neg (by simpa using he4)]
    · rw [k2 he4, if_pos he4, if_pos he4]
  · rw [h3 he, if_pos he]
    exact read_times (by rw [h2 he]) he

attribute [local go_sem ↓] run_headB
set_option maxHeartbeats 4000000 in
set_option maxRecDepth 100000 in
theorem pReadCK_any (N K : Nat) (b : List UInt8) (A : Option Addr) (c : Nat) (w : World) (hN : N ≤ 20000) (hKd : (N * 21 < b.length ∧ K = N * 21) ∨ (b.length ≤ N * 21 ∧ K = b.length)) (hc : b.length ≤ c) (hb : Bytes w w.heap.size A b.length b) (hl : b.length ≤ 1000000) :
    Calls Try.prog 29 #[.int .i64 (N : Int), .slice A b.length c] w (CloTo w (readCR N (b.take K))) := by
  have hK1 : K ≤ b.length := by omega
  have C1 := pReaderOf17_any A K c (b.take K) w (by omega) (by omega) (Ef.bytes_take hb hK1)
  have h0I : ¬ (N : Int) < 0 := by omega
  have hNI : ¬ (20000 : Int) < (N : Int) := by omega
  have w21 : IntKind.i64.wrap ((N : Int) * 21) = (N : Int) * 21 := by rw [IntKind.wrap_i64]; omega
  have hKc : (K : Int) ≤ (c : Int) := by omega
  generalize b.take K = bb at *
  generalize b.length = bl at *
  clear hb hl
  rcases hKd with ⟨hx, hKe⟩ | ⟨hx, hKe⟩
  · subst hKe
    have hxI : (N : Int) * 21 < (bl : Int) := by omega
    have h21 : (0 : Int) ≤ (N : Int) * 21 := by omega
    go_enter Try.func29, Try.ntmps29
    go_wp2_with fail
    refine C1.mono ?_
    rintro e w1 ⟨g, r, rfl, hg, hP, hE1⟩
    clear C1
    have hE2 := extNew w1 (.cells #[.pointer (some ⟨g, 0, none⟩)] 64)
    have hX2 := Whole.new w1 64 #[.pointer (some ⟨g, 0, none⟩)]
    have hP2 := hP.ext hE2
    have hE := hE1.trans hE2
    have hgl := hP.lt
    obtain ⟨B, hB⟩ : ∃ B, B = w1.heap.size := ⟨_, rfl⟩
    have hBg : B ≠ g := by omega
    rw [← hB] at hX2
    go_upto_region 4 with fail
    rw [← hB]
    have hgB : g < B := by omega
    have hBl := hX2.lt
    generalize w1.alloc (.cells #[.pointer (some ⟨g, 0, none⟩)] 64) = w2 at *
    clear hE2 hE1 hP hgl hB
    have CT := pTimes17_any N (hP2.ext (Ext.refl w2).drew) hN
    refine wp_region_T (fun W => Whole W B 64 #[.pointer (some ⟨g, 0, none⟩)]) 7 8 #[false, false, false, false, false, false, false, false] (by kernel_rfl) rfl rfl (hX2.ext (Ext.refl w2).drew) ?_
    intro hS0
    refine wpAnyT_take 0 (some 26) (.agg #[.pointer (some ⟨g, 0, none⟩)]) #[true, false, false, false, false, false, false, false] rfl rfl rfl (by kernel_rfl) (fun _ _ _ h => h) hS0 (by rfl) (fun W hX => by have s0 := hX.at 0 (u := .pointer (some ⟨g, 0, none⟩)) rfl; go_simp) ?_
    simp only [Act.put, List.setIfInBounds_toArray, List.set_cons_zero, List.set_cons_succ]
    refine wpAnyT_take 1 (some 27) (.int .i64 (N : Int)) #[true, true, false, false, false, false, false, false] rfl rfl rfl (by kernel_rfl) (fun _ _ _ h => h) hS0 (by rfl) (fun W hX => by go_simp) ?_
    simp only [Act.put, List.setIfInBounds_toArray, List.set_cons_zero, List.set_cons_succ]
    refine wpAnyT_take 3 (some 29) (.agg #[.pointer (some ⟨g, 0, none⟩)]) #[true, true, false, true, false, false, false, false] rfl rfl rfl (by kernel_rfl) (fun _ _ _ h => h) hS0 (by rfl) (fun W hX => by have s0 := hX.at 0 (u := .pointer (some ⟨g, 0, none⟩)) rfl; go_simp) ?_
    simp only [Act.put, List.setIfInBounds_toArray, List.set_cons_zero, List.set_cons_succ]
    refine wpAnyT_take 4 (some 30) (.int .i64 (N : Int)) #[true, true, false, true, true, false, false, false] rfl rfl rfl (by kernel_rfl) (fun _ _ _ h => h) hS0 (by rfl) (fun W hX => by go_simp) ?_
    simp only [Act.put, List.setIfInBounds_toArray, List.set_cons_zero, List.set_cons_succ]
    refine wpAnyT_only 2 #[true, true, true, true, true, false, false, false] (by kernel_rfl) rfl rfl (by rfl) (fun K0 hK0 => ?_)
    go_simp
    go_at_call 49
    refine CT.mono ?_
    rintro e w3 ⟨v3, L3, q3, e3, rfl, hO3, hT3, hr3, hf3⟩
    have hX3 := hT3.2.whole hS0 hBg (by simp)
    refine hK0 _ _ (fun _ => hX3) ?_
    have HO3 := hide hO3
    have HT3 := hide hT3
    have HR3 := hide hr3
    have HF3 := hide hf3
    have CL := pLevels17_any N hT3.1 hN
    clear hK0 K0 CT hO3 hT3 hr3 hf3
    refine wpAnyT_only 5 #[true, true, true, true, true, true, false, false] (by kernel_rfl) rfl rfl (by rfl) (fun K1 hK1 => ?_)
    go_simp
    go_at_call 50
    refine CL.mono ?_
    rintro e w4 ⟨v4, L4, q4, e4, rfl, hO4, hT4, hr4, hf4⟩
    have hX4 := hT4.2.whole hX3 hBg (by simp)
    refine hK1 _ _ (fun _ => hX4) ?_
    clear hK1 K1 CL
    refine wpAnyT_only 6 #[true, true, true, true, true, true, true, false] (by kernel_rfl) rfl rfl (by rfl) (fun K2 hK2 => ?_)
    go_simp
    refine hK2 _ _ (fun _ => hX4) ?_
    clear hK2 K2
    refine wpAnyT_only 7 #[true, true, true, true, true, true, true, true] (by kernel_rfl) rfl rfl (by rfl) (fun K3 hK3 => ?_)
    go_simp
    refine hK3 _ _ (fun h => absurd h (by decide)) (wpAnyT_done (by kernel_rfl) ?_ _)
    clear hK3 K3
    have HRes := hide (read_both HR3.out HF3.out hr4 hf4)
    have hM := HT3.out.2.trans hT4.2 (.inl rfl)
    have HE4 := hide (show Ext w w4 from Below.trans hE.drew (hM.below hE.le hg (fun k hk => by cases hk)))
    have hU4 := hT4.2.own64 HO3.out (fun e => by have := (HO3.out.lt _ e).1; simp at this; omega) (by cases hv : Value.ownBlock _ <;> simp)
    obtain ⟨A3, c3, rfl, -, hU⟩ := hU4.form
    obtain ⟨A4, c4, rfl, -, -, hV⟩ := hO4.form
    have CE := pcErr_any hT4.1
    have CA := pcAt_any hT4.1
    have a4 := hX4.at 0 (u := .pointer (some ⟨g, 0, none⟩)) rfl
    have HU := hide hU
    have HV := hide hV
    generalize readCR N bb = res at *
    clear hU4 hO4 hT4 hr4 hf4 hX3 hX4 hM hU hV HO3 HT3 HR3 HF3 hS0 hE hX2 hP2
    by_cases he4 : e4 = 0
    · subst he4
      have HR := hide (show res = (L3, L4, q4, 0) by rw [HRes.out, if_neg (by simp)])
      obtain ⟨n3, hn3⟩ : ∃ n, n = L3.length := ⟨_, rfl⟩
      obtain ⟨n4, hn4⟩ : ∃ n, n = L4.length := ⟨_, rfl⟩
      rw [← hn3, ← hn4]
      have HN3 := hide hn3
      have HN4 := hide hn4
      clear hn3 hn4
      go_wp2_with fail
      refine CE.mono ?_
      rintro e w5 ⟨rfl, rfl⟩
      go_wp2_with fail
      refine CA.mono ?_
      rintro e w5 ⟨rfl, rfl⟩
      go_wp2
      refine bodyPost_ret (results_tmp4 rfl _ _ _) rfl ?_
      rw [HR.out]
      exact ⟨A3, c3, A4, c4, by rw [← HN3.out, ← HN4.out]; rfl, HU.out, HV.out, HE4.out⟩
    · have HR := hide (show res = ([], [], 0, e4) by rw [HRes.out, if_pos he4])
      have he' : (e4 != 0) = true := by simpa using he4
      generalize L3.length = n3 at *
      generalize L4.length = n4 at *
      clear he4
      go_wp2_with fail
      refine CE.mono ?_
      rintro e w5 ⟨rfl, rfl⟩
      go_wp2
      refine bodyPost_ret (results_tmp4 rfl _ _ _) rfl ?_
      rw [HR.out]
      exact ⟨none, 0, none, 0, rfl, ⟨rfl, .inl rfl⟩, ⟨rfl, .inl rfl⟩, HE4.out⟩
  · subst hKe
    have hxI : ¬ (N : Int) * 21 < (K : Int) := by omega
    go_enter Try.func29, Try.ntmps29
    go_wp2_with fail
    rw [cutAt_zeroB]
    refine C1.mono ?_
    rintro e w1 ⟨g, r, rfl, hg, hP, hE1⟩
    clear C1
    have hE2 := extNew w1 (.cells #[.pointer (some ⟨g, 0, none⟩)] 64)
    have hX2 := Whole.new w1 64 #[.pointer (some ⟨g, 0, none⟩)]
    have hP2 := hP.ext hE2
    have hE := hE1.trans hE2
    have hgl := hP.lt
    obtain ⟨B, hB⟩ : ∃ B, B = w1.heap.size := ⟨_, rfl⟩
    have hBg : B ≠ g := by omega
    rw [← hB] at hX2
    go_upto_region 4 with fail
    rw [← hB]
    have hgB : g < B := by omega
    have hBl := hX2.lt
    generalize w1.alloc (.cells #[.pointer (some ⟨g, 0, none⟩)] 64) = w2 at *
    clear hE2 hE1 hP hgl hB
    have CT := pTimes17_any N (hP2.ext (Ext.refl w2).drew) hN
    refine wp_region_T (fun W => Whole W B 64 #[.pointer (some ⟨g, 0, none⟩)]) 7 8 #[false, false, false, false, false, false, false, false] (by kernel_rfl) rfl rfl (hX2.ext (Ext.refl w2).drew) ?_
    intro hS0
    refine wpAnyT_take 0 (some 26) (.agg #[.pointer (some ⟨g, 0, none⟩)]) #[true, false, false, false, false, false, false, false] rfl rfl rfl (by kernel_rfl) (fun _ _ _ h => h) hS0 (by rfl) (fun W hX => by have s0 := hX.at 0 (u := .pointer (some ⟨g, 0, none⟩)) rfl; go_simp) ?_
    simp only [Act.put, List.setIfInBounds_toArray, List.set_cons_zero, List.set_cons_succ]
    refine wpAnyT_take 1 (some 27) (.int .i64 (N : Int)) #[true, true, false, false, false, false, false, false] rfl rfl rfl (by kernel_rfl) (fun _ _ _ h => h) hS0 (by rfl) (fun W hX => by go_simp) ?_
    simp only [Act.put, List.setIfInBounds_toArray, List.set_cons_zero, List.set_cons_succ]
    refine wpAnyT_take 3 (some 29) (.agg #[.pointer (some ⟨g, 0, none⟩)]) #[true, true, false, true, false, false, false, false] rfl rfl rfl (by kernel_rfl) (fun _ _ _ h => h) hS0 (by rfl) (fun W hX => by have s0 := hX.at 0 (u := .pointer (some ⟨g, 0, none⟩)) rfl; go_simp) ?_
    simp only [Act.put, List.setIfInBounds_toArray, List.set_cons_zero, List.set_cons_succ]
    refine wpAnyT_take 4 (some 30) (.int .i64 (N : Int)) #[true, true, false, true, true, false, false, false] rfl rfl rfl (by kernel_rfl) (fun _ _ _ h => h) hS0 (by rfl) (fun W hX => by go_simp) ?_
    simp only [Act.put, List.setIfInBounds_toArray, List.set_cons_zero, List.set_cons_succ]
    refine wpAnyT_only 2 #[true, true, true, true, true, false, false, false] (by kernel_rfl) rfl rfl (by rfl) (fun K0 hK0 => ?_)
    go_simp
    go_at_call 49
    refine CT.mono ?_
    rintro e w3 ⟨v3, L3, q3, e3, rfl, hO3, hT3, hr3, hf3⟩
    have hX3 := hT3.2.whole hS0 hBg (by simp)
    refine hK0 _ _ (fun _ => hX3) ?_
    have HO3 := hide hO3
    have HT3 := hide hT3
    have HR3 := hide hr3
    have HF3 := hide hf3
    have CL := pLevels17_any N hT3.1 hN
    clear hK0 K0 CT hO3 hT3 hr3 hf3
    refine wpAnyT_only 5 #[true, true, true, true, true, true, false, false] (by kernel_rfl) rfl rfl (by rfl) (fun K1 hK1 => ?_)
    go_simp
    go_at_call 50
    refine CL.mono ?_
    rintro e w4 ⟨v4, L4, q4, e4, rfl, hO4, hT4, hr4, hf4⟩
    have hX4 := hT4.2.whole hX3 hBg (by simp)
    refine hK1 _ _ (fun _ => hX4) ?_
    clear hK1 K1 CL
    refine wpAnyT_only 6 #[true, true, true, true, true, true, true, false] (by kernel_rfl) rfl rfl (by rfl) (fun K2 hK2 => ?_)
    go_simp
    refine hK2 _ _ (fun _ => hX4) ?_
    clear hK2 K2
    refine wpAnyT_only 7 #[true, true, true, true, true, true, true, true] (by kernel_rfl) rfl rfl (by rfl) (fun K3 hK3 => ?_)
    go_simp
    refine hK3 _ _ (fun h => absurd h (by decide)) (wpAnyT_done (by kernel_rfl) ?_ _)
    clear hK3 K3
    have HRes := hide (read_both HR3.out HF3.out hr4 hf4)
    have hM := HT3.out.2.trans hT4.2 (.inl rfl)
    have HE4 := hide (show Ext w w4 from Below.trans hE.drew (hM.below hE.le hg (fun k hk => by cases hk)))
    have hU4 := hT4.2.own64 HO3.out (fun e => by have := (HO3.out.lt _ e).1; simp at this; omega) (by cases hv : Value.ownBlock _ <;> simp)
    obtain ⟨A3, c3, rfl, -, hU⟩ := hU4.form
    obtain ⟨A4, c4, rfl, -, -, hV⟩ := hO4.form
    have CE := pcErr_any hT4.1
    have CA := pcAt_any hT4.1
    have a4 := hX4.at 0 (u := .pointer (some ⟨g, 0, none⟩)) rfl
    have HU := hide hU
    have HV := hide hV
    generalize readCR N bb = res at *
    clear hU4 hO4 hT4 hr4 hf4 hX3 hX4 hM hU hV HO3 HT3 HR3 HF3 hS0 hE hX2 hP2
    by_cases he4 : e4 = 0
    · subst he4
      have HR := hide (show res = (L3, L4, q4, 0) by rw [HRes.out, if_neg (by simp)])
      obtain ⟨n3, hn3⟩ : ∃ n, n = L3.length := ⟨_, rfl⟩
      obtain ⟨n4, hn4⟩ : ∃ n, n = L4.length := ⟨_, rfl⟩
      rw [← hn3, ← hn4]
      have HN3 := hide hn3
      have HN4 := hide hn4
      clear hn3 hn4
      go_wp2_with fail
      refine CE.mono ?_
      rintro e w5 ⟨rfl, rfl⟩
      go_wp2_with fail
      refine CA.mono ?_
      rintro e w5 ⟨rfl, rfl⟩
      go_wp2
      refine bodyPost_ret (results_tmp4 rfl _ _ _) rfl ?_
      rw [HR.out]
      exact ⟨A3, c3, A4, c4, by rw [← HN3.out, ← HN4.out]; rfl, HU.out, HV.out, HE4.out⟩
    · have HR := hide (show res = ([], [], 0, e4) by rw [HRes.out, if_pos he4])
      have he' : (e4 != 0) = true := by simpa using he4
      generalize L3.length = n3 at *
      generalize L4.length = n4 at *
      clear he4
      go_wp2_with fail
      refine CE.mono ?_
      rintro e w5 ⟨rfl, rfl⟩
      go_wp2
      refine bodyPost_ret (results_tmp4 rfl _ _ _) rfl ?_
      rw [HR.out]
      exact ⟨none, 0, none, 0, rfl, ⟨rfl, .inl rfl⟩, ⟨rfl, .inl rfl⟩, HE4.out⟩
end Go.Proofs.Ytkgkppblkdihkaa

namespace Go.Proofs.Ytkgkppblkdihkaa
open Go.RowKit Num Rcs

theorem rCheckC_any (w : World) : RCheckC w := fun l A n c W _ hn hc h => pCheck17_any A n c l W (Nat.le_trans hn hc) h
theorem rWeightC_any (w : World) : RWeightC w := fun l A n c W _ _ _ hl h => pWeight17_any A n c l W h hl
theorem rBytesC_any (w : World) : RBytesC w := fun whole l A n c W _ _ _ hl h => pBytes17_any whole A n c l W h (by omega)
theorem rGroupsC_any (w : World) : RGroupsC w := fun size whole l A n c W _ hs _ _ hl h => pGroups17_any size whole A n c l W hs h (by omega)
theorem rColumnsC_any (w : World) : RColumnsC w := fun l A n c W _ hn _ hl h => pColumns17_any A n c l W hn h (by omega)
theorem rReadC_any (w : World) : RReadC w := fun whole b A c W _ hc _ hl h => (pRead17_any whole A b.length c b W hc (by omega) h).mono (fun e w' => by
  rintro ⟨v, rfl, hO, hE⟩
  obtain ⟨A2, c2, rfl, h1, h2, h3⟩ := hO.form (read_ok whole b)
  exact ⟨A2, c2, rfl, h1, h2, h3, hE⟩)
theorem rReadColC_any (w : World) : RReadColC w := fun n b A c W _ _ hc _ hl h => by
  unfold readCE
  by_cases hn : n < 0 ∨ 20000 < n
  · rw [if_pos hn]
    exact pReadCArg_any n _ W hn
  · rw [if_neg hn]
    obtain ⟨N, rfl⟩ := Int.eq_ofNat_of_zero_le (show 0 ≤ n by omega)
    rw [Int.toNat_natCast]
    by_cases hx : N * 21 < b.length
    · have := pReadCK_any N (N * 21) b A c W (by omega) (.inl ⟨hx, rfl⟩) hc h (by omega)
      rw [cols_near (by omega)] at this
      exact this
    · have := pReadCK_any N b.length b A c W (by omega) (.inr ⟨by omega, rfl⟩) hc h (by omega)
      rw [List.take_length] at this
      exact this
end Go.Proofs.Ytkgkppblkdihkaa

namespace Go.Proofs.Ytkgkppblkdihkaa
open Go.RowKit Rcs Num

def cutRc (a : Option Addr) (c k : Nat) : Option Addr := if c = k then a else a.map (·.add (k * 4))
theorem run_partRc (W : World) (a : Option Addr) (n c : Nat) (j k : Nat) (h : j + k ≤ c) :
    (Instr.slice 22 (.slice a n c) (some (.int .i64 (j : Int))) (some (.int .i64 ((j : Int) + (k : Int)))) none).run Try.prog W = .ok (.slice (cutRc a c j) k (c - j)) W := by
  rw [run_slice_lh (P := Try.prog) (w := W) 22 a n c (by kernel_rfl) .i64 .i64 (j : Int) ((j : Int) + (k : Int)) (by omega) (by omega) (by omega)]
  have hs : (sizeOf (Try.prog.elem 22)).run Try.prog W = .ok 4 W := by kernel_rfl
  rw [hs]
  simp [Result.andThen, sliced, cutRc]
  omega
theorem RcsAt.part {w : World} {n c j k : Nat} {A : Option Addr} {l : List Rc} (h : RcsAt w w.heap.size A n l) (hc : n ≤ c) (hk : j + k ≤ n) : RcsAt w w.heap.size (cutRc A c j) k ((l.drop j).take k) := (h.cut (k := j) (by omega) hc).top (by omega)
theorem IntsAt.cellAt {w : World} {A : Option Addr} {n i : Nat} {L : List Int} (h : IntsAt w w.heap.size A n L) (hi : i < n) : ∃ b o, A = some ⟨b, o, none⟩ ∧ ∀ w', Ext w w' → w'.cell? ⟨b, o + i, none⟩ = some (.int .i64 (L.getD i 0)) := by
  rcases h.2 with h0 | ⟨b, o, e, hb, hc⟩
  · omega
  · exact ⟨b, o, e, fun w' hE => (hE.cell hb).trans (hc i hi)⟩
theorem RcsAt.cellAt {w : World} {A : Option Addr} {n i : Nat} {L : List Rc} (h : RcsAt w w.heap.size A n L) (hi : i < n) : ∃ b o, A = some ⟨b, o, none⟩ ∧ ∀ w', Ext w w' → RcAt w' b (o + i * 4) (L.getD i default) := by
  rcases h.2.1 with h0 | ⟨b, o, e, hb, hc⟩
  · omega
  · exact ⟨b, o, e, fun w' hE => (hc i hi).below hE hb⟩
theorem Rcs.weight_part (l : List Rc) (j k : Nat) : weightE ((l.drop j).take k) ≤ weightE l := by
  have h1 := weight_take (l.drop j) k
  have h2 : weightE l = weightE (l.take j) + weightE (l.drop j) := by
    conv => lhs; rw [← List.take_append_drop j l]
    unfold weightE
    rw [List.map_append, List.sum_append]
  omega
theorem Rcs.weight_one (r : Rc) : weightE [r] = 16 + r.src.length + r.text.length := by simp [weightE]
theorem Rcs.groups_next {size : Int} {whole : Bool} {l : List Rc} {gs : List Int} {i at_ : Nat} (hi : i < gs.length) (h : gs.drop i = restI size whole l at_) :
    at_ < l.length ∧ gs.getD i 0 = (groupN size whole l at_ : Int) ∧ gs.drop (i + 1) = restI size whole l (at_ + groupN size whole l at_) ∧ at_ + groupN size whole l at_ ≤ l.length := by
  have hd : gs.drop i = gs.getD i 0 :: gs.drop (i + 1) := by
    rw [List.drop_eq_getElem_cons hi, List.getD_eq_getElem?_getD, List.getElem?_eq_getElem hi]
    rfl
  by_cases ha : at_ < l.length
  · obtain ⟨g1, g2⟩ := groups_step (size := size) (whole := whole) ha
    rw [hd] at h
    unfold restI at h ⊢
    rw [g1, List.map_cons] at h
    exact ⟨ha, (List.cons.inj h).1, (List.cons.inj h).2, g2⟩
  · unfold restI at h
    rw [hd, groups_end (by omega)] at h
    simp at h
theorem Rcs.groups_last {size : Int} {whole : Bool} {l : List Rc} {at_ : Nat} (h : ([] : List Int) = restI size whole l at_) : l.length ≤ at_ := by
  by_cases ha : at_ < l.length
  · unfold restI at h
    rw [(groups_step ha).1, List.map_cons] at h
    cases h
  · omega

set_option maxHeartbeats 4000000 in
set_option maxRecDepth 100000 in
theorem recsFits_walk0 (z : Nat) (whole : Bool) (A : Option Addr) (n c : Nat) (l : List Rc) (w : World) (hB : RColumnsC w) (hG : RGroupsC w) (hY : RBytesC w) (hz : z < 65536) (hn : n ≤ c) (hc : c ≤ maxLen) (h : RcsAt w w.heap.size A n l) :
    Calls Try.prog 9 #[.int .u16 (z : Int), .bool whole, .slice A n c] w fun e w' => e = .returned (.bool true) ∧ Ext w w' := by
  have C0 := alive17_any hB (Ext.refl w)
  have CG := hide (fun W (hE : Ext w W) => refGreat17_any A n c l 50 3000 W (h.later hE) (by omega))
  cases hg : greatE l 50 3000 with
  | true =>
    rw [hg] at CG
    clear hg
    go_enter Try.func9, Try.ntmps9
    go_wp2_with fail
    refine C0.mono ?_
    rintro e w1 ⟨rfl, hE1⟩
    have C1 := CG.out w1 hE1
    clear C0
    go_wp2_with fail
    refine C1.mono ?_
    rintro e w2 ⟨rfl, hQ2⟩
    go_wp2
    go_ret
    exact ⟨rfl, hE1.trans hQ2.ext⟩
  | false =>
    rw [hg] at CG
    obtain ⟨g1, g2⟩ := great_no hg (by omega)
    have hl := h.1
    rw [hl] at g1
    obtain ⟨q, hq⟩ : ∃ q, q = z % 300 := ⟨_, rfl⟩
    have hmod : (z : Int).tmod 300 = (q : Int) := by rw [hq, Int.tmod_eq_emod_of_nonneg (by omega)]; rfl
    have hq3 : q < 300 := by omega
    have CY := hide (fun (j k : Nat) (hjk : j + k ≤ n) W (hE : Ext w W) => hY whole ((l.drop j).take k) (cutRc A c j) k (c - j) W hE (by omega) (by omega) (by have := weight_part l j k; omega) ((h.later hE).part hn hjk))
    have CZ := hide (fun (j : Nat) (hj : j < n) (W : World) (hE : Ext w W) (A' : Option Addr) (h1 : RcsAt W W.heap.size A' 1 [l.getD j default]) => hY whole [l.getD j default] A' 1 1 W hE (by omega) (by unfold maxLen; omega) (by
      have h2 : l.getD j default ∈ l := by rw [List.getD_eq_getElem?_getD, List.getElem?_eq_getElem (by omega)]; exact List.getElem_mem _
      have h3 := weight_mem h2
      rw [weight_one]
      omega) h1)
    have CR := hide (fun W (hE : Ext w W) => hG (1 + (q : Int)) whole l A n c W hE (by unfold IsI64; omega) hn hc (by omega) (h.later hE))
    have hgi := groups_is (1 + (q : Int)) whole l
    rw [if_neg (by omega)] at hgi
    have HSt := hide (show (groupsI (1 + (q : Int)) whole l).drop 0 = restI (1 + (q : Int)) whole l 0 by rw [List.drop_zero]; exact hgi)
    have HNx := hide (fun (i t : Nat) => @groups_next (1 + (q : Int)) whole l (groupsI (1 + (q : Int)) whole l) i t)
    have HFit := hide (fun (i : Nat) (hi : i < n) => group_fits (size := 1 + (q : Int)) (whole := whole) (l := l) (i := i) (by omega))
    have HEnd := hide (fun (t : Nat) => @groups_last (1 + (q : Int)) whole l t)
    have HLn := hide (show (groupsI (1 + (q : Int)) whole l).length ≤ 1000000 by unfold groupsI groupsE; rw [List.length_map]; have h1 := groups_few whole (if 1 + (q : Int) < 1 then 1 else 1 + (q : Int)) l.length l; have h2 := weight_len l; omega)
    have H := hide h
    have HL := hide hl
    have HOk := hide (fun (j : Nat) (hj : j < n) => h.okAt hj)
    have HB1 := hide (fun (j : Nat) => show bytesB whole [l.getD j default] = oneB whole (l.getD j default) by simp [bytesB])
    unfold MadeB at CY CZ
    unfold MadeL at CR
    have HSm := hide (fun j k => show (bytesB whole ((l.drop j).take k)).length ≤ 6000 by have h1 := bytes_small whole ((l.drop j).take k); have h2 := weight_part l j k; omega)
    have HSo := hide (fun (j : Nat) (hj : j < n) => show (oneB whole (l.getD j default)).length ≤ 6000 by
      have h2 : l.getD j default ∈ l := by rw [List.getD_eq_getElem?_getD, List.getElem?_eq_getElem (by omega)]; exact List.getElem_mem _
      have h3 := weight_mem h2
      have h4 := bytes_small whole [l.getD j default]
      rw [HB1.out j, weight_one] at h4
      omega)
    have HGp := hide (show ∀ i, 1 ≤ groupN (1 + (q : Int)) whole l i from fun i => by unfold groupN; omega)
    clear hg g2 hB hG hY h hl hgi hq
    generalize groupsI (1 + (q : Int)) whole l = gs at *
    obtain ⟨size, hsz⟩ : ∃ s, s = 1 + q := ⟨_, rfl⟩
    have hszI : 1 + (q : Int) = (size : Int) := by omega
    have hs3 : size ≤ 300 := by omega
    rw [hszI] at HSt HNx HFit HEnd CR HGp
    clear hsz hq3
    go_enter Try.func9, Try.ntmps9
    go_wp2_with fail
    refine C0.mono ?_
    rintro e w1 ⟨rfl, hE1⟩
    have HE1 := hide hE1
    have C1 := CG.out w1 hE1
    clear C0 hE1
    go_wp2_with fail
    refine C1.mono ?_
    rintro e w2 ⟨rfl, hQ2⟩
    have HE2 := hide (HE1.out.trans hQ2.ext)
    have C2 := CR.out w2 HE2.out
    clear C1 hQ2
    go_wp2_with fail
    refine C2.mono ?_
    rintro e w3 ⟨A3, c3, rfl, hc3, hm3, hI3, hE3⟩
    have HE3 := hide (HE2.out.trans hE3)
    obtain ⟨ng, hng⟩ : ∃ x, x = gs.length := ⟨_, rfl⟩
    rw [← hng] at hI3 ⊢
    have HI3 := hide hI3
    have HNg := hide hng
    have hng9 : ng ≤ 1000000 := by rw [hng]; exact HLn.out
    clear C2 hE3 hI3 hc3 hm3 hng
    go_wp2
    go_loopw [10, 9] (fun x y wr => ∃ i t : Nat, i ≤ ng ∧ t ≤ n ∧ x = .int .i64 (i : Int) ∧ y = .int .i64 (t : Int) ∧ gs.drop i = restI (size : Int) whole l t ∧ Ext w3 wr) (fun x _ _ => ng - (intOf x).toNat)
    case atStart => exact ⟨0, 0, by omega, by omega, rfl, rfl, HSt.out, Ext.refl _⟩
    case round =>
      obtain ⟨i, t, hi, ht, rfl, rfl, hgs, hE⟩ := hrel
      clear HSt
      by_cases hlt : i < ng
      · have hltI : (i : Int) < (ng : Int) := by omega
        obtain ⟨htn, e1, e2, e3⟩ := HNx.out i t (by rw [← HNg.out]; exact hlt) hgs
        rw [HL.out] at htn e3
        obtain ⟨f1, f2⟩ := HFit.out t htn
        obtain ⟨b1, o1, rfl, k1⟩ := HI3.out.cellAt hlt 
        rw [e1] at k1
        have hk1 := HGp.out t
        rw [HL.out] at f2
        generalize groupN (size : Int) whole l t = k at *
        have HK1 := hide k1
        have HX2 := hide e2
        have hkI : ¬ (k : Int) < 1 := by omega
        have hkn : ¬ (k : Int) > (n : Int) - (t : Int) := by omega
        have hkn2 : ¬ (n : Int) - (t : Int) < (k : Int) := by omega
        have kr := k1 wr hE
        have CP := hide (CY.out t k e3)
        have hcut := fun W => run_partRc W A n c t k (by omega)
        have HE := hide hE
        have CPw := CP.out wr (HE3.out.trans hE)
        have hbs := HSm.out t k
        generalize bytesB whole ((l.drop t).take k) = bs at *
        have HF1 := hide f1
        have HF2 := hide f2
        clear hE k1 e1 e2 hgs f1 f2
        go_wp2_with fail
        refine CPw.mono ?_
        rintro e w4 ⟨v4, rfl, hO4, hE4⟩
        obtain ⟨A4, c4, rfl, hc4, hm4, -⟩ := hO4.form
        have HE4 := hide (HE.out.trans hE4)
        obtain ⟨m4, hm⟩ : ∃ m, m = bs.length := ⟨_, rfl⟩
        rw [← hm] at HF1 HF2 hbs ⊢
        have kr4 := HK1.out w4 HE4.out
        clear CPw hO4 hE4 hm kr hcut hc4 hm4
        obtain ⟨t2, ht2⟩ : ∃ x, x = t + k := ⟨_, rfl⟩
        have ht2I : (t : Int) + (k : Int) = (t2 : Int) := by omega
        rw [← ht2] at HX2 HF2 e3
        clear ht2
        by_cases hmany : 1 < k
        · by_cases hmore : t2 < n
          · have hkG : (k : Int) > 1 := by omega
            have hkG2 : (1 : Int) < (k : Int) := by omega
            have hmS : ¬ (m4 : Int) > (size : Int) := by have := HF1.out hmany; omega
            have hmS2 : ¬ (size : Int) < (m4 : Int) := by have := HF1.out hmany; omega
            have htI : (t2 : Int) < (n : Int) := by omega
            obtain ⟨b2, o2, rfl, r2⟩ := H.out.cellAt hmore
            have hok := HOk.out t2 hmore
            have hb1 := HB1.out t2
            have hf2 := HF2.out hmore
            have CZ2 := CZ.out t2 hmore
            have hos := HSo.out t2 hmore
            generalize l.getD t2 default = r at *
            rw [hb1] at CZ2
            obtain ⟨r0, r1, r3, r4⟩ := r2 w4 (HE3.out.trans HE4.out)
            have HAl := hide (fun t fr => extNew w4 (.cells (rcCells r).toArray t fr))
            have hNew := hide (fun t fr => rcsNew w4 [r] (rcCells r).toArray t fr (by simp) 1 rfl (by simp; exact hok))
            obtain ⟨rt, rx, rs, rg⟩ := r
            unfold rcCells at HAl hNew
            dsimp only at r0 r1 r3 r4 HAl hNew
            have C5 := CZ2 _ ((HE3.out.trans HE4.out).trans (HAl.out 42 (0, 0))) _ (hNew.out 42 (0, 0))
            generalize oneB whole ⟨rt, rx, rs, rg⟩ = os at *
            have HA4 := hide (HE4.out.trans (HAl.out 42 (0, 0)))
            clear CZ2 HAl hNew hok hb1 r2 HF2
            go_wp2_with fail
            refine C5.mono ?_
            rintro e w5 ⟨v5, rfl, hO5, hE5⟩
            obtain ⟨A5, c5, rfl, hc5, hm5, -⟩ := hO5.form
            have HE5 := hide (HA4.out.trans hE5)
            obtain ⟨m5, hm⟩ : ∃ m, m = os.length := ⟨_, rfl⟩
            rw [← hm] at hf2 hos ⊢
            have hle : ¬ (m4 : Int) + (m5 : Int) ≤ (size : Int) := by omega
            clear C5 hO5 hE5 hm hc5 hm5
            go_wp2
            go_roundw
            case rel => exact ⟨i + 1, t2, by omega, by omega, by go_num, rfl, HX2.out, HE5.out⟩
            case measure => simp [intOf]; omega
          · have hkG : (k : Int) > 1 := by omega
            have hkG2 : (1 : Int) < (k : Int) := by omega
            have hmS : ¬ (m4 : Int) > (size : Int) := by have := HF1.out hmany; omega
            have hmS2 : ¬ (size : Int) < (m4 : Int) := by have := HF1.out hmany; omega
            have htI : ¬ (t2 : Int) < (n : Int) := by omega
            clear HF2
            go_wp2
            go_roundw
            case rel => exact ⟨i + 1, t2, by omega, by omega, by go_num, rfl, HX2.out, HE4.out⟩
            case measure => simp [intOf]; omega
        · by_cases hmore : t2 < n
          · have hkG : ¬ (k : Int) > 1 := by omega
            have hkG2 : ¬ (1 : Int) < (k : Int) := by omega
            have htI : (t2 : Int) < (n : Int) := by omega
            obtain ⟨b2, o2, rfl, r2⟩ := H.out.cellAt hmore
            have hok := HOk.out t2 hmore
            have hb1 := HB1.out t2
            have hf2 := HF2.out hmore
            have CZ2 := CZ.out t2 hmore
            have hos := HSo.out t2 hmore
            generalize l.getD t2 default = r at *
            rw [hb1] at CZ2
            obtain ⟨r0, r1, r3, r4⟩ := r2 w4 (HE3.out.trans HE4.out)
            have HAl := hide (fun t fr => extNew w4 (.cells (rcCells r).toArray t fr))
            have hNew := hide (fun t fr => rcsNew w4 [r] (rcCells r).toArray t fr (by simp) 1 rfl (by simp; exact hok))
            obtain ⟨rt, rx, rs, rg⟩ := r
            unfold rcCells at HAl hNew
            dsimp only at r0 r1 r3 r4 HAl hNew
            have C5 := CZ2 _ ((HE3.out.trans HE4.out).trans (HAl.out 42 (0, 0))) _ (hNew.out 42 (0, 0))
            generalize oneB whole ⟨rt, rx, rs, rg⟩ = os at *
            have HA4 := hide (HE4.out.trans (HAl.out 42 (0, 0)))
            clear CZ2 HAl hNew hok hb1 r2 HF2
            go_wp2_with fail
            refine C5.mono ?_
            rintro e w5 ⟨v5, rfl, hO5, hE5⟩
            obtain ⟨A5, c5, rfl, hc5, hm5, -⟩ := hO5.form
            have HE5 := hide (HA4.out.trans hE5)
            obtain ⟨m5, hm⟩ : ∃ m, m = os.length := ⟨_, rfl⟩
            rw [← hm] at hf2 hos ⊢
            have hle : ¬ (m4 : Int) + (m5 : Int) ≤ (size : Int) := by omega
            clear C5 hO5 hE5 hm hc5 hm5
            go_wp2
            go_roundw
            case rel => exact ⟨i + 1, t2, by omega, by omega, by go_num, rfl, HX2.out, HE5.out⟩
            case measure => simp [intOf]; omega
          · have hkG : ¬ (k : Int) > 1 := by omega
            have hkG2 : ¬ (1 : Int) < (k : Int) := by omega
            have htI : ¬ (t2 : Int) < (n : Int) := by omega
            clear HF2
            go_wp2
            go_roundw
            case rel => exact ⟨i + 1, t2, by omega, by omega, by go_num, rfl, HX2.out, HE4.out⟩
            case measure => simp [intOf]; omega
      · have hltI : ¬ (i : Int) < (ng : Int) := by omega
        have htE : n ≤ t := by
          rw [← HL.out]
          refine HEnd.out t ?_
          rw [← hgs, List.drop_eq_nil_of_le (by rw [← HNg.out]; omega)]
        have htn : ((t : Int) == (n : Int)) = true := by rw [beq_iff_eq]; omega
        clear hgs
        go_wp2
        go_ret
        exact ⟨rfl, HE3.out.trans hE⟩
end Go.Proofs.Ytkgkppblkdihkaa

namespace Go.Proofs.Ytkgkppblkdihkaa
open Go.RowKit Go.WideMaps Num Rcs

theorem recsChecks_walk (A : Option Addr) (n c : Nat) (l : List Rc) (w : World) (hn : n ≤ c) (hc : c ≤ maxLen) (h : RcsAt w w.heap.size A n l) : Calls Try.prog 3 #[.slice A n c] w fun e w' => e = .returned (.bool true) ∧ Below w.heap.size w w' :=
  recsChecks_walk0 A n c l w (rColumnsC_any w) (rCheckC_any w) (rWeightC_any w) hn hc h
theorem recsBytes_walk (whole : Bool) (A : Option Addr) (n c : Nat) (l : List Rc) (w : World) (hn : n ≤ c) (hc : c ≤ maxLen) (h : RcsAt w w.heap.size A n l) : Calls Try.prog 4 #[.bool whole, .slice A n c] w fun e w' => e = .returned (.bool true) ∧ Below w.heap.size w w' :=
  recsBytes_walk0 whole A n c l w (rColumnsC_any w) (rBytesC_any w) hn hc h
theorem recsReads_walk (whole : Bool) (A : Option Addr) (n c : Nat) (b : List UInt8) (w : World) (hn : n ≤ c) (hc : c ≤ maxLen) (h : Bytes w w.heap.size A n b) : Calls Try.prog 5 #[.bool whole, .slice A n c] w fun e w' => e = .returned (.bool true) ∧ Below w.heap.size w w' :=
  recsReads_walk0 whole A n c b w (rColumnsC_any w) (rReadC_any w) hn hc h
theorem recsBack_walk (whole : Bool) (A : Option Addr) (n c : Nat) (l : List Rc) (w : World) (hn : n ≤ c) (hc : c ≤ maxLen) (h : RcsAt w w.heap.size A n l) : Calls Try.prog 6 #[.bool whole, .slice A n c] w fun e w' => e = .returned (.bool true) ∧ Below w.heap.size w w' :=
  recsBack_walk0 whole A n c l w (rColumnsC_any w) (rReadC_any w) (rBytesC_any w) hn hc h
theorem recsOne_walk (whole : Bool) (A : Option Addr) (n c : Nat) (b : List UInt8) (w : World) (hn : n ≤ c) (hc : c ≤ maxLen) (h : Bytes w w.heap.size A n b) : Calls Try.prog 7 #[.bool whole, .slice A n c] w fun e w' => e = .returned (.bool true) ∧ Below w.heap.size w w' :=
  recsOne_walk0 whole A n c b w (rColumnsC_any w) (rReadC_any w) (rBytesC_any w) hn hc h
theorem recsGroups_walk (size : Int) (whole : Bool) (A : Option Addr) (n c : Nat) (l : List Rc) (w : World) (hs : (Lit.int .i64 size).wf = true) (hn : n ≤ c) (hc : c ≤ maxLen) (h : RcsAt w w.heap.size A n l) : Calls Try.prog 8 #[.int .i64 size, .bool whole, .slice A n c] w fun e w' => e = .returned (.bool true) ∧ Below w.heap.size w w' :=
  recsGroups_walk0 size whole A n c l w (rColumnsC_any w) (rGroupsC_any w) (isI64_of hs) hn hc h
theorem recsFits_walk (x : Int) (whole : Bool) (A : Option Addr) (n c : Nat) (l : List Rc) (w : World) (hx : (Lit.int .u16 x).wf = true) (hn : n ≤ c) (hc : c ≤ maxLen) (h : RcsAt w w.heap.size A n l) : Calls Try.prog 9 #[.int .u16 x, .bool whole, .slice A n c] w fun e w' => e = .returned (.bool true) ∧ Below w.heap.size w w' := by
  obtain ⟨h0, h1⟩ := bounds_u16 hx
  obtain ⟨z, rfl⟩ := Int.eq_ofNat_of_zero_le h0
  exact recsFits_walk0 z whole A n c l w (rColumnsC_any w) (rGroupsC_any w) (rBytesC_any w) (by omega) hn hc h
theorem recsColumns_walk (A : Option Addr) (n c : Nat) (l : List Rc) (k : Int) (A2 : Option Addr) (n2 c2 : Nat) (b : List UInt8) (w : World) (hn : n ≤ c) (hc : c ≤ maxLen) (h : RcsAt w w.heap.size A n l) (hk : (Lit.int .i64 k).wf = true) (hn2 : n2 ≤ c2) (hc2 : c2 ≤ maxLen) (h2 : Bytes w w.heap.size A2 n2 b) : Calls Try.prog 10 #[.slice A n c, .int .i64 k, .slice A2 n2 c2] w fun e w' => e = .returned (.bool true) ∧ Below w.heap.size w w' :=
  recsColumns_walk0 A n c l k A2 n2 c2 b w (rColumnsC_any w) (rReadColC_any w) hn hc h (isI64_of hk) hn2 hc2 h2
theorem recsApart_walk (A : Option Addr) (n c : Nat) (l : List Rc) (A2 : Option Addr) (n2 c2 : Nat) (b : List UInt8) (w : World) (hn : n ≤ c) (hc : c ≤ maxLen) (h : RcsAt w w.heap.size A n l) (_ : n2 ≤ c2) (_ : c2 ≤ maxLen) (h2 : Bytes w w.heap.size A2 n2 b) : Calls Try.prog 11 #[.slice A n c, .slice A2 n2 c2] w fun e w' => e = .returned (.bool true) ∧ Below w.heap.size w w' :=
  recsApart_walk0 A n c l A2 n2 c2 b w (rColumnsC_any w) (rReadColC_any w) hn hc h h2
end Go.Proofs.Ytkgkppblkdihkaa

