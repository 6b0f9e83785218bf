/- What the laws of chapter 10 ask of the program; the example; LzFinds, LzBack, LzPlays, LzMay. -/
import Derived.Test.YtklofjgfecpkiaaLzRef
import Derived.Test.YtklofjgfecpkiaaLzRefPlay
import Derived.Test.YtklofjgfecpkiaaStrs
import Derived.Deep.QuietTactic
import Derived.Lib.SlBytesConst
namespace Go.Proofs.Ytklofjgfecpkiaa
open Go.RowKit Lz

/-- From world w on, the program's functions tell what the document's tell. -/
def FindC (w : World) : Prop := ∀ (b : List UInt8) (A : Option Addr) (n c : Nat) (W : World), Ext w W → n ≤ c → c ≤ maxLen → n ≤ 100000 → Bytes W W.heap.size A n b → Calls Try.prog 11 #[.slice A n c] W (MadeTk W (toks b 0))
def PlayC (w : World) : Prop := ∀ (L : List TokV) (most : Int) (A : Option Addr) (n c : Nat) (W : World), Ext w W → n ≤ c → c ≤ maxLen → n ≤ 100000 → ToksAt W W.heap.size A n L → -9223372036854775808 ≤ most → most ≤ 9223372036854775807 → Calls Try.prog 13 #[.slice A n c, .int .i64 most] W (PlayTo W (playE L most))
def TMayC (w : World) : Prop := ∀ (t : TokV) (W : World), Ext w W → t.ok → Calls Try.prog 16 #[tokV t] W fun e w' => e = .returned (.bool (may t)) ∧ Ext W w'

theorem Lz.tok_ok (b : List UInt8) (p : Nat) : (tokAt b p).ok := by
  have h := best_le b p (min 4095 p)
  unfold tokAt TokV.ok
  split
  · unfold bestAt at *
    dsimp only
    omega
  · dsimp only
    omega
theorem Lz.toks_ok (b : List UInt8) (p : Nat) : ∀ t, t ∈ toks b p → t.ok := by
  intro t ht
  by_cases h : p < b.length
  · rw [toks_next h] at ht
    rcases List.mem_cons.1 ht with rfl | ht
    · exact tok_ok b p
    · exact toks_ok b (p + stepAt b p) t ht
  · rw [toks_end h] at ht
    cases ht
termination_by b.length - p
decreasing_by have := step_pos b p; omega
theorem OwnTk.at {w : World} {base : Nat} {v : Value} {L : List TokV} (h : OwnTk w base v L) (hok : ∀ t, t ∈ L → t.ok) : ∃ A c, v = .slice A L.length c ∧ L.length ≤ c ∧ c ≤ maxLen ∧ ToksAt w w.heap.size A L.length L := by
  have hl := h.lt
  obtain ⟨A, c, rfl, hA⟩ := h.form
  have hc : L.length ≤ c ∧ c ≤ maxLen := by
    rcases h.2 with ⟨e, h0⟩ | ⟨g, cap, cur, e, hb, hgg, hn, hc, _⟩
    · simp only [Value.slice.injEq] at e
      unfold maxLen
      omega
    · simp only [Value.slice.injEq] at e
      obtain ⟨_, _, rfl⟩ := e
      exact ⟨hn, hc⟩
  refine ⟨A, c, rfl, hc.1, hc.2, rfl, ?_⟩
  rcases hA with h0 | ⟨g, rfl, hi⟩
  · exact .inl h0
  · refine .inr ⟨g, 0, rfl, (hl g rfl).2, fun i hi2 => ⟨hi i hi2, hok _ ?_⟩⟩
    rw [List.getD_eq_getElem?_getD, List.getElem?_eq_getElem hi2]
    exact List.getElem_mem hi2
theorem ToksAt.later {w w' : World} {A : Option Addr} {n : Nat} {L : List TokV} (h : ToksAt w w.heap.size A n L) (hE : Ext w w') : ToksAt w' w'.heap.size A n L := by
  have := h.below hE (Nat.le_refl _)
  refine ⟨this.1, this.2.imp_right ?_⟩
  rintro ⟨b, off, e, hb, hc⟩
  exact ⟨b, off, e, Nat.lt_of_lt_of_le hb hE.le, hc⟩

set_option maxHeartbeats 2000000 in
set_option maxRecDepth 100000 in
/-- Two lists that are the same. -/
theorem refTSame_any (A1 A2 : Option Addr) (c1 c2 : Nat) (L : List TokV) (w : World) (h1 : ToksAt w w.heap.size A1 L.length L) (h2 : ToksAt w w.heap.size A2 L.length L) (hn : L.length ≤ 1000000) :
    Calls Try.prog 10 #[.slice A1 L.length c1, .slice A2 L.length c2] w fun e w' => e = .returned (.bool true) ∧ Ext w w' := by
  have H1 := hide h1
  have H2 := hide h2
  clear h1 h2
  generalize hN : L.length = N at *
  clear hN
  go_enter Try.func10, Try.ntmps10
  go_wp2
  go_loopw [5] (fun x wr => ∃ i : Nat, i ≤ N ∧ x = .int .i64 (i : Int) ∧ Qt w wr) (fun x _ => N - (intOf x).toNat)
  case atStart => exact ⟨0, by omega, rfl, Qt.refl _⟩
  case round =>
    obtain ⟨i, hi, rfl, hQ⟩ := hrel
    by_cases hlt : i < N
    · have hiI : (i : Int) < (N : Int) := by omega
      rcases (H1.out.later hQ.ext).2 with h0 | ⟨b1, o1, rfl, _, hc1⟩
      · omega
      rcases (H2.out.later hQ.ext).2 with h0 | ⟨b2, o2, rfl, _, hc2⟩
      · omega
      obtain ⟨c0, c1', c2'⟩ := (hc1 i hlt).1.cells
      obtain ⟨d0, d1, d2⟩ := (hc2 i hlt).1.cells
      clear hc1 hc2
      generalize (L.getD i default).lit.toNat = y at *
      generalize (L.getD i default).len = tn at *
      generalize (L.getD i default).dist = td at *
      go_wp2_with fail
      go_quiet (fail)
      go_wp2
      go_roundw
      case rel => exact ⟨i + 1, by omega, by go_num, hQ.drewN _⟩
      case measure => simp [intOf]; omega
    · obtain rfl : N = i := by omega
      go_wp2
      go_ret
      exact ⟨rfl, hQ.ext⟩

theorem Lz.toks_example : toks [97, 97, 97, 97] 0 = [⟨97, 0, 0⟩, ⟨0, 3, 1⟩] := by
  rw [toks_next (by decide), show tokAt [97, 97, 97, 97] 0 = ⟨97, 0, 0⟩ by decide +kernel, show stepAt [97, 97, 97, 97] 0 = 1 by decide +kernel, toks_next (by decide),
    show tokAt [97, 97, 97, 97] (0 + 1) = ⟨0, 3, 1⟩ by decide +kernel, show stepAt [97, 97, 97, 97] (0 + 1) = 3 by decide +kernel, toks_end (by decide)]

set_option maxHeartbeats 2000000 in
set_option maxRecDepth 100000 in
theorem alive10_any {w W : World} (hF : FindC w) (hE : Ext w W) : Calls Try.prog 9 #[] W fun e W' => e = .returned (.bool true) ∧ Ext W W' := by
  have kc := fun (w : World) (C : Array Value) (n c : Nat) => Lib.run_convert_bytes_const (P := Try.prog) w 22 5 C n c Try.underlying22 Try.underlying5
  have hb := bytesNew W [97, 97, 97, 97] #[.int .u8 97, .int .u8 97, .int .u8 97, .int .u8 97] 5 (4, 5) rfl 4 rfl
  have hE1 := extNew W (.cells #[.int .u8 97, .int .u8 97, .int .u8 97, .int .u8 97] 5 (4, 5))
  have C := hF [97, 97, 97, 97] _ 4 4 _ (hE.trans hE1) (Nat.le_refl _) (by unfold maxLen; omega) (by omega) hb
  rw [toks_example] at C
  unfold MadeTk at C
  clear hb hF
  go_enter Try.func9, Try.ntmps9
  go_wp2_with fail
  refine C.mono ?_
  rintro e w2 ⟨v, rfl, hO, hE2⟩
  obtain ⟨A, c, rfl, _, _, hA⟩ := hO.at (fun t ht => by
    simp only [List.mem_cons, List.not_mem_nil, or_false] at ht
    rcases ht with rfl | rfl <;> (unfold TokV.ok; dsimp only; omega))
  rcases hA.2 with h0 | ⟨g, o, rfl, _, hc⟩
  · simp at h0
  obtain ⟨c0, c1, c2⟩ := (hc 0 (by simp)).1.cells
  obtain ⟨d0, d1, d2⟩ := (hc 1 (by simp)).1.cells
  change w2.cell? ⟨g, o + 0 * 3, none⟩ = some (.int .u8 97) at c0
  change w2.cell? ⟨g, o + 0 * 3 + 1, none⟩ = some (.int .i64 0) at c1
  change w2.cell? ⟨g, o + 0 * 3 + 2, none⟩ = some (.int .i64 0) at c2
  change w2.cell? ⟨g, o + 1 * 3, none⟩ = some (.int .u8 0) at d0
  change w2.cell? ⟨g, o + 1 * 3 + 1, none⟩ = some (.int .i64 3) at d1
  change w2.cell? ⟨g, o + 1 * 3 + 2, none⟩ = some (.int .i64 1) at d2
  rw [Nat.zero_mul, Nat.add_zero] at c0 c1 c2
  rw [Nat.one_mul] at d0 d1 d2
  clear hO hA hc C
  go_wp2
  go_ret
  exact ⟨rfl, hE1.trans hE2⟩

set_option maxHeartbeats 2000000 in
set_option maxRecDepth 100000 in
theorem lzFinds_walk0 (A : Option Addr) (n c : Nat) (b : List UInt8) (w : World) (hF : FindC w) (hn : n ≤ c) (hc : c ≤ maxLen) (h : Bytes w w.heap.size A n b) :
    Calls Try.prog 3 #[.slice A n c] w fun e w' => e = .returned (.bool true) ∧ Ext w w' := by
  have C0 := alive10_any hF (Ext.refl w)
  by_cases hbig : 1500 < n
  · have hbI : (1500 : Int) < (n : Int) := by omega
    go_enter Try.func3, Try.ntmps3
    go_wp2_with fail
    refine C0.mono ?_
    rintro e w1 ⟨rfl, hE1⟩
    go_wp2
    go_ret
    exact ⟨rfl, hE1⟩
  have hbI : ¬ (1500 : Int) < (n : Int) := by omega
  have hl := h.1
  have hlen := toks_len b 0
  have hok := toks_ok b 0
  have H := hide h
  have HF := hide hF
  clear h hF
  go_enter Try.func3, Try.ntmps3
  go_wp2_with fail
  refine C0.mono ?_
  rintro e w1 ⟨rfl, hE1⟩
  have C1 := HF.out b A n c w1 hE1 hn hc (by omega) (hE1.bytes H.out)
  unfold MadeTk at C1
  clear C0
  go_wp2_with fail
  refine C1.mono ?_
  rintro e w2 ⟨v2, rfl, hO2, hE2⟩
  have hF2 := hE1.trans hE2
  have C2 := refFind_any A n c b w2 (by omega) (hF2.bytes H.out)
  unfold MadeTk at C2
  clear C1
  generalize toks b 0 = L at *
  go_wp2_with fail
  refine C2.mono ?_
  rintro e w3 ⟨v3, rfl, hO3, hE3⟩
  obtain ⟨A2, c2, rfl, _, _, h2⟩ := (hO2.ext hE3).at hok
  obtain ⟨A3, c3, rfl, _, _, h3⟩ := hO3.at hok
  have CS := refTSame_any A2 A3 c2 c3 L w3 h2 h3 (by omega)
  clear C2 hO2 hO3 h2 h3 hok
  generalize L.length = k at *
  go_wp2_with fail
  refine CS.mono ?_
  rintro e w4 ⟨rfl, hE4⟩
  go_wp2
  go_ret
  exact ⟨rfl, (hF2.trans hE3).trans hE4⟩

set_option maxHeartbeats 2000000 in
set_option maxRecDepth 100000 in
theorem lzPlays_walk0 (most : Int) (A : Option Addr) (n c : Nat) (L : List TokV) (w : World) (hF : FindC w) (hP : PlayC w) (hn : n ≤ c) (hc : c ≤ maxLen) (h : ToksAt w w.heap.size A n L) (hm0 : -9223372036854775808 ≤ most) (hm1 : most ≤ 9223372036854775807) :
    Calls Try.prog 5 #[.slice A n c, .int .i64 most] w fun e w' => e = .returned (.bool true) ∧ Ext w w' := by
  have C0 := alive10_any hF (Ext.refl w)
  by_cases hbig : 300 < n
  · have hbI : (300 : Int) < (n : Int) := by omega
    go_enter Try.func5, Try.ntmps5
    go_wp2_with fail
    refine C0.mono ?_
    rintro e w1 ⟨rfl, hE1⟩
    go_wp2
    go_ret
    exact ⟨rfl, hE1⟩
  have hbI : ¬ (300 : Int) < (n : Int) := by omega
  have H := hide h
  have HP := hide hP
  clear h hP hF
  go_enter Try.func5, Try.ntmps5
  go_wp2_with fail
  refine C0.mono ?_
  rintro e w1 ⟨rfl, hE1⟩
  have C1 := HP.out L most A n c w1 hE1 hn hc (by omega) (H.out.later hE1) hm0 hm1
  unfold PlayTo at C1
  clear C0
  go_wp2_with fail
  refine C1.mono ?_
  rintro e w2 ⟨v2, rfl, hO2, hE2⟩
  have hF2 := hE1.trans hE2
  have C2 := refPlay_any A n c L most w2 (by omega) hm0 hm1 (H.out.later hF2)
  unfold PlayTo at C2
  clear C1
  generalize playE L most = res at *
  go_wp2_with fail
  refine C2.mono ?_
  rintro e w3 ⟨v3, rfl, hO3, hE3⟩
  obtain ⟨A4, c4, rfl, _, _, h4⟩ := (hO2.ext hE3).form
  obtain ⟨A5, c5, rfl, _, _, h5⟩ := hO3.form
  have CS := same_any _ _ _ _ c4 c5 _ _ _ h4 h5
  rw [sameB_true rfl] at CS
  have heb : (res.2 == res.2) = true := by simp
  clear C2 hO2 hO3 h4 h5
  generalize res.2 = er at *
  generalize res.1.length = k2 at *
  go_wp2_with fail
  refine CS.mono ?_
  rintro e w4 ⟨rfl, hE4⟩
  go_wp2
  go_ret
  exact ⟨rfl, (hF2.trans hE3).trans hE4⟩
end Go.Proofs.Ytklofjgfecpkiaa
