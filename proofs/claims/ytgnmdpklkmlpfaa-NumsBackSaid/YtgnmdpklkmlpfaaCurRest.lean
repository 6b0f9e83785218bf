/- The program's cursor: Int, Byte, Fixed, Take, Text, whatever its state. -/
import Derived.Test.YtgnmdpklkmlpfaaCurClone
namespace Go.Proofs.Ytgnmdpklkmlpfaa
open Go.RowKit

theorem Num.intR_stuck {b : List UInt8} {q : Nat} {e : Int} (he : e ≠ 0) (most : Int) : Num.intR b q e most = (0, q, e) := by
  have hN : Num.numR b q e = (0, q, e) := by unfold Num.numR; rw [if_neg he]
  unfold Num.intR
  rw [hN, if_neg he]
theorem Num.fixedR_stuck {b : List UInt8} {q : Nat} {e : Int} (he : e ≠ 0) (n : Int) : Num.fixedR b q e n = (0, q, e) := by unfold Num.fixedR; rw [if_neg he]
theorem Num.takeR_stuck {b : List UInt8} {q : Nat} {e : Int} (he : e ≠ 0) (n : Int) : Num.takeR b q e n = ([], q, e) := by unfold Num.takeR; rw [if_neg he]
theorem Num.textR_stuck {b : List UInt8} {q : Nat} {e : Int} (he : e ≠ 0) (most : Int) : Num.textR b q e most = ([], q, e) := by
  unfold Num.textR
  rw [Num.intR_stuck he, if_neg he]
theorem Num.takeR_len (b : List UInt8) (q : Nat) (e n : Int) : (Num.takeR b q e n).1.length ≤ b.length := by
  unfold Num.takeR
  split
  · split
    · simp
    · split
      · simp
      · simp; omega
  · simp
theorem Num.textR_len (b : List UInt8) (q : Nat) (e most : Int) : (Num.textR b q e most).1.length ≤ b.length := by
  unfold Num.textR
  split
  · split
    · simp
    · exact Num.takeR_len _ _ _ _
  · simp

theorem read_toldRow {w : World} {g r t q q' K : Nat} {b l : List UInt8} {er : Int} {cap : Array Value} (hK : Entered K) (h : PC w g r b q 0) (htg : t ≠ g)
    (hC : Calls Try.prog K cap w fun e' w' => e' = .returned (.int .i64 er) ∧ ToldRow w g r t b l q' w') :
    Calls Try.prog 37 #[.pointer (some ⟨g, 0, none⟩), .func (.func K) #[] cap] w fun e' w' => e' = .returned (.tuple #[]) ∧ ∃ A n c, PC w' g r b q' er ∧ Whole w' t 58 #[.slice A n c] ∧ n ≤ c ∧ RowIn w' g r A n l ∧ Mod w w' g (some t) := by
  refine (read_any (R := fun er' w' => er' = er ∧ ToldRow w g r t b l q' w') hK h (hC.mono ?_)).mono ?_
  · rintro e' w' ⟨rfl, hT⟩
    obtain ⟨A, n, c, hP, hr⟩ := id hT
    exact ⟨er, q', rfl, hP, rfl, hT⟩
  · rintro e' w' ⟨rfl, er', _, w2, _, ⟨rfl, A, n, c, hP, hW, hc, hR, hM⟩, rfl⟩
    have hG := Mod.ofRow (ob := none) (grown_setCell w2 g 2 (.int .i64 er'))
    exact ⟨rfl, A, n, c, hP.setErr, hW.far htg 2 _, hc, hR.mod hG hP.rlt (by simp), hM.trans (Mod.ofRow (grown_setCell w2 g 2 _)) (.inl rfl)⟩

set_option maxHeartbeats 2000000 in
set_option maxRecDepth 100000 in
theorem pcInt_any {w : World} {g r q : Nat} {b : List UInt8} {e : Int} (h : PC w g r b q e) (most : Int) (hm : most ≤ 9223372036854775807) :
    Calls Try.prog 26 #[.pointer (some ⟨g, 0, none⟩), .int .i64 most] w fun e' w' => e' = .returned (.int .i64 (((Num.intR b q e most).1 : Nat) : Int)) ∧ PcTo w g r b (Num.intR b q e most).2.1 (Num.intR b q e most).2.2 w' := by
  have hglt := h.lt
  have hrlt := h.rlt
  have hbl := h.bounds.2
  have hE1 := extNew w (.cells #[.pointer (some ⟨g, 0, none⟩)] 39)
  have hE2 := extNew (w.alloc (.cells #[.pointer (some ⟨g, 0, none⟩)] 39)) (.cells #[.int .i64 most] 3)
  have hE3 := extNew ((w.alloc (.cells #[.pointer (some ⟨g, 0, none⟩)] 39)).alloc (.cells #[.int .i64 most] 3)) (.cells #[.int .i64 0] 3)
  have hE := (hE1.trans hE2).trans hE3
  have hP := h.ext hE
  have hB0 : (((w.alloc (.cells #[.pointer (some ⟨g, 0, none⟩)] 39)).alloc (.cells #[.int .i64 most] 3)).alloc (.cells #[.int .i64 0] 3)).cell? ⟨w.heap.size, 0, none⟩ = some (.pointer (some ⟨g, 0, none⟩)) := ((hE2.trans hE3).cell (by simp)).trans (cellNew w _ _ _ 0)
  have hB1 : (((w.alloc (.cells #[.pointer (some ⟨g, 0, none⟩)] 39)).alloc (.cells #[.int .i64 most] 3)).alloc (.cells #[.int .i64 0] 3)).cell? ⟨w.heap.size + 1, 0, none⟩ = some (.int .i64 most) := by
    have h1 := cellNew (w.alloc (.cells #[.pointer (some ⟨g, 0, none⟩)] 39)) #[.int .i64 most] 3 (0, 0) 0
    rw [World.size_alloc] at h1
    exact (hE3.cell (by simp)).trans h1
  have ht := Whole.new ((w.alloc (.cells #[.pointer (some ⟨g, 0, none⟩)] 39)).alloc (.cells #[.int .i64 most] 3)) 3 #[.int .i64 0]
  rw [World.size_alloc, World.size_alloc] at ht
  by_cases he : e = 0
  · subst he
    have C := read_told (q' := (Num.intR b q 0 most).2.1) (er := (Num.intR b q 0 most).2.2) (v := .int .i64 (((Num.intR b q 0 most).1 : Nat) : Int)) entered_int1 hP (t := w.heap.size + 1 + 1) (by omega) (int1_any hm hP hB0 hB1 ht (by omega) (by omega))
    generalize Num.intR b q 0 most = res at *
    obtain ⟨x, q', er⟩ := res
    dsimp only at *
    have HE := hide hE
    clear hP hB0 hB1 ht hE1 hE2 hE3 hE h
    go_enter Try.func26, Try.ntmps26
    go_wp2_with fail
    refine C.mono ?_
    rintro e' w2 ⟨rfl, hP2, hW2, hM2⟩
    have t0 : w2.cell? ⟨w.heap.size + 1 + 1, 0, none⟩ = some (.int .i64 (x : Int)) := hW2.cell 0
    have t1 := hW2.frozen 0
    go_wp2
    refine bodyPost_ret (results_cell_one rfl _ rfl (load_int _ _) ((hW2.set 0 _).cell 0)) rfl ⟨rfl, hP2.atEnd (by omega) (by omega) _, ?_⟩
    exact Mod.atEnd HE.out hM2 (by omega) _
  · have HN := hide (Num.intR_stuck (b := b) (q := q) he most)
    have C := read_stuck (K := 42) (cap := #[.pointer (some ⟨w.heap.size, 0, none⟩), .pointer (some ⟨w.heap.size + 1, 0, none⟩), .pointer (some ⟨w.heap.size + 1 + 1, 0, none⟩)]) hP he
    have t0 := ht.cell 0
    have t1 := ht.frozen 0
    have HP := hide hP
    have HE := hide hE
    have HT := hide ht
    clear hP hB0 hB1 ht hE1 hE2 hE3 hE h he
    go_enter Try.func26, Try.ntmps26
    go_wp2_with fail
    refine C.mono ?_
    rintro e' w2 ⟨rfl, rfl⟩
    go_wp2
    rw [HN.out]
    refine bodyPost_ret (results_cell_one rfl _ rfl (load_int _ _) (HT.out.cell 0)) rfl ⟨rfl, HP.out, Mod.ofExt HE.out⟩

/-- Of no cursor: nothing. -/
theorem pcInt_nil (w : World) (most : Int) : Calls Try.prog 26 #[.pointer none, .int .i64 most] w fun e' w' => e' = .returned (.int .i64 0) ∧ Ext w w' := by
  have hE1 := extNew w (.cells #[.pointer none] 39)
  have hE2 := extNew (w.alloc (.cells #[.pointer none] 39)) (.cells #[.int .i64 most] 3)
  have HE := hide ((hE1.trans hE2).trans (extNew ((w.alloc (.cells #[.pointer none] 39)).alloc (.cells #[.int .i64 most] 3)) (.cells #[.int .i64 0] 3)))
  have ht := Whole.new ((w.alloc (.cells #[.pointer none] 39)).alloc (.cells #[.int .i64 most] 3)) 3 #[.int .i64 0]
  rw [World.size_alloc, World.size_alloc] at ht
  have t0 := ht.cell 0
  have t1 := ht.frozen 0
  have HT := hide ht
  have C := read_nil (w := ((w.alloc (.cells #[.pointer none] 39)).alloc (.cells #[.int .i64 most] 3)).alloc (.cells #[.int .i64 0] 3)) (K := 42) (cap := #[.pointer (some ⟨w.heap.size, 0, none⟩), .pointer (some ⟨w.heap.size + 1, 0, none⟩), .pointer (some ⟨w.heap.size + 1 + 1, 0, none⟩)])
  clear hE1 hE2 ht
  go_enter Try.func26, Try.ntmps26
  go_wp2_with fail
  refine C.mono ?_
  rintro e' w2 ⟨rfl, rfl⟩
  go_wp2
  exact bodyPost_ret (results_cell_one rfl _ rfl (load_int _ _) (HT.out.cell 0)) rfl ⟨rfl, HE.out⟩

set_option maxHeartbeats 2000000 in
set_option maxRecDepth 100000 in
theorem pcFixed_any {w : World} {g r q : Nat} {b : List UInt8} {e : Int} (h : PC w g r b q e) (n : Int) :
    Calls Try.prog 28 #[.pointer (some ⟨g, 0, none⟩), .int .i64 n] w fun e' w' => e' = .returned (.int .u64 (((Num.fixedR b q e n).1 : Nat) : Int)) ∧ PcTo w g r b (Num.fixedR b q e n).2.1 (Num.fixedR b q e n).2.2 w' := by
  have hglt := h.lt
  have hrlt := h.rlt
  have hbl := h.bounds.2
  have hE1 := extNew w (.cells #[.pointer (some ⟨g, 0, none⟩)] 39)
  have hE2 := extNew (w.alloc (.cells #[.pointer (some ⟨g, 0, none⟩)] 39)) (.cells #[.int .i64 n] 3)
  have hE3 := extNew ((w.alloc (.cells #[.pointer (some ⟨g, 0, none⟩)] 39)).alloc (.cells #[.int .i64 n] 3)) (.cells #[.int .u64 0] 22)
  have hE := (hE1.trans hE2).trans hE3
  have hP := h.ext hE
  have hB0 : (((w.alloc (.cells #[.pointer (some ⟨g, 0, none⟩)] 39)).alloc (.cells #[.int .i64 n] 3)).alloc (.cells #[.int .u64 0] 22)).cell? ⟨w.heap.size, 0, none⟩ = some (.pointer (some ⟨g, 0, none⟩)) := ((hE2.trans hE3).cell (by simp)).trans (cellNew w _ _ _ 0)
  have hB1 : (((w.alloc (.cells #[.pointer (some ⟨g, 0, none⟩)] 39)).alloc (.cells #[.int .i64 n] 3)).alloc (.cells #[.int .u64 0] 22)).cell? ⟨w.heap.size + 1, 0, none⟩ = some (.int .i64 n) := by
    have h1 := cellNew (w.alloc (.cells #[.pointer (some ⟨g, 0, none⟩)] 39)) #[.int .i64 n] 3 (0, 0) 0
    rw [World.size_alloc] at h1
    exact (hE3.cell (by simp)).trans h1
  have ht := Whole.new ((w.alloc (.cells #[.pointer (some ⟨g, 0, none⟩)] 39)).alloc (.cells #[.int .i64 n] 3)) 22 #[.int .u64 0]
  rw [World.size_alloc, World.size_alloc] at ht
  by_cases he : e = 0
  · subst he
    have C := read_told (q' := (Num.fixedR b q 0 n).2.1) (er := (Num.fixedR b q 0 n).2.2) (v := .int .u64 (((Num.fixedR b q 0 n).1 : Nat) : Int)) entered_cfixed1 hP (t := w.heap.size + 1 + 1) (by omega) (cfixed1_any hP hB0 hB1 ht (by omega) (by omega))
    generalize Num.fixedR b q 0 n = res at *
    obtain ⟨x, q', er⟩ := res
    dsimp only at *
    have HE := hide hE
    clear hP hB0 hB1 ht hE1 hE2 hE3 hE h
    go_enter Try.func28, Try.ntmps28
    go_wp2_with fail
    refine C.mono ?_
    rintro e' w2 ⟨rfl, hP2, hW2, hM2⟩
    have t0 : w2.cell? ⟨w.heap.size + 1 + 1, 0, none⟩ = some (.int .u64 (x : Int)) := hW2.cell 0
    have t1 := hW2.frozen 0
    go_wp2
    refine bodyPost_ret (results_cell_one rfl _ rfl (load_u64 _ _) ((hW2.set 0 _).cell 0)) rfl ⟨rfl, hP2.atEnd (by omega) (by omega) _, ?_⟩
    exact Mod.atEnd HE.out hM2 (by omega) _
  · have HN := hide (Num.fixedR_stuck (b := b) (q := q) he n)
    have C := read_stuck (K := 45) (cap := #[.pointer (some ⟨w.heap.size, 0, none⟩), .pointer (some ⟨w.heap.size + 1, 0, none⟩), .pointer (some ⟨w.heap.size + 1 + 1, 0, none⟩)]) hP he
    have t0 := ht.cell 0
    have t1 := ht.frozen 0
    have HP := hide hP
    have HE := hide hE
    have HT := hide ht
    clear hP hB0 hB1 ht hE1 hE2 hE3 hE h he
    go_enter Try.func28, Try.ntmps28
    go_wp2_with fail
    refine C.mono ?_
    rintro e' w2 ⟨rfl, rfl⟩
    go_wp2
    rw [HN.out]
    refine bodyPost_ret (results_cell_one rfl _ rfl (load_u64 _ _) (HT.out.cell 0)) rfl ⟨rfl, HP.out, Mod.ofExt HE.out⟩

/-- Of no cursor: nothing. -/
theorem pcFixed_nil (w : World) (n : Int) : Calls Try.prog 28 #[.pointer none, .int .i64 n] w fun e' w' => e' = .returned (.int .u64 0) ∧ Ext w w' := by
  have hE1 := extNew w (.cells #[.pointer none] 39)
  have hE2 := extNew (w.alloc (.cells #[.pointer none] 39)) (.cells #[.int .i64 n] 3)
  have HE := hide ((hE1.trans hE2).trans (extNew ((w.alloc (.cells #[.pointer none] 39)).alloc (.cells #[.int .i64 n] 3)) (.cells #[.int .u64 0] 22)))
  have ht := Whole.new ((w.alloc (.cells #[.pointer none] 39)).alloc (.cells #[.int .i64 n] 3)) 22 #[.int .u64 0]
  rw [World.size_alloc, World.size_alloc] at ht
  have t0 := ht.cell 0
  have t1 := ht.frozen 0
  have HT := hide ht
  have C := read_nil (w := ((w.alloc (.cells #[.pointer none] 39)).alloc (.cells #[.int .i64 n] 3)).alloc (.cells #[.int .u64 0] 22)) (K := 45) (cap := #[.pointer (some ⟨w.heap.size, 0, none⟩), .pointer (some ⟨w.heap.size + 1, 0, none⟩), .pointer (some ⟨w.heap.size + 1 + 1, 0, none⟩)])
  clear hE1 hE2 ht
  go_enter Try.func28, Try.ntmps28
  go_wp2_with fail
  refine C.mono ?_
  rintro e' w2 ⟨rfl, rfl⟩
  go_wp2
  exact bodyPost_ret (results_cell_one rfl _ rfl (load_u64 _ _) (HT.out.cell 0)) rfl ⟨rfl, HE.out⟩

set_option maxHeartbeats 2000000 in
set_option maxRecDepth 100000 in
theorem pcTake_any {w : World} {g r q : Nat} {b : List UInt8} {e : Int} (h : PC w g r b q e) (n : Int) :
    Calls Try.prog 29 #[.pointer (some ⟨g, 0, none⟩), .int .i64 n] w fun e' w' => ∃ v, e' = .returned v ∧ OwnB w' w.heap.size v (Num.takeR b q e n).1 ∧ PcTo w g r b (Num.takeR b q e n).2.1 (Num.takeR b q e n).2.2 w' := by
  have hglt := h.lt
  have hrlt := h.rlt
  have hbl := h.bounds.2
  have hE1 := extNew w (.cells #[.pointer (some ⟨g, 0, none⟩)] 39)
  have hE2 := extNew (w.alloc (.cells #[.pointer (some ⟨g, 0, none⟩)] 39)) (.cells #[.int .i64 n] 3)
  have hE3 := extNew ((w.alloc (.cells #[.pointer (some ⟨g, 0, none⟩)] 39)).alloc (.cells #[.int .i64 n] 3)) (.cells #[.slice none 0 0] 58)
  have hE := (hE1.trans hE2).trans hE3
  have hP := h.ext hE
  have hB0 : (((w.alloc (.cells #[.pointer (some ⟨g, 0, none⟩)] 39)).alloc (.cells #[.int .i64 n] 3)).alloc (.cells #[.slice none 0 0] 58)).cell? ⟨w.heap.size, 0, none⟩ = some (.pointer (some ⟨g, 0, none⟩)) := ((hE2.trans hE3).cell (by simp)).trans (cellNew w _ _ _ 0)
  have hB1 : (((w.alloc (.cells #[.pointer (some ⟨g, 0, none⟩)] 39)).alloc (.cells #[.int .i64 n] 3)).alloc (.cells #[.slice none 0 0] 58)).cell? ⟨w.heap.size + 1, 0, none⟩ = some (.int .i64 n) := by
    have h1 := cellNew (w.alloc (.cells #[.pointer (some ⟨g, 0, none⟩)] 39)) #[.int .i64 n] 3 (0, 0) 0
    rw [World.size_alloc] at h1
    exact (hE3.cell (by simp)).trans h1
  have ht := Whole.new ((w.alloc (.cells #[.pointer (some ⟨g, 0, none⟩)] 39)).alloc (.cells #[.int .i64 n] 3)) 58 #[.slice none 0 0]
  rw [World.size_alloc, World.size_alloc] at ht
  by_cases he : e = 0
  · subst he
    have hlen := Num.takeR_len b q 0 n
    have C := read_toldRow (q' := (Num.takeR b q 0 n).2.1) (er := (Num.takeR b q 0 n).2.2) (l := (Num.takeR b q 0 n).1) entered_take1 hP (t := w.heap.size + 1 + 1) (by omega) (take1_any hP hB0 hB1 ht (by omega) (by omega))
    generalize Num.takeR b q 0 n = res at *
    obtain ⟨l, q', er⟩ := res
    dsimp only at *
    have HE := hide hE
    clear hP hB0 hB1 ht hE1 hE2 hE3 hE h
    go_enter Try.func29, Try.ntmps29
    go_wp2_with fail
    refine C.mono ?_
    rintro e' w2 ⟨rfl, A2, n2, c2, hP2, hW2, hc2, hR2, hM2⟩
    have t0 : w2.cell? ⟨w.heap.size + 1 + 1, 0, none⟩ = some (.slice A2 n2 c2) := hW2.cell 0
    have hb2 := hR2.bytes
    have hn2 := hR2.1
    have hM : Mod w w2 g none := (Mod.ofExt HE.out).trans hM2 (.inr ⟨_, rfl, by omega⟩)
    go_wp2_with fail
    refine (rowClone_any A2 n2 c2 l w2 (by omega) hb2).mono ?_
    rintro e' w3 ⟨v3, rfl, hO3, hE3⟩
    go_wp2
    go_ret
    exact ⟨v3, rfl, hO3.mono hM.size, hP2.ext hE3, hM.trans (Mod.ofExt hE3) (.inl rfl)⟩
  · have HN := hide (Num.takeR_stuck (b := b) (q := q) he n)
    have C := read_stuck (K := 47) (cap := #[.pointer (some ⟨w.heap.size, 0, none⟩), .pointer (some ⟨w.heap.size + 1, 0, none⟩), .pointer (some ⟨w.heap.size + 1 + 1, 0, none⟩)]) hP he
    have t0 := ht.cell 0
    have t1 := ht.frozen 0
    have HP := hide hP
    have HE := hide hE
    have HT := hide ht
    clear hP hB0 hB1 ht hE1 hE2 hE3 hE h he
    go_enter Try.func29, Try.ntmps29
    go_wp2_with fail
    refine C.mono ?_
    rintro e' w2 ⟨rfl, rfl⟩
    go_wp2_with fail
    refine (rowClone_any none 0 0 [] _ (by omega) (Bytes.none _ _ _)).mono ?_
    rintro e' w3 ⟨v3, rfl, hO3, hE3⟩
    go_wp2
    go_ret
    rw [HN.out]
    exact ⟨v3, rfl, hO3.mono HE.out.le, HP.out.ext hE3, Mod.ofExt (HE.out.trans hE3)⟩

/-- Of no cursor: nothing. -/
theorem pcTake_nil (w : World) (n : Int) : Calls Try.prog 29 #[.pointer none, .int .i64 n] w fun e' w' => ∃ v, e' = .returned v ∧ OwnB w' w.heap.size v [] ∧ Ext w w' := by
  have hE1 := extNew w (.cells #[.pointer none] 39)
  have hE2 := extNew (w.alloc (.cells #[.pointer none] 39)) (.cells #[.int .i64 n] 3)
  have HE := hide ((hE1.trans hE2).trans (extNew ((w.alloc (.cells #[.pointer none] 39)).alloc (.cells #[.int .i64 n] 3)) (.cells #[.slice none 0 0] 58)))
  have ht := Whole.new ((w.alloc (.cells #[.pointer none] 39)).alloc (.cells #[.int .i64 n] 3)) 58 #[.slice none 0 0]
  rw [World.size_alloc, World.size_alloc] at ht
  have t0 := ht.cell 0
  have t1 := ht.frozen 0
  have HT := hide ht
  have C := read_nil (w := ((w.alloc (.cells #[.pointer none] 39)).alloc (.cells #[.int .i64 n] 3)).alloc (.cells #[.slice none 0 0] 58)) (K := 47) (cap := #[.pointer (some ⟨w.heap.size, 0, none⟩), .pointer (some ⟨w.heap.size + 1, 0, none⟩), .pointer (some ⟨w.heap.size + 1 + 1, 0, none⟩)])
  clear hE1 hE2 ht
  go_enter Try.func29, Try.ntmps29
  go_wp2_with fail
  refine C.mono ?_
  rintro e' w2 ⟨rfl, rfl⟩
  go_wp2_with fail
  refine (rowClone_any none 0 0 [] _ (by omega) (Bytes.none _ _ _)).mono ?_
  rintro e' w3 ⟨v3, rfl, hO3, hE3⟩
  go_wp2
  go_ret
  exact ⟨v3, rfl, hO3.mono HE.out.le, HE.out.trans hE3⟩

set_option maxHeartbeats 2000000 in
set_option maxRecDepth 100000 in
theorem pcText_any {w : World} {g r q : Nat} {b : List UInt8} {e : Int} (h : PC w g r b q e) (most : Int) (hm : most ≤ 9223372036854775807) :
    Calls Try.prog 30 #[.pointer (some ⟨g, 0, none⟩), .int .i64 most] w fun e' w' => e' = .returned (.string ⟨(Num.textR b q e most).1.toArray⟩) ∧ PcTo w g r b (Num.textR b q e most).2.1 (Num.textR b q e most).2.2 w' := by
  have hglt := h.lt
  have hrlt := h.rlt
  have hbl := h.bounds.2
  have hE1 := extNew w (.cells #[.pointer (some ⟨g, 0, none⟩)] 39)
  have hE2 := extNew (w.alloc (.cells #[.pointer (some ⟨g, 0, none⟩)] 39)) (.cells #[.int .i64 most] 3)
  have hE3 := extNew ((w.alloc (.cells #[.pointer (some ⟨g, 0, none⟩)] 39)).alloc (.cells #[.int .i64 most] 3)) (.cells #[.slice none 0 0] 58)
  have hE := (hE1.trans hE2).trans hE3
  have hP := h.ext hE
  have hB0 : (((w.alloc (.cells #[.pointer (some ⟨g, 0, none⟩)] 39)).alloc (.cells #[.int .i64 most] 3)).alloc (.cells #[.slice none 0 0] 58)).cell? ⟨w.heap.size, 0, none⟩ = some (.pointer (some ⟨g, 0, none⟩)) := ((hE2.trans hE3).cell (by simp)).trans (cellNew w _ _ _ 0)
  have hB1 : (((w.alloc (.cells #[.pointer (some ⟨g, 0, none⟩)] 39)).alloc (.cells #[.int .i64 most] 3)).alloc (.cells #[.slice none 0 0] 58)).cell? ⟨w.heap.size + 1, 0, none⟩ = some (.int .i64 most) := by
    have h1 := cellNew (w.alloc (.cells #[.pointer (some ⟨g, 0, none⟩)] 39)) #[.int .i64 most] 3 (0, 0) 0
    rw [World.size_alloc] at h1
    exact (hE3.cell (by simp)).trans h1
  have ht := Whole.new ((w.alloc (.cells #[.pointer (some ⟨g, 0, none⟩)] 39)).alloc (.cells #[.int .i64 most] 3)) 58 #[.slice none 0 0]
  rw [World.size_alloc, World.size_alloc] at ht
  by_cases he : e = 0
  · subst he
    have hlen := Num.textR_len b q 0 most
    have C := read_toldRow (q' := (Num.textR b q 0 most).2.1) (er := (Num.textR b q 0 most).2.2) (l := (Num.textR b q 0 most).1) entered_ctext1 hP (t := w.heap.size + 1 + 1) (by omega) (ctext1_any hm hP hB0 hB1 ht (by omega) (by omega))
    generalize Num.textR b q 0 most = res at *
    obtain ⟨l, q', er⟩ := res
    dsimp only at *
    have HE := hide hE
    clear hP hB0 hB1 ht hE1 hE2 hE3 hE h
    go_enter Try.func30, Try.ntmps30
    go_wp2_with fail
    refine C.mono ?_
    rintro e' w2 ⟨rfl, A2, n2, c2, hP2, hW2, hc2, hR2, hM2⟩
    have t0 : w2.cell? ⟨w.heap.size + 1 + 1, 0, none⟩ = some (.slice A2 n2 c2) := hW2.cell 0
    have hb2 := hR2.bytes
    have hn2 := hR2.1
    have hM : Mod w w2 g none := (Mod.ofExt HE.out).trans hM2 (.inr ⟨_, rfl, by omega⟩)
    have hcv := conv_row (w := w2) c2 hb2 (fun hA => by
      rcases hb2.2 with h0 | ⟨_, _, h0, _⟩
      · exact h0
      · rw [hA] at h0; cases h0)
    clear hR2 hb2
    go_wp2
    go_ret
    exact ⟨rfl, hP2, hM⟩
  · have HN := hide (Num.textR_stuck (b := b) (q := q) he most)
    have C := read_stuck (K := 51) (cap := #[.pointer (some ⟨w.heap.size, 0, none⟩), .pointer (some ⟨w.heap.size + 1, 0, none⟩), .pointer (some ⟨w.heap.size + 1 + 1, 0, none⟩)]) hP he
    have t0 := ht.cell 0
    have t1 := ht.frozen 0
    have HP := hide hP
    have HE := hide hE
    have HT := hide ht
    clear hP hB0 hB1 ht hE1 hE2 hE3 hE h he
    go_enter Try.func30, Try.ntmps30
    go_wp2_with fail
    refine C.mono ?_
    rintro e' w2 ⟨rfl, rfl⟩
    have hcv := conv_row (w := ((w.alloc (.cells #[.pointer (some ⟨g, 0, none⟩)] 39)).alloc (.cells #[.int .i64 most] 3)).alloc (.cells #[.slice none 0 0] 58)) (A := none) (n := 0) (l := []) 0 (Bytes.none _ 0 _) (fun _ => rfl)
    go_wp2
    go_ret
    rw [HN.out]
    exact ⟨rfl, HP.out, Mod.ofExt HE.out⟩

/-- Of no cursor: nothing. -/
theorem pcText_nil (w : World) (most : Int) : Calls Try.prog 30 #[.pointer none, .int .i64 most] w fun e' w' => e' = .returned (.string ⟨#[]⟩) ∧ Ext w w' := by
  have hE1 := extNew w (.cells #[.pointer none] 39)
  have hE2 := extNew (w.alloc (.cells #[.pointer none] 39)) (.cells #[.int .i64 most] 3)
  have HE := hide ((hE1.trans hE2).trans (extNew ((w.alloc (.cells #[.pointer none] 39)).alloc (.cells #[.int .i64 most] 3)) (.cells #[.slice none 0 0] 58)))
  have ht := Whole.new ((w.alloc (.cells #[.pointer none] 39)).alloc (.cells #[.int .i64 most] 3)) 58 #[.slice none 0 0]
  rw [World.size_alloc, World.size_alloc] at ht
  have t0 := ht.cell 0
  have t1 := ht.frozen 0
  have HT := hide ht
  have C := read_nil (w := ((w.alloc (.cells #[.pointer none] 39)).alloc (.cells #[.int .i64 most] 3)).alloc (.cells #[.slice none 0 0] 58)) (K := 51) (cap := #[.pointer (some ⟨w.heap.size, 0, none⟩), .pointer (some ⟨w.heap.size + 1, 0, none⟩), .pointer (some ⟨w.heap.size + 1 + 1, 0, none⟩)])
  clear hE1 hE2 ht
  go_enter Try.func30, Try.ntmps30
  go_wp2_with fail
  refine C.mono ?_
  rintro e' w2 ⟨rfl, rfl⟩
  have hcv := conv_row (w := ((w.alloc (.cells #[.pointer none] 39)).alloc (.cells #[.int .i64 most] 3)).alloc (.cells #[.slice none 0 0] 58)) (A := none) (n := 0) (l := []) 0 (Bytes.none _ 0 _) (fun _ => rfl)
  go_wp2
  go_ret
  exact ⟨rfl, HE.out⟩

theorem Num.byte_fixed (b : List UInt8) (q : Nat) (e : Int) : Num.byteR b q e = Num.fixedR b q e 1 := by
  unfold Num.byteR Num.fixedR
  by_cases he : e = 0
  · subst he
    rw [if_pos rfl, if_neg (by omega)]
    have hlen : (Num.takeR b q 0 1).1.length ≤ 1 := by
      unfold Num.takeR
      rw [if_pos rfl, if_neg (by omega)]
      split
      · simp
      · simp; omega
    generalize Num.takeR b q 0 1 = t at *
    obtain ⟨l, r⟩ := t
    rcases l with _ | ⟨c, l⟩
    · rfl
    · obtain rfl : l = [] := List.eq_nil_of_length_eq_zero (by simpa using hlen)
      simp [Num.low]
  · rw [if_neg he, Num.takeR_stuck he]
    rfl
theorem Num.byteR_lt (b : List UInt8) (q : Nat) (e : Int) : (Num.byteR b q e).1 < 256 := UInt8.toNat_lt _
set_option maxHeartbeats 1000000 in
theorem pcByte_any {w : World} {g r q : Nat} {b : List UInt8} {e : Int} (h : PC w g r b q e) :
    Calls Try.prog 27 #[.pointer (some ⟨g, 0, none⟩)] w fun e' w' => e' = .returned (.int .u8 (((Num.byteR b q e).1 : Nat) : Int)) ∧ PcTo w g r b (Num.byteR b q e).2.1 (Num.byteR b q e).2.2 w' := by
  have C := pcFixed_any h 1
  have hlt := Num.byteR_lt b q e
  rw [← Num.byte_fixed] at C
  generalize Num.byteR b q e = res at *
  obtain ⟨x, q', er⟩ := res
  dsimp only at *
  go_enter Try.func27, Try.ntmps27
  go_wp2_with fail
  refine C.mono ?_
  rintro e' w2 ⟨rfl, hT⟩
  go_wp2
  go_ret
  exact ⟨rfl, hT⟩
theorem pcByte_nil (w : World) : Calls Try.prog 27 #[.pointer none] w fun e' w' => e' = .returned (.int .u8 0) ∧ Ext w w' := by
  have C := pcFixed_nil w 1
  go_enter Try.func27, Try.ntmps27
  go_wp2_with fail
  refine C.mono ?_
  rintro e' w2 ⟨rfl, hT⟩
  go_wp2
  go_ret
  exact ⟨rfl, hT⟩
end Go.Proofs.Ytgnmdpklkmlpfaa
