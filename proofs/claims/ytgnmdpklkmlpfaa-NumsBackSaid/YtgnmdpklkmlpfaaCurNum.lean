/- The program's cursor: Num, whatever its state. -/
import Derived.Test.YtgnmdpklkmlpfaaCurGoes
namespace Go.Proofs.Ytgnmdpklkmlpfaa
open Go.RowKit

/-- Behind a call of the program's cursor. -/
def PcTo (w : World) (g r : Nat) (b : List UInt8) (q : Nat) (e : Int) (w' : World) : Prop := PC w' g r b q e ∧ Mod w w' g none
theorem PcTo.refl {w : World} {g r q : Nat} {b : List UInt8} {e : Int} (h : PC w g r b q e) : PcTo w g r b q e w := ⟨h, Mod.refl _ _ _⟩
theorem PcTo.ext {w w' : World} {g r q : Nat} {b : List UInt8} {e : Int} (h : PC w g r b q e) (hE : Ext w w') : PcTo w g r b q e w' := ⟨h.ext hE, Mod.ofExt hE⟩
theorem PcTo.then {w w' w'' : World} {g r q' q'' : Nat} {b : List UInt8} {e' e'' : Int} (h : PcTo w g r b q' e' w') (k : PcTo w' g r b q'' e'' w'') : PcTo w g r b q'' e'' w'' := ⟨k.1, h.2.trans k.2 (.inl rfl)⟩
/-- The result stands in a cell. -/
theorem results_cell_one {fn : Func} {p : Tmp} {ty : TypeId} (h : fn.results = #[.cell p ty]) (tmps : Array Value) {w : World} {t : Nat} {v : Value} (hp : tmps.getD p undef = .pointer (some ⟨t, 0, none⟩)) (hv : ∀ W : World, W.cell? ⟨t, 0, none⟩ = some v → (loadVar ty ⟨t, 0, none⟩).run Try.prog W = .ok v W)
    (hc : w.cell? ⟨t, 0, none⟩ = some v) : (results fn tmps).run Try.prog w = .ok v w := by
  have hp' : tmps[p]?.getD undef = .pointer (some ⟨t, 0, none⟩) := by simpa using hp
  simp [results, h, hp', asAddr, hv w hc]

theorem load_u64 (t : Nat) (v : Value) (W : World) (h : W.cell? ⟨t, 0, none⟩ = some v) : (loadVar 22 ⟨t, 0, none⟩).run Try.prog W = .ok v W := by
  go_simp
theorem load_int (t : Nat) (v : Value) (W : World) (h : W.cell? ⟨t, 0, none⟩ = some v) : (loadVar 3 ⟨t, 0, none⟩).run Try.prog W = .ok v W := by
  go_simp
/-- What is told is stored once more, at the end. -/
theorem PC.atEnd {w : World} {g r t q : Nat} {b : List UInt8} {e : Int} (h : PC w g r b q e) (htg : t ≠ g) (htr : t ≠ r) (v : Value) : PC (w.setCell ⟨t, 0, none⟩ v) g r b q e :=
  h.told (Mod.ofOwn (grown_setCell w t 0 v)) ((grown_setCell w t 0 v).block g h.lt (by simpa using fun e => htg e.symm)) htr
theorem Mod.atEnd {w w1 w2 : World} {g t : Nat} (hE : Ext w w1) (hM : Mod w1 w2 g (some t)) (ht : w.heap.size ≤ t) (v : Value) : Mod w (w2.setCell ⟨t, 0, none⟩ v) g none :=
  (Mod.ofExt hE).trans (hM.trans (Mod.ofOwn (grown_setCell w2 t 0 v)) (.inl rfl)) (.inr ⟨t, rfl, ht⟩)

theorem read_told {w : World} {g r t q q' K : Nat} {T : TypeId} {b : List UInt8} {v : Value} {er : Int} {cap : Array Value} (hK : Entered K) (h : PC w g r b q 0) (htg : t ≠ g)
    (hC : Calls Try.prog K cap w fun e' w' => e' = .returned (.int .i64 er) ∧ Told w g r t T b v q' w') :
    Calls Try.prog 37 #[.pointer (some ⟨g, 0, none⟩), .func (.func K) #[] cap] w fun e' w' => e' = .returned (.tuple #[]) ∧ PC w' g r b q' er ∧ Whole w' t T #[v] ∧ Mod w w' g (some t) := by
  refine (read_any (R := fun er' w' => er' = er ∧ Told w g r t T b v q' w') hK h (hC.mono ?_)).mono ?_
  · rintro e' w' ⟨rfl, hT⟩
    exact ⟨er, q', rfl, hT.1, rfl, hT⟩
  · rintro e' w' ⟨rfl, er', _, w2, _, ⟨rfl, hT⟩, rfl⟩
    exact ⟨rfl, hT.1.setErr, hT.2.1.far htg 2 _, hT.2.2.trans (Mod.ofRow (grown_setCell w2 g 2 _)) (.inl rfl)⟩

theorem entered_num1 : Entered 39 := entered_of Try.func39 (by kernel_rfl) rfl
set_option maxHeartbeats 2000000 in
set_option maxRecDepth 100000 in
theorem pcNum_any {w : World} {g r q : Nat} {b : List UInt8} {e : Int} (h : PC w g r b q e) :
    Calls Try.prog 25 #[.pointer (some ⟨g, 0, none⟩)] w fun e' w' => e' = .returned (.int .u64 (((Num.numR b q e).1 : Nat) : Int)) ∧ PcTo w g r b (Num.numR b q e).2.1 (Num.numR b q e).2.2 w' := by
  have hglt := h.lt
  have hrlt := h.rlt
  have hE1 := extNew w (.cells #[.pointer (some ⟨g, 0, none⟩)] 39)
  have hE2 := extNew (w.alloc (.cells #[.pointer (some ⟨g, 0, none⟩)] 39)) (.cells #[.int .u64 0] 22)
  have hE := hE1.trans hE2
  have hP := h.ext hE
  have hB0 : ((w.alloc (.cells #[.pointer (some ⟨g, 0, none⟩)] 39)).alloc (.cells #[.int .u64 0] 22)).cell? ⟨w.heap.size, 0, none⟩ = some (.pointer (some ⟨g, 0, none⟩)) := (hE2.cell (by simp)).trans (cellNew w _ _ _ 0)
  have ht := Whole.new (w.alloc (.cells #[.pointer (some ⟨g, 0, none⟩)] 39)) 22 #[.int .u64 0]
  rw [World.size_alloc] at ht
  by_cases he : e = 0
  · subst he
    have C := read_told (q' := (Num.numR b q 0).2.1) (er := (Num.numR b q 0).2.2) (v := .int .u64 (((Num.numR b q 0).1 : Nat) : Int)) entered_num1 hP (t := w.heap.size + 1) (by omega) (num1_any hP hB0 ht (by omega) (by omega))
    generalize Num.numR b q 0 = res at *
    obtain ⟨x, q', er⟩ := res
    dsimp only at *
    have HE := hide hE
    clear hP hB0 ht hE1 hE2 hE h
    go_enter Try.func25, Try.ntmps25
    go_wp2_with fail
    refine C.mono ?_
    rintro e' w2 ⟨rfl, hP2, hW2, hM2⟩
    have t0 : w2.cell? ⟨w.heap.size + 1, 0, none⟩ = some (.int .u64 (x : Int)) := hW2.cell 0
    have t1 := hW2.frozen 0
    go_wp2
    refine bodyPost_ret (results_cell_one rfl _ rfl (load_u64 _ _) ((hW2.set 0 _).cell 0)) rfl ⟨rfl, hP2.atEnd (by omega) (by omega) _, ?_⟩
    exact Mod.atEnd HE.out hM2 (by omega) _
  · have HN := hide (show Num.numR b q e = (0, q, e) by unfold Num.numR; rw [if_neg he])
    have C := read_stuck (K := 39) (cap := #[.pointer (some ⟨w.heap.size, 0, none⟩), .pointer (some ⟨w.heap.size + 1, 0, none⟩)]) hP he
    have t0 := ht.cell 0
    have t1 := ht.frozen 0
    have HP := hide hP
    have HE := hide hE
    have HT := hide ht
    clear hP hB0 ht hE1 hE2 hE h he
    go_enter Try.func25, Try.ntmps25
    go_wp2_with fail
    refine C.mono ?_
    rintro e' w2 ⟨rfl, rfl⟩
    go_wp2
    rw [HN.out]
    refine bodyPost_ret (results_cell_one rfl _ rfl (load_u64 _ _) (HT.out.cell 0)) rfl ⟨rfl, HP.out, Mod.ofExt HE.out⟩

/-- Of no cursor: nothing. -/
theorem pcNum_nil (w : World) : Calls Try.prog 25 #[.pointer none] w fun e' w' => e' = .returned (.int .u64 0) ∧ Ext w w' := by
  have hE1 := extNew w (.cells #[.pointer none] 39)
  have hE2 := extNew (w.alloc (.cells #[.pointer none] 39)) (.cells #[.int .u64 0] 22)
  have HE := hide (hE1.trans hE2)
  have ht := Whole.new (w.alloc (.cells #[.pointer none] 39)) 22 #[.int .u64 0]
  rw [World.size_alloc] at ht
  have t0 := ht.cell 0
  have t1 := ht.frozen 0
  have HT := hide ht
  have C := read_nil (w := (w.alloc (.cells #[.pointer none] 39)).alloc (.cells #[.int .u64 0] 22)) (K := 39) (cap := #[.pointer (some ⟨w.heap.size, 0, none⟩), .pointer (some ⟨w.heap.size + 1, 0, none⟩)])
  clear hE1 hE2 ht
  go_enter Try.func25, Try.ntmps25
  go_wp2_with fail
  refine C.mono ?_
  rintro e' w2 ⟨rfl, rfl⟩
  go_wp2
  exact bodyPost_ret (results_cell_one rfl _ rfl (load_u64 _ _) (HT.out.cell 0)) rfl ⟨rfl, HE.out⟩
end Go.Proofs.Ytgnmdpklkmlpfaa
