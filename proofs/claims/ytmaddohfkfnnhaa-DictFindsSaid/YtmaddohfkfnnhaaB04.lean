/- The program's cursor: Int, Byte, Fixed, Take, Text, whatever its state. A slice of numbers that came in. Lists of numbers of the call's own. A value of one cell stored into a block that is known whole, at the operation. The program's reader of chapter 16: next, counts, last. The program's bucket of chapter 16: follow, first, further. -/
import Derived.Test.YtmaddohfkfnnhaaB01
import Derived.Test.YtmaddohfkfnnhaaB02
import Derived.Test.YtmaddohfkfnnhaaB03
import Derived.Laws.OwnMore
import Derived.Maps.AppendAt
import Derived.Laws.Concat
namespace Go.Proofs.Ytmaddohfkfnnhaa
open Go.RowKit

theorem Num.intR_stuck {b : List UInt8} {q : Nat} {e : Int} (he : e ≠ 0) (most : Int) : Num.intR b q e most = (0, q, e) := by
  have hN : Num.numR b q e = (0, q, e) := by unfold Num.numR; rw [if_neg he]
  unfold Num.intR
  rw [hN, if_neg he]
theorem Num.fixedR_stuck {b : List UInt8} {q : Nat} {e : Int} (he : e ≠ 0) (n : Int) : Num.fixedR b q e n = (0, q, e) := by unfold Num.fixedR; rw [if_neg he]
theorem Num.takeR_stuck {b : List UInt8} {q : Nat} {e : Int} (he : e ≠ 0) (n : Int) : Num.takeR b q e n = ([], q, e) := by unfold Num.takeR; rw [if_neg he]
theorem Num.textR_stuck {b : List UInt8} {q : Nat} {e : Int} (he : e ≠ 0) (most : Int) : Num.textR b q e most = ([], q, e) := by
  unfold Num.textR
  rw [Num.intR_stuck he, if_neg he]
theorem Num.takeR_len (b : List UInt8) (q : Nat) (e n : Int) : (Num.takeR b q e n).1.length ≤ b.length := by
  unfold Num.takeR
  split
  · split
    · simp
    · split
      · simp
      · simp; omega
  · simp
theorem Num.textR_len (b : List UInt8) (q : Nat) (e most : Int) : (Num.textR b q e most).1.length ≤ b.length := by
  unfold Num.textR
  split
  · split
    · simp
    · exact Num.takeR_len _ _ _ _
  · simp

theorem read_toldRow {w : World} {g r t q q' K : Nat} {b l : List UInt8} {er : Int} {cap : Array Value} (hK : Entered K) (h : PC w g r b q 0) (htg : t ≠ g)
    (hC : Calls Try.prog K cap w fun e' w' => e' = .returned (.int .i64 er) ∧ ToldRow w g r t b l q' w') :
    Calls Try.prog 61 #[.pointer (some ⟨g, 0, none⟩), .func (.func K) #[] cap] w fun e' w' => e' = .returned (.tuple #[]) ∧ ∃ A n c, PC w' g r b q' er ∧ Whole w' t 90 #[.slice A n c] ∧ n ≤ c ∧ RowIn w' g r A n l ∧ Mod w w' g (some t) := by
  refine (read_any (R := fun er' w' => er' = er ∧ ToldRow w g r t b l q' w') hK h (hC.mono ?_)).mono ?_
  · rintro e' w' ⟨rfl, hT⟩
    obtain ⟨A, n, c, hP, hr⟩ := id hT
    exact ⟨er, q', rfl, hP, rfl, hT⟩
  · rintro e' w' ⟨rfl, er', _, w2, _, ⟨rfl, A, n, c, hP, hW, hc, hR, hM⟩, rfl⟩
    have hG := Mod.ofRow (ob := none) (grown_setCell w2 g 2 (.int .i64 er'))
    exact ⟨rfl, A, n, c, hP.setErr, hW.far htg 2 _, hc, hR.mod hG hP.rlt (by simp), hM.trans (Mod.ofRow (grown_setCell w2 g 2 _)) (.inl rfl)⟩

set_option maxHeartbeats 2000000 in
set_option maxRecDepth 100000 in
theorem pcInt_any {w : World} {g r q : Nat} {b : List UInt8} {e : Int} (h : PC w g r b q e) (most : Int) (hm : most ≤ 9223372036854775807) :
    Calls Try.prog 52 #[.pointer (some ⟨g, 0, none⟩), .int .i64 most] w fun e' w' => e' = .returned (.int .i64 (((Num.intR b q e most).1 : Nat) : Int)) ∧ PcTo w g r b (Num.intR b q e most).2.1 (Num.intR b q e most).2.2 w' := by
  have hglt := h.lt
  have hrlt := h.rlt
  have hbl := h.bounds.2
  have hE1 := extNew w (.cells #[.pointer (some ⟨g, 0, none⟩)] 80)
  have hE2 := extNew (w.alloc (.cells #[.pointer (some ⟨g, 0, none⟩)] 80)) (.cells #[.int .i64 most] 3)
  have hE3 := extNew ((w.alloc (.cells #[.pointer (some ⟨g, 0, none⟩)] 80)).alloc (.cells #[.int .i64 most] 3)) (.cells #[.int .i64 0] 3)
  have hE := (hE1.trans hE2).trans hE3
  have hP := h.ext hE
  have hB0 : (((w.alloc (.cells #[.pointer (some ⟨g, 0, none⟩)] 80)).alloc (.cells #[.int .i64 most] 3)).alloc (.cells #[.int .i64 0] 3)).cell? ⟨w.heap.size, 0, none⟩ = some (.pointer (some ⟨g, 0, none⟩)) := ((hE2.trans hE3).cell (by simp)).trans (cellNew w _ _ _ 0)
  have hB1 : (((w.alloc (.cells #[.pointer (some ⟨g, 0, none⟩)] 80)).alloc (.cells #[.int .i64 most] 3)).alloc (.cells #[.int .i64 0] 3)).cell? ⟨w.heap.size + 1, 0, none⟩ = some (.int .i64 most) := by
    have h1 := cellNew (w.alloc (.cells #[.pointer (some ⟨g, 0, none⟩)] 80)) #[.int .i64 most] 3 (0, 0) 0
    rw [World.size_alloc] at h1
    exact (hE3.cell (by simp)).trans h1
  have ht := Whole.new ((w.alloc (.cells #[.pointer (some ⟨g, 0, none⟩)] 80)).alloc (.cells #[.int .i64 most] 3)) 3 #[.int .i64 0]
  rw [World.size_alloc, World.size_alloc] at ht
  by_cases he : e = 0
  · subst he
    have C := read_told (q' := (Num.intR b q 0 most).2.1) (er := (Num.intR b q 0 most).2.2) (v := .int .i64 (((Num.intR b q 0 most).1 : Nat) : Int)) entered_int1 hP (t := w.heap.size + 1 + 1) (by omega) (int1_any hm hP hB0 hB1 ht (by omega) (by omega))
    generalize Num.intR b q 0 most = res at *
    obtain ⟨x, q', er⟩ := res
    dsimp only at *
    have HE := hide hE
    clear hP hB0 hB1 ht hE1 hE2 hE3 hE h
    go_enter Try.func52, Try.ntmps52
    go_wp2_with fail
    refine C.mono ?_
    rintro e' w2 ⟨rfl, hP2, hW2, hM2⟩
    have t0 : w2.cell? ⟨w.heap.size + 1 + 1, 0, none⟩ = some (.int .i64 (x : Int)) := hW2.cell 0
    have t1 := hW2.frozen 0
    go_wp2
    refine bodyPost_ret (results_cell_one rfl _ rfl (load_int _ _) ((hW2.set 0 _).cell 0)) rfl ⟨rfl, hP2.atEnd (by omega) (by omega) _, ?_⟩
    exact Mod.atEnd HE.out hM2 (by omega) _
  · have HN := hide (Num.intR_stuck (b := b) (q := q) he most)
    have C := read_stuck (K := 62) (cap := #[.pointer (some ⟨w.heap.size, 0, none⟩), .pointer (some ⟨w.heap.size + 1, 0, none⟩), .pointer (some ⟨w.heap.size + 1 + 1, 0, none⟩)]) hP he
    have t0 := ht.cell 0
    have t1 := ht.frozen 0
    have HP := hide hP
    have HE := hide hE
    have HT := hide ht
    clear hP hB0 hB1 ht hE1 hE2 hE3 hE h he
    go_enter Try.func52, Try.ntmps52
    go_wp2_with fail
    refine C.mono ?_
    rintro e' w2 ⟨rfl, rfl⟩
    go_wp2
    rw [HN.out]
    refine bodyPost_ret (results_cell_one rfl _ rfl (load_int _ _) (HT.out.cell 0)) rfl ⟨rfl, HP.out, Mod.ofExt HE.out⟩

/-- Of no cursor: nothing. -/
theorem pcInt_nil (w : World) (most : Int) : Calls Try.prog 52 #[.pointer none, .int .i64 most] w fun e' w' => e' = .returned (.int .i64 0) ∧ Ext w w' := by
  have hE1 := extNew w (.cells #[.pointer none] 80)
  have hE2 := extNew (w.alloc (.cells #[.pointer none] 80)) (.cells #[.int .i64 most] 3)
  have HE := hide ((hE1.trans hE2).trans (extNew ((w.alloc (.cells #[.pointer none] 80)).alloc (.cells #[.int .i64 most] 3)) (.cells #[.int .i64 0] 3)))
  have ht := Whole.new ((w.alloc (.cells #[.pointer none] 80)).alloc (.cells #[.int .i64 most] 3)) 3 #[.int .i64 0]
  rw [World.size_alloc, World.size_alloc] at ht
  have t0 := ht.cell 0
  have t1 := ht.frozen 0
  have HT := hide ht
  have C := read_nil (w := ((w.alloc (.cells #[.pointer none] 80)).alloc (.cells #[.int .i64 most] 3)).alloc (.cells #[.int .i64 0] 3)) (K := 62) (cap := #[.pointer (some ⟨w.heap.size, 0, none⟩), .pointer (some ⟨w.heap.size + 1, 0, none⟩), .pointer (some ⟨w.heap.size + 1 + 1, 0, none⟩)])
  clear hE1 hE2 ht
  go_enter Try.func52, Try.ntmps52
  go_wp2_with fail
  refine C.mono ?_
  rintro e' w2 ⟨rfl, rfl⟩
  go_wp2
  exact bodyPost_ret (results_cell_one rfl _ rfl (load_int _ _) (HT.out.cell 0)) rfl ⟨rfl, HE.out⟩

set_option maxHeartbeats 2000000 in
set_option maxRecDepth 100000 in
theorem pcText_any {w : World} {g r q : Nat} {b : List UInt8} {e : Int} (h : PC w g r b q e) (most : Int) (hm : most ≤ 9223372036854775807) :
    Calls Try.prog 65 #[.pointer (some ⟨g, 0, none⟩), .int .i64 most] w fun e' w' => e' = .returned (.string ⟨(Num.textR b q e most).1.toArray⟩) ∧ PcTo w g r b (Num.textR b q e most).2.1 (Num.textR b q e most).2.2 w' := by
  have hglt := h.lt
  have hrlt := h.rlt
  have hbl := h.bounds.2
  have hE1 := extNew w (.cells #[.pointer (some ⟨g, 0, none⟩)] 80)
  have hE2 := extNew (w.alloc (.cells #[.pointer (some ⟨g, 0, none⟩)] 80)) (.cells #[.int .i64 most] 3)
  have hE3 := extNew ((w.alloc (.cells #[.pointer (some ⟨g, 0, none⟩)] 80)).alloc (.cells #[.int .i64 most] 3)) (.cells #[.slice none 0 0] 90)
  have hE := (hE1.trans hE2).trans hE3
  have hP := h.ext hE
  have hB0 : (((w.alloc (.cells #[.pointer (some ⟨g, 0, none⟩)] 80)).alloc (.cells #[.int .i64 most] 3)).alloc (.cells #[.slice none 0 0] 90)).cell? ⟨w.heap.size, 0, none⟩ = some (.pointer (some ⟨g, 0, none⟩)) := ((hE2.trans hE3).cell (by simp)).trans (cellNew w _ _ _ 0)
  have hB1 : (((w.alloc (.cells #[.pointer (some ⟨g, 0, none⟩)] 80)).alloc (.cells #[.int .i64 most] 3)).alloc (.cells #[.slice none 0 0] 90)).cell? ⟨w.heap.size + 1, 0, none⟩ = some (.int .i64 most) := by
    have h1 := cellNew (w.alloc (.cells #[.pointer (some ⟨g, 0, none⟩)] 80)) #[.int .i64 most] 3 (0, 0) 0
    rw [World.size_alloc] at h1
    exact (hE3.cell (by simp)).trans h1
  have ht := Whole.new ((w.alloc (.cells #[.pointer (some ⟨g, 0, none⟩)] 80)).alloc (.cells #[.int .i64 most] 3)) 90 #[.slice none 0 0]
  rw [World.size_alloc, World.size_alloc] at ht
  by_cases he : e = 0
  · subst he
    have hlen := Num.textR_len b q 0 most
    have C := read_toldRow (q' := (Num.textR b q 0 most).2.1) (er := (Num.textR b q 0 most).2.2) (l := (Num.textR b q 0 most).1) entered_ctext1 hP (t := w.heap.size + 1 + 1) (by omega) (ctext1_any hm hP hB0 hB1 ht (by omega) (by omega))
    generalize Num.textR b q 0 most = res at *
    obtain ⟨l, q', er⟩ := res
    dsimp only at *
    have HE := hide hE
    clear hP hB0 hB1 ht hE1 hE2 hE3 hE h
    go_enter Try.func65, Try.ntmps65
    go_wp2_with fail
    refine C.mono ?_
    rintro e' w2 ⟨rfl, A2, n2, c2, hP2, hW2, hc2, hR2, hM2⟩
    have t0 : w2.cell? ⟨w.heap.size + 1 + 1, 0, none⟩ = some (.slice A2 n2 c2) := hW2.cell 0
    have hb2 := hR2.bytes
    have hn2 := hR2.1
    have hM : Mod w w2 g none := (Mod.ofExt HE.out).trans hM2 (.inr ⟨_, rfl, by omega⟩)
    have hcv := conv_row (w := w2) c2 hb2 (fun hA => by
      rcases hb2.2 with h0 | ⟨_, _, h0, _⟩
      · exact h0
      · rw [hA] at h0; cases h0)
    clear hR2 hb2
    go_wp2
    go_ret
    exact ⟨rfl, hP2, hM⟩
  · have HN := hide (Num.textR_stuck (b := b) (q := q) he most)
    have C := read_stuck (K := 73) (cap := #[.pointer (some ⟨w.heap.size, 0, none⟩), .pointer (some ⟨w.heap.size + 1, 0, none⟩), .pointer (some ⟨w.heap.size + 1 + 1, 0, none⟩)]) hP he
    have t0 := ht.cell 0
    have t1 := ht.frozen 0
    have HP := hide hP
    have HE := hide hE
    have HT := hide ht
    clear hP hB0 hB1 ht hE1 hE2 hE3 hE h he
    go_enter Try.func65, Try.ntmps65
    go_wp2_with fail
    refine C.mono ?_
    rintro e' w2 ⟨rfl, rfl⟩
    have hcv := conv_row (w := ((w.alloc (.cells #[.pointer (some ⟨g, 0, none⟩)] 80)).alloc (.cells #[.int .i64 most] 3)).alloc (.cells #[.slice none 0 0] 90)) (A := none) (n := 0) (l := []) 0 (Bytes.none _ 0 _) (fun _ => rfl)
    go_wp2
    go_ret
    rw [HN.out]
    exact ⟨rfl, HP.out, Mod.ofExt HE.out⟩

/-- Of no cursor: nothing. -/
theorem pcText_nil (w : World) (most : Int) : Calls Try.prog 65 #[.pointer none, .int .i64 most] w fun e' w' => e' = .returned (.string ⟨#[]⟩) ∧ Ext w w' := by
  have hE1 := extNew w (.cells #[.pointer none] 80)
  have hE2 := extNew (w.alloc (.cells #[.pointer none] 80)) (.cells #[.int .i64 most] 3)
  have HE := hide ((hE1.trans hE2).trans (extNew ((w.alloc (.cells #[.pointer none] 80)).alloc (.cells #[.int .i64 most] 3)) (.cells #[.slice none 0 0] 90)))
  have ht := Whole.new ((w.alloc (.cells #[.pointer none] 80)).alloc (.cells #[.int .i64 most] 3)) 90 #[.slice none 0 0]
  rw [World.size_alloc, World.size_alloc] at ht
  have t0 := ht.cell 0
  have t1 := ht.frozen 0
  have HT := hide ht
  have C := read_nil (w := ((w.alloc (.cells #[.pointer none] 80)).alloc (.cells #[.int .i64 most] 3)).alloc (.cells #[.slice none 0 0] 90)) (K := 73) (cap := #[.pointer (some ⟨w.heap.size, 0, none⟩), .pointer (some ⟨w.heap.size + 1, 0, none⟩), .pointer (some ⟨w.heap.size + 1 + 1, 0, none⟩)])
  clear hE1 hE2 ht
  go_enter Try.func65, Try.ntmps65
  go_wp2_with fail
  refine C.mono ?_
  rintro e' w2 ⟨rfl, rfl⟩
  have hcv := conv_row (w := ((w.alloc (.cells #[.pointer none] 80)).alloc (.cells #[.int .i64 most] 3)).alloc (.cells #[.slice none 0 0] 90)) (A := none) (n := 0) (l := []) 0 (Bytes.none _ 0 _) (fun _ => rfl)
  go_wp2
  go_ret
  exact ⟨rfl, HE.out⟩

theorem Num.byte_fixed (b : List UInt8) (q : Nat) (e : Int) : Num.byteR b q e = Num.fixedR b q e 1 := by
  unfold Num.byteR Num.fixedR
  by_cases he : e = 0
  · subst he
    rw [if_pos rfl, if_neg (by omega)]
    have hlen : (Num.takeR b q 0 1).1.length ≤ 1 := by
      unfold Num.takeR
      rw [if_pos rfl, if_neg (by omega)]
      split
      · simp
      · simp; omega
    generalize Num.takeR b q 0 1 = t at *
    obtain ⟨l, r⟩ := t
    rcases l with _ | ⟨c, l⟩
    · rfl
    · obtain rfl : l = [] := List.eq_nil_of_length_eq_zero (by simpa using hlen)
      simp [Num.low]
  · rw [if_neg he, Num.takeR_stuck he]
    rfl
theorem Num.byteR_lt (b : List UInt8) (q : Nat) (e : Int) : (Num.byteR b q e).1 < 256 := UInt8.toNat_lt _
end Go.Proofs.Ytmaddohfkfnnhaa

namespace Go.Proofs.Ytmaddohfkfnnhaa
open Go.RowKit

/-- A slice of numbers that came in. -/
def IntsAt (w : World) (B : Nat) (A : Option Addr) (n : Nat) (L : List Int) : Prop :=
  L.length = n ∧ (n = 0 ∨ ∃ b off, A = some ⟨b, off, none⟩ ∧ b < B ∧ ∀ i, i < n → w.cell? ⟨b, off + i, none⟩ = some (.int .i64 (L.getD i 0)))
theorem IntsAt.below {w w' : World} {B C : Nat} {A : Option Addr} {n : Nat} {L : List Int} (h : IntsAt w B A n L) (hb : Below C w w') (hC : B ≤ C) : IntsAt w' B A n L := by
  refine ⟨h.1, ?_⟩
  rcases h.2 with h0 | ⟨b, off, hA, hB, hc⟩
  · exact .inl h0
  · exact .inr ⟨b, off, hA, hB, fun i hi => by rw [hb.cell (p := ⟨b, off + i, none⟩) (Nat.lt_of_lt_of_le hB hC)]; exact hc i hi⟩
theorem IntsAt.later {w w' : World} {A : Option Addr} {n : Nat} {L : List Int} (h : IntsAt w w.heap.size A n L) (hE : Ext w w') : IntsAt w' w'.heap.size A n L := by
  refine ⟨h.1, ?_⟩
  rcases h.2 with h0 | ⟨b, off, hA, hB, hc⟩
  · exact .inl h0
  · exact .inr ⟨b, off, hA, Nat.lt_of_lt_of_le hB hE.le, fun i hi => by rw [hE.cell hB]; exact hc i hi⟩
theorem intsNew (w : World) (L : List Int) (cs : Array Value) (t : TypeId) (fr : Nat × Nat) (h : cs = (L.map (Value.int .i64)).toArray) (n : Nat) (hn : L.length = n) :
    IntsAt (w.alloc (.cells cs t fr)) (w.alloc (.cells cs t fr)).heap.size (some ⟨w.heap.size, 0, none⟩) n L := by
  subst h
  subst hn
  refine ⟨rfl, .inr ⟨w.heap.size, 0, rfl, by simp, fun i hi => ?_⟩⟩
  rw [Nat.zero_add, World.cell?_alloc_mark]
  simp [hi]
end Go.Proofs.Ytmaddohfkfnnhaa

namespace Go.Proofs.Ytmaddohfkfnnhaa
open Go.RowKit

/-- v is nil, or lies in a block of the call's own, and reads as these numbers. -/
def OwnI (w : World) (base : Nat) (v : Value) (L : List Int) : Prop := w.ownsRow base 3 1 v L.length (L.map (Value.int .i64))
theorem int_info : (Try.prog.info? 3).map (fun i => (i.zero, i.size, i.bytes)) = some (some (.int .i64 0), 1, 8) := by kernel_rfl
theorem OwnI.nil (w : World) (base : Nat) : OwnI w base (.slice none 0 0) [] := World.ownsRow_nil w base _ _
theorem OwnI.ext {w w' : World} {base : Nat} {v : Value} {L : List Int} (h : OwnI w base v L) (hE : Ext w w') : OwnI w' base v L :=
  World.ownsRow.kept h (hE.grown none) (by cases hv : v.ownBlock <;> simp)
theorem OwnI.lt {w : World} {base : Nat} {v : Value} {L : List Int} (h : OwnI w base v L) : ∀ k, v.ownBlock = some k → base ≤ k ∧ k < w.heap.size := World.ownsRow.lt h
theorem OwnI.form {w : World} {base : Nat} {v : Value} {L : List Int} (h : OwnI w base v L) : ∃ A c, v = .slice A L.length c ∧ L.length ≤ c ∧ IntsAt w w.heap.size A L.length L := by
  have hl := h.lt
  rcases h.2 with ⟨rfl, h0⟩ | ⟨g, cap, cur, rfl, hb, hg, hn, hc, hs, ht⟩
  · exact ⟨none, 0, by rw [h0], by omega, rfl, .inl h0⟩
  · refine ⟨_, cap, rfl, hn, rfl, .inr ⟨g, 0, rfl, (hl g rfl).2, fun i hi => ?_⟩⟩
    have hk := World.ownsRow.cellAt h i (by omega)
    rw [Nat.zero_add, hk]
    simp [hi]
section
variable {o : Oper} {a : Act} {Q : Exit → Act → World → Prop} {w : World} {base : Nat} {v : Value} {L : List Int}
/-- append of one number, which lies in a block of its own. -/
theorem wpList_appIB {ops : Array Oper} {rest : List Oper} (hgd : o.guard = none) (s x : Operand) (ho : o.op = .call { callee := .builtin .append, args := #[s, x], argTypes := #[75, 75] }) (hs : a.eval s = v) (p : Int)
    (hown : OwnI (w.alloc (.cells #[.int .i64 p] 3)) base v L) {c : Nat} (hx : a.eval x = .slice (some ⟨w.heap.size, 0, none⟩) 1 c) (hlen : L.length ≤ 1000000) (hbase : base ≤ w.heap.size)
    (h : ∀ v' w', OwnI w' base v' (L ++ [p]) → (w.alloc (.cells #[.int .i64 p] 3)).grownBy w' v.ownBlock → wpList Try.prog ops Q rest (a.put o.dst v') w') :
    wpList Try.prog ops Q (o :: rest) a (w.alloc (.cells #[.int .i64 p] 3)) := by
  obtain ⟨i, hi, hz, hsz, hby⟩ := info_parts int_info
  refine wpList_append_own_at _ hgd s x 75 ho base 3 i _ 1 8 Try.underlying75 hi hz hsz hby rfl (by omega) v L.length (L.map (Value.int .i64)) hs hown ⟨w.heap.size, 0, none⟩ 1 c [.int .i64 p] hx rfl (by
    intro j u hu
    match j, hu with
    | 0, hu =>
      have : (⟨w.heap.size, 0, none⟩ : Addr).add 0 = ⟨w.heap.size, 0, none⟩ := rfl
      rw [this, cellNew]
      simpa using hu
    | j + 1, hu => simp at hu) (by
    intro u hu
    simp at hu
    subst hu
    rfl) (by unfold maxLen; omega) (by omega) (by simp; omega) ?_
  intro v' w' h2 h3 _ h5
  refine h v' w' ?_ h3
  unfold OwnI
  rw [List.length_append, List.map_append]
  exact h2
theorem wpList_appI {ops : Array Oper} {rest : List Oper} (hgd : o.guard = none) (s x : Operand) (ho : o.op = .call { callee := .builtin .append, args := #[s, x], argTypes := #[75, 75] }) (hs : a.eval s = v) (p : Int)
    (hown : OwnI (w.alloc (.cells #[.int .i64 p] 3)) base v L) {c : Nat} (hx : a.eval x = .slice (some ⟨w.heap.size, 0, none⟩) 1 c) (hlen : L.length ≤ 1000) (hbase : base ≤ w.heap.size)
    (h : ∀ v' w', OwnI w' base v' (L ++ [p]) → (w.alloc (.cells #[.int .i64 p] 3)).grownBy w' v.ownBlock → wpList Try.prog ops Q rest (a.put o.dst v') w') :
    wpList Try.prog ops Q (o :: rest) a (w.alloc (.cells #[.int .i64 p] 3)) :=
  wpList_appIB hgd s x ho hs p hown hx (by omega) hbase h
end
end Go.Proofs.Ytmaddohfkfnnhaa

namespace Go.Proofs.Ytmaddohfkfnnhaa
open Go.RowKit

theorem wpOper_putC {op : Oper} {a : Act} {w : World} {K : Act → World → Prop} {Q : Exit → Act → World → Prop} (ty : TypeId) (x y : Operand) (ho : op.op = .store ty x y)
    {g i : Nat} {t : TypeId} {cs : Array Value} (cs' : Array Value) {u : Value} (hx : a.eval x = .pointer (some ⟨g, i, none⟩)) (hy : a.eval y = u) (hw : Whole w g t cs) (hi : i < cs.size)
    (hs : (Try.prog.info? ty).map (·.size) = some 1) (h1 : u.oneCell' = true) (hcells : u.cells = #[u]) (hcs : cs.setIfInBounds i u = cs')
    (h : ∀ w', Whole w' g t cs' → w.grownBy w' (some g) → K (a.put op.dst undef) w') : Oper.wp Try.prog op a w K Q := by
  subst hcs
  have hf := hw.frozen i
  have hc : w.cell? ⟨g, i, none⟩ = some (cs[i]) := hw.at i (Array.getElem?_eq_getElem hi)
  unfold Oper.wp execOp
  cases hq : Try.prog.info? ty with
  | none => simp [hq] at hs
  | some d =>
    have hs' : d.size = 1 := by simpa [hq] using hs
    have ht : w.there g i 1 := fun j hj => by
      obtain rfl : j = 0 := by omega
      exact ⟨by rw [Nat.add_zero, hc]; rfl, by rw [Nat.add_zero]; exact hf⟩
    have hr : (storeVar ty ⟨g, i, none⟩ u).run Try.prog w = .ok () (w.setCells g i [u]) := by
      have := run_storeCells_cells (P := Try.prog) g i [u] 0 w (fun j hj => by simpa using (ht j (by simpa using hj)).1) (fun j hj => by simpa using (ht j (by simpa using hj)).2) (fun v hv => by simp at hv; subst hv; exact h1)
      simp only [storeVar, sizeOf, typeInfo, hcells]
      simpa [hq, hs'] using this
    simp only [ho, hx, hy, Instr.storeAt, Instr.sureAddr, Sem.run_bind, Sem.run_pure, Result.andThen_ok, hr]
    exact h _ (hw.set i u) (grown_setCell w g i u)
end Go.Proofs.Ytmaddohfkfnnhaa

namespace Go.Proofs.Ytmaddohfkfnnhaa
open Go.RowKit Num Wrd Dic

/-- Block gr is a reader, which stands at a place; block gd is its dictionary, with what is read so far. -/
structure RdrD (w W : World) (gr gd : Nat) (A : Option Addr) (c : Nat) (b : List UInt8) (size at_ : Nat) (T F : List (List UInt8)) (vT vF : Value) : Prop where
  rd : Whole W gr 68 #[.pointer (some ⟨gd, 0, none⟩), .slice A b.length c, .int .i64 (at_ : Int)]
  dc : Whole W gd 66 #[vT, .int .i64 (size : Int), vF]
  two : TwoTx W w.heap.size vT T vF F
  ext : Ext w W
  ge : w.heap.size ≤ gr ∧ w.heap.size ≤ gd
  fits : at_ ≤ b.length
section
variable {w W W' : World} {gr gd c size at_ : Nat} {A : Option Addr} {b : List UInt8} {T F : List (List UInt8)} {vT vF : Value}
theorem RdrD.later (h : RdrD w W gr gd A c b size at_ T F vT vF) (hE : Ext W W') : RdrD w W' gr gd A c b size at_ T F vT vF := ⟨h.rd.ext hE, h.dc.ext hE, h.two.ext hE, h.ext.trans hE, h.ge, h.fits⟩
/-- It goes on to another place. -/
theorem RdrD.move (h : RdrD w W gr gd A c b size at_ T F vT vF) {q : Nat} (hq : q ≤ b.length) (hW : Whole W' gr 68 #[.pointer (some ⟨gd, 0, none⟩), .slice A b.length c, .int .i64 (q : Int)]) (hG : W.grownBy W' (some gr)) : RdrD w W' gr gd A c b size q T F vT vF := by
  have hne : gd ≠ gr := by
    intro e
    have h1 := h.rd
    have h2 := h.dc
    rw [e] at h2
    unfold Whole at h1 h2
    rw [h1] at h2
    simp at h2
  exact ⟨hW, h.dc.grown hG hne, h.two.put h.rd (by decide) hG, Below.grown h.ext hG h.ext.le (fun k hk => by cases hk; exact h.ge.1), h.ge, hq⟩
end
/-- What comes next of the bytes. -/
def nextA (A : Option Addr) (c at_ : Nat) : Option Addr := cutAt (cutAt A c at_) (c - at_) 0
theorem next_bytes {w W : World} {A : Option Addr} {c at_ n : Nat} {b : List UInt8} (h : Bytes w w.heap.size A b.length b) (hE : Ext w W) (hc : b.length ≤ c) (ha : at_ ≤ b.length) : Bytes W W.heap.size (nextA A c at_) (min n (b.length - at_)) ((b.drop at_).take n) := by
  have h1 := (hE.bytes h).drop (k := at_) (c := c) ha hc
  have h2 := Ef.bytes_head (c := c - at_) (k := min n (b.length - at_)) h1 (by omega) (by omega)
  have : (b.drop at_).take (min n (b.length - at_)) = (b.drop at_).take n := by
    rw [Nat.min_def]
    split
    · rfl
    · rw [List.take_of_length_le (by simp), List.take_of_length_le (by simp; omega)]
  rw [this] at h2
  exact h2
set_option maxHeartbeats 1000000 in
set_option maxRecDepth 10000 in
theorem dNext_any {w W : World} {gr gd c size at_ : Nat} {A : Option Addr} {b : List UInt8} {T F : List (List UInt8)} {vT vF : Value} (h : RdrD w W gr gd A c b size at_ T F vT vF) (hc : b.length ≤ c) (n : Nat) :
    Calls Try.prog 51 #[.pointer (some ⟨gr, 0, none⟩), .int .i64 (n : Int)] W fun e W' => e = .returned (.slice (nextA A c at_) (min n (b.length - at_)) (c - at_)) ∧ Ext W W' := by
  have c1 := h.rd.at 1 (u := .slice A b.length c) rfl
  have c2 := h.rd.at 2 (u := .int .i64 (at_ : Int)) rfl
  have hf := h.fits
  obtain ⟨bl, hbl⟩ : ∃ n, n = b.length := ⟨_, rfl⟩
  rw [← hbl] at c1 hc hf ⊢
  obtain ⟨q, hq⟩ : ∃ q, q = bl - at_ := ⟨_, rfl⟩
  obtain ⟨m, hm⟩ : ∃ m, m = min n q := ⟨_, rfl⟩
  have hmin : (if (q : Int) < (n : Int) then (q : Int) else (n : Int)) = (m : Int) := by split <;> omega
  have hcut := fun W => run_cut W A bl c .i64 (at_ : Int) (by omega) (by omega)
  simp only [Int.toNat_natCast] at hcut
  have hhead := fun W => run_headB W (cutAt A c at_) q (c - at_) .i64 (m : Int) (by omega) (by omega)
  simp only [Int.toNat_natCast] at hhead
  unfold nextA
  rw [← hq] at hcut ⊢
  rw [← hm]
  generalize cutAt (cutAt A c at_) (c - at_) 0 = A2 at *
  generalize cutAt A c at_ = A1 at *
  generalize c - at_ = d at *
  have HM := hide hmin
  clear hmin hm hq hbl h
  go_enter Try.func51, Try.ntmps51
  go_wp2_with fail
  go_quiet (fail)
  go_wp2_with (refine wpList_min rfl (.tmp 16) (.tmp 18) rfl rfl rfl HM.out ?_)
  go_ret
  exact ⟨rfl, (Ext.refl W).drewN _⟩

/-- What counts tells. -/
def CntTo (w : World) (gr gd : Nat) (A : Option Addr) (c : Nat) (b : List UInt8) (size : Nat) (T F : List (List UInt8)) (vT vF : Value) (m : Nat) (r : List Nat × Nat × Int) (e : Ending) (W' : World) : Prop :=
  (r.2.2 = 0 → ∃ A2 c2, e = .returned (.tuple #[.slice A2 m c2, .int .i64 0]) ∧ OwnI W' w.heap.size (.slice A2 m c2) (r.1.map Int.ofNat) ∧ m ≤ c2 ∧ RdrD w W' gr gd A c b size r.2.1 T F vT vF) ∧
  (r.2.2 ≠ 0 → e = .returned (.tuple #[.slice none 0 0, .int .i64 r.2.2]) ∧ Ext w W')
theorem Mod.ownI {w w' : World} {g : Nat} {ob : Option Nat} (h : Mod w w' g ob) {base : Nat} {v : Value} {L : List Int} (hv : OwnI w base v L) (hg : v.ownBlock ≠ some g) (ho : v.ownBlock = none ∨ v.ownBlock ≠ ob) : OwnI w' base v L := by
  refine ⟨hv.1, ?_⟩
  rcases hv.2 with hn | ⟨x, cap, cur, rfl, hb, hgg, rest⟩
  · exact .inl hn
  · refine .inr ⟨x, cap, cur, rfl, hb, ?_, rest⟩
    rw [h.block x (Array.getElem?_eq_some_iff.1 hgg).1 (by intro e; subst e; simp [Value.ownBlock] at hg) (by
      intro e
      rcases ho with ho | ho
      · simp [Value.ownBlock] at ho
      · exact ho (by simpa [Value.ownBlock] using e))]
    exact hgg
theorem PC.farTo' {w w' : World} {gc r q base : Nat} {p : List UInt8} {e : Int} {ob : Option Nat} (h : PC w gc r p q e) (hG : w.grownBy w' ob) (ho : ∀ k, ob = some k → base ≤ k) (hb : gc < base ∧ r < base) : PC w' gc r p q e := by
  obtain ⟨A, c, hW, hc, hR, hl, h⟩ := h
  exact ⟨A, c, (hG.block gc hW.lt (fun e => by have := ho gc e.symm; omega)).trans hW, hc, hR.at (hG.block r hl (fun e => by have := ho r e.symm; omega)), Nat.lt_of_lt_of_le hl hG.size, h⟩
set_option maxHeartbeats 4000000 in
set_option maxRecDepth 10000 in
theorem dCounts_any {w W : World} {gr gd c size at_ : Nat} {A : Option Addr} {b : List UInt8} {T F : List (List UInt8)} {vT vF : Value} (h : RdrD w W gr gd A c b size at_ T F vT vF) (hB : Bytes w w.heap.size A b.length b) (hc : b.length ≤ c) (hl : b.length ≤ 1000000) (m most : Nat) (hm : m ≤ 2000000) (hmost : most ≤ 2000000) :
    Calls Try.prog 45 #[.pointer (some ⟨gr, 0, none⟩), .int .i64 (m : Int), .int .i64 (most : Int)] W (CntTo w gr gd A c b size T F vT vF m (numsR b (most : Int) m at_)) := by
  have CX := dNext_any h hc (m * 10)
  rw [show ((m * 10 : Nat) : Int) = (m : Int) * 10 by omega] at CX
  have hfit := h.fits
  obtain ⟨p, hp⟩ : ∃ p, p = (b.drop at_).take (m * 10) := ⟨_, rfl⟩
  have hpl : p.length = min (m * 10) (b.length - at_) := by rw [hp]; simp
  have hBy := fun W1 (hE : Ext w W1) => next_bytes (n := m * 10) hB hE hc hfit
  rw [← hp, ← hpl] at hBy
  rw [← hpl] at CX
  have hpart := nums_part (b := b) (at_ := at_) (K := m * 10) (most := (most : Int)) m 0 (by omega)
  rw [← hp, Nat.add_zero] at hpart
  have hplong := nums_long (b := b) (most := (most : Int)) m at_
  obtain ⟨res, hres⟩ : ∃ r, r = numsR b (most : Int) m at_ := ⟨_, rfl⟩
  rw [← hres] at hpart hplong ⊢
  have HP := hide hpart
  have HL := hide hplong
  have hp6 : p.length ≤ 1000000 := by omega
  have hpc : p.length ≤ c - at_ := by omega
  have HH := hide h
  have HBy := hide hBy
  have hrl := h.rd.lt
  clear hp hpl hpart hplong hres hBy h hB
  generalize nextA A c at_ = A1 at *
  have hp2 : (p.length : Int) ≤ 1000000 := by omega
  obtain ⟨pl, hpl⟩ : ∃ n, n = p.length := ⟨_, rfl⟩
  rw [← hpl] at CX hp6 hpc hp2 HBy
  have HPL := hide hpl
  clear hpl
  go_enter Try.func45, Try.ntmps45
  go_wp2_with fail
  refine CX.mono ?_
  rintro e W1 ⟨rfl, hE1⟩
  have CN := pcNew_any A1 pl (c - at_) p W1 hpc hp6 (HBy.out W1 (HH.out.ext.trans hE1))
  have HE1 := hide hE1
  clear CX hE1
  go_wp2_with fail
  refine CN.mono ?_
  rintro e W2 ⟨gc, r, rfl, hgc, hPC, hE2⟩
  have HE2 := hide (HE1.out.trans hE2)
  have HPC := hide hPC
  have hgr := And.intro hPC.lt hPC.rlt
  have HRD := hide (HH.out.later HE2.out)
  have HG2 := hide (show W.heap.size ≤ gc from Nat.le_trans HE1.out.le hgc)
  clear CN hPC hE2 hgc
  go_wp2
  go_loopw [17, 9] (fun x v wr => ∃ (k : Nat) (vs : List Nat) (q : Nat), k ≤ m ∧ x = .int .i64 (k : Int) ∧ PC wr gc r p q 0 ∧ OwnI wr W2.heap.size v (vs.map Int.ofNat) ∧ vs.length = k ∧ k ≤ q ∧ numsR p (most : Int) m 0 = behind vs (numsR p (most : Int) (m - k) q) ∧ Ext W wr ∧ W2.heap.size ≤ wr.heap.size) (fun x _ _ => m - (intOf x).toNat)
  case atStart => exact ⟨0, [], 0, by omega, rfl, HPC.out, OwnI.nil _ _, rfl, by omega, by rw [behind_nil (nums_err _ _ _ _), Nat.sub_zero], HE2.out, Nat.le_refl _⟩
  case round =>
    clear HPC
    obtain ⟨k, vs, q, hk, rfl, hPC, hO, hvl, hkq, hR, hE, hbs⟩ := hrel
    have HR := hide hR
    have HVL := hide hvl
    have hq6 := hPC.bounds
    rw [← HPL.out] at hq6
    clear hR hvl
    by_cases hlt : k < m
    · have hkI : (k : Int) < (m : Int) := by omega
      obtain ⟨d, hd⟩ : ∃ d, m - k = d + 1 := ⟨m - k - 1, by omega⟩
      have CI := pcInt_any hPC (most : Int) (by omega)
      have HNG := hide (show ∀ x q' e, intR p q 0 (most : Int) = (x, q', e) → (e ≠ 0 → res.2.2 = e) ∧ (e = 0 → k < q' ∧ numsR p (most : Int) m 0 = behind (vs ++ [x]) (numsR p (most : Int) (m - (k + 1)) q')) from fun x q' e hi => by
        have h1 := HR.out
        rw [hd] at h1
        constructor
        · intro he
          rw [nums_bad (by rw [hi]; exact he), hi] at h1
          unfold behind at h1
          dsimp only at h1
          rw [if_pos he, HP.out] at h1
          simpa using congrArg (fun r => r.2.2) h1
        · intro he
          subst he
          obtain ⟨_, i2, _, i4⟩ := int_is hi
          have i5 := enc_pos x
          rw [i4] at i5
          unfold seg at i5
          simp at i5
          refine ⟨by omega, ?_⟩
          rw [nums_good (by rw [hi]), hi, behind_behind] at h1
          rw [show m - (k + 1) = d by omega]
          exact h1)
      obtain ⟨x, q', e, hi⟩ : ∃ x q' e, intR p q 0 (most : Int) = (x, q', e) := ⟨_, _, _, rfl⟩
      have HI := hide (HNG.out x q' e hi)
      rw [hi] at CI
      dsimp only at CI
      have HE := hide hE
      have HO := hide hO
      have HPr := hide hPC
      clear HNG hi hd hE hO hPC HR
      go_wp2_with fail
      refine CI.mono ?_
      rintro e2 w3 ⟨rfl, hP3, hM3⟩
      have hO3 := hM3.ownI HO.out (fun e => by have := (HO.out.lt _ e).1; omega) (by cases (u9 : Value).ownBlock <;> simp)
      have HE3 := hide (show Ext W w3 from Below.trans HE.out (hM3.below (B := W.heap.size) HE.out.le HG2.out (fun k hk => by cases hk)))
      have hb3 : W2.heap.size ≤ w3.heap.size := Nat.le_trans hbs hM3.size
      have hEa := extNew w3 (.cells #[.int .i64 (x : Int)] 3)
      have hO3a := hide (hO3.ext hEa)
      have hP3a := hide (hP3.ext hEa)
      have HE3a := hide (HE3.out.trans hEa)
      have hvs : (vs.map Int.ofNat).length ≤ 1000000 := by rw [List.length_map, HVL.out]; omega
      clear CI hM3 hO3 hEa hP3
      go_wp2_with (at_builtin; refine wpList_appIB rfl (.tmp 19) (.tmp 23) rfl rfl (x : Int) hO3a.out rfl hvs hb3 ?_; intro v4 w4 hO4 hG4; have HO4 := hide hO4; have hP4 := hP3a.out.farTo' hG4 (fun k hk => (hO3a.out.lt k hk).1) hgr; have HE4 := hide (show Ext W w4 from Below.grown HE3a.out hG4 HE3a.out.le (fun k hk => by have := (hO3a.out.lt k hk).1; have := HG2.out; omega)); have hb4 : W2.heap.size ≤ w4.heap.size := Nat.le_trans hb3 (Nat.le_trans (by simp) hG4.size); have HP4 := hide hP4; have CE := pcErr_any hP4; clear hO4 hG4 hP4)
      refine CE.mono ?_
      rintro e3 w5 ⟨rfl, rfl⟩
      clear CE
      by_cases he : e = 0
      · subst he
        have HN := hide (HI.out.2 rfl)
        go_wp2
        go_roundw
        case rel => exact ⟨k + 1, vs ++ [x], q', by omega, by go_num, HP4.out, by simpa using HO4.out, by rw [List.length_append, HVL.out]; rfl, by have := HN.out.1; omega, HN.out.2, HE4.out, hb4⟩
        case measure => simp [intOf]; omega
      · have heb : (e != 0) = true := by rw [bne_iff_ne]; exact he
        have HR := hide (HI.out.1 he)
        have HNe := hide he
        clear he
        go_wp2
        go_ret2
        rw [← HR.out]
        exact ⟨fun h => absurd (HR.out.symm.trans h) HNe.out, fun _ => ⟨rfl, HH.out.ext.trans HE4.out⟩⟩
    · have hkI : ¬ (k : Int) < (m : Int) := by omega
      obtain rfl : k = m := by omega
      have hr0 := HR.out
      rw [Nat.sub_self, numsR, HP.out] at hr0
      unfold behind at hr0
      dsimp only at hr0
      rw [if_neg (by simp), List.append_nil] at hr0
      simp only [Prod.mk.injEq] at hr0
      obtain ⟨r1, r2, r3⟩ := hr0
      have HR1 := hide r1
      have HR3 := hide r3
      have hL := HL.out r3 hfit
      have HQ := hide (show res.2.1 = at_ + q by omega)
      have HQ2 := hide (show at_ + q ≤ b.length by omega)
      obtain ⟨A2, c2, hv, hc2, -⟩ := hO.form
      have hlm : (vs.map Int.ofNat).length = k := by rw [List.length_map, HVL.out]
      rw [hlm] at hv hc2
      subst hv
      have HC2 := hide hc2
      have HO := hide hO
      have HLM := hide hlm
      have HE := hide hE
      have CAt := fun X (hX : Ext wr X) => pcAt_any (hPC.ext hX)
      have HRr := hide (HH.out.later hE)
      have hRw := HRr.out.rd
      obtain ⟨bl, hbl⟩ : ∃ n, n = b.length := ⟨_, rfl⟩
      rw [← hbl] at hRw
      have HBL := hide hbl
      obtain ⟨at2, ha2⟩ : ∃ n, n = at_ + q := ⟨_, rfl⟩
      have hsum : (at_ : Int) + (q : Int) = (at2 : Int) := by omega
      have hwa : IntKind.i64.wrap (at2 : Int) = (at2 : Int) := by rw [IntKind.wrap_i64]; have := HQ2.out; omega
      have ha2l : (at2 : Int) ≤ 1000000 := by have := HQ2.out; omega
      rw [← ha2] at HQ HQ2
      have hgrW := HH.out.rd.lt
      have hlW := HE2.out.le
      clear hPC hO hE hlm hbl ha2 hq6 r1 r2 r3 hL hc2
      go_wp2_with fail
      refine wp_region_T (fun W => Whole W gr 68 #[.pointer (some ⟨gd, 0, none⟩), .slice A bl c, .int .i64 (at_ : Int)]) 9 10 #[false, false, false, false, false, false, false, false, false, false] (by kernel_rfl) rfl rfl (hRw.ext (Ext.refl wr).drew) ?_
      intro hS0
      refine wpAnyT_take 0 (some 31) (.pointer (some ⟨gr, 0, none⟩)) #[true, false, false, false, false, false, false, false, false, false] rfl rfl rfl (by kernel_rfl) (fun _ _ _ h => h) hS0 (by rfl) (fun W hX => by have s0 := hX.at 0 (u := .pointer (some ⟨gd, 0, none⟩)) rfl; have s1 := hX.at 1 (u := .slice A bl c) rfl; have s2 := hX.at 2 (u := .int .i64 (at_ : Int)) rfl; go_simp) ?_
      simp only [Act.put, List.setIfInBounds_toArray, List.set_cons_zero, List.set_cons_succ]
      refine wpAnyT_take 1 (some 32) (.pointer (some ⟨gr, 0, none⟩)) #[true, true, false, false, false, false, false, false, false, false] rfl rfl rfl (by kernel_rfl) (fun _ _ _ h => h) hS0 (by rfl) (fun W hX => by have s0 := hX.at 0 (u := .pointer (some ⟨gd, 0, none⟩)) rfl; have s1 := hX.at 1 (u := .slice A bl c) rfl; have s2 := hX.at 2 (u := .int .i64 (at_ : Int)) rfl; go_simp) ?_
      simp only [Act.put, List.setIfInBounds_toArray, List.set_cons_zero, List.set_cons_succ]
      refine wpAnyT_take 2 (some 33) (.pointer (some ⟨gr, 2, none⟩)) #[true, true, true, false, false, false, false, false, false, false] rfl rfl rfl (by kernel_rfl) (fun _ _ _ h => h) hS0 (by rfl) (fun W hX => by have s0 := hX.at 0 (u := .pointer (some ⟨gd, 0, none⟩)) rfl; have s1 := hX.at 1 (u := .slice A bl c) rfl; have s2 := hX.at 2 (u := .int .i64 (at_ : Int)) rfl; go_simp) ?_
      simp only [Act.put, List.setIfInBounds_toArray, List.set_cons_zero, List.set_cons_succ]
      refine wpAnyT_take 3 (some 34) (.int .i64 (at_ : Int)) #[true, true, true, true, false, false, false, false, false, false] rfl rfl rfl (by kernel_rfl) (fun _ _ _ h => h) hS0 (by rfl) (fun W hX => by have s0 := hX.at 0 (u := .pointer (some ⟨gd, 0, none⟩)) rfl; have s1 := hX.at 1 (u := .slice A bl c) rfl; have s2 := hX.at 2 (u := .int .i64 (at_ : Int)) rfl; go_simp) ?_
      simp only [Act.put, List.setIfInBounds_toArray, List.set_cons_zero, List.set_cons_succ]
      refine wpAnyT_take 4 (some 35) (.pointer (some ⟨gc, 0, none⟩)) #[true, true, true, true, true, false, false, false, false, false] rfl rfl rfl (by kernel_rfl) (fun _ _ _ h => h) hS0 (by rfl) (fun W hX => by have s0 := hX.at 0 (u := .pointer (some ⟨gd, 0, none⟩)) rfl; have s1 := hX.at 1 (u := .slice A bl c) rfl; have s2 := hX.at 2 (u := .int .i64 (at_ : Int)) rfl; go_simp) ?_
      simp only [Act.put, List.setIfInBounds_toArray, List.set_cons_zero, List.set_cons_succ]
      refine wpAnyT_only 5 #[true, true, true, true, true, true, false, false, false, false] (by kernel_rfl) rfl rfl (by rfl) (fun K0 hK0 => ?_)
      go_simp
      refine (CAt wr.drew (Ext.refl wr).drew).mono ?_
      rintro e5 w5 ⟨rfl, rfl⟩
      refine hK0 _ _ (fun _ => hS0) ?_
      clear hK0 K0
      refine wpAnyT_take 6 (some 37) (.int .i64 (at2 : Int)) #[true, true, true, true, true, true, true, false, false, false] rfl rfl rfl (by kernel_rfl) (fun _ _ _ h => h) hS0 (by rfl) (fun W hX => by have s0 := hX.at 0 (u := .pointer (some ⟨gd, 0, none⟩)) rfl; have s1 := hX.at 1 (u := .slice A bl c) rfl; have s2 := hX.at 2 (u := .int .i64 (at_ : Int)) rfl; go_simp) ?_
      simp only [Act.put, List.setIfInBounds_toArray, List.set_cons_zero, List.set_cons_succ]
      refine wpAnyT_take 7 (some 38) (.pointer (some ⟨gr, 0, none⟩)) #[true, true, true, true, true, true, true, true, false, false] rfl rfl rfl (by kernel_rfl) (fun _ _ _ h => h) hS0 (by rfl) (fun W hX => by have s0 := hX.at 0 (u := .pointer (some ⟨gd, 0, none⟩)) rfl; have s1 := hX.at 1 (u := .slice A bl c) rfl; have s2 := hX.at 2 (u := .int .i64 (at_ : Int)) rfl; go_simp) ?_
      simp only [Act.put, List.setIfInBounds_toArray, List.set_cons_zero, List.set_cons_succ]
      refine wpAnyT_take 8 (some 39) (.pointer (some ⟨gr, 2, none⟩)) #[true, true, true, true, true, true, true, true, true, false] rfl rfl rfl (by kernel_rfl) (fun _ _ _ h => h) hS0 (by rfl) (fun W hX => by have s0 := hX.at 0 (u := .pointer (some ⟨gd, 0, none⟩)) rfl; have s1 := hX.at 1 (u := .slice A bl c) rfl; have s2 := hX.at 2 (u := .int .i64 (at_ : Int)) rfl; go_simp) ?_
      simp only [Act.put, List.setIfInBounds_toArray, List.set_cons_zero, List.set_cons_succ]
      refine wpAnyT_only 9 #[true, true, true, true, true, true, true, true, true, true] (by kernel_rfl) rfl rfl (by rfl) (fun K1 hK1 => ?_)
      refine wpOper_putC 3 (.tmp 39) (.tmp 37) rfl #[.pointer (some ⟨gd, 0, none⟩), .slice A bl c, .int .i64 (at2 : Int)] rfl rfl hS0 (by simp) (by kernel_rfl) rfl rfl rfl ?_
      intro w6 hW6 hG6
      refine hK1 _ _ (fun h => absurd h (by decide)) (wpAnyT_done (by kernel_rfl) ?_ _)
      clear hK1 K1
      have hRD2 := (HRr.out.later (Ext.refl wr).drew).move HQ2.out (by rw [← HBL.out]; exact hW6) hG6
      have hO6 : OwnI w6 W2.heap.size (.slice A2 k c2) (vs.map Int.ofNat) := World.ownsRow.kept (HO.out.ext (Ext.refl wr).drew) hG6 (by
        cases hv : (Value.slice A2 k c2).ownBlock with
        | none => exact .inl rfl
        | some j => exact .inr (fun e => by have := (HO.out.lt j hv).1; simp at e; omega))
      have HF := hide (And.intro (show OwnI w6 w.heap.size (.slice A2 k c2) (vs.map Int.ofNat) from ⟨hO6.1, hO6.2.elim Or.inl fun ⟨g, cap, cur, hv, hg, r⟩ => Or.inr ⟨g, cap, cur, hv, by have := HH.out.ext.le; omega, r⟩⟩) hRD2)
      clear hRD2 hO6 hW6 hG6 hRw CAt hS0
      go_wp2
      go_ret2
      refine ⟨fun _ => ⟨A2, c2, rfl, ?_, HC2.out, ?_⟩, fun h => absurd HR3.out h⟩
      · rw [show res.1 = vs from HR1.out]
        exact HF.out.1
      · rw [HQ.out]
        exact HF.out.2

/-- The last text. -/
theorem Dic.at_last (l : List (List UInt8)) : atD l ((l.length : Int) - 1) = l.getLastD [] := by
  unfold atD inD
  rcases Nat.eq_zero_or_pos l.length with h | h
  · obtain rfl := List.eq_nil_of_length_eq_zero h
    rfl
  · rw [decide_eq_true (by omega), if_pos rfl, show ((l.length : Int) - 1).toNat = l.length - 1 by omega, List.getD_eq_getElem?_getD, List.getLastD_eq_getLast?, List.getLast?_eq_getElem?]
set_option maxHeartbeats 1000000 in
set_option maxRecDepth 10000 in
theorem dLast_any {w W : World} {gr gd c size at_ : Nat} {A : Option Addr} {b : List UInt8} {T F : List (List UInt8)} {vT vF : Value} (h : RdrD w W gr gd A c b size at_ T F vT vF) :
    Calls Try.prog 55 #[.pointer (some ⟨gr, 0, none⟩)] W fun e W' => e = .returned (.string ⟨(T.getLastD []).toArray⟩) ∧ Ext W W' := by
  obtain ⟨A2, c2, rfl, -, -, hT⟩ := h.two.1.form
  have CL := fun m => dLenW_any (h.dc.ext ((Ext.refl W).drewN m))
  have CA := fun m => dAtW_any (h.dc.ext ((Ext.refl W).drewN m)) (hT.later ((Ext.refl W).drewN m)) ((T.length : Int) - 1)
  rw [at_last] at CA
  have c0 := h.rd.at 0 (u := .pointer (some ⟨gd, 0, none⟩)) rfl
  have hl : (T.length : Int) ≤ 9223372036854775807 := by
    obtain ⟨_, c4, _, h1, h2, _⟩ := h.two.1.form
    unfold maxLen at h2
    omega
  generalize T.getLastD [] = t at *
  generalize inD T ((T.length : Int) - 1) = ok at *
  generalize T.length = n at *
  clear h hT
  go_enter Try.func55, Try.ntmps55
  go_wp2_with fail
  go_quiet (first | (go_at_call 18; exact Calls.quiet_of ((CL _).mono fun _ _ ⟨he, hw⟩ => ⟨he, 0, hw.symm⟩)) | (go_at_call 23; exact Calls.quiet_of ((CA _).mono fun _ _ ⟨he, hw⟩ => ⟨he, 0, hw.symm⟩)))
  go_wp2
  go_ret
  exact ⟨rfl, (Ext.refl W).drewN _⟩
end Go.Proofs.Ytmaddohfkfnnhaa

namespace Go.Proofs.Ytmaddohfkfnnhaa
open Go.RowKit Num Wrd Dic

/-- Block gb is a bucket: its cursor, and the text ahead. -/
structure BkSt (w : World) (gb gc r : Nat) (p : List UInt8) (q : Nat) (e : Int) (a : List UInt8) : Prop where
  whole : Whole w gb 87 #[.pointer (some ⟨gc, 0, none⟩), .string ⟨a.toArray⟩]
  cur : PC w gc r p q e
  ne : gb ≠ gc ∧ gb ≠ r
/-- Behind a call: the bucket, and all else as it was. -/
def BkTo (w : World) (gb gc r : Nat) (p : List UInt8) (q : Nat) (e : Int) (a : List UInt8) (w' : World) : Prop := BkSt w' gb gc r p q e a ∧ Mod w w' gc (some gb)
theorem PC.farTo {w w' : World} {gc r q : Nat} {p : List UInt8} {e : Int} (h : PC w gc r p q e) (hM : w.heap.size ≤ w'.heap.size) (hG : w'.heap[gc]? = w.heap[gc]?) (hr : w'.heap[r]? = w.heap[r]?) : PC w' gc r p q e := by
  obtain ⟨A, c, hW, hc, hR, hl, h⟩ := h
  exact ⟨A, c, hG.trans hW, hc, hR.at hr, Nat.lt_of_lt_of_le hl hM, h⟩
theorem BkSt.ext {w w' : World} {gb gc r q : Nat} {p a : List UInt8} {e : Int} (h : BkSt w gb gc r p q e a) (hE : Ext w w') : BkSt w' gb gc r p q e a := ⟨h.whole.ext hE, h.cur.ext hE, h.ne⟩
theorem BkSt.cursor {w w' : World} {gb gc r q q' : Nat} {p a : List UInt8} {e e' : Int} (h : BkSt w gb gc r p q e a) (k : PcTo w gc r p q' e' w') : BkTo w gb gc r p q' e' a w' :=
  ⟨⟨k.2.whole h.whole h.ne.1 (by simp), k.1, h.ne⟩, k.2.os, k.2.tape, k.2.output, k.2.size, fun i hi hg _ => k.2.block i hi hg (by simp)⟩
theorem BkSt.put {w : World} {gb gc r q : Nat} {p a : List UInt8} {e : Int} (h : BkSt w gb gc r p q e a) (t : List UInt8) : BkTo w gb gc r p q e t (w.setCell ⟨gb, 1, none⟩ (.string ⟨t.toArray⟩)) := by
  have hG := grown_setCell w gb 1 (.string ⟨t.toArray⟩)
  refine ⟨⟨h.whole.set 1 _, h.cur.farTo hG.size (hG.block gc h.cur.lt (by simpa using fun e => h.ne.1 e.symm)) (hG.block r h.cur.rlt (by simpa using fun e => h.ne.2 e.symm)), h.ne⟩, Mod.ofOwn hG⟩
theorem BkTo.then {w w' w'' : World} {gb gc r q q' : Nat} {p a a' : List UInt8} {e e' : Int} (h : BkTo w gb gc r p q e a w') (k : BkTo w' gb gc r p q' e' a' w'') : BkTo w gb gc r p q' e' a' w'' := ⟨k.1, h.2.trans k.2 (.inl rfl)⟩

set_option maxHeartbeats 1000000 in
set_option maxRecDepth 10000 in
theorem dFollowC_any {w : World} {gb gc r q : Nat} {p a : List UInt8} {e : Int} (h : BkSt w gb gc r p q e a) (t : List UInt8) (ht : t.length ≤ 1000000) :
    Calls Try.prog 66 #[.pointer (some ⟨gb, 0, none⟩), .string ⟨t.toArray⟩] w fun e' w' => e' = .returned (.tuple #[]) ∧ BkTo w gb gc r p q (followE a t e) t w' := by
  have CF := dFollow_any a t w ht
  have c0 := h.whole.at 0 (u := .pointer (some ⟨gc, 0, none⟩)) rfl
  have c1 := h.whole.at 1 (u := .string ⟨a.toArray⟩) rfl
  have f1 := h.whole.frozen 1
  have CX := pcFail_any h.cur 2
  have H := hide h
  cases hf : followD a t with
  | true =>
    rw [hf] at CF
    rw [follow_ok hf]
    clear CX h hf
    go_enter Try.func66, Try.ntmps66
    go_wp2_with fail
    refine CF.mono ?_
    rintro e2 w' ⟨rfl, rfl⟩
    clear CF
    go_wp2
    go_end0
    exact ⟨rfl, H.out.put t⟩
  | false =>
    rw [hf] at CF
    rw [show followE a t e = failR e 2 by unfold followE; rw [hf]; rfl]
    clear h hf
    go_enter Try.func66, Try.ntmps66
    go_wp2_with fail
    refine CF.mono ?_
    rintro e2 w' ⟨rfl, rfl⟩
    clear CF
    go_wp2_with fail
    refine CX.mono ?_
    rintro e2 w2 ⟨rfl, hP⟩
    have H2 := hide (H.out.cursor hP)
    have c1 := H2.out.1.whole.at 1 (u := .string ⟨a.toArray⟩) rfl
    have f1 := H2.out.1.whole.frozen 1
    clear CX hP
    go_wp2
    go_end0
    exact ⟨rfl, H2.out.then (H2.out.1.put t)⟩
set_option maxHeartbeats 1000000 in
set_option maxRecDepth 10000 in
theorem dFirst_any {w : World} {gb gc r q : Nat} {p a : List UInt8} {e : Int} (h : BkSt w gb gc r p q e a) :
    Calls Try.prog 56 #[.pointer (some ⟨gb, 0, none⟩)] w fun e' w' => e' = .returned (.string ⟨(firstP p a q e).1.toArray⟩) ∧ BkTo w gb gc r p (firstP p a q e).2.1 (firstP p a q e).2.2 (firstP p a q e).1 w' := by
  have CT := pcText_any h.cur 25 (by decide)
  have c0 := h.whole.at 0 (u := .pointer (some ⟨gc, 0, none⟩)) rfl
  have hl := text_len25 (p := p) (q := q) (e := e)
  have H := hide h
  unfold firstP
  obtain ⟨t, q', e', hT⟩ : ∃ t q' e', textR p q e 25 = (t, q', e') := ⟨_, _, _, rfl⟩
  rw [hT] at CT hl ⊢
  dsimp only at CT hl ⊢
  clear h hT
  go_enter Try.func56, Try.ntmps56
  go_wp2_with fail
  refine CT.mono ?_
  rintro e2 w2 ⟨rfl, hP⟩
  have H2 := hide (H.out.cursor hP)
  have CF := dFollowC_any H2.out.1 t (by omega)
  clear CT hP
  go_wp2_with fail
  refine CF.mono ?_
  rintro e2 w3 ⟨rfl, hP⟩
  have H3 := hide (H2.out.then hP)
  clear CF hP
  go_wp2
  go_ret
  exact ⟨rfl, H3.out⟩
attribute [local go_sem ↓] run_txtAt run_txtLen run_txtCut run_txtTop
set_option maxHeartbeats 2000000 in
set_option maxRecDepth 10000 in
theorem dFurther_any {w : World} {gb gc r q : Nat} {p a : List UInt8} {e : Int} (h : BkSt w gb gc r p q e a) (ha : a.length ≤ 100) :
    Calls Try.prog 57 #[.pointer (some ⟨gb, 0, none⟩)] w fun e' w' => e' = .returned (.string ⟨(furtherP p a q e).1.toArray⟩) ∧ BkTo w gb gc r p (furtherP p a q e).2.1 (furtherP p a q e).2.2 (furtherP p a q e).1 w' := by
  have CI := fun W (hp : PC W gc r p q e) => pcInt_any hp (a.length : Int) (by omega)
  have hna := int_same (p := p) (q := q) (e := e) (most := (a.length : Int)) (by omega)
  have hxl := add_len (p := p) (a := a) (q := q) (e := e)
  unfold furtherP sameE
  unfold addT at hxl ⊢
  obtain ⟨n, q1, e1, hN⟩ : ∃ n q1 e1, intR p q e (a.length : Int) = (n, q1, e1) := ⟨_, _, _, rfl⟩
  rw [hN] at CI hna hxl ⊢
  dsimp only at CI hna hxl ⊢
  have CT := fun W (hp : PC W gc r p q1 e1) => pcText_any hp 25 (by decide)
  have htl := text_len25 (p := p) (q := q1) (e := e1)
  obtain ⟨t, q2, e2, hT⟩ : ∃ t q2 e2, textR p q1 e1 25 = (t, q2, e2) := ⟨_, _, _, rfl⟩
  rw [hT] at CT htl hxl ⊢
  dsimp only at CT htl hxl ⊢
  have hadd := fun (W : World) => run_string_add_lists (P := Try.prog) W (a.take n) t (by simp; omega) (by omega)
  obtain ⟨x, hx⟩ : ∃ x, x = a.take n ++ t := ⟨_, rfl⟩
  rw [← hx] at hadd hxl ⊢
  have CS := fun W => dSame_any a x W (by omega) (by omega)
  have hW := (h.ext (Ext.refl w).drew).whole
  have hP := h.cur
  have hne := h.ne
  have H := hide h
  have hnN : n ≤ a.length := by omega
  have hal := (alike_le a x).1
  generalize alike a x = z at *
  obtain ⟨E, hE⟩ : ∃ E, E = (if z = n then e2 else failR e2 2) := ⟨_, rfl⟩
  rw [← hE]
  have HE := hide hE
  clear h hT hN hx htl hE
  go_enter Try.func57, Try.ntmps57
  go_wp2_with fail
  refine wp_region_T (fun W => Whole W gb 87 #[.pointer (some ⟨gc, 0, none⟩), .string ⟨a.toArray⟩]) 9 11 #[false, false, false, false, false, false, false, false, false, false, false] (by kernel_rfl) rfl rfl hW ?_
  intro hS0
  refine wpAnyT_take 0 (some 5) (.pointer (some ⟨gb, 0, none⟩)) #[true, false, false, false, false, false, false, false, false, false, false] rfl rfl rfl (by kernel_rfl) (fun _ _ _ h => h) hS0 (by rfl) (fun W hX => by have s0 := hX.at 0 (u := .pointer (some ⟨gc, 0, none⟩)) rfl; have s1 := hX.at 1 (u := .string ⟨a.toArray⟩) rfl; go_simp) ?_
  simp only [Act.put, List.setIfInBounds_toArray, List.set_cons_zero, List.set_cons_succ]
  refine wpAnyT_take 1 (some 6) (.pointer (some ⟨gb, 0, none⟩)) #[true, true, false, false, false, false, false, false, false, false, false] rfl rfl rfl (by kernel_rfl) (fun _ _ _ h => h) hS0 (by rfl) (fun W hX => by have s0 := hX.at 0 (u := .pointer (some ⟨gc, 0, none⟩)) rfl; have s1 := hX.at 1 (u := .string ⟨a.toArray⟩) rfl; go_simp) ?_
  simp only [Act.put, List.setIfInBounds_toArray, List.set_cons_zero, List.set_cons_succ]
  refine wpAnyT_take 2 (some 7) (.pointer (some ⟨gb, 0, none⟩)) #[true, true, true, false, false, false, false, false, false, false, false] rfl rfl rfl (by kernel_rfl) (fun _ _ _ h => h) hS0 (by rfl) (fun W hX => by have s0 := hX.at 0 (u := .pointer (some ⟨gc, 0, none⟩)) rfl; have s1 := hX.at 1 (u := .string ⟨a.toArray⟩) rfl; go_simp) ?_
  simp only [Act.put, List.setIfInBounds_toArray, List.set_cons_zero, List.set_cons_succ]
  refine wpAnyT_take 3 (some 8) (.pointer (some ⟨gc, 0, none⟩)) #[true, true, true, true, false, false, false, false, false, false, false] rfl rfl rfl (by kernel_rfl) (fun _ _ _ h => h) hS0 (by rfl) (fun W hX => by have s0 := hX.at 0 (u := .pointer (some ⟨gc, 0, none⟩)) rfl; have s1 := hX.at 1 (u := .string ⟨a.toArray⟩) rfl; go_simp) ?_
  simp only [Act.put, List.setIfInBounds_toArray, List.set_cons_zero, List.set_cons_succ]
  refine wpAnyT_take 4 (some 9) (.pointer (some ⟨gb, 0, none⟩)) #[true, true, true, true, true, false, false, false, false, false, false] rfl rfl rfl (by kernel_rfl) (fun _ _ _ h => h) hS0 (by rfl) (fun W hX => by have s0 := hX.at 0 (u := .pointer (some ⟨gc, 0, none⟩)) rfl; have s1 := hX.at 1 (u := .string ⟨a.toArray⟩) rfl; go_simp) ?_
  simp only [Act.put, List.setIfInBounds_toArray, List.set_cons_zero, List.set_cons_succ]
  refine wpAnyT_take 5 (some 10) (.pointer (some ⟨gb, 0, none⟩)) #[true, true, true, true, true, true, false, false, false, false, false] rfl rfl rfl (by kernel_rfl) (fun _ _ _ h => h) hS0 (by rfl) (fun W hX => by have s0 := hX.at 0 (u := .pointer (some ⟨gc, 0, none⟩)) rfl; have s1 := hX.at 1 (u := .string ⟨a.toArray⟩) rfl; go_simp) ?_
  simp only [Act.put, List.setIfInBounds_toArray, List.set_cons_zero, List.set_cons_succ]
  refine wpAnyT_take 6 (some 11) (.pointer (some ⟨gb, 1, none⟩)) #[true, true, true, true, true, true, true, false, false, false, false] rfl rfl rfl (by kernel_rfl) (fun _ _ _ h => h) hS0 (by rfl) (fun W hX => by have s0 := hX.at 0 (u := .pointer (some ⟨gc, 0, none⟩)) rfl; have s1 := hX.at 1 (u := .string ⟨a.toArray⟩) rfl; go_simp) ?_
  simp only [Act.put, List.setIfInBounds_toArray, List.set_cons_zero, List.set_cons_succ]
  refine wpAnyT_take 7 (some 12) (.string ⟨a.toArray⟩) #[true, true, true, true, true, true, true, true, false, false, false] rfl rfl rfl (by kernel_rfl) (fun _ _ _ h => h) hS0 (by rfl) (fun W hX => by have s0 := hX.at 0 (u := .pointer (some ⟨gc, 0, none⟩)) rfl; have s1 := hX.at 1 (u := .string ⟨a.toArray⟩) rfl; go_simp) ?_
  simp only [Act.put, List.setIfInBounds_toArray, List.set_cons_zero, List.set_cons_succ]
  refine wpAnyT_take 8 (some 13) (.int .i64 (a.length : Int)) #[true, true, true, true, true, true, true, true, true, false, false] rfl rfl rfl (by kernel_rfl) (fun _ _ _ h => h) hS0 (by rfl) (fun W hX => by have s0 := hX.at 0 (u := .pointer (some ⟨gc, 0, none⟩)) rfl; have s1 := hX.at 1 (u := .string ⟨a.toArray⟩) rfl; go_simp) ?_
  simp only [Act.put, List.setIfInBounds_toArray, List.set_cons_zero, List.set_cons_succ]
  refine wpAnyT_only 9 #[true, true, true, true, true, true, true, true, true, true, false] (by kernel_rfl) rfl rfl (by rfl) (fun K0 hK0 => ?_)
  go_simp
  refine (CI w.drew (hP.ext (Ext.refl w).drew)).mono ?_
  rintro e2 w1 ⟨rfl, hP1, hM1⟩
  have hS1 := hM1.whole hS0 hne.1 (by simp)
  refine hK0 _ _ (fun h => absurd h (by decide)) ?_
  clear hK0 K0
  refine wpAnyT_only 10 #[true, true, true, true, true, true, true, true, true, true, true] (by kernel_rfl) rfl rfl (by rfl) (fun K1 hK1 => ?_)
  go_simp
  refine hK1 _ _ (fun h => absurd h (by decide)) (wpAnyT_done (by kernel_rfl) ?_ _)
  clear hK1 K1
  have H1 := hide (show BkTo w gb gc r p q1 e1 a w1 from by
    have h0 := H.out.ext (Ext.refl w).drew
    have h1 := h0.cursor ⟨hP1, hM1⟩
    exact ⟨h1.1, (Mod.ofExt (Ext.refl w).drew).trans h1.2 (.inl rfl)⟩)
  have hS1d := hS1.ext (Ext.refl w1).drew
  clear CI hP hM1 hS1 hW hS0
  go_wp2_with fail
  refine wp_region_T (fun W => Whole W gb 87 #[.pointer (some ⟨gc, 0, none⟩), .string ⟨a.toArray⟩]) 12 13 #[false, false, false, false, false, false, false, false, false, false, false, false, false] (by kernel_rfl) rfl rfl hS1d ?_
  intro hS0
  refine wpAnyT_take 0 (some 15) (.pointer (some ⟨gb, 0, none⟩)) #[true, false, false, false, false, false, false, false, false, false, false, false, false] rfl rfl rfl (by kernel_rfl) (fun _ _ _ h => h) hS0 (by rfl) (fun W hX => by have s0 := hX.at 0 (u := .pointer (some ⟨gc, 0, none⟩)) rfl; have s1 := hX.at 1 (u := .string ⟨a.toArray⟩) rfl; go_simp) ?_
  simp only [Act.put, List.setIfInBounds_toArray, List.set_cons_zero, List.set_cons_succ]
  refine wpAnyT_take 1 (some 16) (.pointer (some ⟨gb, 0, none⟩)) #[true, true, false, false, false, false, false, false, false, false, false, false, false] rfl rfl rfl (by kernel_rfl) (fun _ _ _ h => h) hS0 (by rfl) (fun W hX => by have s0 := hX.at 0 (u := .pointer (some ⟨gc, 0, none⟩)) rfl; have s1 := hX.at 1 (u := .string ⟨a.toArray⟩) rfl; go_simp) ?_
  simp only [Act.put, List.setIfInBounds_toArray, List.set_cons_zero, List.set_cons_succ]
  refine wpAnyT_take 2 (some 17) (.pointer (some ⟨gb, 1, none⟩)) #[true, true, true, false, false, false, false, false, false, false, false, false, false] rfl rfl rfl (by kernel_rfl) (fun _ _ _ h => h) hS0 (by rfl) (fun W hX => by have s0 := hX.at 0 (u := .pointer (some ⟨gc, 0, none⟩)) rfl; have s1 := hX.at 1 (u := .string ⟨a.toArray⟩) rfl; go_simp) ?_
  simp only [Act.put, List.setIfInBounds_toArray, List.set_cons_zero, List.set_cons_succ]
  refine wpAnyT_take 3 (some 18) (.string ⟨a.toArray⟩) #[true, true, true, true, false, false, false, false, false, false, false, false, false] rfl rfl rfl (by kernel_rfl) (fun _ _ _ h => h) hS0 (by rfl) (fun W hX => by have s0 := hX.at 0 (u := .pointer (some ⟨gc, 0, none⟩)) rfl; have s1 := hX.at 1 (u := .string ⟨a.toArray⟩) rfl; go_simp) ?_
  simp only [Act.put, List.setIfInBounds_toArray, List.set_cons_zero, List.set_cons_succ]
  refine wpAnyT_take 4 (some 19) (.int .i64 (n : Int)) #[true, true, true, true, true, false, false, false, false, false, false, false, false] rfl rfl rfl (by kernel_rfl) (fun _ _ _ h => h) hS0 (by rfl) (fun W hX => by have s0 := hX.at 0 (u := .pointer (some ⟨gc, 0, none⟩)) rfl; have s1 := hX.at 1 (u := .string ⟨a.toArray⟩) rfl; go_simp) ?_
  simp only [Act.put, List.setIfInBounds_toArray, List.set_cons_zero, List.set_cons_succ]
  refine wpAnyT_take 5 (some 20) (.string ⟨(a.take n).toArray⟩) #[true, true, true, true, true, true, false, false, false, false, false, false, false] rfl rfl rfl (by kernel_rfl) (fun _ _ _ h => h) hS0 (by rfl) (fun W hX => by have s0 := hX.at 0 (u := .pointer (some ⟨gc, 0, none⟩)) rfl; have s1 := hX.at 1 (u := .string ⟨a.toArray⟩) rfl; go_simp) ?_
  simp only [Act.put, List.setIfInBounds_toArray, List.set_cons_zero, List.set_cons_succ]
  refine wpAnyT_take 6 (some 21) (.pointer (some ⟨gb, 0, none⟩)) #[true, true, true, true, true, true, true, false, false, false, false, false, false] rfl rfl rfl (by kernel_rfl) (fun _ _ _ h => h) hS0 (by rfl) (fun W hX => by have s0 := hX.at 0 (u := .pointer (some ⟨gc, 0, none⟩)) rfl; have s1 := hX.at 1 (u := .string ⟨a.toArray⟩) rfl; go_simp) ?_
  simp only [Act.put, List.setIfInBounds_toArray, List.set_cons_zero, List.set_cons_succ]
  refine wpAnyT_take 7 (some 22) (.pointer (some ⟨gb, 0, none⟩)) #[true, true, true, true, true, true, true, true, false, false, false, false, false] rfl rfl rfl (by kernel_rfl) (fun _ _ _ h => h) hS0 (by rfl) (fun W hX => by have s0 := hX.at 0 (u := .pointer (some ⟨gc, 0, none⟩)) rfl; have s1 := hX.at 1 (u := .string ⟨a.toArray⟩) rfl; go_simp) ?_
  simp only [Act.put, List.setIfInBounds_toArray, List.set_cons_zero, List.set_cons_succ]
  refine wpAnyT_take 8 (some 23) (.pointer (some ⟨gb, 0, none⟩)) #[true, true, true, true, true, true, true, true, true, false, false, false, false] rfl rfl rfl (by kernel_rfl) (fun _ _ _ h => h) hS0 (by rfl) (fun W hX => by have s0 := hX.at 0 (u := .pointer (some ⟨gc, 0, none⟩)) rfl; have s1 := hX.at 1 (u := .string ⟨a.toArray⟩) rfl; go_simp) ?_
  simp only [Act.put, List.setIfInBounds_toArray, List.set_cons_zero, List.set_cons_succ]
  refine wpAnyT_take 9 (some 24) (.pointer (some ⟨gc, 0, none⟩)) #[true, true, true, true, true, true, true, true, true, true, false, false, false] rfl rfl rfl (by kernel_rfl) (fun _ _ _ h => h) hS0 (by rfl) (fun W hX => by have s0 := hX.at 0 (u := .pointer (some ⟨gc, 0, none⟩)) rfl; have s1 := hX.at 1 (u := .string ⟨a.toArray⟩) rfl; go_simp) ?_
  simp only [Act.put, List.setIfInBounds_toArray, List.set_cons_zero, List.set_cons_succ]
  refine wpAnyT_only 10 #[true, true, true, true, true, true, true, true, true, true, true, false, false] (by kernel_rfl) rfl rfl (by rfl) (fun K0 hK0 => ?_)
  go_simp
  refine (CT w1.drew (hP1.ext (Ext.refl w1).drew)).mono ?_
  rintro e2 w2 ⟨rfl, hP2, hM2⟩
  have hS2 := hM2.whole hS0 hne.1 (by simp)
  refine hK0 _ _ (fun _ => hS2) ?_
  clear hK0 K0
  refine wpAnyT_pure 11 (some 26) (.string ⟨x.toArray⟩) #[true, true, true, true, true, true, true, true, true, true, true, true, false] rfl rfl rfl (by kernel_rfl) (fun _ _ _ h => h) (fun _ => hS2) (by rfl) (fun W => by go_simp) ?_
  simp only [Act.put, List.setIfInBounds_toArray, List.set_cons_zero, List.set_cons_succ]
  refine wpAnyT_only 12 #[true, true, true, true, true, true, true, true, true, true, true, true, true] (by kernel_rfl) rfl rfl (by rfl) (fun K1 hK1 => ?_)
  go_simp
  refine hK1 _ _ (fun h => absurd h (by decide)) (wpAnyT_done (by kernel_rfl) ?_ _)
  clear hK1 K1
  have H2 := hide (show BkTo w gb gc r p q2 e2 a w2 from by
    have h0 := H1.out.1.ext (Ext.refl w1).drew
    have h1 := h0.cursor ⟨hP2, hM2⟩
    exact ⟨h1.1, H1.out.2.trans ((Mod.ofExt (Ext.refl w1).drew).trans h1.2 (.inl rfl)) (.inl rfl)⟩)
  have c0 := hS2.at 0 (u := .pointer (some ⟨gc, 0, none⟩)) rfl
  have c1 := hS2.at 1 (u := .string ⟨a.toArray⟩) rfl
  have hlt := hS2.lt
  clear CT hP1 hP2 hM2 hS2 hS1d hS0 hadd hna
  go_wp2_with fail
  refine (CS w2).mono ?_
  rintro e3 w3 ⟨rfl, hQ⟩
  have H3 := hide (show BkTo w gb gc r p q2 e2 a w3 from ⟨H2.out.1.ext hQ.ext, H2.out.2.trans (Mod.ofExt hQ.ext) (.inl rfl)⟩)
  have c0 := (hQ.ext.cell (i := 0) hlt).trans c0
  clear CS hQ
  by_cases hz : z = n
  · have hEe : E = e2 := by rw [HE.out, if_pos hz]
    subst hEe
    subst hz
    have CF := dFollowC_any H3.out.1 x (by omega)
    go_wp2_with fail
    refine CF.mono ?_
    rintro e4 w4 ⟨rfl, hB⟩
    have H4 := hide (H3.out.then hB)
    clear CF hB
    go_wp2
    go_ret
    exact ⟨rfl, H4.out⟩
  · have hzb : ((z : Int) != (n : Int)) = true := by rw [bne_iff_ne]; omega
    have CX := pcFail_any H3.out.1.cur 2
    have hEe : E = failR e2 2 := by rw [HE.out, if_neg hz]
    rw [← hEe] at CX
    clear hz hEe
    go_wp2_with fail
    refine CX.mono ?_
    rintro e4 w4 ⟨rfl, hB⟩
    have H4 := hide (H3.out.then (H3.out.1.cursor hB))
    have CF := dFollowC_any H4.out.1 x (by omega)
    clear CX hB
    go_wp2_with fail
    refine CF.mono ?_
    rintro e5 w5 ⟨rfl, hB⟩
    have H5 := hide (H4.out.then hB)
    clear CF hB
    go_wp2
    go_ret
    exact ⟨rfl, H5.out⟩
end Go.Proofs.Ytmaddohfkfnnhaa

