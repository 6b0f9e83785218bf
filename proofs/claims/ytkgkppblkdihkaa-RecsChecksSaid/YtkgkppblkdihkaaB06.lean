/- What goes on in the cursor's reading calls: a number that is at most so much, a fixed number, bytes, a text. Pieces of the program's row: cloned, and told as a text. The program's cursor: Int, Byte, Fixed, Take, Text, whatever its state. The program's reader of records of chapter 17: readerOf, record, records, Read. copy into a slice of bytes of the call's own, also out of itself; make of many bytes. slices.Repeat of one byte. The program's reader of columns of chapter 17: isLast, times, levels, ReadColumns. -/
import Derived.Test.YtkgkppblkdihkaaB01
import Derived.Test.YtkgkppblkdihkaaB02
import Derived.Test.YtkgkppblkdihkaaB03
import Derived.Test.YtkgkppblkdihkaaB04
import Derived.Test.YtkgkppblkdihkaaB05
import Derived.Laws.IdiomCopy
import Derived.Laws.Bits64b
import Derived.StillTailTactics
import Derived.Deep.DeepCutAuto
namespace Go.Proofs.Ytkgkppblkdihkaa
open Go.RowKit

theorem Told.ext0 {w w' : World} {g r t q : Nat} {T : TypeId} {b : List UInt8} {v : Value} (h : PC w g r b q 0) (ht : Whole w t T #[v]) (hE : Ext w w') : Told w g r t T b v q w' := ⟨h.ext hE, ht.ext hE, Mod.ofExt hE⟩
/-- Behind a closure that tells bytes of the row. -/
def ToldRow (w : World) (g r t : Nat) (b l : List UInt8) (q : Nat) (w' : World) : Prop := ∃ A n c, PC w' g r b q 0 ∧ Whole w' t 85 #[.slice A n c] ∧ n ≤ c ∧ RowIn w' g r A n l ∧ Mod w w' g (some t)
theorem ToldRow.from {w w' w'' : World} {g r t q : Nat} {b l : List UInt8} (hE : Ext w w') (h : ToldRow w' g r t b l q w'') : ToldRow w g r t b l q w'' := by
  obtain ⟨A, n, c, h1, h2, h3, h4, h5⟩ := h
  exact ⟨A, n, c, h1, h2, h3, h4, (Mod.ofExt hE).trans h5 (.inl rfl)⟩
theorem ToldRow.ext0 {w w' : World} {g r t q : Nat} {b : List UInt8} (h : PC w g r b q 0) (ht : Whole w t 85 #[.slice none 0 0]) (hE : Ext w w') : ToldRow w g r t b [] q w' := ⟨none, 0, 0, h.ext hE, ht.ext hE, Nat.le_refl _, ⟨rfl, .inl rfl⟩, Mod.ofExt hE⟩
theorem ToldRow.of {w w' : World} {g r t q q0 nx cx : Nat} {e : Int} {b l : List UInt8} {Ax : Option Addr} (h : PC w g r b q0 e) (htr : t ≠ r) (hx : RowIn w g r Ax nx l) (hn : nx ≤ cx) (hT : Told w g r t 85 b (.slice Ax nx cx) q w') : ToldRow w g r t b l q w' :=
  ⟨Ax, nx, cx, hT.1, hT.2.1, hn, hx.mod hT.2.2 h.rlt (by simpa using htr), hT.2.2⟩

theorem entered_tellInt : Entered 92 := entered_of Try.func92 (by kernel_rfl) rfl
theorem entered_tellRow : Entered 97 := entered_of Try.func97 (by kernel_rfl) rfl

theorem intGoes {w : World} {g r t Bt Bc q m c : Nat} {b : List UInt8} {A : Option Addr} {most : Int} (hm : most ≤ 9223372036854775807) (h : PC w g r b q 0) (hrow : w.cell? ⟨g, 0, none⟩ = some (.slice A m c)) (hBt : w.cell? ⟨Bt, 0, none⟩ = some (.pointer (some ⟨t, 0, none⟩))) (hBc : w.cell? ⟨Bc, 0, none⟩ = some (.pointer (some ⟨g, 0, none⟩)))
    (ht : Whole w t 3 #[.int .i64 0]) (htg : t ≠ g) (htr : t ≠ r) (hct : Bc ≠ t) (hcg : Bc ≠ g) :
    Calls Try.prog 81 #[.slice A m c, .int .i64 most, .func (.func 92) #[] #[.pointer (some ⟨Bt, 0, none⟩), .pointer (some ⟨Bc, 0, none⟩)]] w
      fun e w' => e = .returned (.int .i64 (Num.intR b q 0 most).2.2) ∧ Told w g r t 3 b (.int .i64 (((Num.intR b q 0 most).1 : Nat) : Int)) (Num.intR b q 0 most).2.1 w' := by
  obtain ⟨A0, c0, d0, _, _, _, _, _, hc0, hR0⟩ := h.cells
  rw [hrow] at d0
  simp only [Option.some.injEq, Value.slice.injEq] at d0
  obtain ⟨rfl, rfl, rfl⟩ := d0
  have hl := h.bounds
  have hI : Num.intR b q 0 most = (if (Num.numR b q 0).2.2 = 0 then (if most < ((Num.numR b q 0).1 : Int) then (0, q, 6) else Num.numR b q 0) else (0, (Num.numR b q 0).2.1, (Num.numR b q 0).2.2)) := rfl
  rw [show Num.numR b q 0 = Num.scan b q from rfl, Num.scan_drop b q] at hI
  have hf := Num.scan_facts (b.drop q) 0
  have hlen : (b.drop q).length = b.length - q := List.length_drop
  have := count_any (w := w) (A := A) (c := c) (l := b.drop q) (most := most) (K := 92) (cap := #[.pointer (some ⟨Bt, 0, none⟩), .pointer (some ⟨Bc, 0, none⟩)])
    (R := fun e w' => e = .returned (.int .i64 (Num.intR b q 0 most).2.2) ∧ Told w g r t 3 b (.int .i64 (((Num.intR b q 0 most).1 : Nat) : Int)) (Num.intR b q 0 most).2.1 w')
    entered_tellInt hm (by rw [hlen]; exact hR0.bytes) (by omega) (by omega) (fun e w' he => ⟨_, he.1⟩)
    (fun er w' hE hcase => by
      rcases hcase with ⟨rfl, h0⟩ | ⟨h0, h6, rfl⟩
      · obtain ⟨h1, h2⟩ := hf.2.2.1 h0
        rw [if_neg h0, h1] at hI
        rw [hI]
        exact ⟨rfl, Told.ext0 h ht hE⟩
      · rw [if_pos h0, if_pos h6] at hI
        rw [hI]
        exact ⟨rfl, Told.ext0 h ht hE⟩)
    (fun h0 hle w' hE => by
      obtain ⟨h1, h2⟩ := hf.2.1 h0
      rw [if_pos h0, if_neg (by omega)] at hI
      rw [hI, h0]
      have hRd := (hR0.drop (k := (Num.scan (b.drop q) 0).2.1) (by omega) hc0)
      rw [List.drop_drop, Nat.sub_sub] at hRd
      rw [hlen, Nat.sub_sub]
      have hBlt := World.block_lt_of_cell? w ⟨Bt, 0, none⟩ hBt
      have hClt := World.block_lt_of_cell? w ⟨Bc, 0, none⟩ hBc
      refine (tellInt_any (h.ext hE) (by omega) (by omega) ((hE.cell hBlt).trans hBt) ((hE.cell hClt).trans hBc) (ht.ext hE) htg htr hct hcg (hRd.at (hE.block r h.rlt)) (by omega)).mono ?_
      rintro e w2 ⟨rfl, hT⟩
      exact ⟨rfl, Told.from hE hT⟩)
  rwa [hlen] at this

theorem fixGoes {w : World} {g r t Bt Bc q m c : Nat} {b : List UInt8} {A : Option Addr} {n : Int} (h : PC w g r b q 0) (hrow : w.cell? ⟨g, 0, none⟩ = some (.slice A m c)) (hBt : w.cell? ⟨Bt, 0, none⟩ = some (.pointer (some ⟨t, 0, none⟩))) (hBc : w.cell? ⟨Bc, 0, none⟩ = some (.pointer (some ⟨g, 0, none⟩)))
    (ht : Whole w t 40 #[.int .u64 0]) (htg : t ≠ g) (htr : t ≠ r) (hct : Bc ≠ t) (hcg : Bc ≠ g) :
    Calls Try.prog 90 #[.slice A m c, .int .i64 n, .func (.func 88) #[] #[.pointer (some ⟨Bt, 0, none⟩), .pointer (some ⟨Bc, 0, none⟩)]] w
      fun e w' => e = .returned (.int .i64 (Num.fixedR b q 0 n).2.2) ∧ Told w g r t 40 b (.int .u64 (((Num.fixedR b q 0 n).1 : Nat) : Int)) (Num.fixedR b q 0 n).2.1 w' := by
  obtain ⟨A0, c0, d0, _, _, _, _, _, hc0, hR0⟩ := h.cells
  rw [hrow] at d0
  simp only [Option.some.injEq, Value.slice.injEq] at d0
  obtain ⟨rfl, rfl, rfl⟩ := d0
  have hl := h.bounds
  have hlen : (b.drop q).length = b.length - q := List.length_drop
  have := fixed_any (w := w) (A := A) (c := c) (n := n) (l := b.drop q) (K := 88) (cap := #[.pointer (some ⟨Bt, 0, none⟩), .pointer (some ⟨Bc, 0, none⟩)])
    (R := fun e w' => e = .returned (.int .i64 (Num.fixedR b q 0 n).2.2) ∧ Told w g r t 40 b (.int .u64 (((Num.fixedR b q 0 n).1 : Nat) : Int)) (Num.fixedR b q 0 n).2.1 w')
    entered_tell64 (by rw [hlen]; exact hR0.bytes) (by omega) (fun e w' he => ⟨_, he.1⟩)
    (fun er w' hE hcase => by
      rcases hcase with ⟨h13, rfl⟩ | ⟨h1, h8, hbig, rfl⟩
      · have hF : Num.fixedR b q 0 n = (0, q, 13) := by unfold Num.fixedR; rw [if_pos rfl, if_pos h13]
        rw [hF]
        exact ⟨rfl, Told.ext0 h ht hE⟩
      · have hF : Num.fixedR b q 0 n = (0, q, 1) := by
          unfold Num.fixedR Num.takeR
          rw [if_pos rfl, if_neg (by omega), if_pos rfl, if_neg (by omega), if_pos (by omega)]
          rfl
        rw [hF]
        exact ⟨rfl, Told.ext0 h ht hE⟩)
    (fun k hk h1 h8 hkm w' hE => by
      subst hk
      have hF : Num.fixedR b q 0 (k : Int) = (Num.low ((b.drop q).take k), q + k, 0) := by
        unfold Num.fixedR Num.takeR
        rw [if_pos rfl, if_neg (by omega), if_pos rfl, if_neg (by omega), if_neg (by omega)]
        rfl
      rw [hF]
      have hRd := (hR0.drop (k := k) (by omega) hc0)
      rw [List.drop_drop, Nat.sub_sub] at hRd
      rw [hlen, Nat.sub_sub]
      have hBlt := World.block_lt_of_cell? w ⟨Bt, 0, none⟩ hBt
      have hClt := World.block_lt_of_cell? w ⟨Bc, 0, none⟩ hBc
      refine (tell64_any (h.ext hE) (by omega) (by omega) ((hE.cell hBlt).trans hBt) ((hE.cell hClt).trans hBc) (ht.ext hE) htg htr hct hcg (hRd.at (hE.block r h.rlt)) (by omega)).mono ?_
      rintro e w2 ⟨rfl, hT⟩
      exact ⟨rfl, Told.from hE hT⟩)
  rwa [hlen] at this

theorem takeGoes {w : World} {g r t Bt Bc q m c : Nat} {b : List UInt8} {A : Option Addr} {n : Int} (h : PC w g r b q 0) (hrow : w.cell? ⟨g, 0, none⟩ = some (.slice A m c)) (hBt : w.cell? ⟨Bt, 0, none⟩ = some (.pointer (some ⟨t, 0, none⟩))) (hBc : w.cell? ⟨Bc, 0, none⟩ = some (.pointer (some ⟨g, 0, none⟩)))
    (ht : Whole w t 85 #[.slice none 0 0]) (htg : t ≠ g) (htr : t ≠ r) (hct : Bc ≠ t) (hcg : Bc ≠ g) :
    Calls Try.prog 96 #[.slice A m c, .int .i64 n, .func (.func 97) #[] #[.pointer (some ⟨Bt, 0, none⟩), .pointer (some ⟨Bc, 0, none⟩)]] w
      fun e w' => e = .returned (.int .i64 (Num.takeR b q 0 n).2.2) ∧ ToldRow w g r t b (Num.takeR b q 0 n).1 (Num.takeR b q 0 n).2.1 w' := by
  obtain ⟨A0, c0, d0, _, _, _, _, _, hc0, hR0⟩ := h.cells
  rw [hrow] at d0
  simp only [Option.some.injEq, Value.slice.injEq] at d0
  obtain ⟨rfl, rfl, rfl⟩ := d0
  have hl := h.bounds
  refine first_any (w := w) (A := A) (m := b.length - q) (c := c) (n := n) (K := 97) (cap := #[.pointer (some ⟨Bt, 0, none⟩), .pointer (some ⟨Bc, 0, none⟩)]) entered_tellRow hc0 (fun e w' he => ⟨_, he.1⟩) (fun h0 => ?_) (fun h0 => ?_) (fun k hk hkm => ?_)
  · have hF : Num.takeR b q 0 n = ([], q, 13) := by unfold Num.takeR; rw [if_pos rfl, if_pos h0]
    rw [hF]
    exact ⟨rfl, ToldRow.ext0 h ht (Ext.refl _)⟩
  · have hF : Num.takeR b q 0 n = ([], q, 1) := by unfold Num.takeR; rw [if_pos rfl, if_neg (by omega), if_pos h0]
    rw [hF]
    exact ⟨rfl, ToldRow.ext0 h ht (Ext.refl _)⟩
  · subst hk
    have hF : Num.takeR b q 0 (k : Int) = ((b.drop q).take k, q + k, 0) := by unfold Num.takeR; rw [if_pos rfl, if_neg (by omega), if_neg (by omega)]; rfl
    rw [hF]
    have hE : Ext w w.drew := (Ext.refl w).drew
    have hRd := (hR0.drop (k := k) (by omega) hc0)
    rw [List.drop_drop, Nat.sub_sub] at hRd
    rw [Nat.sub_sub]
    have hRt := ((hR0.drop (k := 0) (by omega) hc0)).take (k := k) (by omega)
    rw [List.drop_zero] at hRt
    have hRt' := hRt.at (hE.block r h.rlt)
    have hBlt := World.block_lt_of_cell? w ⟨Bt, 0, none⟩ hBt
    have hClt := World.block_lt_of_cell? w ⟨Bc, 0, none⟩ hBc
    refine (tellRow_any (h.ext hE) (by omega) (by omega) ((hE.cell hBlt).trans hBt) ((hE.cell hClt).trans hBc) (ht.ext hE) htg htr hct hcg (hRd.at (hE.block r h.rlt)) (by omega)).mono ?_
    rintro e w2 ⟨rfl, hT⟩
    exact ⟨rfl, ToldRow.from hE (ToldRow.of (h.ext hE) htr hRt' (by omega) hT)⟩

theorem textGoes {w : World} {g r t Bt Bc q m c : Nat} {b : List UInt8} {A : Option Addr} {most : Int} (hm : most ≤ 9223372036854775807) (h : PC w g r b q 0) (hrow : w.cell? ⟨g, 0, none⟩ = some (.slice A m c)) (hBt : w.cell? ⟨Bt, 0, none⟩ = some (.pointer (some ⟨t, 0, none⟩))) (hBc : w.cell? ⟨Bc, 0, none⟩ = some (.pointer (some ⟨g, 0, none⟩)))
    (ht : Whole w t 85 #[.slice none 0 0]) (htg : t ≠ g) (htr : t ≠ r) (hct : Bc ≠ t) (hcg : Bc ≠ g) :
    Calls Try.prog 86 #[.slice A m c, .int .i64 most, .func (.func 97) #[] #[.pointer (some ⟨Bt, 0, none⟩), .pointer (some ⟨Bc, 0, none⟩)]] w
      fun e w' => e = .returned (.int .i64 (Num.textR b q 0 most).2.2) ∧ ToldRow w g r t b (Num.textR b q 0 most).1 (Num.textR b q 0 most).2.1 w' := by
  obtain ⟨A0, c0, d0, _, _, _, _, _, hc0, hR0⟩ := h.cells
  rw [hrow] at d0
  simp only [Option.some.injEq, Value.slice.injEq] at d0
  obtain ⟨rfl, rfl, rfl⟩ := d0
  have hl := h.bounds
  have hI : Num.intR b q 0 most = (if (Num.numR b q 0).2.2 = 0 then (if most < ((Num.numR b q 0).1 : Int) then (0, q, 6) else Num.numR b q 0) else (0, (Num.numR b q 0).2.1, (Num.numR b q 0).2.2)) := rfl
  rw [show Num.numR b q 0 = Num.scan b q from rfl, Num.scan_drop b q] at hI
  have hf := Num.scan_facts (b.drop q) 0
  have hlen : (b.drop q).length = b.length - q := List.length_drop
  have := text_any (w := w) (A := A) (c := c) (l := b.drop q) (most := most) (K := 97) (cap := #[.pointer (some ⟨Bt, 0, none⟩), .pointer (some ⟨Bc, 0, none⟩)])
    (R := fun e w' => e = .returned (.int .i64 (Num.textR b q 0 most).2.2) ∧ ToldRow w g r t b (Num.textR b q 0 most).1 (Num.textR b q 0 most).2.1 w')
    entered_tellRow hm (by rw [hlen]; exact hR0.bytes) (by omega) (by omega) (fun e w' he => ⟨_, he.1⟩)
    (fun er w' hE hcase => by
      rcases hcase with ⟨rfl, h0⟩ | ⟨h0, h6, rfl⟩ | ⟨h0, hle, hs, rfl⟩
      · obtain ⟨h1, h2⟩ := hf.2.2.1 h0
        rw [if_neg h0, h1] at hI
        have hF : Num.textR b q 0 most = ([], q, (Num.scan (b.drop q) 0).2.2) := by unfold Num.textR; rw [hI, if_neg h0]; rfl
        rw [hF]
        exact ⟨rfl, ToldRow.ext0 h ht hE⟩
      · rw [if_pos h0, if_pos h6] at hI
        have hF : Num.textR b q 0 most = ([], q, 6) := by unfold Num.textR; rw [hI, if_neg (by simp)]
        rw [hF]
        exact ⟨rfl, ToldRow.ext0 h ht hE⟩
      · obtain ⟨h1, h2⟩ := hf.2.1 h0
        rw [if_pos h0, if_neg (by omega)] at hI
        have hF : Num.textR b q 0 most = ([], q, 1) := by
          unfold Num.textR
          rw [hI, if_pos h0, if_pos (by simp only; omega)]
        rw [hF]
        exact ⟨rfl, ToldRow.ext0 h ht hE⟩)
    (fun h0 hle hs w' hE => by
      obtain ⟨h1, h2⟩ := hf.2.1 h0
      rw [if_pos h0, if_neg (by omega)] at hI
      generalize hx : (Num.scan (b.drop q) 0).1 = x at *
      generalize hp : (Num.scan (b.drop q) 0).2.1 = p at *
      have hF : Num.textR b q 0 most = ((b.drop (q + p)).take x, q + p + x, 0) := by
        unfold Num.textR
        rw [hI, if_pos h0, if_neg (by simp only; omega)]
        unfold Num.takeR
        rw [if_pos rfl, if_neg (by omega), if_neg (by simp only; omega)]
        rfl
      rw [hF]
      have hRd := hR0.drop (k := p) (by omega) hc0
      rw [List.drop_drop] at hRd
      have hRx := hRd.drop (k := x) (c := c - p) (by omega) (by omega)
      rw [List.drop_drop, show b.length - q - p - x = b.length - (q + p + x) by omega] at hRx
      have hRt := (hRd.drop (k := 0) (c := c - p) (by omega) (by omega)).take (k := x) (by omega)
      rw [List.drop_zero] at hRt
      have hRt' := hRt.at (hE.block r h.rlt)
      rw [hlen, show b.length - q - p - x = b.length - (q + p + x) by omega]
      have hBlt := World.block_lt_of_cell? w ⟨Bt, 0, none⟩ hBt
      have hClt := World.block_lt_of_cell? w ⟨Bc, 0, none⟩ hBc
      refine (tellRow_any (h.ext hE) (by omega) (by omega) ((hE.cell hBlt).trans hBt) ((hE.cell hClt).trans hBc) (ht.ext hE) htg htr hct hcg (hRx.at (hE.block r h.rlt)) (by omega)).mono ?_
      rintro e w2 ⟨rfl, hT⟩
      exact ⟨rfl, ToldRow.from hE (ToldRow.of (h.ext hE) htr hRt' (by omega) hT)⟩)
  rwa [hlen] at this

theorem entered_int1 : Entered 80 := entered_of Try.func80 (by kernel_rfl) rfl
set_option maxHeartbeats 2000000 in
set_option maxRecDepth 100000 in
theorem int1_any {w : World} {g r t B0 B1 q : Nat} {b : List UInt8} {most : Int} (hm : most ≤ 9223372036854775807) (h : PC w g r b q 0) (hB0 : w.cell? ⟨B0, 0, none⟩ = some (.pointer (some ⟨g, 0, none⟩))) (hB1 : w.cell? ⟨B1, 0, none⟩ = some (.int .i64 most)) (ht : Whole w t 3 #[.int .i64 0]) (htg : t ≠ g) (htr : t ≠ r) :
    Calls Try.prog 80 #[.pointer (some ⟨B0, 0, none⟩), .pointer (some ⟨B1, 0, none⟩), .pointer (some ⟨t, 0, none⟩)] w
      fun e w' => e = .returned (.int .i64 (Num.intR b q 0 most).2.2) ∧ Told w g r t 3 b (.int .i64 (((Num.intR b q 0 most).1 : Nat) : Int)) (Num.intR b q 0 most).2.1 w' := by
  obtain ⟨A, c, c0, x1, x2, x3, x4, x5, hc, hR⟩ := h.cells
  clear x1 x2 x3 x4 x5
  have hglt := h.lt
  have htlt := ht.lt
  have hBlt := World.block_lt_of_cell? w ⟨B0, 0, none⟩ hB0
  have hBlt1 := World.block_lt_of_cell? w ⟨B1, 0, none⟩ hB1
  have HP := hide h
  have HT := hide ht
  clear h ht hR hc
  go_enter Try.func80, Try.ntmps80
  go_wp2
  refine wp_region_T (fun W => W.cell? ⟨B0, 0, none⟩ = some (.pointer (some ⟨g, 0, none⟩)) ∧ W.cell? ⟨B1, 0, none⟩ = some (.int .i64 most) ∧ W.cell? ⟨g, 0, none⟩ = some (.slice A (b.length - q) c)) 7 9 #[false, false, false, false, false, false, false, false, false] (by kernel_rfl) rfl rfl ⟨hB0, hB1, c0⟩ ?_
  intro hS0
  refine wpAnyT_take 0 (some 4) (.pointer (some ⟨g, 0, none⟩)) #[true, false, false, false, false, false, false, false, false] rfl rfl rfl (by kernel_rfl) (fun _ _ _ h => h) hS0 (by rfl) (fun W ⟨s0, s1, s2⟩ => by go_simp) ?_
  simp only [Act.put, List.setIfInBounds_toArray, List.set_cons_zero, List.set_cons_succ]
  refine wpAnyT_take 1 (some 5) (.pointer (some ⟨g, 0, none⟩)) #[true, true, false, false, false, false, false, false, false] rfl rfl rfl (by kernel_rfl) (fun _ _ _ h => h) hS0 (by rfl) (fun W ⟨s0, s1, s2⟩ => by go_simp) ?_
  simp only [Act.put, List.setIfInBounds_toArray, List.set_cons_zero, List.set_cons_succ]
  refine wpAnyT_take 2 (some 6) (.pointer (some ⟨g, 0, none⟩)) #[true, true, true, false, false, false, false, false, false] rfl rfl rfl (by kernel_rfl) (fun _ _ _ h => h) hS0 (by rfl) (fun W ⟨s0, s1, s2⟩ => by go_simp) ?_
  simp only [Act.put, List.setIfInBounds_toArray, List.set_cons_zero, List.set_cons_succ]
  refine wpAnyT_take 3 (some 7) (.slice A (b.length - q) c) #[true, true, true, true, false, false, false, false, false] rfl rfl rfl (by kernel_rfl) (fun _ _ _ h => h) hS0 (by rfl) (fun W ⟨s0, s1, s2⟩ => by go_simp) ?_
  simp only [Act.put, List.setIfInBounds_toArray, List.set_cons_zero, List.set_cons_succ]
  refine wpAnyT_take 4 (some 8) (.int .i64 most) #[true, true, true, true, true, false, false, false, false] rfl rfl rfl (by kernel_rfl) (fun _ _ _ h => h) hS0 (by rfl) (fun W ⟨s0, s1, s2⟩ => by go_simp) ?_
  simp only [Act.put, List.setIfInBounds_toArray, List.set_cons_zero, List.set_cons_succ]
  refine wpAnyT_take 5 (some 9) (.pointer (some ⟨g, 0, none⟩)) #[true, true, true, true, true, true, false, false, false] rfl rfl rfl (by kernel_rfl) (fun _ _ _ h => h) hS0 (by rfl) (fun W ⟨s0, s1, s2⟩ => by go_simp) ?_
  simp only [Act.put, List.setIfInBounds_toArray, List.set_cons_zero, List.set_cons_succ]
  refine wpAnyT_only 6 #[true, true, true, true, true, true, true, false, false] (by kernel_rfl) rfl rfl (by rfl) (fun K hK => ?_)
  go_simp
  refine (takerInt_any g t _).mono ?_
  rintro e w2 ⟨Bt, Bc, rfl, _, hBc1, hBt, hBc, hE2'⟩
  have hE2 : Ext w w2 := (Ext.refl w).drew.trans hE2'
  have k0 := (hE2.cell (i := 0) hBlt).trans hB0
  have kn := (hE2.cell (i := 0) hBlt1).trans hB1
  have k1 := (hE2.cell (i := 0) hglt).trans c0
  change w.heap.size ≤ Bc at hBc1
  refine hK _ _ (fun _ => ⟨k0, kn, k1⟩) ?_
  clear hK K
  refine wpAnyT_only 7 #[true, true, true, true, true, true, true, true, false] (by kernel_rfl) rfl rfl (by rfl) (fun K hK => ?_)
  go_simp
  refine (intGoes hm (HP.out.ext hE2) k1 hBt hBc (HT.out.ext hE2) htg htr (by omega) (by omega)).mono ?_
  rintro e w3 ⟨rfl, hT3⟩
  refine hK _ _ (fun h => absurd h (by decide)) ?_
  clear hK K
  refine wpAnyT_only 8 #[true, true, true, true, true, true, true, true, true] (by kernel_rfl) rfl rfl (by rfl) (fun K hK => ?_)
  go_simp
  refine hK _ _ (fun h => absurd h (by decide)) ?_
  refine wpAnyT_done (by kernel_rfl) ?_ _
  go_wp2
  go_ret
  exact ⟨rfl, Told.from hE2 hT3⟩

theorem entered_cfixed1 : Entered 89 := entered_of Try.func89 (by kernel_rfl) rfl
set_option maxHeartbeats 2000000 in
set_option maxRecDepth 100000 in
theorem cfixed1_any {w : World} {g r t B0 B1 q : Nat} {b : List UInt8} {n : Int} (h : PC w g r b q 0) (hB0 : w.cell? ⟨B0, 0, none⟩ = some (.pointer (some ⟨g, 0, none⟩))) (hB1 : w.cell? ⟨B1, 0, none⟩ = some (.int .i64 n)) (ht : Whole w t 40 #[.int .u64 0]) (htg : t ≠ g) (htr : t ≠ r) :
    Calls Try.prog 89 #[.pointer (some ⟨B0, 0, none⟩), .pointer (some ⟨B1, 0, none⟩), .pointer (some ⟨t, 0, none⟩)] w
      fun e w' => e = .returned (.int .i64 (Num.fixedR b q 0 n).2.2) ∧ Told w g r t 40 b (.int .u64 (((Num.fixedR b q 0 n).1 : Nat) : Int)) (Num.fixedR b q 0 n).2.1 w' := by
  obtain ⟨A, c, c0, x1, x2, x3, x4, x5, hc, hR⟩ := h.cells
  clear x1 x2 x3 x4 x5
  have hglt := h.lt
  have htlt := ht.lt
  have hBlt := World.block_lt_of_cell? w ⟨B0, 0, none⟩ hB0
  have hBlt1 := World.block_lt_of_cell? w ⟨B1, 0, none⟩ hB1
  have HP := hide h
  have HT := hide ht
  clear h ht hR hc
  go_enter Try.func89, Try.ntmps89
  go_wp2
  refine wp_region_T (fun W => W.cell? ⟨B0, 0, none⟩ = some (.pointer (some ⟨g, 0, none⟩)) ∧ W.cell? ⟨B1, 0, none⟩ = some (.int .i64 n) ∧ W.cell? ⟨g, 0, none⟩ = some (.slice A (b.length - q) c)) 7 9 #[false, false, false, false, false, false, false, false, false] (by kernel_rfl) rfl rfl ⟨hB0, hB1, c0⟩ ?_
  intro hS0
  refine wpAnyT_take 0 (some 4) (.pointer (some ⟨g, 0, none⟩)) #[true, false, false, false, false, false, false, false, false] rfl rfl rfl (by kernel_rfl) (fun _ _ _ h => h) hS0 (by rfl) (fun W ⟨s0, s1, s2⟩ => by go_simp) ?_
  simp only [Act.put, List.setIfInBounds_toArray, List.set_cons_zero, List.set_cons_succ]
  refine wpAnyT_take 1 (some 5) (.pointer (some ⟨g, 0, none⟩)) #[true, true, false, false, false, false, false, false, false] rfl rfl rfl (by kernel_rfl) (fun _ _ _ h => h) hS0 (by rfl) (fun W ⟨s0, s1, s2⟩ => by go_simp) ?_
  simp only [Act.put, List.setIfInBounds_toArray, List.set_cons_zero, List.set_cons_succ]
  refine wpAnyT_take 2 (some 6) (.pointer (some ⟨g, 0, none⟩)) #[true, true, true, false, false, false, false, false, false] rfl rfl rfl (by kernel_rfl) (fun _ _ _ h => h) hS0 (by rfl) (fun W ⟨s0, s1, s2⟩ => by go_simp) ?_
  simp only [Act.put, List.setIfInBounds_toArray, List.set_cons_zero, List.set_cons_succ]
  refine wpAnyT_take 3 (some 7) (.slice A (b.length - q) c) #[true, true, true, true, false, false, false, false, false] rfl rfl rfl (by kernel_rfl) (fun _ _ _ h => h) hS0 (by rfl) (fun W ⟨s0, s1, s2⟩ => by go_simp) ?_
  simp only [Act.put, List.setIfInBounds_toArray, List.set_cons_zero, List.set_cons_succ]
  refine wpAnyT_take 4 (some 8) (.int .i64 n) #[true, true, true, true, true, false, false, false, false] rfl rfl rfl (by kernel_rfl) (fun _ _ _ h => h) hS0 (by rfl) (fun W ⟨s0, s1, s2⟩ => by go_simp) ?_
  simp only [Act.put, List.setIfInBounds_toArray, List.set_cons_zero, List.set_cons_succ]
  refine wpAnyT_take 5 (some 9) (.pointer (some ⟨g, 0, none⟩)) #[true, true, true, true, true, true, false, false, false] rfl rfl rfl (by kernel_rfl) (fun _ _ _ h => h) hS0 (by rfl) (fun W ⟨s0, s1, s2⟩ => by go_simp) ?_
  simp only [Act.put, List.setIfInBounds_toArray, List.set_cons_zero, List.set_cons_succ]
  refine wpAnyT_only 6 #[true, true, true, true, true, true, true, false, false] (by kernel_rfl) rfl rfl (by rfl) (fun K hK => ?_)
  go_simp
  refine (taker64_any g t _).mono ?_
  rintro e w2 ⟨Bt, Bc, rfl, _, hBc1, hBt, hBc, hE2'⟩
  have hE2 : Ext w w2 := (Ext.refl w).drew.trans hE2'
  have k0 := (hE2.cell (i := 0) hBlt).trans hB0
  have kn := (hE2.cell (i := 0) hBlt1).trans hB1
  have k1 := (hE2.cell (i := 0) hglt).trans c0
  change w.heap.size ≤ Bc at hBc1
  refine hK _ _ (fun _ => ⟨k0, kn, k1⟩) ?_
  clear hK K
  refine wpAnyT_only 7 #[true, true, true, true, true, true, true, true, false] (by kernel_rfl) rfl rfl (by rfl) (fun K hK => ?_)
  go_simp
  refine (fixGoes (HP.out.ext hE2) k1 hBt hBc (HT.out.ext hE2) htg htr (by omega) (by omega)).mono ?_
  rintro e w3 ⟨rfl, hT3⟩
  refine hK _ _ (fun h => absurd h (by decide)) ?_
  clear hK K
  refine wpAnyT_only 8 #[true, true, true, true, true, true, true, true, true] (by kernel_rfl) rfl rfl (by rfl) (fun K hK => ?_)
  go_simp
  refine hK _ _ (fun h => absurd h (by decide)) ?_
  refine wpAnyT_done (by kernel_rfl) ?_ _
  go_wp2
  go_ret
  exact ⟨rfl, Told.from hE2 hT3⟩

theorem entered_ctext1 : Entered 85 := entered_of Try.func85 (by kernel_rfl) rfl
set_option maxHeartbeats 2000000 in
set_option maxRecDepth 100000 in
theorem ctext1_any {w : World} {g r t B0 B1 q : Nat} {b : List UInt8} {most : Int} (hm : most ≤ 9223372036854775807) (h : PC w g r b q 0) (hB0 : w.cell? ⟨B0, 0, none⟩ = some (.pointer (some ⟨g, 0, none⟩))) (hB1 : w.cell? ⟨B1, 0, none⟩ = some (.int .i64 most)) (ht : Whole w t 85 #[.slice none 0 0]) (htg : t ≠ g) (htr : t ≠ r) :
    Calls Try.prog 85 #[.pointer (some ⟨B0, 0, none⟩), .pointer (some ⟨B1, 0, none⟩), .pointer (some ⟨t, 0, none⟩)] w
      fun e w' => e = .returned (.int .i64 (Num.textR b q 0 most).2.2) ∧ ToldRow w g r t b (Num.textR b q 0 most).1 (Num.textR b q 0 most).2.1 w' := by
  obtain ⟨A, c, c0, x1, x2, x3, x4, x5, hc, hR⟩ := h.cells
  clear x1 x2 x3 x4 x5
  have hglt := h.lt
  have htlt := ht.lt
  have hBlt := World.block_lt_of_cell? w ⟨B0, 0, none⟩ hB0
  have hBlt1 := World.block_lt_of_cell? w ⟨B1, 0, none⟩ hB1
  have HP := hide h
  have HT := hide ht
  clear h ht hR hc
  go_enter Try.func85, Try.ntmps85
  go_wp2
  refine wp_region_T (fun W => W.cell? ⟨B0, 0, none⟩ = some (.pointer (some ⟨g, 0, none⟩)) ∧ W.cell? ⟨B1, 0, none⟩ = some (.int .i64 most) ∧ W.cell? ⟨g, 0, none⟩ = some (.slice A (b.length - q) c)) 7 9 #[false, false, false, false, false, false, false, false, false] (by kernel_rfl) rfl rfl ⟨hB0, hB1, c0⟩ ?_
  intro hS0
  refine wpAnyT_take 0 (some 4) (.pointer (some ⟨g, 0, none⟩)) #[true, false, false, false, false, false, false, false, false] rfl rfl rfl (by kernel_rfl) (fun _ _ _ h => h) hS0 (by rfl) (fun W ⟨s0, s1, s2⟩ => by go_simp) ?_
  simp only [Act.put, List.setIfInBounds_toArray, List.set_cons_zero, List.set_cons_succ]
  refine wpAnyT_take 1 (some 5) (.pointer (some ⟨g, 0, none⟩)) #[true, true, false, false, false, false, false, false, false] rfl rfl rfl (by kernel_rfl) (fun _ _ _ h => h) hS0 (by rfl) (fun W ⟨s0, s1, s2⟩ => by go_simp) ?_
  simp only [Act.put, List.setIfInBounds_toArray, List.set_cons_zero, List.set_cons_succ]
  refine wpAnyT_take 2 (some 6) (.pointer (some ⟨g, 0, none⟩)) #[true, true, true, false, false, false, false, false, false] rfl rfl rfl (by kernel_rfl) (fun _ _ _ h => h) hS0 (by rfl) (fun W ⟨s0, s1, s2⟩ => by go_simp) ?_
  simp only [Act.put, List.setIfInBounds_toArray, List.set_cons_zero, List.set_cons_succ]
  refine wpAnyT_take 3 (some 7) (.slice A (b.length - q) c) #[true, true, true, true, false, false, false, false, false] rfl rfl rfl (by kernel_rfl) (fun _ _ _ h => h) hS0 (by rfl) (fun W ⟨s0, s1, s2⟩ => by go_simp) ?_
  simp only [Act.put, List.setIfInBounds_toArray, List.set_cons_zero, List.set_cons_succ]
  refine wpAnyT_take 4 (some 8) (.int .i64 most) #[true, true, true, true, true, false, false, false, false] rfl rfl rfl (by kernel_rfl) (fun _ _ _ h => h) hS0 (by rfl) (fun W ⟨s0, s1, s2⟩ => by go_simp) ?_
  simp only [Act.put, List.setIfInBounds_toArray, List.set_cons_zero, List.set_cons_succ]
  refine wpAnyT_take 5 (some 9) (.pointer (some ⟨g, 0, none⟩)) #[true, true, true, true, true, true, false, false, false] rfl rfl rfl (by kernel_rfl) (fun _ _ _ h => h) hS0 (by rfl) (fun W ⟨s0, s1, s2⟩ => by go_simp) ?_
  simp only [Act.put, List.setIfInBounds_toArray, List.set_cons_zero, List.set_cons_succ]
  refine wpAnyT_only 6 #[true, true, true, true, true, true, true, false, false] (by kernel_rfl) rfl rfl (by rfl) (fun K hK => ?_)
  go_simp
  refine (takerRow_any g t _).mono ?_
  rintro e w2 ⟨Bt, Bc, rfl, _, hBc1, hBt, hBc, hE2'⟩
  have hE2 : Ext w w2 := (Ext.refl w).drew.trans hE2'
  have k0 := (hE2.cell (i := 0) hBlt).trans hB0
  have kn := (hE2.cell (i := 0) hBlt1).trans hB1
  have k1 := (hE2.cell (i := 0) hglt).trans c0
  change w.heap.size ≤ Bc at hBc1
  refine hK _ _ (fun _ => ⟨k0, kn, k1⟩) ?_
  clear hK K
  refine wpAnyT_only 7 #[true, true, true, true, true, true, true, true, false] (by kernel_rfl) rfl rfl (by rfl) (fun K hK => ?_)
  go_simp
  refine (textGoes hm (HP.out.ext hE2) k1 hBt hBc (HT.out.ext hE2) htg htr (by omega) (by omega)).mono ?_
  rintro e w3 ⟨rfl, hT3⟩
  refine hK _ _ (fun h => absurd h (by decide)) ?_
  clear hK K
  refine wpAnyT_only 8 #[true, true, true, true, true, true, true, true, true] (by kernel_rfl) rfl rfl (by rfl) (fun K hK => ?_)
  go_simp
  refine hK _ _ (fun h => absurd h (by decide)) ?_
  refine wpAnyT_done (by kernel_rfl) ?_ _
  go_wp2
  go_ret
  exact ⟨rfl, ToldRow.from hE2 hT3⟩
end Go.Proofs.Ytkgkppblkdihkaa

namespace Go.Proofs.Ytkgkppblkdihkaa
open Go.RowKit

theorem run_append_zeroR (w : World) (ty : TypeId) (base : Nat) (v : Value) (l : List UInt8) (hown : OwnB w base v l) (A : Option Addr) (c : Nat) :
    (Builtin.append_ #[85, 85] ty #[v, .slice A 0 c]).run Try.prog w = .ok v w := by
  obtain ⟨i, hi, _, _, _⟩ := info_parts byte_info
  rcases hown.2 with ⟨rfl, _⟩ | ⟨g, cap, cur, rfl, _, _, hnc, _⟩
  · cases A <;> simp [Builtin.append_, run_underlying Try.underlying85, sizeOf, typeInfo, hi, Builtin.lenOf, Builtin.firstCells, loadCells, loadCellsFrom]
  · cases A <;> simp [Builtin.append_, run_underlying Try.underlying85, sizeOf, typeInfo, hi, Builtin.lenOf, Builtin.firstCells, loadCells, loadCellsFrom, hnc, storeCells]

/-- append of bytes, wherever they lie. -/
theorem app_runR {w : World} (ty : TypeId) {base : Nat} {v : Value} {l : List UInt8} (hown : OwnB w base v l) {A : Option Addr} {m : Nat} {k : List UInt8} (c : Nat) (hb : Bytes w w.heap.size A m k)
    (hlen : l.length + m ≤ 140737488355328) (hbase : base ≤ w.heap.size) :
    ∃ v' w', (Builtin.append_ #[85, 85] ty #[v, .slice A m c]).run Try.prog w = .ok v' w' ∧ OwnB w' base v' (l ++ k) ∧ w.grownBy w' v.ownBlock := by
  obtain ⟨hk, hb⟩ := hb
  rcases hb with rfl | ⟨b, off, rfl, hB, hc⟩
  · obtain rfl := List.eq_nil_of_length_eq_zero hk
    exact ⟨v, w, run_append_zeroR w ty base v l hown A c, by simpa using hown, World.grownBy.refl w _⟩
  · obtain ⟨i, hi, hz, hs, hby⟩ := info_parts byte_info
    obtain ⟨v', w', hr, h2, h3, _⟩ := run_append_own (P := Try.prog) w base 85 ty 5 i _ 1 1 Try.underlying85 hi hz hs hby rfl (by omega) v l.length (l.map byteV) hown
      ⟨b, off, none⟩ m c (k.map byteV) (by simpa using hk) (by
        intro j u hu
        have hj : j < m := by
          rcases Nat.lt_or_ge j m with h | h
          · exact h
          · rw [List.getElem?_eq_none (by simp; omega)] at hu; cases hu
        have hadd : (⟨b, off, none⟩ : Addr).add j = ⟨b, off + j, none⟩ := by unfold Addr.add; split <;> simp_all
        rw [hadd, hc j hj]
        rw [List.getElem?_map, List.getElem?_eq_getElem (by omega)] at hu
        rw [List.getD_eq_getElem?_getD, List.getElem?_eq_getElem (by omega)]
        simpa [byteV] using hu) (by
        intro u hu
        obtain ⟨x, _, rfl⟩ := List.mem_map.1 hu
        rfl) (by unfold maxLen; omega) (by omega) hbase
    refine ⟨v', w', hr, ?_, h3⟩
    unfold OwnB
    rw [List.length_append, hk, List.map_append]
    exact h2
theorem wp_appR {o : Oper} {a : Act} {K : Act → World → Prop} {Q : Exit → Act → World → Prop} {w : World} (s x : Operand)
    (ho : o.op = .call { callee := .builtin .append, args := #[s, x], argTypes := #[85, 85] }) {base : Nat} {v : Value} {l : List UInt8} (hs : a.eval s = v) (hown : OwnB w base v l)
    {A : Option Addr} {m c : Nat} {k : List UInt8} (hx : a.eval x = .slice A m c) (hb : Bytes w w.heap.size A m k) (hlen : l.length + m ≤ 140737488355328) (hbase : base ≤ w.heap.size)
    (h : ∀ v' w', OwnB w' base v' (l ++ k) → w.grownBy w' v.ownBlock → K (a.put o.dst v') w') : o.wp Try.prog a w K Q := by
  obtain ⟨v', w', hr, h2, h3⟩ := app_runR o.type hown c hb hlen hbase
  unfold Oper.wp execOp
  simp only [ho, resolve, invoke, builtin, Sem.run_bind, Sem.run_pure, Result.andThen_ok, List.map_toArray, List.map_cons, List.map_nil, hs, hx, hr]
  exact h v' w' h2 h3
/-- The same for a walk of a plain region. -/
theorem wpList_appR {ops : Array Oper} {rest : List Oper} {o : Oper} {a : Act} {Q : Exit → Act → World → Prop} {w : World} (hgd : o.guard = none) (s x : Operand)
    (ho : o.op = .call { callee := .builtin .append, args := #[s, x], argTypes := #[85, 85] }) {base : Nat} {v : Value} {l : List UInt8} (hs : a.eval s = v) (hown : OwnB w base v l)
    {A : Option Addr} {m c : Nat} {k : List UInt8} (hx : a.eval x = .slice A m c) (hb : Bytes w w.heap.size A m k) (hlen : l.length + m ≤ 140737488355328) (hbase : base ≤ w.heap.size)
    (h : ∀ v' w', OwnB w' base v' (l ++ k) → w.grownBy w' v.ownBlock → wpList Try.prog ops Q rest (a.put o.dst v') w') : wpList Try.prog ops Q (o :: rest) a w :=
  wpList_plain hgd fun _ hK => wp_appR s x ho hs hown hx hb hlen hbase fun v' w' h2 h3 => hK _ _ (h v' w' h2 h3)

theorem conv_row {w : World} {B : Nat} {A : Option Addr} {n : Nat} {l : List UInt8} (c : Nat) (h : Bytes w B A n l) (hA : A = none → n = 0) :
    (convert 85 9 (.slice A n c)).run Try.prog w = .ok (.string ⟨l.toArray⟩) w := by
  obtain ⟨hl, hb⟩ := h
  rcases A with _ | ad
  · obtain rfl := hA rfl
    obtain rfl := List.eq_nil_of_length_eq_zero hl
    exact run_convert_bytes_nil w 85 5 Try.underlying85 Try.underlying5 0 c 9 Try.underlying9
  · subst hl
    refine run_convert_bytes_back w 85 9 5 ad c l Try.underlying85 Try.underlying5 Try.underlying9 fun j hj => ?_
    rcases hb with h0 | ⟨b, off, hA, _, hc⟩
    · omega
    · obtain rfl : ad = ⟨b, off, none⟩ := by injection hA
      have hadd : (⟨b, off, none⟩ : Addr).add j = ⟨b, off + j, none⟩ := by unfold Addr.add; split <;> simp_all
      rw [hadd, hc j hj, List.getD_eq_getElem?_getD, List.getElem?_eq_getElem hj]
      rfl
end Go.Proofs.Ytkgkppblkdihkaa

namespace Go.Proofs.Ytkgkppblkdihkaa
open Go.RowKit

theorem Num.intR_stuck {b : List UInt8} {q : Nat} {e : Int} (he : e ≠ 0) (most : Int) : Num.intR b q e most = (0, q, e) := by
  have hN : Num.numR b q e = (0, q, e) := by unfold Num.numR; rw [if_neg he]
  unfold Num.intR
  rw [hN, if_neg he]
theorem Num.fixedR_stuck {b : List UInt8} {q : Nat} {e : Int} (he : e ≠ 0) (n : Int) : Num.fixedR b q e n = (0, q, e) := by unfold Num.fixedR; rw [if_neg he]
theorem Num.takeR_stuck {b : List UInt8} {q : Nat} {e : Int} (he : e ≠ 0) (n : Int) : Num.takeR b q e n = ([], q, e) := by unfold Num.takeR; rw [if_neg he]
theorem Num.textR_stuck {b : List UInt8} {q : Nat} {e : Int} (he : e ≠ 0) (most : Int) : Num.textR b q e most = ([], q, e) := by
  unfold Num.textR
  rw [Num.intR_stuck he, if_neg he]
theorem Num.takeR_len (b : List UInt8) (q : Nat) (e n : Int) : (Num.takeR b q e n).1.length ≤ b.length := by
  unfold Num.takeR
  split
  · split
    · simp
    · split
      · simp
      · simp; omega
  · simp
theorem Num.textR_len (b : List UInt8) (q : Nat) (e most : Int) : (Num.textR b q e most).1.length ≤ b.length := by
  unfold Num.textR
  split
  · split
    · simp
    · exact Num.takeR_len _ _ _ _
  · simp

theorem read_toldRow {w : World} {g r t q q' K : Nat} {b l : List UInt8} {er : Int} {cap : Array Value} (hK : Entered K) (h : PC w g r b q 0) (htg : t ≠ g)
    (hC : Calls Try.prog K cap w fun e' w' => e' = .returned (.int .i64 er) ∧ ToldRow w g r t b l q' w') :
    Calls Try.prog 75 #[.pointer (some ⟨g, 0, none⟩), .func (.func K) #[] cap] w fun e' w' => e' = .returned (.tuple #[]) ∧ ∃ A n c, PC w' g r b q' er ∧ Whole w' t 85 #[.slice A n c] ∧ n ≤ c ∧ RowIn w' g r A n l ∧ Mod w w' g (some t) := by
  refine (read_any (R := fun er' w' => er' = er ∧ ToldRow w g r t b l q' w') hK h (hC.mono ?_)).mono ?_
  · rintro e' w' ⟨rfl, hT⟩
    obtain ⟨A, n, c, hP, hr⟩ := id hT
    exact ⟨er, q', rfl, hP, rfl, hT⟩
  · rintro e' w' ⟨rfl, er', _, w2, _, ⟨rfl, A, n, c, hP, hW, hc, hR, hM⟩, rfl⟩
    have hG := Mod.ofRow (ob := none) (grown_setCell w2 g 2 (.int .i64 er'))
    exact ⟨rfl, A, n, c, hP.setErr, hW.far htg 2 _, hc, hR.mod hG hP.rlt (by simp), hM.trans (Mod.ofRow (grown_setCell w2 g 2 _)) (.inl rfl)⟩

set_option maxHeartbeats 2000000 in
set_option maxRecDepth 100000 in
theorem pcInt_any {w : World} {g r q : Nat} {b : List UInt8} {e : Int} (h : PC w g r b q e) (most : Int) (hm : most ≤ 9223372036854775807) :
    Calls Try.prog 67 #[.pointer (some ⟨g, 0, none⟩), .int .i64 most] w fun e' w' => e' = .returned (.int .i64 (((Num.intR b q e most).1 : Nat) : Int)) ∧ PcTo w g r b (Num.intR b q e most).2.1 (Num.intR b q e most).2.2 w' := by
  have hglt := h.lt
  have hrlt := h.rlt
  have hbl := h.bounds.2
  have hE1 := extNew w (.cells #[.pointer (some ⟨g, 0, none⟩)] 62)
  have hE2 := extNew (w.alloc (.cells #[.pointer (some ⟨g, 0, none⟩)] 62)) (.cells #[.int .i64 most] 3)
  have hE3 := extNew ((w.alloc (.cells #[.pointer (some ⟨g, 0, none⟩)] 62)).alloc (.cells #[.int .i64 most] 3)) (.cells #[.int .i64 0] 3)
  have hE := (hE1.trans hE2).trans hE3
  have hP := h.ext hE
  have hB0 : (((w.alloc (.cells #[.pointer (some ⟨g, 0, none⟩)] 62)).alloc (.cells #[.int .i64 most] 3)).alloc (.cells #[.int .i64 0] 3)).cell? ⟨w.heap.size, 0, none⟩ = some (.pointer (some ⟨g, 0, none⟩)) := ((hE2.trans hE3).cell (by simp)).trans (cellNew w _ _ _ 0)
  have hB1 : (((w.alloc (.cells #[.pointer (some ⟨g, 0, none⟩)] 62)).alloc (.cells #[.int .i64 most] 3)).alloc (.cells #[.int .i64 0] 3)).cell? ⟨w.heap.size + 1, 0, none⟩ = some (.int .i64 most) := by
    have h1 := cellNew (w.alloc (.cells #[.pointer (some ⟨g, 0, none⟩)] 62)) #[.int .i64 most] 3 (0, 0) 0
    rw [World.size_alloc] at h1
    exact (hE3.cell (by simp)).trans h1
  have ht := Whole.new ((w.alloc (.cells #[.pointer (some ⟨g, 0, none⟩)] 62)).alloc (.cells #[.int .i64 most] 3)) 3 #[.int .i64 0]
  rw [World.size_alloc, World.size_alloc] at ht
  by_cases he : e = 0
  · subst he
    have C := read_told (q' := (Num.intR b q 0 most).2.1) (er := (Num.intR b q 0 most).2.2) (v := .int .i64 (((Num.intR b q 0 most).1 : Nat) : Int)) entered_int1 hP (t := w.heap.size + 1 + 1) (by omega) (int1_any hm hP hB0 hB1 ht (by omega) (by omega))
    generalize Num.intR b q 0 most = res at *
    obtain ⟨x, q', er⟩ := res
    dsimp only at *
    have HE := hide hE
    clear hP hB0 hB1 ht hE1 hE2 hE3 hE h
    go_enter Try.func67, Try.ntmps67
    go_wp2_with fail
    refine C.mono ?_
    rintro e' w2 ⟨rfl, hP2, hW2, hM2⟩
    have t0 : w2.cell? ⟨w.heap.size + 1 + 1, 0, none⟩ = some (.int .i64 (x : Int)) := hW2.cell 0
    have t1 := hW2.frozen 0
    go_wp2
    refine bodyPost_ret (results_cell_one rfl _ rfl (load_int _ _) ((hW2.set 0 _).cell 0)) rfl ⟨rfl, hP2.atEnd (by omega) (by omega) _, ?_⟩
    exact Mod.atEnd HE.out hM2 (by omega) _
  · have HN := hide (Num.intR_stuck (b := b) (q := q) he most)
    have C := read_stuck (K := 80) (cap := #[.pointer (some ⟨w.heap.size, 0, none⟩), .pointer (some ⟨w.heap.size + 1, 0, none⟩), .pointer (some ⟨w.heap.size + 1 + 1, 0, none⟩)]) hP he
    have t0 := ht.cell 0
    have t1 := ht.frozen 0
    have HP := hide hP
    have HE := hide hE
    have HT := hide ht
    clear hP hB0 hB1 ht hE1 hE2 hE3 hE h he
    go_enter Try.func67, Try.ntmps67
    go_wp2_with fail
    refine C.mono ?_
    rintro e' w2 ⟨rfl, rfl⟩
    go_wp2
    rw [HN.out]
    refine bodyPost_ret (results_cell_one rfl _ rfl (load_int _ _) (HT.out.cell 0)) rfl ⟨rfl, HP.out, Mod.ofExt HE.out⟩

/-- Of no cursor: nothing. -/
theorem pcInt_nil (w : World) (most : Int) : Calls Try.prog 67 #[.pointer none, .int .i64 most] w fun e' w' => e' = .returned (.int .i64 0) ∧ Ext w w' := by
  have hE1 := extNew w (.cells #[.pointer none] 62)
  have hE2 := extNew (w.alloc (.cells #[.pointer none] 62)) (.cells #[.int .i64 most] 3)
  have HE := hide ((hE1.trans hE2).trans (extNew ((w.alloc (.cells #[.pointer none] 62)).alloc (.cells #[.int .i64 most] 3)) (.cells #[.int .i64 0] 3)))
  have ht := Whole.new ((w.alloc (.cells #[.pointer none] 62)).alloc (.cells #[.int .i64 most] 3)) 3 #[.int .i64 0]
  rw [World.size_alloc, World.size_alloc] at ht
  have t0 := ht.cell 0
  have t1 := ht.frozen 0
  have HT := hide ht
  have C := read_nil (w := ((w.alloc (.cells #[.pointer none] 62)).alloc (.cells #[.int .i64 most] 3)).alloc (.cells #[.int .i64 0] 3)) (K := 80) (cap := #[.pointer (some ⟨w.heap.size, 0, none⟩), .pointer (some ⟨w.heap.size + 1, 0, none⟩), .pointer (some ⟨w.heap.size + 1 + 1, 0, none⟩)])
  clear hE1 hE2 ht
  go_enter Try.func67, Try.ntmps67
  go_wp2_with fail
  refine C.mono ?_
  rintro e' w2 ⟨rfl, rfl⟩
  go_wp2
  exact bodyPost_ret (results_cell_one rfl _ rfl (load_int _ _) (HT.out.cell 0)) rfl ⟨rfl, HE.out⟩

set_option maxHeartbeats 2000000 in
set_option maxRecDepth 100000 in
theorem pcFixed_any {w : World} {g r q : Nat} {b : List UInt8} {e : Int} (h : PC w g r b q e) (n : Int) :
    Calls Try.prog 79 #[.pointer (some ⟨g, 0, none⟩), .int .i64 n] w fun e' w' => e' = .returned (.int .u64 (((Num.fixedR b q e n).1 : Nat) : Int)) ∧ PcTo w g r b (Num.fixedR b q e n).2.1 (Num.fixedR b q e n).2.2 w' := by
  have hglt := h.lt
  have hrlt := h.rlt
  have hbl := h.bounds.2
  have hE1 := extNew w (.cells #[.pointer (some ⟨g, 0, none⟩)] 62)
  have hE2 := extNew (w.alloc (.cells #[.pointer (some ⟨g, 0, none⟩)] 62)) (.cells #[.int .i64 n] 3)
  have hE3 := extNew ((w.alloc (.cells #[.pointer (some ⟨g, 0, none⟩)] 62)).alloc (.cells #[.int .i64 n] 3)) (.cells #[.int .u64 0] 40)
  have hE := (hE1.trans hE2).trans hE3
  have hP := h.ext hE
  have hB0 : (((w.alloc (.cells #[.pointer (some ⟨g, 0, none⟩)] 62)).alloc (.cells #[.int .i64 n] 3)).alloc (.cells #[.int .u64 0] 40)).cell? ⟨w.heap.size, 0, none⟩ = some (.pointer (some ⟨g, 0, none⟩)) := ((hE2.trans hE3).cell (by simp)).trans (cellNew w _ _ _ 0)
  have hB1 : (((w.alloc (.cells #[.pointer (some ⟨g, 0, none⟩)] 62)).alloc (.cells #[.int .i64 n] 3)).alloc (.cells #[.int .u64 0] 40)).cell? ⟨w.heap.size + 1, 0, none⟩ = some (.int .i64 n) := by
    have h1 := cellNew (w.alloc (.cells #[.pointer (some ⟨g, 0, none⟩)] 62)) #[.int .i64 n] 3 (0, 0) 0
    rw [World.size_alloc] at h1
    exact (hE3.cell (by simp)).trans h1
  have ht := Whole.new ((w.alloc (.cells #[.pointer (some ⟨g, 0, none⟩)] 62)).alloc (.cells #[.int .i64 n] 3)) 40 #[.int .u64 0]
  rw [World.size_alloc, World.size_alloc] at ht
  by_cases he : e = 0
  · subst he
    have C := read_told (q' := (Num.fixedR b q 0 n).2.1) (er := (Num.fixedR b q 0 n).2.2) (v := .int .u64 (((Num.fixedR b q 0 n).1 : Nat) : Int)) entered_cfixed1 hP (t := w.heap.size + 1 + 1) (by omega) (cfixed1_any hP hB0 hB1 ht (by omega) (by omega))
    generalize Num.fixedR b q 0 n = res at *
    obtain ⟨x, q', er⟩ := res
    dsimp only at *
    have HE := hide hE
    clear hP hB0 hB1 ht hE1 hE2 hE3 hE h
    go_enter Try.func79, Try.ntmps79
    go_wp2_with fail
    refine C.mono ?_
    rintro e' w2 ⟨rfl, hP2, hW2, hM2⟩
    have t0 : w2.cell? ⟨w.heap.size + 1 + 1, 0, none⟩ = some (.int .u64 (x : Int)) := hW2.cell 0
    have t1 := hW2.frozen 0
    go_wp2
    refine bodyPost_ret (results_cell_one rfl _ rfl (load_u64 _ _) ((hW2.set 0 _).cell 0)) rfl ⟨rfl, hP2.atEnd (by omega) (by omega) _, ?_⟩
    exact Mod.atEnd HE.out hM2 (by omega) _
  · have HN := hide (Num.fixedR_stuck (b := b) (q := q) he n)
    have C := read_stuck (K := 89) (cap := #[.pointer (some ⟨w.heap.size, 0, none⟩), .pointer (some ⟨w.heap.size + 1, 0, none⟩), .pointer (some ⟨w.heap.size + 1 + 1, 0, none⟩)]) hP he
    have t0 := ht.cell 0
    have t1 := ht.frozen 0
    have HP := hide hP
    have HE := hide hE
    have HT := hide ht
    clear hP hB0 hB1 ht hE1 hE2 hE3 hE h he
    go_enter Try.func79, Try.ntmps79
    go_wp2_with fail
    refine C.mono ?_
    rintro e' w2 ⟨rfl, rfl⟩
    go_wp2
    rw [HN.out]
    refine bodyPost_ret (results_cell_one rfl _ rfl (load_u64 _ _) (HT.out.cell 0)) rfl ⟨rfl, HP.out, Mod.ofExt HE.out⟩

/-- Of no cursor: nothing. -/
theorem pcFixed_nil (w : World) (n : Int) : Calls Try.prog 79 #[.pointer none, .int .i64 n] w fun e' w' => e' = .returned (.int .u64 0) ∧ Ext w w' := by
  have hE1 := extNew w (.cells #[.pointer none] 62)
  have hE2 := extNew (w.alloc (.cells #[.pointer none] 62)) (.cells #[.int .i64 n] 3)
  have HE := hide ((hE1.trans hE2).trans (extNew ((w.alloc (.cells #[.pointer none] 62)).alloc (.cells #[.int .i64 n] 3)) (.cells #[.int .u64 0] 40)))
  have ht := Whole.new ((w.alloc (.cells #[.pointer none] 62)).alloc (.cells #[.int .i64 n] 3)) 40 #[.int .u64 0]
  rw [World.size_alloc, World.size_alloc] at ht
  have t0 := ht.cell 0
  have t1 := ht.frozen 0
  have HT := hide ht
  have C := read_nil (w := ((w.alloc (.cells #[.pointer none] 62)).alloc (.cells #[.int .i64 n] 3)).alloc (.cells #[.int .u64 0] 40)) (K := 89) (cap := #[.pointer (some ⟨w.heap.size, 0, none⟩), .pointer (some ⟨w.heap.size + 1, 0, none⟩), .pointer (some ⟨w.heap.size + 1 + 1, 0, none⟩)])
  clear hE1 hE2 ht
  go_enter Try.func79, Try.ntmps79
  go_wp2_with fail
  refine C.mono ?_
  rintro e' w2 ⟨rfl, rfl⟩
  go_wp2
  exact bodyPost_ret (results_cell_one rfl _ rfl (load_u64 _ _) (HT.out.cell 0)) rfl ⟨rfl, HE.out⟩

set_option maxHeartbeats 2000000 in
set_option maxRecDepth 100000 in
theorem pcText_any {w : World} {g r q : Nat} {b : List UInt8} {e : Int} (h : PC w g r b q e) (most : Int) (hm : most ≤ 9223372036854775807) :
    Calls Try.prog 72 #[.pointer (some ⟨g, 0, none⟩), .int .i64 most] w fun e' w' => e' = .returned (.string ⟨(Num.textR b q e most).1.toArray⟩) ∧ PcTo w g r b (Num.textR b q e most).2.1 (Num.textR b q e most).2.2 w' := by
  have hglt := h.lt
  have hrlt := h.rlt
  have hbl := h.bounds.2
  have hE1 := extNew w (.cells #[.pointer (some ⟨g, 0, none⟩)] 62)
  have hE2 := extNew (w.alloc (.cells #[.pointer (some ⟨g, 0, none⟩)] 62)) (.cells #[.int .i64 most] 3)
  have hE3 := extNew ((w.alloc (.cells #[.pointer (some ⟨g, 0, none⟩)] 62)).alloc (.cells #[.int .i64 most] 3)) (.cells #[.slice none 0 0] 85)
  have hE := (hE1.trans hE2).trans hE3
  have hP := h.ext hE
  have hB0 : (((w.alloc (.cells #[.pointer (some ⟨g, 0, none⟩)] 62)).alloc (.cells #[.int .i64 most] 3)).alloc (.cells #[.slice none 0 0] 85)).cell? ⟨w.heap.size, 0, none⟩ = some (.pointer (some ⟨g, 0, none⟩)) := ((hE2.trans hE3).cell (by simp)).trans (cellNew w _ _ _ 0)
  have hB1 : (((w.alloc (.cells #[.pointer (some ⟨g, 0, none⟩)] 62)).alloc (.cells #[.int .i64 most] 3)).alloc (.cells #[.slice none 0 0] 85)).cell? ⟨w.heap.size + 1, 0, none⟩ = some (.int .i64 most) := by
    have h1 := cellNew (w.alloc (.cells #[.pointer (some ⟨g, 0, none⟩)] 62)) #[.int .i64 most] 3 (0, 0) 0
    rw [World.size_alloc] at h1
    exact (hE3.cell (by simp)).trans h1
  have ht := Whole.new ((w.alloc (.cells #[.pointer (some ⟨g, 0, none⟩)] 62)).alloc (.cells #[.int .i64 most] 3)) 85 #[.slice none 0 0]
  rw [World.size_alloc, World.size_alloc] at ht
  by_cases he : e = 0
  · subst he
    have hlen := Num.textR_len b q 0 most
    have C := read_toldRow (q' := (Num.textR b q 0 most).2.1) (er := (Num.textR b q 0 most).2.2) (l := (Num.textR b q 0 most).1) entered_ctext1 hP (t := w.heap.size + 1 + 1) (by omega) (ctext1_any hm hP hB0 hB1 ht (by omega) (by omega))
    generalize Num.textR b q 0 most = res at *
    obtain ⟨l, q', er⟩ := res
    dsimp only at *
    have HE := hide hE
    clear hP hB0 hB1 ht hE1 hE2 hE3 hE h
    go_enter Try.func72, Try.ntmps72
    go_wp2_with fail
    refine C.mono ?_
    rintro e' w2 ⟨rfl, A2, n2, c2, hP2, hW2, hc2, hR2, hM2⟩
    have t0 : w2.cell? ⟨w.heap.size + 1 + 1, 0, none⟩ = some (.slice A2 n2 c2) := hW2.cell 0
    have hb2 := hR2.bytes
    have hn2 := hR2.1
    have hM : Mod w w2 g none := (Mod.ofExt HE.out).trans hM2 (.inr ⟨_, rfl, by omega⟩)
    have hcv := conv_row (w := w2) c2 hb2 (fun hA => by
      rcases hb2.2 with h0 | ⟨_, _, h0, _⟩
      · exact h0
      · rw [hA] at h0; cases h0)
    clear hR2 hb2
    go_wp2
    go_ret
    exact ⟨rfl, hP2, hM⟩
  · have HN := hide (Num.textR_stuck (b := b) (q := q) he most)
    have C := read_stuck (K := 85) (cap := #[.pointer (some ⟨w.heap.size, 0, none⟩), .pointer (some ⟨w.heap.size + 1, 0, none⟩), .pointer (some ⟨w.heap.size + 1 + 1, 0, none⟩)]) hP he
    have t0 := ht.cell 0
    have t1 := ht.frozen 0
    have HP := hide hP
    have HE := hide hE
    have HT := hide ht
    clear hP hB0 hB1 ht hE1 hE2 hE3 hE h he
    go_enter Try.func72, Try.ntmps72
    go_wp2_with fail
    refine C.mono ?_
    rintro e' w2 ⟨rfl, rfl⟩
    have hcv := conv_row (w := ((w.alloc (.cells #[.pointer (some ⟨g, 0, none⟩)] 62)).alloc (.cells #[.int .i64 most] 3)).alloc (.cells #[.slice none 0 0] 85)) (A := none) (n := 0) (l := []) 0 (Bytes.none _ 0 _) (fun _ => rfl)
    go_wp2
    go_ret
    rw [HN.out]
    exact ⟨rfl, HP.out, Mod.ofExt HE.out⟩

/-- Of no cursor: nothing. -/
theorem pcText_nil (w : World) (most : Int) : Calls Try.prog 72 #[.pointer none, .int .i64 most] w fun e' w' => e' = .returned (.string ⟨#[]⟩) ∧ Ext w w' := by
  have hE1 := extNew w (.cells #[.pointer none] 62)
  have hE2 := extNew (w.alloc (.cells #[.pointer none] 62)) (.cells #[.int .i64 most] 3)
  have HE := hide ((hE1.trans hE2).trans (extNew ((w.alloc (.cells #[.pointer none] 62)).alloc (.cells #[.int .i64 most] 3)) (.cells #[.slice none 0 0] 85)))
  have ht := Whole.new ((w.alloc (.cells #[.pointer none] 62)).alloc (.cells #[.int .i64 most] 3)) 85 #[.slice none 0 0]
  rw [World.size_alloc, World.size_alloc] at ht
  have t0 := ht.cell 0
  have t1 := ht.frozen 0
  have HT := hide ht
  have C := read_nil (w := ((w.alloc (.cells #[.pointer none] 62)).alloc (.cells #[.int .i64 most] 3)).alloc (.cells #[.slice none 0 0] 85)) (K := 85) (cap := #[.pointer (some ⟨w.heap.size, 0, none⟩), .pointer (some ⟨w.heap.size + 1, 0, none⟩), .pointer (some ⟨w.heap.size + 1 + 1, 0, none⟩)])
  clear hE1 hE2 ht
  go_enter Try.func72, Try.ntmps72
  go_wp2_with fail
  refine C.mono ?_
  rintro e' w2 ⟨rfl, rfl⟩
  have hcv := conv_row (w := ((w.alloc (.cells #[.pointer none] 62)).alloc (.cells #[.int .i64 most] 3)).alloc (.cells #[.slice none 0 0] 85)) (A := none) (n := 0) (l := []) 0 (Bytes.none _ 0 _) (fun _ => rfl)
  go_wp2
  go_ret
  exact ⟨rfl, HE.out⟩

theorem Num.byte_fixed (b : List UInt8) (q : Nat) (e : Int) : Num.byteR b q e = Num.fixedR b q e 1 := by
  unfold Num.byteR Num.fixedR
  by_cases he : e = 0
  · subst he
    rw [if_pos rfl, if_neg (by omega)]
    have hlen : (Num.takeR b q 0 1).1.length ≤ 1 := by
      unfold Num.takeR
      rw [if_pos rfl, if_neg (by omega)]
      split
      · simp
      · simp; omega
    generalize Num.takeR b q 0 1 = t at *
    obtain ⟨l, r⟩ := t
    rcases l with _ | ⟨c, l⟩
    · rfl
    · obtain rfl : l = [] := List.eq_nil_of_length_eq_zero (by simpa using hlen)
      simp [Num.low]
  · rw [if_neg he, Num.takeR_stuck he]
    rfl
theorem Num.byteR_lt (b : List UInt8) (q : Nat) (e : Int) : (Num.byteR b q e).1 < 256 := UInt8.toNat_lt _
set_option maxHeartbeats 1000000 in
theorem pcByte_any {w : World} {g r q : Nat} {b : List UInt8} {e : Int} (h : PC w g r b q e) :
    Calls Try.prog 66 #[.pointer (some ⟨g, 0, none⟩)] w fun e' w' => e' = .returned (.int .u8 (((Num.byteR b q e).1 : Nat) : Int)) ∧ PcTo w g r b (Num.byteR b q e).2.1 (Num.byteR b q e).2.2 w' := by
  have C := pcFixed_any h 1
  have hlt := Num.byteR_lt b q e
  rw [← Num.byte_fixed] at C
  generalize Num.byteR b q e = res at *
  obtain ⟨x, q', er⟩ := res
  dsimp only at *
  go_enter Try.func66, Try.ntmps66
  go_wp2_with fail
  refine C.mono ?_
  rintro e' w2 ⟨rfl, hT⟩
  go_wp2
  go_ret
  exact ⟨rfl, hT⟩
theorem pcByte_nil (w : World) : Calls Try.prog 66 #[.pointer none] w fun e' w' => e' = .returned (.int .u8 0) ∧ Ext w w' := by
  have C := pcFixed_nil w 1
  go_enter Try.func66, Try.ntmps66
  go_wp2_with fail
  refine C.mono ?_
  rintro e' w2 ⟨rfl, hT⟩
  go_wp2
  go_ret
  exact ⟨rfl, hT⟩
end Go.Proofs.Ytkgkppblkdihkaa

namespace Go.Proofs.Ytkgkppblkdihkaa
open Go.RowKit Rcs Num

/-- The result is a struct that stands in a block. -/
theorem results_agg1 {fn : Func} {p : Tmp} {ty : TypeId} (h : fn.results = #[.cell p ty]) (tmps : Array Value) {w : World} {g : Nat} {cs : Array Value} (hp : tmps.getD p undef = .pointer (some ⟨g, 0, none⟩))
    (hl : (loadVar ty ⟨g, 0, none⟩).run Try.prog w = .ok (.agg cs) w) : (results fn tmps).run Try.prog w = .ok (.agg cs) w := by
  have hp' : tmps[p]?.getD undef = .pointer (some ⟨g, 0, none⟩) := by simpa using hp
  simp [results, h, hp', asAddr, hl]
theorem rdr17_info : (Try.prog.info? 64).map (·.size) = some 1 := by kernel_rfl
theorem rec17_info : (Try.prog.info? 42).map (·.size) = some 4 := by kernel_rfl

/-- A cursor is made of bytes of the call's own; its row lies in a block of the call's own. -/
theorem PC.newR {w : World} {base : Nat} {v : Value} {b : List UInt8} (h : OwnB w base v b) (hbs : base ≤ w.heap.size) (hl : b.length ≤ 1000000) :
    ∃ r, base ≤ r ∧ PC (w.alloc (.cells #[v, .int .i64 0, .int .i64 0] 87)) w.heap.size r b 0 0 := by
  have hO := h.ext (extNew w (.cells #[v, .int .i64 0, .int .i64 0] 87))
  have hW := Whole.new w 87 #[v, .int .i64 0, .int .i64 0]
  rcases h.2 with ⟨rfl, h0⟩ | ⟨x, cap, cur, rfl, hb, hx, hn, _⟩
  · have hnil := List.eq_nil_of_length_eq_zero h0
    subst hnil
    exact ⟨w.heap.size, hbs, none, 0, hW, by simp, ⟨rfl, .inl rfl⟩, by simp, by simp, by simp⟩
  · have hxl := (Array.getElem?_eq_some_iff.1 hx).1
    refine ⟨x, hb, some ⟨x, 0, none⟩, cap, hW, by simpa using hn, ⟨by simp, ?_⟩, by simp; omega, by simp, hl⟩
    refine .inr ⟨by omega, 0, rfl, fun i hi => ?_⟩
    rw [Nat.zero_add, List.drop_zero]
    exact (hO.cell (by simpa using hi)).1
theorem pcNewR_any (A : Option Addr) (n c : Nat) (b : List UInt8) (w : World) (hc : n ≤ c) (hn : n ≤ 1000000) (hb : Bytes w w.heap.size A n b) :
    Calls Try.prog 56 #[.slice A n c] w fun e w' => ∃ g r, e = .returned (.pointer (some ⟨g, 0, none⟩)) ∧ w.heap.size ≤ g ∧ w.heap.size ≤ r ∧ PC w' g r b 0 0 ∧ Ext w w' := by
  have hll := hb.1
  subst hll
  have C := slicesClone_any A b.length c b w hc (by omega) hb
  go_enter Try.func56, Try.ntmps56
  go_wp2_with fail
  refine C.mono ?_
  rintro e w1 ⟨v, rfl, hO, hE⟩
  have hB := hE.le
  obtain ⟨r, hr, hP⟩ := PC.newR hO hB hn
  obtain ⟨A1, n1, c1, rfl, _⟩ := hO.form'
  go_wp2
  go_ret
  exact ⟨w1.heap.size, r, rfl, hB, hr, hP, hE.trans (extNew w1 _)⟩

set_option maxHeartbeats 2000000 in
set_option maxRecDepth 100000 in
theorem pReaderOf17_any (A : Option Addr) (n c : Nat) (b : List UInt8) (w : World) (hc : n ≤ c) (hn : n ≤ 1000000) (hb : Bytes w w.heap.size A n b) :
    Calls Try.prog 36 #[.slice A n c] w fun e w' => ∃ g r, e = .returned (.agg #[.pointer (some ⟨g, 0, none⟩)]) ∧ w.heap.size ≤ g ∧ PC w' g r b 0 0 ∧ Ext w w' := by
  have hE1 := extNew w (.cells #[.pointer none] 64)
  have hW1 := Whole.new w 64 #[.pointer none]
  have C := pcNewR_any A n c b _ hc hn (hE1.bytes hb)
  have HW1 := hide hW1
  have HE1 := hide hE1
  clear hb hW1 hE1
  go_enter Try.func36, Try.ntmps36
  go_wp2_with fail
  refine C.mono ?_
  rintro e w2 ⟨g, r, rfl, hg, hr, hP, hE2⟩
  have HW2 := hide (HW1.out.ext hE2)
  have HE2 := hide (HE1.out.trans hE2)
  have HP := hide hP
  rw [World.size_alloc] at hg hr
  have d0 := HW2.out.at 0 (u := .pointer none) rfl
  have d1 := HW2.out.frozen 0
  clear C hP hE2
  go_wp2
  have hP3 := HP.out.atEnd (t := w.heap.size) (by omega) (by omega) (.pointer (some ⟨g, 0, none⟩))
  have hW3 := HW2.out.set 0 (.pointer (some ⟨g, 0, none⟩))
  refine bodyPost_ret (results_agg1 rfl _ rfl (run_loadVar_row _ _ _ _ _ _ _ hW3 Try.underlying64 rfl rdr17_info)) rfl ?_
  exact ⟨g, r, rfl, by omega, hP3, HE2.out.setCell (Nat.le_refl _) _⟩

theorem Whole.set4 {w : World} {g : Nat} {t : TypeId} {a0 a1 a2 a3 : Value} (h : Whole w g t #[a0, a1, a2, a3]) (u0 u1 u2 u3 : Value) : Whole ((((w.setCell ⟨g, 0, none⟩ u0).setCell ⟨g, 1, none⟩ u1).setCell ⟨g, 2, none⟩ u2).setCell ⟨g, 3, none⟩ u3) g t #[u0, u1, u2, u3] := by
  have := (((h.set 0 u0).set 1 u1).set 2 u2).set 3 u3
  simpa using this
theorem grown4 (w : World) (g : Nat) (u0 u1 u2 u3 : Value) : w.grownBy ((((w.setCell ⟨g, 0, none⟩ u0).setCell ⟨g, 1, none⟩ u1).setCell ⟨g, 2, none⟩ u2).setCell ⟨g, 3, none⟩ u3) (some g) :=
  (((grown_setCell w g 0 u0).trans (grown_setCell _ g 1 u1)).trans (grown_setCell _ g 2 u2)).trans (grown_setCell _ g 3 u3)
/-- While a record is read: the cursor, the reader's box, the result's and the record's blocks. -/
structure RecSt (w W : World) (g r : Nat) (b : List UInt8) (q : Nat) (e : Int) (cs : Array Value) : Prop where
  pc : PC W g r b q e
  mod : Mod w W g none
  rd : Whole W w.heap.size 64 #[.pointer (some ⟨g, 0, none⟩)]
  res : Whole W (w.heap.size + 1) 42 #[.int .u64 0, .int .u8 0, .string ⟨#[]⟩, .string ⟨#[]⟩]
  told : Whole W (w.heap.size + 1 + 1) 42 cs
theorem RecSt.call {w W W' : World} {g r q q' : Nat} {b : List UInt8} {e e' : Int} {cs : Array Value} (h : RecSt w W g r b q e cs) (hg : g < w.heap.size) (hT : PcTo W g r b q' e' W') : RecSt w W' g r b q' e' cs :=
  ⟨hT.1, h.mod.trans hT.2 (.inl rfl), hT.2.whole h.rd (by omega) (by simp), hT.2.whole h.res (by omega) (by simp), hT.2.whole h.told (by omega) (by simp)⟩
theorem RecSt.put {w W W' : World} {g r q : Nat} {b : List UInt8} {e : Int} {cs cs' : Array Value} (h : RecSt w W g r b q e cs) (hg : g < w.heap.size) (hr : r < w.heap.size) (hW : Whole W' (w.heap.size + 1 + 1) 42 cs') (hG : W.grownBy W' (some (w.heap.size + 1 + 1))) : RecSt w W' g r b q e cs' :=
  ⟨h.pc.told (Mod.ofOwn hG) (hG.block g h.pc.lt (by simp; omega)) (by omega), h.mod.trans (Mod.ofOwn hG) (.inr ⟨_, rfl, by omega⟩), h.rd.grown hG (by omega), h.res.grown hG (by omega), hW⟩
theorem RecSt.lt {w W : World} {g r q : Nat} {b : List UInt8} {e : Int} {cs : Array Value} (h : RecSt w W g r b q e cs) : w.heap.size + 1 + 1 < W.heap.size := h.told.lt

set_option maxHeartbeats 4000000 in
set_option maxRecDepth 100000 in
theorem pRecord17_any (whole : Bool) {w : World} {g r q : Nat} {b : List UInt8} (h : PC w g r b q 0) :
    Calls Try.prog 58 #[.agg #[.pointer (some ⟨g, 0, none⟩)], .bool whole] w fun e w' => e = .returned (rcV (recR whole b q).1) ∧ PcTo w g r b (recR whole b q).2.1 (recR whole b q).2.2 w' := by
  have hg := h.lt
  have hr := h.rlt
  have S0 : RecSt w (((w.alloc (.cells #[.pointer (some ⟨g, 0, none⟩)] 64)).alloc (.cells #[.int .u64 0, .int .u8 0, .string ⟨#[]⟩, .string ⟨#[]⟩] 42)).alloc (.cells #[.int .u64 0, .int .u8 0, .string ⟨#[]⟩, .string ⟨#[]⟩] 42)) g r b q 0 #[.int .u64 0, .int .u8 0, .string ⟨#[]⟩, .string ⟨#[]⟩] := by
    have e1 := extNew w (.cells #[.pointer (some ⟨g, 0, none⟩)] 64)
    have e2 := extNew (w.alloc (.cells #[.pointer (some ⟨g, 0, none⟩)] 64)) (.cells #[.int .u64 0, .int .u8 0, .string ⟨#[]⟩, .string ⟨#[]⟩] 42)
    have e3 := extNew ((w.alloc (.cells #[.pointer (some ⟨g, 0, none⟩)] 64)).alloc (.cells #[.int .u64 0, .int .u8 0, .string ⟨#[]⟩, .string ⟨#[]⟩] 42)) (.cells #[.int .u64 0, .int .u8 0, .string ⟨#[]⟩, .string ⟨#[]⟩] 42)
    have w2 := Whole.new (w.alloc (.cells #[.pointer (some ⟨g, 0, none⟩)] 64)) 42 #[.int .u64 0, .int .u8 0, .string ⟨#[]⟩, .string ⟨#[]⟩]
    have w3 := Whole.new ((w.alloc (.cells #[.pointer (some ⟨g, 0, none⟩)] 64)).alloc (.cells #[.int .u64 0, .int .u8 0, .string ⟨#[]⟩, .string ⟨#[]⟩] 42)) 42 #[.int .u64 0, .int .u8 0, .string ⟨#[]⟩, .string ⟨#[]⟩]
    rw [World.size_alloc] at w2
    rw [World.size_alloc, World.size_alloc] at w3
    exact ⟨h.ext ((e1.trans e2).trans e3), Mod.ofExt ((e1.trans e2).trans e3), (Whole.new w _ _).ext (e2.trans e3), w2.ext e3, w3⟩
  have CN := hide (fun W cs q e (S : RecSt w W g r b q e cs) => (pcNum_any S.pc).mono (fun e' W' hT => (⟨hT.1, S.call hg hT.2⟩ : e' = .returned (.int .u64 ((numR b q e).1 : Int)) ∧ RecSt w W' g r b (numR b q e).2.1 (numR b q e).2.2 cs)))
  have CB := hide (fun W cs q e (S : RecSt w W g r b q e cs) => (pcByte_any S.pc).mono (fun e' W' hT => (⟨hT.1, S.call hg hT.2⟩ : e' = .returned (.int .u8 ((byteR b q e).1 : Int)) ∧ RecSt w W' g r b (byteR b q e).2.1 (byteR b q e).2.2 cs)))
  have CT := hide (fun W cs q e (S : RecSt w W g r b q e cs) => (pcText_any S.pc 4000 (by omega)).mono (fun e' W' hT => (⟨hT.1, S.call hg hT.2⟩ : e' = .returned (.string ⟨(textR b q e 4000).1.toArray⟩) ∧ RecSt w W' g r b (textR b q e 4000).2.1 (textR b q e 4000).2.2 cs)))
  have HB := hide (show g < w.heap.size ∧ r < w.heap.size from ⟨hg, hr⟩)
  have HS0 := hide S0
  have HFin := hide (fun (W W' : World) q' e' cs (S : RecSt w W g r b q' e' cs) (hG : W.grownBy W' (some (w.heap.size + 1))) => (⟨S.pc.told (Mod.ofOwn hG) (hG.block g S.pc.lt (by simp; omega)) (by omega), S.mod.trans (Mod.ofOwn hG) (.inr ⟨_, rfl, by omega⟩)⟩ : PcTo w g r b q' e' W'))
  have a0 := S0.rd.at 0 (u := .pointer (some ⟨g, 0, none⟩)) rfl
  clear S0 h hg hr
  cases whole with
  | false =>
    obtain ⟨s1, q1, e1, hx1⟩ : ∃ s q' e', textR b q 0 4000 = (s, q', e') := ⟨_, _, _, rfl⟩
    obtain ⟨s2, q2, e2, hx2⟩ : ∃ s q' e', textR b q1 e1 4000 = (s, q', e') := ⟨_, _, _, rfl⟩
    have HR := hide (show recR false b q = (⟨0, 0, s1, s2⟩, q2, e2) by
      have h1 : srcR false b q = (s1, q1, e1) := by unfold srcR lvR; exact hx1
      have h2 : txtR false b q = (s2, q2, e2) := by unfold txtR; rw [h1]; exact hx2
      unfold recR
      rw [h1, h2]
      simp [timeR, lvR])
    rw [HR.out]
    unfold rcV
    dsimp only
    have C1 := CT.out _ _ _ _ HS0.out
    rw [hx1] at C1
    go_enter Try.func58, Try.ntmps58
    go_wp2_with fail
    refine C1.mono ?_
    rintro e w1 ⟨rfl, S1⟩
    have HS1 := hide S1
    clear C1 S1
    go_wp2_with (refine wpList_storeC rfl 9 (.tmp 18) (.tmp 17) rfl #[.int .u64 0, .int .u8 0, .string ⟨s1.toArray⟩, .string ⟨#[]⟩] rfl rfl HS1.out.told (by simp) (by kernel_rfl) rfl rfl rfl ?_; intro w2 hW hG; have HS2 := hide (HS1.out.put HB.out.1 HB.out.2 hW hG); clear hW hG; have a2 := HS2.out.rd.at 0 (u := .pointer (some ⟨g, 0, none⟩)) rfl)
    have C3 := CT.out _ _ _ _ HS2.out
    rw [hx2] at C3
    refine C3.mono ?_
    rintro e w3 ⟨rfl, S3⟩
    have HS3 := hide S3
    clear C3 S3
    go_wp2_with (refine wpList_storeC rfl 9 (.tmp 22) (.tmp 21) rfl #[.int .u64 0, .int .u8 0, .string ⟨s1.toArray⟩, .string ⟨s2.toArray⟩] rfl rfl HS3.out.told (by simp) (by kernel_rfl) rfl rfl rfl ?_; intro w4 hW hG; have HS4 := hide (HS3.out.put HB.out.1 HB.out.2 hW hG); clear hW hG; have d0 := HS4.out.told.at 0 (u := .int .u64 0) rfl; have d1 := HS4.out.told.at 1 (u := .int .u8 0) rfl; have d2 := HS4.out.told.at 2 (u := .string ⟨s1.toArray⟩) rfl; have d3 := HS4.out.told.at 3 (u := .string ⟨s2.toArray⟩) rfl; have r0 := HS4.out.res.at 0 (u := .int .u64 0) rfl; have f0 := HS4.out.res.frozen 0; have r1 := HS4.out.res.at 1 (u := .int .u8 0) rfl; have f1 := HS4.out.res.frozen 1; have r2 := HS4.out.res.at 2 (u := .string ⟨#[]⟩) rfl; have f2 := HS4.out.res.frozen 2; have r3 := HS4.out.res.at 3 (u := .string ⟨#[]⟩) rfl; have f3 := HS4.out.res.frozen 3)
    have hWf := HS4.out.res.set4 (.int .u64 0) (.int .u8 0) (.string ⟨s1.toArray⟩) (.string ⟨s2.toArray⟩)
    refine bodyPost_ret (results_agg1 rfl _ rfl (run_loadVar_row _ _ _ _ _ _ _ hWf Try.underlying42 rfl rec17_info)) rfl ?_
    exact ⟨rfl, HFin.out _ _ _ _ _ HS4.out (grown4 _ _ _ _ _ _)⟩
  | true =>
    obtain ⟨t1, qa, ea, hxa⟩ : ∃ s q' e', numR b q 0 = (s, q', e') := ⟨_, _, _, rfl⟩
    obtain ⟨c1, qb, eb, hxb⟩ : ∃ s q' e', byteR b qa ea = (s, q', e') := ⟨_, _, _, rfl⟩
    obtain ⟨s1, q1, e1, hx1⟩ : ∃ s q' e', textR b qb eb 4000 = (s, q', e') := ⟨_, _, _, rfl⟩
    obtain ⟨s2, q2, e2, hx2⟩ : ∃ s q' e', textR b q1 e1 4000 = (s, q', e') := ⟨_, _, _, rfl⟩
    have hcl : c1 < 256 := by have := byteR_lt b qa ea; rw [hxb] at this; exact this
    have HR := hide (show recR true b q = (⟨t1, UInt8.ofNat c1, s1, s2⟩, q2, e2) by
      have h0 : timeR true b q = (t1, qa, ea) := by unfold timeR; rw [if_pos rfl]; exact hxa
      have h3 : lvR true b q = (c1, qb, eb) := by unfold lvR; rw [if_pos rfl, h0]; exact hxb
      have h1 : srcR true b q = (s1, q1, e1) := by unfold srcR; rw [h3]; exact hx1
      have h2 : txtR true b q = (s2, q2, e2) := by unfold txtR; rw [h1]; exact hx2
      unfold recR
      rw [h0, h1, h2, h3])
    have HC := hide (show ((UInt8.ofNat c1).toNat : Int) = (c1 : Int) by rw [UInt8.toNat_ofNat']; omega)
    rw [HR.out]
    unfold rcV
    dsimp only
    rw [HC.out]
    have C1 := CN.out _ _ _ _ HS0.out
    rw [hxa] at C1
    clear hcl
    go_enter Try.func58, Try.ntmps58
    go_wp2_with fail
    refine C1.mono ?_
    rintro e w1 ⟨rfl, S1⟩
    have HS1 := hide S1
    clear C1 S1
    go_wp2_with (refine wpList_storeC rfl 40 (.tmp 10) (.tmp 9) rfl #[.int .u64 (t1 : Int), .int .u8 0, .string ⟨#[]⟩, .string ⟨#[]⟩] rfl rfl HS1.out.told (by simp) (by kernel_rfl) rfl rfl rfl ?_; intro w2 hW hG; have HS2 := hide (HS1.out.put HB.out.1 HB.out.2 hW hG); clear hW hG; have a2 := HS2.out.rd.at 0 (u := .pointer (some ⟨g, 0, none⟩)) rfl)
    have C3 := CB.out _ _ _ _ HS2.out
    rw [hxb] at C3
    refine C3.mono ?_
    rintro e w3 ⟨rfl, S3⟩
    have HS3 := hide S3
    clear C3 S3
    go_wp2_with (refine wpList_storeC rfl 5 (.tmp 14) (.tmp 13) rfl #[.int .u64 (t1 : Int), .int .u8 (c1 : Int), .string ⟨#[]⟩, .string ⟨#[]⟩] rfl rfl HS3.out.told (by simp) (by kernel_rfl) rfl rfl rfl ?_; intro w4 hW hG; have HS4 := hide (HS3.out.put HB.out.1 HB.out.2 hW hG); clear hW hG; have a4 := HS4.out.rd.at 0 (u := .pointer (some ⟨g, 0, none⟩)) rfl)
    have C5 := CT.out _ _ _ _ HS4.out
    rw [hx1] at C5
    refine C5.mono ?_
    rintro e w5 ⟨rfl, S5⟩
    have HS5 := hide S5
    clear C5 S5
    go_wp2_with (refine wpList_storeC rfl 9 (.tmp 18) (.tmp 17) rfl #[.int .u64 (t1 : Int), .int .u8 (c1 : Int), .string ⟨s1.toArray⟩, .string ⟨#[]⟩] rfl rfl HS5.out.told (by simp) (by kernel_rfl) rfl rfl rfl ?_; intro w6 hW hG; have HS6 := hide (HS5.out.put HB.out.1 HB.out.2 hW hG); clear hW hG; have a6 := HS6.out.rd.at 0 (u := .pointer (some ⟨g, 0, none⟩)) rfl)
    have C7 := CT.out _ _ _ _ HS6.out
    rw [hx2] at C7
    refine C7.mono ?_
    rintro e w7 ⟨rfl, S7⟩
    have HS7 := hide S7
    clear C7 S7
    go_wp2_with (refine wpList_storeC rfl 9 (.tmp 22) (.tmp 21) rfl #[.int .u64 (t1 : Int), .int .u8 (c1 : Int), .string ⟨s1.toArray⟩, .string ⟨s2.toArray⟩] rfl rfl HS7.out.told (by simp) (by kernel_rfl) rfl rfl rfl ?_; intro w8 hW hG; have HS8 := hide (HS7.out.put HB.out.1 HB.out.2 hW hG); clear hW hG; have d0 := HS8.out.told.at 0 (u := .int .u64 (t1 : Int)) rfl; have d1 := HS8.out.told.at 1 (u := .int .u8 (c1 : Int)) rfl; have d2 := HS8.out.told.at 2 (u := .string ⟨s1.toArray⟩) rfl; have d3 := HS8.out.told.at 3 (u := .string ⟨s2.toArray⟩) rfl; have r0 := HS8.out.res.at 0 (u := .int .u64 0) rfl; have f0 := HS8.out.res.frozen 0; have r1 := HS8.out.res.at 1 (u := .int .u8 0) rfl; have f1 := HS8.out.res.frozen 1; have r2 := HS8.out.res.at 2 (u := .string ⟨#[]⟩) rfl; have f2 := HS8.out.res.frozen 2; have r3 := HS8.out.res.at 3 (u := .string ⟨#[]⟩) rfl; have f3 := HS8.out.res.frozen 3)
    have hWf := HS8.out.res.set4 (.int .u64 (t1 : Int)) (.int .u8 (c1 : Int)) (.string ⟨s1.toArray⟩) (.string ⟨s2.toArray⟩)
    refine bodyPost_ret (results_agg1 rfl _ rfl (run_loadVar_row _ _ _ _ _ _ _ hWf Try.underlying42 rfl rec17_info)) rfl ?_
    exact ⟨rfl, HFin.out _ _ _ _ _ HS8.out (grown4 _ _ _ _ _ _)⟩

/-- While records are read: the cursor, the reader's box, what is read so far. -/
structure RdrSt (w W : World) (g r : Nat) (b : List UInt8) (q : Nat) (e : Int) (v : Value) (L : List Rc) : Prop where
  pc : PC W g r b q e
  mod : Mod w W g none
  own : OwnRc W w.heap.size v L
  box : Whole W w.heap.size 64 #[.pointer (some ⟨g, 0, none⟩)]
section
variable {w W W' : World} {g r q : Nat} {b : List UInt8} {e : Int} {v v' : Value} {L L' : List Rc}
theorem RdrSt.ne (h : RdrSt w W g r b q e v L) {k : Nat} (hk : k < w.heap.size) : v.ownBlock ≠ some k := fun e => by have := (h.own.lt _ e).1; omega
theorem RdrSt.call {q' : Nat} {e' : Int} (h : RdrSt w W g r b q e v L) (hg : g < w.heap.size) (hT : PcTo W g r b q' e' W') : RdrSt w W' g r b q' e' v L :=
  ⟨hT.1, h.mod.trans hT.2 (.inl rfl), hT.2.ownRc h.own (h.ne hg) (by cases hv : v.ownBlock <;> simp), hT.2.whole h.box (by omega) (by simp)⟩
theorem RdrSt.ext (h : RdrSt w W g r b q e v L) (hE : Ext W W') : RdrSt w W' g r b q e v L := ⟨h.pc.ext hE, h.mod.trans (Mod.ofExt hE) (.inl rfl), h.own.ext hE, h.box.ext hE⟩
theorem RdrSt.grow (h : RdrSt w W g r b q e v L) (hg : g < w.heap.size) (hr : r < w.heap.size) (hO : OwnRc W' w.heap.size v' L') (hG : W.grownBy W' v.ownBlock) : RdrSt w W' g r b q e v' L' := by
  refine ⟨?_, ?_, hO, h.box.ownGrown hG (h.own.notKind h.box (by decide))⟩
  · cases hv : v.ownBlock with
    | none =>
      rw [hv] at hG
      exact h.pc.ext (Below.grown (Ext.refl W) hG (Nat.le_refl _) (fun k hk => by cases hk))
    | some k =>
      rw [hv] at hG
      have hk := (h.own.lt k hv).1
      exact h.pc.told (Mod.ofOwn hG) (hG.block g h.pc.lt (by simp; omega)) (by omega)
  · refine h.mod.trans (Mod.ofOwn (ob := v.ownBlock) hG) ?_
    cases hv : v.ownBlock with
    | none => exact .inl rfl
    | some k => exact .inr ⟨k, rfl, (h.own.lt k hv).1⟩
end
theorem OwnRc.formV {w : World} {base : Nat} {v : Value} {L : List Rc} (h : OwnRc w base v L) : ∃ A c, v = .slice A L.length c := by
  rcases h.2 with ⟨rfl, h0⟩ | ⟨g, cap, cur, rfl, _⟩
  · exact ⟨none, 0, by rw [h0]⟩
  · exact ⟨_, cap, rfl⟩
def sliceLenR17 : Value → Nat
  | .slice _ n _ => n
  | _ => 0
/-- How a record's reading ends. -/
theorem Rcs.one_ok {whole : Bool} {b : List UInt8} {q : Nat} (he : (recR whole b q).2.2 = 0) : q < (recR whole b q).2.1 ∧ (recR whole b q).2.1 ≤ b.length := by
  have := one_is (whole := whole) (b := b) (q := q) (r := (recR whole b q).1) (q' := (recR whole b q).2.1) (by rw [← he])
  exact ⟨this.1, this.2.1⟩
/-- What the loop of records has so far. -/
def RdsTo (whole : Bool) (b : List UInt8) (q : Nat) (e : Int) (L : List Rc) : Prop :=
  L.length ≤ b.length + 1 ∧ ((e = 0 ∧ L.length ≤ q ∧ q ≤ b.length ∧ ∃ f, b.length ≤ q + f ∧ readE whole b = comb L (readF whole b f q)) ∨ e ≠ 0 ∧ readE whole b = ([], e))
theorem RdsTo.next {whole : Bool} {b : List UInt8} {q : Nat} {L : List Rc} (h : RdsTo whole b q 0 L) (hq : q < b.length) : RdsTo whole b (recR whole b q).2.1 (recR whole b q).2.2 (L ++ [(recR whole b q).1]) ∧ L.length < b.length := by
  obtain ⟨_, ⟨_, h2, h3, f, h4, h5⟩ | ⟨h2, _⟩⟩ := h
  · obtain ⟨f, rfl⟩ : ∃ k, f = k + 1 := ⟨f - 1, by omega⟩
    refine ⟨⟨by rw [List.length_append, List.length_singleton]; omega, ?_⟩, by omega⟩
    by_cases he : (recR whole b q).2.2 = 0
    · obtain ⟨g1, g2⟩ := one_ok he
      exact .inl ⟨he, by rw [List.length_append, List.length_singleton]; omega, g2, f, by omega, by rw [h5, comb_next L hq he]⟩
    · exact .inr ⟨he, by rw [h5, comb_bad L hq he]⟩
  · exact absurd rfl h2
theorem RdsTo.done {whole : Bool} {b : List UInt8} {q : Nat} {e : Int} {L : List Rc} (h : RdsTo whole b q e L) (hq : ¬ (q < b.length ∧ e = 0)) : readE whole b = if e ≠ 0 then ([], e) else (L, 0) := by
  obtain ⟨_, ⟨rfl, h2, h3, f, h4, h5⟩ | ⟨h2, h3⟩⟩ := h
  · rw [if_neg (by simp), h5, comb_end L (by omega)]
  · rw [if_pos h2, h3]

set_option maxHeartbeats 4000000 in
set_option maxRecDepth 100000 in
theorem pRecords17_any (whole : Bool) {w : World} {g r : Nat} {b : List UInt8} (h : PC w g r b 0 0) :
    Calls Try.prog 37 #[.agg #[.pointer (some ⟨g, 0, none⟩)], .bool whole] w fun e w' => ∃ v L q er, e = .returned v ∧ OwnRc w' w.heap.size v L ∧ PcTo w g r b q er w' ∧ readE whole b = if er ≠ 0 then ([], er) else (L, 0) := by
  have hg := h.lt
  have hr := h.rlt
  have hbl := h.bounds.2
  have e1 := extNew w (.cells #[.pointer (some ⟨g, 0, none⟩)] 64)
  have S0 : RdrSt w (w.alloc (.cells #[.pointer (some ⟨g, 0, none⟩)] 64)) g r b 0 0 (.slice none 0 0) [] := ⟨h.ext e1, Mod.ofExt e1, OwnRc.nil _ _, Whole.new w _ _⟩
  have HS0 := hide S0
  have HB := hide (show g < w.heap.size ∧ r < w.heap.size from ⟨hg, hr⟩)
  have HR0 := hide (show RdsTo whole b 0 0 [] from ⟨by simp, .inl ⟨rfl, by simp, by omega, b.length, by omega, comb_start whole b⟩⟩)
  have CR := hide (fun W v q L (S : RdrSt w W g r b q 0 v L) => (pRecord17_any whole S.pc).mono (fun e' W' hT => (⟨hT.1, S.call hg hT.2⟩ : e' = .returned (rcV (recR whole b q).1) ∧ RdrSt w W' g r b (recR whole b q).2.1 (recR whole b q).2.2 v L)))
  have HNx := hide (fun q L (hT : RdsTo whole b q 0 L) (hq : q < b.length) => hT.next hq)
  have HDn := hide (fun q e L (hT : RdsTo whole b q e L) (hq : ¬ (q < b.length ∧ e = 0)) => hT.done hq)
  clear S0 h hg hr e1
  go_enter Try.func37, Try.ntmps37
  go_wp2
  go_loopw [5] (fun v wr => ∃ (q : Nat) (e : Int) (L : List Rc), (∃ A c, v = .slice A L.length c) ∧ RdrSt w wr g r b q e v L ∧ RdsTo whole b q e L) (fun v _ => b.length + 1 - sliceLenR17 v)
  case atStart => exact ⟨0, 0, [], ⟨none, 0, rfl⟩, HS0.out, HR0.out⟩
  case round =>
    clear HR0 HS0
    obtain ⟨q, e, L, ⟨A, c, rfl⟩, hS, hT⟩ := hrel
    have a0 := hS.box.at 0 (u := .pointer (some ⟨g, 0, none⟩)) rfl
    have C1 := pcLeft_any hS.pc
    have C2 := pcErr_any hS.pc
    have HS := hide hS
    have HT := hide hT
    by_cases hq : q < b.length
    · have hqI : (0 : Int) < ((b.length - q : Nat) : Int) := by omega
      have hqN : 0 < b.length - q := by omega
      generalize b.length - q = left at *
      by_cases he : e = 0
      · subst he
        obtain ⟨hn, hlen⟩ := HNx.out q L hT hq
        have C3 := CR.out wr _ q L hS
        obtain ⟨rc, q', e', hrec⟩ : ∃ x y z, recR whole b q = (x, y, z) := ⟨_, _, _, rfl⟩
        rw [hrec] at C3 hn
        obtain ⟨t1, c1, s1, x1⟩ := rc
        unfold rcV at C3
        have HN := hide hn
        have HLen := hide hlen
        clear hS hT hn hlen hrec hq
        go_wp2_with fail
        refine C1.mono ?_
        rintro e w2 ⟨rfl, rfl⟩
        go_wp2_with fail
        refine C2.mono ?_
        rintro e w3 ⟨rfl, rfl⟩
        go_wp2_with fail
        refine C3.mono ?_
        rintro e w4 ⟨rfl, S4⟩
        have HS4 := hide S4
        clear C1 C2 C3 S4 a0
        go_wp2_with (at_builtin; refine wpList_appRc rfl (.tmp 16) (.tmp 20) rfl rfl ⟨t1, c1, s1, x1⟩ (HS4.out.own.ext (extNew w4 _)) rfl (by have := HLen.out; omega) (by have := HS4.out.mod.size; omega) ?_; intro v5 w5 hO5 hG5 _; have HS5 := hide ((HS4.out.ext (extNew w4 _)).grow HB.out.1 HB.out.2 hO5 hG5); clear hO5 hG5)
        go_roundw
        case rel => exact ⟨q', e', _, HS5.out.own.formV, HS5.out, HN.out⟩
        case measure =>
          obtain ⟨A5, c5, hv5⟩ := HS5.out.own.formV
          have := HLen.out
          rw [hv5]
          simp [sliceLenR17]
          omega
      · have HD := hide (HDn.out q e L hT (fun hh => he hh.2))
        have he' : (e == 0) = false := by simpa using he
        clear hS hT
        go_wp2_with fail
        refine C1.mono ?_
        rintro e w2 ⟨rfl, rfl⟩
        go_wp2_with fail
        refine C2.mono ?_
        rintro e w3 ⟨rfl, rfl⟩
        go_wp2
        go_ret
        exact ⟨_, L, q, _, rfl, HS.out.own, ⟨HS.out.pc, HS.out.mod⟩, HD.out⟩
    · have HD := hide (HDn.out q e L hT (fun hh => hq hh.1))
      have hq0 : b.length - q = 0 := by omega
      rw [hq0] at C1
      clear hS hT C2 hq hq0
      go_wp2_with fail
      refine C1.mono ?_
      rintro e w2 ⟨rfl, rfl⟩
      go_wp2
      go_ret
      exact ⟨_, L, q, _, rfl, HS.out.own, ⟨HS.out.pc, HS.out.mod⟩, HD.out⟩

set_option maxHeartbeats 4000000 in
set_option maxRecDepth 100000 in
theorem pRead17_any (whole : Bool) (A : Option Addr) (n c : Nat) (b : List UInt8) (w : World) (hc : n ≤ c) (hn : n ≤ 1000000) (hb : Bytes w w.heap.size A n b) :
    Calls Try.prog 21 #[.bool whole, .slice A n c] w (MadeRc w (readE whole b)) := by
  have C1 := pReaderOf17_any A n c b w hc hn hb
  unfold MadeRc
  generalize hres : readE whole b = res at *
  clear hb
  go_enter Try.func21, Try.ntmps21
  go_wp2_with fail
  refine C1.mono ?_
  rintro e w1 ⟨g, r, rfl, hg, hP, hE1⟩
  have hE2 := extNew w1 (.cells #[.pointer (some ⟨g, 0, none⟩)] 64)
  have hW := Whole.new w1 64 #[.pointer (some ⟨g, 0, none⟩)]
  have a0 := hW.at 0 (u := .pointer (some ⟨g, 0, none⟩)) rfl
  have C2 := pRecords17_any whole (hP.ext hE2)
  have hgl := hP.lt
  have HW := hide hW
  have HE2 := hide (hE1.trans hE2)
  have HG := hide (show w.heap.size ≤ g ∧ g < w1.heap.size from ⟨hg, hgl⟩)
  clear C1 hE1 hE2 hW hP hgl
  go_wp2_with fail
  refine C2.mono ?_
  rintro e w3 ⟨v, L, q, er, rfl, hO, hT, hrd⟩
  rw [hres] at hrd
  have C3 := pcErr_any hT.1
  have a1 := (hT.2.whole HW.out (by have := HG.out; omega) (by simp)).at 0 (u := .pointer (some ⟨g, 0, none⟩)) rfl
  have HO := hide (show OwnRc w3 w.heap.size v L from ⟨hO.1, by
    rcases hO.2 with hl | ⟨x, cap, cur, hl, hb, hr⟩
    · exact .inl hl
    · exact .inr ⟨x, cap, cur, hl, by have := HE2.out.le; omega, hr⟩⟩)
  have HE3 := hide (show Ext w w3 from Below.trans HE2.out (hT.2.below HE2.out.le HG.out.1 (fun k hk => by cases hk)))
  have HRd := hide hrd
  clear C2 hO hT hrd a0
  by_cases he : er = 0
  · have HR := hide (show res = (L, 0) by rw [HRd.out, if_neg (by simp [he])])
    subst he
    go_wp2_with fail
    refine C3.mono ?_
    rintro e w4 ⟨rfl, rfl⟩
    go_wp2
    refine bodyPost_ret (results_tmp2 rfl _ _ _) rfl ?_
    rw [HR.out]
    exact ⟨v, rfl, HO.out, HE3.out⟩
  · have HR := hide (show res = ([], er) by rw [HRd.out, if_pos he])
    have he' : (er != 0) = true := by simpa using he
    clear he
    go_wp2_with fail
    refine C3.mono ?_
    rintro e w4 ⟨rfl, rfl⟩
    go_wp2
    refine bodyPost_ret (results_tmp2 rfl _ _ _) rfl ?_
    rw [HR.out]
    exact ⟨_, rfl, OwnRc.nil _ _, HE3.out⟩
end Go.Proofs.Ytkgkppblkdihkaa

namespace Go.Proofs.Ytkgkppblkdihkaa
open Go.RowKit

def splB (l : List UInt8) (o : Nat) (xs : List UInt8) : List UInt8 := l.take o ++ xs ++ l.drop (o + xs.length)
theorem splB_len {l xs : List UInt8} {o : Nat} (h : o + xs.length ≤ l.length) : (splB l o xs).length = l.length := by
  unfold splB
  simp only [List.length_append, List.length_take, List.length_drop]
  omega
theorem OwnB.setCellsB {base g n c : Nat} : ∀ (xs : List UInt8) (o : Nat) {w : World} {l : List UInt8}, OwnB w base (.slice (some ⟨g, 0, none⟩) n c) l → o + xs.length ≤ l.length →
    OwnB (w.setCells g o (xs.map byteV)) base (.slice (some ⟨g, 0, none⟩) n c) (splB l o xs)
  | [], o, w, l, h, _ => by simpa [splB, World.setCells] using h
  | x :: xs, o, w, l, h, hl => by
    rw [List.length_cons] at hl
    have := (h.set o x).setCellsB xs (o + 1) (by rw [List.length_set]; omega)
    have e : splB (l.set o x) (o + 1) xs = splB l o (x :: xs) := by
      unfold splB
      rw [List.take_set, List.set_eq_take_append_cons_drop, if_pos (by rw [List.length_take]; omega), List.take_take, Nat.min_eq_left (by omega), List.drop_eq_nil_of_le (by rw [List.length_take]; omega)]
      rw [List.drop_set_of_lt (by omega), List.length_cons, show o + 1 + xs.length = o + (xs.length + 1) by omega]
      simp
    rw [e] at this
    exact this
theorem cutAt_zeroB {A : Option Addr} {c : Nat} : cutAt A c 0 = A := by
  unfold cutAt
  split
  · rfl
  · cases A with
    | none => rfl
    | some x => obtain ⟨b, o, s⟩ := x; cases s <;> rfl
variable {o : Oper} {a : Act} {w : World} {K : Act → World → Prop} {Q : Exit → Act → World → Prop}
theorem wp_copyB (d s : Operand) (ho : o.op = .call { callee := .builtin .copy, args := #[d, s], argTypes := #[32, 32] }) {base g N kN i c kd m ks B : Nat} {D A : Option Addr} {l x : List UInt8}
    (hd : a.eval d = .slice D c kd) (hs : a.eval s = .slice A m ks) (hO : OwnB w base (.slice (some ⟨g, 0, none⟩) N kN) l) (hB : Bytes w B A m x) (hl : l.length = N) (hic : i + c = N) (hk : N ≤ kN) (hD : D = cutAt (some ⟨g, 0, none⟩) kN i)
    (h : ∀ w', OwnB w' base (.slice (some ⟨g, 0, none⟩) N kN) (splB l i (x.take c)) → w.grownBy w' (some g) → w'.heap.size = w.heap.size → K (a.put o.dst (goInt (Nat.min m c))) w') : o.wp Try.prog a w K Q := by
  have hinf : (Try.prog.info? 5).map (·.size) = some 1 := by kernel_rfl
  have hx := hB.1
  have hxc : (x.take c).length = Nat.min m c := by rw [List.length_take, hx]; exact Nat.min_comm c m
  subst hD
  by_cases h0 : Nat.min m c = 0
  · have hrun := run_copy_none (P := Try.prog) w 32 32 o.type 5 (cutAt (some ⟨g, 0, none⟩) kN i) A c kd m ks Try.underlying32 hinf h0
    unfold Oper.wp
    simp [execOp, ho, resolve, invoke, builtin, hd, hs, hrun, Result.andThen]
    have h1 := h w (by
      have e : x.take c = [] := List.eq_nil_of_length_eq_zero (by rw [hxc, h0])
      rw [e]
      simpa [splB] using hO) (World.grownBy.refl w _) rfl
    rw [h0] at h1
    exact h1
  · have hc0 : 0 < c := Nat.pos_of_ne_zero (fun e => h0 (by rw [e]; exact Nat.min_zero m))
    have hcut : cutAt (some ⟨g, 0, none⟩) kN i = some ⟨g, i, none⟩ := by
      unfold cutAt
      rw [if_neg (by omega)]
      unfold Addr.add
      simp
      intro e
      exact e.symm
    rw [hcut] at hd
    rcases hB.2 with h1 | ⟨b, off, rfl, _, hcell⟩
    · exact absurd (by rw [h1]; exact Nat.zero_min c) h0
    have hlen : ((x.take c).map byteV).length = Nat.min m c := by rw [List.length_map, hxc]
    have hmc : Nat.min m c ≤ c := Nat.min_le_right m c
    have hmm : Nat.min m c ≤ m := Nat.min_le_left m c
    have hrun := run_copy_cells (P := Try.prog) w 32 32 o.type 5 g i c kd ⟨b, off, none⟩ m ks ((x.take c).map byteV) Try.underlying32 hinf hlen
      (fun j v hj => by
        have hj' : j < Nat.min m c := by have := (List.getElem?_eq_some_iff.1 hj).1; rw [hlen] at this; exact this
        have := hcell j (by omega)
        rw [show (⟨b, off, none⟩ : Addr).add j = ⟨b, off + j, none⟩ by simp [Addr.add], this, ← hj]
        have hjx : j < x.length := by omega
        simp [byteV, show j < c by omega, hjx])
      (fun j hj => by
        rw [hlen] at hj
        rw [(hO.cell (i := i + j) (by omega)).1]
        rfl)
      (fun j hj => by
        rw [hlen] at hj
        exact (hO.cell (i := i + j) (by omega)).2)
      (fun v hv => by
        obtain ⟨y, _, rfl⟩ := List.mem_map.1 hv
        rfl)
    rw [hlen] at hrun
    unfold Oper.wp
    simp [execOp, ho, resolve, invoke, builtin, hd, hs, hrun, Result.andThen]
    have hO2 := hO.setCellsB (x.take c) i (by omega)
    obtain ⟨g1, g2⟩ := setCells_grown g ((x.take c).map byteV) i w
    rw [List.map_take] at hO2 g1 g2
    exact h _ hO2 g1 g2
theorem wpList_copyB {ops : Array Oper} {rest : List Oper} (hgd : o.guard = none) (d s : Operand) (ho : o.op = .call { callee := .builtin .copy, args := #[d, s], argTypes := #[32, 32] }) {base g N kN i c kd m ks B : Nat} {D A : Option Addr} {l x : List UInt8}
    (hd : a.eval d = .slice D c kd) (hs : a.eval s = .slice A m ks) (hO : OwnB w base (.slice (some ⟨g, 0, none⟩) N kN) l) (hB : Bytes w B A m x) (hl : l.length = N) (hic : i + c = N) (hk : N ≤ kN) (hD : D = cutAt (some ⟨g, 0, none⟩) kN i)
    (h : ∀ w', OwnB w' base (.slice (some ⟨g, 0, none⟩) N kN) (splB l i (x.take c)) → w.grownBy w' (some g) → w'.heap.size = w.heap.size → wpList Try.prog ops Q rest (a.put o.dst (goInt (Nat.min m c))) w') :
    wpList Try.prog ops Q (o :: rest) a w :=
  wpList_plain hgd fun _ hK => wp_copyB d s ho hd hs hO hB hl hic hk hD fun w' h1 h2 h3 => hK _ _ (h w' h1 h2 h3)
theorem wpList_makeBB {ops : Array Oper} {rest : List Oper} (hgd : o.guard = none) (x y : Operand) (ho : o.op = .makeSlice 32 x y) {n : Nat} (hx : a.eval x = .int .i64 (n : Int)) (hy : a.eval y = .int .i64 (n : Int)) (hn : n ≤ 1000000)
    (h : ∀ w', OwnB w' w.heap.size (.slice (some ⟨w.heap.size, 0, none⟩) n n) (List.replicate n 0) → Ext w w' → wpList Try.prog ops Q rest (a.put o.dst (.slice (some ⟨w.heap.size, 0, none⟩) n n)) w') : wpList Try.prog ops Q (o :: rest) a w := by
  obtain ⟨i, hi, hz, hsz, hby⟩ := info_parts byte_info
  refine wpList_make_full w hgd x y 32 ho w.heap.size 5 i _ 1 Try.underlying32 hi hz hsz .i64 .i64 _ _ n hx hy rfl rfl (by rw [hby]; omega) (by unfold maxLen; omega) (Nat.le_refl _) ?_
  intro w' h1 h2
  refine h w' ?_ (Below.grown (Ext.refl w) h2 (Nat.le_refl _) fun k hk => by cases hk)
  unfold OwnB
  have e : (madeCells (Value.int .u8 0).cells (n * 1)).toList = (List.replicate n (0 : UInt8)).map byteV := by
    have : madeCells (Value.int .u8 0).cells n = ((List.replicate n (0 : UInt8)).map byteV).toArray := by
      apply Array.ext
      · simp [size_madeCells]
      · intro i h1 h2
        simp [madeCells, Value.cells, byteV, Nat.mod_one]
    rw [Nat.mul_one, this]
  rw [e] at h1
  simpa using h1
end Go.Proofs.Ytkgkppblkdihkaa

namespace Go.Proofs.Ytkgkppblkdihkaa
open Go.RowKit

theorem mul_mask1 : bits .and .u64 1 4294967295 = 1 := by
  have h := bits_and_u64_nat 1 4294967295 (by omega) (by omega)
  have e : 1 &&& 4294967295 = 1 := by decide
  rw [e] at h
  exact h
theorem mul_mask {n : Nat} (h : n < 4294967296) : bits .and .u64 (n : Int) 4294967295 = (n : Int) := by
  have h1 := bits_and_u64_nat n 4294967295 (by omega) (by omega)
  have e : n &&& 4294967295 = n := by
    have := Nat.and_two_pow_sub_one_eq_mod n 32
    rw [Nat.mod_eq_of_lt (by omega)] at this
    exact this
  rw [e] at h1
  exact h1
theorem mul_mask0 : bits .and .u64 0 4294967295 = 0 := by
  have h := bits_and_u64_nat 0 4294967295 (by omega) (by omega)
  rw [Nat.zero_and] at h
  exact h
set_option maxHeartbeats 1000000 in
set_option maxRecDepth 100000 in
theorem mul64_one (n : Nat) (w : World) (hn : n ≤ 1000000) : Calls Try.prog 94 #[.int .u64 1, .int .u64 (n : Int)] w fun e w' => e = .returned (.tuple #[.int .u64 0, .int .u64 (n : Int)]) ∧ w = w' := by
  have m1 := mul_mask1
  have m2 := mul_mask (n := n) (by omega)
  have m3 := mul_mask0
  have d1 : (1 : Int) / 4294967296 = 0 := by decide
  have d2 : (n : Int) / 4294967296 = 0 := by omega
  have w1 : IntKind.u64.wrap (n : Int) = (n : Int) := by rw [IntKind.wrap_u64]; omega
  have d3 : (0 : Int) / 4294967296 = 0 := by decide
  go_enter Try.func94, Try.ntmps94
  go_wp2
  go_ret2
  exact ⟨rfl, rfl⟩
set_option maxHeartbeats 1000000 in
set_option maxRecDepth 100000 in
theorem mulOne_any (n : Nat) (w : World) (hn : n ≤ 1000000) : Calls Try.prog 84 #[.int .u64 1, .int .u64 (n : Int)] w fun e w' => e = .returned (.tuple #[.int .u64 0, .int .u64 (n : Int)]) ∧ w = w' := by
  have C := mul64_one n w hn
  go_enter Try.func84, Try.ntmps84
  go_wp2_with fail
  refine C.mono ?_
  rintro e w' ⟨rfl, rfl⟩
  go_wp2
  go_ret2
  exact ⟨rfl, rfl⟩

theorem goMin {m c : Nat} : goInt (Nat.min m c) = .int .i64 ((Nat.min m c : Nat) : Int) := rfl
theorem rep_next {x : UInt8} {many n : Nat} {L : List UInt8} (hl : L.length = many) (hn : n < many) (h : L.take n = List.replicate n x) :
    (splB L n ((L.take n).take (many - n))).length = many ∧ (splB L n ((L.take n).take (many - n))).take (n + Nat.min n (many - n)) = List.replicate (n + Nat.min n (many - n)) x := by
  have e : (L.take n).take (many - n) = List.replicate (Nat.min n (many - n)) x := by rw [h, List.take_replicate]; congr 1; exact Nat.min_comm _ _
  have hm : Nat.min n (many - n) ≤ many - n := Nat.min_le_right _ _
  rw [e]
  generalize Nat.min n (many - n) = k at *
  refine ⟨by rw [splB_len (by rw [List.length_replicate]; omega), hl], ?_⟩
  unfold splB
  rw [h, List.length_replicate, List.take_append_of_le_length (by rw [List.length_append, List.length_replicate, List.length_replicate]; omega), List.take_of_length_le (by rw [List.length_append, List.length_replicate, List.length_replicate]; omega), List.replicate_append_replicate]
theorem rep_first {x : UInt8} {many : Nat} : (splB (List.replicate many 0) 0 ([x].take many)).length = many ∧ (splB (List.replicate many 0) 0 ([x].take many)).take (Nat.min 1 many) = List.replicate (Nat.min 1 many) x := by
  cases many with
  | zero => simp [splB]
  | succ k =>
    have e : Nat.min 1 (k + 1) = 1 := Nat.min_eq_left (by omega)
    rw [e]
    simp [splB]

attribute [local go_sem ↓] run_cut run_headB
set_option maxHeartbeats 4000000 in
set_option maxRecDepth 100000 in
theorem repeatB_any (x : UInt8) (many c : Nat) (A : Option Addr) (w : World) (hm : many ≤ 1000000) (hb : Bytes w w.heap.size A 1 [x]) :
    Calls Try.prog 70 #[.slice A 1 c, .int .i64 (many : Int)] w (MadeB w (List.replicate many x)) := by
  have C := mulOne_any many w hm
  have w1 : IntKind.u64.wrap (many : Int) = (many : Int) := by rw [IntKind.wrap_u64]; omega
  have w2 : IntKind.i64.wrap (many : Int) = (many : Int) := by rw [IntKind.wrap_i64]; omega
  have hle : ¬ (9223372036854775807 : Int) < (many : Int) := by omega
  have HF := hide (rep_first (x := x) (many := many))
  have HNx := hide (fun (n : Nat) (L : List UInt8) (hl : L.length = many) (hn : n < many) (h : L.take n = List.replicate n x) => rep_next hl hn h)
  have HM1 := hide (Nat.min_le_right 1 many)
  have HM2 := hide (show 0 < Nat.min 1 many ∨ many = 0 by
    rcases Nat.eq_zero_or_pos many with h | h
    · exact .inr h
    · exact .inl (by rw [show Nat.min 1 many = 1 from Nat.min_eq_left h]; omega))
  unfold MadeB
  go_enter Try.func70, Try.ntmps70
  go_wp2_with fail
  refine C.mono ?_
  rintro e w' ⟨rfl, rfl⟩
  clear C
  go_wp2_with (first
    | (refine wpList_makeBB rfl (.tmp 29) (.tmp 29) rfl rfl rfl hm ?_; intro w3 hO3 hE3; have HO3 := hide hO3; have HE3 := hide hE3; clear hO3 hE3)
    | (refine wpList_copyB rfl (.tmp 31) (.tmp 32) rfl rfl rfl HO3.out (HE3.out.bytes hb) (by simp) (Nat.zero_add _) (Nat.le_refl _) cutAt_zeroB.symm ?_; intro w4 hO4 hG4 hs4; rw [goMin]; have HO4 := hide hO4; have HE4 := hide (show Ext w w4 from Below.grown HE3.out hG4 HE3.out.le (fun k hk => by cases hk; exact Nat.le_refl _)); clear hO4 hG4 hs4))
  obtain ⟨g, hg⟩ : ∃ g, g = w.heap.size := ⟨_, rfl⟩
  rw [← hg] at HO4 ⊢
  have HGe := hide hg
  clear w1 w2 hle hb hg
  go_loopw [8] (fun y wr => ∃ (n : Nat) (L : List UInt8), n ≤ many ∧ (0 < n ∨ many = 0) ∧ y = .int .i64 (n : Int) ∧ OwnB wr g (.slice (some ⟨g, 0, none⟩) many many) L ∧ L.length = many ∧ L.take n = List.replicate n x ∧ Ext w wr) (fun y _ => many - (intOf y).toNat)
  case atStart => exact ⟨Nat.min 1 many, _, HM1.out, HM2.out, rfl, HO4.out, HF.out.1, HF.out.2, HE4.out⟩
  case round =>
    clear HF HM1 HM2 HO4 HE4
    obtain ⟨n, L, hn, hn0, rfl, hO, hl, ht, hE⟩ := hrel
    by_cases hlt : n < many
    · have hnI : (n : Int) < (many : Int) := by omega
      have hn1 : 0 < n := by omega
      obtain ⟨k1, k2⟩ := HNx.out n L hl hlt ht
      have hmn : 0 < Nat.min n (many - n) := Nat.lt_min.2 ⟨hn1, by omega⟩
      have hml : Nat.min n (many - n) ≤ many - n := Nat.min_le_right _ _
      have hSrc : Bytes wr wr.heap.size (cutAt (some ⟨g, 0, none⟩) many 0) n (L.take n) := by
        obtain ⟨A', c', hv, h1, h2, h3⟩ := hO.form
        simp only [Value.slice.injEq] at hv
        obtain ⟨rfl, hv2, rfl⟩ := hv
        exact Ef.bytes_head (by rw [hv2]; exact h3) hn (Nat.le_refl _)
      have HSrc := hide hSrc
      have HO := hide hO
      have HE := hide hE
      have HLn := hide hl
      have HK := hide k1
      have HK2 := hide k2
      have HMn := hide hmn
      have HMl := hide hml
      have h0I : (0 : Int) ≤ (n : Int) := by omega
      have hnL : (n : Int) ≤ (many : Int) := by omega
      have HW := hide (show IntKind.i64.wrap ((n : Int) + ((Nat.min n (many - n) : Nat) : Int)) = ((n + Nat.min n (many - n) : Nat) : Int) by rw [IntKind.wrap_i64]; omega)
      clear hSrc hO hE hl ht k1 k2 hn0 hmn hml
      go_upto_region 9 with fail
      refine wp_region_T (fun _ => True) 9 10 #[false, false, false, false, false, false, false, false, false, false] (by kernel_rfl) rfl rfl trivial ?_
      intro hS0
      refine wpAnyT_take 0 (some 38) (.int .i64 (n : Int)) #[true, false, false, false, false, false, false, false, false, false] rfl rfl rfl (by kernel_rfl) (fun _ _ _ h => h) trivial (by rfl) (fun W _ => by go_simp) ?_
      simp only [Act.put, List.setIfInBounds_toArray, List.set_cons_zero, List.set_cons_succ]
      refine wpAnyT_take 1 (some 39) (.slice (some ⟨g, 0, none⟩) many many) #[true, true, false, false, false, false, false, false, false, false] rfl rfl rfl (by kernel_rfl) (fun _ _ _ h => h) trivial (by rfl) (fun W _ => by go_simp) ?_
      simp only [Act.put, List.setIfInBounds_toArray, List.set_cons_zero, List.set_cons_succ]
      refine wpAnyT_take 2 (some 40) (.int .i64 (n : Int)) #[true, true, true, false, false, false, false, false, false, false] rfl rfl rfl (by kernel_rfl) (fun _ _ _ h => h) trivial (by rfl) (fun W _ => by go_simp) ?_
      simp only [Act.put, List.setIfInBounds_toArray, List.set_cons_zero, List.set_cons_succ]
      refine wpAnyT_take 3 (some 41) (.slice (cutAt (some ⟨g, 0, none⟩) many n) (many - n) (many - n)) #[true, true, true, true, false, false, false, false, false, false] rfl rfl rfl (by kernel_rfl) (fun _ _ _ h => h) trivial (by rfl) (fun W _ => by go_simp) ?_
      simp only [Act.put, List.setIfInBounds_toArray, List.set_cons_zero, List.set_cons_succ]
      refine wpAnyT_take 4 (some 42) (.slice (some ⟨g, 0, none⟩) many many) #[true, true, true, true, true, false, false, false, false, false] rfl rfl rfl (by kernel_rfl) (fun _ _ _ h => h) trivial (by rfl) (fun W _ => by go_simp) ?_
      simp only [Act.put, List.setIfInBounds_toArray, List.set_cons_zero, List.set_cons_succ]
      refine wpAnyT_take 5 (some 43) (.int .i64 (n : Int)) #[true, true, true, true, true, true, false, false, false, false] rfl rfl rfl (by kernel_rfl) (fun _ _ _ h => h) trivial (by rfl) (fun W _ => by go_simp) ?_
      simp only [Act.put, List.setIfInBounds_toArray, List.set_cons_zero, List.set_cons_succ]
      refine wpAnyT_take 6 (some 44) (.slice (cutAt (some ⟨g, 0, none⟩) many 0) n many) #[true, true, true, true, true, true, true, false, false, false] rfl rfl rfl (by kernel_rfl) (fun _ _ _ h => h) trivial (by rfl) (fun W _ => by go_simp) ?_
      simp only [Act.put, List.setIfInBounds_toArray, List.set_cons_zero, List.set_cons_succ]
      refine wpAnyT_only 7 #[true, true, true, true, true, true, true, true, false, false] (by kernel_rfl) rfl rfl (by rfl) (fun K0 hK0 => ?_)
      refine wp_copyB (.tmp 41) (.tmp 44) rfl rfl rfl HO.out HSrc.out HLn.out (by omega) (Nat.le_refl _) rfl ?_
      intro w4 hO4 hG4 hs4
      change K0 (Act.put _ (some 45) _) _
      refine hK0 _ _ (fun _ => trivial) ?_
      simp only [Act.put, List.setIfInBounds_toArray, List.set_cons_zero, List.set_cons_succ]
      rw [goMin]
      clear hK0 K0
      refine wpAnyT_take 8 (some 46) (.int .i64 (((n + Nat.min n (many - n) : Nat)) : Int)) #[true, true, true, true, true, true, true, true, true, false] rfl rfl rfl (by kernel_rfl) (fun _ _ _ h => h) trivial (by rfl) (fun W _ => by have := HW.out; go_simp) ?_
      simp only [Act.put, List.setIfInBounds_toArray, List.set_cons_zero, List.set_cons_succ]
      refine wpAnyT_only 9 #[true, true, true, true, true, true, true, true, true, true] (by kernel_rfl) rfl rfl (by rfl) (fun K1 hK1 => ?_)
      go_simp
      refine hK1 _ _ (fun h => absurd h (by decide)) (wpAnyT_done (by kernel_rfl) ?_ _)
      clear hK1 K1
      have hE4 := Below.grown HE.out.drew hG4 HE.out.le (fun k hk => by cases hk; rw [HGe.out]; exact Nat.le_refl _)
      clear hG4 hs4
      go_wp2_with fail
      go_roundw
      case rel => exact ⟨n + Nat.min n (many - n), _, by have := HMl.out; omega, .inl (by omega), rfl, hO4, HK.out, HK2.out, hE4⟩
      case measure => have := HMn.out; have := HMl.out; simp [intOf]; omega
    · have hnI : ¬ (n : Int) < (many : Int) := by omega
      obtain rfl : n = many := by omega
      rw [List.take_of_length_le (by omega)] at ht
      subst ht
      clear hlt hl
      go_wp2
      go_ret
      exact ⟨_, rfl, by rw [← HGe.out]; exact hO, hE⟩
end Go.Proofs.Ytkgkppblkdihkaa

namespace Go.Proofs.Ytkgkppblkdihkaa
open Go.RowKit Rcs Num

set_option maxHeartbeats 1000000 in
set_option maxRecDepth 100000 in
theorem pIsLast17_any (L : List UInt8) (x : UInt8) (A : Option Addr) (c : Nat) (w : World) (hb : Bytes w w.heap.size A L.length L) (hl : L.length ≤ 1000000) :
    Calls Try.prog 68 #[.slice A L.length c, .int .u8 (x.toNat : Int)] w fun e w' => e = .returned (.bool (decide (L.getLast? = some x))) ∧ w = w' := by
  rcases Nat.eq_zero_or_pos L.length with h0 | h0
  · obtain rfl := List.eq_nil_of_length_eq_zero h0
    clear hb
    go_enter Try.func68, Try.ntmps68
    go_wp2
    go_ret
    exact ⟨rfl, rfl⟩
  · obtain ⟨j, hj⟩ : ∃ j, L.length = j + 1 := ⟨L.length - 1, by omega⟩
    rcases hb.2 with h1 | ⟨b1, o1, rfl, hB, hc⟩
    · omega
    have hcell := hc j (by omega)
    obtain ⟨y, hy⟩ : ∃ y, y = L.getD j 0 := ⟨_, rfl⟩
    rw [← hy] at hcell
    have hlast : L.getLast? = some y := by
      rw [List.getLast?_eq_getElem?, hj, Nat.add_sub_cancel, List.getElem?_eq_getElem (by omega), hy, List.getD_eq_getElem?_getD, List.getElem?_eq_getElem (by omega)]
      rfl
    have HRes := hide (show ((y.toNat : Int) == (x.toNat : Int)) = decide (L.getLast? = some x) by
      rw [hlast]
      by_cases h : y = x
      · subst h; simp
      · have h2 : (y.toNat : Int) ≠ (x.toNat : Int) := fun e => h (UInt8.toNat_inj.1 (by omega))
        rw [decide_eq_false (by simpa using h)]
        simpa using h2)
    rw [hj]
    have hj2 : j ≤ 1000000 := by omega
    clear hc hb hy hlast h0 hl hj
    go_enter Try.func68, Try.ntmps68
    go_wp2
    go_ret
    exact ⟨ret_bool HRes.out, rfl⟩

/-- While columns are read: the cursor, and the reader's box. -/
structure RdB (w W : World) (g r : Nat) (b : List UInt8) (q : Nat) (e : Int) : Prop where
  pc : PC W g r b q e
  mod : Mod w W g none
  box : Whole W w.heap.size 64 #[.pointer (some ⟨g, 0, none⟩)]
section
variable {w W W' : World} {g r q : Nat} {b : List UInt8} {e : Int}
theorem RdB.call {q' : Nat} {e' : Int} (h : RdB w W g r b q e) (hg : g < w.heap.size) (hT : PcTo W g r b q' e' W') : RdB w W' g r b q' e' :=
  ⟨hT.1, h.mod.trans hT.2 (.inl rfl), hT.2.whole h.box (by omega) (by simp)⟩
theorem RdB.ext (h : RdB w W g r b q e) (hE : Ext W W') : RdB w W' g r b q e := ⟨h.pc.ext hE, h.mod.trans (Mod.ofExt hE) (.inl rfl), h.box.ext hE⟩
theorem RdB.lt (h : RdB w W g r b q e) : w.heap.size + 1 ≤ W.heap.size := h.box.lt
theorem RdB.grow {ob : Option Nat} (h : RdB w W g r b q e) (hg : g < w.heap.size) (hr : r < w.heap.size) (hlo : ∀ k, ob = some k → w.heap.size + 1 ≤ k) (hG : W.grownBy W' ob) : RdB w W' g r b q e := by
  refine ⟨?_, ?_, h.box.ownGrown hG (fun e => by have := hlo _ e; omega)⟩
  · cases hv : ob with
    | none =>
      rw [hv] at hG
      exact h.pc.ext (Below.grown (Ext.refl W) hG (Nat.le_refl _) (fun k hk => by cases hk))
    | some k =>
      rw [hv] at hG
      have hk := hlo k hv
      exact h.pc.told (Mod.ofOwn hG) (hG.block g h.pc.lt (by simp; omega)) (by omega)
  · refine h.mod.trans (Mod.ofOwn (ob := ob) hG) ?_
    cases hv : ob with
    | none => exact .inl rfl
    | some k => exact .inr ⟨k, rfl, by have := hlo k hv; omega⟩
end
/-- What times has so far. -/
def TimTo (b : List UInt8) (n : Nat) (L : List Nat) (was q : Nat) (e : Int) : Prop :=
  (e = 0 ∧ timesR b n 0 0 = after L (timesR b (n - L.length) was q)) ∨ (e ≠ 0 ∧ timesR b n 0 0 = ([], 0, e))
theorem TimTo.next {b : List UInt8} {n was q : Nat} {e : Int} {L : List Nat} (h : TimTo b n L was q e) (hl : L.length < n) : TimTo b n (L ++ [(was + zag (numR b q e).1) % 2 ^ 64]) ((was + zag (numR b q e).1) % 2 ^ 64) (numR b q e).2.1 (numR b q e).2.2 := by
  rcases h with ⟨rfl, h⟩ | ⟨h1, h⟩
  · obtain ⟨k, hk⟩ : ∃ k, n - L.length = k + 1 := ⟨n - L.length - 1, by omega⟩
    rw [hk] at h
    by_cases he : (numR b q 0).2.2 = 0
    · refine .inl ⟨he, ?_⟩
      rw [h, times_good he, after_after, List.length_append, List.length_singleton, show n - (L.length + 1) = k by omega]
    · refine .inr ⟨he, ?_⟩
      rw [h, times_bad he]
      unfold after
      rw [if_pos he]
  · have hn : numR b q e = (0, q, e) := by unfold numR; rw [if_neg h1]
    rw [hn]
    exact .inr ⟨h1, h⟩

/-- What times tells. -/
def TimesTo (w : World) (g r : Nat) (b : List UInt8) (n : Nat) (e : Ending) (w' : World) : Prop := ∃ v L q er, e = .returned v ∧ Own64 w' w.heap.size v L ∧ PcTo w g r b q er w' ∧ (er = 0 → timesR b n 0 0 = (L, q, 0)) ∧ (er ≠ 0 → timesR b n 0 0 = ([], 0, er))
set_option maxHeartbeats 4000000 in
set_option maxRecDepth 100000 in
theorem pTimes17_any (n : Nat) {w : World} {g r : Nat} {b : List UInt8} (h : PC w g r b 0 0) (hn : n ≤ 20000) :
    Calls Try.prog 49 #[.agg #[.pointer (some ⟨g, 0, none⟩)], .int .i64 (n : Int)] w (TimesTo w g r b n) := by
  have hg := h.lt
  have hr := h.rlt
  have e1 := extNew w (.cells #[.pointer (some ⟨g, 0, none⟩)] 64)
  have HS0 := hide (show RdB w (w.alloc (.cells #[.pointer (some ⟨g, 0, none⟩)] 64)) g r b 0 0 from ⟨h.ext e1, Mod.ofExt e1, Whole.new w _ _⟩)
  have HB := hide (show g < w.heap.size ∧ r < w.heap.size from ⟨hg, hr⟩)
  have HT0 := hide (show TimTo b n [] 0 0 0 from .inl ⟨rfl, by
    rw [after_nil (times_err b _ _ _)]
    rfl⟩)
  have HDn := hide (fun (L : List Nat) (was q : Nat) (e : Int) (hT : TimTo b n L was q e) (hl : L.length = n) => (show (e = 0 → timesR b n 0 0 = (L, q, 0)) ∧ (e ≠ 0 → timesR b n 0 0 = ([], 0, e)) from by
    rcases hT with ⟨he, hT⟩ | ⟨he, hT⟩
    · refine ⟨fun _ => ?_, fun h => absurd he h⟩
      rw [hT, hl, Nat.sub_self]
      simp [timesR, after]
    · exact ⟨fun h => absurd h he, fun _ => hT⟩))
  clear h hg hr e1
  go_enter Try.func49, Try.ntmps49
  go_wp2
  go_loopw [8, 5, 6] (fun x v y wr => ∃ (was q : Nat) (e : Int) (L : List Nat), L.length ≤ n ∧ x = .int .i64 (L.length : Int) ∧ y = .int .u64 (was : Int) ∧ was < 2 ^ 64 ∧ RdB w wr g r b q e ∧ Own64 wr (w.heap.size + 1) v L ∧ TimTo b n L was q e) (fun x _ _ _ => n - (intOf x).toNat)
  case atStart => exact ⟨0, 0, 0, [], by simp, rfl, rfl, by decide, HS0.out, Own64.nil _ _, HT0.out⟩
  case round =>
    clear HT0 HS0
    obtain ⟨was, q, e, L, hln, rfl, rfl, hwas, hS, hO, hT⟩ := hrel
    by_cases hlt : L.length < n
    · have hiI : (L.length : Int) < (n : Int) := by omega
      have a0 := hS.box.at 0 (u := .pointer (some ⟨g, 0, none⟩)) rfl
      have C1 := pcNum_any hS.pc
      have HNx := hide (hT.next hlt)
      have hx64 : (numR b q e).1 < 2 ^ 64 := by
        unfold numR
        split
        · exact (scan_facts b q).1
        · simp
      obtain ⟨x, q', e', hnum⟩ : ∃ x y z, numR b q e = (x, y, z) := ⟨_, _, _, rfl⟩
      rw [hnum] at C1 HNx hx64
      dsimp only at C1 HNx hx64
      have CZ := fun W => ownZag_any x W (by omega)
      have hzz : zag x < 2 ^ 64 := by unfold zag; split <;> omega
      obtain ⟨z, hz⟩ : ∃ z, z = zag x := ⟨_, rfl⟩
      rw [← hz] at CZ HNx hzz
      have hw : IntKind.u64.wrap ((was : Int) + (z : Int)) = (((was + z) % 18446744073709551616 : Nat) : Int) := by rw [IntKind.wrap_u64]; omega
      have HNw := hide (show (was + z) % 18446744073709551616 < 2 ^ 64 by omega)
      have HNy := hide (show TimTo b n (L ++ [(was + z) % 18446744073709551616]) ((was + z) % 18446744073709551616) q' e' from HNx.out)
      generalize (was + z) % 18446744073709551616 = was' at *
      have HS := hide hS
      have HO := hide hO
      obtain ⟨i, hi⟩ : ∃ i, i = L.length := ⟨_, rfl⟩
      rw [← hi] at hiI hln hlt ⊢
      have HI := hide hi
      clear hS hO hT hnum hz hx64 hzz hwas hi HNx
      go_wp2_with fail
      refine C1.mono ?_
      rintro e w2 ⟨rfl, hT2⟩
      have HS2 := hide (HS.out.call HB.out.1 hT2)
      have HO2 := hide (hT2.2.own64 HO.out (fun e => by have := (HO.out.lt _ e).1; have := HB.out.1; omega) (by cases hv : Value.ownBlock _ <;> simp))
      clear C1 hT2 a0
      go_wp2_with fail
      refine (CZ _).mono ?_
      rintro e w3 ⟨rfl, rfl⟩
      clear CZ
      go_wp2_with (at_builtin; refine wpList_app64 rfl (.tmp 16) (.tmp 18) rfl rfl was' (HO2.out.ext (extNew w2 _)) rfl (by have := HI.out; omega) HS2.out.lt ?_; intro v4 w4 hO4 hG4; have HS4 := hide ((HS2.out.ext (extNew w2 _)).grow HB.out.1 HB.out.2 (fun k hk => (HO2.out.lt k hk).1) hG4); have HO4 := hide hO4; clear hO4 hG4)
      go_roundw
      case rel => exact ⟨was', q', e', _, by rw [List.length_append, List.length_singleton, ← HI.out]; omega, by rw [List.length_append, List.length_singleton, ← HI.out]; go_num, rfl, HNw.out, HS4.out, HO4.out, HNy.out⟩
      case measure => simp [intOf]; omega
    · have hiI : ¬ (L.length : Int) < (n : Int) := by omega
      have HD := hide (HDn.out L was q e hT (by omega))
      have HS := hide hS
      have HO := hide hO
      generalize L.length = i at *
      clear hS hO hT hlt hwas
      go_wp2
      go_ret
      exact ⟨_, L, q, e, rfl, ⟨HO.out.1, by
        rcases HO.out.2 with hl | ⟨x, cap, cur, hl, hb, hr⟩
        · exact .inl hl
        · exact .inr ⟨x, cap, cur, hl, by omega, hr⟩⟩, ⟨HS.out.pc, HS.out.mod⟩, HD.out⟩
end Go.Proofs.Ytkgkppblkdihkaa

