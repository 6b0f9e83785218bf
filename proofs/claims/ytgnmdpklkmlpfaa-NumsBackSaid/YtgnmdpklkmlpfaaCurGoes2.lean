/- What goes on in the cursor's reading calls: a number that is at most so much, a fixed number, bytes, a text. -/
import Derived.Test.YtgnmdpklkmlpfaaCurNum
namespace Go.Proofs.Ytgnmdpklkmlpfaa
open Go.RowKit

theorem Told.ext0 {w w' : World} {g r t q : Nat} {T : TypeId} {b : List UInt8} {v : Value} (h : PC w g r b q 0) (ht : Whole w t T #[v]) (hE : Ext w w') : Told w g r t T b v q w' := ⟨h.ext hE, ht.ext hE, Mod.ofExt hE⟩
/-- Behind a closure that tells bytes of the row. -/
def ToldRow (w : World) (g r t : Nat) (b l : List UInt8) (q : Nat) (w' : World) : Prop := ∃ A n c, PC w' g r b q 0 ∧ Whole w' t 58 #[.slice A n c] ∧ n ≤ c ∧ RowIn w' g r A n l ∧ Mod w w' g (some t)
theorem ToldRow.from {w w' w'' : World} {g r t q : Nat} {b l : List UInt8} (hE : Ext w w') (h : ToldRow w' g r t b l q w'') : ToldRow w g r t b l q w'' := by
  obtain ⟨A, n, c, h1, h2, h3, h4, h5⟩ := h
  exact ⟨A, n, c, h1, h2, h3, h4, (Mod.ofExt hE).trans h5 (.inl rfl)⟩
theorem ToldRow.ext0 {w w' : World} {g r t q : Nat} {b : List UInt8} (h : PC w g r b q 0) (ht : Whole w t 58 #[.slice none 0 0]) (hE : Ext w w') : ToldRow w g r t b [] q w' := ⟨none, 0, 0, h.ext hE, ht.ext hE, Nat.le_refl _, ⟨rfl, .inl rfl⟩, Mod.ofExt hE⟩
theorem ToldRow.of {w w' : World} {g r t q q0 nx cx : Nat} {e : Int} {b l : List UInt8} {Ax : Option Addr} (h : PC w g r b q0 e) (htr : t ≠ r) (hx : RowIn w g r Ax nx l) (hn : nx ≤ cx) (hT : Told w g r t 58 b (.slice Ax nx cx) q w') : ToldRow w g r t b l q w' :=
  ⟨Ax, nx, cx, hT.1, hT.2.1, hn, hx.mod hT.2.2 h.rlt (by simpa using htr), hT.2.2⟩

theorem entered_tellInt : Entered 57 := entered_of Try.func57 (by kernel_rfl) rfl
theorem entered_tellRow : Entered 59 := entered_of Try.func59 (by kernel_rfl) rfl

theorem intGoes {w : World} {g r t Bt Bc q m c : Nat} {b : List UInt8} {A : Option Addr} {most : Int} (hm : most ≤ 9223372036854775807) (h : PC w g r b q 0) (hrow : w.cell? ⟨g, 0, none⟩ = some (.slice A m c)) (hBt : w.cell? ⟨Bt, 0, none⟩ = some (.pointer (some ⟨t, 0, none⟩))) (hBc : w.cell? ⟨Bc, 0, none⟩ = some (.pointer (some ⟨g, 0, none⟩)))
    (ht : Whole w t 3 #[.int .i64 0]) (htg : t ≠ g) (htr : t ≠ r) (hct : Bc ≠ t) (hcg : Bc ≠ g) :
    Calls Try.prog 43 #[.slice A m c, .int .i64 most, .func (.func 57) #[] #[.pointer (some ⟨Bt, 0, none⟩), .pointer (some ⟨Bc, 0, none⟩)]] w
      fun e w' => e = .returned (.int .i64 (Num.intR b q 0 most).2.2) ∧ Told w g r t 3 b (.int .i64 (((Num.intR b q 0 most).1 : Nat) : Int)) (Num.intR b q 0 most).2.1 w' := by
  obtain ⟨A0, c0, d0, _, _, _, _, _, hc0, hR0⟩ := h.cells
  rw [hrow] at d0
  simp only [Option.some.injEq, Value.slice.injEq] at d0
  obtain ⟨rfl, rfl, rfl⟩ := d0
  have hl := h.bounds
  have hI : Num.intR b q 0 most = (if (Num.numR b q 0).2.2 = 0 then (if most < ((Num.numR b q 0).1 : Int) then (0, q, 6) else Num.numR b q 0) else (0, (Num.numR b q 0).2.1, (Num.numR b q 0).2.2)) := rfl
  rw [show Num.numR b q 0 = Num.scan b q from rfl, Num.scan_drop b q] at hI
  have hf := Num.scan_facts (b.drop q) 0
  have hlen : (b.drop q).length = b.length - q := List.length_drop
  have := count_any (w := w) (A := A) (c := c) (l := b.drop q) (most := most) (K := 57) (cap := #[.pointer (some ⟨Bt, 0, none⟩), .pointer (some ⟨Bc, 0, none⟩)])
    (R := fun e w' => e = .returned (.int .i64 (Num.intR b q 0 most).2.2) ∧ Told w g r t 3 b (.int .i64 (((Num.intR b q 0 most).1 : Nat) : Int)) (Num.intR b q 0 most).2.1 w')
    entered_tellInt hm (by rw [hlen]; exact hR0.bytes) (by omega) (by omega) (fun e w' he => ⟨_, he.1⟩)
    (fun er w' hE hcase => by
      rcases hcase with ⟨rfl, h0⟩ | ⟨h0, h6, rfl⟩
      · obtain ⟨h1, h2⟩ := hf.2.2.1 h0
        rw [if_neg h0, h1] at hI
        rw [hI]
        exact ⟨rfl, Told.ext0 h ht hE⟩
      · rw [if_pos h0, if_pos h6] at hI
        rw [hI]
        exact ⟨rfl, Told.ext0 h ht hE⟩)
    (fun h0 hle w' hE => by
      obtain ⟨h1, h2⟩ := hf.2.1 h0
      rw [if_pos h0, if_neg (by omega)] at hI
      rw [hI, h0]
      have hRd := (hR0.drop (k := (Num.scan (b.drop q) 0).2.1) (by omega) hc0)
      rw [List.drop_drop, Nat.sub_sub] at hRd
      rw [hlen, Nat.sub_sub]
      have hBlt := World.block_lt_of_cell? w ⟨Bt, 0, none⟩ hBt
      have hClt := World.block_lt_of_cell? w ⟨Bc, 0, none⟩ hBc
      refine (tellInt_any (h.ext hE) (by omega) (by omega) ((hE.cell hBlt).trans hBt) ((hE.cell hClt).trans hBc) (ht.ext hE) htg htr hct hcg (hRd.at (hE.block r h.rlt)) (by omega)).mono ?_
      rintro e w2 ⟨rfl, hT⟩
      exact ⟨rfl, Told.from hE hT⟩)
  rwa [hlen] at this

theorem fixGoes {w : World} {g r t Bt Bc q m c : Nat} {b : List UInt8} {A : Option Addr} {n : Int} (h : PC w g r b q 0) (hrow : w.cell? ⟨g, 0, none⟩ = some (.slice A m c)) (hBt : w.cell? ⟨Bt, 0, none⟩ = some (.pointer (some ⟨t, 0, none⟩))) (hBc : w.cell? ⟨Bc, 0, none⟩ = some (.pointer (some ⟨g, 0, none⟩)))
    (ht : Whole w t 22 #[.int .u64 0]) (htg : t ≠ g) (htr : t ≠ r) (hct : Bc ≠ t) (hcg : Bc ≠ g) :
    Calls Try.prog 46 #[.slice A m c, .int .i64 n, .func (.func 55) #[] #[.pointer (some ⟨Bt, 0, none⟩), .pointer (some ⟨Bc, 0, none⟩)]] w
      fun e w' => e = .returned (.int .i64 (Num.fixedR b q 0 n).2.2) ∧ Told w g r t 22 b (.int .u64 (((Num.fixedR b q 0 n).1 : Nat) : Int)) (Num.fixedR b q 0 n).2.1 w' := by
  obtain ⟨A0, c0, d0, _, _, _, _, _, hc0, hR0⟩ := h.cells
  rw [hrow] at d0
  simp only [Option.some.injEq, Value.slice.injEq] at d0
  obtain ⟨rfl, rfl, rfl⟩ := d0
  have hl := h.bounds
  have hlen : (b.drop q).length = b.length - q := List.length_drop
  have := fixed_any (w := w) (A := A) (c := c) (n := n) (l := b.drop q) (K := 55) (cap := #[.pointer (some ⟨Bt, 0, none⟩), .pointer (some ⟨Bc, 0, none⟩)])
    (R := fun e w' => e = .returned (.int .i64 (Num.fixedR b q 0 n).2.2) ∧ Told w g r t 22 b (.int .u64 (((Num.fixedR b q 0 n).1 : Nat) : Int)) (Num.fixedR b q 0 n).2.1 w')
    entered_tell64 (by rw [hlen]; exact hR0.bytes) (by omega) (fun e w' he => ⟨_, he.1⟩)
    (fun er w' hE hcase => by
      rcases hcase with ⟨h13, rfl⟩ | ⟨h1, h8, hbig, rfl⟩
      · have hF : Num.fixedR b q 0 n = (0, q, 13) := by unfold Num.fixedR; rw [if_pos rfl, if_pos h13]
        rw [hF]
        exact ⟨rfl, Told.ext0 h ht hE⟩
      · have hF : Num.fixedR b q 0 n = (0, q, 1) := by
          unfold Num.fixedR Num.takeR
          rw [if_pos rfl, if_neg (by omega), if_pos rfl, if_neg (by omega), if_pos (by omega)]
          rfl
        rw [hF]
        exact ⟨rfl, Told.ext0 h ht hE⟩)
    (fun k hk h1 h8 hkm w' hE => by
      subst hk
      have hF : Num.fixedR b q 0 (k : Int) = (Num.low ((b.drop q).take k), q + k, 0) := by
        unfold Num.fixedR Num.takeR
        rw [if_pos rfl, if_neg (by omega), if_pos rfl, if_neg (by omega), if_neg (by omega)]
        rfl
      rw [hF]
      have hRd := (hR0.drop (k := k) (by omega) hc0)
      rw [List.drop_drop, Nat.sub_sub] at hRd
      rw [hlen, Nat.sub_sub]
      have hBlt := World.block_lt_of_cell? w ⟨Bt, 0, none⟩ hBt
      have hClt := World.block_lt_of_cell? w ⟨Bc, 0, none⟩ hBc
      refine (tell64_any (h.ext hE) (by omega) (by omega) ((hE.cell hBlt).trans hBt) ((hE.cell hClt).trans hBc) (ht.ext hE) htg htr hct hcg (hRd.at (hE.block r h.rlt)) (by omega)).mono ?_
      rintro e w2 ⟨rfl, hT⟩
      exact ⟨rfl, Told.from hE hT⟩)
  rwa [hlen] at this

theorem takeGoes {w : World} {g r t Bt Bc q m c : Nat} {b : List UInt8} {A : Option Addr} {n : Int} (h : PC w g r b q 0) (hrow : w.cell? ⟨g, 0, none⟩ = some (.slice A m c)) (hBt : w.cell? ⟨Bt, 0, none⟩ = some (.pointer (some ⟨t, 0, none⟩))) (hBc : w.cell? ⟨Bc, 0, none⟩ = some (.pointer (some ⟨g, 0, none⟩)))
    (ht : Whole w t 58 #[.slice none 0 0]) (htg : t ≠ g) (htr : t ≠ r) (hct : Bc ≠ t) (hcg : Bc ≠ g) :
    Calls Try.prog 48 #[.slice A m c, .int .i64 n, .func (.func 59) #[] #[.pointer (some ⟨Bt, 0, none⟩), .pointer (some ⟨Bc, 0, none⟩)]] w
      fun e w' => e = .returned (.int .i64 (Num.takeR b q 0 n).2.2) ∧ ToldRow w g r t b (Num.takeR b q 0 n).1 (Num.takeR b q 0 n).2.1 w' := by
  obtain ⟨A0, c0, d0, _, _, _, _, _, hc0, hR0⟩ := h.cells
  rw [hrow] at d0
  simp only [Option.some.injEq, Value.slice.injEq] at d0
  obtain ⟨rfl, rfl, rfl⟩ := d0
  have hl := h.bounds
  refine first_any (w := w) (A := A) (m := b.length - q) (c := c) (n := n) (K := 59) (cap := #[.pointer (some ⟨Bt, 0, none⟩), .pointer (some ⟨Bc, 0, none⟩)]) entered_tellRow hc0 (fun e w' he => ⟨_, he.1⟩) (fun h0 => ?_) (fun h0 => ?_) (fun k hk hkm => ?_)
  · have hF : Num.takeR b q 0 n = ([], q, 13) := by unfold Num.takeR; rw [if_pos rfl, if_pos h0]
    rw [hF]
    exact ⟨rfl, ToldRow.ext0 h ht (Ext.refl _)⟩
  · have hF : Num.takeR b q 0 n = ([], q, 1) := by unfold Num.takeR; rw [if_pos rfl, if_neg (by omega), if_pos h0]
    rw [hF]
    exact ⟨rfl, ToldRow.ext0 h ht (Ext.refl _)⟩
  · subst hk
    have hF : Num.takeR b q 0 (k : Int) = ((b.drop q).take k, q + k, 0) := by unfold Num.takeR; rw [if_pos rfl, if_neg (by omega), if_neg (by omega)]; rfl
    rw [hF]
    have hE : Ext w w.drew := (Ext.refl w).drew
    have hRd := (hR0.drop (k := k) (by omega) hc0)
    rw [List.drop_drop, Nat.sub_sub] at hRd
    rw [Nat.sub_sub]
    have hRt := ((hR0.drop (k := 0) (by omega) hc0)).take (k := k) (by omega)
    rw [List.drop_zero] at hRt
    have hRt' := hRt.at (hE.block r h.rlt)
    have hBlt := World.block_lt_of_cell? w ⟨Bt, 0, none⟩ hBt
    have hClt := World.block_lt_of_cell? w ⟨Bc, 0, none⟩ hBc
    refine (tellRow_any (h.ext hE) (by omega) (by omega) ((hE.cell hBlt).trans hBt) ((hE.cell hClt).trans hBc) (ht.ext hE) htg htr hct hcg (hRd.at (hE.block r h.rlt)) (by omega)).mono ?_
    rintro e w2 ⟨rfl, hT⟩
    exact ⟨rfl, ToldRow.from hE (ToldRow.of (h.ext hE) htr hRt' (by omega) hT)⟩

theorem textGoes {w : World} {g r t Bt Bc q m c : Nat} {b : List UInt8} {A : Option Addr} {most : Int} (hm : most ≤ 9223372036854775807) (h : PC w g r b q 0) (hrow : w.cell? ⟨g, 0, none⟩ = some (.slice A m c)) (hBt : w.cell? ⟨Bt, 0, none⟩ = some (.pointer (some ⟨t, 0, none⟩))) (hBc : w.cell? ⟨Bc, 0, none⟩ = some (.pointer (some ⟨g, 0, none⟩)))
    (ht : Whole w t 58 #[.slice none 0 0]) (htg : t ≠ g) (htr : t ≠ r) (hct : Bc ≠ t) (hcg : Bc ≠ g) :
    Calls Try.prog 52 #[.slice A m c, .int .i64 most, .func (.func 59) #[] #[.pointer (some ⟨Bt, 0, none⟩), .pointer (some ⟨Bc, 0, none⟩)]] w
      fun e w' => e = .returned (.int .i64 (Num.textR b q 0 most).2.2) ∧ ToldRow w g r t b (Num.textR b q 0 most).1 (Num.textR b q 0 most).2.1 w' := by
  obtain ⟨A0, c0, d0, _, _, _, _, _, hc0, hR0⟩ := h.cells
  rw [hrow] at d0
  simp only [Option.some.injEq, Value.slice.injEq] at d0
  obtain ⟨rfl, rfl, rfl⟩ := d0
  have hl := h.bounds
  have hI : Num.intR b q 0 most = (if (Num.numR b q 0).2.2 = 0 then (if most < ((Num.numR b q 0).1 : Int) then (0, q, 6) else Num.numR b q 0) else (0, (Num.numR b q 0).2.1, (Num.numR b q 0).2.2)) := rfl
  rw [show Num.numR b q 0 = Num.scan b q from rfl, Num.scan_drop b q] at hI
  have hf := Num.scan_facts (b.drop q) 0
  have hlen : (b.drop q).length = b.length - q := List.length_drop
  have := text_any (w := w) (A := A) (c := c) (l := b.drop q) (most := most) (K := 59) (cap := #[.pointer (some ⟨Bt, 0, none⟩), .pointer (some ⟨Bc, 0, none⟩)])
    (R := fun e w' => e = .returned (.int .i64 (Num.textR b q 0 most).2.2) ∧ ToldRow w g r t b (Num.textR b q 0 most).1 (Num.textR b q 0 most).2.1 w')
    entered_tellRow hm (by rw [hlen]; exact hR0.bytes) (by omega) (by omega) (fun e w' he => ⟨_, he.1⟩)
    (fun er w' hE hcase => by
      rcases hcase with ⟨rfl, h0⟩ | ⟨h0, h6, rfl⟩ | ⟨h0, hle, hs, rfl⟩
      · obtain ⟨h1, h2⟩ := hf.2.2.1 h0
        rw [if_neg h0, h1] at hI
        have hF : Num.textR b q 0 most = ([], q, (Num.scan (b.drop q) 0).2.2) := by unfold Num.textR; rw [hI, if_neg h0]; rfl
        rw [hF]
        exact ⟨rfl, ToldRow.ext0 h ht hE⟩
      · rw [if_pos h0, if_pos h6] at hI
        have hF : Num.textR b q 0 most = ([], q, 6) := by unfold Num.textR; rw [hI, if_neg (by simp)]
        rw [hF]
        exact ⟨rfl, ToldRow.ext0 h ht hE⟩
      · obtain ⟨h1, h2⟩ := hf.2.1 h0
        rw [if_pos h0, if_neg (by omega)] at hI
        have hF : Num.textR b q 0 most = ([], q, 1) := by
          unfold Num.textR
          rw [hI, if_pos h0, if_pos (by simp only; omega)]
        rw [hF]
        exact ⟨rfl, ToldRow.ext0 h ht hE⟩)
    (fun h0 hle hs w' hE => by
      obtain ⟨h1, h2⟩ := hf.2.1 h0
      rw [if_pos h0, if_neg (by omega)] at hI
      generalize hx : (Num.scan (b.drop q) 0).1 = x at *
      generalize hp : (Num.scan (b.drop q) 0).2.1 = p at *
      have hF : Num.textR b q 0 most = ((b.drop (q + p)).take x, q + p + x, 0) := by
        unfold Num.textR
        rw [hI, if_pos h0, if_neg (by simp only; omega)]
        unfold Num.takeR
        rw [if_pos rfl, if_neg (by omega), if_neg (by simp only; omega)]
        rfl
      rw [hF]
      have hRd := hR0.drop (k := p) (by omega) hc0
      rw [List.drop_drop] at hRd
      have hRx := hRd.drop (k := x) (c := c - p) (by omega) (by omega)
      rw [List.drop_drop, show b.length - q - p - x = b.length - (q + p + x) by omega] at hRx
      have hRt := (hRd.drop (k := 0) (c := c - p) (by omega) (by omega)).take (k := x) (by omega)
      rw [List.drop_zero] at hRt
      have hRt' := hRt.at (hE.block r h.rlt)
      rw [hlen, show b.length - q - p - x = b.length - (q + p + x) by omega]
      have hBlt := World.block_lt_of_cell? w ⟨Bt, 0, none⟩ hBt
      have hClt := World.block_lt_of_cell? w ⟨Bc, 0, none⟩ hBc
      refine (tellRow_any (h.ext hE) (by omega) (by omega) ((hE.cell hBlt).trans hBt) ((hE.cell hClt).trans hBc) (ht.ext hE) htg htr hct hcg (hRx.at (hE.block r h.rlt)) (by omega)).mono ?_
      rintro e w2 ⟨rfl, hT⟩
      exact ⟨rfl, ToldRow.from hE (ToldRow.of (h.ext hE) htr hRt' (by omega) hT)⟩)
  rwa [hlen] at this

theorem entered_int1 : Entered 42 := entered_of Try.func42 (by kernel_rfl) rfl
set_option maxHeartbeats 2000000 in
set_option maxRecDepth 100000 in
theorem int1_any {w : World} {g r t B0 B1 q : Nat} {b : List UInt8} {most : Int} (hm : most ≤ 9223372036854775807) (h : PC w g r b q 0) (hB0 : w.cell? ⟨B0, 0, none⟩ = some (.pointer (some ⟨g, 0, none⟩))) (hB1 : w.cell? ⟨B1, 0, none⟩ = some (.int .i64 most)) (ht : Whole w t 3 #[.int .i64 0]) (htg : t ≠ g) (htr : t ≠ r) :
    Calls Try.prog 42 #[.pointer (some ⟨B0, 0, none⟩), .pointer (some ⟨B1, 0, none⟩), .pointer (some ⟨t, 0, none⟩)] w
      fun e w' => e = .returned (.int .i64 (Num.intR b q 0 most).2.2) ∧ Told w g r t 3 b (.int .i64 (((Num.intR b q 0 most).1 : Nat) : Int)) (Num.intR b q 0 most).2.1 w' := by
  obtain ⟨A, c, c0, x1, x2, x3, x4, x5, hc, hR⟩ := h.cells
  clear x1 x2 x3 x4 x5
  have hglt := h.lt
  have htlt := ht.lt
  have hBlt := World.block_lt_of_cell? w ⟨B0, 0, none⟩ hB0
  have hBlt1 := World.block_lt_of_cell? w ⟨B1, 0, none⟩ hB1
  have HP := hide h
  have HT := hide ht
  clear h ht hR hc
  go_enter Try.func42, Try.ntmps42
  go_wp2
  refine wp_region_T (fun W => W.cell? ⟨B0, 0, none⟩ = some (.pointer (some ⟨g, 0, none⟩)) ∧ W.cell? ⟨B1, 0, none⟩ = some (.int .i64 most) ∧ W.cell? ⟨g, 0, none⟩ = some (.slice A (b.length - q) c)) 7 9 #[false, false, false, false, false, false, false, false, false] (by kernel_rfl) rfl rfl ⟨hB0, hB1, c0⟩ ?_
  intro hS0
  refine wpAnyT_take 0 (some 4) (.pointer (some ⟨g, 0, none⟩)) #[true, false, false, false, false, false, false, false, false] rfl rfl rfl (by kernel_rfl) (fun _ _ _ h => h) hS0 (by rfl) (fun W ⟨s0, s1, s2⟩ => by go_simp) ?_
  simp only [Act.put, List.setIfInBounds_toArray, List.set_cons_zero, List.set_cons_succ]
  refine wpAnyT_take 1 (some 5) (.pointer (some ⟨g, 0, none⟩)) #[true, true, false, false, false, false, false, false, false] rfl rfl rfl (by kernel_rfl) (fun _ _ _ h => h) hS0 (by rfl) (fun W ⟨s0, s1, s2⟩ => by go_simp) ?_
  simp only [Act.put, List.setIfInBounds_toArray, List.set_cons_zero, List.set_cons_succ]
  refine wpAnyT_take 2 (some 6) (.pointer (some ⟨g, 0, none⟩)) #[true, true, true, false, false, false, false, false, false] rfl rfl rfl (by kernel_rfl) (fun _ _ _ h => h) hS0 (by rfl) (fun W ⟨s0, s1, s2⟩ => by go_simp) ?_
  simp only [Act.put, List.setIfInBounds_toArray, List.set_cons_zero, List.set_cons_succ]
  refine wpAnyT_take 3 (some 7) (.slice A (b.length - q) c) #[true, true, true, true, false, false, false, false, false] rfl rfl rfl (by kernel_rfl) (fun _ _ _ h => h) hS0 (by rfl) (fun W ⟨s0, s1, s2⟩ => by go_simp) ?_
  simp only [Act.put, List.setIfInBounds_toArray, List.set_cons_zero, List.set_cons_succ]
  refine wpAnyT_take 4 (some 8) (.int .i64 most) #[true, true, true, true, true, false, false, false, false] rfl rfl rfl (by kernel_rfl) (fun _ _ _ h => h) hS0 (by rfl) (fun W ⟨s0, s1, s2⟩ => by go_simp) ?_
  simp only [Act.put, List.setIfInBounds_toArray, List.set_cons_zero, List.set_cons_succ]
  refine wpAnyT_take 5 (some 9) (.pointer (some ⟨g, 0, none⟩)) #[true, true, true, true, true, true, false, false, false] rfl rfl rfl (by kernel_rfl) (fun _ _ _ h => h) hS0 (by rfl) (fun W ⟨s0, s1, s2⟩ => by go_simp) ?_
  simp only [Act.put, List.setIfInBounds_toArray, List.set_cons_zero, List.set_cons_succ]
  refine wpAnyT_only 6 #[true, true, true, true, true, true, true, false, false] (by kernel_rfl) rfl rfl (by rfl) (fun K hK => ?_)
  go_simp
  refine (takerInt_any g t _).mono ?_
  rintro e w2 ⟨Bt, Bc, rfl, _, hBc1, hBt, hBc, hE2'⟩
  have hE2 : Ext w w2 := (Ext.refl w).drew.trans hE2'
  have k0 := (hE2.cell (i := 0) hBlt).trans hB0
  have kn := (hE2.cell (i := 0) hBlt1).trans hB1
  have k1 := (hE2.cell (i := 0) hglt).trans c0
  change w.heap.size ≤ Bc at hBc1
  refine hK _ _ (fun _ => ⟨k0, kn, k1⟩) ?_
  clear hK K
  refine wpAnyT_only 7 #[true, true, true, true, true, true, true, true, false] (by kernel_rfl) rfl rfl (by rfl) (fun K hK => ?_)
  go_simp
  refine (intGoes hm (HP.out.ext hE2) k1 hBt hBc (HT.out.ext hE2) htg htr (by omega) (by omega)).mono ?_
  rintro e w3 ⟨rfl, hT3⟩
  refine hK _ _ (fun h => absurd h (by decide)) ?_
  clear hK K
  refine wpAnyT_only 8 #[true, true, true, true, true, true, true, true, true] (by kernel_rfl) rfl rfl (by rfl) (fun K hK => ?_)
  go_simp
  refine hK _ _ (fun h => absurd h (by decide)) ?_
  refine wpAnyT_done (by kernel_rfl) ?_ _
  go_wp2
  go_ret
  exact ⟨rfl, Told.from hE2 hT3⟩

theorem entered_cfixed1 : Entered 45 := entered_of Try.func45 (by kernel_rfl) rfl
set_option maxHeartbeats 2000000 in
set_option maxRecDepth 100000 in
theorem cfixed1_any {w : World} {g r t B0 B1 q : Nat} {b : List UInt8} {n : Int} (h : PC w g r b q 0) (hB0 : w.cell? ⟨B0, 0, none⟩ = some (.pointer (some ⟨g, 0, none⟩))) (hB1 : w.cell? ⟨B1, 0, none⟩ = some (.int .i64 n)) (ht : Whole w t 22 #[.int .u64 0]) (htg : t ≠ g) (htr : t ≠ r) :
    Calls Try.prog 45 #[.pointer (some ⟨B0, 0, none⟩), .pointer (some ⟨B1, 0, none⟩), .pointer (some ⟨t, 0, none⟩)] w
      fun e w' => e = .returned (.int .i64 (Num.fixedR b q 0 n).2.2) ∧ Told w g r t 22 b (.int .u64 (((Num.fixedR b q 0 n).1 : Nat) : Int)) (Num.fixedR b q 0 n).2.1 w' := by
  obtain ⟨A, c, c0, x1, x2, x3, x4, x5, hc, hR⟩ := h.cells
  clear x1 x2 x3 x4 x5
  have hglt := h.lt
  have htlt := ht.lt
  have hBlt := World.block_lt_of_cell? w ⟨B0, 0, none⟩ hB0
  have hBlt1 := World.block_lt_of_cell? w ⟨B1, 0, none⟩ hB1
  have HP := hide h
  have HT := hide ht
  clear h ht hR hc
  go_enter Try.func45, Try.ntmps45
  go_wp2
  refine wp_region_T (fun W => W.cell? ⟨B0, 0, none⟩ = some (.pointer (some ⟨g, 0, none⟩)) ∧ W.cell? ⟨B1, 0, none⟩ = some (.int .i64 n) ∧ W.cell? ⟨g, 0, none⟩ = some (.slice A (b.length - q) c)) 7 9 #[false, false, false, false, false, false, false, false, false] (by kernel_rfl) rfl rfl ⟨hB0, hB1, c0⟩ ?_
  intro hS0
  refine wpAnyT_take 0 (some 4) (.pointer (some ⟨g, 0, none⟩)) #[true, false, false, false, false, false, false, false, false] rfl rfl rfl (by kernel_rfl) (fun _ _ _ h => h) hS0 (by rfl) (fun W ⟨s0, s1, s2⟩ => by go_simp) ?_
  simp only [Act.put, List.setIfInBounds_toArray, List.set_cons_zero, List.set_cons_succ]
  refine wpAnyT_take 1 (some 5) (.pointer (some ⟨g, 0, none⟩)) #[true, true, false, false, false, false, false, false, false] rfl rfl rfl (by kernel_rfl) (fun _ _ _ h => h) hS0 (by rfl) (fun W ⟨s0, s1, s2⟩ => by go_simp) ?_
  simp only [Act.put, List.setIfInBounds_toArray, List.set_cons_zero, List.set_cons_succ]
  refine wpAnyT_take 2 (some 6) (.pointer (some ⟨g, 0, none⟩)) #[true, true, true, false, false, false, false, false, false] rfl rfl rfl (by kernel_rfl) (fun _ _ _ h => h) hS0 (by rfl) (fun W ⟨s0, s1, s2⟩ => by go_simp) ?_
  simp only [Act.put, List.setIfInBounds_toArray, List.set_cons_zero, List.set_cons_succ]
  refine wpAnyT_take 3 (some 7) (.slice A (b.length - q) c) #[true, true, true, true, false, false, false, false, false] rfl rfl rfl (by kernel_rfl) (fun _ _ _ h => h) hS0 (by rfl) (fun W ⟨s0, s1, s2⟩ => by go_simp) ?_
  simp only [Act.put, List.setIfInBounds_toArray, List.set_cons_zero, List.set_cons_succ]
  refine wpAnyT_take 4 (some 8) (.int .i64 n) #[true, true, true, true, true, false, false, false, false] rfl rfl rfl (by kernel_rfl) (fun _ _ _ h => h) hS0 (by rfl) (fun W ⟨s0, s1, s2⟩ => by go_simp) ?_
  simp only [Act.put, List.setIfInBounds_toArray, List.set_cons_zero, List.set_cons_succ]
  refine wpAnyT_take 5 (some 9) (.pointer (some ⟨g, 0, none⟩)) #[true, true, true, true, true, true, false, false, false] rfl rfl rfl (by kernel_rfl) (fun _ _ _ h => h) hS0 (by rfl) (fun W ⟨s0, s1, s2⟩ => by go_simp) ?_
  simp only [Act.put, List.setIfInBounds_toArray, List.set_cons_zero, List.set_cons_succ]
  refine wpAnyT_only 6 #[true, true, true, true, true, true, true, false, false] (by kernel_rfl) rfl rfl (by rfl) (fun K hK => ?_)
  go_simp
  refine (taker64_any g t _).mono ?_
  rintro e w2 ⟨Bt, Bc, rfl, _, hBc1, hBt, hBc, hE2'⟩
  have hE2 : Ext w w2 := (Ext.refl w).drew.trans hE2'
  have k0 := (hE2.cell (i := 0) hBlt).trans hB0
  have kn := (hE2.cell (i := 0) hBlt1).trans hB1
  have k1 := (hE2.cell (i := 0) hglt).trans c0
  change w.heap.size ≤ Bc at hBc1
  refine hK _ _ (fun _ => ⟨k0, kn, k1⟩) ?_
  clear hK K
  refine wpAnyT_only 7 #[true, true, true, true, true, true, true, true, false] (by kernel_rfl) rfl rfl (by rfl) (fun K hK => ?_)
  go_simp
  refine (fixGoes (HP.out.ext hE2) k1 hBt hBc (HT.out.ext hE2) htg htr (by omega) (by omega)).mono ?_
  rintro e w3 ⟨rfl, hT3⟩
  refine hK _ _ (fun h => absurd h (by decide)) ?_
  clear hK K
  refine wpAnyT_only 8 #[true, true, true, true, true, true, true, true, true] (by kernel_rfl) rfl rfl (by rfl) (fun K hK => ?_)
  go_simp
  refine hK _ _ (fun h => absurd h (by decide)) ?_
  refine wpAnyT_done (by kernel_rfl) ?_ _
  go_wp2
  go_ret
  exact ⟨rfl, Told.from hE2 hT3⟩

theorem entered_take1 : Entered 47 := entered_of Try.func47 (by kernel_rfl) rfl
set_option maxHeartbeats 2000000 in
set_option maxRecDepth 100000 in
theorem take1_any {w : World} {g r t B0 B1 q : Nat} {b : List UInt8} {n : Int} (h : PC w g r b q 0) (hB0 : w.cell? ⟨B0, 0, none⟩ = some (.pointer (some ⟨g, 0, none⟩))) (hB1 : w.cell? ⟨B1, 0, none⟩ = some (.int .i64 n)) (ht : Whole w t 58 #[.slice none 0 0]) (htg : t ≠ g) (htr : t ≠ r) :
    Calls Try.prog 47 #[.pointer (some ⟨B0, 0, none⟩), .pointer (some ⟨B1, 0, none⟩), .pointer (some ⟨t, 0, none⟩)] w
      fun e w' => e = .returned (.int .i64 (Num.takeR b q 0 n).2.2) ∧ ToldRow w g r t b (Num.takeR b q 0 n).1 (Num.takeR b q 0 n).2.1 w' := by
  obtain ⟨A, c, c0, x1, x2, x3, x4, x5, hc, hR⟩ := h.cells
  clear x1 x2 x3 x4 x5
  have hglt := h.lt
  have htlt := ht.lt
  have hBlt := World.block_lt_of_cell? w ⟨B0, 0, none⟩ hB0
  have hBlt1 := World.block_lt_of_cell? w ⟨B1, 0, none⟩ hB1
  have HP := hide h
  have HT := hide ht
  clear h ht hR hc
  go_enter Try.func47, Try.ntmps47
  go_wp2
  refine wp_region_T (fun W => W.cell? ⟨B0, 0, none⟩ = some (.pointer (some ⟨g, 0, none⟩)) ∧ W.cell? ⟨B1, 0, none⟩ = some (.int .i64 n) ∧ W.cell? ⟨g, 0, none⟩ = some (.slice A (b.length - q) c)) 7 9 #[false, false, false, false, false, false, false, false, false] (by kernel_rfl) rfl rfl ⟨hB0, hB1, c0⟩ ?_
  intro hS0
  refine wpAnyT_take 0 (some 4) (.pointer (some ⟨g, 0, none⟩)) #[true, false, false, false, false, false, false, false, false] rfl rfl rfl (by kernel_rfl) (fun _ _ _ h => h) hS0 (by rfl) (fun W ⟨s0, s1, s2⟩ => by go_simp) ?_
  simp only [Act.put, List.setIfInBounds_toArray, List.set_cons_zero, List.set_cons_succ]
  refine wpAnyT_take 1 (some 5) (.pointer (some ⟨g, 0, none⟩)) #[true, true, false, false, false, false, false, false, false] rfl rfl rfl (by kernel_rfl) (fun _ _ _ h => h) hS0 (by rfl) (fun W ⟨s0, s1, s2⟩ => by go_simp) ?_
  simp only [Act.put, List.setIfInBounds_toArray, List.set_cons_zero, List.set_cons_succ]
  refine wpAnyT_take 2 (some 6) (.pointer (some ⟨g, 0, none⟩)) #[true, true, true, false, false, false, false, false, false] rfl rfl rfl (by kernel_rfl) (fun _ _ _ h => h) hS0 (by rfl) (fun W ⟨s0, s1, s2⟩ => by go_simp) ?_
  simp only [Act.put, List.setIfInBounds_toArray, List.set_cons_zero, List.set_cons_succ]
  refine wpAnyT_take 3 (some 7) (.slice A (b.length - q) c) #[true, true, true, true, false, false, false, false, false] rfl rfl rfl (by kernel_rfl) (fun _ _ _ h => h) hS0 (by rfl) (fun W ⟨s0, s1, s2⟩ => by go_simp) ?_
  simp only [Act.put, List.setIfInBounds_toArray, List.set_cons_zero, List.set_cons_succ]
  refine wpAnyT_take 4 (some 8) (.int .i64 n) #[true, true, true, true, true, false, false, false, false] rfl rfl rfl (by kernel_rfl) (fun _ _ _ h => h) hS0 (by rfl) (fun W ⟨s0, s1, s2⟩ => by go_simp) ?_
  simp only [Act.put, List.setIfInBounds_toArray, List.set_cons_zero, List.set_cons_succ]
  refine wpAnyT_take 5 (some 9) (.pointer (some ⟨g, 0, none⟩)) #[true, true, true, true, true, true, false, false, false] rfl rfl rfl (by kernel_rfl) (fun _ _ _ h => h) hS0 (by rfl) (fun W ⟨s0, s1, s2⟩ => by go_simp) ?_
  simp only [Act.put, List.setIfInBounds_toArray, List.set_cons_zero, List.set_cons_succ]
  refine wpAnyT_only 6 #[true, true, true, true, true, true, true, false, false] (by kernel_rfl) rfl rfl (by rfl) (fun K hK => ?_)
  go_simp
  refine (takerRow_any g t _).mono ?_
  rintro e w2 ⟨Bt, Bc, rfl, _, hBc1, hBt, hBc, hE2'⟩
  have hE2 : Ext w w2 := (Ext.refl w).drew.trans hE2'
  have k0 := (hE2.cell (i := 0) hBlt).trans hB0
  have kn := (hE2.cell (i := 0) hBlt1).trans hB1
  have k1 := (hE2.cell (i := 0) hglt).trans c0
  change w.heap.size ≤ Bc at hBc1
  refine hK _ _ (fun _ => ⟨k0, kn, k1⟩) ?_
  clear hK K
  refine wpAnyT_only 7 #[true, true, true, true, true, true, true, true, false] (by kernel_rfl) rfl rfl (by rfl) (fun K hK => ?_)
  go_simp
  refine (takeGoes (HP.out.ext hE2) k1 hBt hBc (HT.out.ext hE2) htg htr (by omega) (by omega)).mono ?_
  rintro e w3 ⟨rfl, hT3⟩
  refine hK _ _ (fun h => absurd h (by decide)) ?_
  clear hK K
  refine wpAnyT_only 8 #[true, true, true, true, true, true, true, true, true] (by kernel_rfl) rfl rfl (by rfl) (fun K hK => ?_)
  go_simp
  refine hK _ _ (fun h => absurd h (by decide)) ?_
  refine wpAnyT_done (by kernel_rfl) ?_ _
  go_wp2
  go_ret
  exact ⟨rfl, ToldRow.from hE2 hT3⟩

theorem entered_ctext1 : Entered 51 := entered_of Try.func51 (by kernel_rfl) rfl
set_option maxHeartbeats 2000000 in
set_option maxRecDepth 100000 in
theorem ctext1_any {w : World} {g r t B0 B1 q : Nat} {b : List UInt8} {most : Int} (hm : most ≤ 9223372036854775807) (h : PC w g r b q 0) (hB0 : w.cell? ⟨B0, 0, none⟩ = some (.pointer (some ⟨g, 0, none⟩))) (hB1 : w.cell? ⟨B1, 0, none⟩ = some (.int .i64 most)) (ht : Whole w t 58 #[.slice none 0 0]) (htg : t ≠ g) (htr : t ≠ r) :
    Calls Try.prog 51 #[.pointer (some ⟨B0, 0, none⟩), .pointer (some ⟨B1, 0, none⟩), .pointer (some ⟨t, 0, none⟩)] w
      fun e w' => e = .returned (.int .i64 (Num.textR b q 0 most).2.2) ∧ ToldRow w g r t b (Num.textR b q 0 most).1 (Num.textR b q 0 most).2.1 w' := by
  obtain ⟨A, c, c0, x1, x2, x3, x4, x5, hc, hR⟩ := h.cells
  clear x1 x2 x3 x4 x5
  have hglt := h.lt
  have htlt := ht.lt
  have hBlt := World.block_lt_of_cell? w ⟨B0, 0, none⟩ hB0
  have hBlt1 := World.block_lt_of_cell? w ⟨B1, 0, none⟩ hB1
  have HP := hide h
  have HT := hide ht
  clear h ht hR hc
  go_enter Try.func51, Try.ntmps51
  go_wp2
  refine wp_region_T (fun W => W.cell? ⟨B0, 0, none⟩ = some (.pointer (some ⟨g, 0, none⟩)) ∧ W.cell? ⟨B1, 0, none⟩ = some (.int .i64 most) ∧ W.cell? ⟨g, 0, none⟩ = some (.slice A (b.length - q) c)) 7 9 #[false, false, false, false, false, false, false, false, false] (by kernel_rfl) rfl rfl ⟨hB0, hB1, c0⟩ ?_
  intro hS0
  refine wpAnyT_take 0 (some 4) (.pointer (some ⟨g, 0, none⟩)) #[true, false, false, false, false, false, false, false, false] rfl rfl rfl (by kernel_rfl) (fun _ _ _ h => h) hS0 (by rfl) (fun W ⟨s0, s1, s2⟩ => by go_simp) ?_
  simp only [Act.put, List.setIfInBounds_toArray, List.set_cons_zero, List.set_cons_succ]
  refine wpAnyT_take 1 (some 5) (.pointer (some ⟨g, 0, none⟩)) #[true, true, false, false, false, false, false, false, false] rfl rfl rfl (by kernel_rfl) (fun _ _ _ h => h) hS0 (by rfl) (fun W ⟨s0, s1, s2⟩ => by go_simp) ?_
  simp only [Act.put, List.setIfInBounds_toArray, List.set_cons_zero, List.set_cons_succ]
  refine wpAnyT_take 2 (some 6) (.pointer (some ⟨g, 0, none⟩)) #[true, true, true, false, false, false, false, false, false] rfl rfl rfl (by kernel_rfl) (fun _ _ _ h => h) hS0 (by rfl) (fun W ⟨s0, s1, s2⟩ => by go_simp) ?_
  simp only [Act.put, List.setIfInBounds_toArray, List.set_cons_zero, List.set_cons_succ]
  refine wpAnyT_take 3 (some 7) (.slice A (b.length - q) c) #[true, true, true, true, false, false, false, false, false] rfl rfl rfl (by kernel_rfl) (fun _ _ _ h => h) hS0 (by rfl) (fun W ⟨s0, s1, s2⟩ => by go_simp) ?_
  simp only [Act.put, List.setIfInBounds_toArray, List.set_cons_zero, List.set_cons_succ]
  refine wpAnyT_take 4 (some 8) (.int .i64 most) #[true, true, true, true, true, false, false, false, false] rfl rfl rfl (by kernel_rfl) (fun _ _ _ h => h) hS0 (by rfl) (fun W ⟨s0, s1, s2⟩ => by go_simp) ?_
  simp only [Act.put, List.setIfInBounds_toArray, List.set_cons_zero, List.set_cons_succ]
  refine wpAnyT_take 5 (some 9) (.pointer (some ⟨g, 0, none⟩)) #[true, true, true, true, true, true, false, false, false] rfl rfl rfl (by kernel_rfl) (fun _ _ _ h => h) hS0 (by rfl) (fun W ⟨s0, s1, s2⟩ => by go_simp) ?_
  simp only [Act.put, List.setIfInBounds_toArray, List.set_cons_zero, List.set_cons_succ]
  refine wpAnyT_only 6 #[true, true, true, true, true, true, true, false, false] (by kernel_rfl) rfl rfl (by rfl) (fun K hK => ?_)
  go_simp
  refine (takerRow_any g t _).mono ?_
  rintro e w2 ⟨Bt, Bc, rfl, _, hBc1, hBt, hBc, hE2'⟩
  have hE2 : Ext w w2 := (Ext.refl w).drew.trans hE2'
  have k0 := (hE2.cell (i := 0) hBlt).trans hB0
  have kn := (hE2.cell (i := 0) hBlt1).trans hB1
  have k1 := (hE2.cell (i := 0) hglt).trans c0
  change w.heap.size ≤ Bc at hBc1
  refine hK _ _ (fun _ => ⟨k0, kn, k1⟩) ?_
  clear hK K
  refine wpAnyT_only 7 #[true, true, true, true, true, true, true, true, false] (by kernel_rfl) rfl rfl (by rfl) (fun K hK => ?_)
  go_simp
  refine (textGoes hm (HP.out.ext hE2) k1 hBt hBc (HT.out.ext hE2) htg htr (by omega) (by omega)).mono ?_
  rintro e w3 ⟨rfl, hT3⟩
  refine hK _ _ (fun h => absurd h (by decide)) ?_
  clear hK K
  refine wpAnyT_only 8 #[true, true, true, true, true, true, true, true, true] (by kernel_rfl) rfl rfl (by rfl) (fun K hK => ?_)
  go_simp
  refine hK _ _ (fun h => absurd h (by decide)) ?_
  refine wpAnyT_done (by kernel_rfl) ?_ _
  go_wp2
  go_ret
  exact ⟨rfl, ToldRow.from hE2 hT3⟩
end Go.Proofs.Ytgnmdpklkmlpfaa
