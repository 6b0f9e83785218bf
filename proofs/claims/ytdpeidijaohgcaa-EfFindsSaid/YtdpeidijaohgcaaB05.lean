/- What goes on in the cursor's reading calls: a number that is at most so much, a fixed number, bytes, a text. Pieces of the program's row: cloned, and told as a text. The program's cursor: Int, Byte, Fixed, Take, Text, whatever its state. The program's Read of chapter 13. New lists of numbers of the call's own: make, a cell, a store. The program's lists of chapter 13: Len, At, All; of a nil list. The program's Next of chapter 13: by the library's sort.Search. EfFinds. The laws of chapter 13 at the landed package: their walks. What slices of numbers that came in read as. -/
import Derived.Test.YtdpeidijaohgcaaB01
import Derived.Test.YtdpeidijaohgcaaB02
import Derived.Test.YtdpeidijaohgcaaB03
import Derived.Test.YtdpeidijaohgcaaB04
import Derived.OpenShut
import Derived.Deep.Slices
namespace Go.Proofs.Ytdpeidijaohgcaa
open Go.RowKit

theorem Told.ext0 {w w' : World} {g r t q : Nat} {T : TypeId} {b : List UInt8} {v : Value} (h : PC w g r b q 0) (ht : Whole w t T #[v]) (hE : Ext w w') : Told w g r t T b v q w' := ⟨h.ext hE, ht.ext hE, Mod.ofExt hE⟩
/-- Behind a closure that tells bytes of the row. -/
def ToldRow (w : World) (g r t : Nat) (b l : List UInt8) (q : Nat) (w' : World) : Prop := ∃ A n c, PC w' g r b q 0 ∧ Whole w' t 78 #[.slice A n c] ∧ n ≤ c ∧ RowIn w' g r A n l ∧ Mod w w' g (some t)
theorem ToldRow.from {w w' w'' : World} {g r t q : Nat} {b l : List UInt8} (hE : Ext w w') (h : ToldRow w' g r t b l q w'') : ToldRow w g r t b l q w'' := by
  obtain ⟨A, n, c, h1, h2, h3, h4, h5⟩ := h
  exact ⟨A, n, c, h1, h2, h3, h4, (Mod.ofExt hE).trans h5 (.inl rfl)⟩
theorem ToldRow.ext0 {w w' : World} {g r t q : Nat} {b : List UInt8} (h : PC w g r b q 0) (ht : Whole w t 78 #[.slice none 0 0]) (hE : Ext w w') : ToldRow w g r t b [] q w' := ⟨none, 0, 0, h.ext hE, ht.ext hE, Nat.le_refl _, ⟨rfl, .inl rfl⟩, Mod.ofExt hE⟩
theorem ToldRow.of {w w' : World} {g r t q q0 nx cx : Nat} {e : Int} {b l : List UInt8} {Ax : Option Addr} (h : PC w g r b q0 e) (htr : t ≠ r) (hx : RowIn w g r Ax nx l) (hn : nx ≤ cx) (hT : Told w g r t 78 b (.slice Ax nx cx) q w') : ToldRow w g r t b l q w' :=
  ⟨Ax, nx, cx, hT.1, hT.2.1, hn, hx.mod hT.2.2 h.rlt (by simpa using htr), hT.2.2⟩

theorem entered_tellInt : Entered 58 := entered_of Try.func58 (by kernel_rfl) rfl
theorem intGoes {w : World} {g r t Bt Bc q m c : Nat} {b : List UInt8} {A : Option Addr} {most : Int} (hm : most ≤ 9223372036854775807) (h : PC w g r b q 0) (hrow : w.cell? ⟨g, 0, none⟩ = some (.slice A m c)) (hBt : w.cell? ⟨Bt, 0, none⟩ = some (.pointer (some ⟨t, 0, none⟩))) (hBc : w.cell? ⟨Bc, 0, none⟩ = some (.pointer (some ⟨g, 0, none⟩)))
    (ht : Whole w t 3 #[.int .i64 0]) (htg : t ≠ g) (htr : t ≠ r) (hct : Bc ≠ t) (hcg : Bc ≠ g) :
    Calls Try.prog 49 #[.slice A m c, .int .i64 most, .func (.func 58) #[] #[.pointer (some ⟨Bt, 0, none⟩), .pointer (some ⟨Bc, 0, none⟩)]] w
      fun e w' => e = .returned (.int .i64 (Num.intR b q 0 most).2.2) ∧ Told w g r t 3 b (.int .i64 (((Num.intR b q 0 most).1 : Nat) : Int)) (Num.intR b q 0 most).2.1 w' := by
  obtain ⟨A0, c0, d0, _, _, _, _, _, hc0, hR0⟩ := h.cells
  rw [hrow] at d0
  simp only [Option.some.injEq, Value.slice.injEq] at d0
  obtain ⟨rfl, rfl, rfl⟩ := d0
  have hl := h.bounds
  have hI : Num.intR b q 0 most = (if (Num.numR b q 0).2.2 = 0 then (if most < ((Num.numR b q 0).1 : Int) then (0, q, 6) else Num.numR b q 0) else (0, (Num.numR b q 0).2.1, (Num.numR b q 0).2.2)) := rfl
  rw [show Num.numR b q 0 = Num.scan b q from rfl, Num.scan_drop b q] at hI
  have hf := Num.scan_facts (b.drop q) 0
  have hlen : (b.drop q).length = b.length - q := List.length_drop
  have := count_any (w := w) (A := A) (c := c) (l := b.drop q) (most := most) (K := 58) (cap := #[.pointer (some ⟨Bt, 0, none⟩), .pointer (some ⟨Bc, 0, none⟩)])
    (R := fun e w' => e = .returned (.int .i64 (Num.intR b q 0 most).2.2) ∧ Told w g r t 3 b (.int .i64 (((Num.intR b q 0 most).1 : Nat) : Int)) (Num.intR b q 0 most).2.1 w')
    entered_tellInt hm (by rw [hlen]; exact hR0.bytes) (by omega) (by omega) (fun e w' he => ⟨_, he.1⟩)
    (fun er w' hE hcase => by
      rcases hcase with ⟨rfl, h0⟩ | ⟨h0, h6, rfl⟩
      · obtain ⟨h1, h2⟩ := hf.2.2.1 h0
        rw [if_neg h0, h1] at hI
        rw [hI]
        exact ⟨rfl, Told.ext0 h ht hE⟩
      · rw [if_pos h0, if_pos h6] at hI
        rw [hI]
        exact ⟨rfl, Told.ext0 h ht hE⟩)
    (fun h0 hle w' hE => by
      obtain ⟨h1, h2⟩ := hf.2.1 h0
      rw [if_pos h0, if_neg (by omega)] at hI
      rw [hI, h0]
      have hRd := (hR0.drop (k := (Num.scan (b.drop q) 0).2.1) (by omega) hc0)
      rw [List.drop_drop, Nat.sub_sub] at hRd
      rw [hlen, Nat.sub_sub]
      have hBlt := World.block_lt_of_cell? w ⟨Bt, 0, none⟩ hBt
      have hClt := World.block_lt_of_cell? w ⟨Bc, 0, none⟩ hBc
      refine (tellInt_any (h.ext hE) (by omega) (by omega) ((hE.cell hBlt).trans hBt) ((hE.cell hClt).trans hBc) (ht.ext hE) htg htr hct hcg (hRd.at (hE.block r h.rlt)) (by omega)).mono ?_
      rintro e w2 ⟨rfl, hT⟩
      exact ⟨rfl, Told.from hE hT⟩)
  rwa [hlen] at this

theorem entered_int1 : Entered 48 := entered_of Try.func48 (by kernel_rfl) rfl
set_option maxHeartbeats 2000000 in
set_option maxRecDepth 100000 in
theorem int1_any {w : World} {g r t B0 B1 q : Nat} {b : List UInt8} {most : Int} (hm : most ≤ 9223372036854775807) (h : PC w g r b q 0) (hB0 : w.cell? ⟨B0, 0, none⟩ = some (.pointer (some ⟨g, 0, none⟩))) (hB1 : w.cell? ⟨B1, 0, none⟩ = some (.int .i64 most)) (ht : Whole w t 3 #[.int .i64 0]) (htg : t ≠ g) (htr : t ≠ r) :
    Calls Try.prog 48 #[.pointer (some ⟨B0, 0, none⟩), .pointer (some ⟨B1, 0, none⟩), .pointer (some ⟨t, 0, none⟩)] w
      fun e w' => e = .returned (.int .i64 (Num.intR b q 0 most).2.2) ∧ Told w g r t 3 b (.int .i64 (((Num.intR b q 0 most).1 : Nat) : Int)) (Num.intR b q 0 most).2.1 w' := by
  obtain ⟨A, c, c0, x1, x2, x3, x4, x5, hc, hR⟩ := h.cells
  clear x1 x2 x3 x4 x5
  have hglt := h.lt
  have htlt := ht.lt
  have hBlt := World.block_lt_of_cell? w ⟨B0, 0, none⟩ hB0
  have hBlt1 := World.block_lt_of_cell? w ⟨B1, 0, none⟩ hB1
  have HP := hide h
  have HT := hide ht
  clear h ht hR hc
  go_enter Try.func48, Try.ntmps48
  go_wp2
  refine wp_region_T (fun W => W.cell? ⟨B0, 0, none⟩ = some (.pointer (some ⟨g, 0, none⟩)) ∧ W.cell? ⟨B1, 0, none⟩ = some (.int .i64 most) ∧ W.cell? ⟨g, 0, none⟩ = some (.slice A (b.length - q) c)) 7 9 #[false, false, false, false, false, false, false, false, false] (by kernel_rfl) rfl rfl ⟨hB0, hB1, c0⟩ ?_
  intro hS0
  refine wpAnyT_take 0 (some 4) (.pointer (some ⟨g, 0, none⟩)) #[true, false, false, false, false, false, false, false, false] rfl rfl rfl (by kernel_rfl) (fun _ _ _ h => h) hS0 (by rfl) (fun W ⟨s0, s1, s2⟩ => by go_simp) ?_
  simp only [Act.put, List.setIfInBounds_toArray, List.set_cons_zero, List.set_cons_succ]
  refine wpAnyT_take 1 (some 5) (.pointer (some ⟨g, 0, none⟩)) #[true, true, false, false, false, false, false, false, false] rfl rfl rfl (by kernel_rfl) (fun _ _ _ h => h) hS0 (by rfl) (fun W ⟨s0, s1, s2⟩ => by go_simp) ?_
  simp only [Act.put, List.setIfInBounds_toArray, List.set_cons_zero, List.set_cons_succ]
  refine wpAnyT_take 2 (some 6) (.pointer (some ⟨g, 0, none⟩)) #[true, true, true, false, false, false, false, false, false] rfl rfl rfl (by kernel_rfl) (fun _ _ _ h => h) hS0 (by rfl) (fun W ⟨s0, s1, s2⟩ => by go_simp) ?_
  simp only [Act.put, List.setIfInBounds_toArray, List.set_cons_zero, List.set_cons_succ]
  refine wpAnyT_take 3 (some 7) (.slice A (b.length - q) c) #[true, true, true, true, false, false, false, false, false] rfl rfl rfl (by kernel_rfl) (fun _ _ _ h => h) hS0 (by rfl) (fun W ⟨s0, s1, s2⟩ => by go_simp) ?_
  simp only [Act.put, List.setIfInBounds_toArray, List.set_cons_zero, List.set_cons_succ]
  refine wpAnyT_take 4 (some 8) (.int .i64 most) #[true, true, true, true, true, false, false, false, false] rfl rfl rfl (by kernel_rfl) (fun _ _ _ h => h) hS0 (by rfl) (fun W ⟨s0, s1, s2⟩ => by go_simp) ?_
  simp only [Act.put, List.setIfInBounds_toArray, List.set_cons_zero, List.set_cons_succ]
  refine wpAnyT_take 5 (some 9) (.pointer (some ⟨g, 0, none⟩)) #[true, true, true, true, true, true, false, false, false] rfl rfl rfl (by kernel_rfl) (fun _ _ _ h => h) hS0 (by rfl) (fun W ⟨s0, s1, s2⟩ => by go_simp) ?_
  simp only [Act.put, List.setIfInBounds_toArray, List.set_cons_zero, List.set_cons_succ]
  refine wpAnyT_only 6 #[true, true, true, true, true, true, true, false, false] (by kernel_rfl) rfl rfl (by rfl) (fun K hK => ?_)
  go_simp
  refine (takerInt_any g t _).mono ?_
  rintro e w2 ⟨Bt, Bc, rfl, _, hBc1, hBt, hBc, hE2'⟩
  have hE2 : Ext w w2 := (Ext.refl w).drew.trans hE2'
  have k0 := (hE2.cell (i := 0) hBlt).trans hB0
  have kn := (hE2.cell (i := 0) hBlt1).trans hB1
  have k1 := (hE2.cell (i := 0) hglt).trans c0
  change w.heap.size ≤ Bc at hBc1
  refine hK _ _ (fun _ => ⟨k0, kn, k1⟩) ?_
  clear hK K
  refine wpAnyT_only 7 #[true, true, true, true, true, true, true, true, false] (by kernel_rfl) rfl rfl (by rfl) (fun K hK => ?_)
  go_simp
  refine (intGoes hm (HP.out.ext hE2) k1 hBt hBc (HT.out.ext hE2) htg htr (by omega) (by omega)).mono ?_
  rintro e w3 ⟨rfl, hT3⟩
  refine hK _ _ (fun h => absurd h (by decide)) ?_
  clear hK K
  refine wpAnyT_only 8 #[true, true, true, true, true, true, true, true, true] (by kernel_rfl) rfl rfl (by rfl) (fun K hK => ?_)
  go_simp
  refine hK _ _ (fun h => absurd h (by decide)) ?_
  refine wpAnyT_done (by kernel_rfl) ?_ _
  go_wp2
  go_ret
  exact ⟨rfl, Told.from hE2 hT3⟩

end Go.Proofs.Ytdpeidijaohgcaa

namespace Go.Proofs.Ytdpeidijaohgcaa
open Go.RowKit

theorem run_append_zeroR (w : World) (ty : TypeId) (base : Nat) (v : Value) (l : List UInt8) (hown : OwnB w base v l) (A : Option Addr) (c : Nat) :
    (Builtin.append_ #[78, 78] ty #[v, .slice A 0 c]).run Try.prog w = .ok v w := by
  obtain ⟨i, hi, _, _, _⟩ := info_parts byte_info
  rcases hown.2 with ⟨rfl, _⟩ | ⟨g, cap, cur, rfl, _, _, hnc, _⟩
  · cases A <;> simp [Builtin.append_, run_underlying Try.underlying78, sizeOf, typeInfo, hi, Builtin.lenOf, Builtin.firstCells, loadCells, loadCellsFrom]
  · cases A <;> simp [Builtin.append_, run_underlying Try.underlying78, sizeOf, typeInfo, hi, Builtin.lenOf, Builtin.firstCells, loadCells, loadCellsFrom, hnc, storeCells]

/-- append of bytes, wherever they lie. -/
theorem app_runR {w : World} (ty : TypeId) {base : Nat} {v : Value} {l : List UInt8} (hown : OwnB w base v l) {A : Option Addr} {m : Nat} {k : List UInt8} (c : Nat) (hb : Bytes w w.heap.size A m k)
    (hlen : l.length + m ≤ 140737488355328) (hbase : base ≤ w.heap.size) :
    ∃ v' w', (Builtin.append_ #[78, 78] ty #[v, .slice A m c]).run Try.prog w = .ok v' w' ∧ OwnB w' base v' (l ++ k) ∧ w.grownBy w' v.ownBlock := by
  obtain ⟨hk, hb⟩ := hb
  rcases hb with rfl | ⟨b, off, rfl, hB, hc⟩
  · obtain rfl := List.eq_nil_of_length_eq_zero hk
    exact ⟨v, w, run_append_zeroR w ty base v l hown A c, by simpa using hown, World.grownBy.refl w _⟩
  · obtain ⟨i, hi, hz, hs, hby⟩ := info_parts byte_info
    obtain ⟨v', w', hr, h2, h3, _⟩ := run_append_own (P := Try.prog) w base 78 ty 5 i _ 1 1 Try.underlying78 hi hz hs hby rfl (by omega) v l.length (l.map byteV) hown
      ⟨b, off, none⟩ m c (k.map byteV) (by simpa using hk) (by
        intro j u hu
        have hj : j < m := by
          rcases Nat.lt_or_ge j m with h | h
          · exact h
          · rw [List.getElem?_eq_none (by simp; omega)] at hu; cases hu
        have hadd : (⟨b, off, none⟩ : Addr).add j = ⟨b, off + j, none⟩ := by unfold Addr.add; split <;> simp_all
        rw [hadd, hc j hj]
        rw [List.getElem?_map, List.getElem?_eq_getElem (by omega)] at hu
        rw [List.getD_eq_getElem?_getD, List.getElem?_eq_getElem (by omega)]
        simpa [byteV] using hu) (by
        intro u hu
        obtain ⟨x, _, rfl⟩ := List.mem_map.1 hu
        rfl) (by unfold maxLen; omega) (by omega) hbase
    refine ⟨v', w', hr, ?_, h3⟩
    unfold OwnB
    rw [List.length_append, hk, List.map_append]
    exact h2
theorem wp_appR {o : Oper} {a : Act} {K : Act → World → Prop} {Q : Exit → Act → World → Prop} {w : World} (s x : Operand)
    (ho : o.op = .call { callee := .builtin .append, args := #[s, x], argTypes := #[78, 78] }) {base : Nat} {v : Value} {l : List UInt8} (hs : a.eval s = v) (hown : OwnB w base v l)
    {A : Option Addr} {m c : Nat} {k : List UInt8} (hx : a.eval x = .slice A m c) (hb : Bytes w w.heap.size A m k) (hlen : l.length + m ≤ 140737488355328) (hbase : base ≤ w.heap.size)
    (h : ∀ v' w', OwnB w' base v' (l ++ k) → w.grownBy w' v.ownBlock → K (a.put o.dst v') w') : o.wp Try.prog a w K Q := by
  obtain ⟨v', w', hr, h2, h3⟩ := app_runR o.type hown c hb hlen hbase
  unfold Oper.wp execOp
  simp only [ho, resolve, invoke, builtin, Sem.run_bind, Sem.run_pure, Result.andThen_ok, List.map_toArray, List.map_cons, List.map_nil, hs, hx, hr]
  exact h v' w' h2 h3
/-- The same for a walk of a plain region. -/
theorem wpList_appR {ops : Array Oper} {rest : List Oper} {o : Oper} {a : Act} {Q : Exit → Act → World → Prop} {w : World} (hgd : o.guard = none) (s x : Operand)
    (ho : o.op = .call { callee := .builtin .append, args := #[s, x], argTypes := #[78, 78] }) {base : Nat} {v : Value} {l : List UInt8} (hs : a.eval s = v) (hown : OwnB w base v l)
    {A : Option Addr} {m c : Nat} {k : List UInt8} (hx : a.eval x = .slice A m c) (hb : Bytes w w.heap.size A m k) (hlen : l.length + m ≤ 140737488355328) (hbase : base ≤ w.heap.size)
    (h : ∀ v' w', OwnB w' base v' (l ++ k) → w.grownBy w' v.ownBlock → wpList Try.prog ops Q rest (a.put o.dst v') w') : wpList Try.prog ops Q (o :: rest) a w :=
  wpList_plain hgd fun _ hK => wp_appR s x ho hs hown hx hb hlen hbase fun v' w' h2 h3 => hK _ _ (h v' w' h2 h3)

theorem conv_row {w : World} {B : Nat} {A : Option Addr} {n : Nat} {l : List UInt8} (c : Nat) (h : Bytes w B A n l) (hA : A = none → n = 0) :
    (convert 78 9 (.slice A n c)).run Try.prog w = .ok (.string ⟨l.toArray⟩) w := by
  obtain ⟨hl, hb⟩ := h
  rcases A with _ | ad
  · obtain rfl := hA rfl
    obtain rfl := List.eq_nil_of_length_eq_zero hl
    exact run_convert_bytes_nil w 78 5 Try.underlying78 Try.underlying5 0 c 9 Try.underlying9
  · subst hl
    refine run_convert_bytes_back w 78 9 5 ad c l Try.underlying78 Try.underlying5 Try.underlying9 fun j hj => ?_
    rcases hb with h0 | ⟨b, off, hA, _, hc⟩
    · omega
    · obtain rfl : ad = ⟨b, off, none⟩ := by injection hA
      have hadd : (⟨b, off, none⟩ : Addr).add j = ⟨b, off + j, none⟩ := by unfold Addr.add; split <;> simp_all
      rw [hadd, hc j hj, List.getD_eq_getElem?_getD, List.getElem?_eq_getElem hj]
      rfl
end Go.Proofs.Ytdpeidijaohgcaa

namespace Go.Proofs.Ytdpeidijaohgcaa
open Go.RowKit

theorem Num.intR_stuck {b : List UInt8} {q : Nat} {e : Int} (he : e ≠ 0) (most : Int) : Num.intR b q e most = (0, q, e) := by
  have hN : Num.numR b q e = (0, q, e) := by unfold Num.numR; rw [if_neg he]
  unfold Num.intR
  rw [hN, if_neg he]
theorem Num.fixedR_stuck {b : List UInt8} {q : Nat} {e : Int} (he : e ≠ 0) (n : Int) : Num.fixedR b q e n = (0, q, e) := by unfold Num.fixedR; rw [if_neg he]
theorem Num.takeR_stuck {b : List UInt8} {q : Nat} {e : Int} (he : e ≠ 0) (n : Int) : Num.takeR b q e n = ([], q, e) := by unfold Num.takeR; rw [if_neg he]
theorem Num.textR_stuck {b : List UInt8} {q : Nat} {e : Int} (he : e ≠ 0) (most : Int) : Num.textR b q e most = ([], q, e) := by
  unfold Num.textR
  rw [Num.intR_stuck he, if_neg he]
theorem Num.takeR_len (b : List UInt8) (q : Nat) (e n : Int) : (Num.takeR b q e n).1.length ≤ b.length := by
  unfold Num.takeR
  split
  · split
    · simp
    · split
      · simp
      · simp; omega
  · simp
theorem Num.textR_len (b : List UInt8) (q : Nat) (e most : Int) : (Num.textR b q e most).1.length ≤ b.length := by
  unfold Num.textR
  split
  · split
    · simp
    · exact Num.takeR_len _ _ _ _
  · simp

theorem read_toldRow {w : World} {g r t q q' K : Nat} {b l : List UInt8} {er : Int} {cap : Array Value} (hK : Entered K) (h : PC w g r b q 0) (htg : t ≠ g)
    (hC : Calls Try.prog K cap w fun e' w' => e' = .returned (.int .i64 er) ∧ ToldRow w g r t b l q' w') :
    Calls Try.prog 47 #[.pointer (some ⟨g, 0, none⟩), .func (.func K) #[] cap] w fun e' w' => e' = .returned (.tuple #[]) ∧ ∃ A n c, PC w' g r b q' er ∧ Whole w' t 78 #[.slice A n c] ∧ n ≤ c ∧ RowIn w' g r A n l ∧ Mod w w' g (some t) := by
  refine (read_any (R := fun er' w' => er' = er ∧ ToldRow w g r t b l q' w') hK h (hC.mono ?_)).mono ?_
  · rintro e' w' ⟨rfl, hT⟩
    obtain ⟨A, n, c, hP, hr⟩ := id hT
    exact ⟨er, q', rfl, hP, rfl, hT⟩
  · rintro e' w' ⟨rfl, er', _, w2, _, ⟨rfl, A, n, c, hP, hW, hc, hR, hM⟩, rfl⟩
    have hG := Mod.ofRow (ob := none) (grown_setCell w2 g 2 (.int .i64 er'))
    exact ⟨rfl, A, n, c, hP.setErr, hW.far htg 2 _, hc, hR.mod hG hP.rlt (by simp), hM.trans (Mod.ofRow (grown_setCell w2 g 2 _)) (.inl rfl)⟩

set_option maxHeartbeats 2000000 in
set_option maxRecDepth 100000 in
theorem pcInt_any {w : World} {g r q : Nat} {b : List UInt8} {e : Int} (h : PC w g r b q e) (most : Int) (hm : most ≤ 9223372036854775807) :
    Calls Try.prog 33 #[.pointer (some ⟨g, 0, none⟩), .int .i64 most] w fun e' w' => e' = .returned (.int .i64 (((Num.intR b q e most).1 : Nat) : Int)) ∧ PcTo w g r b (Num.intR b q e most).2.1 (Num.intR b q e most).2.2 w' := by
  have hglt := h.lt
  have hrlt := h.rlt
  have hbl := h.bounds.2
  have hE1 := extNew w (.cells #[.pointer (some ⟨g, 0, none⟩)] 60)
  have hE2 := extNew (w.alloc (.cells #[.pointer (some ⟨g, 0, none⟩)] 60)) (.cells #[.int .i64 most] 3)
  have hE3 := extNew ((w.alloc (.cells #[.pointer (some ⟨g, 0, none⟩)] 60)).alloc (.cells #[.int .i64 most] 3)) (.cells #[.int .i64 0] 3)
  have hE := (hE1.trans hE2).trans hE3
  have hP := h.ext hE
  have hB0 : (((w.alloc (.cells #[.pointer (some ⟨g, 0, none⟩)] 60)).alloc (.cells #[.int .i64 most] 3)).alloc (.cells #[.int .i64 0] 3)).cell? ⟨w.heap.size, 0, none⟩ = some (.pointer (some ⟨g, 0, none⟩)) := ((hE2.trans hE3).cell (by simp)).trans (cellNew w _ _ _ 0)
  have hB1 : (((w.alloc (.cells #[.pointer (some ⟨g, 0, none⟩)] 60)).alloc (.cells #[.int .i64 most] 3)).alloc (.cells #[.int .i64 0] 3)).cell? ⟨w.heap.size + 1, 0, none⟩ = some (.int .i64 most) := by
    have h1 := cellNew (w.alloc (.cells #[.pointer (some ⟨g, 0, none⟩)] 60)) #[.int .i64 most] 3 (0, 0) 0
    rw [World.size_alloc] at h1
    exact (hE3.cell (by simp)).trans h1
  have ht := Whole.new ((w.alloc (.cells #[.pointer (some ⟨g, 0, none⟩)] 60)).alloc (.cells #[.int .i64 most] 3)) 3 #[.int .i64 0]
  rw [World.size_alloc, World.size_alloc] at ht
  by_cases he : e = 0
  · subst he
    have C := read_told (q' := (Num.intR b q 0 most).2.1) (er := (Num.intR b q 0 most).2.2) (v := .int .i64 (((Num.intR b q 0 most).1 : Nat) : Int)) entered_int1 hP (t := w.heap.size + 1 + 1) (by omega) (int1_any hm hP hB0 hB1 ht (by omega) (by omega))
    generalize Num.intR b q 0 most = res at *
    obtain ⟨x, q', er⟩ := res
    dsimp only at *
    have HE := hide hE
    clear hP hB0 hB1 ht hE1 hE2 hE3 hE h
    go_enter Try.func33, Try.ntmps33
    go_wp2_with fail
    refine C.mono ?_
    rintro e' w2 ⟨rfl, hP2, hW2, hM2⟩
    have t0 : w2.cell? ⟨w.heap.size + 1 + 1, 0, none⟩ = some (.int .i64 (x : Int)) := hW2.cell 0
    have t1 := hW2.frozen 0
    go_wp2
    refine bodyPost_ret (results_cell_one rfl _ rfl (load_int _ _) ((hW2.set 0 _).cell 0)) rfl ⟨rfl, hP2.atEnd (by omega) (by omega) _, ?_⟩
    exact Mod.atEnd HE.out hM2 (by omega) _
  · have HN := hide (Num.intR_stuck (b := b) (q := q) he most)
    have C := read_stuck (K := 48) (cap := #[.pointer (some ⟨w.heap.size, 0, none⟩), .pointer (some ⟨w.heap.size + 1, 0, none⟩), .pointer (some ⟨w.heap.size + 1 + 1, 0, none⟩)]) hP he
    have t0 := ht.cell 0
    have t1 := ht.frozen 0
    have HP := hide hP
    have HE := hide hE
    have HT := hide ht
    clear hP hB0 hB1 ht hE1 hE2 hE3 hE h he
    go_enter Try.func33, Try.ntmps33
    go_wp2_with fail
    refine C.mono ?_
    rintro e' w2 ⟨rfl, rfl⟩
    go_wp2
    rw [HN.out]
    refine bodyPost_ret (results_cell_one rfl _ rfl (load_int _ _) (HT.out.cell 0)) rfl ⟨rfl, HP.out, Mod.ofExt HE.out⟩

/-- Of no cursor: nothing. -/
theorem pcInt_nil (w : World) (most : Int) : Calls Try.prog 33 #[.pointer none, .int .i64 most] w fun e' w' => e' = .returned (.int .i64 0) ∧ Ext w w' := by
  have hE1 := extNew w (.cells #[.pointer none] 60)
  have hE2 := extNew (w.alloc (.cells #[.pointer none] 60)) (.cells #[.int .i64 most] 3)
  have HE := hide ((hE1.trans hE2).trans (extNew ((w.alloc (.cells #[.pointer none] 60)).alloc (.cells #[.int .i64 most] 3)) (.cells #[.int .i64 0] 3)))
  have ht := Whole.new ((w.alloc (.cells #[.pointer none] 60)).alloc (.cells #[.int .i64 most] 3)) 3 #[.int .i64 0]
  rw [World.size_alloc, World.size_alloc] at ht
  have t0 := ht.cell 0
  have t1 := ht.frozen 0
  have HT := hide ht
  have C := read_nil (w := ((w.alloc (.cells #[.pointer none] 60)).alloc (.cells #[.int .i64 most] 3)).alloc (.cells #[.int .i64 0] 3)) (K := 48) (cap := #[.pointer (some ⟨w.heap.size, 0, none⟩), .pointer (some ⟨w.heap.size + 1, 0, none⟩), .pointer (some ⟨w.heap.size + 1 + 1, 0, none⟩)])
  clear hE1 hE2 ht
  go_enter Try.func33, Try.ntmps33
  go_wp2_with fail
  refine C.mono ?_
  rintro e' w2 ⟨rfl, rfl⟩
  go_wp2
  exact bodyPost_ret (results_cell_one rfl _ rfl (load_int _ _) (HT.out.cell 0)) rfl ⟨rfl, HE.out⟩

theorem Num.byte_fixed (b : List UInt8) (q : Nat) (e : Int) : Num.byteR b q e = Num.fixedR b q e 1 := by
  unfold Num.byteR Num.fixedR
  by_cases he : e = 0
  · subst he
    rw [if_pos rfl, if_neg (by omega)]
    have hlen : (Num.takeR b q 0 1).1.length ≤ 1 := by
      unfold Num.takeR
      rw [if_pos rfl, if_neg (by omega)]
      split
      · simp
      · simp; omega
    generalize Num.takeR b q 0 1 = t at *
    obtain ⟨l, r⟩ := t
    rcases l with _ | ⟨c, l⟩
    · rfl
    · obtain rfl : l = [] := List.eq_nil_of_length_eq_zero (by simpa using hlen)
      simp [Num.low]
  · rw [if_neg he, Num.takeR_stuck he]
    rfl
theorem Num.byteR_lt (b : List UInt8) (q : Nat) (e : Int) : (Num.byteR b q e).1 < 256 := UInt8.toNat_lt _
end Go.Proofs.Ytdpeidijaohgcaa

namespace Go.Proofs.Ytdpeidijaohgcaa
open Go.RowKit Num Ef

attribute [local go_sem ↓] run_cut
theorem whole_range0 {w : World} {r : Nat} {t : TypeId} {a b c : Value} (h : Whole w r t #[a, b, c]) : w.rangeAt r 0 [a, b, c] := by
  intro j v hv
  match j, hv with
  | 0, hv => exact h.at 0 hv
  | 1, hv => exact h.at 1 hv
  | 2, hv => exact h.at 2 hv
  | j + 3, hv => simp at hv
/-- Block g is the program's list of these numbers. -/
def EfLst (W : World) (g : Nat) (ids : List Int) : Prop :=
  ∃ k A1 c1 A2 c2, Whole W g 67 #[.int .i64 ((k : Nat) : Int), .slice A1 ids.length c1, .slice A2 ids.length c2] ∧ PartsV W W.heap.size k A1 ids.length A2 ids.length ids ∧ ids.length ≤ 20000 ∧ ∀ i j, i ≤ j → j < ids.length → ids.getD i 0 ≤ ids.getD j 0
theorem efLst_keep : LstKeep EfLst := fun ⟨k, A1, c1, A2, c2, hW, hP, hl, hr⟩ hE => ⟨k, A1, c1, A2, c2, hW.ext hE, hP.ext hE, hl, hr⟩
theorem Ef.row_rises {bound : Int} {ids : List Int} (h : row bound ids = true) (i : Nat) : ∀ j, i ≤ j → j < ids.length → ids.getD i 0 ≤ ids.getD j 0
  | 0, h1, h2 => by obtain rfl : i = 0 := by omega
                    exact Int.le_refl _
  | j + 1, h1, h2 => by
    by_cases e : i = j + 1
    · rw [e]; exact Int.le_refl _
    · have := row_rises h i j (by omega) (by omega)
      have h3 := (row_at h h2).2.2 (by omega)
      rw [Nat.add_sub_cancel] at h3
      omega

set_option maxHeartbeats 4000000 in
set_option maxRecDepth 10000 in
theorem efReadC_any (w : World) : EfReadC EfLst w := by
  intro bound b A c W _ h64 hc hcm hb hB
  have CM := fun W => efMay_any bound W
  by_cases hbd : 0 ≤ bound ∧ bound ≤ 20000
  case neg =>
    have HN := hide (show readE bound b = ([], 0, 13) by unfold readE; rw [if_neg hbd])
    rw [decide_eq_false hbd] at CM
    rw [HN.out]
    clear hbd h64 HN hB
    go_enter Try.func13, Try.ntmps13
    go_wp2_with fail
    refine (CM _).mono ?_
    rintro e w2 ⟨rfl, rfl⟩
    clear CM
    go_wp2
    go_ret3
    exact ⟨Ext.refl _, fun h => absurd h (by simp), fun _ => rfl⟩
  rw [decide_eq_true hbd] at CM
  obtain ⟨bd, rfl⟩ := Int.eq_ofNat_of_zero_le hbd.1
  have hbd2 : bd ≤ 20000 := by have := hbd.2; omega
  obtain ⟨R1, R2, R3⟩ := readE_prog (b := b) hbd.1 hbd.2
  have HIs := hide (fun h => int_is (b := b) (most := (bd : Int)) h)
  have HCut := hide (intR_cut b (bd : Int))
  generalize readE (bd : Int) b = res at *
  generalize intR b 0 0 (bd : Int) = rr at *
  obtain ⟨x, q, E⟩ := rr
  dsimp only at R1 R2 R3 HIs
  obtain ⟨mn, hmn⟩ : ∃ mn, mn = min b.length 10 := ⟨_, rfl⟩
  rw [← hmn] at HCut
  have hmin : (if (10 : Int) < (b.length : Int) then (10 : Int) else (b.length : Int)) = (mn : Int) := by rw [hmn]; split <;> omega
  have hmnb : mn ≤ b.length := by omega
  have kc := fun W => run_headB W A b.length c .i64 (mn : Int) (by omega) (by omega)
  simp only [Int.toNat_natCast] at kc
  have C1 := pcNew_any (cutAt A c 0) mn c (b.take mn) W (by omega) (by omega) (bytes_head hB hmnb hc)
  have HB := hide hB
  have H1 := hide R1
  have H2 := hide R2
  have H3 := hide R3
  clear R1 R2 R3 hB hmn h64 hbd
  generalize hNl : b.length = N at *
  have HNl := hide hNl
  clear hNl
  go_enter Try.func13, Try.ntmps13
  go_wp2_with fail
  refine (CM _).mono ?_
  rintro e w2 ⟨rfl, rfl⟩
  clear CM
  go_wp2_with (refine wpList_min rfl (.tmp 18) (.const (.int .i64 10)) rfl rfl rfl hmin ?_)
  refine C1.mono ?_
  rintro e w3 ⟨g, r, rfl, hg3, hP3, hE3⟩
  have C2 := pcInt_any hP3 (bd : Int) (by omega)
  rw [HCut.out] at C2
  dsimp only at C2
  clear C1 HCut kc hP3
  go_wp2_with fail
  refine C2.mono ?_
  rintro e w4 ⟨rfl, hP4, hM4⟩
  have hE4 := hide (show Ext W w4 from Below.trans hE3 (hM4.below (B := W.heap.size) hE3.le hg3 (fun k hk => by cases hk)))
  have C3 := pcErr_any hP4
  clear C2 hM4 hE3 hg3
  go_wp2_with fail
  refine C3.mono ?_
  rintro e w5 ⟨rfl, rfl⟩
  clear C3
  by_cases h0 : E = 0
  case neg =>
    have hEb : (E != 0) = true := by rw [bne_iff_ne]; exact h0
    have HF := hide (H1.out h0)
    have HH := hide h0
    clear h0 hP4
    go_wp2
    go_ret3
    rw [HF.out]
    exact ⟨hE4.out, fun h => absurd h HH.out, fun _ => rfl⟩
  subst h0
  obtain ⟨i1, i2, -⟩ := HIs.out rfl
  have hx2 : x ≤ 20000 := by omega
  have CAt := pcAt_any hP4
  have HP4 := hide hP4
  clear HIs H1 hP4 i1
  go_wp2_with fail
  refine CAt.mono ?_
  rintro e w5 ⟨rfl, rfl⟩
  clear CAt
  have CR := readParts_any (cutAt A c q) (N - q) (c - q) (b.drop q) bd x w4 (by omega) (by omega) ((HB.out.below (C := W.heap.size) hE4.out (Nat.le_refl _)).mono hE4.out.le |>.drop i2 hc) hbd2 hx2
  obtain ⟨P, hPe⟩ : ∃ P, P = readP (b.drop q) (bd : Int) x := ⟨_, rfl⟩
  rw [← hPe] at CR H2 H3
  have HPe := hide hPe
  clear hPe
  generalize widE (bd : Int) x = k at *
  go_wp2_with fail
  refine CR.mono ?_
  rintro e w6 h6
  clear CR
  have hW6 := Whole.new w6 51 #[.int .i64 0, .slice none 0 0, .slice none 0 0]
  have hX6 := extNew w6 (.cells #[.int .i64 0, .slice none 0 0, .slice none 0 0] 51)
  have HX6 := hide hX6
  obtain ⟨h3, hh3⟩ : ∃ h3, h3 = w6.heap.size := ⟨_, rfl⟩
  rw [← hh3] at hW6
  have HH3 := hide hh3
  clear hX6 hh3
  by_cases hE2 : P.2.2 = 0
  case neg =>
    have HF := hide (H2.out trivial hE2)
    obtain ⟨kk, B1, m1, d1, B2, m2, d2, l, rfl, hE6, -⟩ := h6.form
    obtain ⟨E2, hEE⟩ : ∃ E, E = P.2.2 := ⟨_, rfl⟩
    rw [← hEE] at hE2 HF ⊢
    have hEb : (E2 != 0) = true := by rw [bne_iff_ne]; exact hE2
    have HH := hide hE2
    have HE6 := hide hE6
    clear hE2 hEE h6 hE6 H2 H3
    go_wp2_with (refine wpList_storeW rfl 51 (.tmp 10) (.tmp 38) rfl (by rw [HH3.out]; rfl) rfl hW6 rfl parts_info (parts_one ..) ?_; intro w8 hW8 hG8 hS8; clear hS8; have hX8 := hide (show Ext w6 w8 from Below.grown HX6.out hG8 HX6.out.le (fun k hk => by cases hk; rw [HH3.out]; exact Nat.le_refl _)); clear hW6 hG8 hW8)
    go_ret3
    rw [HF.out]
    exact ⟨(hE4.out.trans HE6.out).trans hX8.out, fun h => absurd h HH.out, fun _ => rfl⟩
  have HF := hide (H3.out trivial hE2)
  obtain ⟨hE6, hyes, -⟩ := h6
  obtain ⟨A1, c1, A2, c2, rfl, hV, hPl, -, -⟩ := hyes hE2
  have HLong2 := hide (show P.2.1 ≤ N - q ∧ row (bd : Int) P.1 = true by
    have h1 := readP_eq (b.drop q) (bd : Int) x
    obtain ⟨r1, m1, e1⟩ := P
    dsimp only at hE2
    subst hE2
    have h2 : (r1, m1, 0) = readN (b.drop q) (bd : Int) x := HPe.out.trans h1
    have h3 := readN_one (by omega) h2.symm
    have := h3.2.2.1
    rw [List.length_drop, HNl.out] at this
    exact ⟨this, h3.1⟩)
  have HLong := hide HLong2.out.1
  obtain ⟨ids, hids⟩ : ∃ ids, ids = P.1 := ⟨_, rfl⟩
  obtain ⟨long, hlong⟩ : ∃ z, z = P.2.1 := ⟨_, rfl⟩
  rw [← hids, ← hlong] at HF
  rw [← hids] at hV hPl
  have HRow := hide HLong2.out.2
  rw [← hids] at HRow
  rw [← hlong] at HLong ⊢
  have HE6 := hide hE6
  have HV := hide hV
  have HPl := hide hPl
  obtain ⟨tot, htot⟩ : ∃ z, z = q + long := ⟨_, rfl⟩
  have hll := HLong.out
  have hwt : IntKind.i64.wrap ((q : Int) + (long : Int)) = (tot : Int) := by rw [IntKind.wrap_i64]; omega
  rw [← htot] at HF
  clear HLong2 hE2 hyes H2 H3 hids hlong hE6 hV hPl htot hll HPe
  go_wp2_with (refine wpList_storeW rfl 51 (.tmp 10) (.tmp 38) rfl (by rw [HH3.out]; rfl) rfl hW6 rfl parts_info (parts_one ..) ?_; intro w8 hW8 hG8 hS8; clear hS8; have hX8 := hide (show Ext w6 w8 from Below.grown HX6.out hG8 HX6.out.le (fun k hk => by cases hk; rw [HH3.out]; exact Nat.le_refl _)); clear hW6 hG8)
  rw [← HH3.out]
  have hE68 := HE6.out.trans hX8.out
  have hW6 := hW8
  clear hW8
  have CA := fun (Wx : World) (hE : Ext w8.drew Wx) => pcAt_any (HP4.out.ext ((hE68.trans (Ext.refl w8).drew).trans hE))
  have HEnd := hide (show RdTo EfLst W res (.returned (.tuple #[.pointer (some ⟨w8.drew.heap.size, 0, none⟩), .int .i64 (tot : Int), .int .i64 0])) (w8.drew.alloc (.cells #[.int .i64 (k : Int), .slice A1 x c1, .slice A2 x c2] 67)) by
    have hEn := extNew w8.drew (.cells #[.int .i64 (k : Int), .slice A1 x c1, .slice A2 x c2] 67)
    have hWn := Whole.new w8.drew 67 #[.int .i64 (k : Int), .slice A1 x c1, .slice A2 x c2]
    rw [HF.out]
    refine ⟨((hE4.out.trans hE68).trans (Ext.refl w8).drew).trans hEn, fun _ => ⟨_, rfl, k, A1, c1, A2, c2, ?_, ?_, ?_, row_rises HRow.out⟩, fun h => absurd rfl h⟩
    · rw [HPl.out]; exact hWn
    · rw [HPl.out]; exact ((HV.out.ext hX8.out).ext (Ext.refl w8).drew).ext hEn
    · rw [HPl.out]; exact hx2)
  clear HE6 HX6 HV HF hX8 hE68 HLong
  refine wp_region_T (fun W => Whole W h3 51 #[.int .i64 (k : Int), .slice A1 x c1, .slice A2 x c2]) 7 10 #[false, false, false, false, false, false, false, false, false, false] (by kernel_rfl) rfl rfl hW6 ?_
  intro hS0
  refine wpAnyT_take 0 (some 44) (.agg #[.int .i64 (k : Int), .slice A1 x c1, .slice A2 x c2]) #[true, false, false, false, false, false, false, false, false, false] rfl rfl rfl (by kernel_rfl) (fun _ _ _ h => h) hS0 (by rfl) (fun W hX => by exact exec_load_mid 51 (.tmp 10) rfl h3 0 rfl [.int .i64 (k : Int), .slice A1 x c1, .slice A2 x c2] (whole_range0 hX) Try.underlying51 rfl (parts_infoL ..)) ?_
  simp only [Act.put, List.setIfInBounds_toArray, List.set_cons_zero, List.set_cons_succ]
  refine wpAnyT_take 1 (some 45) (.agg #[.int .i64 (k : Int), .slice A1 x c1, .slice A2 x c2]) #[true, true, false, false, false, false, false, false, false, false] rfl rfl rfl (by kernel_rfl) (fun _ _ _ h => h) hS0 (by rfl) (fun W hX => by go_simp) ?_
  simp only [Act.put, List.setIfInBounds_toArray, List.set_cons_zero, List.set_cons_succ]
  refine wpAnyT_take 3 (some 47) (.pointer (some ⟨g, 0, none⟩)) #[true, true, false, true, false, false, false, false, false, false] rfl rfl rfl (by kernel_rfl) (fun _ _ _ h => h) hS0 (by rfl) (fun W hX => by go_simp) ?_
  simp only [Act.put, List.setIfInBounds_toArray, List.set_cons_zero, List.set_cons_succ]
  refine wpAnyT_pure 5 (some 49) (.int .i64 (long : Int)) #[true, true, false, true, false, true, false, false, false, false] rfl rfl rfl (by kernel_rfl) (fun _ _ _ h => h) (fun _ => hS0) (by rfl) (fun W => by go_simp) ?_
  simp only [Act.put, List.setIfInBounds_toArray, List.set_cons_zero, List.set_cons_succ]
  refine wpAnyT_two 2 4 #[true, true, true, true, false, true, false, false, false, false] #[true, true, false, true, true, true, false, false, false, false] (by kernel_rfl) rfl rfl rfl rfl (by rfl) (by rfl) (fun K hK => ?_) (fun K hK => ?_)
  · go_simp
    have hSb := hS0.ext (extNew _ (.cells #[.int .i64 (k : Int), .slice A1 x c1, .slice A2 x c2] 67))
    refine hK _ _ (fun _ => hSb) ?_
    clear hK K
    have CAt := CA _ (extNew _ (.cells #[.int .i64 (k : Int), .slice A1 x c1, .slice A2 x c2] 67))
    refine wpAnyT_only 4 #[true, true, true, true, true, true, false, false, false, false] (by kernel_rfl) rfl rfl (by rfl) (fun K0 hK0 => ?_)
    go_simp
    go_at_call 36
    refine CAt.mono ?_
    rintro e wz ⟨rfl, rfl⟩
    refine hK0 _ _ (fun _ => hSb) ?_
    clear hK0 K0
    refine wpAnyT_pure 6 (some 50) (.int .i64 (tot : Int)) #[true, true, true, true, true, true, true, false, false, false] rfl rfl rfl (by kernel_rfl) (fun _ _ _ h => h) (fun _ => hSb) (by rfl) (fun W => by go_simp) ?_
    simp only [Act.put, List.setIfInBounds_toArray, List.set_cons_zero, List.set_cons_succ]
    refine wpAnyT_only 7 #[true, true, true, true, true, true, true, true, false, false] (by kernel_rfl) rfl rfl (by rfl) (fun K1 hK1 => ?_)
    go_simp
    refine hK1 _ _ (fun h => absurd h (by decide)) ?_
    clear hK1 K1
    refine wpAnyT_only 8 #[true, true, true, true, true, true, true, true, true, false] (by kernel_rfl) rfl rfl (by rfl) (fun K2 hK2 => ?_)
    go_simp
    refine hK2 _ _ (fun h => absurd h (by decide)) ?_
    clear hK2 K2
    refine wpAnyT_only 9 #[true, true, true, true, true, true, true, true, true, true] (by kernel_rfl) rfl rfl (by rfl) (fun K3 hK3 => ?_)
    go_simp
    refine hK3 _ _ (fun h => absurd h (by decide)) (wpAnyT_done (by kernel_rfl) ?_ _)
    clear hK3 K3
    clear hS0 hSb
    go_wp2
    go_ret3
    exact HEnd.out
  · go_simp
    have CAt := CA _ (Ext.refl _)
    go_at_call 36
    refine CAt.mono ?_
    rintro e wz ⟨rfl, rfl⟩
    refine hK _ _ (fun _ => hS0) ?_
    clear hK K
    refine wpAnyT_pure 6 (some 50) (.int .i64 (tot : Int)) #[true, true, false, true, true, true, true, false, false, false] rfl rfl rfl (by kernel_rfl) (fun _ _ _ h => h) (fun _ => hS0) (by rfl) (fun W => by go_simp) ?_
    simp only [Act.put, List.setIfInBounds_toArray, List.set_cons_zero, List.set_cons_succ]
    refine wpAnyT_only 2 #[true, true, true, true, true, true, true, false, false, false] (by kernel_rfl) rfl rfl (by rfl) (fun K0 hK0 => ?_)
    go_simp
    have hSb := hS0.ext (extNew _ (.cells #[.int .i64 (k : Int), .slice A1 x c1, .slice A2 x c2] 67))
    refine hK0 _ _ (fun _ => hSb) ?_
    clear hK0 K0
    refine wpAnyT_only 7 #[true, true, true, true, true, true, true, true, false, false] (by kernel_rfl) rfl rfl (by rfl) (fun K1 hK1 => ?_)
    go_simp
    refine hK1 _ _ (fun h => absurd h (by decide)) ?_
    clear hK1 K1
    refine wpAnyT_only 8 #[true, true, true, true, true, true, true, true, true, false] (by kernel_rfl) rfl rfl (by rfl) (fun K2 hK2 => ?_)
    go_simp
    refine hK2 _ _ (fun h => absurd h (by decide)) ?_
    clear hK2 K2
    refine wpAnyT_only 9 #[true, true, true, true, true, true, true, true, true, true] (by kernel_rfl) rfl rfl (by rfl) (fun K3 hK3 => ?_)
    go_simp
    refine hK3 _ _ (fun h => absurd h (by decide)) (wpAnyT_done (by kernel_rfl) ?_ _)
    clear hK3 K3
    clear hS0 hSb
    go_wp2
    go_ret3
    exact HEnd.out
end Go.Proofs.Ytdpeidijaohgcaa

namespace Go.Proofs.Ytdpeidijaohgcaa
open Go.RowKit

theorem wpList_makeN {ops : Array Oper} {rest : List Oper} {o : Oper} {a : Act} {Q : Exit → Act → World → Prop} {w : World} (hgd : o.guard = none) (x y : Operand) (ho : o.op = .makeSlice 22 x y) {n : Nat} (hx : a.eval x = .int .i64 (n : Int)) (hy : a.eval y = .int .i64 (n : Int)) (hn : n ≤ 1000000)
    (h : ∀ w', OwnI w' w.heap.size (.slice (some ⟨w.heap.size, 0, none⟩) n n) (List.replicate n 0) → Ext w w' → wpList Try.prog ops Q rest (a.put o.dst (.slice (some ⟨w.heap.size, 0, none⟩) n n)) w') : wpList Try.prog ops Q (o :: rest) a w := by
  obtain ⟨i, hi, hz, hsz, hby⟩ := info_parts int_info
  refine wpList_make_full w hgd x y 22 ho w.heap.size 3 i _ 1 Try.underlying22 hi hz hsz .i64 .i64 _ _ n hx hy rfl rfl (by rw [hby]; omega) (by unfold maxLen; omega) (Nat.le_refl _) ?_
  intro w' h1 h2
  refine h w' ?_ (Below.grown (Ext.refl w) h2 (Nat.le_refl _) fun k hk => by cases hk)
  unfold OwnI
  have e : (madeCells (Value.int .i64 0).cells (n * 1)).toList = (List.replicate n (0 : Int)).map (Value.int .i64) := by
    have : madeCells (Value.int .i64 0).cells n = ((List.replicate n (0 : Int)).map (Value.int .i64)).toArray := by
      apply Array.ext
      · simp [size_madeCells]
      · intro i h1 h2
        simp [madeCells, Value.cells, Nat.mod_one]
    rw [Nat.mul_one, this]
  rw [e] at h1
  simpa using h1
theorem OwnI.cell {w : World} {base g n c : Nat} {L : List Int} (h : OwnI w base (.slice (some ⟨g, 0, none⟩) n c) L) {i : Nat} (hi : i < L.length) : w.cell? ⟨g, i, none⟩ = some (.int .i64 (L.getD i 0)) ∧ w.frozen? ⟨g, i, none⟩ = false := by
  have hn : n = L.length := by
    rcases h.2 with ⟨h', _⟩ | ⟨_, _, _, h', _⟩
    · simp at h'
    · simp only [Value.slice.injEq] at h'; exact h'.2.1
  subst hn
  refine ⟨?_, World.ownsRow.frozenAt h i⟩
  rw [World.ownsRow.cellAt h i (by omega)]
  simp [hi]
theorem OwnI.put {w : World} {base g n c : Nat} {L : List Int} (h : OwnI w base (.slice (some ⟨g, 0, none⟩) n c) L) (i : Nat) (x : Int) : OwnI (w.setCell ⟨g, i, none⟩ (.int .i64 x)) base (.slice (some ⟨g, 0, none⟩) n c) (L.set i x) := by
  have hn : n = L.length := by
    rcases h.2 with ⟨h', _⟩ | ⟨_, _, _, h', _⟩
    · simp at h'
    · simp only [Value.slice.injEq] at h'; exact h'.2.1
  subst hn
  have := (World.ownsRow.stored h i (.int .i64 x)).1
  unfold OwnI
  rw [List.length_set, List.map_set]
  exact this
end Go.Proofs.Ytdpeidijaohgcaa

namespace Go.Proofs.Ytdpeidijaohgcaa
open Go.RowKit Num Ef

set_option maxHeartbeats 1000000 in
set_option maxRecDepth 10000 in
theorem efLen_any {W : World} {g : Nat} {ids : List Int} (h : EfLst W g ids) : Calls Try.prog 17 #[.pointer (some ⟨g, 0, none⟩)] W fun e w' => e = .returned (.int .i64 (ids.length : Int)) ∧ Ext W w' := by
  obtain ⟨k, A1, c1, A2, c2, hW, hP, hl, -⟩ := h
  have C := efCount_any k A1 ids.length c1 A2 ids.length c2 W
  unfold partsV at C
  clear hP
  generalize ids.length = n at *
  go_enter Try.func17, Try.ntmps17
  go_wp2_with (refine wpList_load_mid rfl 51 (.tmp 7) rfl g 0 rfl [.int .i64 (k : Int), .slice A1 n c1, .slice A2 n c2] _ (whole_range0 hW) Try.underlying51 rfl (parts_infoL ..) ?_)
  refine C.mono ?_
  rintro e w2 ⟨rfl, hE⟩
  go_wp2
  go_ret
  exact ⟨rfl, hE⟩
theorem efLenNil_any (W : World) : Calls Try.prog 17 #[.pointer none] W fun e w' => e = .returned (.int .i64 0) ∧ W = w' := by
  go_enter Try.func17, Try.ntmps17
  go_wp2
  go_ret
  exact ⟨rfl, rfl⟩

theorem Ef.atTo_out {W w' : World} {ids : List Int} {i : Int} (h : ¬ (0 ≤ i ∧ i < (ids.length : Int))) (hE : Ext W w') : AtTo W ids i (.returned (.tuple #[.int .i64 0, .bool false])) w' := by
  refine ⟨?_, hE⟩
  unfold atE
  rw [if_neg h, decide_eq_false h]

set_option maxHeartbeats 1000000 in
set_option maxRecDepth 10000 in
theorem efAt_any {W : World} {g : Nat} {ids : List Int} (h : EfLst W g ids) (i : Int) : Calls Try.prog 18 #[.pointer (some ⟨g, 0, none⟩), .int .i64 i] W (AtTo W ids i) := by
  by_cases h0 : i < 0
  · have HF := hide (fun w' (hE : Ext W w') => atTo_out (W := W) (w' := w') (ids := ids) (i := i) (by omega) hE)
    clear h
    generalize AtTo W ids i = Q at *
    go_enter Try.func18, Try.ntmps18
    go_wp2
    exact HF.out _ (Ext.refl _)
  obtain ⟨j, rfl⟩ := Int.eq_ofNat_of_zero_le (show 0 ≤ i by omega)
  have CL := efLen_any h
  by_cases h1 : j < ids.length
  · have hI : (j : Int) < (ids.length : Int) := by omega
    have HF := hide (fun w' (hE : Ext W w') => show AtTo W ids (j : Int) (.returned (.tuple #[.int .i64 (ids.getD j 0), .bool true])) w' from by
      refine ⟨?_, hE⟩
      unfold atE
      have hx : 0 ≤ (j : Int) ∧ (j : Int) < (ids.length : Int) := ⟨by omega, hI⟩
      rw [if_pos hx, decide_eq_true hx, Int.toNat_natCast])
    have HL := hide h
    generalize AtTo W ids (j : Int) = Q at *
    clear h
    go_enter Try.func18, Try.ntmps18
    go_wp2_with fail
    refine CL.mono ?_
    rintro e w2 ⟨rfl, hE2⟩
    obtain ⟨k, A1, c1, A2, c2, hW, hP, hl, -⟩ := efLst_keep HL.out hE2
    have C2 := efNumber_any (c1 := c1) (c2 := c2) hP h1
    unfold partsV at C2
    obtain ⟨y, hy⟩ : ∃ y, y = ids.getD j 0 := ⟨_, rfl⟩
    rw [← hy] at C2
    have HY := hide hy
    have HE2 := hide hE2
    generalize ids.length = n at *
    clear hP CL hy hE2
    go_wp2_with (refine wpList_load_mid rfl 51 (.tmp 16) rfl g 0 rfl [.int .i64 (k : Int), .slice A1 n c1, .slice A2 n c2] _ (whole_range0 hW) Try.underlying51 rfl (parts_infoL ..) ?_)
    refine C2.mono ?_
    rintro e w3 ⟨rfl, hE3⟩
    clear C2
    go_wp2
    have HF2 := HF.out _ (HE2.out.trans hE3)
    rw [← HY.out] at HF2
    exact HF2
  · have hI : ¬ (j : Int) < (ids.length : Int) := by omega
    have HF := hide (fun w' (hE : Ext W w') => atTo_out (W := W) (w' := w') (ids := ids) (i := (j : Int)) (by omega) hE)
    clear h
    generalize AtTo W ids (j : Int) = Q at *
    generalize ids.length = n at *
    go_enter Try.func18, Try.ntmps18
    go_wp2_with fail
    refine CL.mono ?_
    rintro e w2 ⟨rfl, hE2⟩
    clear CL
    go_wp2
    exact HF.out _ hE2
set_option maxHeartbeats 1000000 in
theorem efAtNil_any (W : World) (i : Int) : Calls Try.prog 18 #[.pointer none, .int .i64 i] W fun e w' => e = .returned (.tuple #[.int .i64 0, .bool false]) ∧ W = w' := by
  have CL := efLenNil_any W
  by_cases h0 : i < 0
  · clear CL
    go_enter Try.func18, Try.ntmps18
    go_wp2
    go_ret2
    exact ⟨rfl, rfl⟩
  · go_enter Try.func18, Try.ntmps18
    go_wp2_with fail
    refine CL.mono ?_
    rintro e w2 ⟨rfl, rfl⟩
    clear CL
    go_wp2
    go_ret2
    exact ⟨rfl, rfl⟩

set_option maxHeartbeats 1000000 in
set_option maxRecDepth 10000 in
theorem efAll_any {W : World} {g : Nat} {ids : List Int} (h : EfLst W g ids) : Calls Try.prog 15 #[.pointer (some ⟨g, 0, none⟩)] W (AllTo W ids) := by
  have CL := efLen_any h
  obtain ⟨k, A1, c1, A2, c2, hW, hP, hl, -⟩ := h
  have CN := fun (j : Nat) (hj : j < ids.length) Wx (hE : Ext W Wx) => efNumber_any (c1 := c1) (c2 := c2) (hP.ext hE) hj
  unfold partsV at CN
  unfold AllTo
  clear hP
  obtain ⟨n, hn⟩ : ∃ n, n = ids.length := ⟨_, rfl⟩
  rw [← hn] at CL hW CN hl ⊢
  have HN := hide hn
  have HW := hide hW
  clear hn hW
  go_enter Try.func15, Try.ntmps15
  go_wp2_with fail
  refine CL.mono ?_
  rintro e w2 ⟨rfl, hE2⟩
  have HE2 := hide hE2
  clear CL hE2
  have hnm : n ≤ 1000000 := by omega
  go_wp2_with (refine wpList_makeN (n := n) rfl (.tmp 6) (.tmp 6) rfl rfl rfl hnm ?_; intro w4 hO4 hE4)
  obtain ⟨gs, hgs⟩ : ∃ k, k = w2.heap.size := ⟨_, rfl⟩
  rw [← hgs] at hO4 ⊢
  have hgl : W.heap.size ≤ gs := by rw [hgs]; exact HE2.out.le
  have HE4 := hide (HE2.out.trans hE4)
  have HO4 := hide hO4
  clear hO4 hE4 hgs
  go_loopw [10] (fun x wr => ∃ i : Nat, i ≤ n ∧ x = .int .i64 (i : Int) ∧ OwnI wr gs (.slice (some ⟨gs, 0, none⟩) n n) (ids.take i ++ List.replicate (n - i) 0) ∧ Ext W wr) (fun x _ => n - (intOf x).toNat)
  case atStart => exact ⟨0, by omega, rfl, by simpa using HO4.out, HE4.out⟩
  case round =>
    clear HO4 HE4
    obtain ⟨i, hi, rfl, hO, hE⟩ := hrel
    have HO := hide hO
    have HE := hide hE
    clear hO hE
    by_cases hlt : i < n
    · have hiI : (i : Int) < (n : Int) := by omega
      have hWr := HW.out.ext HE.out
      have C2 := CN i hlt wr HE.out
      obtain ⟨y, hy⟩ : ∃ y, y = ids.getD i 0 := ⟨_, rfl⟩
      rw [← hy] at C2
      have HY := hide hy
      clear hy
      go_wp2_with (refine wpList_load_mid rfl 51 (.tmp 17) rfl g 0 rfl [.int .i64 (k : Int), .slice A1 n c1, .slice A2 n c2] _ (whole_range0 hWr) Try.underlying51 rfl (parts_infoL ..) ?_)
      refine C2.mono ?_
      rintro e w5 ⟨rfl, hE5⟩
      have hO5 := HO.out.ext hE5
      obtain ⟨e5, f5⟩ := hO5.cell (i := i) (by rw [List.length_append, List.length_take, List.length_replicate]; have := HN.out; omega)
      have HSet := hide (show (ids.take i ++ List.replicate (n - i) 0).set i y = ids.take (i + 1) ++ List.replicate (n - (i + 1)) 0 by
        have hl : (ids.take i).length = i := by rw [List.length_take]; have := HN.out; omega
        rw [List.set_append_right _ _ (by rw [hl]; exact Nat.le_refl _), hl, Nat.sub_self, show n - i = n - (i + 1) + 1 by omega, List.replicate_succ, List.set_cons_zero, List.take_add_one, List.getElem?_eq_getElem (by have := HN.out; omega), HY.out, List.getD_eq_getElem?_getD, List.getElem?_eq_getElem (by have := HN.out; omega), List.append_assoc]
        rfl)
      have HO5 := hide hO5
      have HE5 := hide (HE.out.trans hE5)
      obtain ⟨z, hz⟩ : ∃ z, z = (ids.take i ++ List.replicate (n - i) 0).getD i 0 := ⟨_, rfl⟩
      rw [← hz] at e5
      clear hO5 hE5 C2 hWr hz
      go_wp2
      go_roundw
      case rel => exact ⟨i + 1, by omega, by go_num, by rw [← HSet.out]; exact HO5.out.put i y, HE5.out.setCell hgl _⟩
      case measure => simp [intOf]; omega
    · obtain rfl : n = i := by omega
      go_wp2
      go_ret
      have h1 := HO.out
      rw [Nat.sub_self, List.replicate_zero, List.append_nil, HN.out, List.take_length, ← HN.out] at h1
      refine ⟨_, n, rfl, Nat.le_refl _, by unfold maxLen; omega, ?_, HE.out⟩
      have h2 := h1.at
      rwa [← HN.out] at h2
set_option maxHeartbeats 1000000 in
set_option maxRecDepth 10000 in
theorem efAllNil_any (W : World) : Calls Try.prog 15 #[.pointer none] W fun e w' => ∃ A c, e = .returned (.slice A 0 c) ∧ Ext W w' := by
  have CL := efLenNil_any W
  go_enter Try.func15, Try.ntmps15
  go_wp2_with fail
  refine CL.mono ?_
  rintro e w2 ⟨rfl, rfl⟩
  clear CL
  go_wp2_with (refine wpList_makeN (n := 0) rfl (.tmp 6) (.tmp 6) rfl rfl rfl (by omega) ?_; intro w4 hO4 hE4)
  go_loopw [10] (fun x wr => x = .int .i64 0 ∧ wr = w4) (fun _ _ => 0)
  case atStart => exact ⟨rfl, rfl⟩
  case round =>
    obtain ⟨rfl, rfl⟩ := hrel
    go_wp2
    go_ret
    exact ⟨_, _, rfl, hE4⟩
end Go.Proofs.Ytdpeidijaohgcaa

namespace Go.Proofs.Ytdpeidijaohgcaa
open Go.RowKit Num Ef

/-- What the search tells: the first place at which the test holds. -/
def FirstTo (w : World) (n : Nat) (p : Nat → Bool) (e : Ending) (w' : World) : Prop :=
  ∃ i, i ≤ n ∧ (∀ j, j < i → p j = false) ∧ (∀ j, i ≤ j → j < n → p j = true) ∧ e = .returned (.int .i64 (i : Int)) ∧ Ext w w'

set_option maxHeartbeats 1000000 in
set_option maxRecDepth 10000 in
theorem search_any {K : Nat} {c0 c1 : Value} (hK : Entered K) (n : Nat) (p : Nat → Bool) (w : World) (hn : n ≤ 1000000) (hm : ∀ i j, i ≤ j → j < n → p i = true → p j = true)
    (hC : ∀ W j, Ext w W → j < n → Calls Try.prog K #[.int .i64 (j : Int), c0, c1] W fun e w' => e = .returned (.bool (p j)) ∧ Ext W w') :
    Calls Try.prog 39 #[.int .i64 (n : Int), .func (.func K) #[] #[c0, c1]] w (FirstTo w n p) := by
  have hEn := fun args W => hK args W
  have HC := hide hC
  have HM := hide hm
  clear hC hm
  go_enter Try.func39, Try.ntmps39
  go_wp2
  go_loopw [5, 6] (fun i j wr => ∃ a b : Nat, i = .int .i64 (a : Int) ∧ j = .int .i64 (b : Int) ∧ a ≤ b ∧ b ≤ n ∧ (∀ t, t < a → p t = false) ∧ (∀ t, b ≤ t → t < n → p t = true) ∧ Ext w wr) (fun i j _ => (intOf j).toNat - (intOf i).toNat)
  case atStart => exact ⟨0, n, rfl, rfl, by omega, Nat.le_refl _, fun t ht => absurd ht (by omega), fun t h1 h2 => by omega, Ext.refl _⟩
  case round =>
    obtain ⟨a, b, rfl, rfl, hab, hbn, h1, h2, hE⟩ := hrel
    have H1 := hide h1
    have H2 := hide h2
    have HE := hide hE
    clear h1 h2 hE
    by_cases hlt : a < b
    · have hltI : (a : Int) < (b : Int) := by omega
      obtain ⟨k, hk⟩ : ∃ k, k = (a + b) / 2 := ⟨_, rfl⟩
      have hkb : k < b := by omega
      have hak : a ≤ k := by omega
      have hkI : ((a : Int) + (b : Int)) / 2 = (k : Int) := by omega
      have hkn : k < n := by omega
      have C := HC.out _ k HE.out hkn
      clear hk
      cases hp : p k with
      | false =>
        rw [hp] at C
        have HR1 := hide (show ∀ t, t < k + 1 → p t = false from fun t ht => by
          cases ht2 : p t with
          | false => rfl
          | true =>
            have := HM.out t k (by omega) hkn ht2
            rw [hp] at this
            exact this.symm)
        clear hp
        go_wp2_with fail
        refine C.mono ?_
        rintro e w2 ⟨rfl, hE2⟩
        have HE2 := hide (HE.out.trans hE2)
        clear C hE2
        go_wp2
        go_roundw
        case rel => exact ⟨k + 1, b, by go_num, rfl, by omega, hbn, HR1.out, H2.out, HE2.out⟩
        case measure => simp [intOf]; omega
      | true =>
        rw [hp] at C
        have HR2 := hide (show ∀ t, k ≤ t → t < n → p t = true from fun t ht htn => HM.out k t ht htn hp)
        clear hp
        go_wp2_with fail
        refine C.mono ?_
        rintro e w2 ⟨rfl, hE2⟩
        have HE2 := hide (HE.out.trans hE2)
        clear C hE2
        go_wp2
        go_roundw
        case rel => exact ⟨a, k, rfl, rfl, by omega, by omega, H1.out, HR2.out, HE2.out⟩
        case measure => simp [intOf]; omega
    · obtain rfl : a = b := by omega
      have hnI : ¬ (a : Int) < (a : Int) := by omega
      go_wp2
      go_ret
      exact ⟨a, hbn, H1.out, H2.out, rfl, HE.out⟩
/-- Of nothing: 0; the test isn't called. -/
theorem searchNil_any (f : Value) (w : World) : Calls Try.prog 39 #[.int .i64 0, f] w fun e w' => e = .returned (.int .i64 0) ∧ w = w' := by
  go_enter Try.func39, Try.ntmps39
  go_wp2
  go_loopw [5, 6] (fun i j wr => i = .int .i64 0 ∧ j = .int .i64 0 ∧ wr = w) (fun _ _ _ => 0)
  case atStart => exact ⟨rfl, rfl, rfl⟩
  case round =>
    obtain ⟨rfl, rfl, rfl⟩ := hrel
    go_wp2
    go_ret
    exact ⟨rfl, rfl⟩

theorem entered_next1 : Entered 40 := entered_of Try.func40 (by kernel_rfl) rfl
set_option maxHeartbeats 1000000 in
set_option maxRecDepth 10000 in
theorem next1_any {w0 w : World} {g b2 b3 : Nat} {ids : List Int} {x : Int} (h : EfLst w0 g ids) (e2 : w0.cell? ⟨b2, 0, none⟩ = some (.pointer (some ⟨g, 0, none⟩))) (e3 : w0.cell? ⟨b3, 0, none⟩ = some (.int .i64 x)) (hE : Ext w0 w) {j : Nat} (hj : j < ids.length) :
    Calls Try.prog 40 #[.int .i64 (j : Int), .pointer (some ⟨b2, 0, none⟩), .pointer (some ⟨b3, 0, none⟩)] w fun e w' => e = .returned (.bool (decide (x ≤ ids.getD j 0))) ∧ Ext w w' := by
  obtain ⟨k, A1, c1, A2, c2, hW, hP, hl, -⟩ := h
  have CN := fun Wx (hE : Ext w0 Wx) => efNumber_any (c1 := c1) (c2 := c2) (hP.ext hE) hj
  unfold partsV at CN
  have hb2 := World.block_lt_of_cell? w0 ⟨b2, 0, none⟩ e2
  have hb3 := World.block_lt_of_cell? w0 ⟨b3, 0, none⟩ e3
  obtain ⟨y, hy⟩ : ∃ y, y = ids.getD j 0 := ⟨_, rfl⟩
  rw [← hy] at CN ⊢
  generalize ids.length = n at *
  clear hP hl hj hy
  go_enter Try.func40, Try.ntmps40
  go_wp2_with fail
  refine wp_region_T (fun W => Ext w0 W) 8 9 #[false, false, false, false, false, false, false, false, false] (by kernel_rfl) rfl rfl (hE.trans (Ext.refl w).drew) ?_
  intro hS0
  refine wpAnyT_take 0 (some 5) (.pointer (some ⟨g, 0, none⟩)) #[true, false, false, false, false, false, false, false, false] rfl rfl rfl (by kernel_rfl) (fun _ _ _ h => h) hS0 (by rfl) (fun W hX => by have s1 := (hX.cell hb2).trans e2; have s2 := (hX.cell hb3).trans e3; go_simp) ?_
  simp only [Act.put, List.setIfInBounds_toArray, List.set_cons_zero, List.set_cons_succ]
  refine wpAnyT_take 1 (some 6) (.pointer (some ⟨g, 0, none⟩)) #[true, true, false, false, false, false, false, false, false] rfl rfl rfl (by kernel_rfl) (fun _ _ _ h => h) hS0 (by rfl) (fun W hX => by have s1 := (hX.cell hb2).trans e2; have s2 := (hX.cell hb3).trans e3; go_simp) ?_
  simp only [Act.put, List.setIfInBounds_toArray, List.set_cons_zero, List.set_cons_succ]
  refine wpAnyT_take 2 (some 7) (.pointer (some ⟨g, 0, none⟩)) #[true, true, true, false, false, false, false, false, false] rfl rfl rfl (by kernel_rfl) (fun _ _ _ h => h) hS0 (by rfl) (fun W hX => by have s1 := (hX.cell hb2).trans e2; have s2 := (hX.cell hb3).trans e3; go_simp) ?_
  simp only [Act.put, List.setIfInBounds_toArray, List.set_cons_zero, List.set_cons_succ]
  refine wpAnyT_take 3 (some 8) (.agg #[.int .i64 (k : Int), .slice A1 n c1, .slice A2 n c2]) #[true, true, true, true, false, false, false, false, false] rfl rfl rfl (by kernel_rfl) (fun _ _ _ h => h) hS0 (by rfl) (fun W hX => by exact exec_load_mid 51 (.tmp 7) rfl g 0 rfl [.int .i64 (k : Int), .slice A1 n c1, .slice A2 n c2] (whole_range0 (hW.ext hX)) Try.underlying51 rfl (parts_infoL ..)) ?_
  simp only [Act.put, List.setIfInBounds_toArray, List.set_cons_zero, List.set_cons_succ]
  refine wpAnyT_take 4 (some 9) (.int .i64 (j : Int)) #[true, true, true, true, true, false, false, false, false] rfl rfl rfl (by kernel_rfl) (fun _ _ _ h => h) hS0 (by rfl) (fun W hX => by have s1 := (hX.cell hb2).trans e2; have s2 := (hX.cell hb3).trans e3; go_simp) ?_
  simp only [Act.put, List.setIfInBounds_toArray, List.set_cons_zero, List.set_cons_succ]
  refine wpAnyT_take 6 (some 11) (.int .i64 x) #[true, true, true, true, true, false, true, false, false] rfl rfl rfl (by kernel_rfl) (fun _ _ _ h => h) hS0 (by rfl) (fun W hX => by have s1 := (hX.cell hb2).trans e2; have s2 := (hX.cell hb3).trans e3; go_simp) ?_
  simp only [Act.put, List.setIfInBounds_toArray, List.set_cons_zero, List.set_cons_succ]
  refine wpAnyT_only 5 #[true, true, true, true, true, true, true, false, false] (by kernel_rfl) rfl rfl (by rfl) (fun K0 hK0 => ?_)
  go_simp
  go_at_call 37
  refine (CN _ hS0).mono ?_
  rintro e wz ⟨rfl, hEz⟩
  have hSz := hS0.trans hEz
  refine hK0 _ _ (fun _ => hSz) ?_
  clear hK0 K0
  refine wpAnyT_only 7 #[true, true, true, true, true, true, true, true, false] (by kernel_rfl) rfl rfl (by rfl) (fun K1 hK1 => ?_)
  go_simp
  refine hK1 _ _ (fun _ => hSz) ?_
  clear hK1 K1
  refine wpAnyT_only 8 #[true, true, true, true, true, true, true, true, true] (by kernel_rfl) rfl rfl (by rfl) (fun K2 hK2 => ?_)
  go_simp
  refine hK2 _ _ (fun h => absurd h (by decide)) (wpAnyT_done (by kernel_rfl) ?_ _)
  clear hK2 K2
  go_wp2
  go_ret
  exact ⟨rfl, (Ext.refl w).drew.trans hEz⟩

set_option maxHeartbeats 1000000 in
set_option maxRecDepth 10000 in
theorem efNext_any {W : World} {g : Nat} {ids : List Int} (h : EfLst W g ids) (x : Int) : Calls Try.prog 19 #[.pointer (some ⟨g, 0, none⟩), .int .i64 x] W (NextTo W ids x) := by
  have hln : ids.length ≤ 20000 := by obtain ⟨_, _, _, _, _, _, _, hl, _⟩ := h; exact hl
  have hri : ∀ i j, i ≤ j → j < ids.length → ids.getD i 0 ≤ ids.getD j 0 := by obtain ⟨_, _, _, _, _, _, _, _, hr⟩ := h; exact hr
  have hE1 := extNew W (.cells #[.pointer (some ⟨g, 0, none⟩)] 31)
  have hE2 := extNew (W.alloc (.cells #[.pointer (some ⟨g, 0, none⟩)] 31)) (.cells #[.int .i64 x] 3)
  have e2 := ((Whole.new W 31 #[.pointer (some ⟨g, 0, none⟩)]).ext hE2).at 0 (u := .pointer (some ⟨g, 0, none⟩)) rfl
  have e3 := (Whole.new (W.alloc (.cells #[.pointer (some ⟨g, 0, none⟩)] 31)) 3 #[.int .i64 x]).at 0 (u := .int .i64 x) rfl
  rw [World.size_alloc] at e3
  have hE := hE1.trans hE2
  have hL := efLst_keep h hE
  generalize hw1 : (W.alloc (.cells #[.pointer (some ⟨g, 0, none⟩)] 31)).alloc (.cells #[.int .i64 x] 3) = w1 at *
  have HW1 := hide hw1
  clear hw1 hE1 hE2
  have CL := efLen_any hL
  have CS := fun Wx (hx : Ext w1 Wx) => search_any (c0 := .pointer (some ⟨W.heap.size, 0, none⟩)) (c1 := .pointer (some ⟨W.heap.size + 1, 0, none⟩)) entered_next1 ids.length (fun j => decide (x ≤ ids.getD j 0)) Wx (by omega) (fun i j hij hj hp => by
    have h1 := hri i j hij hj
    have h2 : x ≤ ids.getD i 0 := of_decide_eq_true hp
    exact decide_eq_true (by omega)) (fun W2 j hW2 hj => next1_any hL e2 e3 (hx.trans hW2) hj)
  have HAt := hide (fun Wx (hx : Ext w1 Wx) (i : Int) => efAt_any (efLst_keep hL hx) i)
  have HE := hide hE
  have b2 := World.block_lt_of_cell? w1 ⟨W.heap.size, 0, none⟩ e2
  have HC2 := hide (fun Wx (hx : Ext w1 Wx) => (hx.cell (i := 0) b2).trans e2)
  have HNa := hide (fun (i : Nat) (hi : i < ids.length) h ha => next_at (ids := ids) (x := x) (i := i) hi h ha)
  have HNn := hide (fun ha => next_none (ids := ids) (x := x) ha)
  unfold NextTo
  generalize nextE ids x = res at *
  clear h hL hE e3 b2
  go_enter Try.func19, Try.ntmps19
  go_wp2_with fail
  rw [HW1.out]
  refine CL.mono ?_
  rintro e w2 ⟨rfl, hE2⟩
  have CS2 := CS w2 hE2
  have HX2 := hide hE2
  clear CL CS e2 hE2
  go_wp2_with fail
  refine CS2.mono ?_
  rintro e w3 ⟨i, hi, ha, hb, rfl, hE3⟩
  have hX3 := HX2.out.trans hE3
  have f2 := HC2.out w3 hX3
  have HA := hide ha
  have HB := hide hb
  have C4 := HAt.out w3 hX3 (i : Int)
  have HX3 := hide (HE.out.trans hX3)
  clear CS2 ha hb hE3 hX3
  unfold AtTo at C4
  by_cases hlt : i < ids.length
  · have HR := hide (show res = ((i : Int), ids.getD i 0, true) from HNa.out i hlt (of_decide_eq_true (HB.out i (Nat.le_refl _) hlt)) (fun j hj => by have := of_decide_eq_false (HA.out j hj); omega))
    have hx : 0 ≤ (i : Int) ∧ (i : Int) < (ids.length : Int) := ⟨by omega, by omega⟩
    rw [decide_eq_true hx, show atE ids (i : Int) = ids.getD i 0 by unfold atE; rw [if_pos hx, Int.toNat_natCast]] at C4
    obtain ⟨y, hy⟩ : ∃ y, y = ids.getD i 0 := ⟨_, rfl⟩
    rw [← hy] at C4 HR
    clear hy hx hlt
    go_wp2_with fail
    refine C4.mono ?_
    rintro e w4 ⟨rfl, hE4⟩
    clear C4
    go_wp2
    go_ret3
    rw [HR.out]
    exact ⟨rfl, HX3.out.trans hE4⟩
  · have HR := hide (show res = (0, 0, false) from HNn.out (fun j hj => by have := of_decide_eq_false (HA.out j (by omega)); omega))
    have hx : ¬ (0 ≤ (i : Int) ∧ (i : Int) < (ids.length : Int)) := by omega
    rw [decide_eq_false hx, show atE ids (i : Int) = 0 by unfold atE; rw [if_neg hx]] at C4
    clear hx hlt
    go_wp2_with fail
    refine C4.mono ?_
    rintro e w4 ⟨rfl, hE4⟩
    clear C4
    go_wp2
    go_ret3
    rw [HR.out]
    exact ⟨rfl, HX3.out.trans hE4⟩

set_option maxHeartbeats 1000000 in
set_option maxRecDepth 10000 in
theorem efNextNil_any (W : World) (x : Int) : Calls Try.prog 19 #[.pointer none, .int .i64 x] W fun e w' => e = .returned (.tuple #[.int .i64 0, .int .i64 0, .bool false]) ∧ Ext W w' := by
  have hE1 := extNew W (.cells #[.pointer none] 31)
  have hE2 := extNew (W.alloc (.cells #[.pointer none] 31)) (.cells #[.int .i64 x] 3)
  have e2 := ((Whole.new W 31 #[.pointer none]).ext hE2).at 0 (u := .pointer none) rfl
  have HE := hide (hE1.trans hE2)
  generalize hw1 : (W.alloc (.cells #[.pointer none] 31)).alloc (.cells #[.int .i64 x] 3) = w1 at *
  have HW1 := hide hw1
  clear hw1 hE1 hE2
  have CL := efLenNil_any w1
  have CA := efAtNil_any w1 0
  go_enter Try.func19, Try.ntmps19
  go_wp2_with fail
  rw [HW1.out]
  refine CL.mono ?_
  rintro e w2 ⟨rfl, rfl⟩
  clear CL
  go_wp2_with fail
  refine (searchNil_any _ _).mono ?_
  rintro e w2 ⟨rfl, rfl⟩
  go_wp2_with fail
  refine CA.mono ?_
  rintro e w2 ⟨rfl, rfl⟩
  clear CA
  go_wp2
  go_ret3
  exact ⟨rfl, HE.out⟩

/-! ### What the laws ask -/
theorem efLenC_any (w : World) : EfLenC EfLst w := fun _ _ _ _ h => efLen_any h
theorem efAtC_any (w : World) : EfAtC EfLst w := fun _ i _ _ _ _ h => efAt_any h i
theorem efNextC_any (w : World) : EfNextC EfLst w := fun _ x _ _ _ _ h => efNext_any h x
theorem efAllC_any (w : World) : EfAllC EfLst w := fun _ _ _ _ h => efAll_any h
theorem efNilC_any (w : World) : EfNilC w := fun i x W _ _ _ =>
  ⟨(efLenNil_any W).mono fun _ _ ⟨h, e⟩ => ⟨h, e ▸ Ext.refl W⟩, (efAtNil_any W i).mono fun _ _ ⟨h, e⟩ => ⟨h, e ▸ Ext.refl W⟩, efNextNil_any W x, efAllNil_any W⟩
end Go.Proofs.Ytdpeidijaohgcaa

namespace Go.Proofs.Ytdpeidijaohgcaa
open Go.RowKit Num Ef

set_option maxHeartbeats 4000000 in
set_option maxRecDepth 100000 in
theorem efFinds_walk0 {LP : LstP} (hK : LstKeep LP) (bound : Int) (A : Option Addr) (n c : Nat) (ids : List Int) (i x : Int) (w : World) (hB : EfWriteC w) (hR : EfReadC LP w) (hLn : EfLenC LP w) (hAt : EfAtC LP w) (hNx : EfNextC LP w) (hbd : IsI64 bound) (hi64 : IsI64 i) (hx64 : IsI64 x) (hn : n ≤ c) (hc : c ≤ maxLen) (h : IntsAt w w.heap.size A n ids) :
    Calls Try.prog 6 #[.int .i64 bound, .slice A n c, .int .i64 i, .int .i64 x] w fun e w' => e = .returned (.bool true) ∧ Ext w w' := by
  have C0 := alive13_any hB (Ext.refl w)
  have hl := h.1
  by_cases hbig : 600 < n
  · have hbI : (600 : Int) < (n : Int) := by omega
    clear hl
    go_enter Try.func6, Try.ntmps6
    go_wp2_with fail
    refine C0.mono ?_
    rintro e w1 ⟨rfl, hE1⟩
    go_wp2
    go_ret
    exact ⟨rfl, hE1⟩
  have hbI : ¬ (600 : Int) < (n : Int) := by omega
  have CMay := fun (W : World) (hE : Ext w W) => refMay13_any A n c ids bound W (h.later hE) (by omega)
  cases hr : row bound ids with
  | false =>
    rw [hr] at CMay
    clear hl hr
    go_enter Try.func6, Try.ntmps6
    go_wp2_with fail
    refine C0.mono ?_
    rintro e w1 ⟨rfl, hE1⟩
    have CM := CMay w1 hE1
    clear C0 CMay
    go_wp2_with fail
    refine CM.mono ?_
    rintro e w2 ⟨rfl, hE2⟩
    have hF2 := hE1.trans hE2
    clear CM hE1 hE2
    go_wp2
    go_ret
    exact ⟨rfl, hF2⟩
  | true =>
  rw [hr] at CMay
  by_cases h0 : bound < 0
  · clear hl hr
    go_enter Try.func6, Try.ntmps6
    go_wp2_with fail
    refine C0.mono ?_
    rintro e w1 ⟨rfl, hE1⟩
    have CM := CMay w1 hE1
    clear C0 CMay
    go_wp2_with fail
    refine CM.mono ?_
    rintro e w2 ⟨rfl, hE2⟩
    have hF2 := hE1.trans hE2
    clear CM hE1 hE2
    go_wp2
    go_ret
    exact ⟨rfl, hF2⟩
  by_cases h1 : 20000 < bound
  · clear hl hr
    go_enter Try.func6, Try.ntmps6
    go_wp2_with fail
    refine C0.mono ?_
    rintro e w1 ⟨rfl, hE1⟩
    have CM := CMay w1 hE1
    clear C0 CMay
    go_wp2_with fail
    refine CM.mono ?_
    rintro e w2 ⟨rfl, hE2⟩
    have hF2 := hE1.trans hE2
    clear CM hE1 hE2
    go_wp2
    go_ret
    exact ⟨rfl, hF2⟩
  have H := hide h
  have HL := hide hl
  have HB := hide hB
  have HR := hide hR
  have HLn := hide hLn
  have HAt := hide hAt
  have HNx := hide hNx
  have he : (writeE bound ids).2 = 0 := by unfold writeE; rw [if_pos ⟨⟨by omega, by omega⟩, hr⟩]
  have HE := hide he
  have hlen := write_len he (by omega)
  have HBk := hide (show readE bound (writeE bound ids).1 = (ids, (writeE bound ids).1.length, 0) by have := read_back he []; rwa [List.append_nil] at this)
  have HIn := hide (show decide (0 ≤ i ∧ i < (ids.length : Int)) = (decide (0 ≤ i) && decide (i < (n : Int))) by rw [hl, Bool.decide_and])
  have HAe := hide (show atE ids i = if 0 ≤ i ∧ i < (n : Int) then ids.getD i.toNat 0 else 0 by unfold atE; rw [hl])
  clear h hl hr he hB hR hLn hAt hNx
  generalize hbb : (writeE bound ids).1 = b at *
  have hbl := hlen
  go_enter Try.func6, Try.ntmps6
  go_wp2_with fail
  refine C0.mono ?_
  rintro e w1 ⟨rfl, hE1⟩
  have CM := CMay w1 hE1
  clear C0 CMay
  go_wp2_with fail
  refine CM.mono ?_
  rintro e w2 ⟨rfl, hE2⟩
  have hF2 := hE1.trans hE2
  have C1 := HB.out bound ids A n c w2 hF2 hbd hn hc (by omega) (H.out.later hF2)
  rw [HE.out, hbb] at C1
  clear CM hE1 hE2 hbb
  go_wp2_with fail
  refine C1.mono ?_
  rintro e w3 ⟨v3, rfl, hO3, hE3⟩
  have hF3 := hF2.trans hE3
  obtain ⟨Ab, cb, rfl, hbc, hbm, hb⟩ := hO3.form
  have C2 := HR.out bound b Ab cb w3 hF3 hbd hbc hbm (by omega) hb
  rw [HBk.out] at C2
  clear C1 hO3 hb hF2 hE3
  go_wp2_with fail
  refine C2.mono ?_
  rintro e w4 ⟨hE4, hok, _⟩
  obtain ⟨g, rfl, hP4⟩ := hok rfl
  have hF4 := hF3.trans hE4
  dsimp only at *
  have C3 := HLn.out ids g w4 hF4 hP4
  rw [HL.out] at C3
  have HP4 := hide hP4
  clear C2 hok hP4 hF3 hE4
  go_wp2_with fail
  refine C3.mono ?_
  rintro e w5 ⟨rfl, hE5⟩
  have hF5 := hF4.trans hE5
  have hP5 := hK HP4.out hE5
  have C4 := HAt.out ids i g w5 hF5 hi64 hP5
  unfold AtTo at C4
  rw [HIn.out, HAe.out] at C4
  have HP5 := hide hP5
  clear C3 hP5 hF4 hE5 HP4
  have hnb : ((n : Int) != (n : Int)) = false := by simp
  by_cases i0 : 0 ≤ i
  · by_cases i1 : i < (n : Int)
    · rw [if_pos ⟨i0, i1⟩, decide_eq_true i0, decide_eq_true i1] at C4
      obtain ⟨k, rfl⟩ := Int.eq_ofNat_of_zero_le i0
      rw [Int.toNat_natCast] at C4
      obtain ⟨y, hy⟩ : ∃ y, y = ids.getD k 0 := ⟨_, rfl⟩
      rw [← hy] at C4
      have HY := hide hy
      clear hy
      go_wp2_with fail
      refine C4.mono ?_
      rintro e w6 ⟨rfl, hE6⟩
      have hF6 := hF5.trans hE6
      have hP6 := hK HP5.out hE6
      rcases (H.out.later hF6).2 with h9 | ⟨b1, o1, rfl, _, hc1⟩
      · omega
      have e1 := hc1 k (by omega)
      rw [← HY.out] at e1
      have C5 := HNx.out ids x g w6 hF6 hx64 hP6
      clear C4 hP6 hF5 hE6 hc1
      go_wp2_with fail
      refine C5.mono ?_
      rintro e w7 ⟨rfl, hE7⟩
      have hF7 := hF6.trans hE7
      have C6 := refNext13_any _ n c ids x w7 (H.out.later hF7) (by omega)
      clear C5 hF6 hE7 e1
      generalize nextE ids x = nx at *
      obtain ⟨x1, x2, x3⟩ := nx
      dsimp only at *
      go_wp2_with fail
      refine C6.mono ?_
      rintro e w8 ⟨rfl, hE8⟩
      have hx3 : (x3 == x3) = true := by simp
      clear C6
      go_wp2
      go_ret
      exact ⟨rfl, hF7.trans hE8⟩
    · rw [if_neg (fun h => i1 h.2), decide_eq_true i0, decide_eq_false i1] at C4
      go_wp2_with fail
      refine C4.mono ?_
      rintro e w6 ⟨rfl, hE6⟩
      have hF6 := hF5.trans hE6
      have hP6 := hK HP5.out hE6
      have C5 := HNx.out ids x g w6 hF6 hx64 hP6
      clear C4 hP6 hF5 hE6
      go_wp2_with fail
      refine C5.mono ?_
      rintro e w7 ⟨rfl, hE7⟩
      have hF7 := hF6.trans hE7
      have C6 := refNext13_any A n c ids x w7 (H.out.later hF7) (by omega)
      clear C5 hF6 hE7
      generalize nextE ids x = nx at *
      obtain ⟨x1, x2, x3⟩ := nx
      dsimp only at *
      go_wp2_with fail
      refine C6.mono ?_
      rintro e w8 ⟨rfl, hE8⟩
      have hx3 : (x3 == x3) = true := by simp
      clear C6
      go_wp2
      go_ret
      exact ⟨rfl, hF7.trans hE8⟩
  · rw [if_neg (fun h => i0 h.1), decide_eq_false i0, Bool.false_and] at C4
    go_wp2_with fail
    refine C4.mono ?_
    rintro e w6 ⟨rfl, hE6⟩
    have hF6 := hF5.trans hE6
    have hP6 := hK HP5.out hE6
    have C5 := HNx.out ids x g w6 hF6 hx64 hP6
    clear C4 hP6 hF5 hE6
    go_wp2_with fail
    refine C5.mono ?_
    rintro e w7 ⟨rfl, hE7⟩
    have hF7 := hF6.trans hE7
    have C6 := refNext13_any A n c ids x w7 (H.out.later hF7) (by omega)
    clear C5 hF6 hE7
    generalize nextE ids x = nx at *
    obtain ⟨x1, x2, x3⟩ := nx
    dsimp only at *
    go_wp2_with fail
    refine C6.mono ?_
    rintro e w8 ⟨rfl, hE8⟩
    have hx3 : (x3 == x3) = true := by simp
    clear C6
    go_wp2
    go_ret
    exact ⟨rfl, hF7.trans hE8⟩
end Go.Proofs.Ytdpeidijaohgcaa

namespace Go.Proofs.Ytdpeidijaohgcaa
open Go.RowKit Go.WideMaps Num Ef

theorem isI64_of {x : Int} (h : (Lit.int .i64 x).wf = true) : IsI64 x := by
  have := bounds_i64 h
  unfold IsI64
  omega
theorem efWrites_walk (bound : Int) (A : Option Addr) (n c : Nat) (ids : List Int) (w : World) (hb : (Lit.int .i64 bound).wf = true) (hn : n ≤ c) (hc : c ≤ maxLen) (h : IntsAt w w.heap.size A n ids) : Calls Try.prog 3 #[.int .i64 bound, .slice A n c] w fun e w' => e = .returned (.bool true) ∧ Below w.heap.size w w' :=
  efWrites_walk0 bound A n c ids w (efWriteC_any w) (isI64_of hb) hn hc h
theorem efShort_walk (bound : Int) (A : Option Addr) (n c : Nat) (ids : List Int) (w : World) (hb : (Lit.int .i64 bound).wf = true) (hn : n ≤ c) (hc : c ≤ maxLen) (h : IntsAt w w.heap.size A n ids) : Calls Try.prog 8 #[.int .i64 bound, .slice A n c] w fun e w' => e = .returned (.bool true) ∧ Below w.heap.size w w' :=
  efShort_walk0 bound A n c ids w (efWriteC_any w) (isI64_of hb) hn hc h
theorem efNone_walk (i x : Int) (w : World) (hi : (Lit.int .i64 i).wf = true) (hx : (Lit.int .i64 x).wf = true) : Calls Try.prog 7 #[.int .i64 i, .int .i64 x] w fun e w' => e = .returned (.bool true) ∧ Below w.heap.size w w' :=
  efNone_walk0 i x w (efWriteC_any w) (efNilC_any w) (isI64_of hi) (isI64_of hx)
theorem efOne_walk (bound : Int) (A : Option Addr) (n c : Nat) (b : List UInt8) (w : World) (hb : (Lit.int .i64 bound).wf = true) (hn : n ≤ c) (hc : c ≤ maxLen) (h : Bytes w w.heap.size A n b) : Calls Try.prog 5 #[.int .i64 bound, .slice A n c] w fun e w' => e = .returned (.bool true) ∧ Below w.heap.size w w' :=
  efOne_walk0 bound A n c b w (efWriteC_any w) (efReadC_any w) (efAllC_any w) (isI64_of hb) hn hc h
theorem efBack_walk (bound : Int) (A1 : Option Addr) (n1 c1 : Nat) (ids : List Int) (A2 : Option Addr) (n2 c2 : Nat) (m : List UInt8) (w : World) (hb : (Lit.int .i64 bound).wf = true) (hn1 : n1 ≤ c1) (hc1 : c1 ≤ maxLen) (h1 : IntsAt w w.heap.size A1 n1 ids) (_ : n2 ≤ c2) (_ : c2 ≤ maxLen) (h2 : Bytes w w.heap.size A2 n2 m) : Calls Try.prog 4 #[.int .i64 bound, .slice A1 n1 c1, .slice A2 n2 c2] w fun e w' => e = .returned (.bool true) ∧ Below w.heap.size w w' :=
  efBack_walk0 bound A1 A2 n1 c1 n2 c2 ids m w (efWriteC_any w) (efReadC_any w) (efAllC_any w) (isI64_of hb) hn1 hc1 h1 h2
theorem efFinds_walk (bound : Int) (A : Option Addr) (n c : Nat) (ids : List Int) (i x : Int) (w : World) (hb : (Lit.int .i64 bound).wf = true) (hn : n ≤ c) (hc : c ≤ maxLen) (h : IntsAt w w.heap.size A n ids) (hi : (Lit.int .i64 i).wf = true) (hx : (Lit.int .i64 x).wf = true) : Calls Try.prog 6 #[.int .i64 bound, .slice A n c, .int .i64 i, .int .i64 x] w fun e w' => e = .returned (.bool true) ∧ Below w.heap.size w w' :=
  efFinds_walk0 (LP := EfLst) efLst_keep bound A n c ids i x w (efWriteC_any w) (efReadC_any w) (efLenC_any w) (efAtC_any w) (efNextC_any w) (isI64_of hb) (isI64_of hi) (isI64_of hx) hn hc h
end Go.Proofs.Ytdpeidijaohgcaa

namespace Go.Proofs.Ytdpeidijaohgcaa
open Go.ChangeShapes Go.WideShapes Go.ChangeAt Go.WideMaps Go.WideElems Go.RowKit

theorem addr_addI (b off i : Nat) : (⟨b, off, none⟩ : Addr).add i = ⟨b, off + i, none⟩ := by unfold Addr.add; split <;> simp_all
theorem open_ints64 {H : Type} {enc : TypeId × Value → H} {W : World} {a : Option Addr} {n c : Nat} {d : DataW H} {p : List MemPlace} (h : DataW.Trod enc Try.prog W 0 (fun _ => true) true 22 (.slice a n c) d p) :
    ∃ L : List Int, n ≤ c ∧ c ≤ maxLen ∧ IntsAt W W.heap.size a n L := by
  obtain ⟨fuel, hf⟩ := h
  rcases open_ints Try.underlying22 Try.underlying3 (by kernel_rfl) hf with ⟨hcs, _⟩ | ⟨x, n', c', zs, hcs, _, hl, hm, hz, _, hcell, _⟩
  · simp [Value.cells] at hcs
    obtain ⟨rfl, rfl, rfl⟩ := hcs
    exact ⟨[], by omega, by unfold maxLen; omega, rfl, .inl rfl⟩
  · simp [Value.cells] at hcs
    obtain ⟨rfl, rfl, rfl⟩ := hcs
    have hz' : zs.length = c := by simpa using hz
    refine ⟨zs.take n, hl, hm, by simp; omega, ?_⟩
    rcases Nat.eq_zero_or_pos n with h0 | h0
    · exact .inl h0
    obtain ⟨b, off, spot⟩ := x
    have hc0 := hcell 0 (by omega)
    have hspot : spot = none := by simpa [Addr.add] using World.cell?_spot hc0
    subst hspot
    refine .inr ⟨b, off, rfl, by simpa [Addr.add] using World.block_lt_of_cell? W _ hc0, fun i hi => ?_⟩
    have h1 := hcell i (by omega)
    have e : (zs.take n).getD i 0 = zs.getD i 0 := by simp [List.getD_eq_getElem?_getD, hi]
    rw [e]
    rw [addr_addI] at h1
    exact h1
end Go.Proofs.Ytdpeidijaohgcaa

