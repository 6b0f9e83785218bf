/- The program's reader of tokens: piece. The program's writer of tokens: Write. The program's reader of tokens: tokens, Read. What the laws of chapter 11 ask of the program; the example; ToksSplits, ToksJoins. ToksJoins. LzLongest, under what the program tells; the document's Size. ToksCounts, ToksWrites, ToksReads, ToksBack, ToksMay. Rows of numbers of the call's own (as XOwnL, without the texts of matrices). Lists of items: weights with rows of numbers, as the document's Lens has them. The document's merge of chapter 7. -/
import Derived.Test.YtaohdnhfodkeoaaS01
import Derived.Test.YtaohdnhfodkeoaaS02
import Derived.Test.YtaohdnhfodkeoaaS03
import Derived.Test.YtaohdnhfodkeoaaS04
import Derived.Test.YtaohdnhfodkeoaaS08
import Derived.Deep.DeepCutAuto
import Derived.BigQuiet
import Derived.Laws.OwnMore
import Derived.Maps.AppendAt
import Derived.Deep.QuietTactic
namespace Go.Proofs.Ytaohdnhfodkeoaa
open Go.RowKit Lz Tok Len Can Huf
theorem wpOper_storeC {op : Oper} {a : Act} {w : World} {K : Act → World → Prop} {Q : Exit → Act → World → Prop} (ty : TypeId) (x y : Operand) (ho : op.op = .store ty x y)
    {g i : Nat} {t : TypeId} {cs : Array Value} {u : Value} (hx : a.eval x = .pointer (some ⟨g, i, none⟩)) (hy : a.eval y = u) (hw : Whole w g t cs) (hi : i < cs.size)
    (hs : (Try.prog.info? ty).map (·.size) = some 1) (h1 : u.oneCell' = true) (hcells : u.cells = #[u])
    (h : K (a.put op.dst undef) (w.setCell ⟨g, i, none⟩ u)) : Oper.wp Try.prog op a w K Q := by
  have hf := hw.frozen i
  have hc : w.cell? ⟨g, i, none⟩ = some (cs[i]) := hw.at i (Array.getElem?_eq_getElem hi)
  unfold Oper.wp execOp
  cases hq : Try.prog.info? ty with
  | none => simp [hq] at hs
  | some d =>
    have hs' : d.size = 1 := by simpa [hq] using hs
    have ht : w.there g i 1 := fun j hj => by
      obtain rfl : j = 0 := by omega
      exact ⟨by rw [Nat.add_zero, hc]; rfl, by rw [Nat.add_zero]; exact hf⟩
    have hr : (storeVar ty ⟨g, i, none⟩ u).run Try.prog w = .ok () (w.setCells g i [u]) := by
      have := run_storeCells_cells (P := Try.prog) g i [u] 0 w (fun j hj => by simpa using (ht j (by simpa using hj)).1) (fun j hj => by simpa using (ht j (by simpa using hj)).2) (fun v hv => by simp at hv; subst hv; exact h1)
      simp only [storeVar, sizeOf, typeInfo, hcells]
      simpa [hq, hs'] using this
    simp only [ho, hx, hy, Instr.storeAt, Instr.sureAddr, Sem.run_bind, Sem.run_pure, Result.andThen_ok, hr]
    exact h
def Tok.pieceR (x y b : List UInt8) (q : Nat) : PcV × Int × Nat :=
  if (getE x b q).2.1 ≠ 0 then (⟨0, 0, 0, 0⟩, (getE x b q).2.1, q)
  else if (getE x b q).1 < 257 then (⟨(getE x b q).1, 0, 0, 0⟩, 0, (getE x b q).2.2)
  else matchT y b (getE x b q).1 (getE x b q).2.2
def PieceRTo (W : World) (base gr : Nat) (b : List UInt8) (r : PcV × Int × Nat) (e : Ending) (w' : World) : Prop :=
  e = .returned (.tuple #[pcV r.1, .int .i64 r.2.1]) ∧ (∃ q', Rdr w' base gr b q' ∧ (r.2.1 = 0 → q' = r.2.2)) ∧ Mod W w' gr none
structure PSt (W w : World) (base gr H q : Nat) (b : List UInt8) (cs : Array Value) : Prop where
  mod : Mod W w gr none
  rd : Rdr w base gr b q
  pc : Whole w (H + 1) 25 cs
  out : Whole w H 25 #[.int .i64 0, .int .i64 0, .int .i64 0, .int .i64 0]
section
variable {W w w' : World} {base gr q q' : Nat} {b : List UInt8} {cs : Array Value}
theorem PSt.store (h : PSt W w base gr W.heap.size q b cs) (hg : gr < W.heap.size) (i : Nat) (u : Value) : PSt W (w.setCell ⟨W.heap.size + 1, i, none⟩ u) base gr W.heap.size q b (cs.setIfInBounds i u) := by
  obtain ⟨h1, h2, h3⟩ := rdr_store (i := i) (u := u) h.mod h.rd h.pc (by omega) hg
  exact ⟨h1, h2, h3, h.out.far (by omega) i u⟩
theorem PSt.get (h : PSt W w base gr W.heap.size q b cs) (hg : gr < W.heap.size) (hM : Mod w w' gr none) (hR : Rdr w' base gr b q') : PSt W w' base gr W.heap.size q' b cs :=
  ⟨h.mod.trans hM (.inl rfl), hR, hM.whole h.pc (by omega) (by simp), hM.whole h.out (by omega) (by simp)⟩
theorem PSt.ext (h : PSt W w base gr W.heap.size q b cs) (hE : Ext w w') : PSt W w' base gr W.heap.size q b cs :=
  ⟨h.mod.trans (Mod.ofExt (ob := none) hE) (.inl rfl), h.rd.ext hE, h.pc.ext hE, h.out.ext hE⟩
end
theorem PSt.done {W w w' : World} {base gr q : Nat} {b : List UInt8} {cs : Array Value} (h : PSt W w base gr W.heap.size q b cs) (hg : gr < W.heap.size) (hG : w.grownBy w' (some W.heap.size)) : Mod W w' gr none ∧ Rdr w' base gr b q :=
  ⟨h.mod.fresh hG (fun k hk => by cases hk; exact Nat.le_refl _), h.rd.below (B := gr + 1) (Below.grown (Below.refl _ _) hG (by have := h.rd.lt; omega) (fun k hk => by cases hk; omega)) (by omega)⟩
theorem Tok.matchA {y b : List UInt8} {s : Int} {q : Nat} (h : Bit.getErr (8 * b.length - q) (s - 257) ≠ 0) : matchT y b s q = (⟨0, 0, 0, 0⟩, Bit.getErr (8 * b.length - q) (s - 257), q) := by unfold matchT; rw [if_pos h]
theorem Tok.matchB2 {y b : List UInt8} {s : Int} {q : Nat} (h : Bit.getErr (8 * b.length - q) (s - 257) = 0) (h2 : (getE y b (q + (s - 257).toNat)).2.1 ≠ 0) : matchT y b s q = (⟨0, 0, 0, 0⟩, (getE y b (q + (s - 257).toNat)).2.1, q) := by
  unfold matchT
  rw [if_neg (by rw [h]; simp), if_pos h2]
theorem Tok.matchC {y b : List UInt8} {s : Int} {q d qd : Nat} (h : Bit.getErr (8 * b.length - q) (s - 257) = 0) (h2 : getE y b (q + (s - 257).toNat) = ((d : Int), 0, qd)) (h3 : Bit.getErr (8 * b.length - qd) (d : Int) ≠ 0) : matchT y b s q = (⟨0, 0, 0, 0⟩, Bit.getErr (8 * b.length - qd) (d : Int), q) := by
  unfold matchT
  rw [if_neg (by rw [h]; simp), h2]
  dsimp only
  rw [if_neg (by simp), if_pos h3]
set_option maxHeartbeats 1000000 in
set_option maxRecDepth 100000 in
theorem tpiece_any {W : World} {base r gr c1 c2 lo1 hi1 lo2 hi2 q : Nat} {x y b : List UInt8} (hAt : RdAt W base r gr c1 c2 lo1 hi1 lo2 hi2 x y) (hR : Rdr W base gr b q) (hrx : right x = true) (hry : right y = true) (hx : x.length = 265) (hy : y.length = 12) :
    Calls Try.prog 61 #[.pointer (some ⟨r, 0, none⟩)] W (PieceRTo W base gr b (pieceR x y b q)) := by
  have hE1 := (extNew W (.cells #[.int .i64 0, .int .i64 0, .int .i64 0, .int .i64 0] 25)).alloc (.cells #[.int .i64 0, .int .i64 0, .int .i64 0, .int .i64 0] 25)
  have hgr := hR.lt
  have hrl := hAt.blk.lt
  have hfar := hAt.far
  have hS1 : PSt W ((W.alloc (.cells #[.int .i64 0, .int .i64 0, .int .i64 0, .int .i64 0] 25)).alloc (.cells #[.int .i64 0, .int .i64 0, .int .i64 0, .int .i64 0] 25)) base gr W.heap.size q b #[.int .i64 0, .int .i64 0, .int .i64 0, .int .i64 0] := by
    refine ⟨Mod.ofExt hE1, hR.ext hE1, ?_, (Whole.new W _ _).alloc _⟩
    have := Whole.new (W.alloc (.cells #[.int .i64 0, .int .i64 0, .int .i64 0, .int .i64 0] 25)) 25 #[.int .i64 0, .int .i64 0, .int .i64 0, .int .i64 0]
    rwa [World.size_alloc] at this
  have HAt := hide (fun w' (hM : Mod W w' gr none) => hAt.mod hM)
  have hA1 := hAt.mod (hS1.ext (Ext.refl _).drew).mod
  have CG := hufGet_any hA1.one hrx (hS1.ext (Ext.refl _).drew).rd
  have hb1 := hA1.blk
  have HOk := hide (fun h => getE_ok (l := x) (b := b) (q := q) hrx h)
  obtain ⟨fin, hfin⟩ : ∃ f, f = pieceR x y b q := ⟨_, rfl⟩
  rw [← hfin]
  unfold pieceR at hfin
  clear hAt hR hA1
  generalize getE x b q = res at *
  obtain ⟨r1, r2, r3⟩ := res
  dsimp only at CG hfin HOk
  have HBad := hide (show r2 ≠ 0 → fin = (⟨0, 0, 0, 0⟩, r2, q) from fun h => by rw [hfin, if_pos h])
  have HLow := hide (show r2 = 0 → r1 < 257 → fin = (⟨r1, 0, 0, 0⟩, 0, r3) from fun h h2 => by rw [hfin, if_neg (by rw [h]; simp), if_pos h2])
  have HHigh := hide (show r2 = 0 → 257 ≤ r1 → fin = matchT y b r1 r3 from fun h h2 => by rw [hfin, if_neg (by rw [h]; simp), if_neg (by omega)])
  clear hfin
  have hsz : ((W.alloc (.cells #[.int .i64 0, .int .i64 0, .int .i64 0, .int .i64 0] 25)).alloc (.cells #[.int .i64 0, .int .i64 0, .int .i64 0, .int .i64 0] 25)).heap.size = W.heap.size + 2 := by simp
  go_enter Try.func61, Try.ntmps61
  go_upto_region 3 with fail
  generalize (W.alloc (.cells #[.int .i64 0, .int .i64 0, .int .i64 0, .int .i64 0] 25)).alloc (.cells #[.int .i64 0, .int .i64 0, .int .i64 0, .int .i64 0] 25) = w1 at *
  obtain ⟨H4, hH4⟩ : ∃ H4, H4 = W.heap.size + 1 := ⟨_, rfl⟩
  rw [← hH4]
  refine wp_region_T (fun W => Whole W r 87 #[.pointer (some ⟨gr, 0, none⟩), .pointer (some ⟨c1, 0, none⟩), .pointer (some ⟨c2, 0, none⟩)]) 13 15 #[false, false, false, false, false, false, false, false, false, false, false, false, false, false, false] (by kernel_rfl) rfl rfl hb1 ?_
  intro hS0
  refine wpAnyT_take 0 (some 7) (.pointer (some ⟨r, 0, none⟩)) #[true, false, false, false, false, false, false, false, false, false, false, false, false, false, false] rfl rfl rfl (by kernel_rfl) (fun _ _ _ h => h) hS0 (by rfl) (fun W hX => by go_simp) ?_
  simp only [Act.put, List.setIfInBounds_toArray, List.set_cons_zero, List.set_cons_succ]
  refine wpAnyT_take 1 (some 8) (.pointer (some ⟨r, 0, none⟩)) #[true, true, false, false, false, false, false, false, false, false, false, false, false, false, false] rfl rfl rfl (by kernel_rfl) (fun _ _ _ h => h) hS0 (by rfl) (fun W hX => by go_simp) ?_
  simp only [Act.put, List.setIfInBounds_toArray, List.set_cons_zero, List.set_cons_succ]
  refine wpAnyT_take 2 (some 9) (.pointer (some ⟨r, 1, none⟩)) #[true, true, true, false, false, false, false, false, false, false, false, false, false, false, false] rfl rfl rfl (by kernel_rfl) (fun _ _ _ h => h) hS0 (by rfl) (fun W hX => by go_simp) ?_
  simp only [Act.put, List.setIfInBounds_toArray, List.set_cons_zero, List.set_cons_succ]
  refine wpAnyT_take 3 (some 10) (.pointer (some ⟨c1, 0, none⟩)) #[true, true, true, true, false, false, false, false, false, false, false, false, false, false, false] rfl rfl rfl (by kernel_rfl) (fun _ _ _ h => h) hS0 (by rfl) (fun W hX => by have s0 := hX.at 0 (u := .pointer (some ⟨gr, 0, none⟩)) rfl; have s1 := hX.at 1 (u := .pointer (some ⟨c1, 0, none⟩)) rfl; have s2 := hX.at 2 (u := .pointer (some ⟨c2, 0, none⟩)) rfl; go_simp) ?_
  simp only [Act.put, List.setIfInBounds_toArray, List.set_cons_zero, List.set_cons_succ]
  refine wpAnyT_take 4 (some 11) (.pointer (some ⟨r, 0, none⟩)) #[true, true, true, true, true, false, false, false, false, false, false, false, false, false, false] rfl rfl rfl (by kernel_rfl) (fun _ _ _ h => h) hS0 (by rfl) (fun W hX => by go_simp) ?_
  simp only [Act.put, List.setIfInBounds_toArray, List.set_cons_zero, List.set_cons_succ]
  refine wpAnyT_take 5 (some 12) (.pointer (some ⟨r, 0, none⟩)) #[true, true, true, true, true, true, false, false, false, false, false, false, false, false, false] rfl rfl rfl (by kernel_rfl) (fun _ _ _ h => h) hS0 (by rfl) (fun W hX => by go_simp) ?_
  simp only [Act.put, List.setIfInBounds_toArray, List.set_cons_zero, List.set_cons_succ]
  refine wpAnyT_take 6 (some 13) (.pointer (some ⟨r, 0, none⟩)) #[true, true, true, true, true, true, true, false, false, false, false, false, false, false, false] rfl rfl rfl (by kernel_rfl) (fun _ _ _ h => h) hS0 (by rfl) (fun W hX => by go_simp) ?_
  simp only [Act.put, List.setIfInBounds_toArray, List.set_cons_zero, List.set_cons_succ]
  refine wpAnyT_take 7 (some 14) (.pointer (some ⟨gr, 0, none⟩)) #[true, true, true, true, true, true, true, true, false, false, false, false, false, false, false] rfl rfl rfl (by kernel_rfl) (fun _ _ _ h => h) hS0 (by rfl) (fun W hX => by have s0 := hX.at 0 (u := .pointer (some ⟨gr, 0, none⟩)) rfl; have s1 := hX.at 1 (u := .pointer (some ⟨c1, 0, none⟩)) rfl; have s2 := hX.at 2 (u := .pointer (some ⟨c2, 0, none⟩)) rfl; go_simp) ?_
  simp only [Act.put, List.setIfInBounds_toArray, List.set_cons_zero, List.set_cons_succ]
  refine wpAnyT_only 8 #[true, true, true, true, true, true, true, true, true, false, false, false, false, false, false] (by kernel_rfl) rfl rfl (by rfl) (fun K0 hK0 => ?_)
  go_simp
  go_at_call 76
  refine (CG).mono ?_
  rintro e wg ⟨rfl, hRg, hMg⟩
  have hXg := hMg.whole hS0 hfar (by simp)
  refine hK0 _ _ (fun _ => hXg) ?_
  clear hK0 K0
  refine wpAnyT_take 9 (some 6) (.tuple #[.int .i64 r1, .int .i64 r2]) #[true, true, true, true, true, true, true, true, true, true, false, false, false, false, false] rfl rfl rfl (by kernel_rfl) (fun _ _ _ h => h) hXg (by rfl) (fun W hX => by go_simp) ?_
  simp only [Act.put, List.setIfInBounds_toArray, List.set_cons_zero, List.set_cons_succ]
  refine wpAnyT_take 10 (some 16) (.int .i64 r1) #[true, true, true, true, true, true, true, true, true, true, true, false, false, false, false] rfl rfl rfl (by kernel_rfl) (fun _ _ _ h => h) hXg (by rfl) (fun W hX => by go_simp) ?_
  simp only [Act.put, List.setIfInBounds_toArray, List.set_cons_zero, List.set_cons_succ]
  refine wpAnyT_pure 11 (some 17) (.int .i64 r2) #[true, true, true, true, true, true, true, true, true, true, true, true, false, false, false] rfl rfl rfl (by kernel_rfl) (fun _ _ _ h => h) (fun _ => hXg) (by rfl) (fun W => by go_simp) ?_
  simp only [Act.put, List.setIfInBounds_toArray, List.set_cons_zero, List.set_cons_succ]
  refine wpAnyT_take 12 (some 18) (.pointer (some ⟨H4, 0, none⟩)) #[true, true, true, true, true, true, true, true, true, true, true, true, true, false, false] rfl rfl rfl (by kernel_rfl) (fun _ _ _ h => h) hXg (by rfl) (fun W hX => by go_simp) ?_
  simp only [Act.put, List.setIfInBounds_toArray, List.set_cons_zero, List.set_cons_succ]
  have hSg := (hS1.ext (Ext.refl _).drew).get hgr hMg hRg
  subst hH4
  refine wpAnyT_only 13 #[true, true, true, true, true, true, true, true, true, true, true, true, true, true, false] (by kernel_rfl) rfl rfl (by rfl) (fun K1 hK1 => ?_)
  refine wpOper_storeC 3 (.tmp 18) (.tmp 16) rfl rfl rfl hSg.pc (by simp) (by kernel_rfl) rfl rfl ?_
  refine hK1 _ _ (fun h => absurd h (by decide)) ?_
  clear hK1 K1
  simp only [Act.put]
  refine wpAnyT_only 14 #[true, true, true, true, true, true, true, true, true, true, true, true, true, true, true] (by kernel_rfl) rfl rfl (by rfl) (fun K2 hK2 => ?_)
  go_simp
  refine hK2 _ _ (fun h => absurd h (by decide)) (wpAnyT_done (by kernel_rfl) ?_ _)
  clear hK2 K2
  have hS2 : PSt W (wg.setCell ⟨W.heap.size + 1, 0, none⟩ (.int .i64 r1)) base gr W.heap.size r3 b #[.int .i64 r1, .int .i64 0, .int .i64 0, .int .i64 0] := hSg.store hgr 0 (.int .i64 r1)
  clear hS1 CG hE1 hb1 hSg hRg hMg hXg hS0 hsz
  generalize wg.setCell ⟨W.heap.size + 1, 0, none⟩ (.int .i64 r1) = w2 at *
  have HH := hide hgr
  by_cases hbad : r2 = 0
  case neg =>
    have hb : (r2 != 0) = true := by rw [bne_iff_ne]; exact hbad
    have h1' := hide hbad
    have HS2 := hide hS2
    have hO2 := hS2.out
    clear hbad HOk hS2
    go_wp2_with (refine wpList_storeW rfl 25 (.tmp 2) (.tmp 21) rfl rfl rfl hO2 rfl pc_info (pc_one ..) ?_; intro w9 hW9 hG9 _)
    refine bodyPost_ret (results_row2 rfl _ rfl rfl (run_loadVar_row _ _ _ _ _ _ _ hW9 Try.underlying25 rfl pc_info)) rfl ?_
    obtain ⟨d1, d2⟩ := HS2.out.done HH.out hG9
    rw [HBad.out h1'.out]
    exact ⟨rfl, ⟨r3, d2, fun h => absurd h h1'.out⟩, d1⟩
  subst hbad
  obtain ⟨s, hs, hse, hl0, hlb⟩ := HOk.out rfl
  simp only [Prod.mk.injEq] at hse
  obtain ⟨rfl, -, rfl⟩ := hse
  generalize q + lenAt x s = q3 at *
  have CI := fun W => isMatch_any ⟨(s : Int), 0, 0, 0⟩ W
  unfold pcV at CI
  dsimp only at CI
  clear HOk HBad hl0
  by_cases hlow : s < 257
  · have HN := hide (HLow.out rfl (by omega))
    rw [decide_eq_false (show ¬ 257 ≤ (s : Int) by omega)] at CI
    have hP2 := hS2.pc
    have HS2 := hide hS2
    clear HLow HHigh hlow hs hS2
    go_wp2_with (refine wpList_load_row rfl 25 (.tmp 4) rfl _ rfl _ _ _ _ hP2 Try.underlying25 rfl pc_info ?_)
    refine (CI _).mono ?_
    rintro e w3 ⟨rfl, hE3⟩
    have hS3 := HS2.out.ext hE3
    have hP3 := hS3.pc
    have hO3 := hS3.out
    have HS3 := hide hS3
    clear CI hP2 hS3 HS2
    go_wp2_with (first
      | (refine wpList_load_row rfl 25 (.tmp 4) rfl _ rfl _ _ _ _ hP3 Try.underlying25 rfl pc_info ?_)
      | (refine wpList_storeW rfl 25 (.tmp 2) (.tmp 26) rfl rfl rfl hO3 rfl pc_info (pc_one ..) ?_; intro w9 hW9 hG9 _))
    refine bodyPost_ret (results_row2 rfl _ rfl rfl (run_loadVar_row _ _ _ _ _ _ _ hW9 Try.underlying25 rfl pc_info)) rfl ?_
    obtain ⟨d1, d2⟩ := HS3.out.done HH.out hG9
    rw [HN.out]
    exact ⟨rfl, ⟨q3, d2, fun _ => rfl⟩, d1⟩
  obtain ⟨k, hk⟩ : ∃ k : Nat, s = 257 + k := ⟨s - 257, by omega⟩
  have hk7 : k ≤ 7 := by omega
  have HMt := hide (HHigh.out rfl (by omega))
  rw [decide_eq_true (show 257 ≤ (s : Int) by omega)] at CI
  have CL := fun W => lenBits_any ⟨(s : Int), 0, 0, 0⟩ W (by dsimp only; omega) (by dsimp only; omega)
  unfold pcV at CL
  dsimp only at CL
  have hsk : (s : Int) - 257 = (k : Int) := by omega
  have hskn : ((s : Int) - 257).toNat = k := by omega
  rw [hsk] at CL
  have MA := hide (show Bit.getErr (8 * b.length - q3) (k : Int) ≠ 0 → fin = (⟨0, 0, 0, 0⟩, Bit.getErr (8 * b.length - q3) (k : Int), q3) from fun h => by
    rw [HMt.out, matchA (by rw [hsk]; exact h), hsk])
  have MB := hide (show Bit.getErr (8 * b.length - q3) (k : Int) = 0 → (getE y b (q3 + k)).2.1 ≠ 0 → fin = (⟨0, 0, 0, 0⟩, (getE y b (q3 + k)).2.1, q3) from fun h h2 => by
    rw [HMt.out, matchB2 (by rw [hsk]; exact h) (by rw [hskn]; exact h2), hskn])
  have MC := hide (show ∀ d qd : Nat, Bit.getErr (8 * b.length - q3) (k : Int) = 0 → getE y b (q3 + k) = ((d : Int), 0, qd) → Bit.getErr (8 * b.length - qd) (d : Int) ≠ 0 → fin = (⟨0, 0, 0, 0⟩, Bit.getErr (8 * b.length - qd) (d : Int), q3) from fun d qd h h2 h3 => by
    rw [HMt.out, matchC (by rw [hsk]; exact h) (by rw [hskn]; exact h2) h3])
  have MD := hide (show ∀ d qd : Nat, Bit.getErr (8 * b.length - q3) (k : Int) = 0 → getE y b (q3 + k) = ((d : Int), 0, qd) → Bit.getErr (8 * b.length - qd) (d : Int) = 0 → fin = (⟨s, (Bit.getNum b q3 (k : Int) : Nat), d, (Bit.getNum b qd (d : Int) : Nat)⟩, 0, qd + d) from fun d qd h h2 h3 => by
    rw [HMt.out, match4 (by rw [hsk]; exact h) (by rw [hskn]; exact h2) h3, hsk])
  have hP2 := hS2.pc
  have HS2 := hide hS2
  have hs9 : (s : Int) ≤ 264 := by omega
  have HX1 := hide (getNum_lt b q3 k)
  clear HLow HHigh HMt hsk hskn hlow hs hS2 hk
  generalize (s : Int) = sy at *
  go_wp2_with (refine wpList_load_row rfl 25 (.tmp 4) rfl _ rfl _ _ _ _ hP2 Try.underlying25 rfl pc_info ?_)
  refine (CI _).mono ?_
  rintro e w3 ⟨rfl, hE3⟩
  have hS3 := HS2.out.ext hE3
  have hP3 := hS3.pc
  have HS3 := hide hS3
  clear CI hP2 hS3 HS2
  go_wp2_with (refine wpList_load_row rfl 25 (.tmp 4) rfl _ rfl _ _ _ _ hP3 Try.underlying25 rfl pc_info ?_)
  refine (CL _).mono ?_
  rintro e w4 ⟨rfl, hE4⟩
  have hS4 := HS3.out.ext hE4
  have CN := number_any' (HAt.out w4 hS4.mod).blk hS4.rd k (by omega)
  have HS4 := hide hS4
  clear CL hP3 hS4 HS3
  go_wp2_with fail
  refine CN.mono ?_
  rintro e w5 ⟨rfl, hR5, hM5⟩
  have hS5 := HS4.out.get HH.out hM5 hR5
  have p1 := hS5.pc.at 1 (u := .int .i64 0) rfl
  have f1 := hS5.pc.frozen 1
  obtain ⟨x1, hx1⟩ : ∃ x1, x1 = Bit.getNum b q3 (k : Int) := ⟨_, rfl⟩
  have HXe := hide hx1
  rw [← hx1] at HX1 ⊢
  have hS6 : PSt W (w5.setCell ⟨W.heap.size + 1, 1, none⟩ (.int .i64 (x1 : Int))) base gr W.heap.size _ b #[.int .i64 sy, .int .i64 (x1 : Int), .int .i64 0, .int .i64 0] := hS5.store HH.out 1 (.int .i64 (x1 : Int))
  have HS6 := hide hS6
  have hO6 := hS6.out
  clear CN hS5 hR5 hM5 HS4 hx1 hS6
  by_cases hE3 : Bit.getErr (8 * b.length - q3) (k : Int) = 0
  case neg =>
    have HN := hide (MA.out hE3)
    have h3' := hide hE3
    clear MA MB MC MD HX1
    generalize Bit.getErr (8 * b.length - q3) (k : Int) = E3 at *
    have hb : (E3 != 0) = true := by rw [bne_iff_ne]; exact hE3
    clear hE3
    go_wp2_with (refine wpList_storeW rfl 25 (.tmp 2) (.tmp 37) rfl rfl rfl hO6 rfl pc_info (pc_one ..) ?_; intro w9 hW9 hG9 _)
    refine bodyPost_ret (results_row2 rfl _ rfl rfl (run_loadVar_row _ _ _ _ _ _ _ hW9 Try.underlying25 rfl pc_info)) rfl ?_
    obtain ⟨d1, d2⟩ := HS6.out.done HH.out hG9
    rw [HN.out]
    exact ⟨rfl, ⟨_, d2, fun h => absurd h h3'.out⟩, d1⟩
  rw [get_to hE3, Int.toNat_natCast] at HS6
  have HE3 := hide hE3
  rw [hE3]
  clear hE3 MA hO6
  go_upto_region 11 with fail
  generalize w5.setCell ⟨W.heap.size + 1, 1, none⟩ (.int .i64 (x1 : Int)) = w6 at *
  have hS6 := HS6.out
  have hA6 := HAt.out _ (hS6.ext (Ext.refl _).drew).mod
  have CG := hufGet_any hA6.two hry (hS6.ext (Ext.refl _).drew).rd
  have hb6 := hA6.blk
  have HOk := hide (fun h => getE_ok (l := y) (b := b) (q := q3 + k) hry h)
  obtain ⟨res, hres⟩ : ∃ res, res = getE y b (q3 + k) := ⟨_, rfl⟩
  rw [← hres] at CG
  have MB2 := hide (fun (h : res.2.1 ≠ 0) => MB.out HE3.out (by rw [← hres]; exact h))
  rw [← hres] at MB2 HOk
  have HRes := hide hres
  obtain ⟨r1, r2, r3⟩ := res
  dsimp only at CG MB2 HOk HRes
  clear MB hA6 hres p1 f1
  obtain ⟨H4, hH4⟩ : ∃ H4, H4 = W.heap.size + 1 := ⟨_, rfl⟩
  rw [← hH4]
  refine wp_region_T (fun W => Whole W r 87 #[.pointer (some ⟨gr, 0, none⟩), .pointer (some ⟨c1, 0, none⟩), .pointer (some ⟨c2, 0, none⟩)]) 13 15 #[false, false, false, false, false, false, false, false, false, false, false, false, false, false, false] (by kernel_rfl) rfl rfl hb6 ?_
  intro hS0
  refine wpAnyT_take 0 (some 40) (.pointer (some ⟨r, 0, none⟩)) #[true, false, false, false, false, false, false, false, false, false, false, false, false, false, false] rfl rfl rfl (by kernel_rfl) (fun _ _ _ h => h) hS0 (by rfl) (fun W hX => by go_simp) ?_
  simp only [Act.put, List.setIfInBounds_toArray, List.set_cons_zero, List.set_cons_succ]
  refine wpAnyT_take 1 (some 41) (.pointer (some ⟨r, 0, none⟩)) #[true, true, false, false, false, false, false, false, false, false, false, false, false, false, false] rfl rfl rfl (by kernel_rfl) (fun _ _ _ h => h) hS0 (by rfl) (fun W hX => by go_simp) ?_
  simp only [Act.put, List.setIfInBounds_toArray, List.set_cons_zero, List.set_cons_succ]
  refine wpAnyT_take 2 (some 42) (.pointer (some ⟨r, 2, none⟩)) #[true, true, true, false, false, false, false, false, false, false, false, false, false, false, false] rfl rfl rfl (by kernel_rfl) (fun _ _ _ h => h) hS0 (by rfl) (fun W hX => by go_simp) ?_
  simp only [Act.put, List.setIfInBounds_toArray, List.set_cons_zero, List.set_cons_succ]
  refine wpAnyT_take 3 (some 43) (.pointer (some ⟨c2, 0, none⟩)) #[true, true, true, true, false, false, false, false, false, false, false, false, false, false, false] rfl rfl rfl (by kernel_rfl) (fun _ _ _ h => h) hS0 (by rfl) (fun W hX => by have s0 := hX.at 0 (u := .pointer (some ⟨gr, 0, none⟩)) rfl; have s1 := hX.at 1 (u := .pointer (some ⟨c1, 0, none⟩)) rfl; have s2 := hX.at 2 (u := .pointer (some ⟨c2, 0, none⟩)) rfl; go_simp) ?_
  simp only [Act.put, List.setIfInBounds_toArray, List.set_cons_zero, List.set_cons_succ]
  refine wpAnyT_take 4 (some 44) (.pointer (some ⟨r, 0, none⟩)) #[true, true, true, true, true, false, false, false, false, false, false, false, false, false, false] rfl rfl rfl (by kernel_rfl) (fun _ _ _ h => h) hS0 (by rfl) (fun W hX => by go_simp) ?_
  simp only [Act.put, List.setIfInBounds_toArray, List.set_cons_zero, List.set_cons_succ]
  refine wpAnyT_take 5 (some 45) (.pointer (some ⟨r, 0, none⟩)) #[true, true, true, true, true, true, false, false, false, false, false, false, false, false, false] rfl rfl rfl (by kernel_rfl) (fun _ _ _ h => h) hS0 (by rfl) (fun W hX => by go_simp) ?_
  simp only [Act.put, List.setIfInBounds_toArray, List.set_cons_zero, List.set_cons_succ]
  refine wpAnyT_take 6 (some 46) (.pointer (some ⟨r, 0, none⟩)) #[true, true, true, true, true, true, true, false, false, false, false, false, false, false, false] rfl rfl rfl (by kernel_rfl) (fun _ _ _ h => h) hS0 (by rfl) (fun W hX => by go_simp) ?_
  simp only [Act.put, List.setIfInBounds_toArray, List.set_cons_zero, List.set_cons_succ]
  refine wpAnyT_take 7 (some 47) (.pointer (some ⟨gr, 0, none⟩)) #[true, true, true, true, true, true, true, true, false, false, false, false, false, false, false] rfl rfl rfl (by kernel_rfl) (fun _ _ _ h => h) hS0 (by rfl) (fun W hX => by have s0 := hX.at 0 (u := .pointer (some ⟨gr, 0, none⟩)) rfl; have s1 := hX.at 1 (u := .pointer (some ⟨c1, 0, none⟩)) rfl; have s2 := hX.at 2 (u := .pointer (some ⟨c2, 0, none⟩)) rfl; go_simp) ?_
  simp only [Act.put, List.setIfInBounds_toArray, List.set_cons_zero, List.set_cons_succ]
  refine wpAnyT_only 8 #[true, true, true, true, true, true, true, true, true, false, false, false, false, false, false] (by kernel_rfl) rfl rfl (by rfl) (fun K0 hK0 => ?_)
  go_simp
  go_at_call 76
  refine (CG).mono ?_
  rintro e wh ⟨rfl, hRg, hMg⟩
  have hXg := hMg.whole hS0 hfar (by simp)
  refine hK0 _ _ (fun _ => hXg) ?_
  clear hK0 K0
  refine wpAnyT_take 9 (some 39) (.tuple #[.int .i64 r1, .int .i64 r2]) #[true, true, true, true, true, true, true, true, true, true, false, false, false, false, false] rfl rfl rfl (by kernel_rfl) (fun _ _ _ h => h) hXg (by rfl) (fun W hX => by go_simp) ?_
  simp only [Act.put, List.setIfInBounds_toArray, List.set_cons_zero, List.set_cons_succ]
  refine wpAnyT_take 10 (some 49) (.int .i64 r1) #[true, true, true, true, true, true, true, true, true, true, true, false, false, false, false] rfl rfl rfl (by kernel_rfl) (fun _ _ _ h => h) hXg (by rfl) (fun W hX => by go_simp) ?_
  simp only [Act.put, List.setIfInBounds_toArray, List.set_cons_zero, List.set_cons_succ]
  refine wpAnyT_pure 11 (some 50) (.int .i64 r2) #[true, true, true, true, true, true, true, true, true, true, true, true, false, false, false] rfl rfl rfl (by kernel_rfl) (fun _ _ _ h => h) (fun _ => hXg) (by rfl) (fun W => by go_simp) ?_
  simp only [Act.put, List.setIfInBounds_toArray, List.set_cons_zero, List.set_cons_succ]
  refine wpAnyT_take 12 (some 51) (.pointer (some ⟨H4, 2, none⟩)) #[true, true, true, true, true, true, true, true, true, true, true, true, true, false, false] rfl rfl rfl (by kernel_rfl) (fun _ _ _ h => h) hXg (by rfl) (fun W hX => by go_simp) ?_
  simp only [Act.put, List.setIfInBounds_toArray, List.set_cons_zero, List.set_cons_succ]
  have hSg := (hS6.ext (Ext.refl _).drew).get HH.out hMg hRg
  subst hH4
  refine wpAnyT_only 13 #[true, true, true, true, true, true, true, true, true, true, true, true, true, true, false] (by kernel_rfl) rfl rfl (by rfl) (fun K1 hK1 => ?_)
  refine wpOper_storeC 3 (.tmp 51) (.tmp 49) rfl rfl rfl hSg.pc (by simp) (by kernel_rfl) rfl rfl ?_
  refine hK1 _ _ (fun h => absurd h (by decide)) ?_
  clear hK1 K1
  simp only [Act.put]
  refine wpAnyT_only 14 #[true, true, true, true, true, true, true, true, true, true, true, true, true, true, true] (by kernel_rfl) rfl rfl (by rfl) (fun K2 hK2 => ?_)
  go_simp
  refine hK2 _ _ (fun h => absurd h (by decide)) (wpAnyT_done (by kernel_rfl) ?_ _)
  clear hK2 K2
  have hS7 : PSt W (wh.setCell ⟨W.heap.size + 1, 2, none⟩ (.int .i64 r1)) base gr W.heap.size r3 b #[.int .i64 sy, .int .i64 (x1 : Int), .int .i64 r1, .int .i64 0] := hSg.store HH.out 2 (.int .i64 r1)
  clear CG hb6 hSg hRg hMg hXg hS0 hS6 HS6
  generalize wh.setCell ⟨W.heap.size + 1, 2, none⟩ (.int .i64 r1) = w7 at *
  by_cases hbad : r2 = 0
  case neg =>
    have hb : (r2 != 0) = true := by rw [bne_iff_ne]; exact hbad
    have h1' := hide hbad
    have HN := hide (MB2.out hbad)
    have HS7 := hide hS7
    have hO7 := hS7.out
    clear hbad HOk hS7 MB2 MC MD HRes
    go_wp2_with (refine wpList_storeW rfl 25 (.tmp 2) (.tmp 54) rfl rfl rfl hO7 rfl pc_info (pc_one ..) ?_; intro w9 hW9 hG9 _)
    refine bodyPost_ret (results_row2 rfl _ rfl rfl (run_loadVar_row _ _ _ _ _ _ _ hW9 Try.underlying25 rfl pc_info)) rfl ?_
    obtain ⟨d1, d2⟩ := HS7.out.done HH.out hG9
    rw [HN.out]
    exact ⟨rfl, ⟨r3, d2, fun h => absurd h h1'.out⟩, d1⟩
  subst hbad
  obtain ⟨d, hd, hde, _, hdb⟩ := HOk.out rfl
  simp only [Prod.mk.injEq] at hde
  obtain ⟨rfl, -, hqd⟩ := hde
  have hd11 : d ≤ 11 := by omega
  have MC2 := hide (fun h => MC.out d r3 HE3.out HRes.out.symm h)
  have MD2 := hide (fun h => MD.out d r3 HE3.out HRes.out.symm h)
  have CN := number_any' (HAt.out w7 hS7.mod).blk hS7.rd d hd11
  have q2 := hS7.pc.at 2 (u := .int .i64 (d : Int)) rfl
  have HS7 := hide hS7
  clear HOk hqd hdb hd MC MD MB2 HRes HE3 hS7
  go_wp2_with fail
  refine CN.mono ?_
  rintro e w8 ⟨rfl, hR8, hM8⟩
  have hS8 := HS7.out.get HH.out hM8 hR8
  have p3 := hS8.pc.at 3 (u := .int .i64 0) rfl
  have f3 := hS8.pc.frozen 3
  have hS9 : PSt W (w8.setCell ⟨W.heap.size + 1, 3, none⟩ (.int .i64 ((Bit.getNum b r3 (d : Int) : Nat) : Int))) base gr W.heap.size _ b #[.int .i64 sy, .int .i64 (x1 : Int), .int .i64 (d : Int), .int .i64 ((Bit.getNum b r3 (d : Int) : Nat) : Int)] := hS8.store HH.out 3 (.int .i64 ((Bit.getNum b r3 (d : Int) : Nat) : Int))
  rw [← HXe.out] at MD2
  generalize Bit.getNum b r3 (d : Int) = y1 at *
  have HS9 := hide hS9
  have hO9 := hS9.out
  have hP9 := hS9.pc
  clear CN hS8 hR8 hM8 HS7 q2 hS9
  by_cases hE5 : Bit.getErr (8 * b.length - r3) (d : Int) = 0
  case neg =>
    have HN := hide (MC2.out hE5)
    have h3' := hide hE5
    clear MC2 MD2 hP9
    generalize Bit.getErr (8 * b.length - r3) (d : Int) = E5 at *
    have hb : (E5 != 0) = true := by rw [bne_iff_ne]; exact hE5
    clear hE5
    go_wp2_with (refine wpList_storeW rfl 25 (.tmp 2) (.tmp 66) rfl rfl rfl hO9 rfl pc_info (pc_one ..) ?_; intro w9 hW9 hG9 _)
    refine bodyPost_ret (results_row2 rfl _ rfl rfl (run_loadVar_row _ _ _ _ _ _ _ hW9 Try.underlying25 rfl pc_info)) rfl ?_
    obtain ⟨d1, d2⟩ := HS9.out.done HH.out hG9
    rw [HN.out]
    exact ⟨rfl, ⟨_, d2, fun h => absurd h h3'.out⟩, d1⟩
  rw [get_to hE5, Int.toNat_natCast] at HS9
  have HN := hide (MD2.out hE5)
  rw [hE5]
  clear hE5 MC2 MD2
  go_wp2_with (first
    | (refine wpList_load_row rfl 25 (.tmp 4) rfl _ rfl _ _ _ _ hP9 Try.underlying25 rfl pc_info ?_)
    | (refine wpList_storeW rfl 25 (.tmp 2) (.tmp 68) rfl rfl rfl hO9 rfl pc_info (pc_one ..) ?_; intro w9 hW9 hG9 _))
  refine bodyPost_ret (results_row2 rfl _ rfl rfl (run_loadVar_row _ _ _ _ _ _ _ hW9 Try.underlying25 rfl pc_info)) rfl ?_
  obtain ⟨d1, d2⟩ := HS9.out.done HH.out hG9
  rw [HN.out]
  exact ⟨rfl, ⟨_, d2, fun _ => rfl⟩, d1⟩
end Go.Proofs.Ytaohdnhfodkeoaa

namespace Go.Proofs.Ytaohdnhfodkeoaa
open Go.RowKit Lz Tok Len Can Huf
set_option maxHeartbeats 1000000 in
theorem tend_any (w : World) : Calls Try.prog 33 #[] w fun e w' => e = .returned (pcV ⟨256, 0, 0, 0⟩) ∧ Ext w w' := by
  have hP := Whole.new w 25 #[.int .i64 0, .int .i64 0, .int .i64 0, .int .i64 0]
  have hE := extNew w (.cells #[.int .i64 0, .int .i64 0, .int .i64 0, .int .i64 0] 25)
  go_enter Try.func33, Try.ntmps33
  go_wp2_with (refine wpList_storeW rfl 25 (.tmp 0) (.tmp 1) rfl rfl rfl hP rfl pc_info (pc_one ..) ?_; intro w5 hW5 hG5 _)
  refine bodyPost_ret (results_cell_row rfl _ _ _ _ _ _ _ rfl hW5 Try.underlying25 rfl pc_info) rfl ?_
  exact ⟨rfl, Below.grown hE hG5 hE.le (fun k hk => by cases hk; omega)⟩
set_option maxHeartbeats 2000000 in
set_option maxRecDepth 100000 in
theorem twrite_any (A : Option Addr) (n c : Nat) (L : List TokV) (w : World) (hn : n ≤ 100000) (hT : ToksAt w w.heap.size A n L) : Calls Try.prog 17 #[.slice A n c] w (PackTo w (writeE L)) := by
  have C1 := tcount_any A n c L w hn hT
  have hl := hT.1
  subst hl
  by_cases h32 : 32768 < L.length
  · have HN := hide (show writeE L = ([], 6) from if_pos h32)
    generalize writeE L = res at *
    have hI : (32768 : Int) < (L.length : Int) := by omega
    clear h32 hT C1
    go_enter Try.func17, Try.ntmps17
    go_wp2
    go_ret2
    rw [HN.out]
    exact ⟨_, [], rfl, OwnB.nil _ _, fun h => absurd h (by simp), fun _ => rfl, Ext.refl _⟩
  have hI : ¬ (32768 : Int) < (L.length : Int) := by omega
  cases hall : L.all may with
  | false =>
    have HN := hide (show writeE L = ([], 7) by unfold writeE; rw [if_neg h32, hall]; rfl)
    have HA := hide hall
    generalize writeE L = res at *
    clear h32 hT hall
    go_enter Try.func17, Try.ntmps17
    go_wp2_with fail
    refine C1.mono ?_
    rintro e w1 ⟨hE1, hC⟩
    rw [HA.out, if_neg (by simp)] at hC
    subst hC
    clear C1
    go_wp2
    go_ret2
    rw [HN.out]
    exact ⟨_, [], rfl, OwnB.nil _ _, fun h => absurd h (by simp), fun _ => rfl, hE1⟩
  | true =>
    have HN := hide (show writeE L = (writeB L, 0) by unfold writeE; rw [if_neg h32, if_pos hall])
    have HA := hide hall
    generalize writeE L = res at *
    have HT := hide hT
    clear h32 hT hall
    go_enter Try.func17, Try.ntmps17
    go_wp2_with fail
    refine C1.mono ?_
    rintro e w1 ⟨hE1, hC⟩
    rw [if_pos HA.out] at hC
    obtain ⟨g1, g2, hne, rfl, hO1, hO2⟩ := hC
    have hU1 := hO1.at (by rw [countsS_len]) (fun q => by have := countsS_lt L q; omega)
    have hU2 := hO2.at (by rw [countsF_len]) (fun q => by have := cntF_le L q; omega)
    have C2 := writerOf_any w1 (countsS L) (countsF L) (some ⟨g1, 0, none⟩) (some ⟨g2, 0, none⟩) (countsS_len L) (countsF_len L) hU1 hU2
    change Calls _ _ _ _ (WriterTo _ (bestS L) (bestF L)) at C2
    clear C1 hO1 hO2 hU1 hU2
    go_wp2_with fail
    refine C2.mono ?_
    rintro e w8 ⟨g, c1, c2, lo1, hi1, lo2, hi2, ob8, rfl, hW8, hC8, hD8, hg1, hg2, ho1, ho2, hE2⟩
    have hE8 := hE1.trans hE2
    have hle1 := hE1.le
    have hWl1 := wbits_len (bestS L)
    have hWl2 := wbits_len (bestF L)
    rw [bestS_len] at hWl1
    rw [bestF_len] at hWl2
    have hgb := hW8.le
    have hobb := fun k hk => (hW8.ob k hk).1
    have hhi1 := hC8.2.2.1
    have hhi2 := hD8.2.2.1
    have HAll := hide (show ∀ W, Mod w8 W g ob8 → CodR W lo1 hi1 c1 (bestS L) ∧ CodR W lo2 hi2 c2 (bestF L) ∧ Ext w W from fun W hM =>
      ⟨CodR.keeps.mod hC8 hM (.inl hg1) ho1, CodR.keeps.mod hD8 hM (.inl hg2) ho2, Below.trans hE8 (hM.below (B := w.heap.size) hE8.le (Nat.le_trans hle1 hgb) (fun k hk => Nat.le_trans hle1 (hobb k hk)))⟩)
    have HO2 := hide (show ∀ (W : World) (ob : Option Nat), w8.heap.size ≤ W.heap.size → NewOb w8 ob8 ob → ∀ k, ob = some k → k < lo2 ∨ hi2 ≤ k from fun W ob hs hN k hk => by
      rcases hN with e | ⟨n, e, hn⟩
      · exact ho2 k (e ▸ hk)
      · rw [hk] at e
        cases e
        exact .inr (by omega))
    have HW8 := hide hW8
    clear C2 hC8 hD8 ho1 ho2 hE2 hE8 hW8 hE1 hobb
    go_wp2_with fail
    go_loopw [29] (fun x wr => ∃ (i : Nat) (ob : Option Nat), i ≤ L.length ∧ x = .int .i64 (i : Int) ∧ WrtX 66 [.pointer (some ⟨c1, 0, none⟩), .pointer (some ⟨c2, 0, none⟩)] wr w1.heap.size g ob (wbits (bestS L) ++ wbits (bestF L) ++ bodyB (bestS L) (bestF L) (L.take i)) ∧ NewOb w8 ob8 ob ∧ Mod w8 wr g ob8 ∧ (bodyB (bestS L) (bestF L) (L.take i)).length ≤ 48 * i) (fun x _ => L.length - (intOf x).toNat)
    case atStart => exact ⟨0, ob8, by omega, rfl, by simpa [bodyB] using HW8.out, .inl rfl, Mod.refl _ _ _, by simp [bodyB]⟩
    case round =>
      clear HW8
      obtain ⟨i, ob, hi, rfl, hR, hN, hM, hlen⟩ := hrel
      by_cases hlt : i < L.length
      · have hiI : (i : Int) < (L.length : Int) := by omega
        obtain ⟨hCr, hDr, hEw⟩ := HAll.out wr hM
        have hoo := HO2.out wr ob hM.size hN
        have hMem : L.getD i default ∈ L := by
          rw [List.getD_eq_getElem?_getD, List.getElem?_eq_getElem hlt]
          exact List.getElem_mem hlt
        have hmay := List.all_eq_true.1 HA.out _ hMem
        have hfS := sym_fine hMem hmay
        have hfF := dist_fine hMem hmay
        have HBn := hide (bodyB_next (bestS L) (bestF L) hlt)
        have CM := fun W => tsplit_any (L.getD i default) W
        unfold tokV at CM
        have hToks := HT.out.below hEw (Nat.le_refl _)
        rcases hToks.2 with h0 | ⟨b1, o1, rfl, hb1, hc⟩
        · omega
        obtain ⟨hAt, hOk⟩ := hc i hlt
        obtain ⟨e0, e1, e2⟩ := hAt.cells
        clear hc hToks hAt hMem
        obtain ⟨t, ht⟩ : ∃ t, t = L.getD i default := ⟨_, rfl⟩
        rw [← ht] at e0 e1 e2 hOk CM hmay hfS hfF HBn
        clear ht
        obtain ⟨P, hP⟩ : ∃ P, P = wbits (bestS L) ++ wbits (bestF L) ++ bodyB (bestS L) (bestF L) (L.take i) := ⟨_, rfl⟩
        have hPl : P.length ≤ 2770 + 48 * i := by rw [hP]; simp only [List.length_append]; omega
        rw [← hP] at hR
        have HP := hide hP
        have HN2 := hide hN
        have HM2 := hide hM
        have HRr := hide hR
        have HEw := hide hEw
        have hET := extNew wr (.cells #[.int .u8 (t.lit.toNat : Int), .int .i64 t.len, .int .i64 t.dist] 23)
        have hWT := Whole.new wr 23 #[.int .u8 (t.lit.toNat : Int), .int .i64 t.len, .int .i64 t.dist]
        clear hP hN hM hR hEw
        by_cases h0 : t.len = 0
        · have hsp := split_lit hmay h0
          have HBt := hide (tokB_lit (y := bestF L) hfS h0)
          rw [hsp] at CM HBt
          dsimp only at HBt
          unfold SplitTo at CM
          dsimp only at CM
          have h8 := UInt8.toNat_lt t.lit
          have hxl := putX_le (l := bestS L) (t.lit.toNat : Int) (bestS_right L)
          clear hsp hfS hfF hmay h0 hOk
          generalize tokB (bestS L) (bestF L) t = T at *
          generalize t.lit.toNat = y at *
          generalize t.dist = td at *
          generalize t.len = tl at *
          go_wp2_with (refine wpList_load_row rfl 23 (.tmp 9) rfl _ rfl _ _ _ _ hWT Try.underlying23 rfl tk_info ?_)
          refine (CM _).mono ?_
          rintro e wa ⟨rfl, hEs⟩
          have hEp := (hET.trans hEs).trans (extNew wa (.cells #[.int .i64 (y : Int), .int .i64 0, .int .i64 0, .int .i64 0] 25))
          have hWP := Whole.new wa 25 #[.int .i64 (y : Int), .int .i64 0, .int .i64 0, .int .i64 0]
          have CP := putPiece_lit (HRr.out.ext hEp) (hCr.ext' hEp) (bestS_right L) (y : Int) 0 0 0 (by omega) (by omega)
          have HMp := hide (HM2.out.trans (Mod.ofExt (ob := ob) hEp) HN2.out)
          have HMe := hide (Mod.ofExt (g := g) (ob := ob) hEp)
          have hsp := hEp.le
          unfold pcV at CP
          dsimp only at CP
          clear CM e0 e1 e2 hCr hDr hEs hWT hET hEp
          unfold pcV
          dsimp only
          go_wp2_with (refine wpList_load_row rfl 25 (.tmp 10) rfl _ rfl _ _ _ _ hWP Try.underlying25 rfl pc_info ?_)
          refine CP.mono ?_
          rintro e wc ⟨rfl, obc, hRc, hNc, hMc⟩
          have HMw := hide (HMp.out.trans hMc HN2.out)
          have HNw := hide (HN2.out.trans HMp.out.size hNc)
          have HRc := hide hRc
          clear CP hRc hNc hMc hWP
          go_wp2
          go_roundw
          case rel => exact ⟨i + 1, obc, by omega, by go_num, (by rw [HBn.out, HBt.out, ← List.append_assoc, ← HP.out]; exact HRc.out), HNw.out, HMw.out, by rw [HBn.out, HBt.out, List.length_append]; omega⟩
          case measure => simp [intOf]; omega
        · obtain ⟨k, x, cn, y, hk, hx, hcn, hy, -, -, e3⟩ := split_match hmay h0
          have hfF := hfF h0
          rw [e3] at hfS hfF
          dsimp only at hfS hfF
          have HBt := hide (tokB_match (x := bestS L) (y := bestF L) e3 hfS hfF h0)
          rw [e3] at CM
          unfold SplitTo at CM
          dsimp only at CM
          have hxl := putX_le (l := bestS L) (257 + (k : Int)) (bestS_right L)
          have hfl := putX_le (l := bestF L) (cn : Int) (bestF_right L)
          have hnl1 := Bit.num_length x k
          have hnl2 := Bit.num_length y cn
          clear e3 hfS hfF hmay h0 hOk
          generalize tokB (bestS L) (bestF L) t = T at *
          generalize t.lit.toNat = yl at *
          generalize t.dist = td at *
          generalize t.len = tl at *
          go_wp2_with (refine wpList_load_row rfl 23 (.tmp 9) rfl _ rfl _ _ _ _ hWT Try.underlying23 rfl tk_info ?_)
          refine (CM _).mono ?_
          rintro e wa ⟨rfl, hEs⟩
          have hEp := (hET.trans hEs).trans (extNew wa (.cells #[.int .i64 (257 + (k : Int)), .int .i64 (x : Int), .int .i64 (cn : Int), .int .i64 (y : Int)] 25))
          have hWP := Whole.new wa 25 #[.int .i64 (257 + (k : Int)), .int .i64 (x : Int), .int .i64 (cn : Int), .int .i64 (y : Int)]
          have CP := putPiece_match (HRr.out.ext hEp) (hCr.ext' hEp) (bestS_right L) (hDr.ext' hEp) (bestF_right L) hg2 hoo k x cn y hk hx hcn hy (by omega)
          have HMp := hide (HM2.out.trans (Mod.ofExt (ob := ob) hEp) HN2.out)
          unfold pcV at CP
          dsimp only at CP
          clear CM e0 e1 e2 hCr hDr hEs hWT hET hEp hoo hx hy
          unfold pcV
          dsimp only
          generalize 257 + (k : Int) = sy at *
          go_wp2_with (refine wpList_load_row rfl 25 (.tmp 10) rfl _ rfl _ _ _ _ hWP Try.underlying25 rfl pc_info ?_)
          refine CP.mono ?_
          rintro e wc ⟨rfl, obc, hRc, hNc, hMc⟩
          have HMw := hide (HMp.out.trans hMc HN2.out)
          have HNw := hide (HN2.out.trans HMp.out.size hNc)
          have HRc := hide hRc
          have HLn := hide (show (putX (bestS L) sy ++ Bit.num x k ++ putX (bestF L) (cn : Int) ++ Bit.num y cn).length ≤ 48 by simp only [List.length_append]; omega)
          clear CP hRc hNc hMc hWP hxl hfl hnl1 hnl2
          go_wp2
          go_roundw
          case rel => exact ⟨i + 1, obc, by omega, by go_num, (by rw [HBn.out, HBt.out, ← List.append_assoc, ← HP.out]; simpa only [List.append_assoc] using HRc.out), HNw.out, HMw.out, by rw [HBn.out, HBt.out, List.length_append]; have := HLn.out; omega⟩
          case measure => simp [intOf]; omega
      · obtain rfl : L.length = i := by omega
        rw [List.take_length] at hR hlen
        have HM2 := hide hM
        have HN2 := hide hN
        have HRr := hide hR
        have hRlen : (wbits (bestS L) ++ wbits (bestF L) ++ bodyB (bestS L) (bestF L) L).length ≤ 700000000 := by simp only [List.length_append]; omega
        have HRl := hide hRlen
        have HEnd := hide (show putX (bestS L) 256 = putB (bestS L) 256 from if_pos (end_fine L))
        have HX := hide (putX_le (l := bestS L) 256 (bestS_right L))
        clear hR hM hN hRlen
        go_wp2_with fail
        refine (tend_any _).mono ?_
        rintro e wa ⟨rfl, hEa⟩
        have hMa := HM2.out.trans (Mod.ofExt (ob := ob) hEa) HN2.out
        obtain ⟨hCa, _, _⟩ := HAll.out wa hMa
        have CP := putPiece_lit (HRr.out.ext hEa) hCa (bestS_right L) 256 0 0 0 (by omega) HRl.out
        have HMa := hide hMa
        clear hCa hMa
        go_wp2_with fail
        refine CP.mono ?_
        rintro e wc ⟨rfl, obc, hRc, hNc, hMc⟩
        obtain ⟨_, _, hEc⟩ := HAll.out wc (HMa.out.trans hMc HN2.out)
        have CB := wbytes_any hRc (by rw [List.length_append]; have := HRl.out; have := HX.out; omega)
        clear CP hRc hNc hMc
        go_wp2_with fail
        refine CB.mono ?_
        rintro e wd ⟨l, hPk, v, rfl, hO, hE⟩
        have HPk := hide hPk
        clear CB hPk
        go_wp2
        go_ret2
        rw [HN.out]
        refine ⟨v, l, rfl, hO.mono hEc.le, fun _ => ?_, fun h => absurd rfl h, hEc.trans hE⟩
        have hPk := HPk.out
        rw [HEnd.out] at hPk
        unfold writeB
        simpa only [List.append_assoc] using hPk
end Go.Proofs.Ytaohdnhfodkeoaa

namespace Go.Proofs.Ytaohdnhfodkeoaa
open Go.RowKit Lz Tok Len Can Huf
section
variable {x y b : List UInt8} {most : Int} {q : Nat} {n : Int} {out : List TokV}
theorem Tok.getErr_room {L q d : Nat} (h : Bit.getErr (L - q) (d : Int) = 0) : q + d ≤ max L q := by
  unfold Bit.getErr at h
  split at h
  · split at h
    · omega
    · simp at h
  · simp at h
theorem Tok.piece_step (hrx : right x = true) (hry : right y = true) (hx : x.length = 265) (hy : y.length = 12) :
    ((pieceR x y b q).2.1 ≠ 0 ∧ unT x y b most q n out = ([], (pieceR x y b q).2.1)) ∨
    ((pieceR x y b q).2.1 = 0 ∧ (pieceR x y b q).1 = ⟨256, 0, 0, 0⟩ ∧ unT x y b most q n out = if Bit.padErr b (pieceR x y b q).2.2 = 0 then (out, 0) else ([], 2)) ∨
    ((pieceR x y b q).2.1 = 0 ∧ (pieceR x y b q).1.sym ≠ 256 ∧ PcIn (pieceR x y b q).1 ∧ ∃ (l8 : UInt8) (N D : Nat) (sz : Nat), joinE (pieceR x y b q).1 = (⟨l8, (N : Int), (D : Int)⟩, 0) ∧ N ≤ 257 ∧ sz = (if N = 0 then 1 else N) ∧ q < (pieceR x y b q).2.2 ∧ (pieceR x y b q).2.2 ≤ 8 * b.length ∧
      (most < n + sz → unT x y b most q n out = ([], 6)) ∧ (n + sz ≤ most → unT x y b most q n out = unT x y b most (pieceR x y b q).2.2 (n + sz) (out ++ [⟨l8, (N : Int), (D : Int)⟩]))) := by
  by_cases hE : (getE x b q).2.1 = 0
  case neg =>
    left
    have e : pieceR x y b q = (⟨0, 0, 0, 0⟩, (getE x b q).2.1, q) := by unfold pieceR; rw [if_pos hE]
    rw [e]
    exact ⟨hE, un_err hE⟩
  obtain ⟨s, hs, he, hl0, hlb⟩ := getE_ok hrx hE
  have hP : pieceR x y b q = if (s : Int) < 257 then (⟨(s : Int), 0, 0, 0⟩, 0, q + lenAt x s) else matchT y b (s : Int) (q + lenAt x s) := by
    unfold pieceR
    rw [he]
    dsimp only
    rw [if_neg (by simp)]
  by_cases h256 : s = 256
  · refine .inr (.inl ?_)
    rw [hP, if_pos (by omega)]
    refine ⟨rfl, by rw [h256]; rfl, ?_⟩
    rw [un_end hE (by rw [he]; dsimp only; omega), he]
  have h256e : (getE x b q).1 ≠ 256 := by rw [he]; dsimp only; omega
  by_cases hlit : s < 256
  · have hp1 : pieceT y b (getE x b q).1 (getE x b q).2.2 = (⟨s, 0, 0, 0⟩, 0, q + lenAt x s) := by rw [he]; unfold pieceT; rw [if_pos (by dsimp only; omega)]
    have hsz : sizeT (joinE ⟨(s : Int), 0, 0, 0⟩).1 = 1 := by rw [join_lit hlit]; rfl
    refine .inr (.inr ?_)
    rw [hP, if_pos (by omega)]
    refine ⟨rfl, by dsimp only; omega, by unfold PcIn; dsimp only; omega, UInt8.ofNat s, 0, 0, 1, join_lit hlit, by omega, rfl, by dsimp only; omega, hlb, fun h => ?_, fun h => ?_⟩
    · exact un_much hE h256e (by rw [hp1]) (by rw [hp1]; dsimp only; rw [hsz]; exact h)
    · have := un_on (out := out) hE h256e (by rw [hp1]) (by rw [hp1]; dsimp only; rw [hsz]; omega) (by rw [hp1]; dsimp only; omega) (by rw [hp1]; exact hlb) (most := most) (n := n)
      rw [hp1] at this
      dsimp only at this
      rw [hsz, join_lit hlit] at this
      exact this
  · obtain ⟨k, rfl⟩ : ∃ k, s = 257 + k := ⟨s - 257, by omega⟩
    have hk7 : k ≤ 7 := by omega
    have hsy : ((257 + k : Nat) : Int) = 257 + (k : Int) := by omega
    have hp0 : pieceT y b (getE x b q).1 (getE x b q).2.2 = matchT y b ((257 + k : Nat) : Int) (q + lenAt x (257 + k)) := by rw [he]; unfold pieceT; rw [if_neg (by dsimp only; omega)]
    rw [hP, if_neg (by omega)]
    rw [hsy] at hp0 ⊢
    obtain ⟨q3, hq3⟩ : ∃ q3, q3 = q + lenAt x (257 + k) := ⟨_, rfl⟩
    rw [← hq3] at hp0 hlb ⊢
    by_cases hm : (matchT y b (257 + (k : Int)) q3).2.1 = 0
    case neg => exact .inl ⟨hm, by have := un_bad (out := out) (most := most) (n := n) hE h256e (by rw [hp0]; exact hm); rwa [hp0] at this⟩
    refine .inr (.inr ?_)
    have hk2 : 257 + (k : Int) - 257 = (k : Int) := by omega
    have hA : Bit.getErr (8 * b.length - q3) (k : Int) = 0 := by
      refine Classical.byContradiction fun h => ?_
      rw [matchA (by rw [hk2]; exact h), hk2] at hm
      exact h hm
    have hB : (getE y b (q3 + k)).2.1 = 0 := by
      refine Classical.byContradiction fun h => ?_
      rw [matchB2 (by rw [hk2]; exact hA) (by rw [hk2]; exact h), hk2] at hm
      exact h hm
    obtain ⟨d, hd, hde, _, hdb⟩ := getE_ok hry hB
    obtain ⟨qd, hqd⟩ : ∃ qd, qd = q3 + k + lenAt y d := ⟨_, rfl⟩
    rw [← hqd] at hde
    have hC : Bit.getErr (8 * b.length - qd) (d : Int) = 0 := by
      refine Classical.byContradiction fun h => ?_
      rw [matchC (by rw [hk2]; exact hA) (by rw [hk2]; exact hde) h] at hm
      exact h hm
    have h4 := match4 (y := y) (b := b) (s := 257 + (k : Int)) (q := q3) (by rw [hk2]; exact hA) (by rw [hk2]; exact hde) hC
    rw [hk2] at h4
    have hx1 := getNum_lt b q3 k
    have hy1 := getNum_lt b qd d
    have hq9 : qd + d ≤ 8 * b.length := by have := getErr_room hC; omega
    generalize Bit.getNum b q3 (k : Int) = x1 at *
    generalize Bit.getNum b qd (d : Int) = y1 at *
    obtain ⟨l8, N, D, hN3, hN257, hj⟩ := join_match hk7 hx1 (show d ≤ 11 by omega) hy1
    have hp1 := pow_top hk7
    have hp2 := pow_top (show d ≤ 11 by omega)
    have hqq : q < qd + d := by omega
    have hsz : sizeT (joinE ⟨257 + (k : Int), (x1 : Int), (d : Int), (y1 : Int)⟩).1 = N := by
      rw [hj]
      unfold sizeT
      dsimp only
      rw [if_neg (by omega), Int.toNat_natCast]
    rw [h4] at hp0 ⊢
    refine ⟨rfl, by dsimp only; omega, by unfold PcIn; dsimp only; omega, l8, N, D, N, hj, hN257, by rw [if_neg (by omega)], hqq, hq9, fun h => ?_, fun h => ?_⟩
    · exact un_much hE h256e (by rw [hp0]) (by rw [hp0]; dsimp only; rw [hsz]; exact h)
    · have := un_on (out := out) hE h256e (by rw [hp0]) (by rw [hp0]; dsimp only; rw [hsz]; omega) (by rw [hp0]; exact hqq) (by rw [hp0]; exact hq9) (most := most) (n := n)
      rw [hp0] at this
      dsimp only at this
      rw [hsz, hj] at this
      exact this
end
def TokensTo (W : World) (base gr : Nat) (b : List UInt8) (res : List TokV × Int) (e : Ending) (w' : World) : Prop :=
  ∃ v L E q', e = .returned (.tuple #[v, .int .i64 E]) ∧ OwnTk w' W.heap.size v L ∧ Rdr w' base gr b q' ∧ Mod W w' gr none ∧ ((E ≠ 0 ∧ L = [] ∧ res = ([], E)) ∨ (E = 0 ∧ res = if Bit.padErr b q' = 0 then (L, 0) else ([], 2)))
def tkLen : Value → Nat
  | .slice _ n _ => n
  | _ => 0
set_option maxHeartbeats 2000000 in
set_option maxRecDepth 100000 in
theorem tokens_any {W : World} {base r gr c1 c2 lo1 hi1 lo2 hi2 q0 : Nat} {x y b : List UInt8} {most : Int} (hAt : RdAt W base r gr c1 c2 lo1 hi1 lo2 hi2 x y) (hR : Rdr W base gr b q0) (hrx : right x = true) (hry : right y = true) (hx : x.length = 265) (hy : y.length = 12) (hbl : b.length ≤ 100000) (hm0 : 0 ≤ most) (hm1 : most ≤ 9223372036854775807) :
    Calls Try.prog 42 #[.pointer (some ⟨r, 0, none⟩), .int .i64 most] W (TokensTo W base gr b (unT x y b most q0 0 [])) := by
  have HAt := hide (fun w' (hM : Mod W w' gr none) => hAt.mod hM)
  have hgr := hR.lt
  have HR := hide hR
  obtain ⟨res, hres⟩ : ∃ res, res = unT x y b most q0 0 [] := ⟨_, rfl⟩
  rw [← hres]
  have HRes := hide hres
  clear hAt hR hres
  go_enter Try.func42, Try.ntmps42
  go_wp2_with fail
  go_loopw [1, 6] (fun a o wr => ∃ (q : Nat) (n : Int) (out : List TokV), a = .int .i64 (most - n) ∧ 0 ≤ n ∧ n ≤ most ∧ n ≤ 257 * out.length ∧ OwnTk wr W.heap.size o out ∧ out.length ≤ q ∧ Rdr wr base gr b q ∧ Mod W wr gr none ∧ res = unT x y b most q n out) (fun _ o _ => 8 * b.length + 1 - tkLen o)
  case atStart => exact ⟨q0, 0, [], by rw [Int.sub_zero], by omega, hm0, by simp, OwnTk.nil _ _, Nat.zero_le _, HR.out, Mod.refl _ _ _, HRes.out⟩
  case round =>
    clear HRes HR
    obtain ⟨q, n, out, rfl, hn0, hnm, hnb, hO, hoq, hR, hM, hres⟩ := hrel
    obtain ⟨Ao, co, rfl, _⟩ := hO.form
    have hq8 : q ≤ 8 * b.length := by obtain ⟨_, _, _, _, h, _⟩ := hR; exact h
    have CP := tpiece_any (HAt.out wr hM) hR hrx hry hx hy
    have HStep := hide (piece_step (most := most) (n := n) (out := out) (q := q) (b := b) hrx hry hx hy)
    rw [← hres] at HStep
    have HO := hide hO
    have HM := hide hM
    obtain ⟨m, hm⟩ : ∃ m, m = out.length := ⟨_, rfl⟩
    have Hm := hide hm
    have hlm : out.length = m := hm.symm
    rw [hlm] at HO hnb hoq ⊢
    clear hO hR hM hres hm hlm
    generalize pieceR x y b q = P at *
    obtain ⟨⟨p1, p2, p3, p4⟩, E, q2⟩ := P
    unfold PieceRTo pcV at CP
    dsimp only at CP HStep
    go_wp2_with fail
    refine CP.mono ?_
    rintro e w2 ⟨rfl, ⟨q', hR2, hq'⟩, hM2⟩
    have hM2' := HM.out.trans hM2 (.inl rfl)
    have hO2 := hM2.ownTk HO.out (fun e => by have := (HO.out.lt gr e).1; omega) (by cases Value.ownBlock (.slice Ao m co) <;> simp)
    have hE3 := extNew w2 (.cells #[.int .i64 p1, .int .i64 p2, .int .i64 p3, .int .i64 p4] 25)
    have hP3 := Whole.new w2 25 #[.int .i64 p1, .int .i64 p2, .int .i64 p3, .int .i64 p4]
    have hR3 := hR2.ext hE3
    have hM3 := hM2'.trans (Mod.ofExt (ob := none) hE3) (.inl rfl)
    have hO3 := hO2.ext hE3
    have HQ := hide hq'
    clear CP hR2 hM2 hM2' hO2 hE3 hq'
    go_upto_region 3 with fail
    generalize w2.alloc (.cells #[.int .i64 p1, .int .i64 p2, .int .i64 p3, .int .i64 p4] 25) = w3 at *
    generalize w2.heap.size = hp at *
    rcases HStep.out with ⟨hE, hrs⟩ | ⟨hE, hp, hrs⟩ | ⟨hE, hns, hin, l8, N, D, sz, hj, hN, hsz, hq1, hq3, hmu, hon⟩
    · have hb : (E != 0) = true := by rw [bne_iff_ne]; exact hE
      have h' := hide hE
      have HN := hide hrs
      have HR3 := hide hR3
      have HM3 := hide hM3
      clear hE hrs HStep hR3 hO3 hM3 hP3
      go_wp2
      go_ret2
      exact ⟨_, [], E, q', rfl, OwnTk.nil _ _, HR3.out, HM3.out, .inl ⟨h'.out, rfl, HN.out⟩⟩
    · simp only [PcV.mk.injEq] at hp
      obtain ⟨rfl, rfl, rfl, rfl⟩ := hp
      subst hE
      have hqq := HQ.out rfl
      subst hqq
      have HN := hide hrs
      have HR3 := hide hR3
      have HM3 := hide hM3
      have HO3 := hide hO3
      clear hrs HStep hR3 hO3 hM3 HO
      go_wp2_with fail
      refine wp_region_T (fun W => Ext w3 W) 2 3 #[false, false, false] (by kernel_rfl) rfl rfl (Ext.refl w3).drew ?_
      intro hS0
      refine wpAnyT_take 0 (some 18) (.agg #[.int .i64 256, .int .i64 0, .int .i64 0, .int .i64 0]) #[true, false, false] rfl rfl rfl (by kernel_rfl) (fun _ _ _ h => h) hS0 (by rfl) (fun W hX => by have s0 := (hP3.ext hX).at 0 (u := .int .i64 256) rfl; have s1 := (hP3.ext hX).at 1 (u := .int .i64 0) rfl; have s2 := (hP3.ext hX).at 2 (u := .int .i64 0) rfl; have s3 := (hP3.ext hX).at 3 (u := .int .i64 0) rfl; go_simp) ?_
      simp only [Act.put, List.setIfInBounds_toArray, List.set_cons_zero, List.set_cons_succ]
      refine wpAnyT_only 1 #[true, true, false] (by kernel_rfl) rfl rfl (by rfl) (fun K0 hK0 => ?_)
      go_simp
      go_at_call 33
      refine (tend_any _).mono ?_
      rintro e w4 ⟨rfl, hC4⟩
      have hX4 := hS0.trans hC4
      refine hK0 _ _ (fun _ => hX4) ?_
      clear hK0 K0
      unfold pcV
      dsimp only
      refine wpAnyT_only 2 #[true, true, true] (by kernel_rfl) rfl rfl (by rfl) (fun K1 hK1 => ?_)
      go_simp
      refine hK1 _ _ (fun h => absurd h (by decide)) (wpAnyT_done (by kernel_rfl) ?_ _)
      clear hK1 K1
      have hOe := HO3.out.ext hX4
      have hRe := HR3.out.ext hX4
      have hMe := HM3.out.trans (Mod.ofExt (ob := none) hX4) (.inl rfl)
      have HOe := hide hOe
      have HRe := hide hRe
      have HMe := hide hMe
      clear hOe hRe hMe hX4 hC4 hS0 hP3
      go_wp2
      go_ret2
      refine ⟨_, out, 0, q', rfl, ?_, HRe.out, HMe.out, .inr ⟨rfl, HN.out⟩⟩
      exact HOe.out
    · subst hE
      have hqq := HQ.out rfl
      subst hqq
      have hsb : (p1 == 256) = false := by rw [beq_eq_false_iff_ne]; exact hns
      have CJ := fun w => tjoin_any ⟨p1, p2, p3, p4⟩ hin w
      rw [hj] at CJ
      unfold JoinTo tokV pcV at CJ
      dsimp only at CJ
      have HR3 := hide hR3
      have HM3 := hide hM3
      have HO3 := hide hO3
      have Hmu := hide hmu
      have Hon := hide hon
      have Hsz := hide hsz
      clear HStep hR3 hO3 hM3 HO hin hj hmu hon hsz hns
      go_wp2_with fail
      refine wp_region_T (fun W => Ext w3 W) 2 3 #[false, false, false] (by kernel_rfl) rfl rfl (Ext.refl w3).drew ?_
      intro hS0
      refine wpAnyT_take 0 (some 18) (.agg #[.int .i64 p1, .int .i64 p2, .int .i64 p3, .int .i64 p4]) #[true, false, false] rfl rfl rfl (by kernel_rfl) (fun _ _ _ h => h) hS0 (by rfl) (fun W hX => by have s0 := (hP3.ext hX).at 0 (u := .int .i64 p1) rfl; have s1 := (hP3.ext hX).at 1 (u := .int .i64 p2) rfl; have s2 := (hP3.ext hX).at 2 (u := .int .i64 p3) rfl; have s3 := (hP3.ext hX).at 3 (u := .int .i64 p4) rfl; go_simp) ?_
      simp only [Act.put, List.setIfInBounds_toArray, List.set_cons_zero, List.set_cons_succ]
      refine wpAnyT_only 1 #[true, true, false] (by kernel_rfl) rfl rfl (by rfl) (fun K0 hK0 => ?_)
      go_simp
      go_at_call 33
      refine (tend_any _).mono ?_
      rintro e w4 ⟨rfl, hC4⟩
      have hX4 := hS0.trans hC4
      refine hK0 _ _ (fun _ => hX4) ?_
      clear hK0 K0
      unfold pcV
      dsimp only
      refine wpAnyT_only 2 #[true, true, true] (by kernel_rfl) rfl rfl (by rfl) (fun K1 hK1 => ?_)
      go_simp
      refine hK1 _ _ (fun h => absurd h (by decide)) (wpAnyT_done (by kernel_rfl) ?_ _)
      clear hK1 K1
      have hO4 := HO3.out.ext hX4
      have hR4 := HR3.out.ext hX4
      have hM4 := HM3.out.trans (Mod.ofExt (ob := none) hX4) (.inl rfl)
      have hP4 := hP3.ext hX4
      have HO4 := hide hO4
      have HR4 := hide hR4
      have HM4 := hide hM4
      clear hO4 hR4 hM4 hX4 hC4 hS0 hP3 HO3 HR3 HM3
      go_wp2_with (refine wpList_load_row rfl 25 (.tmp 7) rfl _ rfl _ _ _ _ hP4 Try.underlying25 rfl pc_info ?_)
      refine (CJ _).mono ?_
      rintro e w5 ⟨rfl, hE5⟩
      have hE6 := hE5.alloc (.cells #[.int .u8 (l8.toNat : Int), .int .i64 (N : Int), .int .i64 (D : Int)] 23)
      have hWt := Whole.new w5 23 #[.int .u8 (l8.toNat : Int), .int .i64 (N : Int), .int .i64 (D : Int)]
      have hO6 := HO4.out.ext hE6
      have hR6 := HR4.out.ext hE6
      have hM6 := HM4.out.trans (Mod.ofExt (ob := none) hE6) (.inl rfl)
      have h8 := UInt8.toNat_lt l8
      have HO6 := hide hO6
      have HR6 := hide hR6
      have HM6 := hide hM6
      clear CJ hP4 hO6 hR6 hM6 HO4 HR4 HM4 hE5 hE6
      go_upto_region 10 with fail
      generalize w5.alloc (.cells #[.int .u8 (l8.toNat : Int), .int .i64 (N : Int), .int .i64 (D : Int)] 23) = w6 at *
      generalize w5.heap.size = ht at *
      have t1 := hWt.at 1 (u := .int .i64 (N : Int)) rfl
      have hbs := HM6.out.size
      have hLn : out.length ≤ 1000000 := by rw [← Hm.out]; omega
      have hOt := HO6.out.ext (extNew w6 (.cells #[.int .u8 (l8.toNat : Int), .int .i64 (N : Int), .int .i64 (D : Int)] 23))
      have HMz := hide (HM6.out.trans (Mod.ofExt (ob := none) (extNew w6 (.cells #[.int .u8 (l8.toNat : Int), .int .i64 (N : Int), .int .i64 (D : Int)] 23))) (.inl rfl))
      have HRz := hide (HR6.out.ext (extNew w6 (.cells #[.int .u8 (l8.toNat : Int), .int .i64 (N : Int), .int .i64 (D : Int)] 23)))
      by_cases h0 : N = 0
      · have hs1 : sz = 1 := by rw [Hsz.out, if_pos h0]
        rw [hs1] at Hmu Hon
        subst h0
        clear Hsz hs1 hN
        by_cases hmuI : most - n - 1 < 0
        · have HN := hide (Hmu.out (by omega))
          clear hOt HMz HRz
          go_wp2
          go_ret2
          exact ⟨_, [], 6, _, rfl, OwnTk.nil _ _, HR6.out, HM6.out, .inl ⟨by simp, rfl, HN.out⟩⟩
        · have HRn := hide (Hon.out (by omega))
          have hmx : n + 1 ≤ most := by omega
          have Hmx := hide hmx
          clear hmx
          go_wp2_with (first
            | (refine wpList_load_row rfl 23 (.tmp 9) rfl _ rfl _ _ _ _ hWt Try.underlying23 rfl tk_info ?_)
            | (at_builtin; refine wpList_appTkB rfl (.tmp 37) (.tmp 39) rfl rfl ⟨l8, ((0 : Nat) : Int), (D : Int)⟩ hOt rfl hLn hbs ?_; intro v5 w7 hO7 hG7 _; obtain ⟨A7, c7, rfl, _⟩ := hO7.form))
          have hl5 : (out ++ [(⟨l8, ((0 : Nat) : Int), (D : Int)⟩ : TokV)]).length = m + 1 := by rw [List.length_append, ← Hm.out]; rfl
          rw [hl5] at hO7
          rw [← Hm.out]
          go_roundw
          case rel => exact ⟨_, n + 1, out ++ [⟨l8, ((0 : Nat) : Int), (D : Int)⟩], congrArg (Value.int .i64) (by omega), by omega, Hmx.out, by rw [hl5]; omega, hO7, by rw [hl5]; omega, HRz.out.below (B := gr + 1) (Below.grown (Below.refl _ _) hG7 (by have := HRz.out.lt; omega) (fun k hk => by have := (HO6.out.lt k hk).1; omega)) (by omega), Mod.fresh HMz.out hG7 (fun k hk => (HO6.out.lt k hk).1), HRn.out⟩
          case measure => simp [tkLen]; omega
      · have hs1 : sz = N := by rw [Hsz.out, if_neg h0]
        rw [hs1] at Hmu Hon
        have hN1 : 1 ≤ (N : Int) := by omega
        have hN2 : (N : Int) ≤ 257 := by omega
        clear Hsz hs1 h0 hN
        by_cases hmuI : most - n - (N : Int) < 0
        · have HN := hide (Hmu.out (by omega))
          clear hOt HMz HRz
          go_wp2
          go_ret2
          exact ⟨_, [], 6, _, rfl, OwnTk.nil _ _, HR6.out, HM6.out, .inl ⟨by simp, rfl, HN.out⟩⟩
        · have HRn := hide (Hon.out (by omega))
          have hmx : n + (N : Int) ≤ most := by omega
          have Hmx := hide hmx
          clear hmx
          go_wp2_with (first
            | (refine wpList_load_row rfl 23 (.tmp 9) rfl _ rfl _ _ _ _ hWt Try.underlying23 rfl tk_info ?_)
            | (at_builtin; refine wpList_appTkB rfl (.tmp 37) (.tmp 39) rfl rfl ⟨l8, (N : Int), (D : Int)⟩ hOt rfl hLn hbs ?_; intro v5 w7 hO7 hG7 _; obtain ⟨A7, c7, rfl, _⟩ := hO7.form))
          have hl5 : (out ++ [(⟨l8, (N : Int), (D : Int)⟩ : TokV)]).length = m + 1 := by rw [List.length_append, ← Hm.out]; rfl
          rw [hl5] at hO7
          rw [← Hm.out]
          go_roundw
          case rel => exact ⟨_, n + (N : Int), out ++ [⟨l8, (N : Int), (D : Int)⟩], congrArg (Value.int .i64) (by omega), by omega, Hmx.out, by rw [hl5]; omega, hO7, by rw [hl5]; omega, HRz.out.below (B := gr + 1) (Below.grown (Below.refl _ _) hG7 (by have := HRz.out.lt; omega) (fun k hk => by have := (HO6.out.lt k hk).1; omega)) (by omega), Mod.fresh HMz.out hG7 (fun k hk => (HO6.out.lt k hk).1), HRn.out⟩
          case measure => simp [tkLen]; omega
end Go.Proofs.Ytaohdnhfodkeoaa

namespace Go.Proofs.Ytaohdnhfodkeoaa
open Go.RowKit Lz Tok
def PcV.ok (p : PcV) : Prop := -9223372036854775808 ≤ p.sym ∧ p.sym ≤ 9223372036854775807 ∧ -9223372036854775808 ≤ p.len ∧ p.len ≤ 9223372036854775807 ∧ -9223372036854775808 ≤ p.dist ∧ p.dist ≤ 9223372036854775807 ∧ -9223372036854775808 ≤ p.far ∧ p.far ≤ 9223372036854775807
def SplitC (w : World) : Prop := ∀ (t : TokV) (W : World), Ext w W → t.ok → Calls Try.prog 11 #[tokV t] W (SplitTo W (splitE t))
def JoinC (w : World) : Prop := ∀ (p : PcV) (W : World), Ext w W → p.ok → Calls Try.prog 13 #[pcV p] W (JoinTo W (joinE p))
theorem split_example : splitE ⟨0, 10, 6⟩ = (⟨260, 0, 2, 2⟩, 0) := by decide +kernel
set_option maxHeartbeats 2000000 in
set_option maxRecDepth 100000 in
theorem alive11_any {w W : World} (hS : SplitC w) (hE : Ext w W) : Calls Try.prog 10 #[] W fun e W' => e = .returned (.bool true) ∧ Ext W W' := by
  have C := hS ⟨0, 10, 6⟩ W hE (by unfold TokV.ok; dsimp only; omega)
  rw [split_example] at C
  unfold tokV SplitTo pcV at C
  dsimp only at C
  have e0 : (((0 : UInt8).toNat : Nat) : Int) = 0 := rfl
  rw [e0] at C
  go_enter Try.func10, Try.ntmps10
  go_wp2_with fail
  refine C.mono ?_
  rintro e w2 ⟨rfl, hE2⟩
  go_wp2
  go_ret
  exact ⟨rfl, hE2.alloc _⟩
def Tk3 (w : World) (g : Nat) (a b c : Int) : Prop := w.cell? ⟨g, 0, none⟩ = some (.int .u8 a) ∧ w.cell? ⟨g, 1, none⟩ = some (.int .i64 b) ∧ w.cell? ⟨g, 2, none⟩ = some (.int .i64 c)
def Pc4 (w : World) (g : Nat) (a b c d : Int) : Prop := w.cell? ⟨g, 0, none⟩ = some (.int .i64 a) ∧ w.cell? ⟨g, 1, none⟩ = some (.int .i64 b) ∧ w.cell? ⟨g, 2, none⟩ = some (.int .i64 c) ∧ w.cell? ⟨g, 3, none⟩ = some (.int .i64 d)
theorem Tk3.ext {w w' : World} {g : Nat} {a b c : Int} (h : Tk3 w g a b c) (hE : Ext w w') : Tk3 w' g a b c := by
  have hg := World.block_lt_of_cell? w _ h.1
  exact ⟨(hE.cell hg).trans h.1, (hE.cell hg).trans h.2.1, (hE.cell hg).trans h.2.2⟩
theorem Pc4.ext {w w' : World} {g : Nat} {a b c d : Int} (h : Pc4 w g a b c d) (hE : Ext w w') : Pc4 w' g a b c d := by
  have hg := World.block_lt_of_cell? w _ h.1
  exact ⟨(hE.cell hg).trans h.1, (hE.cell hg).trans h.2.1, (hE.cell hg).trans h.2.2.1, (hE.cell hg).trans h.2.2.2⟩
theorem Tk3.new (w : World) (a b c : Int) (t : TypeId) : Tk3 (w.alloc (.cells #[.int .u8 a, .int .i64 b, .int .i64 c] t)) w.heap.size a b c := ⟨cellNew w _ _ _ 0, cellNew w _ _ _ 1, cellNew w _ _ _ 2⟩
theorem Pc4.new (w : World) (a b c d : Int) (t : TypeId) : Pc4 (w.alloc (.cells #[.int .i64 a, .int .i64 b, .int .i64 c, .int .i64 d] t)) w.heap.size a b c d := ⟨cellNew w _ _ _ 0, cellNew w _ _ _ 1, cellNew w _ _ _ 2, cellNew w _ _ _ 3⟩
set_option maxHeartbeats 2000000 in
set_option maxRecDepth 100000 in
theorem toksSplits_walk0 (t : TokV) (p : PcV) (w : World) (hS : SplitC w) (hJ : JoinC w) (ht : t.ok) (hp : p.ok) : Calls Try.prog 3 #[tokV t, pcV p] w fun e w' => e = .returned (.bool true) ∧ Ext w w' := by
  have HS := hide (fun W (hE : Ext w W) => hS t W hE ht)
  have HJ := hide (fun W (hE : Ext w W) => hJ p W hE hp)
  have HRS := hide (fun W => refSplit_any t W)
  have HRJ := hide (fun W => refJoin_any p W)
  have HA := hide hS
  clear hS hJ ht hp
  generalize splitE t = rs at *
  generalize joinE p = rj at *
  obtain ⟨⟨s1, s2, s3, s4⟩, es⟩ := rs
  obtain ⟨⟨j1, j2, j3⟩, ej⟩ := rj
  obtain ⟨t1, t2, t3⟩ := t
  obtain ⟨p1, p2, p3, p4⟩ := p
  unfold tokV pcV SplitTo JoinTo at *
  unfold pcV at HS HRS
  unfold tokV at HJ HRJ
  dsimp only at HS HJ HRS HRJ ⊢
  have hE1 := (extNew w (.cells #[.int .u8 (t1.toNat : Int), .int .i64 t2, .int .i64 t3] 23)).alloc (.cells #[.int .i64 p1, .int .i64 p2, .int .i64 p3, .int .i64 p4] 25)
  have hT1 := (Tk3.new w (t1.toNat : Int) t2 t3 23).ext (extNew _ (.cells #[.int .i64 p1, .int .i64 p2, .int .i64 p3, .int .i64 p4] 25))
  have hP1 := Pc4.new (w.alloc (.cells #[.int .u8 (t1.toNat : Int), .int .i64 t2, .int .i64 t3] 23)) p1 p2 p3 p4 25
  rw [World.size_alloc] at hP1
  have C0 := alive11_any HA.out hE1
  generalize (t1.toNat : Int) = t0 at *
  generalize (j1.toNat : Int) = j0 at *
  go_enter Try.func3, Try.ntmps3
  go_wp2_with fail
  refine C0.mono ?_
  rintro e w2 ⟨rfl, hE2⟩
  have hF2 := hE1.trans hE2
  have hT2 := hT1.ext hE2
  have hP2 := hP1.ext hE2
  clear C0 hE1 hT1 hP1 hE2
  have C1 := HS.out w2 hF2
  obtain ⟨a0, a1, a2⟩ := hT2
  go_wp2_with fail
  refine C1.mono ?_
  rintro e w3 ⟨rfl, hE3⟩
  have hE4 := hE3.alloc (.cells #[.int .i64 s1, .int .i64 s2, .int .i64 s3, .int .i64 s4] 25)
  have hX4 := Pc4.new w3 s1 s2 s3 s4 25
  have hF4 := hF2.trans hE4
  have hT4 := Tk3.ext ⟨a0, a1, a2⟩ hE4
  have hP4 := hP2.ext hE4
  have C2 := HRS.out (w3.alloc (.cells #[.int .i64 s1, .int .i64 s2, .int .i64 s3, .int .i64 s4] 25))
  clear C1 a0 a1 a2 hP2 hE3 hE4 hF2
  obtain ⟨a0, a1, a2⟩ := hT4
  go_wp2_with fail
  refine C2.mono ?_
  rintro e w5 ⟨rfl, hE5⟩
  have hE6 := hE5.alloc (.cells #[.int .i64 s1, .int .i64 s2, .int .i64 s3, .int .i64 s4] 25)
  have hX6 := hX4.ext hE6
  have hY6 := Pc4.new w5 s1 s2 s3 s4 25
  have hF6 := hF4.trans hE6
  have hP6 := hP4.ext hE6
  have C3 := HJ.out (w5.alloc (.cells #[.int .i64 s1, .int .i64 s2, .int .i64 s3, .int .i64 s4] 25)) hF6
  clear C2 a0 a1 a2 hX4 hF4 hP4 hE5 hE6
  obtain ⟨a0, a1, a2, a3⟩ := hP6
  go_wp2_with fail
  refine C3.mono ?_
  rintro e w7 ⟨rfl, hE7⟩
  have hE8 := hE7.alloc (.cells #[.int .u8 j0, .int .i64 j2, .int .i64 j3] 23)
  have hX8 := hX6.ext hE8
  have hY8 := hY6.ext hE8
  have hU8 := Tk3.new w7 j0 j2 j3 23
  have hF8 := hF6.trans hE8
  have hP8 := Pc4.ext ⟨a0, a1, a2, a3⟩ hE8
  have C4 := HRJ.out (w7.alloc (.cells #[.int .u8 j0, .int .i64 j2, .int .i64 j3] 23))
  clear C3 a0 a1 a2 a3 hX6 hY6 hF6 hE7 hE8
  obtain ⟨a0, a1, a2, a3⟩ := hP8
  go_wp2_with fail
  refine C4.mono ?_
  rintro e w9 ⟨rfl, hE9⟩
  have hE10 := hE9.alloc (.cells #[.int .u8 j0, .int .i64 j2, .int .i64 j3] 23)
  have hX10 := hX8.ext hE10
  have hY10 := hY8.ext hE10
  have hU10 := hU8.ext hE10
  have hF10 := hF8.trans hE10
  clear C4 a0 a1 a2 a3 hX8 hY8 hU8 hF8 hE9 hE10
  obtain ⟨x0, x1, x2, x3⟩ := hX10
  obtain ⟨y0, y1, y2, y3⟩ := hY10
  obtain ⟨u0, u1, u2⟩ := hU10
  go_wp2
  go_ret
  exact ⟨rfl, hF10⟩
end Go.Proofs.Ytaohdnhfodkeoaa

namespace Go.Proofs.Ytaohdnhfodkeoaa
open Go.RowKit Lz Tok
theorem split_err {t : TokV} : (splitE t).2 = if may t = true then 0 else 7 := by
  by_cases h : may t = true
  · rw [if_pos h]
    by_cases h0 : t.len = 0
    · rw [split_lit h h0]
    · obtain ⟨_, _, _, _, _, _, _, _, _, _, e⟩ := split_match h h0
      rw [e]
  · rw [if_neg h, split_bad (by simpa using h)]
theorem join_err {p : PcV} : (joinE p).2 = 0 ∨ (joinE p).2 = 7 := by
  unfold joinE
  split
  · exact .inl rfl
  · split
    · exact .inr rfl
    · split
      · exact .inr rfl
      · exact .inl rfl
theorem may_ok {t : TokV} (h : may t = true) : t.ok := by
  unfold TokV.ok
  by_cases h0 : t.len = 0
  · have hd : t.dist = 0 := by
      unfold may at h
      rw [if_pos h0] at h
      exact of_decide_eq_true h
    omega
  · have := may_facts h h0
    omega
theorem split_ok (t : TokV) : (splitE t).1.ok := by
  unfold PcV.ok
  by_cases h : may t = true
  · by_cases h0 : t.len = 0
    · rw [split_lit h h0]
      have := UInt8.toNat_lt t.lit
      dsimp only
      omega
    · obtain ⟨k, x, c, y, hk, hx, hc, hy, _, _, e⟩ := split_match h h0
      have p1 := pow_top (k := k) (m := 7) hk
      have p2 := pow_top (k := c) (m := 11) hc
      rw [e]
      dsimp only
      omega
  · rw [split_bad (by simpa using h)]
    dsimp only
    omega
theorem join_ok (p : PcV) : (joinE p).1.ok := by
  rcases join_err (p := p) with h | h
  · exact may_ok (split_join h).2
  · unfold joinE at h ⊢
    split at h
    · cases h
    · rename_i c1
      rw [if_neg c1]
      split at h
      · rename_i c2
        rw [if_pos c2]
        unfold TokV.ok
        dsimp only
        omega
      · rename_i c2
        rw [if_neg c2]
        split at h
        · rename_i c3
          rw [if_pos c3]
          unfold TokV.ok
          dsimp only
          omega
        · cases h
set_option maxHeartbeats 4000000 in
set_option maxRecDepth 100000 in
theorem toksJoins_walk0 (t : TokV) (p : PcV) (w : World) (hS : SplitC w) (hJ : JoinC w) (ht : t.ok) (hp : p.ok) : Calls Try.prog 4 #[tokV t, pcV p] w fun e w' => e = .returned (.bool true) ∧ Ext w w' := by
  have HS1 := hide (fun W (hE : Ext w W) => hS t W hE ht)
  have HJ1 := hide (fun W (hE : Ext w W) => hJ (splitE t).1 W hE (split_ok t))
  have HJ2 := hide (fun W (hE : Ext w W) => hJ p W hE hp)
  have HS2 := hide (fun W (hE : Ext w W) => hS (joinE p).1 W hE (join_ok p))
  have HA := hide hS
  have HB := hide (fun h : may t = true => join_split h)
  have HD := hide (fun h : (joinE p).2 = 0 => (split_join h).1)
  have HEs := hide (split_err (t := t))
  have HEj := hide (join_err (p := p))
  clear hS hJ ht hp
  generalize splitE t = rs at *
  generalize joinE p = rj at *
  obtain ⟨⟨s1, s2, s3, s4⟩, es⟩ := rs
  obtain ⟨⟨j1, j2, j3⟩, ej⟩ := rj
  unfold SplitTo at HS1 HS2
  unfold JoinTo at HJ1 HJ2
  have hE1 := (extNew w (.cells #[.int .u8 (t.lit.toNat : Int), .int .i64 t.len, .int .i64 t.dist] 23)).alloc (.cells #[.int .i64 p.sym, .int .i64 p.len, .int .i64 p.dist, .int .i64 p.far] 25)
  have hT1 := (Tk3.new w (t.lit.toNat : Int) t.len t.dist 23).ext (extNew _ (.cells #[.int .i64 p.sym, .int .i64 p.len, .int .i64 p.dist, .int .i64 p.far] 25))
  have hP1 := Pc4.new (w.alloc (.cells #[.int .u8 (t.lit.toNat : Int), .int .i64 t.len, .int .i64 t.dist] 23)) p.sym p.len p.dist p.far 25
  rw [World.size_alloc] at hP1
  have C0 := alive11_any HA.out hE1
  dsimp only at HEs HEj HB HD
  have HJ1' : may t = true → ∀ W, Ext w W → Calls Try.prog 13 #[pcV ⟨s1, s2, s3, s4⟩] W fun e w' => e = .returned (.tuple #[tokV t, .int .i64 0]) ∧ Ext W w' := fun h W hE => by
    have C := HJ1.out W hE
    rw [HB.out h] at C
    exact C
  have HS2' : ej = 0 → ∀ W, Ext w W → Calls Try.prog 11 #[tokV ⟨j1, j2, j3⟩] W fun e w' => e = .returned (.tuple #[pcV p, .int .i64 0]) ∧ Ext W w' := fun h W hE => by
    have C := HS2.out W hE
    rw [HD.out h] at C
    exact C
  have HJ1 := hide HJ1'
  have HS2 := hide HS2'
  clear HJ1' HS2' HB HD
  unfold tokV pcV at *
  dsimp only at HS1 HJ1 HJ2 HS2 ⊢
  generalize (t.lit.toNat : Int) = t0 at *
  generalize t.len = t2 at *
  generalize t.dist = t3 at *
  generalize p.sym = p1 at *
  generalize p.len = p2 at *
  generalize p.dist = p3 at *
  generalize p.far = p4 at *
  generalize (j1.toNat : Int) = j0 at *
  go_enter Try.func4, Try.ntmps4
  go_wp2_with fail
  refine C0.mono ?_
  rintro e w2 ⟨rfl, hE2⟩
  have hF2 := hE1.trans hE2
  have hT2 := hT1.ext hE2
  have hP2 := hP1.ext hE2
  clear C0 hE1 hT1 hP1 hE2
  have C1 := HS1.out w2 hF2
  obtain ⟨a0, a1, a2⟩ := hT2
  go_wp2_with fail
  refine C1.mono ?_
  rintro e w3 ⟨rfl, hE3⟩
  have hE4 := hE3.alloc (.cells #[.int .i64 s1, .int .i64 s2, .int .i64 s3, .int .i64 s4] 25)
  have hX4 := Pc4.new w3 s1 s2 s3 s4 25
  have hF4 := hF2.trans hE4
  have hT4 := Tk3.ext ⟨a0, a1, a2⟩ hE4
  have hP4 := hP2.ext hE4
  have HEs := HEs.out
  clear C1 a0 a1 a2 hP2 hE3 hE4 hF2
  by_cases hm : may t = true
  · rw [if_pos hm] at HEs
    subst HEs
    have C2 := HJ1.out hm (w3.alloc (.cells #[.int .i64 s1, .int .i64 s2, .int .i64 s3, .int .i64 s4] 25)) hF4
    clear hm
    obtain ⟨x0, x1, x2, x3⟩ := hX4
    go_wp2_with fail
    refine C2.mono ?_
    rintro e w5 ⟨rfl, hE5⟩
    have hE6 := hE5.alloc (.cells #[.int .u8 t0, .int .i64 t2, .int .i64 t3] 23)
    have hT6 := hT4.ext hE6
    have hP6 := hP4.ext hE6
    have hF6 := hF4.trans hE6
    have hY6 := Tk3.new w5 t0 t2 t3 23
    clear C2 x0 x1 x2 x3 hT4 hP4 hF4 hE5 hE6
    have C3 := HJ2.out (w5.alloc (.cells #[.int .u8 t0, .int .i64 t2, .int .i64 t3] 23)) hF6
    obtain ⟨a0, a1, a2⟩ := hT6
    obtain ⟨y0, y1, y2⟩ := hY6
    obtain ⟨b0, b1, b2, b3⟩ := hP6
    have hP6 : Pc4 _ _ p1 p2 p3 p4 := ⟨b0, b1, b2, b3⟩
    have HP6 := hide hP6
    clear hP6
    go_wp2_with fail
    refine C3.mono ?_
    rintro e w7 ⟨rfl, hE7⟩
    have hE8 := hE7.alloc (.cells #[.int .u8 j0, .int .i64 j2, .int .i64 j3] 23)
    have hU8 := Tk3.new w7 j0 j2 j3 23
    have hF8 := hF6.trans hE8
    have hP8 := HP6.out.ext hE8
    rcases HEj.out with hj | hj
    · have C4 := HS2.out hj (w7.alloc (.cells #[.int .u8 j0, .int .i64 j2, .int .i64 j3] 23)) hF8
      subst hj
      obtain ⟨u0, u1, u2⟩ := hU8
      clear C3 b0 b1 b2 b3 a0 a1 a2 y0 y1 y2 HP6 hE7 hE8
      go_wp2_with fail
      refine C4.mono ?_
      rintro e w9 ⟨rfl, hE9⟩
      have hE10 := hE9.alloc (.cells #[.int .i64 p1, .int .i64 p2, .int .i64 p3, .int .i64 p4] 25)
      have hF10 := hF8.trans hE10
      obtain ⟨b0, b1, b2, b3⟩ := hP8.ext hE10
      obtain ⟨z0, z1, z2, z3⟩ := Pc4.new w9 p1 p2 p3 p4 25
      clear C4 u0 u1 u2 hP8 hE9 hE10
      go_wp2
      go_ret
      exact ⟨rfl, hF10⟩
    · subst hj
      clear C3 b0 b1 b2 b3 a0 a1 a2 y0 y1 y2 HP6 hE7 hE8 hP8 hU8
      go_wp2
      go_ret
      exact ⟨rfl, hF8⟩
  · rw [if_neg hm] at HEs
    subst HEs
    clear hm hX4 hT4
    have C3 := HJ2.out (w3.alloc (.cells #[.int .i64 s1, .int .i64 s2, .int .i64 s3, .int .i64 s4] 25)) hF4
    obtain ⟨b0, b1, b2, b3⟩ := hP4
    have hP6 : Pc4 _ _ p1 p2 p3 p4 := ⟨b0, b1, b2, b3⟩
    have HP6 := hide hP6
    clear hP6
    go_wp2_with fail
    refine C3.mono ?_
    rintro e w7 ⟨rfl, hE7⟩
    have hE8 := hE7.alloc (.cells #[.int .u8 j0, .int .i64 j2, .int .i64 j3] 23)
    have hU8 := Tk3.new w7 j0 j2 j3 23
    have hF8 := hF4.trans hE8
    have hP8 := HP6.out.ext hE8
    rcases HEj.out with hj | hj
    · have C4 := HS2.out hj (w7.alloc (.cells #[.int .u8 j0, .int .i64 j2, .int .i64 j3] 23)) hF8
      subst hj
      obtain ⟨u0, u1, u2⟩ := hU8
      clear C3 b0 b1 b2 b3 HP6 hE7 hE8
      go_wp2_with fail
      refine C4.mono ?_
      rintro e w9 ⟨rfl, hE9⟩
      have hE10 := hE9.alloc (.cells #[.int .i64 p1, .int .i64 p2, .int .i64 p3, .int .i64 p4] 25)
      have hF10 := hF8.trans hE10
      obtain ⟨b0, b1, b2, b3⟩ := hP8.ext hE10
      obtain ⟨z0, z1, z2, z3⟩ := Pc4.new w9 p1 p2 p3 p4 25
      clear C4 u0 u1 u2 hP8 hE9 hE10
      go_wp2
      go_ret
      exact ⟨rfl, hF10⟩
    · subst hj
      clear C3 b0 b1 b2 b3 HP6 hE7 hE8 hP8 hU8
      go_wp2
      go_ret
      exact ⟨rfl, hF8⟩
end Go.Proofs.Ytaohdnhfodkeoaa

namespace Go.Proofs.Ytaohdnhfodkeoaa
open Go.RowKit Lz
set_option maxHeartbeats 2000000 in
set_option maxRecDepth 100000 in
theorem refSize_any (A : Option Addr) (n c : Nat) (L : List TokV) (most : Nat) (w : World) (hn : n ≤ 3000) (hm : most ≤ 1073741824) (h : ToksAt w w.heap.size A n L) (hmay : ∀ i, i < n → may (L.getD i default) = true) (hsum : ∀ i, i ≤ n → sumSz (L.take i) ≤ most) :
    Calls Try.prog 23 #[.slice A n c, .int .i64 (most : Int)] w fun e w' => e = .returned (.int .i64 (sumSz L : Nat)) ∧ Ext w w' := by
  have hl := h.1
  subst hl
  have H := hide h
  have HMay := hide hmay
  have HSum := hide hsum
  have HNx := hide (show ∀ i, i < L.length → sumSz (L.take (i + 1)) = sumSz (L.take i) + sizeT (L.getD i default) from fun i hi => sumSz_next hi)
  have HAll := hide (show sumSz (L.take L.length) = sumSz L by rw [List.take_length])
  have H0 := hide (show sumSz (L.take 0) = 0 from rfl)
  clear h hmay hsum
  go_enter Try.func23, Try.ntmps23
  go_wp2
  go_loopw [5, 6] (fun s x wr => ∃ i u : Nat, i ≤ L.length ∧ x = .int .i64 (i : Int) ∧ s = .int .i64 (u : Int) ∧ u = sumSz (L.take i) ∧ Ext w wr) (fun _ x _ => L.length - (intOf x).toNat)
  case atStart => exact ⟨0, 0, by omega, rfl, rfl, H0.out.symm, Ext.refl _⟩
  case round =>
    obtain ⟨i, u, hi, rfl, rfl, hu, hE⟩ := hrel
    by_cases hlt : i < L.length
    · have hiI : (i : Int) < (L.length : Int) := by omega
      rcases (H.out.later hE).2 with h0 | ⟨b1, o1, rfl, _, hc1⟩
      · omega
      obtain ⟨c0, c1', c2'⟩ := (hc1 i hlt).1.cells
      have hsm := size_small (HMay.out i hlt)
      have hnx := HNx.out i hlt
      have hle := HSum.out (i + 1) (by omega)
      rw [hnx, ← hu] at hle
      rw [← hu] at hnx
      have hsz : sizeT (L.getD i default) = if (L.getD i default).len = 0 then 1 else (L.getD i default).len.toNat := rfl
      generalize sizeT (L.getD i default) = sz at *
      generalize (L.getD i default).len = tn at *
      have HNx2 := hide hnx
      clear hc1 hnx hu c0 c2'
      obtain ⟨hs1, hs2⟩ := hsm
      by_cases h0 : tn = 0
      · rw [if_pos h0] at hsz
        subst h0
        subst hsz
        have hgo : ¬ (most : Int) < (u : Int) + 1 := by omega
        clear hs1 hs2
        go_wp2
        go_roundw
        case rel => exact ⟨i + 1, u + 1, by omega, by go_num, by go_num, HNx2.out.symm, hE⟩
        case measure => simp [intOf]; omega
      · rw [if_neg h0] at hsz
        obtain ⟨N, rfl⟩ := Int.eq_ofNat_of_zero_le (show 0 ≤ tn by omega)
        rw [Int.toNat_natCast] at hsz
        subst hsz
        have hn0 : (0 : Int) < (sz : Int) := by omega
        have hn300 : (sz : Int) < 300 := by omega
        have hgo : ¬ (most : Int) < (u : Int) + (sz : Int) := by omega
        clear hs1 hs2 h0
        go_wp2
        go_roundw
        case rel => exact ⟨i + 1, u + sz, by omega, by go_num, by go_num, HNx2.out.symm, hE⟩
        case measure => simp [intOf]; omega
    · obtain rfl : L.length = i := by omega
      rw [HAll.out] at hu
      have HU := hide hu
      clear hu
      go_wp2
      go_ret
      exact ⟨ret_i64 (by rw [HU.out]), hE⟩
end Go.Proofs.Ytaohdnhfodkeoaa

namespace Go.Proofs.Ytaohdnhfodkeoaa
open Go.RowKit Lz Tok Len Can Huf
def CountsTo (w : World) (L : List TokV) (e : Ending) (w' : World) : Prop := Ext w w' ∧
  ((L.all may = true ∧ ∃ A1 c1 A2 c2, e = .returned (.tuple #[.slice A1 265 c1, .slice A2 12 c2, .int .i64 0]) ∧ U32At w' w'.heap.size A1 265 (countsS L) ∧ U32At w' w'.heap.size A2 12 (countsF L)) ∨
    (L.all may = false ∧ e = .returned (.tuple #[.slice none 0 0, .slice none 0 0, .int .i64 7])))
def CountC (w : World) : Prop := ∀ (L : List TokV) (A : Option Addr) (n c : Nat) (W : World), Ext w W → n ≤ c → c ≤ maxLen → n ≤ 100000 → ToksAt W W.heap.size A n L → Calls Try.prog 15 #[.slice A n c] W (CountsTo W L)
def WriteC11 (w : World) : Prop := ∀ (L : List TokV) (A : Option Addr) (n c : Nat) (W : World), Ext w W → n ≤ c → c ≤ maxLen → n ≤ 100000 → ToksAt W W.heap.size A n L → Calls Try.prog 17 #[.slice A n c] W (PackTo W (writeE L))
def ReadC11 (w : World) : Prop := ∀ (b : List UInt8) (most : Int) (A : Option Addr) (c : Nat) (W : World), Ext w W → b.length ≤ c → c ≤ maxLen → b.length ≤ 100000 → Bytes W W.heap.size A b.length b → -9223372036854775808 ≤ most → most ≤ 9223372036854775807 → Calls Try.prog 20 #[.slice A b.length c, .int .i64 most] W (ReadTo W (readT b most))
theorem Tok.countsS_small {L : List TokV} (h : L.length ≤ 100000) : ∀ i, (countsS L).getD i 0 < 4294967296 := fun i => by
  rcases Nat.lt_or_ge i 265 with hi | hi
  · rw [countsS_at L hi]
    have := List.countP_le_length (p := isSym i) (l := L)
    split <;> omega
  · rw [List.getD_eq_getElem?_getD, List.getElem?_eq_none (by rw [countsS_len]; exact hi)]
    simp
theorem Tok.countsF_small {L : List TokV} (h : L.length ≤ 100000) : ∀ i, (countsF L).getD i 0 < 4294967296 := fun i => by
  rcases Nat.lt_or_ge i 12 with hi | hi
  · rw [countsF_at L hi]
    have := List.countP_le_length (p := isFar i) (l := L)
    omega
  · rw [List.getD_eq_getElem?_getD, List.getElem?_eq_none (by rw [countsF_len]; exact hi)]
    simp
section
variable {x y b : List UInt8} {most : Int}
theorem un_shape : ∀ (m q : Nat) (n : Int) (out : List TokV), 8 * b.length - q ≤ m → ((unT x y b most q n out).2 ≠ 0 → (unT x y b most q n out).1 = []) ∧ (unT x y b most q n out).1.length ≤ out.length + (8 * b.length - q)
  | m, q, n, out, hm => by
    rw [unT]
    split
    · exact ⟨fun _ => rfl, by simp⟩
    · split
      · split
        · exact ⟨fun h => absurd rfl h, Nat.le_add_right _ _⟩
        · exact ⟨fun _ => rfl, by simp⟩
      · split
        · exact ⟨fun _ => rfl, by simp⟩
        · split
          · exact ⟨fun _ => rfl, by simp⟩
          · split
            · rename_i hq
              match m, hm with
              | 0, hm => omega
              | m + 1, hm =>
                have IH := un_shape m (pieceT y b (getE x b q).1 (getE x b q).2.2).2.2 (n + sizeT (joinE (pieceT y b (getE x b q).1 (getE x b q).2.2).1).1) (out ++ [(joinE (pieceT y b (getE x b q).1 (getE x b q).2.2).1).1]) (by omega)
                refine ⟨IH.1, Nat.le_trans IH.2 ?_⟩
                rw [List.length_append, List.length_singleton]
                omega
            · exact ⟨fun _ => rfl, by simp⟩
end
theorem read_shape (b : List UInt8) (most : Int) : ((readT b most).2 ≠ 0 → (readT b most).1 = []) ∧ (readT b most).1.length ≤ 8 * b.length := by
  unfold readT
  split
  · exact ⟨fun _ => rfl, by simp⟩
  · split
    · exact ⟨fun _ => rfl, by simp⟩
    · split
      · exact ⟨fun _ => rfl, by simp⟩
      · have h := un_shape (x := (readE b 265 0).1) (y := (readE b 12 (readE b 265 0).2.2).1) (b := b) (most := most) _ (readE b 12 (readE b 265 0).2.2).2.2 0 [] (Nat.le_refl _)
        refine ⟨h.1, Nat.le_trans h.2 ?_⟩
        simp
theorem read_all_may (b : List UInt8) (most : Int) : (∀ t, t ∈ (readT b most).1 → may t = true) := by
  by_cases h : (readT b most).2 = 0
  · exact (read_may h).1
  · rw [(read_shape b most).1 h]
    intro t ht
    cases ht
set_option maxHeartbeats 2000000 in
set_option maxRecDepth 100000 in
theorem toksWrites_walk0 (A : Option Addr) (n c : Nat) (L : List TokV) (w : World) (hS : SplitC w) (hW : WriteC11 w) (hLn : RefLensC w) (hn : n ≤ c) (hc : c ≤ maxLen) (hT : ToksAt w w.heap.size A n L) :
    Calls Try.prog 6 #[.slice A n c] w fun e w' => e = .returned (.bool true) ∧ Ext w w' := by
  have C0 := alive11_any hS (Ext.refl w)
  by_cases hb2 : 500 < n
  · have hbI : (500 : Int) < (n : Int) := by omega
    go_enter Try.func6, Try.ntmps6
    go_wp2_with fail
    refine C0.mono ?_
    rintro e w1 ⟨rfl, hE1⟩
    go_wp2
    go_ret
    exact ⟨rfl, hE1⟩
  have hb2I : ¬ (500 : Int) < (n : Int) := by omega
  have HT := hide hT
  have HW := hide hW
  have HLn := hide hLn
  clear hT hW hLn
  go_enter Try.func6, Try.ntmps6
  go_wp2_with fail
  refine C0.mono ?_
  rintro e w1 ⟨rfl, hE1⟩
  have C1 := HW.out L A n c w1 hE1 hn hc (by omega) (HT.out.later hE1)
  clear C0
  go_wp2_with fail
  refine C1.mono ?_
  rintro e w2 ⟨v2, b2, rfl, hO2, hp2, hn2', hE2⟩
  have hF2 := hE1.trans hE2
  have C2 := refWrite11_any A n c L w2 (by omega) (HT.out.later hF2) (fun often limit A n c W hE => HLn.out often limit A n c W (hF2.trans hE))
  clear C1
  generalize writeE L = res at *
  go_wp2_with fail
  refine C2.mono ?_
  rintro e w3 ⟨v3, b3, rfl, hO3, hp3, hn3', hE3⟩
  have hF3 := hF2.trans hE3
  have hb : b2 = b3 := by
    by_cases he : res.2 = 0
    · exact (hp2 he).uniq (hp3 he)
    · rw [hn2' he, hn3' he]
  obtain ⟨A4, c4, rfl, _, _, h4⟩ := (hO2.ext hE3).form
  obtain ⟨A5, c5, rfl, _, _, h5⟩ := hO3.form
  have CS := same_any _ _ _ _ c4 c5 _ _ _ h4 h5
  rw [sameB_true hb] at CS
  have heb : (res.2 == res.2) = true := by simp
  clear hp2 hn2' hp3 hn3' C2 hO2 hO3 h4 h5
  generalize res.2 = er at *
  generalize b2.length = k2 at *
  generalize b3.length = k3 at *
  go_wp2_with fail
  refine CS.mono ?_
  rintro e w4 ⟨rfl, hE4⟩
  go_wp2
  go_ret
  exact ⟨rfl, hF3.trans hE4⟩
set_option maxHeartbeats 2000000 in
set_option maxRecDepth 100000 in
theorem toksReads_walk0 (A : Option Addr) (n c : Nat) (b : List UInt8) (most : Int) (w : World) (hS : SplitC w) (hR : ReadC11 w) (hn : n ≤ c) (hc : c ≤ maxLen) (hB : Bytes w w.heap.size A n b) (hm0 : -9223372036854775808 ≤ most) (hm1 : most ≤ 9223372036854775807) :
    Calls Try.prog 7 #[.slice A n c, .int .i64 most] w fun e w' => e = .returned (.bool true) ∧ Ext w w' := by
  have hl := hB.1
  subst hl
  have C0 := alive11_any hS (Ext.refl w)
  by_cases hb2 : 600 < b.length
  · have hbI : (600 : Int) < (b.length : Int) := by omega
    go_enter Try.func7, Try.ntmps7
    go_wp2_with fail
    refine C0.mono ?_
    rintro e w1 ⟨rfl, hE1⟩
    go_wp2
    go_ret
    exact ⟨rfl, hE1⟩
  have hb2I : ¬ (600 : Int) < (b.length : Int) := by omega
  have HB := hide hB
  have HR := hide hR
  clear hB hR
  go_enter Try.func7, Try.ntmps7
  go_wp2_with fail
  refine C0.mono ?_
  rintro e w1 ⟨rfl, hE1⟩
  have C1 := HR.out b most A c w1 hE1 hn hc (by omega) (hE1.bytes HB.out) hm0 hm1
  clear C0
  go_wp2_with fail
  refine C1.mono ?_
  rintro e w2 ⟨v2, rfl, hO2, hE2⟩
  have hF2 := hE1.trans hE2
  have C2 := refRead11_any A c b most w2 (by omega) (hF2.bytes HB.out) hm0 hm1
  have hsh := (read_shape b most).2
  have hmay := read_all_may b most
  clear C1
  generalize readT b most = res at *
  go_wp2_with fail
  refine C2.mono ?_
  rintro e w3 ⟨v3, rfl, hO3, hE3⟩
  have hF3 := hF2.trans hE3
  obtain ⟨A4, c4, rfl, _, _, h4⟩ := (hO2.ext hE3).at (fun t ht => may_ok (hmay t ht))
  obtain ⟨A5, c5, rfl, _, _, h5⟩ := hO3.at (fun t ht => may_ok (hmay t ht))
  have CS := refTSame_any A4 A5 c4 c5 _ _ h4 h5 (by omega)
  have heb : (res.2 == res.2) = true := by simp
  clear C2 hO2 hO3 h4 h5 hmay hsh
  generalize res.2 = er at *
  generalize res.1.length = k2 at *
  go_wp2_with fail
  refine CS.mono ?_
  rintro e w4 ⟨rfl, hE4⟩
  go_wp2
  go_ret
  exact ⟨rfl, hF3.trans hE4⟩
set_option maxHeartbeats 2000000 in
set_option maxRecDepth 100000 in
theorem toksMay_walk0 (A : Option Addr) (n c : Nat) (b : List UInt8) (most : Int) (w : World) (hS : SplitC w) (hR : ReadC11 w) (hn : n ≤ c) (hc : c ≤ maxLen) (hB : Bytes w w.heap.size A n b) (hm0 : -9223372036854775808 ≤ most) (hm1 : most ≤ 9223372036854775807) :
    Calls Try.prog 9 #[.slice A n c, .int .i64 most] w fun e w' => e = .returned (.bool true) ∧ Ext w w' := by
  have hl := hB.1
  subst hl
  have C0 := alive11_any hS (Ext.refl w)
  by_cases hb2 : 3000 < b.length
  · have hbI : (3000 : Int) < (b.length : Int) := by omega
    go_enter Try.func9, Try.ntmps9
    go_wp2_with fail
    refine C0.mono ?_
    rintro e w1 ⟨rfl, hE1⟩
    go_wp2
    go_ret
    exact ⟨rfl, hE1⟩
  have hb2I : ¬ (3000 : Int) < (b.length : Int) := by omega
  have HB := hide hB
  have HR := hide hR
  clear hB hR
  have hsh := read_shape b most
  have hlen := hsh.2
  have hmay := read_all_may b most
  have hsum := fun h => (read_may (b := b) (most := most) h).2
  go_enter Try.func9, Try.ntmps9
  go_wp2_with fail
  refine C0.mono ?_
  rintro e w1 ⟨rfl, hE1⟩
  have C1 := HR.out b most A c w1 hE1 hn hc (by omega) (hE1.bytes HB.out) hm0 hm1
  clear C0
  generalize readT b most = res at *
  obtain ⟨L, er⟩ := res
  unfold ReadTo at C1
  dsimp only at C1 hsh hlen hmay hsum
  go_wp2_with fail
  refine C1.mono ?_
  rintro e w2 ⟨v2, rfl, hO2, hE2⟩
  have hF2 := hE1.trans hE2
  obtain ⟨A4, c4, rfl, _, _, h4⟩ := hO2.at (fun t ht => may_ok (hmay t ht))
  have hlen2 : L.length ≤ 24000 := by omega
  clear C1 hO2 hE2
  by_cases he : er = 0
  · subst he
    have hs := hsum rfl
    have HS := hide hs
    have HNx := hide (show ∀ i, i < L.length → sumSz (L.take (i + 1)) = sumSz (L.take i) + sizeT (L.getD i default) from fun i hi => sumSz_next hi)
    have HAll := hide (show sumSz (L.take L.length) = sumSz L by rw [List.take_length])
    have H0 := hide (show sumSz (L.take 0) = 0 from rfl)
    have HMay := hide (show ∀ i, i < L.length → may (L.getD i default) = true from fun i hi => hmay _ (by
      rw [List.getD_eq_getElem?_getD, List.getElem?_eq_getElem hi]
      exact List.getElem_mem hi))
    have H4 := hide h4
    clear h4 hmay hsum hsh hs hlen
    go_wp2_with fail
    go_loopw [7, 8] (fun s x wr => ∃ i u : Nat, i ≤ L.length ∧ x = .int .i64 (i : Int) ∧ s = .int .i64 (u : Int) ∧ u = sumSz (L.take i) ∧ u ≤ 257 * i ∧ Ext w2 wr) (fun _ x _ => L.length - (intOf x).toNat)
    case atStart => exact ⟨0, 0, by omega, rfl, rfl, H0.out.symm, by omega, Ext.refl _⟩
    case round =>
      obtain ⟨i, u, hi, rfl, rfl, hu, hub, hE⟩ := hrel
      by_cases hlt : i < L.length
      · have hiI : (i : Int) < (L.length : Int) := by omega
        rcases (H4.out.later hE).2 with h0 | ⟨b1, o1, rfl, _, hc1⟩
        · omega
        have hAt := (hc1 i hlt).1
        have CT := refTMay_any (L.getD i default) wr
        rw [HMay.out i hlt] at CT
        unfold tokV at CT
        have hsm := size_small (HMay.out i hlt)
        have hnx := HNx.out i hlt
        rw [← hu] at hnx
        have hsz : sizeT (L.getD i default) = if (L.getD i default).len = 0 then 1 else (L.getD i default).len.toNat := rfl
        generalize L.getD i default = tk at *
        generalize sizeT tk = sz at *
        have HAt := hide hAt
        obtain ⟨c0, c1', c2'⟩ := hAt.cells
        generalize (tk.lit.toNat : Int) = z at *
        obtain ⟨tz, tl, td⟩ := tk
        dsimp only at hsz hsm CT c0 c1' c2'
        have HNx2 := hide hnx
        clear hc1 hnx hu hAt
        obtain ⟨hs1, hs2⟩ := hsm
        go_wp2_with fail
        refine CT.mono ?_
        rintro e w5 ⟨rfl, hE5⟩
        have k1 : w5.cell? ⟨b1, o1 + i * 3 + 1, none⟩ = some (.int .i64 tl) := (hE5.cell (World.block_lt_of_cell? wr _ c1')).trans c1'
        have hE' := hE.trans hE5
        clear CT c0 c1' c2'
        by_cases h0 : tl = 0
        · rw [if_pos h0] at hsz
          subst h0
          subst hsz
          clear hs1 hs2
          go_wp2
          go_roundw
          case rel => exact ⟨i + 1, u + 1, by omega, by go_num, by go_num, HNx2.out.symm, by omega, hE'⟩
          case measure => simp [intOf]; omega
        · rw [if_neg h0] at hsz
          obtain ⟨N, rfl⟩ := Int.eq_ofNat_of_zero_le (show 0 ≤ tl by omega)
          rw [Int.toNat_natCast] at hsz
          subst hsz
          have hn0 : (0 : Int) < (sz : Int) := by omega
          have hn300 : (sz : Int) < 300 := by omega
          clear hs1 h0
          go_wp2
          go_roundw
          case rel => exact ⟨i + 1, u + sz, by omega, by go_num, by go_num, HNx2.out.symm, by omega, hE'⟩
          case measure => simp [intOf]; omega
      · obtain rfl : L.length = i := by omega
        have hs := HS.out
        rw [HAll.out] at hu
        rw [← hu] at hs
        clear hu
        go_wp2
        go_ret
        exact ⟨rfl, hF2.trans hE⟩
  · obtain rfl := hsh.1 he
    have hnb : ((er : Int) != 0) = true := by rw [bne_iff_ne]; exact he
    have hnl : ([] : List TokV).length = 0 := rfl
    rw [hnl]
    clear h4 hmay hsum hsh hlen hlen2 he hnl
    go_wp2
    go_ret
    exact ⟨rfl, hF2⟩
end Go.Proofs.Ytaohdnhfodkeoaa

namespace Go.Proofs.Ytaohdnhfodkeoaa
open Go.RowKit
def IntsL (w : World) (B : Nat) (A : Option Addr) (n : Nat) (L : List Int) : Prop :=
  L.length = n ∧ (n = 0 ∨ ∃ b off, A = some ⟨b, off, none⟩ ∧ b < B ∧ ∀ i, i < n → w.cell? ⟨b, off + i, none⟩ = some (.int .i64 (L.getD i 0)))
def OwnL (w : World) (base : Nat) (v : Value) (L : List Int) : Prop := w.ownsRow base 3 1 v L.length (L.map (Value.int .i64))
theorem intL_info : (Try.prog.info? 3).map (fun i => (i.zero, i.size, i.bytes)) = some (some (.int .i64 0), 1, 8) := by kernel_rfl
theorem OwnL.nil (w : World) (base : Nat) : OwnL w base (.slice none 0 0) [] := World.ownsRow_nil w base _ _
theorem OwnL.ext {w w' : World} {base : Nat} {v : Value} {L : List Int} (h : OwnL w base v L) (hE : Ext w w') : OwnL w' base v L :=
  World.ownsRow.kept h (hE.grown none) (by cases hv : v.ownBlock <;> simp)
theorem OwnL.lt {w : World} {base : Nat} {v : Value} {L : List Int} (h : OwnL w base v L) : ∀ k, v.ownBlock = some k → base ≤ k ∧ k < w.heap.size := World.ownsRow.lt h
theorem OwnL.form {w : World} {base : Nat} {v : Value} {L : List Int} (h : OwnL w base v L) : ∃ A c, v = .slice A L.length c ∧ L.length ≤ c ∧ IntsL w w.heap.size A L.length L := by
  have hl := h.lt
  rcases h.2 with ⟨rfl, h0⟩ | ⟨g, cap, cur, rfl, hb, hg, hn, hc, hs, ht⟩
  · exact ⟨none, 0, by rw [h0], by omega, rfl, .inl h0⟩
  · refine ⟨_, cap, rfl, hn, rfl, .inr ⟨g, 0, rfl, (hl g rfl).2, fun i hi => ?_⟩⟩
    have hk := World.ownsRow.cellAt h i (by omega)
    rw [Nat.zero_add, hk]
    simp [hi]
end Go.Proofs.Ytaohdnhfodkeoaa

namespace Go.Proofs.Ytaohdnhfodkeoaa
open Go.RowKit Len
abbrev RawI := Nat × Value
def rawC (y : RawI) : List Value := [.int .u64 ((y.1 : Nat) : Int), y.2]
theorem item_info : (Try.prog.info? 106).map (fun i => (i.zero, i.size, i.bytes)) = some (some (.agg #[.int .u64 0, .slice none 0 0]), 2, 32) := by kernel_rfl
theorem rawC_get : ∀ (Y : List RawI) (i j : Nat), i < Y.length → j < 2 → (Y.flatMap rawC)[i * 2 + j]? = (rawC (Y.getD i (0, undef)))[j]?
  | y :: Y, 0, j, _, hj => by
    rw [List.flatMap_cons, Nat.zero_mul, Nat.zero_add, List.getElem?_append_left (by simp [rawC]; omega)]
    rfl
  | y :: Y, i + 1, j, h, hj => by
    rw [List.flatMap_cons, List.getElem?_append_right (by simp [rawC]; omega)]
    have := rawC_get Y i j (by simpa using h) hj
    rw [show (i + 1) * 2 + j - (rawC y).length = i * 2 + j by simp [rawC]; omega, this]
    simp
theorem rawC_len : ∀ Y : List RawI, (Y.flatMap rawC).length = Y.length * 2
  | [] => rfl
  | y :: Y => by rw [List.flatMap_cons, List.length_append, rawC_len Y]; simp [rawC]; omega
def OwnY (w : World) (base : Nat) (v : Value) (Y : List RawI) : Prop := w.ownsRow base 106 2 v Y.length (Y.flatMap rawC)
def SaysY (w : World) (B : Nat) (Y : List RawI) (X : List Len.Item) : Prop := Y.length = X.length ∧ ∀ i, i < X.length → (Y.getD i (0, undef)).1 = (X.getD i (0, [])).1 ∧ OwnL w 0 (Y.getD i (0, undef)).2 ((X.getD i (0, [])).2.map Int.ofNat) ∧ ∀ k, (Y.getD i (0, undef)).2.ownBlock = some k → k < B
def ItL (w : World) (base : Nat) (v : Value) (X : List Len.Item) : Prop := ∃ Y, OwnY w base v Y ∧ SaysY w w.heap.size Y X
section
variable {w w' : World} {base g : Nat} {v u : Value} {Y : List RawI} {X : List Len.Item} {L : List Int}
theorem OwnY.lt (h : OwnY w base v Y) : ∀ k, v.ownBlock = some k → base ≤ k ∧ k < w.heap.size := World.ownsRow.lt h
theorem OwnL.notY (h : OwnL w 0 u L) (hY : OwnY w base v Y) (hg : v.ownBlock = some g) : u.ownBlock ≠ some g := by
  intro e
  rcases h.2 with ⟨rfl, _⟩ | ⟨g1, c1, cur1, rfl, _, h1, _⟩
  · cases e
  rcases hY.2 with ⟨rfl, _⟩ | ⟨g2, c2, cur2, rfl, _, h2, _⟩
  · cases hg
  simp only [Value.ownBlock, Option.some.injEq] at e hg
  subst e
  subst hg
  rw [h1] at h2
  simp only [Option.some.injEq, Obj.cells.injEq] at h2
  exact absurd h2.2.1 (by decide)
theorem SaysY.ext {B : Nat} (h : SaysY w B Y X) (hE : Ext w w') : SaysY w' B Y X := ⟨h.1, fun i hi => ⟨(h.2 i hi).1, (h.2 i hi).2.1.ext hE, (h.2 i hi).2.2⟩⟩
theorem SaysY.up {B C : Nat} (h : SaysY w B Y X) (hB : B ≤ C) : SaysY w C Y X := ⟨h.1, fun i hi => ⟨(h.2 i hi).1, (h.2 i hi).2.1, fun k hk => Nat.lt_of_lt_of_le ((h.2 i hi).2.2 k hk) hB⟩⟩
theorem SaysY.grownY {B : Nat} {Y2 : List RawI} (h : SaysY w B Y X) (hY : OwnY w base v Y2) (hG : w.grownBy w' v.ownBlock) : SaysY w' B Y X := ⟨h.1, fun i hi => ⟨(h.2 i hi).1, World.ownsRow.kept (h.2 i hi).2.1 hG (by
  cases hb : v.ownBlock with
  | none => cases (Y.getD i (0, undef)).2.ownBlock <;> simp
  | some g => exact .inr ((h.2 i hi).2.1.notY hY hb)), (h.2 i hi).2.2⟩⟩
theorem OwnY.ext (h : OwnY w base v Y) (hE : Ext w w') : OwnY w' base v Y := World.ownsRow.kept h (hE.grown none) (by cases hv : v.ownBlock <;> simp)
theorem OwnY.mono {b' : Nat} (h : OwnY w base v Y) (hb : b' ≤ base) : OwnY w b' v Y := ⟨h.1, h.2.elim Or.inl fun ⟨g, cap, cur, hv, hg, r⟩ => Or.inr ⟨g, cap, cur, hv, Nat.le_trans hb hg, r⟩⟩
theorem ItL.ext (h : ItL w base v X) (hE : Ext w w') : ItL w' base v X := by
  obtain ⟨Y, h1, h2⟩ := h
  exact ⟨Y, h1.ext hE, (h2.ext hE).up hE.le⟩
theorem ItL.mono {b' : Nat} (h : ItL w base v X) (hb : b' ≤ base) : ItL w b' v X := by
  obtain ⟨Y, h1, h2⟩ := h
  exact ⟨Y, h1.mono hb, h2⟩
theorem ItL.nil (w : World) (base : Nat) : ItL w base (.slice none 0 0) [] := ⟨[], World.ownsRow_nil w base _ _, rfl, fun i hi => absurd hi (by simp)⟩
theorem ItL.lt (h : ItL w base v X) : ∀ k, v.ownBlock = some k → base ≤ k ∧ k < w.heap.size := by
  obtain ⟨Y, h1, _⟩ := h
  exact h1.lt
theorem OwnY.form (h : OwnY w base v Y) : ∃ A c, v = .slice A Y.length c ∧ Y.length ≤ c ∧ c ≤ maxLen ∧ (Y.length = 0 ∨ ∃ g, A = some ⟨g, 0, none⟩ ∧ ∀ i, i < Y.length → w.cell? ⟨g, i * 2, none⟩ = some (.int .u64 (((Y.getD i (0, undef)).1 : Nat) : Int)) ∧ w.cell? ⟨g, i * 2 + 1, none⟩ = some (Y.getD i (0, undef)).2) := by
  rcases h.2 with ⟨rfl, h0⟩ | ⟨g, cap, cur, rfl, hb, hgg, hn, hc, hs, ht⟩
  · exact ⟨none, 0, by rw [h0], by omega, by unfold maxLen; omega, .inl h0⟩
  · refine ⟨_, cap, rfl, hn, hc, .inr ⟨g, rfl, fun i hi => ?_⟩⟩
    have hcell : ∀ j, j < 2 → w.cell? ⟨g, i * 2 + j, none⟩ = (rawC (Y.getD i (0, undef)))[j]? := fun j hj => by
      rw [cell_of_row w g (i * 2 + j) cur _ _ hgg, ← rawC_get Y i j hi hj, ← ht, List.getElem?_take, if_pos (by omega)]
      simp
    exact ⟨(hcell 0 (by omega)).trans (by simp [rawC]), (hcell 1 (by omega)).trans (by simp [rawC])⟩
structure AtI (w : World) (B : Nat) (A : Option Addr) (i : Nat) (x : Len.Item) : Prop where
  ex : ∃ g q C, A = some ⟨g, 0, none⟩ ∧ w.cell? ⟨g, i * 2, none⟩ = some (.int .u64 ((x.1 : Nat) : Int)) ∧ w.cell? ⟨g, i * 2 + 1, none⟩ = some (.slice q x.2.length C) ∧ OwnL w 0 (.slice q x.2.length C) (x.2.map Int.ofNat) ∧ ∀ k, (Value.slice q x.2.length C).ownBlock = some k → k < B
theorem ItL.form (h : ItL w base v X) : ∃ A c, v = .slice A X.length c ∧ X.length ≤ c ∧ c ≤ maxLen ∧ ∀ i, i < X.length → AtI w w.heap.size A i (X.getD i (0, [])) := by
  obtain ⟨Y, h1, h2, h3⟩ := h
  obtain ⟨A, c, rfl, hc, hm, hA⟩ := h1.form
  rw [h2] at hc hA ⊢
  refine ⟨A, c, rfl, hc, hm, fun i hi => ?_⟩
  rcases hA with h0 | ⟨g, rfl, hg⟩
  · omega
  obtain ⟨k1, k2⟩ := hg i hi
  obtain ⟨e1, e2, e3⟩ := h3 i hi
  obtain ⟨q, C, hq, _, _⟩ := e2.form
  rw [List.length_map] at hq
  rw [hq] at k2 e2 e3
  rw [e1] at k1
  exact ⟨g, q, C, rfl, k1, k2, e2, e3⟩
end
section
variable {o : Oper} {a : Act} {Q : Exit → Act → World → Prop} {w : World} {base : Nat} {v : Value} {X : List Len.Item}
set_option maxRecDepth 100000 in
theorem wpList_appY {ops : Array Oper} {rest : List Oper} (hgd : o.guard = none) (s x : Operand) (ho : o.op = .call { callee := .builtin .append, args := #[s, x], argTypes := #[103, 103] }) (hs : a.eval s = v) {q : Option Addr} {C : Nat} {it : Len.Item}
    (hown : ItL w base v X) (hit : OwnL w 0 (.slice q it.2.length C) (it.2.map Int.ofNat)) {c : Nat} (hx : a.eval x = .slice (some ⟨w.heap.size, 0, none⟩) 1 c) (hlen : X.length ≤ 1000) (hbase : base ≤ w.heap.size)
    (h : ∀ v' w', ItL w' base v' (X ++ [it]) → (w.alloc (.cells #[.int .u64 ((it.1 : Nat) : Int), .slice q it.2.length C] 106)).grownBy w' v.ownBlock → (v'.ownBlock = v.ownBlock ∨ v'.ownBlock = some (w.heap.size + 1)) → wpList Try.prog ops Q rest (a.put o.dst v') w') :
    wpList Try.prog ops Q (o :: rest) a (w.alloc (.cells #[.int .u64 ((it.1 : Nat) : Int), .slice q it.2.length C] 106)) := by
  obtain ⟨Y, h1, h2⟩ := hown
  obtain ⟨i, hi, hz, hsz, hby⟩ := info_parts item_info
  have hE := extNew w (.cells #[.int .u64 ((it.1 : Nat) : Int), .slice q it.2.length C] 106)
  have h1E := h1.ext hE
  refine wpList_append_own_at _ hgd s x 103 ho base 106 i _ 2 32 Try.underlying103 hi hz hsz hby rfl (by omega) v Y.length (Y.flatMap rawC) hs h1E ⟨w.heap.size, 0, none⟩ 1 c (rawC (it.1, .slice q it.2.length C)) hx rfl (by
    intro j u hu
    rw [show (⟨w.heap.size, 0, none⟩ : Addr).add j = ⟨w.heap.size, j, none⟩ by unfold Addr.add; split <;> simp_all, cellNew]
    match j, hu with
    | 0, hu => simpa [rawC] using hu
    | 1, hu => simpa [rawC] using hu
    | j + 2, hu => simp [rawC] at hu) (by
    intro u hu
    simp [rawC] at hu
    rcases hu with rfl | rfl <;> rfl) (by unfold maxLen; have := h2.1; omega) (by have := h2.1; omega) (by simp; omega) ?_
  intro v' w' h4 h5 _ h6
  rw [World.size_alloc] at h6
  have hS := h5.size
  rw [World.size_alloc] at hS
  refine h v' w' ⟨Y ++ [(it.1, .slice q it.2.length C)], ?_, ?_⟩ h5 h6
  · unfold OwnY
    rw [List.length_append, List.flatMap_append]
    simpa using h4
  · have k1 := ((h2.ext hE).grownY h1E h5).up (C := w'.heap.size) (by omega)
    have k2 : OwnL w' 0 (.slice q it.2.length C) (it.2.map Int.ofNat) := World.ownsRow.kept (hit.ext hE) h5 (by
      cases hb : v.ownBlock with
      | none => cases (Value.slice q it.2.length C).ownBlock <;> simp
      | some g => exact .inr ((hit.ext hE).notY h1E hb))
    refine ⟨by simp [h2.1], fun j hj => ?_⟩
    have hl := h2.1
    by_cases hjl : j < X.length
    · have e1 : (X ++ [it]).getD j (0, []) = X.getD j (0, []) := by simp [List.getD_eq_getElem?_getD, List.getElem?_append_left hjl]
      have e2 : (Y ++ [(it.1, Value.slice q it.2.length C)]).getD j (0, undef) = Y.getD j (0, undef) := by simp [List.getD_eq_getElem?_getD, List.getElem?_append_left (by omega : j < Y.length)]
      rw [e1, e2]
      exact k1.2 j hjl
    · have hjx : j = X.length := by simp at hj; omega
      subst hjx
      have e1 : (X ++ [it]).getD X.length (0, []) = it := by simp [List.getD_eq_getElem?_getD]
      have e2 : (Y ++ [(it.1, Value.slice q it.2.length C)]).getD X.length (0, undef) = (it.1, .slice q it.2.length C) := by rw [← hl]; simp [List.getD_eq_getElem?_getD]
      rw [e1, e2]
      exact ⟨rfl, k2, fun k hk => (k2.lt k hk).2⟩
end
end Go.Proofs.Ytaohdnhfodkeoaa

namespace Go.Proofs.Ytaohdnhfodkeoaa
open Go.RowKit Len
theorem AtI.ext {w w' : World} {A : Option Addr} {i : Nat} {x : Len.Item} (h : AtI w w.heap.size A i x) (hE : Ext w w') : AtI w' w'.heap.size A i x := by
  obtain ⟨g, q, C, rfl, k1, k2, k3, k4⟩ := h.ex
  have hg : g < w.heap.size := World.block_lt_of_cell? w _ k1
  exact ⟨g, q, C, rfl, (hE.cell hg).trans k1, (hE.cell hg).trans k2, k3.ext hE, fun k hk => Nat.lt_of_lt_of_le (k4 k hk) hE.le⟩
theorem drop_at {X : List Len.Item} {i : Nat} (h : i < X.length) : X.drop i = X.getD i (0, []) :: X.drop (i + 1) := by
  rw [List.drop_eq_getElem_cons h, List.getD_eq_getElem?_getD, List.getElem?_eq_getElem h]
  rfl
theorem merge_first {X1 X2 P : List Len.Item} {i k : Nat} (hi : i < X1.length) (h : k = X2.length ∨ k < X2.length ∧ (X1.getD i (0, [])).1 ≤ (X2.getD k (0, [])).1) (hP : P ++ mergeI (X1.drop i) (X2.drop k) = mergeI X1 X2) :
    (P ++ [X1.getD i (0, [])]) ++ mergeI (X1.drop (i + 1)) (X2.drop k) = mergeI X1 X2 := by
  rw [← hP, List.append_assoc]
  congr 1
  rw [drop_at hi]
  rcases h with rfl | ⟨hk, hle⟩
  · rw [List.drop_length, mergeI_nil, mergeI_nil]
    rfl
  · rw [drop_at hk, mergeI_cons, if_pos hle]
    rfl
theorem merge_second {X1 X2 P : List Len.Item} {i k : Nat} (hk : k < X2.length) (h : i = X1.length ∨ i < X1.length ∧ ¬ (X1.getD i (0, [])).1 ≤ (X2.getD k (0, [])).1) (hP : P ++ mergeI (X1.drop i) (X2.drop k) = mergeI X1 X2) :
    (P ++ [X2.getD k (0, [])]) ++ mergeI (X1.drop i) (X2.drop (k + 1)) = mergeI X1 X2 := by
  rw [← hP, List.append_assoc]
  congr 1
  rw [drop_at hk]
  rcases h with rfl | ⟨hi, hle⟩
  · rw [List.drop_length, nil_mergeI, nil_mergeI]
    rfl
  · rw [drop_at hi, mergeI_cons, if_neg hle]
    rfl
set_option maxHeartbeats 4000000 in
set_option maxRecDepth 100000 in
theorem refMerge_any (v1 v2 : Value) (b1 b2 : Nat) (X1 X2 : List Len.Item) (w : World) (h1 : ItL w b1 v1 X1) (h2 : ItL w b2 v2 X2) (l1 : X1.length ≤ 400) (l2 : X2.length ≤ 400) :
    Calls Try.prog 56 #[v1, v2] w fun e w' => ∃ v, e = .returned v ∧ ItL w' w.heap.size v (mergeI X1 X2) ∧ Ext w w' := by
  obtain ⟨A1, c1, rfl, _, _, f1⟩ := h1.form
  obtain ⟨A2, c2, rfl, _, _, f2⟩ := h2.form
  have F1 := hide f1
  have F2 := hide f2
  have HM := hide (fun (i k : Nat) (P : List Len.Item) a b c => merge_first (X1 := X1) (X2 := X2) (P := P) (i := i) (k := k) a b c)
  have HS := hide (fun (i k : Nat) (P : List Len.Item) a b c => merge_second (X1 := X1) (X2 := X2) (P := P) (i := i) (k := k) a b c)
  have H0 := hide (show [] ++ mergeI (X1.drop 0) (X2.drop 0) = mergeI X1 X2 by simp)
  have HE := hide (show ∀ P : List Len.Item, P ++ mergeI (X1.drop X1.length) (X2.drop X2.length) = mergeI X1 X2 → P = mergeI X1 X2 from fun P h => by rw [List.drop_length, List.drop_length, nil_mergeI, List.append_nil] at h; exact h)
  obtain ⟨n1, hn1⟩ : ∃ n, n = X1.length := ⟨_, rfl⟩
  obtain ⟨n2, hn2⟩ : ∃ n, n = X2.length := ⟨_, rfl⟩
  rw [← hn1] at l1 ⊢
  rw [← hn2] at l2 ⊢
  have HN1 := hide hn1
  have HN2 := hide hn2
  clear f1 f2 h1 h2 hn1 hn2
  generalize mergeI X1 X2 = res at *
  go_enter Try.func56, Try.ntmps56
  go_wp2_with fail
  go_loopw [5, 6, 7] (fun u a b wr => ∃ (i k : Nat) (P : List Len.Item), i ≤ n1 ∧ k ≤ n2 ∧ a = .int .i64 (i : Int) ∧ b = .int .i64 (k : Int) ∧ P.length = i + k ∧ P ++ mergeI (X1.drop i) (X2.drop k) = res ∧ ItL wr w.heap.size u P ∧ Ext w wr) (fun _ a b _ => n1 + n2 - ((intOf a).toNat + (intOf b).toNat))
  case atStart => exact ⟨0, 0, [], by omega, by omega, rfl, rfl, rfl, H0.out, ItL.nil _ _, Ext.refl _⟩
  case round =>
    obtain ⟨i, k, P, hi, hk, rfl, rfl, hPl, hP, hI, hE⟩ := hrel
    have HP := hide hP
    have hPl10 : P.length ≤ 1000 := by omega
    have HPl := hide hPl
    clear hP hPl
    by_cases hk2 : k = n2
    · subst hk2
      by_cases hi1 : i = n1
      · subst hi1
        have HR := hide (show P = res by
          have := HP.out
          have e1 := HN1.out
          have e2 := HN2.out
          rw [e1, e2] at this
          exact HE.out P this)
        have hx1 : ¬ ((i : Int) < (i : Int)) := by omega
        have hx2 : ¬ ((k : Int) < (k : Int)) := by omega
        go_wp2
        go_ret
        exact ⟨_, rfl, by rw [← HR.out]; exact hI, hE⟩
      · have hi2 : i < n1 := by omega
        obtain ⟨g, q, C, rfl, j1, j2, j3, j4⟩ := ((F1.out i (by rw [← HN1.out]; exact hi2)).ext hE).ex
        have HP2 := hide (HM.out i k P (by rw [← HN1.out]; exact hi2) (.inl HN2.out) HP.out)
        generalize X1.getD i (0, []) = it at *
        have hd1 : (i : Int) < (n1 : Int) := by omega
        have hq2 : ((k : Int) == (k : Int)) = true := by simp
        clear hi1
        go_wp2_with fail
        go_quiet (fail)
        have hEq : Ext wr (wr.drewN nq) := (Ext.refl wr).drewN nq
        generalize wr.drewN nq = w3 at hEq ⊢
        have hg : g < wr.heap.size := World.block_lt_of_cell? wr _ j1
        have j1' := (hEq.cell hg).trans j1
        have j2' := (hEq.cell hg).trans j2
        have hI3 := hI.ext hEq
        have hE3 := hE.trans hEq
        have hb3 := hE3.le
        clear j1 j2 hI
        go_wp2_with (at_builtin; refine wpList_appY rfl (.tmp 41) (.tmp 46) rfl rfl hI3 (j3.ext hEq) rfl hPl10 hb3 ?_; intro v5 w5 hI5 hG5 hN5)
        have hEa := extNew w3 (.cells #[.int .u64 ((it.1 : Nat) : Int), .slice q it.2.length C] 106)
        have hE5 : Ext w w5 := Below.grown (hE3.trans hEa) hG5 (hE3.trans hEa).le (fun k hk => (hI3.lt k hk).1)
        go_roundw
        case rel => exact ⟨i + 1, k, _, by omega, by omega, by go_num, rfl, by rw [List.length_append, HPl.out, List.length_singleton]; omega, HP2.out, hI5, hE5⟩
        case measure => simp [intOf]; omega
    · have hk3 : k < n2 := by omega
      have hkI : (k : Int) < (n2 : Int) := by omega
      have hq2 : ((k : Int) == (n2 : Int)) = false := by simp; omega
      obtain ⟨g2, q2, C2, rfl, m1, m2, m3, m4⟩ := ((F2.out k (by rw [← HN2.out]; exact hk3)).ext hE).ex
      by_cases hi1 : i = n1
      · subst hi1
        have HP2 := hide (HS.out i k P (by rw [← HN2.out]; exact hk3) (.inl HN1.out) HP.out)
        generalize X2.getD k (0, []) = it at *
        have hx1 : ¬ ((i : Int) < (i : Int)) := by omega
        have hd1 : decide ((i : Int) < (i : Int)) = false := decide_eq_false (by omega)
        clear hk2
        go_wp2_with fail
        go_quiet (fail)
        have hEq : Ext wr (wr.drewN nq) := (Ext.refl wr).drewN nq
        generalize wr.drewN nq = w3 at hEq ⊢
        have hg : g2 < wr.heap.size := World.block_lt_of_cell? wr _ m1
        have j1' := (hEq.cell hg).trans m1
        have j2' := (hEq.cell hg).trans m2
        have hI3 := hI.ext hEq
        have hE3 := hE.trans hEq
        have hb3 := hE3.le
        clear m1 m2 hI
        go_wp2_with (at_builtin; refine wpList_appY rfl (.tmp 50) (.tmp 55) rfl rfl hI3 (m3.ext hEq) rfl hPl10 hb3 ?_; intro v5 w5 hI5 hG5 hN5)
        have hEa := extNew w3 (.cells #[.int .u64 ((it.1 : Nat) : Int), .slice q2 it.2.length C2] 106)
        have hE5 : Ext w w5 := Below.grown (hE3.trans hEa) hG5 (hE3.trans hEa).le (fun k hk => (hI3.lt k hk).1)
        go_roundw
        case rel => exact ⟨i, k + 1, _, by omega, by omega, rfl, by go_num, by rw [List.length_append, HPl.out, List.length_singleton]; omega, HP2.out, hI5, hE5⟩
        case measure => simp [intOf]; omega
      · have hi2 : i < n1 := by omega
        have hd1 : (i : Int) < (n1 : Int) := by omega
        have hd1b : decide ((i : Int) < (n1 : Int)) = true := decide_eq_true hd1
        obtain ⟨g, q, C, rfl, j1, j2, j3, j4⟩ := ((F1.out i (by rw [← HN1.out]; exact hi2)).ext hE).ex
        by_cases hle : (X1.getD i (0, [])).1 ≤ (X2.getD k (0, [])).1
        · have HP2 := hide (HM.out i k P (by rw [← HN1.out]; exact hi2) (.inr ⟨by rw [← HN2.out]; exact hk3, hle⟩) HP.out)
          generalize X1.getD i (0, []) = it at *
          generalize X2.getD k (0, []) = it2 at *
          have hleI : ((it.1 : Nat) : Int) ≤ ((it2.1 : Nat) : Int) := by omega
          have hled : decide (((it.1 : Nat) : Int) ≤ ((it2.1 : Nat) : Int)) = true := decide_eq_true hleI
          clear hk2 hi1 hle
          go_wp2_with fail
          go_quiet (fail)
          have hEq : Ext wr (wr.drewN nq) := (Ext.refl wr).drewN nq
          generalize wr.drewN nq = w3 at hEq ⊢
          have hg : g < wr.heap.size := World.block_lt_of_cell? wr _ j1
          have j1' := (hEq.cell hg).trans j1
          have j2' := (hEq.cell hg).trans j2
          have hI3 := hI.ext hEq
          have hE3 := hE.trans hEq
          have hb3 := hE3.le
          clear j1 j2 hI m1 m2
          go_wp2_with (at_builtin; refine wpList_appY rfl (.tmp 41) (.tmp 46) rfl rfl hI3 (j3.ext hEq) rfl hPl10 hb3 ?_; intro v5 w5 hI5 hG5 hN5)
          have hEa := extNew w3 (.cells #[.int .u64 ((it.1 : Nat) : Int), .slice q it.2.length C] 106)
          have hE5 : Ext w w5 := Below.grown (hE3.trans hEa) hG5 (hE3.trans hEa).le (fun k hk => (hI3.lt k hk).1)
          go_roundw
          case rel => exact ⟨i + 1, k, _, by omega, by omega, by go_num, rfl, by rw [List.length_append, HPl.out, List.length_singleton]; omega, HP2.out, hI5, hE5⟩
          case measure => simp [intOf]; omega
        · have HP2 := hide (HS.out i k P (by rw [← HN2.out]; exact hk3) (.inr ⟨by rw [← HN1.out]; exact hi2, hle⟩) HP.out)
          generalize X1.getD i (0, []) = it1 at *
          generalize X2.getD k (0, []) = it at *
          have hled : decide (((it1.1 : Nat) : Int) ≤ ((it.1 : Nat) : Int)) = false := decide_eq_false (by omega)
          have hleN : decide (it1.1 ≤ it.1) = false := decide_eq_false hle
          clear hk2 hi1
          go_wp2_with fail
          go_quiet (fail)
          have hEq : Ext wr (wr.drewN nq) := (Ext.refl wr).drewN nq
          generalize wr.drewN nq = w3 at hEq ⊢
          have hg : g2 < wr.heap.size := World.block_lt_of_cell? wr _ m1
          have j1' := (hEq.cell hg).trans m1
          have j2' := (hEq.cell hg).trans m2
          have hI3 := hI.ext hEq
          have hE3 := hE.trans hEq
          have hb3 := hE3.le
          clear j1 j2 hI m1 m2
          go_wp2_with (at_builtin; refine wpList_appY rfl (.tmp 50) (.tmp 55) rfl rfl hI3 (m3.ext hEq) rfl hPl10 hb3 ?_; intro v5 w5 hI5 hG5 hN5)
          have hEa := extNew w3 (.cells #[.int .u64 ((it.1 : Nat) : Int), .slice q2 it.2.length C2] 106)
          have hE5 : Ext w w5 := Below.grown (hE3.trans hEa) hG5 (hE3.trans hEa).le (fun k hk => (hI3.lt k hk).1)
          go_roundw
          case rel => exact ⟨i, k + 1, _, by omega, by omega, rfl, by go_num, by rw [List.length_append, HPl.out, List.length_singleton]; omega, HP2.out, hI5, hE5⟩
          case measure => simp [intOf]; omega
end Go.Proofs.Ytaohdnhfodkeoaa

