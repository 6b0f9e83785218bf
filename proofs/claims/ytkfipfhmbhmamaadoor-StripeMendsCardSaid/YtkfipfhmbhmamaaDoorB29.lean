/- The program's Lay of chapter 23. The laws of chapter 23 at the landed package: the walks of StripeSizes, StripeLays. The program's reader of chapter 23: which chunks are good, which aren't; the library's Equal at truth values, ContainsFunc at bytes. The program's readerOf of chapter 23: what was laid out, lane by lane, and which chunks are good. The program's reader of chapter 23: the chunks of data, one behind the other. -/
import Derived.Test.YtkfipfhmbhmamaaDoorB03
import Derived.Test.YtkfipfhmbhmamaaDoorB09
import Derived.Test.YtkfipfhmbhmamaaDoorB11
import Derived.Test.YtkfipfhmbhmamaaDoorB12
import Derived.Test.YtkfipfhmbhmamaaDoorB13
import Derived.Test.YtkfipfhmbhmamaaDoorB15
import Derived.Test.YtkfipfhmbhmamaaDoorB21
import Derived.Test.YtkfipfhmbhmamaaDoorB22
import Derived.Test.YtkfipfhmbhmamaaDoorB26
import Derived.Test.YtkfipfhmbhmamaaDoorB27
import Derived.Test.YtkfipfhmbhmamaaDoorB28
import Derived.OpenShut
namespace Go.Proofs.YtkfipfhmbhmamaaDoor
open Go.RowKit Stp

attribute [local go_sem] Oper.semAt_some

/-- A piece of code that ends normally. -/
def onlyNormal (Q : Exit → Act → World → Prop) : Exit → Act → World → Prop
  | .normal, a, w => Q .normal a w
  | _, _, _ => False
theorem wp_onlyNormal {P : Program} {c : Code} {Q : Exit → Act → World → Prop} {a : Act} {w : World} (h : c.wp P (onlyNormal Q) a w) : c.wp P Q a w := wp_mono h fun e a w h => by
  cases e with
  | normal => exact h
  | ret => exact h.elim
  | exit id => exact h.elim
  | goto t => exact h.elim
  | panic ch => exact h.elim
  | outgrown => exact h.elim
/-- append of rows to rows, at its operation. -/
theorem wp_appRR {o : Oper} {a : Act} {K : Act → World → Prop} {Q : Exit → Act → World → Prop} {w : World} {base b2 n m : Nat} {v : Value} {R X : Nat → Value} (s x : Operand) (ho : o.op = .call { callee := .builtin .append, args := #[s, x], argTypes := #[55, 55] }) (hs : a.eval s = v)
    (h : w.ownsRow base 27 1 v n ((List.range n).map R)) {A : Option Addr} {c : Nat} (hx : a.eval x = .slice A m c) (h2 : w.ownsRow b2 27 1 (.slice A m c) m ((List.range m).map X)) (hX : ∀ i, i < m → (X i).oneCell' = true) (hlen : n + m ≤ 1000) (hbase : base ≤ w.heap.size)
    (hk : ∀ v' w', w'.ownsRow base 27 1 v' (n + m) ((List.range (n + m)).map fun i => if i < n then R i else X (i - n)) → w.grownBy w' v.ownBlock → (v'.ownBlock = v.ownBlock ∨ v'.ownBlock = some w.heap.size) → K (a.put o.dst v') w') : o.wp Tryd.prog a w K Q := by
  have hR : ((List.range (n + m)).map fun i => if i < n then R i else X (i - n)) = (List.range n).map R ++ (List.range m).map X := by
    rw [List.range_add, List.map_append, List.map_map]
    congr 1
    · exact List.map_congr_left fun i hi => if_pos (List.mem_range.1 hi)
    · refine List.map_congr_left fun i _ => ?_
      show (if n + i < n then R (n + i) else X (n + i - n)) = X i
      rw [if_neg (by omega), Nat.add_sub_cancel_left]
  by_cases h0 : m = 0
  · subst h0
    have hr := run_append_zeroP w o.type base v _ _ h A c
    unfold Oper.wp execOp
    simp only [ho, resolve, invoke, builtin, Sem.run_bind, Sem.run_pure, Result.andThen_ok, List.map_toArray, List.map_cons, List.map_nil, hs, hx, hr]
    refine hk v w ?_ (World.grownBy.refl w _) (.inl rfl)
    rw [hR]
    simpa using h
  · obtain ⟨i, hi, hz, hsz, hby⟩ := info_parts rw_info
    rcases h2.2 with ⟨_, e⟩ | ⟨g, cap, cur, e, _⟩
    · exact absurd e h0
    simp only [Value.slice.injEq] at e
    obtain ⟨rfl, _, rfl⟩ := e
    obtain ⟨v', w', hr, h3, h4, _, h5⟩ := run_append_own_at (P := Tryd.prog) w base 55 o.type 27 i _ 1 24 Tryd.underlying55 hi hz hsz hby rfl (by omega) v n _ h ⟨g, 0, none⟩ m c ((List.range m).map X) (by simp) (fun j u hu => by
      have hj : j < m := by
        have := (List.getElem?_eq_some_iff.1 hu).1
        simpa using this
      have hc := World.ownsRow.cellAt h2 j (by omega)
      rw [show (⟨g, 0, none⟩ : Addr).add j = ⟨g, j, none⟩ by simp [Addr.add]; exact Eq.symm, hc]
      exact hu) (fun u hu => by
      obtain ⟨j, hj, rfl⟩ := List.mem_map.1 hu
      exact hX j (List.mem_range.1 hj)) (by unfold maxLen; omega) (by omega) hbase
    unfold Oper.wp execOp
    simp only [ho, resolve, invoke, builtin, Sem.run_bind, Sem.run_pure, Result.andThen_ok, List.map_toArray, List.map_cons, List.map_nil, hs, hx, hr]
    exact hk v' w' (by rw [hR]; exact h3) h4 h5
theorem ownsTurn {W W' : World} {base : Nat} {e : TypeId} {z n : Nat} {v : Value} {xs : List Value} {row : Option Nat} (h : W.ownsRow base e z v n xs) (hg : W.grownBy W' row) (hr : ∀ r, row = some r → ∃ o : Obj, W.heap[r]? = some o ∧ o.isCells = false) : W'.ownsRow base e z v n xs :=
  World.ownsRow.kept h hg (by
    rcases h.2 with ⟨rfl, _⟩ | ⟨g, cap, cur, rfl, _, hgg, _⟩
    · exact .inl rfl
    · refine .inr fun e => ?_
      obtain ⟨o, h1, h2⟩ := hr g e.symm
      rw [hgg] at h1
      cases h1
      cases h2)
theorem ownsNotWhole {W : World} {base b : Nat} {e t : TypeId} {z n : Nat} {v : Value} {xs : List Value} {cs : Array Value} (h : W.ownsRow base e z v n xs) (hb : Whole W b t cs) (ht : t ≠ e) : v.ownBlock = none ∨ v.ownBlock ≠ some b := by
  rcases h.2 with ⟨rfl, _⟩ | ⟨g, cap, cur, rfl, _, hg, _⟩
  · exact .inl rfl
  · refine .inr fun e2 => ?_
    simp only [Value.ownBlock, Option.some.injEq] at e2
    subst e2
    unfold Whole at hb
    rw [hb] at hg
    simp only [Option.some.injEq, Obj.cells.injEq] at hg
    exact ht hg.2.1

theorem RowOf.keptG {w w' : World} {B : Nat} {v x : Value} {l : List UInt8} (hx : RowOf w B x l) (hc : Clear v x) (hG : w.grownBy w' v.ownBlock) (hB : B ≤ w.heap.size) : RowOf w' B x l := by
  obtain ⟨A, k, e, h2, h3, h4⟩ := hx
  refine ⟨A, k, e, h2, h3, h4.1, ?_⟩
  rcases hc _ _ _ e with h0 | h1
  · exact .inl h0
  rcases h4.2 with h0 | ⟨b, off, rfl, hb, hcell⟩
  · exact .inl h0
  · refine .inr ⟨b, off, rfl, hb, fun i hi => ?_⟩
    rw [← hcell i hi]
    exact World.cell?_of_block (a := ⟨b, off + i, none⟩) (hG.block b (Nat.lt_of_lt_of_le hb hB) (fun e => h1 b off rfl e.symm))
theorem Lns.clear {w : World} {base g t : Nat} {R : Nat → Value} {F : Nat → List UInt8} (h : Lns w base g t R F) {i : Nat} (hi : i < t) : Clear (.slice (some ⟨g, 0, none⟩) t t) (R i) := by
  intro A n k e
  have hb := h.lst.byte (h.row i hi)
  rcases (h.row i hi).2 with ⟨e2, _⟩ | ⟨g1, c1, cur1, e2, _⟩
  · rw [e2] at e
    simp only [Value.slice.injEq] at e
    exact .inl e.2.1.symm
  · refine .inr fun b off e3 e4 => ?_
    rw [e2] at e hb
    simp only [Value.slice.injEq] at e
    rw [← e.1] at e3
    simp only [Option.some.injEq, Addr.mk.injEq, and_true] at e3
    simp only [Value.ownBlock, ne_eq, Option.some.injEq] at e4 hb
    exact hb (e3.1.trans e4.symm)
/-- Between two rounds of Lay. -/
structure LayI (bs H : Nat) (w7 : World) (s1 s2 s3 : Nat) (v6 : Value) (R : Nat → Value) (k m c : Nat) (b : List UInt8) (q : Nat) (W : World) : Prop where
  ex : ∃ v, Whole W s1 27 #[v] ∧ OwnB W H v (layQ k m c b q)
  b1 : Whole W s2 50 #[.int .i64 (k : Int), .int .i64 (m : Int), .int .i64 (c : Int)]
  b2 : Whole W s3 55 #[v6]
  lst : W.ownsRow bs 27 1 v6 (k + m) ((List.range (k + m)).map R)
  low : Below H w7 W
  ne : v6.ownBlock ≠ some s1
theorem LayI.own {w7 : World} {bs H s1 s2 s3 k m c B : Nat} {v6 : Value} {R : Nat → Value} {b : List UInt8} (hB : H ≤ B) (hH : H ≤ w7.heap.size) : OwnFrom B (LayI bs H w7 s1 s2 s3 v6 R k m c b) := fun q W W' row h hg hr => by
  have hr2 := fun r e => (hr r e).2
  obtain ⟨v, h1, h2⟩ := h.ex
  exact ⟨⟨v, h1.turn hg hr2, h2.turn hg hr2⟩, h.b1.turn hg hr2, h.b2.turn hg hr2, ownsTurn h.lst hg hr2, Below.grown h.low hg (Nat.le_trans hH h.low.size) fun r e => Nat.le_trans hB (hr r e).1, h.ne⟩
theorem LayI.step {w7 W W1 W2 W' : World} {bs H s1 s2 s3 k m c q : Nat} {v6 v v' : Value} {R : Nat → Value} {b x : List UInt8} (h : LayI bs H w7 s1 s2 s3 v6 R k m c b q W) (hE : Ext W W1) (h1 : Whole W s1 27 #[v]) (h2 : OwnB W H v (layQ k m c b q))
    (hO : OwnB W2 H v' (layQ k m c b q ++ x)) (hG : W1.grownBy W2 v.ownBlock) (hp : Whole W' s1 27 #[v']) (hG2 : W2.grownBy W' (some s1)) (hs1 : H ≤ s1) (hH : H ≤ w7.heap.size) (h12 : s2 ≠ s1) (h13 : s3 ≠ s1) (hx : layQ k m c b (q + 1) = layQ k m c b q ++ x) :
    LayI bs H w7 s1 s2 s3 v6 R k m c b (q + 1) W' ∧ KeepsOthers W W' := by
  have a1 := h1.ext hE
  have a2 := h2.ext hE
  have a3 := h.b1.ext hE
  have a4 := h.b2.ext hE
  have a5 := World.ownsRow.kept h.lst (hE.grown none) (by cases v6.ownBlock <;> simp)
  have hlow1 : Below H w7 W1 := Below.trans h.low (Below.mono hE (Nat.le_trans hH h.low.size))
  have c3 := a3.ownGrown hG (a2.notKind a3 (by decide))
  have c4 := a4.ownGrown hG (a2.notKind a4 (by decide))
  have c5 := World.ownsRow.kept a5 hG (ownsApartS a5 a2 (by decide))
  have hlow2 : Below H w7 W2 := Below.grown hlow1 hG (Nat.le_trans hH hlow1.size) fun r e => (a2.lt r e).1
  have c1 := a1.ownGrown hG (a2.notKind a1 (by decide))
  refine ⟨⟨⟨v', hp, ?_⟩, c3.grown hG2 h12, c4.grown hG2 h13, World.ownsRow.kept c5 hG2 (.inr h.ne), Below.grown hlow2 hG2 (Nat.le_trans hH hlow2.size) fun r e => by cases e; exact hs1, h.ne⟩, ((KeepsOthers.ofExt hE).trans (KeepsOthers.ofOwn a2 hG)).trans (KeepsOthers.ofWhole c1 hG2)⟩
  rw [hx]
  exact World.ownsRow.kept hO hG2 (ownsNotWhole hO c1 (by decide))

set_option maxHeartbeats 8000000 in
set_option maxRecDepth 100000 in
theorem sLay_any (k m c : Int) (A : Option Addr) (n cap : Nat) (b : List UInt8) (w : World) (hk64 : k ≤ 9223372036854775807) (ht : Tab w) (hb : Bytes w w.heap.size A n b) (hcap : n ≤ cap) (hcm : cap ≤ maxLen) (hz : (sizeE k m c n).1 ≤ 20000) :
    Calls Tryd.prog 12 #[.int .i64 k, .int .i64 m, .int .i64 c, .slice A n cap] w (MadeE w (layE k m c b).1 (layE k m c b).2) := by
  have hbl := hb.1
  have CS := fun W => sSize_any k m c (n : Int) W hk64
  by_cases he : (sizeE k m c (n : Int)).2 = 0
  rotate_left
  · have HR := hide (show layE k m c b = ([], (sizeE k m c (n : Int)).2) from by rw [← hbl] at he ⊢; exact layE_err he)
    rw [HR.out]
    have hne : ((sizeE k m c (n : Int)).2 == 0) = false := by rw [beq_eq_false_iff_ne]; exact he
    generalize (sizeE k m c (n : Int)).1 = z at *
    generalize (sizeE k m c (n : Int)).2 = er at *
    unfold MadeE
    dsimp only
    clear hb hbl hz hk64 HR ht hcap hcm
    go_enter Tryd.func12, Tryd.ntmps12
    go_wp2_with fail
    refine (CS _).mono ?_
    rintro e w2 ⟨rfl, hE2⟩
    go_wp2
    go_ret2
    exact ⟨_, rfl, OwnB.nil _ _, hE2⟩
  obtain ⟨⟨⟨a1, a2, a3, a4⟩, b1, b2, b3, b4⟩, hz1⟩ := size_facts he
  obtain ⟨k, rfl⟩ := Int.eq_ofNat_of_zero_le (show 0 ≤ k by omega)
  obtain ⟨m, rfl⟩ := Int.eq_ofNat_of_zero_le (show 0 ≤ m by omega)
  obtain ⟨c, rfl⟩ := Int.eq_ofNat_of_zero_le (show 0 ≤ c by omega)
  simp only [Int.toNat_natCast] at hz1
  rw [hz1] at hz
  have HR := hide (show layE k m c b = (layQ k m c b (stripesN k c n * (k + m)), 0) from by rw [← hbl] at he ⊢; exact layE_ok he)
  rw [HR.out]
  have hk1 : 1 ≤ k := by omega
  have hkm : k + m ≤ 255 := by omega
  have hc1 : 1 ≤ c := by omega
  have hc2 : c ≤ 4096 := by omega
  have hn9 : n ≤ 8388608 := by omega
  have hsz : stripesN k c n * (k + m) * (c + 4) ≤ 20000 := by unfold sizeN at hz; omega
  have hL : stripesN k c n * c ≤ 20000 := by
    have h1 : stripesN k c n * c ≤ stripesN k c n * (k + m) * (c + 4) := Nat.mul_le_mul (Nat.le_mul_of_pos_right _ (by omega)) (by omega)
    omega
  have CL := fun W hW => sLanes_any (N := stripesN k c n) A cap b W hk1 hkm hc1 hc2 hn9 rfl hL hW hcap hcm
  obtain ⟨P, hP1, hP2, hP3⟩ := lanesL_split (N := stripesN k c n) (c := c) (b := b) hk1 hkm
  have hQl := hide (fun q => layQ_len (k := k) (m := m) (c := c) (b := b) hk1 q)
  have HSeg := hide (fun i j hi hj => lanesL_seg (k := k) (m := m) (c := c) (N := stripesN k c n) (b := b) (i := i) (j := j) hk1 hi hj)
  have HRow := hide (fun i hi => lanesL_row (k := k) (m := m) (c := c) (N := stripesN k c n) (b := b) (i := i) hk1 hi)
  have HTot := hide hsz
  have HNx := hide (fun q => layQ_next k m c b q)
  rw [he, hz1] at CS
  have hzN : ((sizeN k m c n : Nat) : Int) ≤ 20000 := hz
  obtain ⟨Z, hZ⟩ : ∃ Z, Z = sizeN k m c n := ⟨_, rfl⟩
  rw [← hZ] at CS hzN
  obtain ⟨N, hN⟩ : ∃ N, N = stripesN k c n := ⟨_, rfl⟩
  rw [← hN] at CL hL HSeg HRow HTot hP1 hP2 ⊢
  have HPL := hide (show ∀ i, i < k → ((lanesB k c N b).getD i []).length ≤ 20000 from fun i hi => by rw [lanesB_row hi]; exact hL)
  have HPn := hide (lanesB_len k c N b)
  have HSp := hide hP2
  have HPm := hide hP3
  have HB := hide hb
  have hTab := fun W (hE : Ext w W) => hE.tab ht ht.pos
  have CP := fun W A (hR : RowsAt W W.heap.size A (lanesB k c N b).length (lanesB k c N b)) => rsParityN_any (m : Int) A k (lanesB k c N b) W hR (by rw [HPn.out]; omega) (fun i hi => by rw [HPn.out] at hi; exact HPL.out i hi)
  rw [hP1, HPn.out] at CP
  have HTab := hide hTab
  unfold MadeNE at CP
  dsimp only at CP
  generalize lanesB k c N b = LB at *
  generalize lanesL k m c N b = LL at *
  have HN := hide hN
  unfold MadeE
  dsimp only
  clear hb hbl hz hz1 he HR hsz hP1 hP2 hP3 hZ hN hTab ht a1 a2 a3 a4 b1 b2 b3 b4 hk64
  refine (callsIn_wide (n := 10)).1 ?_
  refine callsIn_of_wp_marks Tryd.func12 rfl trivial ?_ rfl
  simp only [Tryd.ntmps12, List.size_toArray, List.length_cons, List.length_nil, Nat.reduceAdd, Nat.reduceSub, Array.replicate_succ, Array.replicate_zero, List.push_toArray, List.append_toArray, List.nil_append, List.cons_append]
  refine wpIn_wide.2 ?_
  go_wp2_with fail
  refine (CS _).mono ?_
  rintro e' w1 ⟨rfl, hE1⟩
  clear CS
  have hWn := Whole.new w1 50 #[.int .i64 0, .int .i64 0, .int .i64 0]
  have hEn := extNew w1 (.cells #[.int .i64 0, .int .i64 0, .int .i64 0] 50)
  go_wp2_with (first
    | (refine wpList_storeW rfl 50 (.tmp 12) (.tmp 32) rfl rfl rfl hWn rfl shp_info shp_one ?_; intro w2 hW2 hG2 hS2; have hE2 : Ext w1 w2 := Below.grown hEn hG2 hEn.le (fun k hk => by cases hk; exact Nat.le_refl _); clear hS2)
    | (refine wpList_load_row rfl 50 (.tmp 12) rfl _ rfl _ _ _ _ hW2 Tryd.underlying50 rfl shp_info ?_))
  have hF2 := hE1.trans hE2
  have CL2 := CL w2 (hF2.bytes HB.out)
  unfold shpV at CL2
  clear CL hWn hEn hG2 hE2
  refine CL2.mono ?_
  rintro e' w3 ⟨g, R, rfl, hgw, hLn, hE3⟩
  have hF3 := hF2.trans hE3
  have CP3 := CP w3 (some ⟨g, 0, none⟩) (hLn.rows HPn.out (fun i _ => rfl))
  clear CL2 CP
  go_wp2_with fail
  refine CP3.mono ?_
  rintro e' w4 ⟨v4, rfl, hN4, hE4⟩
  have hF4 := hF3.trans hE4
  obtain ⟨A4, c4, hv4, -, -, -⟩ := hN4.toP.form
  rw [HPm.out] at hv4
  subst hv4
  have hLn4 := hLn.ext hE4
  have hW4 := (hW2.ext hE3).ext hE4
  have hgl0 := hLn.lst.lt.2
  clear CP3 hLn
  go_wp2_with (refine wpList_makeRoomB (m := Z) rfl (.tmp 45) rfl rfl (by omega) ?_; intro w5 hO5 hE5)
  have hE56 := extNew w5 (.cells #[.slice (some ⟨w4.heap.size, 0, none⟩) 0 Z] 27)
  have hWl := Whole.new w5 27 #[.slice (some ⟨w4.heap.size, 0, none⟩) 0 Z]
  have hO6 := hO5.ext hE56
  have hE46 := hE5.trans hE56
  obtain ⟨s1, hs1⟩ : ∃ s, s = w5.heap.size := ⟨_, rfl⟩
  have hs41 : w4.heap.size ≤ s1 := by rw [hs1]; exact hE5.le
  obtain ⟨w6, hw6⟩ : ∃ W, W = w5.alloc (.cells #[.slice (some ⟨w4.heap.size, 0, none⟩) 0 Z] 27) := ⟨_, rfl⟩
  rw [← hw6] at hWl hO6 hE46 hE56
  rw [← hs1] at hWl
  rw [← hw6, ← hs1]
  have hW6 := hW4.ext hE46
  have hLn6 := hLn4.ext hE46
  obtain ⟨X, hX1, hX2⟩ := hN4.own
  rw [HPm.out] at hX1 hX2
  have hgl3 : g < w3.heap.size := hgl0
  have hLR := hLn6.lst
  unfold Lst at hLR
  obtain ⟨s12, hs12⟩ : ∃ s, s = w1.heap.size := ⟨_, rfl⟩
  rw [← hs12] at hW6 ⊢
  have HS1 := hide hs1
  have HS12 := hide hs12
  have hED := (Ext.refl w6).drew
  have hW6d := hW6.ext hED
  have hLRd := World.ownsRow.kept hLR (hED.grown none) (.inr (by simp [Value.ownBlock]))
  have hlow6 : Ext w4 w6.drew := hE46.trans hED
  have hX1d := World.ownsRow.kept hX1 (hlow6.grown none) (by cases (Value.slice A4 m c4).ownBlock <;> simp)
  have hle2 : w2.heap.size ≤ w6.drew.heap.size := Nat.le_trans hE3.le (Nat.le_trans hE4.le (Nat.le_trans hE46.le hED.le))
  have hgs : s12 ≠ g := by
    have := hW2.lt
    omega
  clear hw6 hs1 hs12 hO5 hE5 hW4
  go_wp2_with fail
  refine wp_onlyNormal ?_

  refine wp_region_T (fun W => Whole W s12 50 #[.int .i64 (k : Int), .int .i64 (m : Int), .int .i64 (c : Int)]) 4 5 #[false, false, false, false, false] (by kernel_rfl) rfl rfl hW6d ?_
  intro hS0
  refine wpAnyT_take 0 (some 47) (.agg #[.int .i64 (k : Int), .int .i64 (m : Int), .int .i64 (c : Int)]) #[true, false, false, false, false] rfl rfl rfl (by kernel_rfl) (fun _ _ _ h => h) hS0 (by rfl) (fun W hX => by exact exec_load_mid 50 (.tmp 12) rfl s12 0 rfl [.int .i64 (k : Int), .int .i64 (m : Int), .int .i64 (c : Int)] (whole_range3 hX) Tryd.underlying50 rfl shp_info) ?_
  simp only [Act.put, List.setIfInBounds_toArray, List.set_cons_zero, List.set_cons_succ]
  refine wpAnyT_take 1 (some 48) (.slice (some ⟨g, 0, none⟩) k k) #[true, true, false, false, false] rfl rfl rfl (by kernel_rfl) (fun _ _ _ h => h) hS0 (by rfl) (fun W hX => by go_simp) ?_
  simp only [Act.put, List.setIfInBounds_toArray, List.set_cons_zero, List.set_cons_succ]
  refine wpAnyT_take 2 (some 49) (.slice A4 m c4) #[true, true, true, false, false] rfl rfl rfl (by kernel_rfl) (fun _ _ _ h => h) hS0 (by rfl) (fun W hX => by go_simp) ?_
  simp only [Act.put, List.setIfInBounds_toArray, List.set_cons_zero, List.set_cons_succ]
  refine wpAnyT_only 3 #[true, true, true, true, false] (by kernel_rfl) rfl rfl (by rfl) (fun K7 hK7 => ?_)
  refine wp_appRR (.tmp 48) (.tmp 49) rfl rfl hLRd rfl hX1d (fun i hi => by obtain ⟨A9, k9, e9, _⟩ := (hX2 i hi).1; rw [e9]; rfl) (by omega) hle2 ?_
  intro v7 w7 hO7 hG7 hN7
  replace hG7 : World.grownBy w6.drew w7 (some g) := hG7
  replace hN7 : v7.ownBlock = some g ∨ v7.ownBlock = some w6.drew.heap.size := hN7
  have hW7 := hS0.grown hG7 hgs
  refine hK7 _ _ (fun _ => hW7) ?_
  clear hK7 K7
  rcases hO7.2 with ⟨_, e7⟩ | ⟨g7, c7, cur7, rfl, hb7, -, hn7, hc7, -⟩
  · omega
  refine wpAnyT_only 4 #[true, true, true, true, true] (by kernel_rfl) rfl rfl (by rfl) (fun K0 hK0 => ?_)
  go_simp
  refine (callsIn_wide.1 (sChunks_in 0 k m c (some ⟨g7, 0, none⟩) (k + m) c7 w7)).mono ?_
  rintro e8 w8 ⟨rfl, rfl⟩
  refine hK0 _ _ (fun h => absurd h (by decide)) (wpAnyT_done (by kernel_rfl) ?_ _)
  clear hK0 K0
  simp only [onlyNormal]
  go_wp2_with fail
  refine (wpIn_wide (n := 10)).1 ?_
  obtain ⟨h4, hh4⟩ : ∃ h, h = w4.heap.size := ⟨_, rfl⟩
  obtain ⟨T, hT⟩ : ∃ T, T = k + m := ⟨_, rfl⟩
  rw [← hh4] at hO6 hWl
  have hT1 : 1 ≤ T := by omega
  have hT2 : T ≤ 255 := by omega
  have hwh : w.heap.size ≤ h4 := by rw [hh4]; exact hF4.le
  have hTot := HTot.out
  -- the rows
  have hRows : ∀ i, i < T → RowOf w7 h4 (if i < k then R i else X (i - k)) (LL.getD i []) := fun i hi => by
    rw [HSp.out, hh4]
    by_cases hik : i < k
    · rw [if_pos hik, getD_app_l (by rw [HPn.out]; exact hik)]
      have h1 : RowOf w6.drew w4.heap.size (R i) (LB.getD i []) := ((hLn4.row i hik).row).below hlow6
      exact h1.keptG (hLn6.clear hik) hG7 hlow6.le
    · rw [if_neg hik, getD_app_r (by rw [HPn.out]; omega), HPn.out]
      obtain ⟨x1, x2, x3⟩ := hX2 (i - k) (by omega)
      exact (x1.below hlow6).gLow x3 hG7 hgl3 hlow6.le
  have hx : ∀ i, ∃ p : Option Addr × Nat, i < T → (if i < k then R i else X (i - k)) = .slice p.1 (N * c) p.2 ∧ N * c ≤ p.2 ∧ p.2 ≤ maxLen ∧ Bytes w7 h4 p.1 (N * c) (LL.getD i []) := fun i => by
    by_cases hi : i < T
    · obtain ⟨A9, k9, e9, x1, x2, x3⟩ := hRows i hi
      rw [HRow.out i (by omega)] at e9 x1 x3
      exact ⟨(A9, k9), fun _ => ⟨e9, x1, x2, x3⟩⟩
    · exact ⟨(none, 0), fun h => absurd h hi⟩
  obtain ⟨f, hf⟩ := Classical.axiomOfChoice hx
  obtain ⟨LA, hLA⟩ : ∃ F : Nat → Option Addr, F = fun i => (f i).1 := ⟨_, rfl⟩
  obtain ⟨LC, hLC⟩ : ∃ F : Nat → Nat, F = fun i => (f i).2 := ⟨_, rfl⟩
  have hfa : ∀ i, i < T → (if i < k then R i else X (i - k)) = .slice (LA i) (N * c) (LC i) ∧ N * c ≤ LC i ∧ LC i ≤ maxLen ∧ Bytes w7 h4 (LA i) (N * c) (LL.getD i []) := fun i hi => by rw [hLA, hLC]; exact hf i hi
  have hO7' : w7.ownsRow w2.heap.size 27 1 (.slice (some ⟨g7, 0, none⟩) T c7) T ((List.range T).map fun i => .slice (LA i) (N * c) (LC i)) := by
    rw [hT] at hfa ⊢
    rw [← show (List.range (k + m)).map (fun i => if i < k then R i else X (i - k)) = (List.range (k + m)).map fun i => Value.slice (LA i) (N * c) (LC i) from List.map_congr_left fun i hi => (hfa i (List.mem_range.1 hi)).1]
    exact hO7
  have HFA := hide hfa
  have hG47 : h4 ≤ w7.heap.size := by rw [hh4]; exact Nat.le_trans hlow6.le hG7.size
  have hE7 : Ext w w7 := Below.grown (hF4.trans hlow6) hG7 (hF4.trans hlow6).le fun r e => by cases e; exact Nat.le_trans hF2.le hgw
  have hgs1 : s1 ≠ g := by have := hE4.le; omega
  have hne7 : g7 ≠ s1 := by
    have h1 := hWl.lt
    rcases hN7 with e | e
    · simp only [Value.ownBlock, Option.some.injEq] at e
      omega
    · simp only [Value.ownBlock, Option.some.injEq] at e
      have h2 := hED.le
      omega
  have hWl7 := (hWl.ext hED).grown hG7 hgs1
  have hO7l : OwnB w7 h4 (.slice (some ⟨h4, 0, none⟩) 0 Z) [] := by
    refine World.ownsRow.kept (hO6.ext hED) hG7 (.inr ?_)
    simp only [Value.ownBlock, ne_eq, Option.some.injEq]
    have := hE4.le
    omega
  obtain ⟨s7, hs7⟩ : ∃ s, s = w7.heap.size := ⟨_, rfl⟩
  have hI0 : LayI w2.heap.size h4 w7 s1 s7 (s7 + 1) (.slice (some ⟨g7, 0, none⟩) T c7) (fun i => .slice (LA i) (N * c) (LC i)) k m c b 0 ((w7.alloc (.cells #[.int .i64 (k : Int), .int .i64 (m : Int), .int .i64 (c : Int)] 50)).alloc (.cells #[.slice (some ⟨g7, 0, none⟩) T c7] 55)) := by
    have hE9 := (extNew w7 (.cells #[.int .i64 (k : Int), .int .i64 (m : Int), .int .i64 (c : Int)] 50)).alloc (.cells #[.slice (some ⟨g7, 0, none⟩) T c7] 55)
    refine ⟨⟨_, hWl7.ext hE9, hO7l.ext hE9⟩, ?_, ?_, ?_, Below.mono hE9 hG47, by simp only [Value.ownBlock, ne_eq, Option.some.injEq]; exact hne7⟩
    · rw [hs7]
      exact (Whole.new w7 _ _).alloc _
    · rw [hs7]
      have := Whole.new (w7.alloc (.cells #[.int .i64 (k : Int), .int .i64 (m : Int), .int .i64 (c : Int)] 50)) 55 #[.slice (some ⟨g7, 0, none⟩) T c7]
      rwa [World.size_alloc] at this
    · rw [← hT]
      exact World.ownsRow.kept hO7' (hE9.grown none) (.inr (by simp [Value.ownBlock]))
  rw [← hh4, ← hT]
  generalize (w7.alloc (.cells #[.int .i64 (k : Int), .int .i64 (m : Int), .int .i64 (c : Int)] 50)).alloc (.cells #[.slice (some ⟨g7, 0, none⟩) T c7] 55) = w8 at hI0 ⊢
  have hB8 : h4 ≤ w8.heap.size := Nat.le_trans hG47 hI0.low.size
  have hs8 : s7 + 1 < w8.heap.size := hI0.b2.lt
  have hNT : N * T * (c + 4) ≤ 20000 := by rw [hT]; exact hTot
  rw [← hs7]
  have hsl : s1 < s7 := by rw [hs7]; exact Nat.lt_of_lt_of_le (hWl.ext hED).lt hG7.size
  have hs1h : h4 ≤ s1 := by omega
  have HTe := hide hT
  have HS7 := hide (show w7.heap.size = s7 from hs7.symm)
  clear hs7 hT hf hx hRows hO7l hWl7 hO7' hfa hLA hLC hG7 hO7 hN7 hWl hO6 hLn4 hLn6 hX1 hX2 hX1d hLRd hLR hTot hN4 hh4 hgs1 hne7 HSp HRow HPL HPn HPm
  refine wpIn_rangeOwn (gf := 44) (lb := #[.pointer (some ⟨s7 + 1, 0, none⟩), .pointer (some ⟨s7, 0, none⟩)]) rfl (fun args W => enteredR_of Tryd.func44 (by kernel_rfl) rfl args W) (N * T)
    (fun q => #[.slice (cutAt (LA (q % T)) (LC (q % T)) (q / T * c)) c (LC (q % T) - q / T * c)]) (fun _ => rfl) (LayI w2.heap.size h4 w7 s1 s7 (s7 + 1) (.slice (some ⟨g7, 0, none⟩) T c7) (fun i => .slice (LA i) (N * c) (LC i)) k m c b) (LayI.own hB8 hG47) hI0
    (sChunks_gives (cap := c7) (off := 0) (g := g7) (by omega) hT1 hT2 hc1 hc2 (by omega) (fun i hi => ⟨(HFA.out i hi).2.1, (HFA.out i hi).2.2.1⟩) fun q W h => ⟨h.b2.at 0 (u := .slice (some ⟨g7, 0, none⟩) T c7) rfl, h.b1.at 2 (u := .int .i64 (c : Int)) rfl, fun i hi => by
      have h1 := h.lst
      rw [← HTe.out] at h1
      rw [Nat.zero_add, World.ownsRow.cellAt h1 i (by omega)]
      simp [hi]⟩)
    (fun q => { tmps := #[.int .i64 (k : Int), .int .i64 (m : Int), .int .i64 (c : Int), .slice A n cap, undef, undef, undef, undef, .slice none 0 0, .int .i64 (0 : Int), .int .i64 (Z : Int), .int .i64 (0 : Int), .pointer (some ⟨s12, 0, none⟩), .slice (some ⟨g, 0, none⟩) k k, .slice A4 m c4, .pointer (some ⟨s1, 0, none⟩), .slice (cutAt (LA (q % T)) (LC (q % T)) (q / T * c)) c (LC (q % T) - q / T * c), .tuple #[.int .i64 (Z : Int), .int .i64 (0 : Int)], .int .i64 (k : Int), .int .i64 (m : Int), .int .i64 (c : Int), .slice A n cap, .int .i64 (n : Int), .tuple #[.int .i64 (Z : Int), .int .i64 (0 : Int)], .int .i64 (Z : Int), .int .i64 (0 : Int), .int .i64 (0 : Int), .bool false, undef, .int .i64 (k : Int), .int .i64 (m : Int), .int .i64 (c : Int), .agg #[.int .i64 (k : Int), .int .i64 (m : Int), .int .i64 (c : Int)], .agg #[.int .i64 (k : Int), .int .i64 (m : Int), .int .i64 (c : Int)], .slice A n cap, .slice (some ⟨g, 0, none⟩) k k, .tuple #[.slice A4 m c4, .int .i64 (0 : Int)], .int .i64 (m : Int), .slice (some ⟨g, 0, none⟩) k k, .tuple #[.slice A4 m c4, .int .i64 (0 : Int)], .slice A4 m c4, .int .i64 (0 : Int), .int .i64 (0 : Int), .bool false, undef, .int .i64 (Z : Int), .slice (some ⟨h4, 0, none⟩) 0 Z, .agg #[.int .i64 (k : Int), .int .i64 (m : Int), .int .i64 (c : Int)], .slice (some ⟨g, 0, none⟩) k k, .slice A4 m c4, .slice (some ⟨g7, 0, none⟩) T c7, .func (.func 44) #[] #[.pointer (some ⟨s7 + 1, 0, none⟩), .pointer (some ⟨s7, 0, none⟩)], .slice (cutAt (LA (q % T)) (LC (q % T)) (q / T * c)) c (LC (q % T) - q / T * c), undef, undef, undef, undef, undef], defers := [] }) ?assign ?body ?done
  case assign =>
    intro l q W K hK
    generalize LC (q % T) - q / T * c = c9 at *
    generalize cutAt (LA (q % T)) (LC (q % T)) (q / T * c) = A9 at *
    gi_wp2
    exact hK
  case body =>
    intro l q W hI hq
    obtain ⟨v, h1, h2⟩ := hI.ex
    have hqi : q % T < T := Nat.mod_lt _ (by omega)
    have hqj : q / T < N := Nat.div_lt_of_lt_mul (by rw [Nat.mul_comm]; exact hq)
    have hqq : q / T * T + q % T = q := by rw [Nat.mul_comm]; exact Nat.div_add_mod q T
    obtain ⟨-, f1, -, f3⟩ := HFA.out (q % T) hqi
    have hpart : q / T * c + c ≤ N * c := by
      rw [← Nat.succ_mul]
      exact Nat.mul_le_mul_right _ hqj
    have hcb := ((f3.below hI.low (Nat.le_refl _)).seg f1 hpart).mono (Nat.le_trans hG47 hI.low.size)
    have hsg := HSeg.out (q % T) (q / T) (by rw [← HTe.out]; exact hqi) hqj
    unfold seg at hsg
    rw [hsg, ← HTe.out, hqq] at hcb
    have hW0 : Ext w W := Below.trans hE7 (Below.mono hI.low hwh)
    have hWD := (Ext.refl W).drew
    have CP := crcPut_any _ c (LC (q % T) - q / T * c) (chunkQ k m c b q) W.drew (by omega) (HTab.out _ (hW0.trans hWD)) (HTab.out _ (hW0.trans hWD)).pos (hWD.bytes hcb)
    have HNq := hide (HNx.out q)
    have hqt : q * (c + 4) ≤ N * T * (c + 4) := Nat.mul_le_mul_right _ (by omega)
    have HLen := hide (show (layQ k m c b q).length ≤ 20000 by rw [hQl.out]; omega)
    have HPl := hide (show (Crc.put (chunkQ k m c b q)).length = c + 4 by rw [put_len, chunkQ_len hk1])
    generalize LC (q % T) - q / T * c = c9 at *
    generalize cutAt (LA (q % T)) (LC (q % T)) (q / T * c) = A9 at *
    obtain ⟨A6, c6, hv6, -, -, -⟩ := h2.form
    obtain ⟨m6, hm6⟩ : ∃ x, x = (layQ k m c b q).length := ⟨_, rfl⟩
    rw [← hm6] at hv6
    subst hv6
    have HI := hide hI
    have H1 := hide h1
    have H2 := hide h2
    have hlt := h1.lt
    have cs1 := h1.at 0 (u := .slice A6 m6 c6) rfl
    have hWle : h4 ≤ W.heap.size := Nat.le_trans hG47 hI.low.size
    unfold MadeB at CP
    clear hqi hqj hqq f1 f3 hpart hcb hsg hqt hm6 hI h1 h2 hI0
    gi_wp2
    refine wpIn_region_T (fun X => Ext W X) 3 5 #[false, false, false, false, false] (by kernel_rfl) (fun ⟨_, _, h⟩ => h) (by kernel_rfl) rfl rfl (Ext.refl W).drew ?_
    intro hS0
    refine wpAnyT_take 0 (some 53) (.slice A6 m6 c6) #[true, false, false, false, false] rfl rfl rfl (by kernel_rfl) (fun _ _ _ h => h) hS0 (by rfl) (fun X hX => by have f1 := (hX.cell (i := 0) hlt).trans cs1; go_simp) ?_
    simp only [Act.put, List.setIfInBounds_toArray, List.set_cons_zero, List.set_cons_succ]
    refine wpAnyT_take 1 (some 54) (.slice A9 c c9) #[true, true, false, false, false] rfl rfl rfl (by kernel_rfl) (fun _ _ _ h => h) hS0 (by rfl) (fun X hX => by go_simp) ?_
    simp only [Act.put, List.setIfInBounds_toArray, List.set_cons_zero, List.set_cons_succ]
    refine wpAnyT_only 2 #[true, true, true, false, false] (by kernel_rfl) rfl rfl (by rfl) (fun K0 hK0 => ?_)
    go_simp
    refine CP.mono ?_
    rintro e w5 ⟨v5, rfl, hO5, hE5⟩
    have hE45 : Ext W w5 := hS0.trans hE5
    refine hK0 _ _ (fun _ => hE45) ?_
    clear hK0 K0 CP hS0
    obtain ⟨A5, c5, hv5, -, -, bq⟩ := hO5.form
    rw [HPl.out] at hv5 bq
    subst hv5
    have h25 := H2.out.ext hE45
    have h15 := H1.out.ext hE45
    refine wpAnyT_only 3 #[true, true, true, true, false] (by kernel_rfl) rfl rfl (by rfl) (fun K1 hK1 => ?_)
    refine wp_appAt (v := .slice A6 m6 c6) (.tmp 53) (.tmp 55) rfl rfl h25 rfl bq (by have := HLen.out; omega) (Nat.le_trans hWle hE45.le) ?_
    intro v6 w9 hO9 hG9 hN9
    refine hK1 _ _ (fun h => absurd h (by decide)) ?_
    clear hK1 K1
    simp only [Act.put, List.setIfInBounds_toArray]
    have hn1 := h25.notKind h15 (by decide)
    have h19 := h15.ownGrown hG9 hn1
    obtain ⟨Ag, cg, hvg, -, -, -⟩ := hO9.form
    obtain ⟨mg, hmg⟩ : ∃ x, x = (layQ k m c b q ++ Crc.put (chunkQ k m c b q)).length := ⟨_, rfl⟩
    rw [← hmg] at hvg
    subst hvg
    clear hmg bq
    refine wpAnyT_only 4 #[true, true, true, true, true] (by kernel_rfl) rfl rfl (by rfl) (fun K2 hK2 => ?_)
    refine wpOper_putC 27 (.tmp 15) (.tmp 56) rfl #[.slice Ag mg cg] rfl rfl h19 (by simp) (by kernel_rfl) rfl rfl rfl ?_
    intro w10 hW10 hG10
    refine hK2 _ _ (fun h => absurd h (by decide)) (wpAnyT_done (by kernel_rfl) ?_ _)
    clear hK2 K2
    obtain ⟨hIn, hKp⟩ := HI.out.step hE45 H1.out H2.out hO9 hG9 hW10 hG10 hs1h hG47 (by omega) (by omega) HNq.out
    exact ⟨hKp.from _, hIn⟩
  case done =>
    intro D W hD hI hK
    obtain ⟨v, h1, h2⟩ := hI.ex
    rw [HTe.out] at h2
    have hW0 : Ext w W := Below.trans hE7 (Below.mono hI.low hwh)
    have H2 := hide (h2.mono hwh)
    obtain ⟨A6, c6, hv6, -, -, -⟩ := h2.form
    obtain ⟨m6, hm6⟩ : ∃ x, x = (layQ k m c b (N * (k + m))).length := ⟨_, rfl⟩
    rw [← hm6] at hv6
    subst hv6
    have cs1 := h1.at 0 (u := .slice A6 m6 c6) rfl
    clear hm6 h2 hI hI0 h1
    go_wp2
    refine ⟨by simp, .inl ⟨_, _, rfl, run_takeDeferred hK, ?_⟩⟩
    have hG := grownBy_putObj' W D (.deferred none)
    refine ⟨_, results_tmp2 rfl _ _ _, _, rfl, ?_, Below.grown hW0 hG hW0.le (fun r e => by cases e; omega)⟩
    exact H2.out.turn hG (fun r e => by cases e; exact ⟨_, hK, rfl⟩)
theorem layC23_any {w : World} (ht : Tab w) : LayC23 w := fun k m c A n cap b W hE hk _ _ hb h1 h2 hz => sLay_any k m c A n cap b W hk.2 (hE.tab ht ht.pos) hb h1 h2 hz
end Go.Proofs.YtkfipfhmbhmamaaDoor

namespace Go.Proofs.YtkfipfhmbhmamaaDoor
open Go.RowKit Go.WideMaps Stp

theorem stripeSizes_walk (k m c n : Int) (w : World) (h1 : (Lit.int .i64 k).wf = true) (h2 : (Lit.int .i64 m).wf = true) (h3 : (Lit.int .i64 c).wf = true) (h4 : (Lit.int .i64 n).wf = true) (ht : Tab w) :
    Calls Tryd.prog 3 #[.int .i64 k, .int .i64 m, .int .i64 c, .int .i64 n] w fun e w' => e = .returned (.bool true) ∧ Below w.heap.size w w' :=
  stripeSizes_walk0 k m c n w (layC23_any ht) (sizeC23_any w) (isI64_of h1) (isI64_of h2) (isI64_of h3) (isI64_of h4)
theorem stripeLays_walk (k m c : Int) (A : Option Addr) (n cap : Nat) (b : List UInt8) (w : World) (h1 : (Lit.int .i64 k).wf = true) (h2 : (Lit.int .i64 m).wf = true) (h3 : (Lit.int .i64 c).wf = true) (hn : n ≤ cap) (hc : cap ≤ maxLen) (hb : Bytes w w.heap.size A n b) (ht : Tab w) :
    Calls Tryd.prog 4 #[.int .i64 k, .int .i64 m, .int .i64 c, .slice A n cap] w fun e w' => e = .returned (.bool true) ∧ Below w.heap.size w w' :=
  stripeLays_walk0 k m c A n cap b w (layC23_any ht) (isI64_of h1) (isI64_of h2) (isI64_of h3) hn hc hb
end Go.Proofs.YtkfipfhmbhmamaaDoor

namespace Go.Proofs.YtkfipfhmbhmamaaDoor
open Go.RowKit Stp

theorem run_cutBl (W : World) (a : Option Addr) (n c : Nat) (k : IntKind) (l : Int) (h0 : 0 ≤ l) (h1 : l ≤ n) :
    (Instr.slice 70 (.slice a n c) (some (.int k l)) none none).run Tryd.prog W = .ok (.slice (cutAt a c l.toNat) (n - l.toNat) (c - l.toNat)) W := by
  rw [run_slice_l (P := Tryd.prog) (w := W) 70 a n c (by kernel_rfl) k l h0 h1]
  have hs : (sizeOf (Tryd.prog.elem 70)).run Tryd.prog W = .ok 1 W := by kernel_rfl
  rw [hs]
  simp [Result.andThen, sliced, cutAt]
theorem run_headBl (W : World) (a : Option Addr) (n c : Nat) (k : IntKind) (h : Int) (h0 : 0 ≤ h) (h1 : h ≤ c) :
    (Instr.slice 70 (.slice a n c) none (some (.int k h)) none).run Tryd.prog W = .ok (.slice (cutAt a c 0) h.toNat c) W := by
  rw [run_slice_h (P := Tryd.prog) (w := W) 70 a n c (by kernel_rfl) k h h0 h1]
  have hs : (sizeOf (Tryd.prog.elem 70)).run Tryd.prog W = .ok 1 W := by kernel_rfl
  rw [hs]
  simp [Result.andThen, sliced, cutAt]
theorem BoolsAt.cut {w : World} {B n c o d : Nat} {A : Option Addr} {L : List Bool} (h : BoolsAt w B A n L) (hc : n ≤ c) (hd : o + d ≤ n) : BoolsAt w B (cutAt A c o) d ((L.drop o).take d) := by
  have hl := h.1
  refine ⟨by rw [List.length_take, List.length_drop]; omega, ?_⟩
  by_cases h0 : d = 0
  · exact .inl h0
  rcases h.2 with h1 | ⟨b, off, rfl, hb, hcell⟩
  · omega
  refine .inr ⟨b, off + o, ?_, hb, fun i hi => ?_⟩
  · unfold cutAt
    rw [if_neg (by omega)]
    simp [Addr.add]
  · rw [Nat.add_assoc, hcell (o + i) (by omega)]
    simp [List.getD_eq_getElem?_getD, hi]
theorem bools_ext {a b : List Bool} (hl : a.length = b.length) (h : ∀ i, i < a.length → a.getD i false = b.getD i false) : a = b := by
  apply List.ext_getElem hl
  intro i h1 h2
  have := h i h1
  rw [List.getD_eq_getElem?_getD, List.getD_eq_getElem?_getD, List.getElem?_eq_getElem h1, List.getElem?_eq_getElem h2] at this
  exact this

set_option maxHeartbeats 1000000 in
set_option maxRecDepth 100000 in
theorem sEqBl_any (A1 A2 : Option Addr) (n c1 c2 : Nat) (a b : List Bool) (w : World) (h1 : BoolsAt w w.heap.size A1 n a) (h2 : BoolsAt w w.heap.size A2 n b) (hn0 : n ≤ 140737488355328) :
    Calls Tryd.prog 52 #[.slice A1 n c1, .slice A2 n c2] w fun e w' => e = .returned (.bool (decide (a = b))) ∧ Ext w w' := by
  have HEq := hide (show (∀ i, i < n → a.getD i false = b.getD i false) → decide (a = b) = true from fun h => decide_eq_true (bools_ext (by rw [h1.1, h2.1]) (by rw [h1.1]; exact h)))
  have HNe := hide (show ∀ i, a.getD i false ≠ b.getD i false → decide (a = b) = false from fun i h => decide_eq_false fun e => h (by rw [e]))
  have hlb : ((n : Int) != (n : Int)) = false := by simp
  have HA := hide h1
  have HB := hide h2
  generalize decide (a = b) = res at *
  clear h1 h2
  go_enter Tryd.func52, Tryd.ntmps52
  go_wp2
  go_loopw [13] (fun x wr => ∃ i : Nat, i ≤ n ∧ x = .int .i64 (i : Int) ∧ (∀ j, j < i → a.getD j false = b.getD j false) ∧ Ext w wr) (fun x _ => n - (intOf x).toNat)
  case atStart => exact ⟨0, by omega, rfl, fun j hj => absurd hj (by omega), Ext.refl _⟩
  case round =>
    obtain ⟨i, hi, rfl, hall, hQ⟩ := hrel
    have HAll := hide hall
    clear hall
    by_cases hlt : i < n
    · have hiI : (i : Int) < (n : Int) := by omega
      rcases (HA.out.ext hQ).2 with hn | ⟨b1, o1, rfl, _, hc1⟩
      · omega
      rcases (HB.out.ext hQ).2 with hn | ⟨b2, o2, rfl, _, hc2⟩
      · omega
      have e1 := hc1 i hlt
      have e2 := hc2 i hlt
      have hNe := HNe.out i
      clear hc1 hc2
      by_cases he : a.getD i false = b.getD i false
      · have HE := hide he
        obtain ⟨y, hy⟩ : ∃ y, y = b.getD i false := ⟨_, rfl⟩
        rw [he, ← hy] at e1
        rw [← hy] at e2
        clear he hNe hy
        cases y
        · go_wp2_with fail
          go_quiet (fail)
          go_wp2
          go_roundw
          case rel => exact ⟨i + 1, by omega, by go_num, fun j hj => (by
            by_cases e : j = i
            · rw [e]; exact HE.out
            · exact HAll.out j (by omega)), hQ.drewN _⟩
          case measure => simp [intOf]; omega
        · go_wp2_with fail
          go_quiet (fail)
          go_wp2
          go_roundw
          case rel => exact ⟨i + 1, by omega, by go_num, fun j hj => (by
            by_cases e : j = i
            · rw [e]; exact HE.out
            · exact HAll.out j (by omega)), hQ.drewN _⟩
          case measure => simp [intOf]; omega
      · have HN := hide (hNe he)
        have heb : (a.getD i false != b.getD i false) = true := by simpa using he
        generalize a.getD i false = y1 at *
        generalize b.getD i false = y2 at *
        clear hNe he
        cases y1
        · cases y2
          · exact absurd heb (by decide)
          · go_wp2_with fail
            go_quiet (fail)
            go_wp2
            go_ret
            exact ⟨ret_bool HN.out.symm, hQ.drewN _⟩
        · cases y2
          · go_wp2_with fail
            go_quiet (fail)
            go_wp2
            go_ret
            exact ⟨ret_bool HN.out.symm, hQ.drewN _⟩
          · exact absurd heb (by decide)
    · obtain rfl : n = i := by omega
      have HN := hide (HEq.out HAll.out)
      go_wp2
      go_ret
      exact ⟨ret_bool HN.out.symm, hQ⟩

/-- The first byte that is wanted. -/
def idxB (p : UInt8 → Bool) (l : List UInt8) : Int := if l.findIdx p < l.length then (l.findIdx p : Int) else -1
theorem idxB_at {p : UInt8 → Bool} {l : List UInt8} {i : Nat} (hi : i < l.length) (hall : ∀ j, j < i → p (l.getD j 0) = false) (h : p (l.getD i 0) = true) : idxB p l = (i : Int) := by
  have hg : ∀ j (hj : j < l.length), l.getD j 0 = l[j] := fun j hj => by rw [List.getD_eq_getElem?_getD, List.getElem?_eq_getElem hj]; rfl
  have h1 : l.findIdx p = i := by
    rw [List.findIdx_eq hi]
    refine ⟨by rw [← hg i hi]; exact h, fun j hj => ?_⟩
    rw [← hg j (by omega)]
    exact hall j hj
  unfold idxB
  rw [h1, if_pos hi]
theorem idxB_none {p : UInt8 → Bool} {l : List UInt8} (hall : ∀ j, j < l.length → p (l.getD j 0) = false) : idxB p l = -1 := by
  unfold idxB
  rw [if_neg]
  intro hx
  have h1 := List.findIdx_getElem (w := hx)
  have h2 := hall _ hx
  rw [List.getD_eq_getElem?_getD, List.getElem?_eq_getElem hx] at h2
  simp only [Option.getD_some] at h2
  rw [h1] at h2
  cases h2
set_option maxHeartbeats 1000000 in
set_option maxRecDepth 10000 in
theorem sRead1_any (x : UInt8) (w : World) : Calls Tryd.prog 34 #[.int .u8 (x.toNat : Int)] w fun e w' => e = .returned (.bool (x != 0)) ∧ Ext w w' := by
  have h : ((x.toNat : Int) != 0) = (x != 0) := by
    by_cases e : x = 0
    · subst e; rfl
    · have e2 : x.toNat ≠ 0 := fun h => e (UInt8.toNat_inj.1 h)
      have e3 : ((x.toNat : Int) != 0) = true := by simp; omega
      rw [e3]
      simp [e]
  rw [← h]
  clear h
  go_enter Tryd.func34, Tryd.ntmps34
  go_wp2
  go_ret
  exact ⟨rfl, Ext.refl _⟩
set_option maxHeartbeats 1000000 in
set_option maxRecDepth 100000 in
theorem sIndexB_any (A : Option Addr) (n c : Nat) (l : List UInt8) (w : World) (h : Bytes w w.heap.size A n l) (hn : n ≤ maxLen) :
    Calls Tryd.prog 55 #[.slice A n c, .func (.func 34) #[] #[]] w fun e w' => e = .returned (.int .i64 (idxB (fun x => x != 0) l)) ∧ Ext w w' := by
  have hEn := fun args W => enteredR_of Tryd.func34 (by kernel_rfl) rfl args W
  have hl := h.1
  have HAt := hide (fun (i : Nat) (hi : i < n) => idxB_at (p := fun x => x != 0) (l := l) (i := i) (by omega))
  have HNo := hide (fun hx => idxB_none (p := fun x => x != 0) (l := l) hx)
  rw [hl] at HNo
  have HA := hide h
  unfold maxLen at hn
  generalize idxB (fun x => x != 0) l = res at *
  clear h hl
  go_enter Tryd.func55, Tryd.ntmps55
  go_wp2
  go_loopw [8] (fun x wr => ∃ i : Nat, i ≤ n ∧ x = .int .i64 (i : Int) ∧ (∀ j, j < i → (l.getD j 0 != 0) = false) ∧ Ext w wr) (fun x _ => n - (intOf x).toNat)
  case atStart => exact ⟨0, by omega, rfl, fun j hj => absurd hj (by omega), Ext.refl _⟩
  case round =>
    obtain ⟨i, hi, rfl, hall, hE⟩ := hrel
    have HE := hide hE
    have HAll := hide hall
    clear hall
    by_cases hlt : i < n
    · have hiI : (i : Int) < (n : Int) := by omega
      rcases (hE.bytes HA.out).2 with hn0 | ⟨b1, o1, rfl, _, hc1⟩
      · omega
      have e1 := hc1 i hlt
      have C := sRead1_any (l.getD i 0) wr
      have HAi := hide (HAt.out i hlt HAll.out)
      have HNx := hide (show (l.getD i 0 != 0) = false → ∀ j, j < i + 1 → (l.getD j 0 != 0) = false from fun h1 j hj => by
        by_cases e : j = i
        · rw [e]; exact h1
        · exact HAll.out j (by omega))
      obtain ⟨b, hb⟩ : ∃ b, b = (l.getD i 0 != 0) := ⟨_, rfl⟩
      rw [← hb] at C HAi HNx
      generalize l.getD i 0 = x at *
      clear hc1 hE hb
      cases b with
      | true =>
        go_wp2_with fail
        refine C.mono ?_
        rintro e w1 ⟨rfl, hE1⟩
        go_wp2
        go_ret
        rw [HAi.out trivial]
        exact ⟨rfl, HE.out.trans hE1⟩
      | false =>
        go_wp2_with fail
        refine C.mono ?_
        rintro e w1 ⟨rfl, hE1⟩
        go_wp2
        go_roundw
        case rel => exact ⟨i + 1, by omega, by go_num, HNx.out trivial, HE.out.trans hE1⟩
        case measure => simp [intOf]; omega
    · have hiI : ¬ (i : Int) < (n : Int) := by omega
      obtain rfl : i = n := by omega
      have HR := hide (HNo.out HAll.out)
      clear hlt
      go_wp2
      go_ret
      rw [HR.out]
      exact ⟨rfl, HE.out⟩
set_option maxHeartbeats 1000000 in
theorem sContainsB_any (A : Option Addr) (n c : Nat) (l : List UInt8) (w : World) (h : Bytes w w.heap.size A n l) (hn : n ≤ maxLen) :
    Calls Tryd.prog 33 #[.slice A n c, .func (.func 34) #[] #[]] w fun e w' => e = .returned (.bool (!(l.all fun x => x == 0))) ∧ Ext w w' := by
  have C := sIndexB_any A n c l w h hn
  have HR := hide (show (!(l.all fun x => x == 0)) = decide (0 ≤ idxB (fun x => x != 0) l) from by
    unfold idxB
    by_cases hx : l.findIdx (fun x => x != 0) < l.length
    · rw [if_pos hx, decide_eq_true (by omega), Bool.not_eq_true', List.all_eq_false]
      refine ⟨_, List.getElem_mem hx, ?_⟩
      have := List.findIdx_getElem (w := hx)
      simpa using this
    · rw [if_neg hx, decide_eq_false (by omega), Bool.not_eq_false', List.all_eq_true]
      rw [Nat.not_lt] at hx
      have := List.findIdx_eq_length.1 (Nat.le_antisymm List.findIdx_le_length hx)
      intro x hx
      simpa using this x hx)
  generalize idxB (fun x => x != 0) l = k at *
  clear h
  go_enter Tryd.func33, Tryd.ntmps33
  go_wp2_with fail
  refine C.mono ?_
  rintro e w1 ⟨rfl, hE1⟩
  go_wp2
  go_ret
  rw [HR.out]
  exact ⟨rfl, hE1⟩

theorem whole_range35 {w : World} {r : Nat} {t : TypeId} {a b c x y : Value} (h : Whole w r t #[a, b, c, x, y]) : w.rangeAt r 0 [a, b, c] := by
  intro j v hv
  match j, hv with
  | 0, hv => exact h.at 0 hv
  | 1, hv => exact h.at 1 hv
  | 2, hv => exact h.at 2 hv

set_option maxHeartbeats 2000000 in
set_option maxRecDepth 100000 in
theorem sGoodOf_any {rb j n cap k m T : Nat} {c : Int} {x : Value} {A : Option Addr} {w : World} (hW : Whole w rb 83 #[.int .i64 (k : Int), .int .i64 (m : Int), .int .i64 c, x, .slice A n cap]) (hT : k + m = T) (hT2 : T ≤ 255) (hj : j * T + T ≤ n) (hn : n ≤ 100000) (hcap : n ≤ cap) :
    Calls Tryd.prog 53 #[.pointer (some ⟨rb, 0, none⟩), .int .i64 (j : Int)] w fun e w' => e = .returned (.slice (cutAt A cap (j * T)) T (cap - j * T)) ∧ Ext w w' := by
  have CP := fun W => sParts_any hT hT2 c W
  obtain ⟨f, hf⟩ : ∃ f, f = j * T := ⟨_, rfl⟩
  have hjT : (j : Int) * (T : Int) = (f : Int) := by rw [hf]; exact (Int.natCast_mul _ _).symm
  rw [← hf] at hj ⊢
  have x1 : IntKind.i64.wrap (f : Int) = (f : Int) := by rw [IntKind.wrap_i64]; omega
  have hR1 := fun W => run_cutBl W A n cap .i64 (f : Int) (by omega) (by omega)
  simp only [Int.toNat_natCast] at hR1
  have hR2 := fun W => run_headBl W (cutAt A cap f) (n - f) (cap - f) .i64 (T : Int) (by omega) (by omega)
  simp only [Int.toNat_natCast, cutAt_zeroB] at hR2
  generalize cutAt A cap f = A2 at *
  generalize cap - f = c2 at *
  generalize n - f = n2 at *
  have HR1 := hide hR1
  have HR2 := hide hR2
  unfold shpV at CP
  clear hR1 hR2 hT hT2 hj hn hcap hf
  go_enter Tryd.func53, Tryd.ntmps53
  go_wp2_with fail
  refine wp_region_T (fun W => Ext w W) 18 19 #[false, false, false, false, false, false, false, false, false, false, false, false, false, false, false, false, false, false, false] (by kernel_rfl) rfl rfl (Ext.refl w).drew ?_
  intro hS0
  refine wpAnyT_take 0 (some 5) (.pointer (some ⟨rb, 0, none⟩)) #[true, false, false, false, false, false, false, false, false, false, false, false, false, false, false, false, false, false, false] rfl rfl rfl (by kernel_rfl) (fun _ _ _ h => h) hS0 (by rfl) (fun W hX => by go_simp) ?_
  simp only [Act.put, List.setIfInBounds_toArray, List.set_cons_zero, List.set_cons_succ]
  refine wpAnyT_take 1 (some 6) (.pointer (some ⟨rb, 0, none⟩)) #[true, true, false, false, false, false, false, false, false, false, false, false, false, false, false, false, false, false, false] rfl rfl rfl (by kernel_rfl) (fun _ _ _ h => h) hS0 (by rfl) (fun W hX => by go_simp) ?_
  simp only [Act.put, List.setIfInBounds_toArray, List.set_cons_zero, List.set_cons_succ]
  refine wpAnyT_take 2 (some 7) (.pointer (some ⟨rb, 4, none⟩)) #[true, true, true, false, false, false, false, false, false, false, false, false, false, false, false, false, false, false, false] rfl rfl rfl (by kernel_rfl) (fun _ _ _ h => h) hS0 (by rfl) (fun W hX => by go_simp) ?_
  simp only [Act.put, List.setIfInBounds_toArray, List.set_cons_zero, List.set_cons_succ]
  refine wpAnyT_take 3 (some 8) (.slice A n cap) #[true, true, true, true, false, false, false, false, false, false, false, false, false, false, false, false, false, false, false] rfl rfl rfl (by kernel_rfl) (fun _ _ _ h => h) hS0 (by rfl) (fun W hX => by have s4 := (hW.ext hX).at 4 (u := .slice A n cap) rfl; go_simp) ?_
  simp only [Act.put, List.setIfInBounds_toArray, List.set_cons_zero, List.set_cons_succ]
  refine wpAnyT_take 4 (some 9) (.int .i64 (j : Int)) #[true, true, true, true, true, false, false, false, false, false, false, false, false, false, false, false, false, false, false] rfl rfl rfl (by kernel_rfl) (fun _ _ _ h => h) hS0 (by rfl) (fun W hX => by go_simp) ?_
  simp only [Act.put, List.setIfInBounds_toArray, List.set_cons_zero, List.set_cons_succ]
  refine wpAnyT_take 5 (some 10) (.pointer (some ⟨rb, 0, none⟩)) #[true, true, true, true, true, true, false, false, false, false, false, false, false, false, false, false, false, false, false] rfl rfl rfl (by kernel_rfl) (fun _ _ _ h => h) hS0 (by rfl) (fun W hX => by go_simp) ?_
  simp only [Act.put, List.setIfInBounds_toArray, List.set_cons_zero, List.set_cons_succ]
  refine wpAnyT_take 6 (some 11) (.pointer (some ⟨rb, 0, none⟩)) #[true, true, true, true, true, true, true, false, false, false, false, false, false, false, false, false, false, false, false] rfl rfl rfl (by kernel_rfl) (fun _ _ _ h => h) hS0 (by rfl) (fun W hX => by go_simp) ?_
  simp only [Act.put, List.setIfInBounds_toArray, List.set_cons_zero, List.set_cons_succ]
  refine wpAnyT_take 7 (some 12) (.pointer (some ⟨rb, 0, none⟩)) #[true, true, true, true, true, true, true, true, false, false, false, false, false, false, false, false, false, false, false] rfl rfl rfl (by kernel_rfl) (fun _ _ _ h => h) hS0 (by rfl) (fun W hX => by go_simp) ?_
  simp only [Act.put, List.setIfInBounds_toArray, List.set_cons_zero, List.set_cons_succ]
  refine wpAnyT_take 8 (some 13) (.agg #[.int .i64 (k : Int), .int .i64 (m : Int), .int .i64 c]) #[true, true, true, true, true, true, true, true, true, false, false, false, false, false, false, false, false, false, false] rfl rfl rfl (by kernel_rfl) (fun _ _ _ h => h) hS0 (by rfl) (fun W hX => by exact exec_load_mid 50 (.tmp 12) rfl rb 0 rfl [.int .i64 (k : Int), .int .i64 (m : Int), .int .i64 c] (whole_range35 (hW.ext hX)) Tryd.underlying50 rfl shp_info) ?_
  simp only [Act.put, List.setIfInBounds_toArray, List.set_cons_zero, List.set_cons_succ]
  refine wpAnyT_take 12 (some 17) (.pointer (some ⟨rb, 0, none⟩)) #[true, true, true, true, true, true, true, true, true, false, false, false, true, false, false, false, false, false, false] rfl rfl rfl (by kernel_rfl) (fun _ _ _ h => h) hS0 (by rfl) (fun W hX => by go_simp) ?_
  simp only [Act.put, List.setIfInBounds_toArray, List.set_cons_zero, List.set_cons_succ]
  refine wpAnyT_take 13 (some 18) (.pointer (some ⟨rb, 0, none⟩)) #[true, true, true, true, true, true, true, true, true, false, false, false, true, true, false, false, false, false, false] rfl rfl rfl (by kernel_rfl) (fun _ _ _ h => h) hS0 (by rfl) (fun W hX => by go_simp) ?_
  simp only [Act.put, List.setIfInBounds_toArray, List.set_cons_zero, List.set_cons_succ]
  refine wpAnyT_take 14 (some 19) (.pointer (some ⟨rb, 0, none⟩)) #[true, true, true, true, true, true, true, true, true, false, false, false, true, true, true, false, false, false, false] rfl rfl rfl (by kernel_rfl) (fun _ _ _ h => h) hS0 (by rfl) (fun W hX => by go_simp) ?_
  simp only [Act.put, List.setIfInBounds_toArray, List.set_cons_zero, List.set_cons_succ]
  refine wpAnyT_take 15 (some 20) (.agg #[.int .i64 (k : Int), .int .i64 (m : Int), .int .i64 c]) #[true, true, true, true, true, true, true, true, true, false, false, false, true, true, true, true, false, false, false] rfl rfl rfl (by kernel_rfl) (fun _ _ _ h => h) hS0 (by rfl) (fun W hX => by exact exec_load_mid 50 (.tmp 19) rfl rb 0 rfl [.int .i64 (k : Int), .int .i64 (m : Int), .int .i64 c] (whole_range35 (hW.ext hX)) Tryd.underlying50 rfl shp_info) ?_
  simp only [Act.put, List.setIfInBounds_toArray, List.set_cons_zero, List.set_cons_succ]
  refine wpAnyT_only 9 #[true, true, true, true, true, true, true, true, true, true, false, false, true, true, true, true, false, false, false] (by kernel_rfl) rfl rfl (by rfl) (fun K0 hK0 => ?_)
  go_simp
  go_at_call 39
  refine (CP _).mono ?_
  rintro e wc0 ⟨rfl, hC0⟩
  have hX0 := hS0.trans hC0
  refine hK0 _ _ (fun _ => hX0) ?_
  clear hK0 K0
  refine wpAnyT_take 10 (some 15) (.int .i64 (f : Int)) #[true, true, true, true, true, true, true, true, true, true, true, false, true, true, true, true, false, false, false] rfl rfl rfl (by kernel_rfl) (fun _ _ _ h => h) hX0 (by rfl) (fun W hX => by go_simp) ?_
  simp only [Act.put, List.setIfInBounds_toArray, List.set_cons_zero, List.set_cons_succ]
  refine wpAnyT_take 11 (some 16) (.slice A2 n2 c2) #[true, true, true, true, true, true, true, true, true, true, true, true, true, true, true, true, false, false, false] rfl rfl rfl (by kernel_rfl) (fun _ _ _ h => h) hX0 (by rfl) (fun W hX => by have hr := HR1.out W; go_simp) ?_
  simp only [Act.put, List.setIfInBounds_toArray, List.set_cons_zero, List.set_cons_succ]
  refine wpAnyT_only 16 #[true, true, true, true, true, true, true, true, true, true, true, true, true, true, true, true, true, false, false] (by kernel_rfl) rfl rfl (by rfl) (fun K1 hK1 => ?_)
  go_simp
  go_at_call 39
  refine (CP _).mono ?_
  rintro e wc1 ⟨rfl, hC1⟩
  have hX1 := hX0.trans hC1
  refine hK1 _ _ (fun _ => hX1) ?_
  clear hK1 K1
  refine wpAnyT_take 17 (some 22) (.slice A2 T c2) #[true, true, true, true, true, true, true, true, true, true, true, true, true, true, true, true, true, true, false] rfl rfl rfl (by kernel_rfl) (fun _ _ _ h => h) hX1 (by rfl) (fun W hX => by have hr := HR2.out W; go_simp) ?_
  simp only [Act.put, List.setIfInBounds_toArray, List.set_cons_zero, List.set_cons_succ]
  refine wpAnyT_only 18 #[true, true, true, true, true, true, true, true, true, true, true, true, true, true, true, true, true, true, true] (by kernel_rfl) rfl rfl (by rfl) (fun K2 hK2 => ?_)
  go_simp
  refine hK2 _ _ (fun h => absurd h (by decide)) (wpAnyT_done (by kernel_rfl) ?_ _)
  clear hK2 K2
  go_wp2
  go_ret
  exact ⟨rfl, hX1⟩

/-- The numbers of those that aren't good. -/
def badL (L : List Bool) (q : Nat) : List Int := ((List.range q).filter fun i => !L.getD i false).map Int.ofNat
theorem badL_next (L : List Bool) (q : Nat) : badL L (q + 1) = badL L q ++ if L.getD q false = true then [] else [(q : Int)] := by
  unfold badL
  have e : (List.filter (fun i => !L.getD i false) [q]) = if L.getD q false = true then [] else [q] := by
    rw [List.filter_cons, List.filter_nil]
    cases L.getD q false <;> rfl
  rw [List.range_succ, List.filter_append, List.map_append, e]
  split <;> rfl
theorem badL_len (L : List Bool) (q : Nat) : (badL L q).length ≤ q := by
  unfold badL
  rw [List.length_map]
  exact Nat.le_trans (List.length_filter_le _ _) (by simp)
set_option maxHeartbeats 2000000 in
set_option maxRecDepth 100000 in
theorem sBad_any {rb n cap : Nat} {k m c x : Value} {A : Option Addr} {L : List Bool} {w : World} (hW : Whole w rb 83 #[k, m, c, x, .slice A n cap]) (hL : BoolsAt w w.heap.size A n L) (hn : n ≤ 100000) :
    Calls Tryd.prog 35 #[.pointer (some ⟨rb, 0, none⟩)] w fun e w' => ∃ v, e = .returned v ∧ OwnI w' w.heap.size v (badL L n) ∧ Ext w w' := by
  have s4 := hW.at 4 (u := .slice A n cap) rfl
  have HL := hide hL
  have HNx := hide (fun q => badL_next L q)
  have HLn := hide (fun q => badL_len L q)
  clear hL hW
  go_enter Tryd.func35, Tryd.ntmps35
  go_wp2
  go_loopw [3, 11] (fun v z wr => ∃ i : Nat, i ≤ n ∧ z = .int .i64 (i : Int) ∧ OwnI wr w.heap.size v (badL L i) ∧ Ext w wr) (fun _ z _ => n - (intOf z).toNat)
  case atStart => exact ⟨0, by omega, rfl, OwnI.nil _ _, Ext.refl _⟩
  case round =>
    obtain ⟨i, hi, rfl, hO, hE⟩ := hrel
    have HE := hide hE
    by_cases hlt : i < n
    · have hiI : (i : Int) < (n : Int) := by omega
      rcases (HL.out.ext hE).2 with h0 | ⟨b1, o1, rfl, _, hc1⟩
      · omega
      have e1 := hc1 i hlt
      have hN := HNx.out i
      have hl9 := HLn.out i
      clear hc1 hE
      cases hb : L.getD i false with
      | true =>
        rw [hb] at e1 hN
        rw [if_pos rfl, List.append_nil] at hN
        have HN := hide hN
        clear hb hN
        go_wp2
        go_roundw
        case rel => exact ⟨i + 1, by omega, by go_num, by rw [HN.out]; exact hO, HE.out⟩
        case measure => simp [intOf]; omega
      | false =>
        rw [hb] at e1 hN
        rw [if_neg (by simp)] at hN
        have HN := hide hN
        have hEa := extNew wr (.cells #[.int .i64 (i : Int)] 3)
        have hOa := hO.ext hEa
        have hB := HE.out.le
        clear hb hN
        go_wp2_with (at_builtin; refine wpList_appIB rfl (.tmp 18) (.tmp 20) rfl rfl (i : Int) hOa rfl (by omega) hB ?_; intro v4 w4 hO4 hG4)
        go_roundw
        case rel => exact ⟨i + 1, by omega, by go_num, by rw [HN.out]; exact hO4, Below.grown (HE.out.trans hEa) hG4 (HE.out.trans hEa).le fun r e => (hO.lt r e).1⟩
        case measure => simp [intOf]; omega
    · obtain rfl : i = n := by omega
      have hiI : ¬ (i : Int) < (i : Int) := by omega
      clear hlt hE
      go_wp2
      go_ret
      exact ⟨_, rfl, hO, HE.out⟩
end Go.Proofs.YtkfipfhmbhmamaaDoor

namespace Go.Proofs.YtkfipfhmbhmamaaDoor
open Go.RowKit Stp

attribute [local go_sem] Oper.semAt_some

theorem Whole.kindNe {W : World} {a b : Nat} {t1 t2 : TypeId} {c1 c2 : Array Value} (h1 : Whole W a t1 c1) (h2 : Whole W b t2 c2) (ht : t1 ≠ t2) : a ≠ b := by
  intro e
  subst e
  unfold Whole at h1 h2
  rw [h1] at h2
  simp only [Option.some.injEq, Obj.cells.injEq] at h2
  exact ht h2.2.1
theorem KeepsOthers.ofOwns {W W' : World} {base : Nat} {e : TypeId} {z n : Nat} {v : Value} {xs : List Value} (h : W.ownsRow base e z v n xs) (hG : W.grownBy W' v.ownBlock) : KeepsOthers W W' := KeepsOthers.of_grownBy hG (fun j o hj ho => by
  rcases h.2 with ⟨rfl, _⟩ | ⟨g1, c1, u1, rfl, _, hg1, _⟩
  · cases hj
  · simp only [Value.ownBlock, Option.some.injEq] at hj
    subst hj
    rw [hg1] at ho
    cases ho
    rfl)
/-- append of one truth value, at its operation. -/
theorem wp_appT {o : Oper} {a : Act} {K : Act → World → Prop} {Q : Exit → Act → World → Prop} {w : World} {base : Nat} {v : Value} {L : List Bool} (s x : Operand) (ho : o.op = .call { callee := .builtin .append, args := #[s, x], argTypes := #[70, 70] }) (hs : a.eval s = v) (p : Bool)
    (hown : OwnT (w.alloc (.cells #[.bool p] 4)) base v L) {c : Nat} (hx : a.eval x = .slice (some ⟨w.heap.size, 0, none⟩) 1 c) (hlen : L.length ≤ 100000) (hbase : base ≤ w.heap.size)
    (h : ∀ v' w', OwnT w' base v' (L ++ [p]) → (w.alloc (.cells #[.bool p] 4)).grownBy w' v.ownBlock → K (a.put o.dst v') w') :
    o.wp Tryd.prog a (w.alloc (.cells #[.bool p] 4)) K Q := by
  obtain ⟨i, hi, hz, hsz, hby⟩ := info_parts bool_info
  obtain ⟨v', w', hr, h2, h3, _, _⟩ := run_append_own_at (P := Tryd.prog) (w.alloc (.cells #[.bool p] 4)) base 70 o.type 4 i _ 1 1 Tryd.underlying70 hi hz hsz hby rfl (by omega) v L.length (L.map Value.bool) hown ⟨w.heap.size, 0, none⟩ 1 c [.bool p] rfl (by
    intro j u hu
    match j, hu with
    | 0, hu =>
      have : (⟨w.heap.size, 0, none⟩ : Addr).add 0 = ⟨w.heap.size, 0, none⟩ := rfl
      rw [this, cellNew]
      simpa using hu
    | j + 1, hu => simp at hu) (by
    intro u hu
    simp at hu
    subst hu
    rfl) (by unfold maxLen; omega) (by omega) (by simp; omega)
  unfold Oper.wp execOp
  simp only [ho, resolve, invoke, builtin, Sem.run_bind, Sem.run_pure, Result.andThen_ok, List.map_toArray, List.map_cons, List.map_nil, hs, hx, hr]
  refine h v' w' ?_ h3
  unfold OwnT
  rw [List.length_append, List.map_append]
  exact h2
theorem Bytes.part {w : World} {B n o d : Nat} {A : Option Addr} {l : List UInt8} (h : Bytes w B A n l) (hd : o + d ≤ n) : Bytes w B (partB A o) d ((l.drop o).take d) := by
  refine ⟨by rw [List.length_take, List.length_drop, h.1]; omega, ?_⟩
  by_cases h0 : d = 0
  · exact .inl h0
  rcases h.2 with h1 | ⟨b, off, rfl, hb, hc⟩
  · omega
  refine .inr ⟨b, off + o, rfl, hb, fun i hi => ?_⟩
  rw [Nat.add_assoc, hc (o + i) (by omega)]
  simp [List.getD_eq_getElem?_getD, hi]

/-- Which of the first q chunks are good. -/
def goodL (c : Nat) (s : List UInt8) (q : Nat) : List Bool := (List.range q).map (goodQ c s)
theorem goodL_len (c : Nat) (s : List UInt8) (q : Nat) : (goodL c s q).length = q := by simp [goodL]
theorem goodL_next (c : Nat) (s : List UInt8) (q : Nat) : goodL c s (q + 1) = goodL c s q ++ [goodQ c s q] := by simp [goodL, List.range_succ]
theorem goodL_at {c : Nat} {s : List UInt8} {q i : Nat} (h : i < q) : (goodL c s q).getD i false = goodQ c s i := by simp [goodL, List.getD_eq_getElem?_getD, h]

/-- A reader of stripes, with its lanes. -/
structure Rdr (W : World) (bs rb g k m c T : Nat) (R : Nat → Value) (F : Nat → List UInt8) (vg : Value) (L : List Bool) : Prop where
  wr : Whole W rb 83 #[.int .i64 (k : Int), .int .i64 (m : Int), .int .i64 (c : Int), .slice (some ⟨g, 0, none⟩) T T, vg]
  lns : Lns W bs g T R F
  good : OwnT W bs vg L
section
variable {W W1 W2 W3 : World} {bs rb g k m c T : Nat} {R : Nat → Value} {F : Nat → List UInt8} {vg : Value} {L : List Bool}
theorem Rdr.ext (h : Rdr W bs rb g k m c T R F vg L) (hE : Ext W W1) : Rdr W1 bs rb g k m c T R F vg L := ⟨h.wr.ext hE, h.lns.ext hE, h.good.ext hE⟩
theorem Lns.turn {row : Option Nat} (h : Lns W bs g T R F) (hg : W.grownBy W1 row) (hr : ∀ r, row = some r → ∃ o : Obj, W.heap[r]? = some o ∧ o.isCells = false) : Lns W1 bs g T R F := ⟨ownsTurn h.lst hg hr, fun i hi => (h.row i hi).turn hg hr, h.apart⟩
theorem Rdr.turn {row : Option Nat} (h : Rdr W bs rb g k m c T R F vg L) (hg : W.grownBy W1 row) (hr : ∀ r, row = some r → ∃ o : Obj, W.heap[r]? = some o ∧ o.isCells = false) : Rdr W1 bs rb g k m c T R F vg L := ⟨h.wr.turn hg hr, h.lns.turn hg hr, ownsTurn h.good hg hr⟩
/-- What else stays: a block known whole, of no lane's kind. -/
theorem Rdr.lane (h : Rdr W bs rb g k m c T R F vg L) {i : Nat} (hi : i < T) {x : Value} {l : List UInt8} (hO : OwnB W1 bs x l) (hG : W.grownBy W1 (R i).ownBlock) (hN : NewOb W (R i).ownBlock x.ownBlock) :
    Rdr (W1.setCell ⟨g, i, none⟩ x) bs rb g k m c T (upd R i x) (upd F i l) vg L ∧ KeepsOthers W (W1.setCell ⟨g, i, none⟩ x) ∧
      (∀ b t cs, Whole W b t cs → t ≠ 5 → b ≠ g → Whole (W1.setCell ⟨g, i, none⟩ x) b t cs) ∧ ∀ w, Ext w W → w.heap.size ≤ bs → Ext w (W1.setCell ⟨g, i, none⟩ x) := by
  have hr := h.lns.row i hi
  have hl1 : Lst W1 bs g T R := h.lns.lst.kept hG (h.lns.lst.byte hr)
  have hG2 := grown_setCell W1 g i x
  have hk : ∀ b t cs, Whole W b t cs → t ≠ 5 → b ≠ g → Whole (W1.setCell ⟨g, i, none⟩ x) b t cs := fun b t cs hb ht hne => (hb.ownGrown hG (hr.notKind hb ht)).grown hG2 hne
  refine ⟨⟨hk _ _ _ h.wr (by decide) (h.lns.lst.notWhole h.wr (by decide)), h.lns.grow hi hO hG hN, ?_⟩, (KeepsOthers.ofOwn hr hG).trans (KeepsOthers.ofOwns hl1 hG2), hk, fun w hE hw => ?_⟩
  · have h1 : OwnT W1 bs vg L := World.ownsRow.kept h.good hG (ownsApartS h.good hr (by decide))
    exact World.ownsRow.kept h1 hG2 (ownsApartS h1 hl1 (by decide))
  · have h1 : Ext w W1 := Below.grown hE hG hE.le fun r e => Nat.le_trans hw (hr.lt r e).1
    exact Below.grown h1 hG2 h1.le fun r e => by
      cases e
      exact Nat.le_trans hw h.lns.lst.lt.1
theorem Rdr.add (h : Rdr W bs rb g k m c T R F vg L) {x : Value} {p : Bool} (hO : OwnT W1 bs x (L ++ [p])) (hG : W.grownBy W1 vg.ownBlock) (hp : Whole W2 rb 83 #[.int .i64 (k : Int), .int .i64 (m : Int), .int .i64 (c : Int), .slice (some ⟨g, 0, none⟩) T T, x]) (hG2 : W1.grownBy W2 (some rb)) :
    Rdr W2 bs rb g k m c T R F x (L ++ [p]) ∧ KeepsOthers W W2 ∧ (∀ b t cs, Whole W b t cs → t ≠ 4 → b ≠ rb → Whole W2 b t cs) ∧ ∀ w, Ext w W → w.heap.size ≤ bs → w.heap.size ≤ rb → Ext w W2 := by
  have hn : ∀ b t cs, Whole W b t cs → t ≠ 4 → vg.ownBlock ≠ some b := fun b t cs hb ht => by
    rcases ownsNotWhole h.good hb ht with e | e
    · rw [e]; simp
    · exact e
  have hk : ∀ b t cs, Whole W b t cs → t ≠ 4 → b ≠ rb → Whole W2 b t cs := fun b t cs hb ht hne => (hb.ownGrown hG (hn b t cs hb ht)).grown hG2 hne
  have hw1 := h.wr.ownGrown hG (hn _ _ _ h.wr (by decide))
  have hl1 : Lns W1 bs g T R F := h.lns.other hG (by
    intro e
    rcases ownsApartS h.good h.lns.lst (by decide) with e2 | e2
    · rw [e2] at e; cases e
    · exact e2 (by rw [e]; rfl)) (fun i hi => ownsApartS (h.lns.row i hi) h.good (by decide))
  have hl2 : Lns W2 bs g T R F := hl1.other hG2 (by
    intro e
    injection e with e
    exact hl1.lst.notWhole hw1 (by decide) e) (fun i hi => .inr ((hl1.row i hi).notKind hw1 (by decide)))
  refine ⟨⟨hp, hl2, World.ownsRow.kept hO hG2 (ownsNotWhole hO hw1 (by decide))⟩, (KeepsOthers.ofOwns h.good hG).trans (KeepsOthers.ofWhole hw1 hG2), hk, fun w hE hw hr => ?_⟩
  have h1 : Ext w W1 := Below.grown hE hG hE.le fun r e => Nat.le_trans hw (h.good.lt r e).1
  exact Below.grown h1 hG2 h1.le fun r e => by cases e; exact hr
end
/-- What readerOf tells. -/
def RdrTo (w : World) (k m c T : Nat) (F : Nat → List UInt8) (L : List Bool) (e : Ending) (w' : World) : Prop := ∃ rb g R vg, e = .returned (.pointer (some ⟨rb, 0, none⟩)) ∧ w.heap.size ≤ rb ∧ Rdr w' w.heap.size rb g k m c T R F vg L ∧ Ext w w'

/-- While the reader is made. -/
structure RdPre (w : World) (sb pb rb g k m c T : Nat) (p : Value) (W : World) : Prop where
  wp : Whole W pb 63 #[p]
  wr : Whole W rb 83 #[.int .i64 (k : Int), .int .i64 (m : Int), .int .i64 (c : Int), .slice (some ⟨g, 0, none⟩) T T, .slice none 0 0]
  ws : Whole W sb 50 #[.int .i64 (k : Int), .int .i64 (m : Int), .int .i64 (c : Int)]
  lst : Lst W w.heap.size g T (fun _ => .slice none 0 0)
  ext : Ext w W
  lo : w.heap.size ≤ pb ∧ w.heap.size ≤ rb
theorem RdPre.put {w W W' : World} {sb pb rb g k m c T : Nat} {p p' : Value} (h : RdPre w sb pb rb g k m c T p W) (hp : Whole W' pb 63 #[p']) (hG : W.grownBy W' (some pb)) : RdPre w sb pb rb g k m c T p' W' :=
  ⟨hp, h.wr.grown hG (h.wr.kindNe h.wp (by decide)), h.ws.grown hG (h.ws.kindNe h.wp (by decide)), h.lst.kept hG (fun e => h.lst.notWhole h.wp (by decide) (by injection e)), Below.grown h.ext hG h.ext.le fun r e => by cases e; exact h.lo.1, h.lo⟩
theorem RdPre.rdr {w W : World} {sb pb rb g k m c T : Nat} {p : Value} (h : RdPre w sb pb rb g k m c T p W) : Rdr W w.heap.size rb g k m c T (fun _ => .slice none 0 0) (fun _ => []) (.slice none 0 0) [] :=
  ⟨h.wr, Lns.ofNil h.lst, OwnT.nil _ _⟩
/-- Between two rounds of readerOf. -/
structure RdI (w : World) (sb pb rb g s2 s3 k m c T sz : Nat) (A : Option Addr) (Z cap : Nat) (s : List UInt8) (q : Nat) (W : World) : Prop where
  ex : ∃ R vg, Rdr W w.heap.size rb g k m c T R (rawT T c s q) vg (goodL c s q)
  wp : Whole W pb 63 #[.pointer (some ⟨rb, 0, none⟩)]
  ws : Whole W sb 50 #[.int .i64 (k : Int), .int .i64 (m : Int), .int .i64 (c : Int)]
  b2 : Whole W s2 27 #[.slice A Z cap]
  b3 : Whole W s3 3 #[.int .i64 (sz : Int)]
  ext : Ext w W
theorem RdI.own {w : World} {sb pb rb g s2 s3 k m c T sz Z cap B : Nat} {A : Option Addr} {s : List UInt8} (hB : w.heap.size ≤ B) : OwnFrom B (RdI w sb pb rb g s2 s3 k m c T sz A Z cap s) := fun q W W' row h hg hr => by
  have hr2 := fun r e => (hr r e).2
  obtain ⟨R, vg, h1⟩ := h.ex
  exact ⟨⟨R, vg, h1.turn hg hr2⟩, h.wp.turn hg hr2, h.ws.turn hg hr2, h.b2.turn hg hr2, h.b3.turn hg hr2, Below.grown h.ext hg h.ext.le fun r e => Nat.le_trans hB (hr r e).1⟩

set_option maxHeartbeats 8000000 in
set_option maxRecDepth 100000 in
theorem sReaderOf_any {k m c N Z T : Nat} (A : Option Addr) (cap : Nat) (s : List UInt8) (w : World) (hk : 1 ≤ k) (hkm : k + m ≤ 255) (hT : k + m = T) (hc : 1 ≤ c) (hc2 : c ≤ 4096) (hZ : Z = N * T * (c + 4)) (hZ2 : Z ≤ 20000) (hb : Bytes w w.heap.size A Z s) (hcap : Z ≤ cap) (hcm : cap ≤ maxLen) (ht : Tab w) :
    Calls Tryd.prog 30 #[shpV k m c, .slice A Z cap] w (RdrTo w k m c T (fun i => laneF N fun j => rawQ c s (j * T + i)) (goodL c s (N * T))) := by
  have hT2 : T ≤ 255 := by omega
  have hT1 : 1 ≤ T := by omega
  have CP := fun W => sParts_any hT hT2 (c : Int) W
  have HTab := hide (fun W (hE : Ext w W) => hE.tab ht ht.pos)
  have HB := hide hb
  have HZ := hide hZ
  have HCm := hide hcm
  have HAll := hide (fun i => rawT_all (t := T) (c := c) (N := N) (i := i) (s := s) hT1)
  obtain ⟨sz, hsz⟩ : ∃ x, x = c + 4 := ⟨_, rfl⟩
  have hszI : (c : Int) + 4 = (sz : Int) := by omega
  have hs1 : 1 ≤ sz := by omega
  have hs2 : sz ≤ 4100 := by omega
  have HSz := hide hsz
  have hW1 := Whole.new w 50 #[.int .i64 (k : Int), .int .i64 (m : Int), .int .i64 (c : Int)]
  have hE1 := extNew w (.cells #[.int .i64 (k : Int), .int .i64 (m : Int), .int .i64 (c : Int)] 50)
  unfold shpV at CP ⊢
  clear hb hZ hcm ht hsz hkm
  refine (callsIn_wide (n := 10)).1 ?_
  refine callsIn_of_wp_marks Tryd.func30 rfl trivial ?_ rfl
  simp only [Tryd.ntmps30, List.size_toArray, List.length_cons, List.length_nil, Nat.reduceAdd, Nat.reduceSub, Array.replicate_succ, Array.replicate_zero, List.push_toArray, List.append_toArray, List.nil_append, List.cons_append]
  refine wpIn_wide.2 ?_
  go_wp2_with fail
  obtain ⟨sb, hsb⟩ : ∃ x, x = w.heap.size := ⟨_, rfl⟩
  obtain ⟨w1, hw1⟩ : ∃ W, W = w.alloc (.cells #[.int .i64 (k : Int), .int .i64 (m : Int), .int .i64 (c : Int)] 50) := ⟨_, rfl⟩
  rw [← hw1] at hW1 hE1 ⊢
  rw [← hsb] at hW1 ⊢
  have HSb := hide hsb
  clear hw1 hsb
  refine wp_mono (Q := onlyNormal fun _ a W => ∃ pb rb g, a = { tmps := #[.agg #[.int .i64 (k : Int), .int .i64 (m : Int), .int .i64 (c : Int)], .slice A Z cap, .pointer (some ⟨sb, 0, none⟩), undef, .pointer none, .pointer (some ⟨pb, 0, none⟩), undef, undef, undef, undef, .agg #[.int .i64 (k : Int), .int .i64 (m : Int), .int .i64 (c : Int)], .agg #[.int .i64 (k : Int), .int .i64 (m : Int), .int .i64 (c : Int)], .int .i64 (T : Int), .slice (some ⟨g, 0, none⟩) T T, .agg #[.int .i64 (k : Int), .int .i64 (m : Int), .int .i64 (c : Int), .slice (some ⟨g, 0, none⟩) T T, .slice none 0 0], .pointer (some ⟨rb, 0, none⟩), undef, undef, undef, undef, undef, undef, undef, undef, undef, undef, undef, undef, undef, undef, undef, undef, undef, undef, undef, undef, undef, undef, undef, undef, undef, undef, undef, undef, undef, undef, undef, undef, undef, undef, undef, undef, undef, undef, undef, undef, undef, undef, undef, undef, undef, undef], defers := [] } ∧ RdPre w sb pb rb g k m c T (.pointer (some ⟨rb, 0, none⟩)) W) ?_ ?_
  · have hr1 := whole_range3 hW1
    refine wp_region_T (fun W => Ext w1 W) 7 8 #[false, false, false, false, false, false, false, false] (by kernel_rfl) rfl rfl (Ext.refl w1).drew ?_
    intro hS0
    refine wpAnyT_take 0 (some 10) (.agg #[.int .i64 (k : Int), .int .i64 (m : Int), .int .i64 (c : Int)]) #[true, false, false, false, false, false, false, false] rfl rfl rfl (by kernel_rfl) (fun _ _ _ h => h) hS0 (by rfl) (fun W hX => by exact exec_load_mid 50 (.tmp 2) rfl sb 0 rfl [.int .i64 (k : Int), .int .i64 (m : Int), .int .i64 (c : Int)] (whole_range3 (hW1.ext hX)) Tryd.underlying50 rfl shp_info) ?_
    simp only [Act.put, List.setIfInBounds_toArray, List.set_cons_zero, List.set_cons_succ]
    refine wpAnyT_take 1 (some 11) (.agg #[.int .i64 (k : Int), .int .i64 (m : Int), .int .i64 (c : Int)]) #[true, true, false, false, false, false, false, false] rfl rfl rfl (by kernel_rfl) (fun _ _ _ h => h) hS0 (by rfl) (fun W hX => by exact exec_load_mid 50 (.tmp 2) rfl sb 0 rfl [.int .i64 (k : Int), .int .i64 (m : Int), .int .i64 (c : Int)] (whole_range3 (hW1.ext hX)) Tryd.underlying50 rfl shp_info) ?_
    simp only [Act.put, List.setIfInBounds_toArray, List.set_cons_zero, List.set_cons_succ]
    obtain ⟨wd, hwd⟩ : ∃ W, W = w1.drew := ⟨_, rfl⟩
    rw [← hwd] at hS0 ⊢
    clear hwd
    refine wpAnyT_two 2 6 #[true, true, true, false, false, false, false, false] #[true, true, false, false, false, false, true, false] (by kernel_rfl) rfl rfl rfl rfl (by rfl) (by rfl) (fun K0 hK0 => ?_) (fun K0 hK0 => ?_)
    · skip
      go_simp
      refine (CP _).mono ?_
      rintro e wp0 ⟨rfl, hC0⟩
      have hX0 := hS0.trans hC0
      refine hK0 _ _ (fun _ => hX0) ?_
      clear hK0 K0
      try simp only [Act.put, List.setIfInBounds_toArray, List.set_cons_zero, List.set_cons_succ]
      refine wpAnyT_two 3 6 #[true, true, true, true, false, false, false, false] #[true, true, true, false, false, false, true, false] (by kernel_rfl) rfl rfl rfl rfl (by rfl) (by rfl) (fun K1 hK1 => ?_) (fun K1 hK1 => ?_)
      · skip
        refine wp_makeLst (n := T) (.tmp 12) (.tmp 12) rfl rfl rfl (by omega) ?_
        intro wp1 hL1 hC1
        skip
        have hX1 := hX0.trans hC1
        refine hK1 _ _ (fun _ => hX1) ?_
        clear hK1 K1
        try simp only [Act.put, List.setIfInBounds_toArray]
        refine wpAnyT_take 4 (some 14) (.agg #[.int .i64 (k : Int), .int .i64 (m : Int), .int .i64 (c : Int), .slice (some ⟨(wp0).heap.size, 0, none⟩) T T, .slice none 0 0]) #[true, true, true, true, true, false, false, false] rfl rfl rfl (by kernel_rfl) (fun _ _ _ h => h) hX1 (by rfl) (fun W hX => by go_simp) ?_
        try simp only [Act.put]
        refine wpAnyT_two 5 6 #[true, true, true, true, true, true, false, false] #[true, true, true, true, true, false, true, false] (by kernel_rfl) rfl rfl rfl rfl (by rfl) (by rfl) (fun K2 hK2 => ?_) (fun K2 hK2 => ?_)
        · skip
          go_simp
          have hC2 := extNew wp1 (.cells #[.int .i64 (k : Int), .int .i64 (m : Int), .int .i64 (c : Int), .slice (some ⟨(wp0).heap.size, 0, none⟩) T T, .slice none 0 0] 83)
          have hR2 := Whole.new wp1 83 #[.int .i64 (k : Int), .int .i64 (m : Int), .int .i64 (c : Int), .slice (some ⟨(wp0).heap.size, 0, none⟩) T T, .slice none 0 0]
          generalize hw2 : (wp1).alloc (.cells #[.int .i64 (k : Int), .int .i64 (m : Int), .int .i64 (c : Int), .slice (some ⟨(wp0).heap.size, 0, none⟩) T T, .slice none 0 0] 83) = wp2 at *
          clear hw2
          have hX2 := hX1.trans hC2
          have hL2 := hL1.ext hC2
          refine hK2 _ _ (fun _ => hX2) ?_
          clear hK2 K2
          try simp only [Act.put, List.setIfInBounds_toArray, List.set_cons_zero, List.set_cons_succ]
          refine wpAnyT_only 6 #[true, true, true, true, true, true, true, false] (by kernel_rfl) rfl rfl (by rfl) (fun K3 hK3 => ?_)
          go_simp
          have hC3 := extNew wp2 (.cells #[.pointer none] 63)
          have hP3 := Whole.new wp2 63 #[.pointer none]
          generalize hw3 : (wp2).alloc (.cells #[.pointer none] 63) = wp3 at *
          clear hw3
          have hX3 := hX2.trans hC3
          have hL3 := hL2.ext hC3
          have hR3 := hR2.ext hC3
          refine hK3 _ _ (fun _ => hX3) ?_
          clear hK3 K3
          try simp only [Act.put, List.setIfInBounds_toArray, List.set_cons_zero, List.set_cons_succ]
          refine wpAnyT_only 7 #[true, true, true, true, true, true, true, true] (by kernel_rfl) rfl rfl (by rfl) (fun K4 hK4 => ?_)
          have hPre : RdPre w sb (wp2).heap.size (wp1).heap.size (wp0).heap.size k m c T (.pointer none) wp3 := ⟨hP3, hR3, hW1.ext hX3, hL3.mono (Nat.le_trans hE1.le (Ext.le (hX0))), hE1.trans hX3, ⟨Nat.le_trans hE1.le (Ext.le (hX2)), Nat.le_trans hE1.le (Ext.le (hX1))⟩⟩
          refine wpOper_putC 63 (.tmp 5) (.tmp 15) rfl #[.pointer (some ⟨(wp1).heap.size, 0, none⟩)] rfl rfl hPre.wp (by simp) (by kernel_rfl) rfl rfl rfl ?_
          intro w9 hW9 hG9
          refine hK4 _ _ (fun h => absurd h (by decide)) (wpAnyT_done (by kernel_rfl) ?_ _)
          exact ⟨_, _, _, rfl, hPre.put hW9 hG9⟩
        · skip
          go_simp
          have hC2 := extNew wp1 (.cells #[.pointer none] 63)
          have hP2 := Whole.new wp1 63 #[.pointer none]
          generalize hw2 : (wp1).alloc (.cells #[.pointer none] 63) = wp2 at *
          clear hw2
          have hX2 := hX1.trans hC2
          have hL2 := hL1.ext hC2
          refine hK2 _ _ (fun _ => hX2) ?_
          clear hK2 K2
          try simp only [Act.put, List.setIfInBounds_toArray, List.set_cons_zero, List.set_cons_succ]
          refine wpAnyT_only 5 #[true, true, true, true, true, true, true, false] (by kernel_rfl) rfl rfl (by rfl) (fun K3 hK3 => ?_)
          go_simp
          have hC3 := extNew wp2 (.cells #[.int .i64 (k : Int), .int .i64 (m : Int), .int .i64 (c : Int), .slice (some ⟨(wp0).heap.size, 0, none⟩) T T, .slice none 0 0] 83)
          have hR3 := Whole.new wp2 83 #[.int .i64 (k : Int), .int .i64 (m : Int), .int .i64 (c : Int), .slice (some ⟨(wp0).heap.size, 0, none⟩) T T, .slice none 0 0]
          generalize hw3 : (wp2).alloc (.cells #[.int .i64 (k : Int), .int .i64 (m : Int), .int .i64 (c : Int), .slice (some ⟨(wp0).heap.size, 0, none⟩) T T, .slice none 0 0] 83) = wp3 at *
          clear hw3
          have hX3 := hX2.trans hC3
          have hP3 := hP2.ext hC3
          have hL3 := hL2.ext hC3
          refine hK3 _ _ (fun _ => hX3) ?_
          clear hK3 K3
          try simp only [Act.put, List.setIfInBounds_toArray, List.set_cons_zero, List.set_cons_succ]
          refine wpAnyT_only 7 #[true, true, true, true, true, true, true, true] (by kernel_rfl) rfl rfl (by rfl) (fun K4 hK4 => ?_)
          have hPre : RdPre w sb (wp1).heap.size (wp2).heap.size (wp0).heap.size k m c T (.pointer none) wp3 := ⟨hP3, hR3, hW1.ext hX3, hL3.mono (Nat.le_trans hE1.le (Ext.le (hX0))), hE1.trans hX3, ⟨Nat.le_trans hE1.le (Ext.le (hX1)), Nat.le_trans hE1.le (Ext.le (hX2))⟩⟩
          refine wpOper_putC 63 (.tmp 5) (.tmp 15) rfl #[.pointer (some ⟨(wp2).heap.size, 0, none⟩)] rfl rfl hPre.wp (by simp) (by kernel_rfl) rfl rfl rfl ?_
          intro w9 hW9 hG9
          refine hK4 _ _ (fun h => absurd h (by decide)) (wpAnyT_done (by kernel_rfl) ?_ _)
          exact ⟨_, _, _, rfl, hPre.put hW9 hG9⟩
      · skip
        go_simp
        have hC1 := extNew wp0 (.cells #[.pointer none] 63)
        have hP1 := Whole.new wp0 63 #[.pointer none]
        generalize hw1 : (wp0).alloc (.cells #[.pointer none] 63) = wp1 at *
        clear hw1
        have hX1 := hX0.trans hC1
        refine hK1 _ _ (fun _ => hX1) ?_
        clear hK1 K1
        try simp only [Act.put, List.setIfInBounds_toArray, List.set_cons_zero, List.set_cons_succ]
        refine wpAnyT_only 3 #[true, true, true, true, false, false, true, false] (by kernel_rfl) rfl rfl (by rfl) (fun K2 hK2 => ?_)
        refine wp_makeLst (n := T) (.tmp 12) (.tmp 12) rfl rfl rfl (by omega) ?_
        intro wp2 hL2 hC2
        skip
        have hX2 := hX1.trans hC2
        have hP2 := hP1.ext hC2
        refine hK2 _ _ (fun _ => hX2) ?_
        clear hK2 K2
        try simp only [Act.put, List.setIfInBounds_toArray]
        refine wpAnyT_take 4 (some 14) (.agg #[.int .i64 (k : Int), .int .i64 (m : Int), .int .i64 (c : Int), .slice (some ⟨(wp1).heap.size, 0, none⟩) T T, .slice none 0 0]) #[true, true, true, true, true, false, true, false] rfl rfl rfl (by kernel_rfl) (fun _ _ _ h => h) hX2 (by rfl) (fun W hX => by go_simp) ?_
        try simp only [Act.put]
        refine wpAnyT_only 5 #[true, true, true, true, true, true, true, false] (by kernel_rfl) rfl rfl (by rfl) (fun K3 hK3 => ?_)
        go_simp
        have hC3 := extNew wp2 (.cells #[.int .i64 (k : Int), .int .i64 (m : Int), .int .i64 (c : Int), .slice (some ⟨(wp1).heap.size, 0, none⟩) T T, .slice none 0 0] 83)
        have hR3 := Whole.new wp2 83 #[.int .i64 (k : Int), .int .i64 (m : Int), .int .i64 (c : Int), .slice (some ⟨(wp1).heap.size, 0, none⟩) T T, .slice none 0 0]
        generalize hw3 : (wp2).alloc (.cells #[.int .i64 (k : Int), .int .i64 (m : Int), .int .i64 (c : Int), .slice (some ⟨(wp1).heap.size, 0, none⟩) T T, .slice none 0 0] 83) = wp3 at *
        clear hw3
        have hX3 := hX2.trans hC3
        have hP3 := hP2.ext hC3
        have hL3 := hL2.ext hC3
        refine hK3 _ _ (fun _ => hX3) ?_
        clear hK3 K3
        try simp only [Act.put, List.setIfInBounds_toArray, List.set_cons_zero, List.set_cons_succ]
        refine wpAnyT_only 7 #[true, true, true, true, true, true, true, true] (by kernel_rfl) rfl rfl (by rfl) (fun K4 hK4 => ?_)
        have hPre : RdPre w sb (wp0).heap.size (wp2).heap.size (wp1).heap.size k m c T (.pointer none) wp3 := ⟨hP3, hR3, hW1.ext hX3, hL3.mono (Nat.le_trans hE1.le (Ext.le (hX1))), hE1.trans hX3, ⟨Nat.le_trans hE1.le (Ext.le (hX0)), Nat.le_trans hE1.le (Ext.le (hX2))⟩⟩
        refine wpOper_putC 63 (.tmp 5) (.tmp 15) rfl #[.pointer (some ⟨(wp2).heap.size, 0, none⟩)] rfl rfl hPre.wp (by simp) (by kernel_rfl) rfl rfl rfl ?_
        intro w9 hW9 hG9
        refine hK4 _ _ (fun h => absurd h (by decide)) (wpAnyT_done (by kernel_rfl) ?_ _)
        exact ⟨_, _, _, rfl, hPre.put hW9 hG9⟩
    · skip
      go_simp
      have hC0 := extNew wd (.cells #[.pointer none] 63)
      have hP0 := Whole.new wd 63 #[.pointer none]
      generalize hw0 : (wd).alloc (.cells #[.pointer none] 63) = wp0 at *
      clear hw0
      have hX0 := hS0.trans hC0
      refine hK0 _ _ (fun _ => hX0) ?_
      clear hK0 K0
      try simp only [Act.put, List.setIfInBounds_toArray, List.set_cons_zero, List.set_cons_succ]
      refine wpAnyT_only 2 #[true, true, true, false, false, false, true, false] (by kernel_rfl) rfl rfl (by rfl) (fun K1 hK1 => ?_)
      go_simp
      refine (CP _).mono ?_
      rintro e wp1 ⟨rfl, hC1⟩
      have hX1 := hX0.trans hC1
      have hP1 := hP0.ext hC1
      refine hK1 _ _ (fun _ => hX1) ?_
      clear hK1 K1
      try simp only [Act.put, List.setIfInBounds_toArray, List.set_cons_zero, List.set_cons_succ]
      refine wpAnyT_only 3 #[true, true, true, true, false, false, true, false] (by kernel_rfl) rfl rfl (by rfl) (fun K2 hK2 => ?_)
      refine wp_makeLst (n := T) (.tmp 12) (.tmp 12) rfl rfl rfl (by omega) ?_
      intro wp2 hL2 hC2
      skip
      have hX2 := hX1.trans hC2
      have hP2 := hP1.ext hC2
      refine hK2 _ _ (fun _ => hX2) ?_
      clear hK2 K2
      try simp only [Act.put, List.setIfInBounds_toArray]
      refine wpAnyT_take 4 (some 14) (.agg #[.int .i64 (k : Int), .int .i64 (m : Int), .int .i64 (c : Int), .slice (some ⟨(wp1).heap.size, 0, none⟩) T T, .slice none 0 0]) #[true, true, true, true, true, false, true, false] rfl rfl rfl (by kernel_rfl) (fun _ _ _ h => h) hX2 (by rfl) (fun W hX => by go_simp) ?_
      try simp only [Act.put]
      refine wpAnyT_only 5 #[true, true, true, true, true, true, true, false] (by kernel_rfl) rfl rfl (by rfl) (fun K3 hK3 => ?_)
      go_simp
      have hC3 := extNew wp2 (.cells #[.int .i64 (k : Int), .int .i64 (m : Int), .int .i64 (c : Int), .slice (some ⟨(wp1).heap.size, 0, none⟩) T T, .slice none 0 0] 83)
      have hR3 := Whole.new wp2 83 #[.int .i64 (k : Int), .int .i64 (m : Int), .int .i64 (c : Int), .slice (some ⟨(wp1).heap.size, 0, none⟩) T T, .slice none 0 0]
      generalize hw3 : (wp2).alloc (.cells #[.int .i64 (k : Int), .int .i64 (m : Int), .int .i64 (c : Int), .slice (some ⟨(wp1).heap.size, 0, none⟩) T T, .slice none 0 0] 83) = wp3 at *
      clear hw3
      have hX3 := hX2.trans hC3
      have hP3 := hP2.ext hC3
      have hL3 := hL2.ext hC3
      refine hK3 _ _ (fun _ => hX3) ?_
      clear hK3 K3
      try simp only [Act.put, List.setIfInBounds_toArray, List.set_cons_zero, List.set_cons_succ]
      refine wpAnyT_only 7 #[true, true, true, true, true, true, true, true] (by kernel_rfl) rfl rfl (by rfl) (fun K4 hK4 => ?_)
      have hPre : RdPre w sb (wd).heap.size (wp2).heap.size (wp1).heap.size k m c T (.pointer none) wp3 := ⟨hP3, hR3, hW1.ext hX3, hL3.mono (Nat.le_trans hE1.le (Ext.le (hX1))), hE1.trans hX3, ⟨Nat.le_trans hE1.le (Ext.le (hS0)), Nat.le_trans hE1.le (Ext.le (hX2))⟩⟩
      refine wpOper_putC 63 (.tmp 5) (.tmp 15) rfl #[.pointer (some ⟨(wp2).heap.size, 0, none⟩)] rfl rfl hPre.wp (by simp) (by kernel_rfl) rfl rfl rfl ?_
      intro w9 hW9 hG9
      refine hK4 _ _ (fun h => absurd h (by decide)) (wpAnyT_done (by kernel_rfl) ?_ _)
      exact ⟨_, _, _, rfl, hPre.put hW9 hG9⟩
  · rintro e a W h
    cases e with
    | ret => exact h.elim
    | exit id => exact h.elim
    | goto t => exact h.elim
    | panic ch => exact h.elim
    | outgrown => exact h.elim
    | normal =>
    obtain ⟨pb, rb, g, rfl, hP⟩ := h
    have q2 := hP.ws.at 2 (u := .int .i64 (c : Int)) rfl
    clear hW1 hE1
    go_wp2_with fail
    refine (callsIn_wide.1 (chunkB_in 0 A Z cap sz hs1 W)).mono ?_
    rintro e w' ⟨rfl, rfl⟩
    go_wp2_with fail
    refine (wpIn_wide (n := 10)).1 ?_
    have hpbW := hP.wp.lt
    have hrbW := hP.wr.lt
    have hgW := hP.lst.lt
    have hlo := hP.lo
    have hI0 : RdI w sb pb rb g W.heap.size (W.heap.size + 1) k m c T sz A Z cap s 0 ((W.alloc (.cells #[.slice A Z cap] 27)).alloc (.cells #[.int .i64 (sz : Int)] 3)) := by
      have hE9 := (extNew W (.cells #[.slice A Z cap] 27)).alloc (.cells #[.int .i64 (sz : Int)] 3)
      have h0 := hP.rdr.ext hE9
      have h1 : Rdr _ w.heap.size rb g k m c T (fun _ => .slice none 0 0) (rawT T c s 0) (.slice none 0 0) (goodL c s 0) := ⟨h0.wr, h0.lns.congr fun i _ => (rawT_zero T c s i).symm, h0.good⟩
      refine ⟨⟨_, _, h1⟩, hP.wp.ext hE9, hP.ws.ext hE9, (Whole.new W _ _).alloc _, ?_, hP.ext.trans hE9⟩
      have := Whole.new (W.alloc (.cells #[.slice A Z cap] 27)) 3 #[.int .i64 (sz : Int)]
      rwa [World.size_alloc] at this
    have hBw := hI0.ext.le
    have hsw := hP.ext.le
    generalize (W.alloc (.cells #[.slice A Z cap] 27)).alloc (.cells #[.int .i64 (sz : Int)] 3) = w8 at hI0 hBw ⊢
    have hs4 : W.heap.size + 1 < w8.heap.size := hI0.b3.lt
    generalize W.heap.size = s2 at *
    obtain ⟨gA, offA, hgo⟩ : ∃ g off, Z = 0 ∨ A = some ⟨g, off, none⟩ := by
      rcases HB.out.2 with h0 | ⟨b, o, e, _⟩
      · exact ⟨0, 0, .inl h0⟩
      · exact ⟨b, o, .inr e⟩
    have HGO := hide hgo
    have hZs : Z = N * T * sz := by rw [HZ.out, HSz.out]
    have HZs := hide hZs
    have hNTs : N * T ≤ N * T * sz := Nat.le_mul_of_pos_right _ hs1
    have hNT : N * T ≤ 20000 := by rw [← hZs] at hNTs; omega
    clear hgo q2 hP hZs hNTs
    refine wpIn_rangeOwn (gf := 70) (lb := #[.pointer (some ⟨s2, 0, none⟩), .pointer (some ⟨s2 + 1, 0, none⟩)]) rfl (fun args W => enteredR_of Tryd.func70 (by kernel_rfl) rfl args W) (N * T)
      (fun q => #[.slice (partB A (q * sz)) sz sz]) (fun _ => rfl) (RdI w sb pb rb g s2 (s2 + 1) k m c T sz A Z cap s) (RdI.own hBw) hI0
      (chunkB_gives (g := gA) (off := offA) (by omega) (by omega) hcap HCm.out hs1 hs2 HZs.out HGO.out fun q W h => ⟨h.b2.at 0 (u := .slice A Z cap) rfl, h.b3.at 0 (u := .int .i64 (sz : Int)) rfl⟩)
      (fun q => { tmps := #[.agg #[.int .i64 (k : Int), .int .i64 (m : Int), .int .i64 (c : Int)], .slice A Z cap, .pointer (some ⟨sb, 0, none⟩), undef, .pointer none, .pointer (some ⟨pb, 0, none⟩), .slice (partB A (q * sz)) sz sz, undef, undef, undef, .agg #[.int .i64 (k : Int), .int .i64 (m : Int), .int .i64 (c : Int)], .agg #[.int .i64 (k : Int), .int .i64 (m : Int), .int .i64 (c : Int)], .int .i64 (T : Int), .slice (some ⟨g, 0, none⟩) T T, .agg #[.int .i64 (k : Int), .int .i64 (m : Int), .int .i64 (c : Int), .slice (some ⟨g, 0, none⟩) T T, .slice none 0 0], .pointer (some ⟨rb, 0, none⟩), .slice A Z cap, .pointer (some ⟨sb, 2, none⟩), .int .i64 (c : Int), .int .i64 (sz : Int), .func (.func 70) #[] #[.pointer (some ⟨s2, 0, none⟩), .pointer (some ⟨s2 + 1, 0, none⟩)], .slice (partB A (q * sz)) sz sz, undef, undef, undef, undef, undef, undef, undef, undef, undef, undef, undef, undef, undef, undef, undef, undef, undef, undef, undef, undef, undef, undef, undef, undef, undef, undef, undef, undef, undef, undef, undef, undef, undef, undef, undef, undef, undef, undef, undef, undef], defers := [] }) ?assign ?body ?done
    case assign =>
      intro l q W K hK
      generalize partB A (q * sz) = A9 at *
      gi_wp2
      exact hK
    case body =>
      intro l q W0 hI hq
      obtain ⟨R, vg, hR⟩ := hI.ex
      obtain ⟨r, hr⟩ : ∃ r, r = q % T := ⟨_, rfl⟩
      have hrT : r < T := by rw [hr]; exact Nat.mod_lt _ (by omega)
      have hpart : q * sz + sz ≤ Z := by
        rw [HZs.out, ← Nat.succ_mul]
        exact Nat.mul_le_mul_right _ hq
      have hcw : Bytes w w.heap.size (partB A (q * sz)) sz (partQ c s q) := by
        have := HB.out.part (o := q * sz) (d := sz) hpart
        unfold partQ
        rw [← HSz.out]
        exact this
      have hRn := rawT_next (c := c) (s := s) (q := q) hT1
      rw [← hr] at hRn
      have HRn := hide hRn
      have HRo := hide (fun i hi (h : i ≠ r) => rawT_other (c := c) (s := s) (q := q) (i := i) hT1 hi (by rw [← hr]; exact h))
      have HRq := hide (raw_part c s q)
      have HGn := hide (goodL_next c s q)
      have HGl := hide (goodL_len c s q)
      have HPl := hide (show (partQ c s q).length = c + 4 by rw [hcw.1, HSz.out])
      have hrem : (q : Int).tmod (T : Int) = (r : Int) := by
        rw [hr, Int.tmod_eq_emod_of_nonneg (by omega)]
        exact (Int.natCast_emod _ _).symm
      have hTn : ¬ T = 0 := by omega
      have hrI : (r : Int) < (T : Int) := by omega
      have hqI : (q : Int) ≤ 20000 := by omega
      have x1 : IntKind.i64.wrap (r : Int) = (r : Int) := by rw [IntKind.wrap_i64]; omega
      have HHe := hide (show (Crc.cutErr (partQ c s q) == 0) = goodQ c s q by
        unfold goodQ
        by_cases e : Crc.cutErr (partQ c s q) = 0
        · rw [e]; rfl
        · rw [decide_eq_false e, beq_eq_false_iff_ne]; exact e)
      obtain ⟨Ag, cg, hvg, -, -⟩ := hR.good.form
      rw [HGl.out] at hvg
      subst hvg
      obtain ⟨Ar, cr, hRr, -, -, -⟩ := (hR.lns.row r hrT).form
      obtain ⟨nr, hnr⟩ : ∃ x, x = (rawT T c s q r).length := ⟨_, rfl⟩
      rw [← hnr] at hRr
      have hcr := hR.lns.cell hrT
      rw [hRr] at hcr
      have hlr : (rawT T c s q r).length ≤ 20000 := by
        have h1 := rawT_le T c s q r
        have h2 : (q + 1) * c ≤ N * T * sz := Nat.mul_le_mul hq (by have := HSz.out; omega)
        rw [← HZs.out] at h2
        omega
      have HRr := hide hRr
      have HI := hide hI
      have H := hide hR
      have hg0 := hR.lns.lst.lt
      generalize partB A (q * sz) = A9 at *
      clear hr hpart hRn hnr hRr hI0 hR hI
      have hr0 := HI.out.wp
      gi_wp2
      refine wpIn_region_T (fun W => Ext W0 W) 13 14 #[false, false, false, false, false, false, false, false, false, false, false, false, false, false] (by kernel_rfl) (fun ⟨_, _, h⟩ => h) (by kernel_rfl) rfl rfl (Ext.refl W0).drew ?_
      intro hS0
      refine wpAnyT_take 0 (some 22) (.pointer (some ⟨rb, 0, none⟩)) #[true, false, false, false, false, false, false, false, false, false, false, false, false, false] rfl rfl rfl (by kernel_rfl) (fun _ _ _ h => h) hS0 (by rfl) (fun W hX => by have p0 := (HI.out.wp.ext hX).at 0 (u := .pointer (some ⟨rb, 0, none⟩)) rfl; go_simp) ?_
      simp only [Act.put, List.setIfInBounds_toArray, List.set_cons_zero, List.set_cons_succ]
      refine wpAnyT_take 1 (some 23) (.pointer (some ⟨rb, 0, none⟩)) #[true, true, false, false, false, false, false, false, false, false, false, false, false, false] rfl rfl rfl (by kernel_rfl) (fun _ _ _ h => h) hS0 (by rfl) (fun W hX => by go_simp) ?_
      simp only [Act.put, List.setIfInBounds_toArray, List.set_cons_zero, List.set_cons_succ]
      refine wpAnyT_take 2 (some 24) (.pointer (some ⟨rb, 3, none⟩)) #[true, true, true, false, false, false, false, false, false, false, false, false, false, false] rfl rfl rfl (by kernel_rfl) (fun _ _ _ h => h) hS0 (by rfl) (fun W hX => by go_simp) ?_
      simp only [Act.put, List.setIfInBounds_toArray, List.set_cons_zero, List.set_cons_succ]
      refine wpAnyT_take 3 (some 25) (.slice (some ⟨g, 0, none⟩) T T) #[true, true, true, true, false, false, false, false, false, false, false, false, false, false] rfl rfl rfl (by kernel_rfl) (fun _ _ _ h => h) hS0 (by rfl) (fun W hX => by have p3 := (H.out.wr.ext hX).at 3 (u := .slice (some ⟨g, 0, none⟩) T T) rfl; go_simp) ?_
      simp only [Act.put, List.setIfInBounds_toArray, List.set_cons_zero, List.set_cons_succ]
      refine wpAnyT_take 4 (some 26) (.pointer (some ⟨rb, 0, none⟩)) #[true, true, true, true, true, false, false, false, false, false, false, false, false, false] rfl rfl rfl (by kernel_rfl) (fun _ _ _ h => h) hS0 (by rfl) (fun W hX => by have p0 := (HI.out.wp.ext hX).at 0 (u := .pointer (some ⟨rb, 0, none⟩)) rfl; go_simp) ?_
      simp only [Act.put, List.setIfInBounds_toArray, List.set_cons_zero, List.set_cons_succ]
      refine wpAnyT_take 5 (some 27) (.pointer (some ⟨rb, 0, none⟩)) #[true, true, true, true, true, true, false, false, false, false, false, false, false, false] rfl rfl rfl (by kernel_rfl) (fun _ _ _ h => h) hS0 (by rfl) (fun W hX => by go_simp) ?_
      simp only [Act.put, List.setIfInBounds_toArray, List.set_cons_zero, List.set_cons_succ]
      refine wpAnyT_take 6 (some 28) (.pointer (some ⟨rb, 4, none⟩)) #[true, true, true, true, true, true, true, false, false, false, false, false, false, false] rfl rfl rfl (by kernel_rfl) (fun _ _ _ h => h) hS0 (by rfl) (fun W hX => by go_simp) ?_
      simp only [Act.put, List.setIfInBounds_toArray, List.set_cons_zero, List.set_cons_succ]
      refine wpAnyT_take 7 (some 29) (.slice Ag q cg) #[true, true, true, true, true, true, true, true, false, false, false, false, false, false] rfl rfl rfl (by kernel_rfl) (fun _ _ _ h => h) hS0 (by rfl) (fun W hX => by have p4 := (H.out.wr.ext hX).at 4 (u := .slice Ag q cg) rfl; go_simp) ?_
      simp only [Act.put, List.setIfInBounds_toArray, List.set_cons_zero, List.set_cons_succ]
      refine wpAnyT_take 8 (some 30) (.int .i64 (q : Int)) #[true, true, true, true, true, true, true, true, true, false, false, false, false, false] rfl rfl rfl (by kernel_rfl) (fun _ _ _ h => h) hS0 (by rfl) (fun W hX => by go_simp) ?_
      simp only [Act.put, List.setIfInBounds_toArray, List.set_cons_zero, List.set_cons_succ]
      refine wpAnyT_take 9 (some 31) (.agg #[.int .i64 (k : Int), .int .i64 (m : Int), .int .i64 (c : Int)]) #[true, true, true, true, true, true, true, true, true, true, false, false, false, false] rfl rfl rfl (by kernel_rfl) (fun _ _ _ h => h) hS0 (by rfl) (fun W hX => by exact exec_load_mid 50 (.tmp 2) rfl sb 0 rfl [.int .i64 (k : Int), .int .i64 (m : Int), .int .i64 (c : Int)] (whole_range3 (HI.out.ws.ext hX)) Tryd.underlying50 rfl shp_info) ?_
      simp only [Act.put, List.setIfInBounds_toArray, List.set_cons_zero, List.set_cons_succ]
      refine wpAnyT_only 10 #[true, true, true, true, true, true, true, true, true, true, true, false, false, false] (by kernel_rfl) rfl rfl (by rfl) (fun K0 hK0 => ?_)
      go_simp
      go_at_call 39
      refine (CP _).mono ?_
      rintro e wc0 ⟨rfl, hC0⟩
      have hX0 := hS0.trans hC0
      refine hK0 _ _ (fun _ => hX0) ?_
      clear hK0 K0
      refine wpAnyT_take 11 (some 33) (.int .i64 (r : Int)) #[true, true, true, true, true, true, true, true, true, true, true, true, false, false] rfl rfl rfl (by kernel_rfl) (fun _ _ _ h => h) hX0 (by rfl) (fun W hX => by go_simp) ?_
      simp only [Act.put, List.setIfInBounds_toArray, List.set_cons_zero, List.set_cons_succ]
      refine wpAnyT_take 12 (some 34) (.pointer (some ⟨g, r, none⟩)) #[true, true, true, true, true, true, true, true, true, true, true, true, true, false] rfl rfl rfl (by kernel_rfl) (fun _ _ _ h => h) hX0 (by rfl) (fun W hX => by go_simp) ?_
      simp only [Act.put, List.setIfInBounds_toArray, List.set_cons_zero, List.set_cons_succ]
      refine wpAnyT_only 13 #[true, true, true, true, true, true, true, true, true, true, true, true, true, true] (by kernel_rfl) rfl rfl (by rfl) (fun K1 hK1 => ?_)
      go_simp
      refine hK1 _ _ (fun h => absurd h (by decide)) (wpAnyT_done (by kernel_rfl) ?_ _)
      clear hK1 K1
      generalize hw4 : wc0 = W4 at *
      clear hw4
      gi_wp2
      have hE4 := hX0
      have hX4d := hE4.trans (Ext.refl W4).drew
      have hRd := H.out.ext hX4d
      have hcd := hRd.lns.row r hrT
      rw [HRr.out] at hcd
      have hcell4 := (hE4.cell (i := r) hg0.2).trans hcr
      have hbc : Bytes W4.drew W4.drew.heap.size A9 c (rawQ c s q) := by
        have h1 := ((HI.out.ext.trans hX4d).bytes hcw).take (k := c) (by have := HSz.out; omega)
        rw [HRq.out] at h1
        exact h1
      have hR1 := fun X => run_headB X A9 sz sz .i64 (c : Int) (by omega) (by omega)
      simp only [Int.toNat_natCast, cutAt_zeroB] at hR1
      have HR1 := hide hR1
      have hbas := (HI.out.ext.trans hX4d).le
      clear hR1
      refine wpIn_region_T (fun W => Ext W4 W) 8 11 #[false, false, false, false, false, false, false, false, false, false, false] (by kernel_rfl) (fun ⟨_, _, h⟩ => h) (by kernel_rfl) rfl rfl (Ext.refl W4).drew ?_
      intro hS0
      refine wpAnyT_take 1 (some 36) (.pointer (some ⟨g, r, none⟩)) #[false, true, false, false, false, false, false, false, false, false, false] rfl rfl rfl (by kernel_rfl) (fun _ _ _ h => h) hS0 (by rfl) (fun W hX => by go_simp) ?_
      simp only [Act.put, List.setIfInBounds_toArray, List.set_cons_zero, List.set_cons_succ]
      refine wpAnyT_take 2 (some 37) (.pointer (some ⟨g, r, none⟩)) #[false, true, true, false, false, false, false, false, false, false, false] rfl rfl rfl (by kernel_rfl) (fun _ _ _ h => h) hS0 (by rfl) (fun W hX => by go_simp) ?_
      simp only [Act.put, List.setIfInBounds_toArray, List.set_cons_zero, List.set_cons_succ]
      refine wpAnyT_take 3 (some 38) (.slice Ar nr cr) #[false, true, true, true, false, false, false, false, false, false, false] rfl rfl rfl (by kernel_rfl) (fun _ _ _ h => h) hS0 (by rfl) (fun W hX => by have p0 := (hX.cell (i := r) (Nat.lt_of_lt_of_le hg0.2 hE4.le)).trans hcell4; go_simp) ?_
      simp only [Act.put, List.setIfInBounds_toArray, List.set_cons_zero, List.set_cons_succ]
      refine wpAnyT_take 4 (some 39) (.slice A9 sz sz) #[false, true, true, true, true, false, false, false, false, false, false] rfl rfl rfl (by kernel_rfl) (fun _ _ _ h => h) hS0 (by rfl) (fun W hX => by go_simp) ?_
      simp only [Act.put, List.setIfInBounds_toArray, List.set_cons_zero, List.set_cons_succ]
      refine wpAnyT_take 5 (some 40) (.pointer (some ⟨sb, 2, none⟩)) #[false, true, true, true, true, true, false, false, false, false, false] rfl rfl rfl (by kernel_rfl) (fun _ _ _ h => h) hS0 (by rfl) (fun W hX => by go_simp) ?_
      simp only [Act.put, List.setIfInBounds_toArray, List.set_cons_zero, List.set_cons_succ]
      refine wpAnyT_take 6 (some 41) (.int .i64 (c : Int)) #[false, true, true, true, true, true, true, false, false, false, false] rfl rfl rfl (by kernel_rfl) (fun _ _ _ h => h) hS0 (by rfl) (fun W hX => by have p2 := ((HI.out.ws.ext hE4).ext hX).at 2 (u := .int .i64 (c : Int)) rfl; go_simp) ?_
      simp only [Act.put, List.setIfInBounds_toArray, List.set_cons_zero, List.set_cons_succ]
      refine wpAnyT_take 7 (some 42) (.slice A9 c sz) #[false, true, true, true, true, true, true, true, false, false, false] rfl rfl rfl (by kernel_rfl) (fun _ _ _ h => h) hS0 (by rfl) (fun W hX => by have hr := HR1.out W; go_simp) ?_
      simp only [Act.put, List.setIfInBounds_toArray, List.set_cons_zero, List.set_cons_succ]
      refine wpAnyT_pure 0 (some 35) (.pointer (some ⟨g, r, none⟩)) #[true, true, true, true, true, true, true, true, false, false, false] rfl rfl rfl (by kernel_rfl) (fun _ _ _ h => h) (fun _ => hS0) (by rfl) (fun W => by go_simp) ?_
      simp only [Act.put, List.setIfInBounds_toArray, List.set_cons_zero, List.set_cons_succ]
      refine wpAnyT_only 8 #[true, true, true, true, true, true, true, true, true, false, false] (by kernel_rfl) rfl rfl (by rfl) (fun K7 hK7 => ?_)
      refine wp_appAt (v := .slice Ar nr cr) (.tmp 38) (.tmp 42) rfl rfl hcd rfl hbc (by omega) hbas ?_
      intro v8 W8 hO8 hG8 hN8
      refine hK7 _ _ (fun h => absurd h (by decide)) ?_
      clear hK7 K7
      obtain ⟨A8, c8, hv8, -, -, -⟩ := hO8.form
      obtain ⟨m8, hm8⟩ : ∃ x, x = (rawT T c s q r ++ rawQ c s q).length := ⟨_, rfl⟩
      rw [← hm8] at hv8
      subst hv8
      clear hm8
      simp only [Act.put, List.setIfInBounds_toArray]
      refine wpAnyT_only 9 #[true, true, true, true, true, true, true, true, true, true, false] (by kernel_rfl) rfl rfl (by rfl) (fun K8 hK8 => ?_)
      go_simp
      refine hK8 _ _ (fun h => absurd h (by decide)) ?_
      clear hK8 K8
      have hl8 : Lst W8 w.heap.size g T R := hRd.lns.lst.kept hG8 (by rw [← HRr.out]; exact hRd.lns.lst.byte (hRd.lns.row r hrT))
      obtain ⟨cl8, fl8⟩ := hl8.cell hrT
      rw [HRr.out] at cl8
      refine wpAnyT_only 10 #[true, true, true, true, true, true, true, true, true, true, true] (by kernel_rfl) rfl rfl (by rfl) (fun K0 hK0 => ?_)
      go_simp
      refine hK0 _ _ (fun h => absurd h (by decide)) (wpAnyT_done (by kernel_rfl) ?_ _)
      clear hK0 K0
      obtain ⟨hR9, hK9, hk9, he9⟩ := hRd.lane hrT hO8 (by rw [HRr.out]; exact hG8) (by rw [HRr.out]; exact hN8)
      have hE9 := he9 w (HI.out.ext.trans hX4d) (Nat.le_refl _)
      have hF9 : Rdr _ w.heap.size rb g k m c T _ (rawT T c s (q + 1)) (.slice Ag q cg) (goodL c s q) := ⟨hR9.wr, hR9.lns.congr fun i hi => by
        by_cases e : i = r
        · rw [e, upd_same, HRn.out]
        · rw [upd_other _ _ e, HRo.out i hi e], hR9.good⟩
      have wpd := HI.out.wp.ext hX4d
      have wsd := HI.out.ws.ext hX4d
      have b2d := HI.out.b2.ext hX4d
      have b3d := HI.out.b3.ext hX4d
      have hwp9 := hk9 _ _ _ wpd (by decide) (hRd.lns.lst.notWhole wpd (by decide))
      have hws9 := hk9 _ _ _ wsd (by decide) (hRd.lns.lst.notWhole wsd (by decide))
      have hb29 := hk9 _ _ _ b2d (by decide) (by omega)
      have hb39 := hk9 _ _ _ b3d (by decide) (hRd.lns.lst.notWhole b3d (by decide))
      have hKK9 := (KeepsOthers.ofExt hX4d).trans hK9
      generalize W8.setCell ⟨g, r, none⟩ (.slice A8 m8 c8) = W9 at *
      have CC := cut_any A9 sz sz (partQ c s q) W9 (Nat.le_refl _) (by omega) (HTab.out _ hE9) (HTab.out _ hE9).pos (hE9.bytes hcw)
      unfold CutB at CC
      obtain ⟨er, her⟩ : ∃ x, x = Crc.cutErr (partQ c s q) := ⟨_, rfl⟩
      rw [← her] at CC HHe
      clear her hR9 hK9 hk9 he9 wpd wsd b2d b3d cl8 fl8 hl8 hO8 hG8 hN8 hRd hcd hbc hcell4 HR1 HRr hcr
      gi_wp2
      refine ⟨trivial, (CallsIn.inRound l (callsIn_wide.2 CC)).mono ?_⟩
      rintro e W10 ⟨v10, rfl, hO10, hE10⟩
      have hF10 := hF9.ext hE10
      have hwp10 := hwp9.ext hE10
      have hws10 := hws9.ext hE10
      have hb210 := hb29.ext hE10
      have hb310 := hb39.ext hE10
      have hE10w := hE9.trans hE10
      have hKK10 := hKK9.trans (KeepsOthers.ofExt hE10)
      clear CC hO10 hF9 hwp9 hws9 hb29 hb39 hE9 hKK9
      gi_wp2
      obtain ⟨wd, hwd⟩ : ∃ X, X = W10.drew := ⟨_, rfl⟩
      have hDd := (Ext.refl W10).drew
      rw [← hwd] at hDd
      have hFd := hF10.ext hDd
      have hwpd := hwp10.ext hDd
      have hEa0 := extNew wd (.cells #[.bool (goodQ c s q)] 4)
      have hFa := hFd.ext hEa0
      have hwpa := hwpd.ext hEa0
      have hwsa := (hws10.ext hDd).ext hEa0
      have hb2a := (hb210.ext hDd).ext hEa0
      have hb3a := (hb310.ext hDd).ext hEa0
      have hEa := (hE10w.trans hDd).trans hEa0
      have hEd := hE10w.trans hDd
      have hKKa := hKK10.trans ((KeepsOthers.ofExt hDd).trans (KeepsOthers.ofExt hEa0))
      have hS7 : Whole wd pb 63 #[.pointer (some ⟨rb, 0, none⟩)] ∧ Whole wd rb 83 #[.int .i64 (k : Int), .int .i64 (m : Int), .int .i64 (c : Int), .slice (some ⟨g, 0, none⟩) T T, .slice Ag q cg] := ⟨hwpd, hFd.wr⟩
      have hSa : Whole (wd.alloc (.cells #[.bool (goodQ c s q)] 4)) pb 63 #[.pointer (some ⟨rb, 0, none⟩)] ∧ Whole (wd.alloc (.cells #[.bool (goodQ c s q)] 4)) rb 83 #[.int .i64 (k : Int), .int .i64 (m : Int), .int .i64 (c : Int), .slice (some ⟨g, 0, none⟩) T T, .slice Ag q cg] := ⟨hwpa, hFa.wr⟩
      have hOa := hFa.good
      have hbool := HHe.out
      rw [hwd] at hS7
      refine wpIn_region_T (fun W => Whole W pb 63 #[.pointer (some ⟨rb, 0, none⟩)] ∧ Whole W rb 83 #[.int .i64 (k : Int), .int .i64 (m : Int), .int .i64 (c : Int), .slice (some ⟨g, 0, none⟩) T T, .slice Ag q cg]) 11 12 #[false, false, false, false, false, false, false, false, false, false, false, false] (by kernel_rfl) (fun ⟨_, _, h⟩ => h) (by kernel_rfl) rfl rfl hS7 ?_
      intro hS0
      refine wpAnyT_take 0 (some 50) (.pointer (some ⟨rb, 0, none⟩)) #[true, false, false, false, false, false, false, false, false, false, false, false] rfl rfl rfl (by kernel_rfl) (fun _ _ _ h => h) hS0 (by rfl) (fun W hX => by have p0 := hX.1.at 0 (u := .pointer (some ⟨rb, 0, none⟩)) rfl; go_simp) ?_
      simp only [Act.put, List.setIfInBounds_toArray, List.set_cons_zero, List.set_cons_succ]
      refine wpAnyT_take 1 (some 51) (.pointer (some ⟨rb, 0, none⟩)) #[true, true, false, false, false, false, false, false, false, false, false, false] rfl rfl rfl (by kernel_rfl) (fun _ _ _ h => h) hS0 (by rfl) (fun W hX => by have p0 := hX.1.at 0 (u := .pointer (some ⟨rb, 0, none⟩)) rfl; go_simp) ?_
      simp only [Act.put, List.setIfInBounds_toArray, List.set_cons_zero, List.set_cons_succ]
      refine wpAnyT_take 2 (some 52) (.pointer (some ⟨rb, 0, none⟩)) #[true, true, true, false, false, false, false, false, false, false, false, false] rfl rfl rfl (by kernel_rfl) (fun _ _ _ h => h) hS0 (by rfl) (fun W hX => by go_simp) ?_
      simp only [Act.put, List.setIfInBounds_toArray, List.set_cons_zero, List.set_cons_succ]
      refine wpAnyT_take 3 (some 53) (.pointer (some ⟨rb, 4, none⟩)) #[true, true, true, true, false, false, false, false, false, false, false, false] rfl rfl rfl (by kernel_rfl) (fun _ _ _ h => h) hS0 (by rfl) (fun W hX => by go_simp) ?_
      simp only [Act.put, List.setIfInBounds_toArray, List.set_cons_zero, List.set_cons_succ]
      refine wpAnyT_take 4 (some 54) (.slice Ag q cg) #[true, true, true, true, true, false, false, false, false, false, false, false] rfl rfl rfl (by kernel_rfl) (fun _ _ _ h => h) hS0 (by rfl) (fun W hX => by have p4 := hX.2.at 4 (u := .slice Ag q cg) rfl; go_simp) ?_
      simp only [Act.put, List.setIfInBounds_toArray, List.set_cons_zero, List.set_cons_succ]
      refine wpAnyT_take 5 (some 55) (.int .i64 er) #[true, true, true, true, true, true, false, false, false, false, false, false] rfl rfl rfl (by kernel_rfl) (fun _ _ _ h => h) hS0 (by rfl) (fun W hX => by go_simp) ?_
      simp only [Act.put, List.setIfInBounds_toArray, List.set_cons_zero, List.set_cons_succ]
      refine wpAnyT_take 6 (some 56) (.bool (goodQ c s q)) #[true, true, true, true, true, true, true, false, false, false, false, false] rfl rfl rfl (by kernel_rfl) (fun _ _ _ h => h) hS0 (by rfl) (fun W hX => by go_simp) ?_
      simp only [Act.put, List.setIfInBounds_toArray, List.set_cons_zero, List.set_cons_succ]
      rw [← hwd]
      clear hwd
      refine wpAnyT_only 7 #[true, true, true, true, true, true, true, true, false, false, false, false] (by kernel_rfl) rfl rfl (by rfl) (fun K3 hK3 => ?_)
      go_simp
      refine hK3 _ _ (fun _ => hSa) ?_
      clear hK3 K3
      refine wpAnyT_only 8 #[true, true, true, true, true, true, true, true, true, false, false, false] (by kernel_rfl) rfl rfl (by rfl) (fun K4 hK4 => ?_)
      refine wp_appT (.tmp 54) (.tmp 57) rfl rfl (goodQ c s q) hOa rfl (by rw [HGl.out]; omega) hEd.le ?_
      intro v11 W11 hO11 hG11
      replace hG11 : World.grownBy (wd.alloc (.cells #[.bool (goodQ c s q)] 4)) W11 (Value.slice Ag q cg).ownBlock := hG11
      have hn11 : ∀ b t cs, Whole (wd.alloc (.cells #[.bool (goodQ c s q)] 4)) b t cs → t ≠ 4 → Whole W11 b t cs := fun b t cs hb ht => hb.ownGrown hG11 (by rcases ownsNotWhole hOa hb ht with e | e; (· rw [e]; simp); exact e)
      have hS11 : Whole W11 pb 63 #[.pointer (some ⟨rb, 0, none⟩)] ∧ Whole W11 rb 83 #[.int .i64 (k : Int), .int .i64 (m : Int), .int .i64 (c : Int), .slice (some ⟨g, 0, none⟩) T T, .slice Ag q cg] := ⟨hn11 _ _ _ hwpa (by decide), hn11 _ _ _ hFa.wr (by decide)⟩
      refine hK4 _ _ (fun _ => hS11) ?_
      clear hK4 K4
      obtain ⟨A11, c11, hv11, -, -⟩ := hO11.form
      obtain ⟨m11, hm11⟩ : ∃ x, x = (goodL c s q ++ [goodQ c s q]).length := ⟨_, rfl⟩
      rw [← hm11] at hv11
      subst hv11
      clear hm11
      simp only [Act.put, List.setIfInBounds_toArray]
      refine wpAnyT_only 9 #[true, true, true, true, true, true, true, true, true, true, false, false] (by kernel_rfl) rfl rfl (by rfl) (fun K5 hK5 => ?_)
      go_simp
      refine hK5 _ _ (fun _ => hS11) ?_
      clear hK5 K5
      refine wpAnyT_only 10 #[true, true, true, true, true, true, true, true, true, true, true, false] (by kernel_rfl) rfl rfl (by rfl) (fun K6 hK6 => ?_)
      go_simp
      refine hK6 _ _ (fun _ => hS11) ?_
      clear hK6 K6
      refine wpAnyT_only 11 #[true, true, true, true, true, true, true, true, true, true, true, true] (by kernel_rfl) rfl rfl (by rfl) (fun K0 hK0 => ?_)
      refine wpOper_putC 70 (.tmp 60) (.tmp 58) rfl #[.int .i64 (k : Int), .int .i64 (m : Int), .int .i64 (c : Int), .slice (some ⟨g, 0, none⟩) T T, .slice A11 m11 c11] rfl rfl hS11.2 (by simp) (by kernel_rfl) rfl rfl rfl ?_
      intro W12 hW12 hG12
      refine hK0 _ _ (fun h => absurd h (by decide)) (wpAnyT_done (by kernel_rfl) ?_ _)
      clear hK0 K0
      obtain ⟨hR12, hK12, hk12, he12⟩ := hFa.add hO11 hG11 hW12 hG12
      have hIn : RdI w sb pb rb g s2 (s2 + 1) k m c T sz A Z cap s (q + 1) W12 := ⟨⟨_, _, by rw [HGn.out]; exact hR12⟩, hk12 _ _ _ hwpa (by decide) (hwpa.kindNe hFa.wr (by decide)), hk12 _ _ _ hwsa (by decide) (hwsa.kindNe hFa.wr (by decide)), hk12 _ _ _ hb2a (by decide) (hb2a.kindNe hFa.wr (by decide)), hk12 _ _ _ hb3a (by decide) (hb3a.kindNe hFa.wr (by decide)), he12 w hEa (Nat.le_refl _) hlo.2⟩
      exact ⟨(hKKa.trans hK12).from _, hIn⟩
    case done =>
      intro D W hD hI hK
      obtain ⟨R, vg, hR⟩ := hI.ex
      have hR2 : Rdr W w.heap.size rb g k m c T R (fun i => laneF N fun j => rawQ c s (j * T + i)) vg (goodL c s (N * T)) := ⟨hR.wr, hR.lns.congr fun i _ => HAll.out i, hR.good⟩
      have p0 := hI.wp.at 0 (u := .pointer (some ⟨rb, 0, none⟩)) rfl
      have HR2 := hide hR2
      have HE := hide hI.ext
      clear hR hR2 hI0 hI
      go_wp2
      refine ⟨by simp, .inl ⟨_, _, rfl, run_takeDeferred hK, ?_⟩⟩
      have hG := grownBy_putObj' W D (.deferred none)
      exact ⟨_, results_tmp rfl _ _ _, rb, g, R, vg, rfl, hlo.2, HR2.out.turn hG (fun r e => by cases e; exact ⟨_, hK, rfl⟩), Below.grown HE.out hG HE.out.le (fun r e => by cases e; omega)⟩
end Go.Proofs.YtkfipfhmbhmamaaDoor

namespace Go.Proofs.YtkfipfhmbhmamaaDoor
open Go.RowKit Stp

attribute [local go_sem] Oper.semAt_some

/-- Between two rounds of data. -/
structure DatI (w : World) (s1 s2 s3 g k m c T : Nat) (D : Nat → List UInt8) (q : Nat) (W : World) : Prop where
  ex : ∃ v, Whole W s1 27 #[v] ∧ OwnB W w.heap.size v (laneF q D)
  b1 : Whole W s2 50 #[.int .i64 (k : Int), .int .i64 (m : Int), .int .i64 (c : Int)]
  b2 : Whole W s3 55 #[.slice (some ⟨g, 0, none⟩) k T]
  ext : Ext w W
theorem DatI.own {w : World} {s1 s2 s3 g k m c T B : Nat} {D : Nat → List UInt8} (hB : w.heap.size ≤ B) : OwnFrom B (DatI w s1 s2 s3 g k m c T D) := fun q W W' row h hg hr => by
  have hr2 := fun r e => (hr r e).2
  obtain ⟨v, h1, h2⟩ := h.ex
  exact ⟨⟨v, h1.turn hg hr2, h2.turn hg hr2⟩, h.b1.turn hg hr2, h.b2.turn hg hr2, Below.grown h.ext hg h.ext.le fun r e => Nat.le_trans hB (hr r e).1⟩
theorem DatI.step {w W W1 W' : World} {s1 s2 s3 g k m c T q : Nat} {D : Nat → List UInt8} {v v' : Value} (h : DatI w s1 s2 s3 g k m c T D q W) (h1 : Whole W s1 27 #[v]) (h2 : OwnB W w.heap.size v (laneF q D))
    (hO : OwnB W1 w.heap.size v' (laneF q D ++ D q)) (hG : W.grownBy W1 v.ownBlock) (hp : Whole W' s1 27 #[v']) (hG2 : W1.grownBy W' (some s1)) (hs1 : w.heap.size ≤ s1) (h12 : s2 ≠ s1) (h13 : s3 ≠ s1) :
    DatI w s1 s2 s3 g k m c T D (q + 1) W' ∧ KeepsOthers W W' := by
  have c3 := h.b1.ownGrown hG (h2.notKind h.b1 (by decide))
  have c4 := h.b2.ownGrown hG (h2.notKind h.b2 (by decide))
  have c1 := h1.ownGrown hG (h2.notKind h1 (by decide))
  have hE1 : Ext w W1 := Below.grown h.ext hG h.ext.le fun r e => (h2.lt r e).1
  refine ⟨⟨⟨v', hp, ?_⟩, c3.grown hG2 h12, c4.grown hG2 h13, Below.grown hE1 hG2 hE1.le fun r e => by cases e; exact hs1⟩, (KeepsOthers.ofOwn h2 hG).trans (KeepsOthers.ofWhole c1 hG2)⟩
  rw [lane_next]
  exact World.ownsRow.kept hO hG2 (ownsNotWhole hO c1 (by decide))

set_option maxHeartbeats 8000000 in
set_option maxRecDepth 100000 in
theorem sData_any {bs rb g k m c T N : Nat} {R : Nat → Value} {F : Nat → List UInt8} {vg : Value} {L : List Bool} {w : World} (h : Rdr w bs rb g k m c T R F vg L) (hk : 1 ≤ k) (hkT : k ≤ T) (hT2 : T ≤ 255) (hc : 1 ≤ c) (hc2 : c ≤ 4096) (hF : ∀ i, i < k → (F i).length = N * c) (hN : N * k * c ≤ 20000) :
    Calls Tryd.prog 32 #[.pointer (some ⟨rb, 0, none⟩)] w fun e w' => ∃ v, e = .returned v ∧ OwnB w' w.heap.size v (laneF (N * k) fun q => seg (q / k * c) c (F (q % k))) ∧ Ext w w' := by
  have hx : ∀ i, ∃ p : Option Addr × Nat, i < k → R i = .slice p.1 (N * c) p.2 ∧ N * c ≤ p.2 ∧ p.2 ≤ maxLen ∧ Bytes w w.heap.size p.1 (N * c) (F i) := fun i => by
    by_cases hi : i < k
    · obtain ⟨A9, k9, e9, x1, x2, x3⟩ := (h.lns.row i (by omega)).form
      rw [hF i hi] at e9 x1 x3
      exact ⟨(A9, k9), fun _ => ⟨e9, x1, x2, x3⟩⟩
    · exact ⟨(none, 0), fun h => absurd h hi⟩
  obtain ⟨f, hf⟩ := Classical.axiomOfChoice hx
  obtain ⟨LA, hLA⟩ : ∃ F : Nat → Option Addr, F = fun i => (f i).1 := ⟨_, rfl⟩
  obtain ⟨LC, hLC⟩ : ∃ F : Nat → Nat, F = fun i => (f i).2 := ⟨_, rfl⟩
  have HFA := hide (show ∀ i, i < k → R i = .slice (LA i) (N * c) (LC i) ∧ N * c ≤ LC i ∧ LC i ≤ maxLen ∧ Bytes w w.heap.size (LA i) (N * c) (F i) from fun i hi => by rw [hLA, hLC]; exact hf i hi)
  have HCell := hide (show ∀ i, i < k → w.cell? ⟨g, i, none⟩ = some (.slice (LA i) (N * c) (LC i)) from fun i hi => by rw [← (HFA.out i hi).1]; exact h.lns.cell (by omega))
  have hgl := h.lns.lst.lt.2
  have hW := h.wr
  have hNc : N * c ≤ 20000 := by
    have : N * c ≤ N * k * c := Nat.mul_le_mul_right _ (Nat.le_mul_of_pos_right _ hk)
    omega
  have HCh := hide (show ∀ q, q < N * k → q % k < k ∧ q / k * c + c ≤ N * c from fun q hq => ⟨Nat.mod_lt _ (by omega), by
    have hqj : q / k < N := Nat.div_lt_of_lt_mul (by rw [Nat.mul_comm]; exact hq)
    rw [← Nat.succ_mul]
    exact Nat.mul_le_mul_right _ hqj⟩)
  have HLen := hide (show ∀ q, q < N * k → (laneF q fun q => seg (q / k * c) c (F (q % k))).length ≤ 20000 from fun q hq => by
    have h1 := lane_le (c := c) (F := fun q => seg (q / k * c) c (F (q % k))) (fun j => by unfold seg; rw [List.length_take]; omega) q
    have h2 : q * c ≤ N * k * c := Nat.mul_le_mul_right _ (by omega)
    omega)
  obtain ⟨D, hD⟩ : ∃ D : Nat → List UInt8, D = fun q => seg (q / k * c) c (F (q % k)) := ⟨_, rfl⟩
  rw [← hD] at HLen ⊢
  have HD := hide (show ∀ q, D q = seg (q / k * c) c (F (q % k)) from fun q => by rw [hD])
  clear hD hx hf hLA hLC h
  refine (callsIn_wide (n := 10)).1 ?_
  refine callsIn_of_wp_marks Tryd.func32 rfl trivial ?_ rfl
  simp only [Tryd.ntmps32, List.size_toArray, List.length_cons, List.length_nil, Nat.reduceAdd, Nat.reduceSub, Array.replicate_succ, Array.replicate_zero, List.push_toArray, List.append_toArray, List.nil_append, List.cons_append]
  refine wpIn_wide.2 ?_
  go_wp2_with fail
  obtain ⟨s1, hs1⟩ : ∃ s, s = w.heap.size := ⟨_, rfl⟩
  have hW1 := Whole.new w 27 #[.slice none 0 0]
  have hE1 := extNew w (.cells #[.slice none 0 0] 27)
  obtain ⟨w1, hw1⟩ : ∃ W, W = w.alloc (.cells #[.slice none 0 0] 27) := ⟨_, rfl⟩
  rw [← hw1] at hW1 hE1 ⊢
  rw [← hs1] at hW1 ⊢
  have HS1 := hide hs1
  have hR1 := fun W => run_headRs W (some ⟨g, 0, none⟩) T T .i64 (k : Int) (by omega) (by omega)
  simp only [Int.toNat_natCast, cutAt_zeroB] at hR1
  have HR1 := hide hR1
  have hWr1 := hW.ext hE1
  clear hw1 hs1 hR1
  refine wp_onlyNormal ?_
  refine wp_region_T (fun W => Ext w1 W) 14 15 #[false, false, false, false, false, false, false, false, false, false, false, false, false, false, false] (by kernel_rfl) rfl rfl (Ext.refl w1).drew ?_
  intro hS0
  refine wpAnyT_take 0 (some 5) (.pointer (some ⟨rb, 0, none⟩)) #[true, false, false, false, false, false, false, false, false, false, false, false, false, false, false] rfl rfl rfl (by kernel_rfl) (fun _ _ _ h => h) hS0 (by rfl) (fun W hX => by go_simp) ?_
  simp only [Act.put, List.setIfInBounds_toArray, List.set_cons_zero, List.set_cons_succ]
  refine wpAnyT_take 1 (some 6) (.pointer (some ⟨rb, 0, none⟩)) #[true, true, false, false, false, false, false, false, false, false, false, false, false, false, false] rfl rfl rfl (by kernel_rfl) (fun _ _ _ h => h) hS0 (by rfl) (fun W hX => by go_simp) ?_
  simp only [Act.put, List.setIfInBounds_toArray, List.set_cons_zero, List.set_cons_succ]
  refine wpAnyT_take 2 (some 7) (.pointer (some ⟨rb, 0, none⟩)) #[true, true, true, false, false, false, false, false, false, false, false, false, false, false, false] rfl rfl rfl (by kernel_rfl) (fun _ _ _ h => h) hS0 (by rfl) (fun W hX => by go_simp) ?_
  simp only [Act.put, List.setIfInBounds_toArray, List.set_cons_zero, List.set_cons_succ]
  refine wpAnyT_take 3 (some 8) (.agg #[.int .i64 (k : Int), .int .i64 (m : Int), .int .i64 (c : Int)]) #[true, true, true, true, false, false, false, false, false, false, false, false, false, false, false] rfl rfl rfl (by kernel_rfl) (fun _ _ _ h => h) hS0 (by rfl) (fun W hX => by exact exec_load_mid 50 (.tmp 7) rfl rb 0 rfl [.int .i64 (k : Int), .int .i64 (m : Int), .int .i64 (c : Int)] (whole_range35 (hWr1.ext hX)) Tryd.underlying50 rfl shp_info) ?_
  simp only [Act.put, List.setIfInBounds_toArray, List.set_cons_zero, List.set_cons_succ]
  refine wpAnyT_take 4 (some 9) (.pointer (some ⟨rb, 0, none⟩)) #[true, true, true, true, true, false, false, false, false, false, false, false, false, false, false] rfl rfl rfl (by kernel_rfl) (fun _ _ _ h => h) hS0 (by rfl) (fun W hX => by go_simp) ?_
  simp only [Act.put, List.setIfInBounds_toArray, List.set_cons_zero, List.set_cons_succ]
  refine wpAnyT_take 5 (some 10) (.pointer (some ⟨rb, 0, none⟩)) #[true, true, true, true, true, true, false, false, false, false, false, false, false, false, false] rfl rfl rfl (by kernel_rfl) (fun _ _ _ h => h) hS0 (by rfl) (fun W hX => by go_simp) ?_
  simp only [Act.put, List.setIfInBounds_toArray, List.set_cons_zero, List.set_cons_succ]
  refine wpAnyT_take 6 (some 11) (.pointer (some ⟨rb, 3, none⟩)) #[true, true, true, true, true, true, true, false, false, false, false, false, false, false, false] rfl rfl rfl (by kernel_rfl) (fun _ _ _ h => h) hS0 (by rfl) (fun W hX => by go_simp) ?_
  simp only [Act.put, List.setIfInBounds_toArray, List.set_cons_zero, List.set_cons_succ]
  refine wpAnyT_take 7 (some 12) (.slice (some ⟨g, 0, none⟩) T T) #[true, true, true, true, true, true, true, true, false, false, false, false, false, false, false] rfl rfl rfl (by kernel_rfl) (fun _ _ _ h => h) hS0 (by rfl) (fun W hX => by have p3 := (hWr1.ext hX).at 3 (u := .slice (some ⟨g, 0, none⟩) T T) rfl; go_simp) ?_
  simp only [Act.put, List.setIfInBounds_toArray, List.set_cons_zero, List.set_cons_succ]
  refine wpAnyT_take 8 (some 13) (.pointer (some ⟨rb, 0, none⟩)) #[true, true, true, true, true, true, true, true, true, false, false, false, false, false, false] rfl rfl rfl (by kernel_rfl) (fun _ _ _ h => h) hS0 (by rfl) (fun W hX => by go_simp) ?_
  simp only [Act.put, List.setIfInBounds_toArray, List.set_cons_zero, List.set_cons_succ]
  refine wpAnyT_take 9 (some 14) (.pointer (some ⟨rb, 0, none⟩)) #[true, true, true, true, true, true, true, true, true, true, false, false, false, false, false] rfl rfl rfl (by kernel_rfl) (fun _ _ _ h => h) hS0 (by rfl) (fun W hX => by go_simp) ?_
  simp only [Act.put, List.setIfInBounds_toArray, List.set_cons_zero, List.set_cons_succ]
  refine wpAnyT_take 10 (some 15) (.pointer (some ⟨rb, 0, none⟩)) #[true, true, true, true, true, true, true, true, true, true, true, false, false, false, false] rfl rfl rfl (by kernel_rfl) (fun _ _ _ h => h) hS0 (by rfl) (fun W hX => by go_simp) ?_
  simp only [Act.put, List.setIfInBounds_toArray, List.set_cons_zero, List.set_cons_succ]
  refine wpAnyT_take 11 (some 16) (.pointer (some ⟨rb, 0, none⟩)) #[true, true, true, true, true, true, true, true, true, true, true, true, false, false, false] rfl rfl rfl (by kernel_rfl) (fun _ _ _ h => h) hS0 (by rfl) (fun W hX => by go_simp) ?_
  simp only [Act.put, List.setIfInBounds_toArray, List.set_cons_zero, List.set_cons_succ]
  refine wpAnyT_take 12 (some 17) (.int .i64 (k : Int)) #[true, true, true, true, true, true, true, true, true, true, true, true, true, false, false] rfl rfl rfl (by kernel_rfl) (fun _ _ _ h => h) hS0 (by rfl) (fun W hX => by have p0 := (hWr1.ext hX).at 0 (u := .int .i64 (k : Int)) rfl; go_simp) ?_
  simp only [Act.put, List.setIfInBounds_toArray, List.set_cons_zero, List.set_cons_succ]
  refine wpAnyT_take 13 (some 18) (.slice (some ⟨g, 0, none⟩) k T) #[true, true, true, true, true, true, true, true, true, true, true, true, true, true, false] rfl rfl rfl (by kernel_rfl) (fun _ _ _ h => h) hS0 (by rfl) (fun W hX => by have hr := HR1.out W; go_simp) ?_
  simp only [Act.put, List.setIfInBounds_toArray, List.set_cons_zero, List.set_cons_succ]
  refine wpAnyT_only 14 #[true, true, true, true, true, true, true, true, true, true, true, true, true, true, true] (by kernel_rfl) rfl rfl (by rfl) (fun K0 hK0 => ?_)
  go_simp
  refine (callsIn_wide.1 (sChunks_in 0 k m c (some ⟨g, 0, none⟩) k T w1.drew)).mono ?_
  rintro e8 w8 ⟨rfl, rfl⟩
  refine hK0 _ _ (fun h => absurd h (by decide)) (wpAnyT_done (by kernel_rfl) ?_ _)
  clear hK0 K0
  simp only [onlyNormal]
  go_wp2_with fail
  refine (wpIn_wide (n := 10)).1 ?_
  have hE2 := hE1.trans (Ext.refl w1).drew
  have hW2 := hW1.ext (Ext.refl w1).drew
  generalize w1.drew = w2 at *
  obtain ⟨s7, hs7⟩ : ∃ s, s = w2.heap.size := ⟨_, rfl⟩
  have hI0 : DatI w s1 s7 (s7 + 1) g k m c T D 0 ((w2.alloc (.cells #[.int .i64 (k : Int), .int .i64 (m : Int), .int .i64 (c : Int)] 50)).alloc (.cells #[.slice (some ⟨g, 0, none⟩) k T] 55)) := by
    have hE9 := (extNew w2 (.cells #[.int .i64 (k : Int), .int .i64 (m : Int), .int .i64 (c : Int)] 50)).alloc (.cells #[.slice (some ⟨g, 0, none⟩) k T] 55)
    refine ⟨⟨_, hW2.ext hE9, OwnB.nil _ _⟩, ?_, ?_, hE2.trans hE9⟩
    · rw [hs7]
      exact (Whole.new w2 _ _).alloc _
    · rw [hs7]
      have := Whole.new (w2.alloc (.cells #[.int .i64 (k : Int), .int .i64 (m : Int), .int .i64 (c : Int)] 50)) 55 #[.slice (some ⟨g, 0, none⟩) k T]
      rwa [World.size_alloc] at this
  rw [← hs7]
  generalize (w2.alloc (.cells #[.int .i64 (k : Int), .int .i64 (m : Int), .int .i64 (c : Int)] 50)).alloc (.cells #[.slice (some ⟨g, 0, none⟩) k T] 55) = w8 at hI0 ⊢
  have hB8 := hI0.ext.le
  have hs8 : s7 + 1 < w8.heap.size := hI0.b2.lt
  have hsl : s1 < s7 := by rw [hs7]; exact hW2.lt
  have hs1h : w.heap.size ≤ s1 := by rw [HS1.out]; exact Nat.le_refl _
  clear hs7 hW1 hE1 hW2 hE2 hWr1 hW
  refine wpIn_rangeOwn (gf := 44) (lb := #[.pointer (some ⟨s7 + 1, 0, none⟩), .pointer (some ⟨s7, 0, none⟩)]) rfl (fun args W => enteredR_of Tryd.func44 (by kernel_rfl) rfl args W) (N * k)
    (fun q => #[.slice (cutAt (LA (q % k)) (LC (q % k)) (q / k * c)) c (LC (q % k) - q / k * c)]) (fun _ => rfl) (DatI w s1 s7 (s7 + 1) g k m c T D) (DatI.own hB8) hI0
    (sChunks_gives (cap := T) (off := 0) (g := g) (by omega) hk (by omega) hc hc2 (by omega) (fun i hi => ⟨(HFA.out i hi).2.1, (HFA.out i hi).2.2.1⟩) fun q W h => ⟨h.b2.at 0 (u := .slice (some ⟨g, 0, none⟩) k T) rfl, h.b1.at 2 (u := .int .i64 (c : Int)) rfl, fun i hi => by
      rw [Nat.zero_add]
      exact (h.ext.cell (i := i) hgl).trans (HCell.out i hi)⟩)
    (fun q => { tmps := #[.pointer (some ⟨rb, 0, none⟩), undef, .slice none 0 0, .pointer (some ⟨s1, 0, none⟩), .slice (cutAt (LA (q % k)) (LC (q % k)) (q / k * c)) c (LC (q % k) - q / k * c), .pointer (some ⟨rb, 0, none⟩), .pointer (some ⟨rb, 0, none⟩), .pointer (some ⟨rb, 0, none⟩), .agg #[.int .i64 (k : Int), .int .i64 (m : Int), .int .i64 (c : Int)], .pointer (some ⟨rb, 0, none⟩), .pointer (some ⟨rb, 0, none⟩), .pointer (some ⟨rb, 3, none⟩), .slice (some ⟨g, 0, none⟩) T T, .pointer (some ⟨rb, 0, none⟩), .pointer (some ⟨rb, 0, none⟩), .pointer (some ⟨rb, 0, none⟩), .pointer (some ⟨rb, 0, none⟩), .int .i64 (k : Int), .slice (some ⟨g, 0, none⟩) k T, .func (.func 44) #[] #[.pointer (some ⟨s7 + 1, 0, none⟩), .pointer (some ⟨s7, 0, none⟩)], .slice (cutAt (LA (q % k)) (LC (q % k)) (q / k * c)) c (LC (q % k) - q / k * c), undef, undef, undef, undef], defers := [] }) ?assign ?body ?done
  case assign =>
    intro l q W K hK
    generalize LC (q % k) - q / k * c = c9 at *
    generalize cutAt (LA (q % k)) (LC (q % k)) (q / k * c) = A9 at *
    gi_wp2
    exact hK
  case body =>
    intro l q W hI hq
    obtain ⟨v, h1, h2⟩ := hI.ex
    obtain ⟨hqi, hpart⟩ := HCh.out q hq
    obtain ⟨-, f1, -, f3⟩ := HFA.out (q % k) hqi
    have hcb := (hI.ext.bytes f3).seg f1 hpart
    have hsg := HD.out q
    unfold seg at hsg
    rw [← hsg] at hcb
    have hln := HLen.out q hq
    generalize LC (q % k) - q / k * c = c9 at *
    generalize cutAt (LA (q % k)) (LC (q % k)) (q / k * c) = A9 at *
    obtain ⟨A6, c6, hv6, -, -, -⟩ := h2.form
    obtain ⟨m6, hm6⟩ : ∃ x, x = (laneF q D).length := ⟨_, rfl⟩
    rw [← hm6] at hv6
    subst hv6
    have HI := hide hI
    have H1 := hide h1
    have H2 := hide h2
    have cs1 := h1.at 0 (u := .slice A6 m6 c6) rfl
    have hWle := hI.ext.le
    clear hqi hpart f1 f3 hsg hm6 hI h1 h2 hI0
    gi_wp2_with (first | (refine wpListIn_appAtR l _ rfl (.tmp 21) (.tmp 22) rfl rfl H2.out rfl hcb (by omega) hWle ?_; intro v9 w9 hO9 hG9 hN9; have h19 := H1.out.ownGrown hG9 (H2.out.notKind H1.out (by decide)); obtain ⟨Ag, cg, hvg, -, -, -⟩ := hO9.form; obtain ⟨mg, hmg⟩ : ∃ x, x = (laneF q D ++ D q).length := ⟨_, rfl⟩; rw [← hmg] at hvg; subst hvg; have cs9 := h19.at 0 (u := .slice A6 m6 c6) rfl; have fs9 := h19.frozen 0; clear hmg cs1) | fail)
    have hG10 := grown_setCell w9 s1 0 (.slice Ag mg cg)
    have hW10 := h19.set 0 (.slice Ag mg cg)
    obtain ⟨hIn, hKp⟩ := HI.out.step H1.out H2.out hO9 hG9 hW10 hG10 hs1h (by omega) (by omega)
    exact ⟨hKp.from _, hIn⟩
  case done =>
    intro D' W hD hI hK
    obtain ⟨v, h1, h2⟩ := hI.ex
    have H2 := hide h2
    have HE := hide hI.ext
    obtain ⟨A6, c6, hv6, -, -, -⟩ := h2.form
    obtain ⟨m6, hm6⟩ : ∃ x, x = (laneF (N * k) D).length := ⟨_, rfl⟩
    rw [← hm6] at hv6
    subst hv6
    have cs1 := h1.at 0 (u := .slice A6 m6 c6) rfl
    clear hm6 h2 hI hI0 h1
    go_wp2
    refine ⟨by simp, .inl ⟨_, _, rfl, run_takeDeferred hK, ?_⟩⟩
    have hG := grownBy_putObj' W D' (.deferred none)
    exact ⟨_, results_tmp rfl _ _ _, .slice A6 m6 c6, rfl, H2.out.turn hG (fun r e => by cases e; exact ⟨_, hK, rfl⟩), Below.grown HE.out hG HE.out.le (fun r e => by cases e; omega)⟩
end Go.Proofs.YtkfipfhmbhmamaaDoor

