/- The program's reader of chapter 23: stripes that are damaged alike are mended at once. The program's mend and Read of chapter 23. The program's Read of chapter 23. -/
import Derived.Test.YtkfipfhmbhmamaaDoorB29
namespace Go.Proofs.YtkfipfhmbhmamaaDoor
open Go.RowKit Stp

theorem wpList_copyBP {o : Oper} {a : Act} {w : World} {Q : Exit → Act → World → Prop} {ops : Array Oper} {rest : List Oper} (hgd : o.guard = none) (d s : Operand) (ho : o.op = .call { callee := .builtin .copy, args := #[d, s], argTypes := #[27, 27] }) {base g N kN i c kd m ks B : Nat} {D A : Option Addr} {l x : List UInt8}
    (hd : a.eval d = .slice D c kd) (hs : a.eval s = .slice A m ks) (hO : OwnB w base (.slice (some ⟨g, 0, none⟩) N kN) l) (hB : Bytes w B A m x) (hl : l.length = N) (hic : i + c ≤ N) (hk : N ≤ kN) (hD : D = cutAt (some ⟨g, 0, none⟩) kN i)
    (h : ∀ w', OwnB w' base (.slice (some ⟨g, 0, none⟩) N kN) (splB l i (x.take c)) → w.grownBy w' (some g) → w'.heap.size = w.heap.size → wpList Tryd.prog ops Q rest (a.put o.dst (goInt (Nat.min m c))) w') :
    wpList Tryd.prog ops Q (o :: rest) a w :=
  wpList_plain hgd fun _ hK => wp_copyBP d s ho hd hs hO hB hl hic hk hD fun w' h1 h2 h3 => hK _ _ (h w' h1 h2 h3)
theorem Rdr.write {W W1 : World} {bs rb g k m c T : Nat} {R : Nat → Value} {F : Nat → List UInt8} {vg : Value} {L : List Bool} (h : Rdr W bs rb g k m c T R F vg L) {i : Nat} (hi : i < T) {l : List UInt8} (hO : OwnB W1 bs (R i) l) (hG : W.grownBy W1 (R i).ownBlock) : Rdr W1 bs rb g k m c T R (upd F i l) vg L :=
  ⟨h.wr.ownGrown hG ((h.lns.row i hi).notKind h.wr (by decide)), h.lns.write hi hO hG, World.ownsRow.kept h.good hG (ownsApartS h.good (h.lns.row i hi) (by decide))⟩
theorem Rdr.congr {W : World} {bs rb g k m c T : Nat} {R : Nat → Value} {F G : Nat → List UInt8} {vg : Value} {L : List Bool} (h : Rdr W bs rb g k m c T R F vg L) (hF : ∀ i, i < T → F i = G i) : Rdr W bs rb g k m c T R G vg L := ⟨h.wr, h.lns.congr hF, h.good⟩
/-- Blocks from lo to hi are as they were. -/
def High (lo hi : Nat) (W W' : World) : Prop := ∀ b, lo ≤ b → b < hi → W'.heap[b]? = W.heap[b]?
theorem High.refl (lo hi : Nat) (W : World) : High lo hi W W := fun _ _ _ => rfl
theorem High.ext {lo hi : Nat} {W W' W2 : World} (h : High lo hi W W') (hE : Ext W' W2) (hh : hi ≤ W'.heap.size) : High lo hi W W2 := fun b h1 h2 => (hE.block b (Nat.lt_of_lt_of_le h2 hh)).trans (h b h1 h2)
theorem High.grown {lo hi g : Nat} {W W' W2 : World} (h : High lo hi W W') (hG : W'.grownBy W2 (some g)) (hg : g < lo) (hh : hi ≤ W'.heap.size) : High lo hi W W2 := fun b h1 h2 => (hG.block b (Nat.lt_of_lt_of_le h2 hh) (fun e => by injection e with e; omega)).trans (h b h1 h2)
theorem High.cell {lo hi b i : Nat} {W W' : World} (h : High lo hi W W') (h1 : lo ≤ b) (h2 : b < hi) : W'.cell? ⟨b, i, none⟩ = W.cell? ⟨b, i, none⟩ := World.cell?_of_block (a := ⟨b, i, none⟩) (h b h1 h2)
theorem Bytes.high {lo : Nat} {W W' : World} {A : Option Addr} {n c : Nat} {l : List UInt8} (h : Bytes W W.heap.size A n l) (hn : NewX lo (.slice A n c)) (hH : High lo W.heap.size W W') (hs : W.heap.size ≤ W'.heap.size) : Bytes W' W'.heap.size A n l := by
  refine ⟨h.1, ?_⟩
  rcases hn A n c rfl with h0 | h1
  · exact .inl h0
  rcases h.2 with h0 | ⟨b, off, rfl, hb, hc⟩
  · exact .inl h0
  · exact .inr ⟨b, off, rfl, Nat.lt_of_lt_of_le hb hs, fun i hi => (hH.cell (h1 b off rfl) hb).trans (hc i hi)⟩
theorem goods_part {k m c N a : Nat} {s : List UInt8} (ha : a < N) : ((goodL c s (N * (k + m))).drop (a * (k + m))).take (k + m) = goodS k m c s a (k + m) := by
  have hle : a * (k + m) + (k + m) ≤ N * (k + m) := by rw [← Nat.succ_mul]; exact Nat.mul_le_mul_right _ ha
  refine bools_ext (by rw [List.length_take, List.length_drop, goodL_len, goods_len]; omega) fun i hi => ?_
  rw [List.length_take, List.length_drop, goodL_len] at hi
  have hi2 : i < k + m := by omega
  rw [goods_at hi2, ← goodL_at (q := N * (k + m)) (by omega)]
  simp [List.getD_eq_getElem?_getD, hi2]
/-- What mendRun tells. -/
def MRunTo (w : World) (bs rb g k m c T N : Nat) (R : Nat → Value) (vg : Value) (s : List UInt8) (a d : Nat) (e : Ending) (w' : World) : Prop :=
  ∃ er : Int, e = .returned (.int .i64 er) ∧ Below bs w w' ∧ ((er = 0 ∧ lostS k m c s a (k + m) ≤ m ∧ (∀ j, j < d → fitsS k m c s (a + j) (k + m) = true) ∧ Rdr w' bs rb g k m c T R (laneM k m c N s (a + d)) vg (goodL c s (N * T))) ∨
    (er = 12 ∧ m < lostS k m c s a (k + m)) ∨ (er = 2 ∧ lostS k m c s a (k + m) ≤ m ∧ ∃ j, j < d ∧ fitsS k m c s (a + j) (k + m) = false))

set_option maxHeartbeats 16000000 in
set_option maxRecDepth 100000 in
theorem sMendRun_any {bs rb g k m c T N a d : Nat} {R : Nat → Value} {vg : Value} {s : List UInt8} {w : World} (h : Rdr w bs rb g k m c T R (laneM k m c N s a) vg (goodL c s (N * T))) (hbs : bs ≤ w.heap.size) (hk : 1 ≤ k) (hkm : k + m ≤ 255) (hT : k + m = T) (hc : 1 ≤ c) (hc2 : c ≤ 4096) (hs : s.length = N * (k + m) * (c + 4)) (hs2 : s.length ≤ 20000)
    (had : a + d ≤ N) (hd : 1 ≤ d) (hl : ∀ j, j < a → lostS k m c s j (k + m) ≤ m) (hg : ∀ j, j < d → goodS k m c s (a + j) (k + m) = goodS k m c s a (k + m)) :
    Calls Tryd.prog 54 #[.pointer (some ⟨rb, 0, none⟩), .int .i64 (a : Int), .int .i64 ((a + d : Nat) : Int)] w (MRunTo w bs rb g k m c T N R vg s a d) := by
  have hNT : N * T * (c + 4) ≤ 20000 := by rw [← hT, ← hs]; exact hs2
  have hT1 : 1 ≤ T := by omega
  have hT2 : T ≤ 255 := by omega
  have hNT2 : N * T ≤ 20000 := Nat.le_trans (Nat.le_mul_of_pos_right _ (by omega)) hNT
  have hN2 : N ≤ 20000 := Nat.le_trans (Nat.le_mul_of_pos_right _ hT1) hNT2
  have hNc : N * c ≤ 20000 := Nat.le_trans (Nat.mul_le_mul (Nat.le_mul_of_pos_right _ hT1) (by omega)) hNT
  -- the lanes
  have hLl : ∀ i, i < T → (laneM k m c N s a i).length = N * c := fun i hi => laneM_len hk hkm hs hl (by omega)
  have hN1 : 1 ≤ N * c := Nat.mul_pos (by omega) hc
  have hx : ∀ i, ∃ p : Nat × Nat, i < T → R i = .slice (some ⟨p.1, 0, none⟩) (N * c) p.2 ∧ N * c ≤ p.2 ∧ p.2 ≤ maxLen ∧ p.1 < w.heap.size ∧ bs ≤ p.1 := fun i => by
    by_cases hi : i < T
    · have hr := h.lns.row i hi
      have hlt := hr.lt
      have hll := hLl i hi
      rcases hr.2 with ⟨_, h0⟩ | ⟨g1, c1, cur, e, _, _, h5, h6, _⟩
      · omega
      · rw [hll] at e h5
        rw [e] at hlt
        exact ⟨(g1, c1), fun _ => ⟨e, h5, h6, (hlt g1 rfl).2, (hlt g1 rfl).1⟩⟩
    · exact ⟨(0, 0), fun h => absurd h hi⟩
  obtain ⟨f, hf⟩ := Classical.axiomOfChoice hx
  obtain ⟨LA, hLA⟩ : ∃ F : Nat → Nat, F = fun i => (f i).1 := ⟨_, rfl⟩
  obtain ⟨LC, hLC⟩ : ∃ F : Nat → Nat, F = fun i => (f i).2 := ⟨_, rfl⟩
  have HFA := hide (show ∀ i, i < T → R i = .slice (some ⟨LA i, 0, none⟩) (N * c) (LC i) ∧ N * c ≤ LC i ∧ LC i ≤ maxLen ∧ LA i < w.heap.size ∧ bs ≤ LA i from fun i hi => by rw [hLA, hLC]; exact hf i hi)
  -- what is good
  obtain ⟨AG, cG, hvg, hcG, hBG⟩ := h.good.form
  rw [goodL_len] at hvg hcG hBG
  have haT : a * T + T ≤ N * T := by rw [← Nat.succ_mul]; exact Nat.mul_le_mul_right _ (by omega)
  have hW0 := h.wr
  rw [hvg] at hW0
  have CG := sGoodOf_any hW0 hT hT2 haT (by omega) hcG
  have HGd := hide (show ∀ W, Rdr W bs rb g k m c T R (laneM k m c N s a) vg (goodL c s (N * T)) ∨ True → True from fun _ _ => trivial)
  have HBg := hide (fun (W : World) (F : Nat → List UInt8) (hr : Rdr W bs rb g k m c T R F vg (goodL c s (N * T))) => show BoolsAt W W.heap.size (cutAt AG cG (a * T)) T (goodS k m c s a (k + m)) by
    obtain ⟨A1, c1, e1, e2, e3⟩ := hr.good.form
    rw [hvg, goodL_len] at e1
    rw [goodL_len] at e2 e3
    simp only [Value.slice.injEq] at e1
    obtain ⟨rfl, _, rfl⟩ := e1
    have h1 := e3.cut (o := a * T) (d := T) e2 haT
    rw [← hT, goods_part (by omega)] at h1
    rw [← hT]
    exact h1)
  obtain ⟨GA, hGA⟩ : ∃ x, x = cutAt AG cG (a * T) := ⟨_, rfl⟩
  obtain ⟨GC, hGC⟩ : ∃ x, x = cG - a * T := ⟨_, rfl⟩
  rw [← hGA, ← hGC] at CG
  rw [← hGA] at HBg
  -- the parts
  obtain ⟨P, hP⟩ : ∃ P, P = (List.range T).map fun i => seg (a * c) (d * c) (laneM k m c N s a i) := ⟨_, rfl⟩
  have hPl : P.length = T := by rw [hP]; simp
  have hPi : ∀ i, i < T → P.getD i [] = seg (a * c) (d * c) (laneM k m c N s a i) := fun i hi => by rw [hP]; simp [List.getD_eq_getElem?_getD, hi]
  have hPr : ∀ i, i < k + m → P.getD i [] = laneF d fun j => rawQ c s ((a + j) * (k + m) + i) := fun i hi => by rw [hPi i (by omega), laneM_part hk hkm hs hl hi had]
  have hRun : Run k m c s a d P := ⟨by omega, hPr, hg⟩
  have hPlen : ∀ i, i < T → (P.getD i []).length = d * c := fun i hi => by rw [hPr i (by omega), lane_len d fun j hj => raw_len (place_le hs (by omega) (by omega))]
  have HPi := hide hPi
  have HRun := hide hRun
  have HPlen := hide hPlen
  have hadc : a * c + d * c ≤ N * c := by rw [← Nat.add_mul]; exact Nat.mul_le_mul_right _ had
  have HMd := hide (fun (hlo : lostS k m c s a (k + m) ≤ m) => hRun.mend hk hkm hs had hlo)
  have HLo := hide (fun (hlo : m < lostS k m c s a (k + m)) => hRun.lost hk hkm hs had hlo)
  have HFit := hide (fun hlo (M : List (List UInt8)) hM hgd => hRun.fits hk hkm hs had hlo (M := M) hM hgd)
  have HUn := hide (fun (M : List (List UInt8)) hM i hi hgi hne => hRun.unfit hs had (M := M) hM (i := i) hi hgi hne)
  have HPut := hide (fun hlo i hi => laneM_put (N := N) (a := a) (d := d) (i := i) hk hkm hs (fun j hj => by
    by_cases h1 : j < a
    · exact hl j h1
    · have h2 := good_lost k m c s (hg (j - a) (by omega))
      rw [show a + (j - a) = j by omega] at h2
      rw [h2]
      exact hlo) hi had)
  have HML := hide (fun hlo i hi => lane_len (F := fun j => mnd k m c s (a + j) i) (c := c) d fun j hj => mnd_len hk hkm hs (j := a + j) (by omega) (by rw [good_lost k m c s (hg j hj)]; exact hlo) hi)
  have HLl := hide hLl
  have HG := hide hg
  -- numbers
  obtain ⟨to, hto⟩ : ∃ x, x = a + d := ⟨_, rfl⟩
  obtain ⟨ac, hac⟩ : ∃ x, x = a * c := ⟨_, rfl⟩
  obtain ⟨dc, hdc⟩ : ∃ x, x = d * c := ⟨_, rfl⟩
  obtain ⟨tc, htc⟩ : ∃ x, x = to * c := ⟨_, rfl⟩
  have htad : tc = ac + dc := by rw [htc, hto, Nat.add_mul, hac, hdc]
  have hacI : (a : Int) * (c : Int) = (ac : Int) := by rw [hac]; exact (Int.natCast_mul _ _).symm
  have htcI : (to : Int) * (c : Int) = (tc : Int) := by rw [htc]; exact (Int.natCast_mul _ _).symm
  obtain ⟨Ln, hLn⟩ : ∃ x, x = N * c := ⟨_, rfl⟩
  rw [← hac, ← hdc, ← hLn] at hadc
  have hact : ac ≤ tc := by omega
  have htL : tc ≤ Ln := by omega
  have HTad := hide htad
  clear htad
  rw [← hac, ← hdc] at HPi
  rw [← hdc] at HPlen HML
  rw [← hac] at HPut
  rw [← hLn] at HFA hN1 hNc HLl
  rw [← hto]
  have HTo := hide hto
  have x1 : IntKind.i64.wrap (ac : Int) = (ac : Int) := by rw [IntKind.wrap_i64]; omega
  have x2 : IntKind.i64.wrap (tc : Int) = (tc : Int) := by rw [IntKind.wrap_i64]; omega
  have hTI : (T : Int) ≤ 255 := by omega
  have HR := hide h
  have hgl := h.lns.lst.lt
  have HHs := hide (show ((goodS k m c s a (k + m)).length : Nat) = T by rw [goods_len, hT])
  have HTk := hide hT
  obtain ⟨PV, hPV⟩ : ∃ F : Nat → Value, F = fun i => .slice (cutAt (some ⟨LA i, 0, none⟩) (LC i) ac) dc (LC i - ac) := ⟨_, rfl⟩
  have HPV := hide (show ∀ i, PV i = .slice (cutAt (some ⟨LA i, 0, none⟩) (LC i) ac) dc (LC i - ac) from fun i => by rw [hPV])
  have hd1 : 1 ≤ dc := by rw [hdc]; exact Nat.mul_pos hd hc
  clear hx hf hLA hLC hvg hcG hBG hW0 hGA hGC hP hPi hPr hRun hPlen hLl hg hs hl hac hdc htc hto hLn h haT hT hPV HGd hs2 hNT
  go_enter Tryd.func54, Tryd.ntmps54
  go_wp2_with fail
  refine CG.mono ?_
  rintro e w1 ⟨rfl, hE1⟩
  have s3 := (HR.out.ext hE1).wr.at 3 (u := .slice (some ⟨g, 0, none⟩) T T) rfl
  clear CG
  go_wp2_with (refine wpList_makeLst (n := T) rfl (.tmp 22) (.tmp 22) rfl rfl rfl (by omega) ?_; intro w2 hL2 hE2; have hE02 := hE1.trans hE2; have q3 := (HR.out.ext hE02).wr.at 3 (u := .slice (some ⟨g, 0, none⟩) T T) rfl; clear s3)
  obtain ⟨gp, hgp⟩ : ∃ x, x = w1.heap.size := ⟨_, rfl⟩
  have hL2' := hL2.mono hE1.le
  rw [← hgp] at hL2' ⊢
  have hgpw : w.heap.size ≤ gp := by rw [hgp]; exact hE1.le
  have hgpl : gp < w2.heap.size := hL2'.lt.2
  clear hL2 hgp q3
  go_loopw [29] (fun z wr => ∃ i : Nat, i ≤ T ∧ z = .int .i64 (i : Int) ∧ Lst wr w.heap.size gp T (fun a' => if a' < i then PV a' else .slice none 0 0) ∧ Ext w wr) (fun z _ => T - (intOf z).toNat)
  case atStart => exact ⟨0, by omega, rfl, by simpa using hL2', hE02⟩
  case round =>
    clear hL2' hE02 hE2 hE1
    obtain ⟨i, hi, rfl, hLst, hE⟩ := hrel
    by_cases hlt : i < T
    · have hltI : (i : Int) < (T : Int) := by omega
      obtain ⟨r1, r2, r3, -, -⟩ := HFA.out i hlt
      have ci := (HR.out.ext hE).lns.cell hlt
      rw [r1] at ci
      have hPVi := HPV.out i
      have hRM := fun W => run_mid W (some ⟨LA i, 0, none⟩) Ln (LC i) .i64 .i64 (ac : Int) (tc : Int) (by omega) (by omega) (by omega)
      have e1 : tc - ac = dc := by have := HTad.out; omega
      simp only [Int.toNat_natCast, e1] at hRM
      rw [← hPVi] at hRM
      have hsl : ∃ A9 k9, PV i = .slice A9 dc k9 := ⟨_, _, hPVi⟩
      obtain ⟨A9, k9, hpv⟩ := hsl
      rw [hpv] at hRM
      have HRM := hide hRM
      have Hpv := hide hpv
      generalize LC i = LCi at *
      generalize LA i = LAi at *
      have hWr := (HR.out.ext hE).wr
      have s3 := hWr.at 3 (u := .slice (some ⟨g, 0, none⟩) T T) rfl
      obtain ⟨wa, rfl⟩ : ∃ W, W = wr := ⟨_, rfl⟩
      clear hRM hPVi r1 hpv e1
      go_wp2_with fail
      refine wp_region_T (fun W => Ext wa W) 19 20 #[false, false, false, false, false, false, false, false, false, false, false, false, false, false, false, false, false, false, false, false] (by kernel_rfl) rfl rfl (Ext.refl wa).drew ?_
      intro hS0
      refine wpAnyT_take 0 (some 34) (.slice (some ⟨gp, 0, none⟩) T T) #[true, false, false, false, false, false, false, false, false, false, false, false, false, false, false, false, false, false, false, false] rfl rfl rfl (by kernel_rfl) (fun _ _ _ h => h) hS0 (by rfl) (fun W hX => by go_simp) ?_
      simp only [Act.put, List.setIfInBounds_toArray, List.set_cons_zero, List.set_cons_succ]
      refine wpAnyT_take 1 (some 35) (.int .i64 (i : Int)) #[true, true, false, false, false, false, false, false, false, false, false, false, false, false, false, false, false, false, false, false] rfl rfl rfl (by kernel_rfl) (fun _ _ _ h => h) hS0 (by rfl) (fun W hX => by go_simp) ?_
      simp only [Act.put, List.setIfInBounds_toArray, List.set_cons_zero, List.set_cons_succ]
      refine wpAnyT_take 2 (some 36) (.slice (some ⟨LAi, 0, none⟩) Ln LCi) #[true, true, true, false, false, false, false, false, false, false, false, false, false, false, false, false, false, false, false, false] rfl rfl rfl (by kernel_rfl) (fun _ _ _ h => h) hS0 (by rfl) (fun W hX => by go_simp) ?_
      simp only [Act.put, List.setIfInBounds_toArray, List.set_cons_zero, List.set_cons_succ]
      refine wpAnyT_take 3 (some 37) (.int .i64 (a : Int)) #[true, true, true, true, false, false, false, false, false, false, false, false, false, false, false, false, false, false, false, false] rfl rfl rfl (by kernel_rfl) (fun _ _ _ h => h) hS0 (by rfl) (fun W hX => by go_simp) ?_
      simp only [Act.put, List.setIfInBounds_toArray, List.set_cons_zero, List.set_cons_succ]
      refine wpAnyT_take 4 (some 38) (.pointer (some ⟨rb, 0, none⟩)) #[true, true, true, true, true, false, false, false, false, false, false, false, false, false, false, false, false, false, false, false] rfl rfl rfl (by kernel_rfl) (fun _ _ _ h => h) hS0 (by rfl) (fun W hX => by go_simp) ?_
      simp only [Act.put, List.setIfInBounds_toArray, List.set_cons_zero, List.set_cons_succ]
      refine wpAnyT_take 5 (some 39) (.pointer (some ⟨rb, 0, none⟩)) #[true, true, true, true, true, true, false, false, false, false, false, false, false, false, false, false, false, false, false, false] rfl rfl rfl (by kernel_rfl) (fun _ _ _ h => h) hS0 (by rfl) (fun W hX => by go_simp) ?_
      simp only [Act.put, List.setIfInBounds_toArray, List.set_cons_zero, List.set_cons_succ]
      refine wpAnyT_take 6 (some 40) (.pointer (some ⟨rb, 0, none⟩)) #[true, true, true, true, true, true, true, false, false, false, false, false, false, false, false, false, false, false, false, false] rfl rfl rfl (by kernel_rfl) (fun _ _ _ h => h) hS0 (by rfl) (fun W hX => by go_simp) ?_
      simp only [Act.put, List.setIfInBounds_toArray, List.set_cons_zero, List.set_cons_succ]
      refine wpAnyT_take 7 (some 41) (.pointer (some ⟨rb, 2, none⟩)) #[true, true, true, true, true, true, true, true, false, false, false, false, false, false, false, false, false, false, false, false] rfl rfl rfl (by kernel_rfl) (fun _ _ _ h => h) hS0 (by rfl) (fun W hX => by go_simp) ?_
      simp only [Act.put, List.setIfInBounds_toArray, List.set_cons_zero, List.set_cons_succ]
      refine wpAnyT_take 8 (some 42) (.int .i64 (c : Int)) #[true, true, true, true, true, true, true, true, true, false, false, false, false, false, false, false, false, false, false, false] rfl rfl rfl (by kernel_rfl) (fun _ _ _ h => h) hS0 (by rfl) (fun W hX => by have p2 := (hWr.ext hX).at 2 (u := .int .i64 (c : Int)) rfl; go_simp) ?_
      simp only [Act.put, List.setIfInBounds_toArray, List.set_cons_zero, List.set_cons_succ]
      refine wpAnyT_take 9 (some 43) (.int .i64 (ac : Int)) #[true, true, true, true, true, true, true, true, true, true, false, false, false, false, false, false, false, false, false, false] rfl rfl rfl (by kernel_rfl) (fun _ _ _ h => h) hS0 (by rfl) (fun W hX => by go_simp) ?_
      simp only [Act.put, List.setIfInBounds_toArray, List.set_cons_zero, List.set_cons_succ]
      refine wpAnyT_take 10 (some 44) (.int .i64 (to : Int)) #[true, true, true, true, true, true, true, true, true, true, true, false, false, false, false, false, false, false, false, false] rfl rfl rfl (by kernel_rfl) (fun _ _ _ h => h) hS0 (by rfl) (fun W hX => by go_simp) ?_
      simp only [Act.put, List.setIfInBounds_toArray, List.set_cons_zero, List.set_cons_succ]
      refine wpAnyT_take 11 (some 45) (.pointer (some ⟨rb, 0, none⟩)) #[true, true, true, true, true, true, true, true, true, true, true, true, false, false, false, false, false, false, false, false] rfl rfl rfl (by kernel_rfl) (fun _ _ _ h => h) hS0 (by rfl) (fun W hX => by go_simp) ?_
      simp only [Act.put, List.setIfInBounds_toArray, List.set_cons_zero, List.set_cons_succ]
      refine wpAnyT_take 12 (some 46) (.pointer (some ⟨rb, 0, none⟩)) #[true, true, true, true, true, true, true, true, true, true, true, true, true, false, false, false, false, false, false, false] rfl rfl rfl (by kernel_rfl) (fun _ _ _ h => h) hS0 (by rfl) (fun W hX => by go_simp) ?_
      simp only [Act.put, List.setIfInBounds_toArray, List.set_cons_zero, List.set_cons_succ]
      refine wpAnyT_take 13 (some 47) (.pointer (some ⟨rb, 0, none⟩)) #[true, true, true, true, true, true, true, true, true, true, true, true, true, true, false, false, false, false, false, false] rfl rfl rfl (by kernel_rfl) (fun _ _ _ h => h) hS0 (by rfl) (fun W hX => by go_simp) ?_
      simp only [Act.put, List.setIfInBounds_toArray, List.set_cons_zero, List.set_cons_succ]
      refine wpAnyT_take 14 (some 48) (.pointer (some ⟨rb, 2, none⟩)) #[true, true, true, true, true, true, true, true, true, true, true, true, true, true, true, false, false, false, false, false] rfl rfl rfl (by kernel_rfl) (fun _ _ _ h => h) hS0 (by rfl) (fun W hX => by go_simp) ?_
      simp only [Act.put, List.setIfInBounds_toArray, List.set_cons_zero, List.set_cons_succ]
      refine wpAnyT_take 15 (some 49) (.int .i64 (c : Int)) #[true, true, true, true, true, true, true, true, true, true, true, true, true, true, true, true, false, false, false, false] rfl rfl rfl (by kernel_rfl) (fun _ _ _ h => h) hS0 (by rfl) (fun W hX => by have p2 := (hWr.ext hX).at 2 (u := .int .i64 (c : Int)) rfl; go_simp) ?_
      simp only [Act.put, List.setIfInBounds_toArray, List.set_cons_zero, List.set_cons_succ]
      refine wpAnyT_take 16 (some 50) (.int .i64 (tc : Int)) #[true, true, true, true, true, true, true, true, true, true, true, true, true, true, true, true, true, false, false, false] rfl rfl rfl (by kernel_rfl) (fun _ _ _ h => h) hS0 (by rfl) (fun W hX => by go_simp) ?_
      simp only [Act.put, List.setIfInBounds_toArray, List.set_cons_zero, List.set_cons_succ]
      refine wpAnyT_take 17 (some 51) (.slice A9 dc k9) #[true, true, true, true, true, true, true, true, true, true, true, true, true, true, true, true, true, true, false, false] rfl rfl rfl (by kernel_rfl) (fun _ _ _ h => h) hS0 (by rfl) (fun W hX => by have hr := HRM.out W; go_simp) ?_
      simp only [Act.put, List.setIfInBounds_toArray, List.set_cons_zero, List.set_cons_succ]
      refine wpAnyT_take 18 (some 52) (.pointer (some ⟨gp, i, none⟩)) #[true, true, true, true, true, true, true, true, true, true, true, true, true, true, true, true, true, true, true, false] rfl rfl rfl (by kernel_rfl) (fun _ _ _ h => h) hS0 (by rfl) (fun W hX => by go_simp) ?_
      simp only [Act.put, List.setIfInBounds_toArray, List.set_cons_zero, List.set_cons_succ]
      refine wpAnyT_only 19 #[true, true, true, true, true, true, true, true, true, true, true, true, true, true, true, true, true, true, true, true] (by kernel_rfl) rfl rfl (by rfl) (fun K0 hK0 => ?_)
      have hLd := hLst.ext hS0
      obtain ⟨c5, f5⟩ := hLd.cell hlt
      go_simp
      refine hK0 _ _ (fun h => absurd h (by decide)) (wpAnyT_done (by kernel_rfl) ?_ _)
      clear hK0 K0
      have hL6 := (hLd.set hlt (.slice A9 dc k9)).1
      have hE6 : Ext w (wa.drew.setCell ⟨gp, i, none⟩ (.slice A9 dc k9)) := (hE.trans hS0).setCell hgpw _
      have hfun : (fun a' => if a' = i then Value.slice A9 dc k9 else if a' < i then PV a' else .slice none 0 0) = fun a' => if a' < i + 1 then PV a' else .slice none 0 0 := by
        funext a'
        by_cases e : a' = i
        · rw [if_pos e, if_pos (by omega), e, Hpv.out]
        · rw [if_neg e]
          by_cases h : a' < i
          · rw [if_pos h, if_pos (by omega)]
          · rw [if_neg h, if_neg (by omega)]
      rw [hfun] at hL6
      go_wp2
      go_roundw
      case rel => exact ⟨i + 1, by omega, by go_num, hL6, hE6⟩
      case measure => simp [intOf]; omega
    · obtain rfl : T = i := by omega
      have hltI : ¬ (T : Int) < (T : Int) := by omega
      have hRows : RowsAt wr wr.heap.size (some ⟨gp, 0, none⟩) T P := by
        refine hLst.at (lo := 0) (F := fun i => P.getD i []) (fun i hi => ?_) (fun _ _ => rfl) hPl (Nat.le_refl _)
        rw [if_pos hi, HPV.out i]
        obtain ⟨r1, r2, r3, r4, r5⟩ := HFA.out i hi
        have hrow := HR.out.lns.row i hi
        rw [r1] at hrow
        have hb1 := (hE.bytes hrow.bytesR).seg (o := ac) (d := dc) r2 hadc
        have hpi := HPi.out i hi
        unfold seg at hpi
        rw [← hpi] at hb1
        refine ⟨⟨_, _, by rw [HPlen.out i hi], by rw [HPlen.out i hi]; omega, by omega, by rw [HPlen.out i hi]; exact hb1⟩, fun A9 n9 k9 _ => .inr fun _ _ _ => Nat.zero_le _⟩
      have hWr := (HR.out.ext hE).wr
      have s0 := hWr.at 0 (u := .int .i64 (k : Int)) rfl
      have s1 := hWr.at 1 (u := .int .i64 (m : Int)) rfl
      have hBG := HBg.out wr _ (HR.out.ext hE)
      have HHl := HHs.out
      obtain ⟨wa, rfl⟩ : ∃ W, W = wr := ⟨_, rfl⟩
      have hDd := (Ext.refl wa).drew
      have CM := rsMendN_any (k : Int) (m : Int) (some ⟨gp, 0, none⟩) GA T GC P (goodS k m c s a (k + m)) wa.drew (by omega) (by omega) (by rw [hPl]; exact hRows.ext hDd) (by rw [HHl]; exact hBG.ext hDd) (by rw [hPl]; omega) (fun i hi => by rw [hPl] at hi; rw [HPlen.out i hi]; omega)
      rw [hPl, HHl] at CM
      unfold MadeNE at CM
      by_cases hlo : lostS k m c s a (k + m) ≤ m
      · obtain ⟨M, hM1, hM2, hM3⟩ := HMd.out hlo
        rw [hM1] at CM
        dsimp only at CM
        have hM2 : M.length = T := by rw [hM2, HTk.out]
        clear hM1
        go_wp2_with fail
        refine wp_region_T (fun W => Ext wa W) 17 18 #[false, false, false, false, false, false, false, false, false, false, false, false, false, false, false, false, false, false] (by kernel_rfl) rfl rfl (Ext.refl wa).drew ?_
        intro hS0
        refine wpAnyT_take 0 (some 55) (.pointer (some ⟨rb, 0, none⟩)) #[true, false, false, false, false, false, false, false, false, false, false, false, false, false, false, false, false, false] rfl rfl rfl (by kernel_rfl) (fun _ _ _ h => h) hS0 (by rfl) (fun W hX => by go_simp) ?_
        simp only [Act.put, List.setIfInBounds_toArray, List.set_cons_zero, List.set_cons_succ]
        refine wpAnyT_take 1 (some 56) (.pointer (some ⟨rb, 0, none⟩)) #[true, true, false, false, false, false, false, false, false, false, false, false, false, false, false, false, false, false] rfl rfl rfl (by kernel_rfl) (fun _ _ _ h => h) hS0 (by rfl) (fun W hX => by go_simp) ?_
        simp only [Act.put, List.setIfInBounds_toArray, List.set_cons_zero, List.set_cons_succ]
        refine wpAnyT_take 2 (some 57) (.pointer (some ⟨rb, 0, none⟩)) #[true, true, true, false, false, false, false, false, false, false, false, false, false, false, false, false, false, false] rfl rfl rfl (by kernel_rfl) (fun _ _ _ h => h) hS0 (by rfl) (fun W hX => by go_simp) ?_
        simp only [Act.put, List.setIfInBounds_toArray, List.set_cons_zero, List.set_cons_succ]
        refine wpAnyT_take 3 (some 58) (.pointer (some ⟨rb, 0, none⟩)) #[true, true, true, true, false, false, false, false, false, false, false, false, false, false, false, false, false, false] rfl rfl rfl (by kernel_rfl) (fun _ _ _ h => h) hS0 (by rfl) (fun W hX => by go_simp) ?_
        simp only [Act.put, List.setIfInBounds_toArray, List.set_cons_zero, List.set_cons_succ]
        refine wpAnyT_take 4 (some 59) (.int .i64 (k : Int)) #[true, true, true, true, true, false, false, false, false, false, false, false, false, false, false, false, false, false] rfl rfl rfl (by kernel_rfl) (fun _ _ _ h => h) hS0 (by rfl) (fun W hX => by have p := (hWr.ext hX).at 0 (u := .int .i64 (k : Int)) rfl; go_simp) ?_
        simp only [Act.put, List.setIfInBounds_toArray, List.set_cons_zero, List.set_cons_succ]
        refine wpAnyT_take 5 (some 60) (.pointer (some ⟨rb, 0, none⟩)) #[true, true, true, true, true, true, false, false, false, false, false, false, false, false, false, false, false, false] rfl rfl rfl (by kernel_rfl) (fun _ _ _ h => h) hS0 (by rfl) (fun W hX => by go_simp) ?_
        simp only [Act.put, List.setIfInBounds_toArray, List.set_cons_zero, List.set_cons_succ]
        refine wpAnyT_take 6 (some 61) (.pointer (some ⟨rb, 0, none⟩)) #[true, true, true, true, true, true, true, false, false, false, false, false, false, false, false, false, false, false] rfl rfl rfl (by kernel_rfl) (fun _ _ _ h => h) hS0 (by rfl) (fun W hX => by go_simp) ?_
        simp only [Act.put, List.setIfInBounds_toArray, List.set_cons_zero, List.set_cons_succ]
        refine wpAnyT_take 7 (some 62) (.pointer (some ⟨rb, 0, none⟩)) #[true, true, true, true, true, true, true, true, false, false, false, false, false, false, false, false, false, false] rfl rfl rfl (by kernel_rfl) (fun _ _ _ h => h) hS0 (by rfl) (fun W hX => by go_simp) ?_
        simp only [Act.put, List.setIfInBounds_toArray, List.set_cons_zero, List.set_cons_succ]
        refine wpAnyT_take 8 (some 63) (.pointer (some ⟨rb, 1, none⟩)) #[true, true, true, true, true, true, true, true, true, false, false, false, false, false, false, false, false, false] rfl rfl rfl (by kernel_rfl) (fun _ _ _ h => h) hS0 (by rfl) (fun W hX => by go_simp) ?_
        simp only [Act.put, List.setIfInBounds_toArray, List.set_cons_zero, List.set_cons_succ]
        refine wpAnyT_take 9 (some 64) (.int .i64 (m : Int)) #[true, true, true, true, true, true, true, true, true, true, false, false, false, false, false, false, false, false] rfl rfl rfl (by kernel_rfl) (fun _ _ _ h => h) hS0 (by rfl) (fun W hX => by have p := (hWr.ext hX).at 1 (u := .int .i64 (m : Int)) rfl; go_simp) ?_
        simp only [Act.put, List.setIfInBounds_toArray, List.set_cons_zero, List.set_cons_succ]
        refine wpAnyT_take 10 (some 65) (.slice (some ⟨gp, 0, none⟩) T T) #[true, true, true, true, true, true, true, true, true, true, true, false, false, false, false, false, false, false] rfl rfl rfl (by kernel_rfl) (fun _ _ _ h => h) hS0 (by rfl) (fun W hX => by go_simp) ?_
        simp only [Act.put, List.setIfInBounds_toArray, List.set_cons_zero, List.set_cons_succ]
        refine wpAnyT_take 11 (some 66) (.slice GA T GC) #[true, true, true, true, true, true, true, true, true, true, true, true, false, false, false, false, false, false] rfl rfl rfl (by kernel_rfl) (fun _ _ _ h => h) hS0 (by rfl) (fun W hX => by go_simp) ?_
        simp only [Act.put, List.setIfInBounds_toArray, List.set_cons_zero, List.set_cons_succ]
        refine wpAnyT_only 12 #[true, true, true, true, true, true, true, true, true, true, true, true, true, false, false, false, false, false] (by kernel_rfl) rfl rfl (by rfl) (fun K0 hK0 => ?_)
        go_simp
        refine CM.mono ?_
        rintro e w5 ⟨v5, rfl, hN5, hE5⟩
        have hX5 := hS0.trans hE5
        refine hK0 _ _ (fun _ => hX5) ?_
        clear hK0 K0 CM
        obtain ⟨A5, c5, hv5, -, -, -⟩ := hN5.toP.form
        rw [hM2] at hv5
        subst hv5
        refine wpAnyT_take 13 (some 54) (.tuple #[.slice A5 T c5, .int .i64 0]) #[true, true, true, true, true, true, true, true, true, true, true, true, true, true, false, false, false, false] rfl rfl rfl (by kernel_rfl) (fun _ _ _ h => h) hX5 (by rfl) (fun W hX => by go_simp) ?_
        simp only [Act.put, List.setIfInBounds_toArray, List.set_cons_zero, List.set_cons_succ]
        refine wpAnyT_take 14 (some 68) (.slice A5 T c5) #[true, true, true, true, true, true, true, true, true, true, true, true, true, true, true, false, false, false] rfl rfl rfl (by kernel_rfl) (fun _ _ _ h => h) hX5 (by rfl) (fun W hX => by go_simp) ?_
        simp only [Act.put, List.setIfInBounds_toArray, List.set_cons_zero, List.set_cons_succ]
        refine wpAnyT_take 15 (some 69) (.int .i64 0) #[true, true, true, true, true, true, true, true, true, true, true, true, true, true, true, true, false, false] rfl rfl rfl (by kernel_rfl) (fun _ _ _ h => h) hX5 (by rfl) (fun W hX => by go_simp) ?_
        simp only [Act.put, List.setIfInBounds_toArray, List.set_cons_zero, List.set_cons_succ]
        refine wpAnyT_only 16 #[true, true, true, true, true, true, true, true, true, true, true, true, true, true, true, true, true, false] (by kernel_rfl) rfl rfl (by rfl) (fun K1 hK1 => ?_)
        go_simp
        refine hK1 _ _ (fun _ => hX5) ?_
        clear hK1 K1
        refine wpAnyT_only 17 #[true, true, true, true, true, true, true, true, true, true, true, true, true, true, true, true, true, true] (by kernel_rfl) rfl rfl (by rfl) (fun K0 hK0 => ?_)
        go_simp
        refine hK0 _ _ (fun h => absurd h (by decide)) (wpAnyT_done (by kernel_rfl) ?_ _)
        clear hK0 K0
        obtain ⟨X, hXo, hXr⟩ := hN5.own
        rw [hM2] at hXo hXr
        have hE5w : Ext w w5 := hE.trans hX5
        have hMl : ∀ i, i < T → (M.getD i []).length = dc := fun i hi => by rw [hM3 i (by rw [HTk.out]; exact hi), HML.out hlo i (by rw [HTk.out]; exact hi)]
        have hx2 : ∀ i, ∃ p : Option Addr × Nat, i < T → X i = .slice p.1 dc p.2 ∧ Bytes w5 w5.heap.size p.1 dc (M.getD i []) ∧ NewX w.heap.size (.slice p.1 dc p.2) := fun i => by
          by_cases hi : i < T
          · obtain ⟨⟨A9, k9, e9, y1, y2, y3⟩, y4, y5⟩ := hXr i hi
            rw [hMl i hi] at e9 y1 y3
            rw [e9] at y5
            exact ⟨(A9, k9), fun _ => ⟨e9, y3, y5.mono (hE.trans hDd).le⟩⟩
          · exact ⟨(none, 0), fun h => absurd h hi⟩
        obtain ⟨f2, hf2⟩ := Classical.axiomOfChoice hx2
        obtain ⟨XA, hXA⟩ : ∃ F : Nat → Option Addr, F = fun i => (f2 i).1 := ⟨_, rfl⟩
        obtain ⟨XC, hXC⟩ : ∃ F : Nat → Nat, F = fun i => (f2 i).2 := ⟨_, rfl⟩
        have hXF : ∀ i, i < T → X i = .slice (XA i) dc (XC i) ∧ Bytes w5 w5.heap.size (XA i) dc (M.getD i []) ∧ NewX w.heap.size (.slice (XA i) dc (XC i)) := fun i hi => by rw [hXA, hXC]; exact hf2 i hi
        have hlt5 := World.ownsRow.lt hXo
        rcases hXo.2 with ⟨_, e0⟩ | ⟨gM, cM, curM, eM, _⟩
        · omega
        simp only [Value.slice.injEq] at eM
        obtain ⟨rfl, -, rfl⟩ := eM
        have hgM := hlt5 gM rfl
        have hgMw : w.heap.size ≤ gM := Nat.le_trans (hE.trans hDd).le hgM.1
        have HMc := hide (show ∀ i, i < T → w5.cell? ⟨gM, i, none⟩ = some (.slice (XA i) dc (XC i)) ∧ Bytes w5 w5.heap.size (XA i) dc (M.getD i []) ∧ NewX w.heap.size (.slice (XA i) dc (XC i)) from fun i hi => by
          obtain ⟨y1, y2, y3⟩ := hXF i hi
          refine ⟨?_, y2, y3⟩
          rw [World.ownsRow.cellAt hXo i (by omega), ← y1]
          simp [hi])
        have HPc := hide (show ∀ i, i < T → w5.cell? ⟨gp, i, none⟩ = some (PV i) from fun i hi => by
          have := ((hLst.ext hX5).cell hi).1
          rw [if_pos hi] at this
          exact this)
        have hgp5 : gp < w5.heap.size := (hLst.ext hX5).lt.2
        have hRd0 : Rdr w5 bs rb g k m c T R (fun a' => if a' < 0 then laneM k m c N s (a + d) a' else laneM k m c N s a a') vg (goodL c s (N * T)) := (HR.out.ext hE5w).congr fun i _ => by rw [if_neg (by omega)]
        have hBel0 : Below bs w w5 := Below.mono hE5w hbs
        rcases (HBg.out w _ HR.out).2 with h0 | ⟨bG, oG, hGA2, -, -⟩
        · omega
        subst hGA2
        have HML2 := hide hMl
        have HM3 := hide hM3
        have HTkM := hide (show ∀ i, i < T → (M.getD i []).take dc = laneF d fun j => mnd k m c s (a + j) i from fun i hi => by rw [List.take_of_length_le (by rw [hMl i hi]; exact Nat.le_refl _), hM3 i (by rw [HTk.out]; exact hi)])
        clear hXo hXr hx2 hf2 hXA hXC hXF hlt5 hMl hM3 hN5 hRows hBG hLst hE5w s0 s1 hWr
        go_wp2_with fail
        go_loopw [75] (fun z wr => ∃ i : Nat, i ≤ T ∧ z = .int .i64 (i : Int) ∧ Rdr wr bs rb g k m c T R (fun a' => if a' < i then laneM k m c N s (a + d) a' else laneM k m c N s a a') vg (goodL c s (N * T)) ∧ High w.heap.size w5.heap.size w5 wr ∧ Below bs w wr ∧ w5.heap.size ≤ wr.heap.size ∧ ∀ a', a' < i → (goodS k m c s a (k + m)).getD a' false = true → P.getD a' [] = M.getD a' []) (fun z _ => T - (intOf z).toNat)
        case atStart => exact ⟨0, by omega, rfl, hRd0, High.refl _ _ _, hBel0, Nat.le_refl _, fun a' ha' => absurd ha' (by omega)⟩
        case round =>
          clear hRd0 hBel0
          obtain ⟨i, hi, rfl, hRd, hHi, hBel, hsz, hMt⟩ := hrel
          have HMt := hide hMt
          clear hMt
          by_cases hlt : i < T
          · have hltI : (i : Int) < (T : Int) := by omega
            have hik : i < k + m := by rw [HTk.out]; exact hlt
            obtain ⟨r1, r2, r3, r4, r5⟩ := HFA.out i hlt
            have Hr1 := hide r1
            obtain ⟨m1, m2, m3⟩ := HMc.out i hlt
            have hbM := m2.high m3 hHi hsz
            have cM1 := (hHi.cell (i := i) hgMw hgM.2).trans m1
            have cP1 := (hHi.cell (i := i) hgpw hgp5).trans (HPc.out i hlt)
            rw [HPV.out i] at cP1
            obtain ⟨A9, hA9⟩ : ∃ x, x = cutAt (some ⟨LA i, 0, none⟩) (LC i) ac := ⟨_, rfl⟩
            rw [← hA9] at cP1
            have HD9 := hide hA9
            generalize LC i - ac = k9 at *
            have hOi := hRd.lns.row i hlt
            rw [r1, if_neg (Nat.lt_irrefl i)] at hOi
            have hbP := hOi.bytesR.seg (o := ac) (d := dc) r2 hadc
            have hpi := HPi.out i hlt
            unfold seg at hpi
            rw [← hpi, ← hA9] at hbP
            have hli := HLl.out i hlt
            have hPut := HPut.out hlo i hik
            have hgd := HBg.out wr _ hRd
            rcases hgd.2 with h0 | ⟨bb, oo, e0, -, hgc⟩
            · omega
            simp only [Option.some.injEq, Addr.mk.injEq, and_true] at e0
            obtain ⟨rfl, rfl⟩ := e0
            have cG1 := hgc i hlt
            have CE := bytesEqual_any A9 (XA i) k9 (XC i) (P.getD i []) (M.getD i []) wr (by rw [HPlen.out i hlt]; exact hbP) (by rw [HML2.out i hlt]; exact hbM)
            rw [HPlen.out i hlt, HML2.out i hlt] at CE
            obtain ⟨Pi, hPi⟩ : ∃ x, x = P.getD i [] := ⟨_, rfl⟩
            have HPie := hide hPi
            generalize XA i = XAi at *
            generalize XC i = XCi at *
            clear hgd hgc hpi m1 m2 m3 r1 hA9 hPi
            obtain ⟨wb, rfl⟩ : ∃ W, W = wr := ⟨_, rfl⟩
            by_cases hgi : (goodS k m c s a (k + m)).getD i false = true
            · rw [hgi] at cG1
              have HGi := hide hgi
              by_cases heq : P.getD i [] = M.getD i []
              · rw [decide_eq_true heq] at CE
                have HEq := hide heq
                clear heq hgi
                go_wp2_with fail
                refine CE.mono ?_
                rintro e w6 ⟨rfl, rfl⟩
                clear CE
                go_wp2_with (refine wpList_copyBP rfl (.tmp 93) (.tmp 97) rfl rfl rfl hOi hbM hli hadc r2 HD9.out ?_; intro w7 hO7 hG7 hS7)
                rw [HTkM.out i hlt, hPut] at hO7
                have hR7 := hRd.write hlt (l := laneM k m c N s (a + d) i) (by rw [Hr1.out]; exact hO7) (by rw [Hr1.out]; exact hG7)
                have hR8 := hR7.congr (G := fun a' => if a' < i + 1 then laneM k m c N s (a + d) a' else laneM k m c N s a a') (fun a' _ => by
                  by_cases e : a' = i
                  · rw [e, upd_same, if_pos (by omega)]
                  · rw [upd_other _ _ e]
                    by_cases h : a' < i
                    · rw [if_pos h, if_pos (by omega)]
                    · rw [if_neg h, if_neg (by omega)])
                have hH7 := hHi.grown hG7 r4 hsz
                have hB7 : Below bs w w7 := Below.grown hBel hG7 (Nat.le_trans hbs hBel.size) (fun r e => by cases e; exact r5)
                go_roundw
                case rel => exact ⟨i + 1, by omega, by go_num, hR8, hH7, hB7, by omega, fun a' ha' hga => by
                  by_cases e : a' = i
                  · subst e
                    exact HEq.out
                  · exact HMt.out a' (by omega) hga⟩
                case measure => simp [intOf]; omega
              · rw [decide_eq_false heq] at CE
                have HU := hide (HUn.out M HM3.out i hik hgi heq)
                clear heq hgi
                go_wp2_with fail
                refine CE.mono ?_
                rintro e w6 ⟨rfl, rfl⟩
                go_wp2
                go_ret
                exact ⟨2, rfl, hBel, .inr (.inr ⟨rfl, hlo, HU.out⟩)⟩
            · have hgf : (goodS k m c s a (k + m)).getD i false = false := by simpa using hgi
              rw [hgf] at cG1
              have HGi := hide hgf
              clear hgi hgf CE
              go_wp2_with (refine wpList_copyBP rfl (.tmp 93) (.tmp 97) rfl rfl rfl hOi hbM hli hadc r2 HD9.out ?_; intro w7 hO7 hG7 hS7)
              rw [HTkM.out i hlt, hPut] at hO7
              have hR7 := hRd.write hlt (l := laneM k m c N s (a + d) i) (by rw [Hr1.out]; exact hO7) (by rw [Hr1.out]; exact hG7)
              have hR8 := hR7.congr (G := fun a' => if a' < i + 1 then laneM k m c N s (a + d) a' else laneM k m c N s a a') (fun a' _ => by
                by_cases e : a' = i
                · rw [e, upd_same, if_pos (by omega)]
                · rw [upd_other _ _ e]
                  by_cases h : a' < i
                  · rw [if_pos h, if_pos (by omega)]
                  · rw [if_neg h, if_neg (by omega)])
              have hH7 := hHi.grown hG7 r4 hsz
              have hB7 : Below bs w w7 := Below.grown hBel hG7 (Nat.le_trans hbs hBel.size) (fun r e => by cases e; exact r5)
              go_roundw
              case rel => exact ⟨i + 1, by omega, by go_num, hR8, hH7, hB7, by omega, fun a' ha' hga => by
                by_cases e : a' = i
                · subst e
                  rw [HGi.out] at hga; cases hga
                · exact HMt.out a' (by omega) hga⟩
              case measure => simp [intOf]; omega
          · obtain rfl : T = i := by omega
            have hltI : ¬ (T : Int) < (T : Int) := by omega
            have HFt := hide (HFit.out hlo M HM3.out fun i hi hgi => HMt.out i (by rw [← HTk.out]; exact hi) hgi)
            have hR9 := hRd.congr (G := laneM k m c N s (a + d)) fun a' ha' => by rw [if_pos ha']
            clear hRd
            go_wp2
            go_ret
            exact ⟨0, rfl, hBel, .inl ⟨rfl, hlo, HFt.out, hR9⟩⟩
      · have hM1 := HLo.out (by omega)
        rw [hM1] at CM
        dsimp only at CM
        clear hM1
        go_wp2_with fail
        refine wp_region_T (fun W => Ext wa W) 17 18 #[false, false, false, false, false, false, false, false, false, false, false, false, false, false, false, false, false, false] (by kernel_rfl) rfl rfl (Ext.refl wa).drew ?_
        intro hS0
        refine wpAnyT_take 0 (some 55) (.pointer (some ⟨rb, 0, none⟩)) #[true, false, false, false, false, false, false, false, false, false, false, false, false, false, false, false, false, false] rfl rfl rfl (by kernel_rfl) (fun _ _ _ h => h) hS0 (by rfl) (fun W hX => by go_simp) ?_
        simp only [Act.put, List.setIfInBounds_toArray, List.set_cons_zero, List.set_cons_succ]
        refine wpAnyT_take 1 (some 56) (.pointer (some ⟨rb, 0, none⟩)) #[true, true, false, false, false, false, false, false, false, false, false, false, false, false, false, false, false, false] rfl rfl rfl (by kernel_rfl) (fun _ _ _ h => h) hS0 (by rfl) (fun W hX => by go_simp) ?_
        simp only [Act.put, List.setIfInBounds_toArray, List.set_cons_zero, List.set_cons_succ]
        refine wpAnyT_take 2 (some 57) (.pointer (some ⟨rb, 0, none⟩)) #[true, true, true, false, false, false, false, false, false, false, false, false, false, false, false, false, false, false] rfl rfl rfl (by kernel_rfl) (fun _ _ _ h => h) hS0 (by rfl) (fun W hX => by go_simp) ?_
        simp only [Act.put, List.setIfInBounds_toArray, List.set_cons_zero, List.set_cons_succ]
        refine wpAnyT_take 3 (some 58) (.pointer (some ⟨rb, 0, none⟩)) #[true, true, true, true, false, false, false, false, false, false, false, false, false, false, false, false, false, false] rfl rfl rfl (by kernel_rfl) (fun _ _ _ h => h) hS0 (by rfl) (fun W hX => by go_simp) ?_
        simp only [Act.put, List.setIfInBounds_toArray, List.set_cons_zero, List.set_cons_succ]
        refine wpAnyT_take 4 (some 59) (.int .i64 (k : Int)) #[true, true, true, true, true, false, false, false, false, false, false, false, false, false, false, false, false, false] rfl rfl rfl (by kernel_rfl) (fun _ _ _ h => h) hS0 (by rfl) (fun W hX => by have p := (hWr.ext hX).at 0 (u := .int .i64 (k : Int)) rfl; go_simp) ?_
        simp only [Act.put, List.setIfInBounds_toArray, List.set_cons_zero, List.set_cons_succ]
        refine wpAnyT_take 5 (some 60) (.pointer (some ⟨rb, 0, none⟩)) #[true, true, true, true, true, true, false, false, false, false, false, false, false, false, false, false, false, false] rfl rfl rfl (by kernel_rfl) (fun _ _ _ h => h) hS0 (by rfl) (fun W hX => by go_simp) ?_
        simp only [Act.put, List.setIfInBounds_toArray, List.set_cons_zero, List.set_cons_succ]
        refine wpAnyT_take 6 (some 61) (.pointer (some ⟨rb, 0, none⟩)) #[true, true, true, true, true, true, true, false, false, false, false, false, false, false, false, false, false, false] rfl rfl rfl (by kernel_rfl) (fun _ _ _ h => h) hS0 (by rfl) (fun W hX => by go_simp) ?_
        simp only [Act.put, List.setIfInBounds_toArray, List.set_cons_zero, List.set_cons_succ]
        refine wpAnyT_take 7 (some 62) (.pointer (some ⟨rb, 0, none⟩)) #[true, true, true, true, true, true, true, true, false, false, false, false, false, false, false, false, false, false] rfl rfl rfl (by kernel_rfl) (fun _ _ _ h => h) hS0 (by rfl) (fun W hX => by go_simp) ?_
        simp only [Act.put, List.setIfInBounds_toArray, List.set_cons_zero, List.set_cons_succ]
        refine wpAnyT_take 8 (some 63) (.pointer (some ⟨rb, 1, none⟩)) #[true, true, true, true, true, true, true, true, true, false, false, false, false, false, false, false, false, false] rfl rfl rfl (by kernel_rfl) (fun _ _ _ h => h) hS0 (by rfl) (fun W hX => by go_simp) ?_
        simp only [Act.put, List.setIfInBounds_toArray, List.set_cons_zero, List.set_cons_succ]
        refine wpAnyT_take 9 (some 64) (.int .i64 (m : Int)) #[true, true, true, true, true, true, true, true, true, true, false, false, false, false, false, false, false, false] rfl rfl rfl (by kernel_rfl) (fun _ _ _ h => h) hS0 (by rfl) (fun W hX => by have p := (hWr.ext hX).at 1 (u := .int .i64 (m : Int)) rfl; go_simp) ?_
        simp only [Act.put, List.setIfInBounds_toArray, List.set_cons_zero, List.set_cons_succ]
        refine wpAnyT_take 10 (some 65) (.slice (some ⟨gp, 0, none⟩) T T) #[true, true, true, true, true, true, true, true, true, true, true, false, false, false, false, false, false, false] rfl rfl rfl (by kernel_rfl) (fun _ _ _ h => h) hS0 (by rfl) (fun W hX => by go_simp) ?_
        simp only [Act.put, List.setIfInBounds_toArray, List.set_cons_zero, List.set_cons_succ]
        refine wpAnyT_take 11 (some 66) (.slice GA T GC) #[true, true, true, true, true, true, true, true, true, true, true, true, false, false, false, false, false, false] rfl rfl rfl (by kernel_rfl) (fun _ _ _ h => h) hS0 (by rfl) (fun W hX => by go_simp) ?_
        simp only [Act.put, List.setIfInBounds_toArray, List.set_cons_zero, List.set_cons_succ]
        refine wpAnyT_only 12 #[true, true, true, true, true, true, true, true, true, true, true, true, true, false, false, false, false, false] (by kernel_rfl) rfl rfl (by rfl) (fun K0 hK0 => ?_)
        go_simp
        refine CM.mono ?_
        rintro e w5 ⟨v5, rfl, hN5, hE5⟩
        have hX5 := hS0.trans hE5
        refine hK0 _ _ (fun _ => hX5) ?_
        clear hK0 K0 CM
        obtain ⟨A5, c5, hv5, -, -, -⟩ := hN5.toP.form
        rw [List.length_nil] at hv5
        subst hv5
        refine wpAnyT_take 13 (some 54) (.tuple #[.slice A5 0 c5, .int .i64 12]) #[true, true, true, true, true, true, true, true, true, true, true, true, true, true, false, false, false, false] rfl rfl rfl (by kernel_rfl) (fun _ _ _ h => h) hX5 (by rfl) (fun W hX => by go_simp) ?_
        simp only [Act.put, List.setIfInBounds_toArray, List.set_cons_zero, List.set_cons_succ]
        refine wpAnyT_take 14 (some 68) (.slice A5 0 c5) #[true, true, true, true, true, true, true, true, true, true, true, true, true, true, true, false, false, false] rfl rfl rfl (by kernel_rfl) (fun _ _ _ h => h) hX5 (by rfl) (fun W hX => by go_simp) ?_
        simp only [Act.put, List.setIfInBounds_toArray, List.set_cons_zero, List.set_cons_succ]
        refine wpAnyT_take 15 (some 69) (.int .i64 12) #[true, true, true, true, true, true, true, true, true, true, true, true, true, true, true, true, false, false] rfl rfl rfl (by kernel_rfl) (fun _ _ _ h => h) hX5 (by rfl) (fun W hX => by go_simp) ?_
        simp only [Act.put, List.setIfInBounds_toArray, List.set_cons_zero, List.set_cons_succ]
        refine wpAnyT_only 16 #[true, true, true, true, true, true, true, true, true, true, true, true, true, true, true, true, true, false] (by kernel_rfl) rfl rfl (by rfl) (fun K1 hK1 => ?_)
        go_simp
        refine hK1 _ _ (fun _ => hX5) ?_
        clear hK1 K1
        refine wpAnyT_only 17 #[true, true, true, true, true, true, true, true, true, true, true, true, true, true, true, true, true, true] (by kernel_rfl) rfl rfl (by rfl) (fun K0 hK0 => ?_)
        go_simp
        refine hK0 _ _ (fun h => absurd h (by decide)) (wpAnyT_done (by kernel_rfl) ?_ _)
        clear hK0 K0
        go_wp2
        go_ret
        exact ⟨12, rfl, Below.mono (hE.trans hX5) hbs, .inr (.inl ⟨rfl, by omega⟩)⟩
end Go.Proofs.YtkfipfhmbhmamaaDoor

namespace Go.Proofs.YtkfipfhmbhmamaaDoor
open Go.RowKit Stp

/-- What mend tells. -/
def MendTo23 (w : World) (bs rb g k m c T N : Nat) (R : Nat → Value) (vg : Value) (s : List UInt8) (e : Ending) (w' : World) : Prop :=
  ∃ er : Int, e = .returned (.int .i64 er) ∧ Below bs w w' ∧ ((er = 0 ∧ (Stp.readTo k m c s N).2 = 0 ∧ (∀ j, j < N → lostS k m c s j (k + m) ≤ m) ∧ Rdr w' bs rb g k m c T R (laneM k m c N s N) vg (goodL c s (N * T))) ∨ (er ≠ 0 ∧ (Stp.readTo k m c s N).2 = er))

set_option maxHeartbeats 16000000 in
set_option maxRecDepth 100000 in
theorem sMend_any {bs rb g k m c T N : Nat} {R : Nat → Value} {vg : Value} {s : List UInt8} {w : World} (h : Rdr w bs rb g k m c T R (laneM k m c N s 0) vg (goodL c s (N * T))) (hbs : bs ≤ w.heap.size) (hk : 1 ≤ k) (hkm : k + m ≤ 255) (hT : k + m = T) (hc : 1 ≤ c) (hc2 : c ≤ 4096) (hs : s.length = N * (k + m) * (c + 4)) (hs2 : s.length ≤ 20000) :
    Calls Tryd.prog 31 #[.pointer (some ⟨rb, 0, none⟩)] w (MendTo23 w bs rb g k m c T N R vg s) := by
  have hNT : N * T * (c + 4) ≤ 20000 := by rw [← hT, ← hs]; exact hs2
  have hT1 : 1 ≤ T := by omega
  have hT2 : T ≤ 255 := by omega
  have hNT2 : N * T ≤ 20000 := Nat.le_trans (Nat.le_mul_of_pos_right _ (by omega)) hNT
  have hN2 : N ≤ 20000 := Nat.le_trans (Nat.le_mul_of_pos_right _ hT1) hNT2
  have CP := fun W => sParts_any hT hT2 (c : Int) W
  obtain ⟨AG, cG, hvg, hcG, -⟩ := h.good.form
  rw [goodL_len] at hvg hcG
  subst hvg
  have HGO := hide (fun (W : World) (F : Nat → List UInt8) (hr : Rdr W bs rb g k m c T R F (.slice AG (N * T) cG) (goodL c s (N * T))) (j : Nat) (hj : j < N) => show Calls Tryd.prog 53 #[.pointer (some ⟨rb, 0, none⟩), .int .i64 (j : Int)] W (fun e w' => e = .returned (.slice (cutAt AG cG (j * T)) T (cG - j * T)) ∧ Ext W w') ∧ BoolsAt W W.heap.size (cutAt AG cG (j * T)) T (goodS k m c s j (k + m)) by
    have haT : j * T + T ≤ N * T := by rw [← Nat.succ_mul]; exact Nat.mul_le_mul_right _ hj
    refine ⟨sGoodOf_any hr.wr hT hT2 haT (by omega) hcG, ?_⟩
    obtain ⟨A1, c1, e1, e2, e3⟩ := hr.good.form
    rw [goodL_len] at e1 e2 e3
    simp only [Value.slice.injEq] at e1
    obtain ⟨rfl, _, rfl⟩ := e1
    have h1 := e3.cut (o := j * T) (d := T) e2 haT
    rw [← hT, goods_part hj] at h1
    rw [← hT]
    exact h1)
  have HRun := hide (fun (W : World) (a d : Nat) (hr : Rdr W bs rb g k m c T R (laneM k m c N s a) (.slice AG (N * T) cG) (goodL c s (N * T))) (hb : bs ≤ W.heap.size) had hd hl hg => sMendRun_any (a := a) (d := d) hr hb hk hkm hT hc hc2 hs hs2 had hd hl hg)
  have HTk := hide hT
  obtain ⟨Nt, hNt⟩ : ∃ x, x = N * T := ⟨_, rfl⟩
  have hquo : (Nt : Int).tdiv (T : Int) = (N : Int) := by
    rw [Int.tdiv_eq_ediv_of_nonneg (by omega), ← Int.natCast_ediv, hNt, Nat.mul_div_cancel _ (by omega)]
  have HNt := hide hNt
  have HR := hide h
  have hW := h.wr
  have hN9 : (N : Int) ≤ 20000 := by omega
  have hTn : ¬ T = 0 := by omega
  have x1 : IntKind.i64.wrap (N : Int) = (N : Int) := by rw [IntKind.wrap_i64]; omega
  rw [← hNt] at hW
  unfold shpV at CP
  clear h hT hs hs2 hNT hNt hNT2 hcG
  go_enter Tryd.func31, Tryd.ntmps31
  go_wp2_with fail
  refine wp_region_T (fun W => Ext w W) 11 12 #[false, false, false, false, false, false, false, false, false, false, false, false] (by kernel_rfl) rfl rfl (Ext.refl w).drew ?_
  intro hS0
  refine wpAnyT_take 0 (some 7) (.pointer (some ⟨rb, 0, none⟩)) #[true, false, false, false, false, false, false, false, false, false, false, false] rfl rfl rfl (by kernel_rfl) (fun _ _ _ h => h) hS0 (by rfl) (fun W hX => by go_simp) ?_
  simp only [Act.put, List.setIfInBounds_toArray, List.set_cons_zero, List.set_cons_succ]
  refine wpAnyT_take 1 (some 8) (.pointer (some ⟨rb, 0, none⟩)) #[true, true, false, false, false, false, false, false, false, false, false, false] rfl rfl rfl (by kernel_rfl) (fun _ _ _ h => h) hS0 (by rfl) (fun W hX => by go_simp) ?_
  simp only [Act.put, List.setIfInBounds_toArray, List.set_cons_zero, List.set_cons_succ]
  refine wpAnyT_take 2 (some 9) (.pointer (some ⟨rb, 4, none⟩)) #[true, true, true, false, false, false, false, false, false, false, false, false] rfl rfl rfl (by kernel_rfl) (fun _ _ _ h => h) hS0 (by rfl) (fun W hX => by go_simp) ?_
  simp only [Act.put, List.setIfInBounds_toArray, List.set_cons_zero, List.set_cons_succ]
  refine wpAnyT_take 3 (some 10) (.slice AG Nt cG) #[true, true, true, true, false, false, false, false, false, false, false, false] rfl rfl rfl (by kernel_rfl) (fun _ _ _ h => h) hS0 (by rfl) (fun W hX => by have p := (hW.ext hX).at 4 (u := .slice AG Nt cG) rfl; go_simp) ?_
  simp only [Act.put, List.setIfInBounds_toArray, List.set_cons_zero, List.set_cons_succ]
  refine wpAnyT_take 4 (some 11) (.int .i64 (Nt : Int)) #[true, true, true, true, true, false, false, false, false, false, false, false] rfl rfl rfl (by kernel_rfl) (fun _ _ _ h => h) hS0 (by rfl) (fun W hX => by go_simp) ?_
  simp only [Act.put, List.setIfInBounds_toArray, List.set_cons_zero, List.set_cons_succ]
  refine wpAnyT_take 5 (some 12) (.pointer (some ⟨rb, 0, none⟩)) #[true, true, true, true, true, true, false, false, false, false, false, false] rfl rfl rfl (by kernel_rfl) (fun _ _ _ h => h) hS0 (by rfl) (fun W hX => by go_simp) ?_
  simp only [Act.put, List.setIfInBounds_toArray, List.set_cons_zero, List.set_cons_succ]
  refine wpAnyT_take 6 (some 13) (.pointer (some ⟨rb, 0, none⟩)) #[true, true, true, true, true, true, true, false, false, false, false, false] rfl rfl rfl (by kernel_rfl) (fun _ _ _ h => h) hS0 (by rfl) (fun W hX => by go_simp) ?_
  simp only [Act.put, List.setIfInBounds_toArray, List.set_cons_zero, List.set_cons_succ]
  refine wpAnyT_take 7 (some 14) (.pointer (some ⟨rb, 0, none⟩)) #[true, true, true, true, true, true, true, true, false, false, false, false] rfl rfl rfl (by kernel_rfl) (fun _ _ _ h => h) hS0 (by rfl) (fun W hX => by go_simp) ?_
  simp only [Act.put, List.setIfInBounds_toArray, List.set_cons_zero, List.set_cons_succ]
  refine wpAnyT_take 8 (some 15) (.agg #[.int .i64 (k : Int), .int .i64 (m : Int), .int .i64 (c : Int)]) #[true, true, true, true, true, true, true, true, true, false, false, false] rfl rfl rfl (by kernel_rfl) (fun _ _ _ h => h) hS0 (by rfl) (fun W hX => by exact exec_load_mid 50 (.tmp 14) rfl rb 0 rfl [.int .i64 (k : Int), .int .i64 (m : Int), .int .i64 (c : Int)] (whole_range35 (hW.ext hX)) Tryd.underlying50 rfl shp_info) ?_
  simp only [Act.put, List.setIfInBounds_toArray, List.set_cons_zero, List.set_cons_succ]
  refine wpAnyT_only 9 #[true, true, true, true, true, true, true, true, true, true, false, false] (by kernel_rfl) rfl rfl (by rfl) (fun K0 hK0 => ?_)
  go_simp
  go_at_call 39
  refine (CP _).mono ?_
  rintro e wc0 ⟨rfl, hC0⟩
  have hX0 := hS0.trans hC0
  refine hK0 _ _ (fun _ => hX0) ?_
  clear hK0 K0
  refine wpAnyT_take 10 (some 17) (.int .i64 (N : Int)) #[true, true, true, true, true, true, true, true, true, true, true, false] rfl rfl rfl (by kernel_rfl) (fun _ _ _ h => h) hX0 (by rfl) (fun W hX => by go_simp) ?_
  simp only [Act.put, List.setIfInBounds_toArray, List.set_cons_zero, List.set_cons_succ]
  refine wpAnyT_only 11 #[true, true, true, true, true, true, true, true, true, true, true, true] (by kernel_rfl) rfl rfl (by rfl) (fun K1 hK1 => ?_)
  go_simp
  refine hK1 _ _ (fun h => absurd h (by decide)) (wpAnyT_done (by kernel_rfl) ?_ _)
  clear hK1 K1
  have hRc := HR.out.ext hX0
  have hBc : Below bs w wc0 := Below.mono hX0 hbs
  clear hC0 hX0 hS0 hquo CP hW
  go_wp2_with fail
  go_loopw [4] (fun z wr => ∃ a : Nat, a ≤ N ∧ z = .int .i64 (a : Int) ∧ Rdr wr bs rb g k m c T R (laneM k m c N s a) (.slice AG (N * T) cG) (goodL c s (N * T)) ∧ Below bs w wr ∧ (Stp.readTo k m c s a).2 = 0 ∧ ∀ j, j < a → lostS k m c s j (k + m) ≤ m) (fun z _ => N - (intOf z).toNat)
  case atStart => exact ⟨0, by omega, rfl, hRc, hBc, by rw [readTo_zero], fun j hj => absurd hj (by omega)⟩
  case round =>
    clear hRc hBc
    obtain ⟨a, ha, rfl, hRa, hBel, h0, hl⟩ := hrel
    by_cases hlt : a < N
    · have hltI : (a : Int) < (N : Int) := by omega
      obtain ⟨wa, rfl⟩ : ∃ W, W = wr := ⟨_, rfl⟩
      have hbw : bs ≤ wa.heap.size := Nat.le_trans hbs hBel.size
      go_wp2_with fail
      go_loopw [5] (fun z wr => ∃ d to : Nat, z = .int .i64 (to : Int) ∧ to = a + d ∧ 1 ≤ d ∧ a + d ≤ N ∧ (∀ j, j < d → goodS k m c s (a + j) (k + m) = goodS k m c s a (k + m)) ∧ Ext wa wr) (fun z _ => N - (intOf z).toNat)
      case atStart => exact ⟨1, a + 1, by go_num, rfl, by omega, by omega, fun j hj => by rw [show j = 0 by omega, Nat.add_zero], Ext.refl _⟩
      case round =>
        obtain ⟨d, to, rfl, hto, hd1, hadN, hgs, hEi⟩ := hrel
        have HTo := hide hto
        have hRi := hRa.ext hEi
        by_cases hlt2 : to < N
        · have hlt2I : (to : Int) < (N : Int) := by omega
          obtain ⟨CE1, HGa⟩ := HGO.out wr _ hRi to hlt2
          obtain ⟨-, HGb⟩ := HGO.out wr _ hRi a hlt
          have CE2 := fun W (hE : Ext wr W) => (HGO.out W _ (hRi.ext hE) a hlt).1
          have CE3 := fun W (hE : Ext wr W) => sEqBl_any (cutAt AG cG (to * T)) (cutAt AG cG (a * T)) T (cG - to * T) (cG - a * T) _ _ W (HGa.ext hE) (HGb.ext hE) (by omega)
          have HNx := hide (show goodS k m c s to (k + m) = goodS k m c s a (k + m) → ∀ j, j < d + 1 → goodS k m c s (a + j) (k + m) = goodS k m c s a (k + m) from fun he j hj => by
            by_cases e : j = d
            · rw [e, ← HTo.out]; exact he
            · exact hgs j (by omega))
          obtain ⟨y1, hy1⟩ : ∃ x, x = cutAt AG cG (to * T) := ⟨_, rfl⟩
          obtain ⟨y2, hy2⟩ : ∃ x, x = cutAt AG cG (a * T) := ⟨_, rfl⟩
          obtain ⟨y3, hy3⟩ : ∃ x, x = cG - to * T := ⟨_, rfl⟩
          obtain ⟨y4, hy4⟩ : ∃ x, x = cG - a * T := ⟨_, rfl⟩
          rw [← hy1, ← hy3] at CE1
          rw [← hy2, ← hy4] at CE2
          rw [← hy1, ← hy2, ← hy3, ← hy4] at CE3
          clear hy1 hy2 hy3 hy4 hto
          by_cases he : goodS k m c s to (k + m) = goodS k m c s a (k + m)
          · simp only [decide_eq_true he] at CE3
            have HNy := hide (HNx.out he)
            clear he
            obtain ⟨wb, rfl⟩ : ∃ W, W = wr := ⟨_, rfl⟩
            go_wp2_with fail
            refine CE1.mono ?_
            rintro e w1 ⟨rfl, hE1⟩
            have CE21 := CE2 w1 hE1
            go_wp2_with fail
            refine CE21.mono ?_
            rintro e w2 ⟨rfl, hE2⟩
            have CE31 := CE3 w2 (hE1.trans hE2)
            go_wp2_with fail
            refine CE31.mono ?_
            rintro e w3 ⟨rfl, hE3⟩
            have hE03 := hEi.trans ((hE1.trans hE2).trans hE3)
            clear CE1 CE2 CE3 CE21 CE31 HGa HGb
            go_wp2
            go_roundw
            case rel => exact ⟨d + 1, to + 1, by go_num, by rw [HTo.out, Nat.add_assoc], by omega, by have := HTo.out; omega, HNy.out, hE03⟩
            case measure => simp [intOf]; omega
          · simp only [decide_eq_false he] at CE3
            clear he HNx
            obtain ⟨wb, hwb⟩ : ∃ W, W = wr := ⟨_, rfl⟩
            go_wp2_with fail
            refine CE1.mono ?_
            rintro e w1 ⟨rfl, hE1⟩
            have CE21 := CE2 w1 hE1
            go_wp2_with fail
            refine CE21.mono ?_
            rintro e w2 ⟨rfl, hE2⟩
            have CE31 := CE3 w2 (hE1.trans hE2)
            go_wp2_with fail
            refine CE31.mono ?_
            rintro e w3 ⟨rfl, hE3⟩
            have hE03 := (hE1.trans hE2).trans hE3
            replace hEi := hEi.trans hE03
            replace hRi := hRi.ext hE03
            clear CE1 CE2 CE3 CE21 CE31 HGa HGb hwb
            have C := HRun.out w3 a d hRi (Nat.le_trans hbw hEi.le) hadN hd1 hl hgs
            rw [← HTo.out] at C
            go_wp2_with fail
            refine C.mono ?_
            rintro e w7 ⟨er, rfl, hB7, hcase⟩
            have hB07 : Below bs w w7 := Below.trans (Below.trans hBel (Below.mono hEi hbw)) hB7
            rcases hcase with ⟨rfl, hlo, hfit, hR7⟩ | ⟨rfl, hlo⟩ | ⟨rfl, hlo, hun⟩
            · have hl2 : ∀ j, j < a + d → lostS k m c s j (k + m) ≤ m := fun j hj => by
                by_cases h1 : j < a
                · exact hl j h1
                · have h2 := good_lost k m c s (hgs (j - a) (by omega))
                  rw [show a + (j - a) = j by omega] at h2
                  rw [h2]
                  exact hlo
              have h02 := readTo_run h0 d fun j hj => ⟨hl2 (a + j) (by omega), hfit j hj⟩
              have HL2 := hide hl2
              have HTo2 := hide HTo.out
              go_wp2
              go_roundw
              case rel => exact ⟨a + d, by omega, by rw [HTo2.out], hR7, hB07, h02, HL2.out⟩
              case measure => simp [intOf]; have := HTo2.out; omega
            · have hr := readTo_lost h0 hlo (t := N) (by omega)
              go_wp2
              go_ret
              exact ⟨12, rfl, hB07, .inr ⟨by simp, hr⟩⟩
            · have hr := readTo_unfit h0 d (fun j hj => by rw [good_lost k m c s (hgs j hj)]; exact hlo) hun N hadN
              go_wp2
              go_ret
              exact ⟨2, rfl, hB07, .inr ⟨by simp, hr⟩⟩
        · have hlt2I : ¬ (to : Int) < (N : Int) := by omega
          clear hto
          have C := HRun.out wr a d hRi (Nat.le_trans hbw hEi.le) hadN hd1 hl hgs
          rw [← HTo.out] at C
          go_wp2_with fail
          refine C.mono ?_
          rintro e w7 ⟨er, rfl, hB7, hcase⟩
          have hB07 : Below bs w w7 := Below.trans (Below.trans hBel (Below.mono hEi hbw)) hB7
          rcases hcase with ⟨rfl, hlo, hfit, hR7⟩ | ⟨rfl, hlo⟩ | ⟨rfl, hlo, hun⟩
          · have hl2 : ∀ j, j < a + d → lostS k m c s j (k + m) ≤ m := fun j hj => by
              by_cases h1 : j < a
              · exact hl j h1
              · have h2 := good_lost k m c s (hgs (j - a) (by omega))
                rw [show a + (j - a) = j by omega] at h2
                rw [h2]
                exact hlo
            have h02 := readTo_run h0 d fun j hj => ⟨hl2 (a + j) (by omega), hfit j hj⟩
            have HL2 := hide hl2
            have HTo2 := hide HTo.out
            go_wp2
            go_roundw
            case rel => exact ⟨a + d, by omega, by rw [HTo2.out], hR7, hB07, h02, HL2.out⟩
            case measure => simp [intOf]; have := HTo2.out; omega
          · have hr := readTo_lost h0 hlo (t := N) (by omega)
            go_wp2
            go_ret
            exact ⟨12, rfl, hB07, .inr ⟨by simp, hr⟩⟩
          · have hr := readTo_unfit h0 d (fun j hj => by rw [good_lost k m c s (hgs j hj)]; exact hlo) hun N hadN
            go_wp2
            go_ret
            exact ⟨2, rfl, hB07, .inr ⟨by simp, hr⟩⟩
    · obtain rfl : N = a := by omega
      have hltI : ¬ (N : Int) < (N : Int) := by omega
      clear hlt
      go_wp2
      go_ret
      exact ⟨0, rfl, hBel, .inl ⟨rfl, h0, hl, hRa⟩⟩
end Go.Proofs.YtkfipfhmbhmamaaDoor

namespace Go.Proofs.YtkfipfhmbhmamaaDoor
open Go.RowKit Stp

theorem badL_is {c : Nat} {s : List UInt8} (q : Nat) : badL (goodL c s q) q = badQ c s q := by
  unfold badL badQ badN
  rw [filter_congr_range (q := fun x => !goodQ c s x) fun x hx => by rw [goodL_at hx]]

set_option maxHeartbeats 16000000 in
set_option maxRecDepth 100000 in
theorem sRead_any (k m c n : Int) (A : Option Addr) (ns cap : Nat) (s : List UInt8) (w : World) (hk64 : k ≤ 9223372036854775807) (ht : Tab w) (hb : Bytes w w.heap.size A ns s) (hcap : ns ≤ cap) (hcm : cap ≤ maxLen) (hm4 : ns ≤ 20000) :
    Calls Tryd.prog 15 #[.int .i64 k, .int .i64 m, .int .i64 c, .int .i64 n, .slice A ns cap] w (RdTo23 w (readE k m c n s)) := by
  have hsl := hb.1
  have CS := fun W => sSize_any k m c n W hk64
  by_cases he : (sizeE k m c n).2 = 0
  rotate_left
  · have HR := hide (readE_err (s := s) he)
    have hne : ((sizeE k m c n).2 == 0) = false := by rw [beq_eq_false_iff_ne]; exact he
    generalize (sizeE k m c n).1 = z at *
    generalize (sizeE k m c n).2 = er at *
    clear hb hsl hk64 he ht hcm
    go_enter Tryd.func15, Tryd.ntmps15
    go_wp2_with fail
    refine (CS _).mono ?_
    rintro e w2 ⟨rfl, hE2⟩
    go_wp2
    go_ret3
    exact rd_nil HR.out hE2
  by_cases hs1 : (ns : Int) < (sizeE k m c n).1
  · have HR := hide (readE_short (s := s) he (by rw [hsl]; exact hs1))
    rw [he] at CS
    generalize (sizeE k m c n).1 = z at *
    clear hb hsl hk64 he ht hcm
    go_enter Tryd.func15, Tryd.ntmps15
    go_wp2_with fail
    refine (CS _).mono ?_
    rintro e w2 ⟨rfl, hE2⟩
    go_wp2
    go_ret3
    exact rd_nil HR.out hE2
  by_cases hs2 : (sizeE k m c n).1 < (ns : Int)
  · have HR := hide (readE_long (s := s) he (by rw [hsl]; exact hs2))
    rw [he] at CS
    generalize (sizeE k m c n).1 = z at *
    clear hb hsl hk64 he ht hcm
    go_enter Tryd.func15, Tryd.ntmps15
    go_wp2_with fail
    refine (CS _).mono ?_
    rintro e w2 ⟨rfl, hE2⟩
    go_wp2
    go_ret3
    exact rd_nil HR.out hE2
  obtain ⟨⟨⟨a1, a2, a3, a4⟩, b1, b2, b3, b4⟩, hz1⟩ := size_facts he
  obtain ⟨k, rfl⟩ := Int.eq_ofNat_of_zero_le (show 0 ≤ k by omega)
  obtain ⟨m, rfl⟩ := Int.eq_ofNat_of_zero_le (show 0 ≤ m by omega)
  obtain ⟨c, rfl⟩ := Int.eq_ofNat_of_zero_le (show 0 ≤ c by omega)
  obtain ⟨n, rfl⟩ := Int.eq_ofNat_of_zero_le b3
  simp only [Int.toNat_natCast] at hz1
  have hz2 : sizeE k m c n = (((sizeN k m c n : Nat) : Int), 0) := Prod.ext hz1 he
  have hns : ns = sizeN k m c n := by omega
  have hsz : s.length = sizeN k m c n := by omega
  have hk1 : 1 ≤ k := by omega
  have hkm : k + m ≤ 255 := by omega
  have hc1 : 1 ≤ c := by omega
  have hc2 : c ≤ 4096 := by omega
  have hroom := (stripes_room k c n (Nat.mul_pos hk1 hc1)).1
  have HFail := hide (fun h1 => readE_fail (k := k) (m := m) (c := c) (n := n) (s := s) hz2 hsz h1)
  have HEnd := hide (fun h1 => readE_end (k := k) (m := m) (c := c) (n := n) (s := s) hz2 hsz h1)
  rw [hz2] at CS
  dsimp only at CS
  rw [← hns] at CS
  obtain ⟨N, hN⟩ : ∃ N, N = stripesN k c n := ⟨_, rfl⟩
  have hsN : s.length = N * (k + m) * (c + 4) := by rw [hsz, hN]; rfl
  obtain ⟨T, hT⟩ : ∃ T, k + m = T := ⟨_, rfl⟩
  have hnsN : ns = N * T * (c + 4) := by rw [← hsl, hsN, hT]
  have HAllD := hide (fun h => dataQ_all (N := N) (s := s) hk1 hkm hsN N (Nat.le_refl _) h)
  have HSeg := hide (fun hl i j hi hj => laneM_seg (N := N) (s := s) (i := i) (j := j) hk1 hkm hsN hl hi hj)
  have HLn := hide (fun (hl : ∀ j, j < N → lostS k m c s j (k + m) ≤ m) i hi => laneM_len (N := N) (a := N) (i := i) hk1 hkm hsN (fun j hj => hl j hj) hi)
  rw [← hN] at HFail HEnd hroom
  have hNk : N * k * c ≤ 20000 := by
    have h1 : N * k * c ≤ N * T * (c + 4) := Nat.mul_le_mul (Nat.mul_le_mul_left _ (by omega)) (by omega)
    omega
  have hn2 : n ≤ N * k * c := by rw [Nat.mul_assoc]; exact hroom
  have CRo := fun W hW hTb => sReaderOf_any (N := N) A cap s W hk1 hkm hT hc1 hc2 hnsN hm4 hW hcap hcm hTb
  have HM := hide (fun (W : World) bs rb g R vg (h : Rdr W bs rb g k m c T R (laneM k m c N s 0) vg (goodL c s (N * T))) hbs => sMend_any h hbs hk1 hkm hT hc1 hc2 hsN (by omega))
  have HB := hide hb
  have hTab := hide (fun W (hE : Ext w W) => hE.tab ht ht.pos)
  have HTk := hide hT
  have HCm := hide hcm
  have hkT : k ≤ T := by omega
  have hT2 : T ≤ 255 := by omega
  have hNT : N * T ≤ 20000 := Nat.le_trans (Nat.le_mul_of_pos_right _ (show 0 < c + 4 by omega)) (by omega)
  generalize readE (k : Int) (m : Int) (c : Int) (n : Int) s = res at *
  clear hb hsl hk64 he hs1 hs2 hz1 hz2 hns hsz hroom hN hsN hT hnsN ht hcm a1 a2 a3 a4 b1 b2 b3
  go_enter Tryd.func15, Tryd.ntmps15
  go_wp2_with fail
  refine (CS _).mono ?_
  rintro e w1 ⟨rfl, hE1⟩
  have CR1 := CRo w1 (hE1.bytes HB.out) (hTab.out w1 hE1)
  unfold shpV at CR1
  clear CS CRo
  go_wp2_with fail
  refine CR1.mono ?_
  rintro e w2 ⟨rb, g, R, vg, rfl, hrb, hR2, hE2⟩
  have hR2' : Rdr w2 w1.heap.size rb g k m c T R (laneM k m c N s 0) vg (goodL c s (N * T)) := hR2.congr fun i _ => by rw [laneM_zero, HTk.out]
  have C3 := HM.out w2 _ rb g R vg hR2' hE2.le
  clear CR1 hR2 hR2'
  go_wp2_with fail
  refine C3.mono ?_
  rintro e w3 ⟨er, rfl, hB3, hcase⟩
  have hF3 : Ext w w3 := Below.trans (hE1.trans hE2) (Below.mono hB3 hE1.le)
  clear C3
  rcases hcase with ⟨rfl, h0, hl, hR3⟩ | ⟨her, h0⟩
  rotate_left
  · have hHF := HFail.out (by rw [h0]; exact her)
    rw [h0] at hHF
    have HF := hide hHF
    have hne : (er == 0) = false := by rw [beq_eq_false_iff_ne]; exact her
    clear her h0 hHF
    go_wp2
    go_ret3
    exact rd_nil HF.out hF3
  have CD := sData_any (N := N) hR3 hk1 hkT hT2 hc1 hc2 (fun i hi => HLn.out hl i (by omega)) hNk
  have hdq : (laneF (N * k) fun q => seg (q / k * c) c (laneM k m c N s N (q % k))) = (Stp.readTo k m c s N).1 := by
    rw [← HAllD.out h0]
    unfold dataQ
    refine lane_congr fun q hq => ?_
    exact HSeg.out hl _ _ (by have := Nat.mod_lt q (show k > 0 by omega); omega) (Nat.div_lt_of_lt_mul (by rw [Nat.mul_comm]; exact hq))
  have hll : (laneF (N * k) fun q => seg (q / k * c) c (laneM k m c N s N (q % k))).length = N * k * c := lane_len _ fun q hq => by
    have h1 : q % k < k + m := by have := Nat.mod_lt q (show k > 0 by omega); omega
    have h2 : q / k < N := Nat.div_lt_of_lt_mul (by rw [Nat.mul_comm]; exact hq)
    have h3 := HLn.out hl _ h1
    unfold seg
    rw [List.length_take, List.length_drop, h3]
    have h4 : q / k * c + c ≤ N * c := by rw [← Nat.succ_mul]; exact Nat.mul_le_mul_right _ h2
    omega
  rw [hdq] at CD hll
  have hEnd := HEnd.out h0
  rw [HTk.out] at hEnd
  obtain ⟨AG, cG, hvg, hcG, hBG⟩ := hR3.good.form
  rw [goodL_len] at hvg hcG hBG
  subst hvg
  have hWr := hR3.wr
  have HBd := hide (badL_is (c := c) (s := s) (N * T))
  generalize (Stp.readTo k m c s N).1 = X at *
  obtain ⟨Ln, hLn⟩ : ∃ x, x = N * k * c := ⟨_, rfl⟩
  rw [← hLn] at hll hn2 hNk
  have HXl := hide hll
  have HRs := hide hEnd
  clear hdq hl h0 HSeg HLn HAllD HFail HEnd HM hR3 hLn hEnd
  go_wp2_with fail
  refine CD.mono ?_
  rintro e w4 ⟨v4, rfl, hO4, hE4⟩
  obtain ⟨A4, c4, hv4, hl4, hm4', hb4⟩ := hO4.form
  rw [hll] at hv4 hl4 hb4
  subst hv4
  have hF4 := hF3.trans hE4
  have CC := sContainsB_any (cutAt A4 c4 n) (Ln - n) (c4 - n) (X.drop n) w4 (hb4.drop hn2 hl4) (by unfold maxLen; omega)
  have hpd : (X.drop n).all (fun x => x == 0) = padded X n := rfl
  rw [hpd] at CC
  have hRC := fun W => run_cut W A4 Ln c4 .i64 (n : Int) (by omega) (by omega)
  simp only [Int.toNat_natCast] at hRC
  obtain ⟨y1, hy1⟩ : ∃ x, x = cutAt A4 c4 n := ⟨_, rfl⟩
  obtain ⟨y2, hy2⟩ : ∃ x, x = Ln - n := ⟨_, rfl⟩
  obtain ⟨y3, hy3⟩ : ∃ x, x = c4 - n := ⟨_, rfl⟩
  rw [← hy1, ← hy2, ← hy3] at CC hRC
  have HRC := hide hRC
  have hWr4 := hWr.ext hE4
  have hBG4 := hBG.ext hE4
  clear CD hll hy1 hy2 hy3 hWr hBG hpd hRC hO4
  have hRCl := HRC.out
  by_cases hp : padded X n = true
  · rw [if_pos hp] at HRs
    rw [hp] at CC
    clear hp
    go_wp2_with fail
    refine CC.mono ?_
    rintro e w5 ⟨rfl, hE5⟩
    have hF5 := hF4.trans hE5
    have hWr5 := hWr4.ext hE5
    have hBG5 := hBG4.ext hE5
    have hD5 := (Ext.refl w5).drew
    have CB := sBad_any (hWr5.ext hD5) (hBG5.ext hD5) (by omega)
    rw [HBd.out] at CB
    have hb5 := (hE5.bytes hb4).take hn2
    have hR2 := fun W => run_headB W A4 Ln c4 .i64 (n : Int) (by omega) (by omega)
    simp only [Int.toNat_natCast, cutAt_zeroB] at hR2
    have HR2 := hide hR2
    clear CC hR2 hRCl HRC hBG4 hWr4
    go_wp2_with fail
    refine wp_region_T (fun W => Ext w5 W) 7 8 #[false, false, false, false, false, false, false, false] (by kernel_rfl) rfl rfl (Ext.refl w5).drew ?_
    intro hS0
    refine wpAnyT_take 0 (some 57) (.slice A4 Ln c4) #[true, false, false, false, false, false, false, false] rfl rfl rfl (by kernel_rfl) (fun _ _ _ h => h) hS0 (by rfl) (fun W hX => by go_simp) ?_
    simp only [Act.put, List.setIfInBounds_toArray, List.set_cons_zero, List.set_cons_succ]
    refine wpAnyT_take 1 (some 58) (.int .i64 (n : Int)) #[true, true, false, false, false, false, false, false] rfl rfl rfl (by kernel_rfl) (fun _ _ _ h => h) hS0 (by rfl) (fun W hX => by go_simp) ?_
    simp only [Act.put, List.setIfInBounds_toArray, List.set_cons_zero, List.set_cons_succ]
    refine wpAnyT_take 2 (some 59) (.slice A4 n c4) #[true, true, true, false, false, false, false, false] rfl rfl rfl (by kernel_rfl) (fun _ _ _ h => h) hS0 (by rfl) (fun W hX => by have hr := HR2.out W; go_simp) ?_
    simp only [Act.put, List.setIfInBounds_toArray, List.set_cons_zero, List.set_cons_succ]
    refine wpAnyT_take 3 (some 60) (.pointer (some ⟨rb, 0, none⟩)) #[true, true, true, true, false, false, false, false] rfl rfl rfl (by kernel_rfl) (fun _ _ _ h => h) hS0 (by rfl) (fun W hX => by go_simp) ?_
    simp only [Act.put, List.setIfInBounds_toArray, List.set_cons_zero, List.set_cons_succ]
    refine wpAnyT_only 4 #[true, true, true, true, true, false, false, false] (by kernel_rfl) rfl rfl (by rfl) (fun K0 hK0 => ?_)
    go_simp
    refine CB.mono ?_
    rintro e w6 ⟨v6, rfl, hO6, hE6⟩
    have hX6 := hS0.trans hE6
    refine hK0 _ _ (fun _ => hX6) ?_
    clear hK0 K0 CB
    obtain ⟨B6, c6, hv6, -, hI6⟩ := hO6.form2 (n := (badQ c s (N * T)).length) rfl
    subst hv6
    refine wpAnyT_only 5 #[true, true, true, true, true, true, false, false] (by kernel_rfl) rfl rfl (by rfl) (fun K1 hK1 => ?_)
    go_simp
    refine hK1 _ _ (fun _ => hX6) ?_
    clear hK1 K1
    refine wpAnyT_only 6 #[true, true, true, true, true, true, true, false] (by kernel_rfl) rfl rfl (by rfl) (fun K2 hK2 => ?_)
    go_simp
    refine hK2 _ _ (fun _ => hX6) ?_
    clear hK2 K2
    refine wpAnyT_only 7 #[true, true, true, true, true, true, true, true] (by kernel_rfl) rfl rfl (by rfl) (fun K0 hK0 => ?_)
    go_simp
    refine hK0 _ _ (fun h => absurd h (by decide)) (wpAnyT_done (by kernel_rfl) ?_ _)
    clear hK0 K0
    have hF6 := hF5.trans hX6
    go_wp2
    go_ret3
    exact rd_ok HRs.out (by rw [List.length_take, HXl.out]; omega) rfl hF6 (hX6.bytes hb5) hI6
  · rw [if_neg hp] at HRs
    rw [Bool.not_eq_true] at hp
    rw [hp] at CC
    clear hp
    go_wp2_with fail
    refine CC.mono ?_
    rintro e w5 ⟨rfl, hE5⟩
    have hF5 := hF4.trans hE5
    clear CC hRCl
    go_wp2
    go_ret3
    exact rd_nil HRs.out hF5
theorem readC23_any {w : World} (ht : Tab w) : ReadC23 w := fun k m c n A ns cap s W hE hk _ _ _ hb h1 h2 h3 => sRead_any k m c n A ns cap s W hk.2 (hE.tab ht ht.pos) hb h1 h2 h3
end Go.Proofs.YtkfipfhmbhmamaaDoor

