/- The program's walk along several lists: along, allHave, noneHas. -/
import Derived.Test.YtfkmcknkapplmaaSetPWalk
namespace Go.Proofs.Ytfkmcknkapplmaa
open Go.RowKit Sets

/-- Walks of the call's own, each one the slice that is left. -/
def OwnK (w : World) (base : Nat) (v : Value) (vs : List Value) : Prop := w.ownsRow base 46 1 v vs.length vs
theorem walk_info : (Try.prog.info? 46).map (fun i => (i.zero, i.size, i.bytes)) = some (some (.agg #[.slice none 0 0]), 1, 24) := by kernel_rfl
theorem OwnK.nil (w : World) (base : Nat) : OwnK w base (.slice none 0 0) [] := World.ownsRow_nil w base _ _
theorem OwnK.lt {w : World} {base : Nat} {v : Value} {vs : List Value} (h : OwnK w base v vs) : ∀ k, v.ownBlock = some k → base ≤ k ∧ k < w.heap.size := World.ownsRow.lt h
theorem OwnK.form {w : World} {base : Nat} {v : Value} {vs : List Value} (h : OwnK w base v vs) : ∃ A c, v = .slice A vs.length c ∧ (vs.length = 0 ∨ ∃ g, A = some ⟨g, 0, none⟩ ∧ base ≤ g ∧ v.ownBlock = some g ∧ ∀ i, i < vs.length → w.cell? ⟨g, i, none⟩ = some (vs.getD i undef) ∧ w.frozen? ⟨g, i, none⟩ = false) := by
  have h' := h
  rcases h.2 with ⟨rfl, h0⟩ | ⟨g, cap, cur, rfl, hb, hg, hn, hc, hs, ht⟩
  · exact ⟨none, 0, by rw [h0], .inl h0⟩
  · refine ⟨_, cap, rfl, .inr ⟨g, rfl, hb, rfl, fun i hi => ⟨?_, World.ownsRow.frozenAt h' i⟩⟩⟩
    have hk := World.ownsRow.cellAt h' i (by omega)
    rw [hk]
    simp [hi]
theorem wpList_appK {ops : Array Oper} {rest : List Oper} {o : Oper} {a : Act} {Q : Exit → Act → World → Prop} {w : World} {base : Nat} {v : Value} {vs : List Value} (hgd : o.guard = none) (s x : Operand) (ho : o.op = .call { callee := .builtin .append, args := #[s, x], argTypes := #[47, 47] }) (hs : a.eval s = v)
    (hown : OwnK w base v vs) {gx c : Nat} (hx : a.eval x = .slice (some ⟨gx, 0, none⟩) 1 c) {u : Value} (hc : w.cell? ⟨gx, 0, none⟩ = some u) (h1 : u.oneCell' = true) (hlen : vs.length ≤ 1000000) (hbase : base ≤ w.heap.size)
    (h : ∀ v' w', OwnK w' base v' (vs ++ [u]) → w.grownBy w' v.ownBlock → NewOb w v.ownBlock v'.ownBlock → wpList Try.prog ops Q rest (a.put o.dst v') w') : wpList Try.prog ops Q (o :: rest) a w := by
  obtain ⟨i, hi, hz, hsz, hby⟩ := info_parts walk_info
  refine wpList_append_own_at _ hgd s x 47 ho base 46 i _ 1 24 Try.underlying47 hi hz hsz hby rfl (by omega) v vs.length vs hs hown ⟨gx, 0, none⟩ 1 c [u] hx rfl (by
    intro j y hu
    match j, hu with
    | 0, hu =>
      have : (⟨gx, 0, none⟩ : Addr).add 0 = ⟨gx, 0, none⟩ := rfl
      rw [this, hc]
      simpa using hu
    | j + 1, hu => simp at hu) (by
    intro y hu
    simp at hu
    subst hu
    exact h1) (by unfold maxLen; omega) (by omega) hbase ?_
  intro v' w' h2 h3 _ h5
  refine h v' w' ?_ h3 (h5.imp id fun h => ⟨_, h, Nat.le_refl _⟩)
  unfold OwnK
  rw [List.length_append]
  exact h2

/-- A walk along several lists, at block sb: what is left of the list, and of the others. -/
def Sev (w : World) (base sb : Nat) (left ov : Value) (rs : List (List Int)) : Prop :=
  base ≤ sb ∧ Whole w sb 49 #[left, ov] ∧ ov.ownBlock ≠ some sb ∧ ∃ vs, OwnK w base ov vs ∧ vs.length = rs.length ∧ ∀ j, j < rs.length → IRow w base (vs.getD j undef) (rs.getD j []) ∧ (rs.getD j []).length ≤ 1000000
theorem IRow.below {w w' : World} {B : Nat} {v : Value} {l : List Int} (h : IRow w B v l) (hE : Below B w w') : IRow w' B v l := by
  obtain ⟨a, c, e, h1, h2, h3⟩ := h
  exact ⟨a, c, e, h1, h2, h3.below hE (Nat.le_refl _)⟩
/-- Where neither its block nor that of the others is touched. -/
theorem Sev.kept {w w' : World} {base sb : Nat} {left ov : Value} {rs : List (List Int)} {row : Option Nat} (h : Sev w base sb left ov rs) (hG : w.grownBy w' row) (h1 : row ≠ some sb) (h2 : ov.ownBlock = none ∨ ov.ownBlock ≠ row) (h3 : ∀ k, row = some k → base ≤ k) : Sev w' base sb left ov rs := by
  obtain ⟨hb, hW, hne, vs, hO, hl, hr⟩ := h
  have hB : Below base w w' := Below.grown (Below.refl _ _) hG (by have := hW.lt; omega) h3
  exact ⟨hb, hW.ownGrown hG h1, hne, vs, World.ownsRow.kept hO hG h2, hl, fun j hj => ⟨(hr j hj).1.below hB, (hr j hj).2⟩⟩
theorem Sev.ext {w w' : World} {base sb : Nat} {left ov : Value} {rs : List (List Int)} (h : Sev w base sb left ov rs) (hE : Ext w w') : Sev w' base sb left ov rs :=
  h.kept (hE.grown none) (by simp) (by cases hv : ov.ownBlock <;> simp) (fun k hk => by cases hk)
/-- One of the others goes on. -/
theorem Sev.step {w : World} {base sb : Nat} {left ov : Value} {rs : List (List Int)} (h : Sev w base sb left ov rs) {g : Nat} (hg : ov.ownBlock = some g) {j : Nat} {u : Value} {r : List Int} (hu : IRow w base u r) (hr2 : r.length ≤ 1000000) :
    Sev (w.setCell ⟨g, j, none⟩ u) base sb left ov (rs.set j r) ∧ w.grownBy (w.setCell ⟨g, j, none⟩ u) (some g) := by
  obtain ⟨hb, hW, hne, vs, hO, hl, hr⟩ := h
  obtain ⟨A, c, hf, hf2⟩ := hO.form
  have hO2 := hO
  have hlt := hO.lt g hg
  obtain rfl : A = some ⟨g, 0, none⟩ := by
    rcases hO.2 with ⟨e, _⟩ | ⟨g', cap, cur, e, _⟩
    · rw [e] at hg; cases hg
    · rw [e] at hf hg
      injection hf with h1 h2 h3
      rw [← h1]
      have : g' = g := by simpa [Value.ownBlock] using hg
      rw [this]
  subst hf
  have hS := World.ownsRow.stored hO2 j u
  have hB : Below base w (w.setCell ⟨g, j, none⟩ u) := Below.setCell (Below.refl _ _) (p := ⟨g, j, none⟩) hlt.1 u
  refine ⟨⟨hb, hW.far (fun e => hne (by rw [hg, e])) j u, hne, vs.set j u, ?_, by simp [hl], fun i hi => ?_⟩, hS.2⟩
  · unfold OwnK
    rw [List.length_set]
    exact hS.1
  · rw [List.length_set] at hi
    by_cases e : i = j
    · subst e
      have e1 : (vs.set i u).getD i undef = u := by simp [List.getD_eq_getElem?_getD, show i < vs.length by omega]
      have e2 : (rs.set i r).getD i [] = r := by simp [List.getD_eq_getElem?_getD, hi]
      rw [e1, e2]
      exact ⟨hu.below hB, hr2⟩
    · have e1 : (vs.set j u).getD i undef = vs.getD i undef := by rw [List.getD_eq_getElem?_getD, List.getElem?_set_ne (fun h => e h.symm), List.getD_eq_getElem?_getD]
      have e2 : (rs.set j r).getD i [] = rs.getD i [] := by rw [List.getD_eq_getElem?_getD, List.getElem?_set_ne (fun h => e h.symm), List.getD_eq_getElem?_getD]
      rw [e1, e2]
      exact ⟨(hr i hi).1.below hB, (hr i hi).2⟩

/-- One list more. -/
theorem sev_push {w1 w2 : World} {base sb : Nat} {left ov ov' u : Value} {vs : List Value} {rs : List (List Int)} {l : List Int} (hb : base ≤ sb) (hW : Whole w1 sb 49 #[left, ov]) (hne : ov.ownBlock ≠ some sb) (hO : OwnK w1 base ov vs) (hl : vs.length = rs.length)
    (hr : ∀ j, j < rs.length → IRow w1 base (vs.getD j undef) (rs.getD j []) ∧ (rs.getD j []).length ≤ 1000000) (hu : IRow w1 base u l) (hul : l.length ≤ 1000000) (hO2 : OwnK w2 base ov' (vs ++ [u])) (hG : w1.grownBy w2 ov.ownBlock) (hN : NewOb w1 ov.ownBlock ov'.ownBlock) :
    Sev (w2.setCell ⟨sb, 1, none⟩ ov') base sb left ov' (rs ++ [l]) ∧ Below base w1 (w2.setCell ⟨sb, 1, none⟩ ov') := by
  have hB : Below base w1 (w2.setCell ⟨sb, 1, none⟩ ov') := (Below.grown (Below.refl _ _) hG (by have := hW.lt; omega) (fun k hk => (hO.lt k hk).1)).setCell (p := ⟨sb, 1, none⟩) hb ov'
  have hne2 := hN.ne hW.lt hne
  have hG2 : w2.grownBy (w2.setCell ⟨sb, 1, none⟩ ov') (some sb) := ⟨rfl, rfl, rfl, by simp, fun k _ hk => Below.heap_setCell w2 ⟨sb, 1, none⟩ ov' k (fun e => hk (by rw [e]))⟩
  refine ⟨⟨hb, by simpa using (hW.ownGrown hG hne).set 1 ov', hne2, vs ++ [u], World.ownsRow.kept hO2 hG2 (.inr hne2), by simp [hl], fun j hj => ?_⟩, hB⟩
  rw [List.length_append, List.length_singleton] at hj
  by_cases e : j = rs.length
  · subst e
    have e1 : (vs ++ [u]).getD rs.length undef = u := by simp [List.getD_eq_getElem?_getD, ← hl]
    have e2 : (rs ++ [l]).getD rs.length [] = l := by simp [List.getD_eq_getElem?_getD]
    rw [e1, e2]
    exact ⟨hu.below hB, hul⟩
  · have e1 : (vs ++ [u]).getD j undef = vs.getD j undef := by simp [List.getD_eq_getElem?_getD, List.getElem?_append_left (show j < vs.length by omega)]
    have e2 : (rs ++ [l]).getD j [] = rs.getD j [] := by simp [List.getD_eq_getElem?_getD, List.getElem?_append_left (show j < rs.length by omega)]
    rw [e1, e2]
    exact ⟨(hr j (by omega)).1.below hB, (hr j (by omega)).2⟩

/-- What along tells. -/
def AlongTo (w : World) (left : Value) (ls : List (List Int)) (e : Ending) (w' : World) : Prop := ∃ sb ov, e = .returned (.pointer (some ⟨sb, 0, none⟩)) ∧ Sev w' w.heap.size sb left ov ls ∧ Ext w w'
set_option maxHeartbeats 2000000 in
set_option maxRecDepth 10000 in
theorem along_any (A0 : Option Addr) (n0 c0 : Nat) (A : Option Addr) (n c : Nat) (ls : List (List Int)) (w : World) (h : ILists w w.heap.size A n ls) (hn : n ≤ 1000) (hs : ∀ l, l ∈ ls → l.length ≤ 1000000) :
    Calls Try.prog 28 #[.slice A0 n0 c0, .slice A n c] w (AlongTo w (.slice A0 n0 c0) ls) := by
  have hl := h.1
  have HA := hide h
  have HLen := hide (show ∀ i, i < n → (ls.getD i []).length ≤ 1000000 from fun i hi => hs _ (by
    rw [List.getD_eq_getElem?_getD, List.getElem?_eq_getElem (by omega)]
    exact List.getElem_mem _))
  have HTake := hide (show ∀ i, i < n → ls.take (i + 1) = ls.take i ++ [ls.getD i []] from fun i hi => by
    rw [List.take_add_one, List.getD_eq_getElem?_getD, List.getElem?_eq_getElem (by omega)]
    rfl)
  have HLt := hide (show ∀ i, i ≤ n → (ls.take i).length = i from fun i hi => by rw [List.length_take]; omega)
  have HAll := hide (show ls.take n = ls from List.take_of_length_le (by omega))
  have hW1 := Whole.new w 49 #[.slice A0 n0 c0, .slice none 0 0]
  have hE1 := extNew w (.cells #[.slice A0 n0 c0, .slice none 0 0] 49)
  have HS0 := hide (show Sev (w.alloc (.cells #[.slice A0 n0 c0, .slice none 0 0] 49)) w.heap.size w.heap.size (.slice A0 n0 c0) (.slice none 0 0) (ls.take 0) from
    ⟨Nat.le_refl _, hW1, by simp [Value.ownBlock], [], OwnK.nil _ _, rfl, fun j hj => by simp at hj⟩)
  have HE1 := hide hE1
  unfold AlongTo
  clear h hs hl hW1 hE1
  go_enter Try.func28, Try.ntmps28
  go_wp2
  go_loopw [14] (fun y wr => ∃ (i : Nat) (ov : Value), i ≤ n ∧ y = .int .i64 (i : Int) ∧ Sev wr w.heap.size w.heap.size (.slice A0 n0 c0) ov (ls.take i) ∧ Ext w wr) (fun y _ => n - (intOf y).toNat)
  case atStart => exact ⟨0, _, by omega, rfl, HS0.out, HE1.out⟩
  case round =>
    clear HS0 HE1
    obtain ⟨i, ov, hi, rfl, hS, hE⟩ := hrel
    by_cases hlt : i < n
    · have hiI : (i : Int) < (n : Int) := by omega
      obtain ⟨b1, o1, a1, c1, rfl, e1, k1, k2, hr⟩ := (HA.out.ext hE).at hlt
      have HRow := hide (show IntsAt w w.heap.size a1 (ls.getD i []).length (ls.getD i []) from by
        obtain ⟨b2, o2, a2, c2, e2, e3, _, _, h3⟩ := HA.out.at hlt
        injection e2 with e2
        injection e2 with e2 e2' _
        subst e2
        subst e2'
        have hb2 := World.block_lt_of_cell? _ _ e3
        rw [hE.cell hb2, e3] at e1
        injection e1 with e1
        injection e1 with e1 _ e4
        subst e1
        exact h3)
      obtain ⟨hb, hW, hne, vs, hO, hvl, hvr⟩ := hS
      have f1 := hW.at 1 (u := ov) rfl
      have HL := hide (HLen.out i hlt)
      have HT := hide (HTake.out i hlt)
      have hvl2 : vs.length = i := by rw [hvl]; exact HLt.out i hi
      have HLti := hide (HLt.out i hi)
      have HM := hide (And.intro k1 k2)
      generalize ls.getD i [] = l at *
      obtain ⟨m, hm⟩ : ∃ m, m = l.length := ⟨_, rfl⟩
      rw [← hm] at e1
      have HMm := hide hm
      have HE := hide hE
      have HW := hide hW
      have HO := hide hO
      have HVr := hide hvr
      have HVl := hide hvl2
      have HNe := hide hne
      have hlen1 : vs.length ≤ 1000000 := by omega
      have hbs : w.heap.size ≤ wr.heap.size := hE.le
      have hX := extNew wr (.cells #[.slice a1 m c1] 46)
      have HO1 := hide (show OwnK (wr.alloc (.cells #[.slice a1 m c1] 46)) w.heap.size ov vs from World.ownsRow.kept hO (hX.grown none) (by cases hv : ov.ownBlock <;> simp))
      have HW1 := hide (hW.ext hX)
      have HE1 := hide (hE.trans hX)
      have HE0 := hide hE
      have HVr := hide (show ∀ j, j < (ls.take i).length → IRow wr w.heap.size (vs.getD j undef) ((ls.take i).getD j []) ∧ ((ls.take i).getD j []).length ≤ 1000000 from hvr)
      have HBa := hide (show w.heap.size ≤ (wr.alloc (.cells #[.slice a1 m c1] 46)).heap.size by rw [World.size_alloc]; omega)
      have HXb := hide (hX.le)
      have HX := hide hX
      clear hm hr hE hb hW hO hvr hvl hvl2 hne k1 k2 hX hbs HE HW HO
      go_wp2_with (at_builtin; refine wpList_appK (v := ov) rfl (.tmp 22) (.tmp 25) rfl rfl HO1.out rfl (u := .slice a1 m c1) (by rw [cellNew]; rfl) rfl hlen1 HBa.out ?_; intro v2 w2 hO2 hG2 hN2; obtain ⟨A2, c2, rfl, -⟩ := hO2.form; have hW2 := HW1.out.ownGrown hG2 HNe.out; have f2 := hW2.at 1 (u := ov) rfl; have g2 := hW2.frozen 1; have HO2 := hide hO2; have HG2 := hide hG2; have HN2 := hide hN2; have HW2 := hide hW2; clear f1 e1 hO2 hG2 hN2 hW2)
      go_roundw
      case rel =>
        have hi := HLti.out
        have HP := sev_push (Nat.le_refl _) HW1.out HNe.out HO1.out (by rw [HVl.out, hi]) (fun j hj => ⟨(HVr.out j hj).1.below (Below.mono HX.out (HE0.out.le)), (HVr.out j hj).2⟩)
          (u := .slice a1 m c1) (l := l) ⟨a1, c1, by rw [HMm.out], HM.out.1, HM.out.2, HRow.out.below HE1.out (Nat.le_refl _)⟩ HL.out HO2.out HG2.out HN2.out
        rw [show (vs ++ [Value.slice a1 m c1]).length = vs.length + 1 by simp] at HP
        refine ⟨i + 1, .slice A2 (vs.length + 1) c2, by omega, by go_num, ?_, Below.trans HE1.out HP.2⟩
        rw [HT.out]
        exact HP.1
      case measure => simp [intOf]; omega
    · obtain rfl : n = i := by omega
      rw [HAll.out] at hS
      have HS := hide hS
      have HE := hide hE
      clear hS hE
      go_wp2
      go_ret
      exact ⟨w.heap.size, ov, rfl, HS.out, HE.out⟩

/-- What a question about x tells: the walks have gone past it. -/
def AskTo (w : World) (base sb : Nat) (left ov : Value) (ls : List (List Int)) (x : Int) (q : Bool) (e : Ending) (w' : World) : Prop :=
  e = .returned (.bool q) ∧ ∃ rs, Sev w' base sb left ov rs ∧ Rems (x + 1) ls rs ∧ w.grownBy w' ov.ownBlock
/-- The walks up to the place i have gone past x. -/
def Going (x : Int) (i : Nat) (ls rs : List (List Int)) : Prop := rs.length = ls.length ∧ (∀ j, j < i → j < ls.length → Rem (x + 1) (ls.getD j []) (rs.getD j [])) ∧ ∀ j, i ≤ j → j < ls.length → Rem x (ls.getD j []) (rs.getD j [])
theorem Going.all {x : Int} {i : Nat} {ls rs : List (List Int)} (h : Going x i ls rs) : Rems (x + 1) ls rs := by
  refine ⟨h.1, fun j hj => ?_⟩
  rcases Nat.lt_or_ge j i with h' | h'
  · exact h.2.1 j h' hj
  · exact (h.2.2 j h' hj).mono (by omega)
theorem Going.step {x : Int} {i : Nat} {ls rs : List (List Int)} (h : Going x i ls rs) (hi : i < ls.length) {k : Nat} {f : Bool} (hc : Cut (rs.getD i []) x k) (hf : Hit (rs.getD i []) x k f) :
    f = has (ls.getD i []) x ∧ Going x (i + 1) ls (rs.set i ((rs.getD i []).drop (k + f.toNat))) := by
  obtain ⟨h1, h2, h3⟩ := h
  have hs := (h3 i (Nat.le_refl _) hi).step hc hf
  refine ⟨hs.1, by rw [List.length_set, h1], fun j hj hjl => ?_, fun j hj hjl => ?_⟩
  · by_cases e : j = i
    · subst e
      have e2 : (rs.set j ((rs.getD j []).drop (k + f.toNat))).getD j [] = (rs.getD j []).drop (k + f.toNat) := by
        rw [List.getD_eq_getElem?_getD, List.getElem?_set_self (by omega)]; rfl
      rw [e2]
      exact hs.2
    · have e2 : (rs.set i ((rs.getD i []).drop (k + f.toNat))).getD j [] = rs.getD j [] := by rw [List.getD_eq_getElem?_getD, List.getElem?_set_ne (fun h => e h.symm), List.getD_eq_getElem?_getD]
      rw [e2]
      exact h2 j (by omega) hjl
  · have e2 : (rs.set i ((rs.getD i []).drop (k + f.toNat))).getD j [] = rs.getD j [] := by rw [List.getD_eq_getElem?_getD, List.getElem?_set_ne (by omega), List.getD_eq_getElem?_getD]
    rw [e2]
    exact h3 j (by omega) hjl
/-- The cell of one of the others. -/
theorem Sev.at {w : World} {base sb n c : Nat} {left : Value} {A : Option Addr} {rs : List (List Int)} (h : Sev w base sb left (.slice A n c) rs) : n = rs.length ∧ ∀ i, i < n → ∃ g a m d, A = some ⟨g, 0, none⟩ ∧ (Value.slice A n c).ownBlock = some g ∧ base ≤ g ∧
    w.cell? ⟨g, i, none⟩ = some (.slice a m d) ∧ w.frozen? ⟨g, i, none⟩ = false ∧ IntsAt w base a m (rs.getD i []) ∧ m ≤ d ∧ m ≤ 1000000 ∧ d ≤ maxLen ∧ (rs.getD i []).length ≤ 1000000 := by
  obtain ⟨_, _, _, vs, hO, hl, hr⟩ := h
  obtain ⟨A', c', e, hf⟩ := hO.form
  injection e with e1 e2 e3
  subst e1 e2 e3
  refine ⟨hl, fun i hi => ?_⟩
  rcases hf with h0 | ⟨g, rfl, hb, hob, hc⟩
  · omega
  obtain ⟨h1, h2⟩ := hc i hi
  obtain ⟨⟨a, d, e, h3, h4, h5⟩, h6⟩ := hr i (by omega)
  refine ⟨g, a, _, d, rfl, hob, hb, by rw [h1, e], h2, h5, h3, h6, h4, h6⟩

set_option maxHeartbeats 2000000 in
set_option maxRecDepth 10000 in
theorem allHave_any {w : World} {base sb : Nat} {left ov : Value} {ls rs : List (List Int)} {x : Int} (h : Sev w base sb left ov rs) (hr : Rems x ls rs) (hn : ls.length ≤ 1000000) :
    Calls Try.prog 30 #[.pointer (some ⟨sb, 0, none⟩), .int .i64 x] w (AskTo w base sb left ov ls x (ls.all fun l => has l x)) := by
  obtain ⟨A, n, c, rfl⟩ : ∃ A n c, ov = .slice A n c := by
    obtain ⟨_, _, _, vs, hO, _⟩ := h
    obtain ⟨A, c, e, _⟩ := hO.form
    exact ⟨A, _, c, e⟩
  have hln : n = ls.length := by rw [← hr.1]; exact h.at.1
  have HYes := hide (show (∀ j, j < n → has (ls.getD j []) x = true) → (ls.all fun l => has l x) = true from fun h => by
    rw [List.all_eq_true]
    intro l hl
    obtain ⟨j, hj, rfl⟩ := List.getElem_of_mem hl
    have := h j (by omega)
    rwa [List.getD_eq_getElem?_getD, List.getElem?_eq_getElem hj] at this)
  have HNo := hide (show ∀ j, j < n → has (ls.getD j []) x = false → (ls.all fun l => has l x) = false from fun j hj h => by
    rw [← Bool.not_eq_true, List.all_eq_true]
    intro h2
    have := h2 (ls.getD j []) (by rw [List.getD_eq_getElem?_getD, List.getElem?_eq_getElem (by omega)]; exact List.getElem_mem _)
    rw [h] at this
    cases this)
  have HLn := hide hln
  have f0 := h.2.1.at 1 (u := .slice A n c) rfl
  have HS0 := hide h
  have HG0 := hide (show Going x 0 ls rs from ⟨hr.1, fun j hj => absurd hj (by omega), fun j _ hj => hr.2 j hj⟩)
  have hn2 : n ≤ 1000000 := by omega
  unfold AskTo
  generalize (ls.all fun l => has l x) = res at *
  clear h hr hln hn
  go_enter Try.func30, Try.ntmps30
  go_wp2
  go_loopw [11] (fun y wr => ∃ (i : Nat) (rs' : List (List Int)), i ≤ n ∧ y = .int .i64 (i : Int) ∧ Sev wr base sb left (.slice A n c) rs' ∧ Going x i ls rs' ∧ (∀ j, j < i → has (ls.getD j []) x = true) ∧ w.grownBy wr (Value.slice A n c).ownBlock) (fun y _ => n - (intOf y).toNat)
  case atStart => exact ⟨0, rs, by omega, rfl, HS0.out, HG0.out, fun j hj => absurd hj (by omega), World.grownBy.refl _ _⟩
  case round =>
    clear HS0 HG0 f0
    obtain ⟨i, rs', hi, rfl, hS, hG, hall, hgr⟩ := hrel
    by_cases hlt : i < n
    · have hiI : (i : Int) < (n : Int) := by omega
      obtain ⟨g, a, m, d, rfl, hob, hbg, e1, e2, hI, k1, k2, k3, k4⟩ := hS.at.2 i hlt
      have f1 := hS.2.1.at 1 (u := .slice (some ⟨g, 0, none⟩) n c) rfl
      have C := wHas_any x e1 e2 hI hbg k1 k2 k3
      have HStep := hide (fun (k : Nat) (f : Bool) (hc : Cut (rs'.getD i []) x k) (hf : Hit (rs'.getD i []) x k f) => hG.step (by have := HLn.out; omega) hc hf)
      have HPut := hide (fun (k : Nat) (u : Value) (hu : IRow wr base u ((rs'.getD i []).drop k)) => hS.step hob (j := i) hu (by rw [List.length_drop]; omega))
      have HNi := hide (HNo.out i hlt)
      have HAll := hide hall
      have HGr := hide hgr
      have HOb := hide hob
      clear hS hG hob hI hall hgr e1 e2
      go_wp2_with fail
      refine C.mono ?_
      rintro e w2 ⟨k, f, u, hk, hf, rfl, hu, hw2⟩
      obtain ⟨hfe, hG2⟩ := HStep.out k f hk hf
      have hP := HPut.out _ u hu
      rw [← hw2] at hP
      have HS2 := hide hP.1
      have HGr2 := hide (show w.grownBy w2 (Value.slice (some ⟨g, 0, none⟩) n c).ownBlock from HGr.out.trans (by rw [HOb.out]; exact hP.2))
      have HG2 := hide hG2
      clear hG2 hk hf hu hw2 hP C HPut HStep
      cases f with
      | false =>
        have HR := hide (HNi.out (by rw [← hfe] <;> rfl))
        clear hfe
        go_wp2
        go_ret
        exact ⟨ret_bool HR.out.symm, _, HS2.out, HG2.out.all, HGr2.out⟩
      | true =>
        have HA2 := hide (show ∀ j, j < i + 1 → has (ls.getD j []) x = true from fun j hj => by
          by_cases e : j = i
          · rw [e, ← hfe] <;> rfl
          · exact HAll.out j (by omega))
        clear hfe
        go_wp2
        go_roundw
        case rel => exact ⟨i + 1, _, by omega, by go_num, HS2.out, HG2.out, HA2.out, HGr2.out⟩
        case measure => simp [intOf]; omega
    · obtain rfl : n = i := by omega
      have HR := hide (HYes.out hall)
      have HS := hide hS
      have HG := hide hG
      have HGr := hide hgr
      clear hS hG hall hgr
      go_wp2
      go_ret
      exact ⟨ret_bool HR.out.symm, _, HS.out, HG.out.all, HGr.out⟩

set_option maxHeartbeats 2000000 in
set_option maxRecDepth 10000 in
theorem noneHas_any {w : World} {base sb : Nat} {left ov : Value} {ls rs : List (List Int)} {x : Int} (h : Sev w base sb left ov rs) (hr : Rems x ls rs) (hn : ls.length ≤ 1000000) :
    Calls Try.prog 42 #[.pointer (some ⟨sb, 0, none⟩), .int .i64 x] w (AskTo w base sb left ov ls x (ls.all fun l => !has l x)) := by
  obtain ⟨A, n, c, rfl⟩ : ∃ A n c, ov = .slice A n c := by
    obtain ⟨_, _, _, vs, hO, _⟩ := h
    obtain ⟨A, c, e, _⟩ := hO.form
    exact ⟨A, _, c, e⟩
  have hln : n = ls.length := by rw [← hr.1]; exact h.at.1
  have HYes := hide (show (∀ j, j < n → (!has (ls.getD j []) x) = true) → (ls.all fun l => !has l x) = true from fun h => by
    rw [List.all_eq_true]
    intro l hl
    obtain ⟨j, hj, rfl⟩ := List.getElem_of_mem hl
    have := h j (by omega)
    rwa [List.getD_eq_getElem?_getD, List.getElem?_eq_getElem hj] at this)
  have HNo := hide (show ∀ j, j < n → (!has (ls.getD j []) x) = false → (ls.all fun l => !has l x) = false from fun j hj h => by
    rw [← Bool.not_eq_true, List.all_eq_true]
    intro h2
    have := h2 (ls.getD j []) (by rw [List.getD_eq_getElem?_getD, List.getElem?_eq_getElem (by omega)]; exact List.getElem_mem _)
    rw [h] at this
    cases this)
  have HLn := hide hln
  have f0 := h.2.1.at 1 (u := .slice A n c) rfl
  have HS0 := hide h
  have HG0 := hide (show Going x 0 ls rs from ⟨hr.1, fun j hj => absurd hj (by omega), fun j _ hj => hr.2 j hj⟩)
  have hn2 : n ≤ 1000000 := by omega
  unfold AskTo
  generalize (ls.all fun l => !has l x) = res at *
  clear h hr hln hn
  go_enter Try.func42, Try.ntmps42
  go_wp2
  go_loopw [11] (fun y wr => ∃ (i : Nat) (rs' : List (List Int)), i ≤ n ∧ y = .int .i64 (i : Int) ∧ Sev wr base sb left (.slice A n c) rs' ∧ Going x i ls rs' ∧ (∀ j, j < i → (!has (ls.getD j []) x) = true) ∧ w.grownBy wr (Value.slice A n c).ownBlock) (fun y _ => n - (intOf y).toNat)
  case atStart => exact ⟨0, rs, by omega, rfl, HS0.out, HG0.out, fun j hj => absurd hj (by omega), World.grownBy.refl _ _⟩
  case round =>
    clear HS0 HG0 f0
    obtain ⟨i, rs', hi, rfl, hS, hG, hall, hgr⟩ := hrel
    by_cases hlt : i < n
    · have hiI : (i : Int) < (n : Int) := by omega
      obtain ⟨g, a, m, d, rfl, hob, hbg, e1, e2, hI, k1, k2, k3, k4⟩ := hS.at.2 i hlt
      have f1 := hS.2.1.at 1 (u := .slice (some ⟨g, 0, none⟩) n c) rfl
      have C := wHas_any x e1 e2 hI hbg k1 k2 k3
      have HStep := hide (fun (k : Nat) (f : Bool) (hc : Cut (rs'.getD i []) x k) (hf : Hit (rs'.getD i []) x k f) => hG.step (by have := HLn.out; omega) hc hf)
      have HPut := hide (fun (k : Nat) (u : Value) (hu : IRow wr base u ((rs'.getD i []).drop k)) => hS.step hob (j := i) hu (by rw [List.length_drop]; omega))
      have HNi := hide (HNo.out i hlt)
      have HAll := hide hall
      have HGr := hide hgr
      have HOb := hide hob
      clear hS hG hob hI hall hgr e1 e2
      go_wp2_with fail
      refine C.mono ?_
      rintro e w2 ⟨k, f, u, hk, hf, rfl, hu, hw2⟩
      obtain ⟨hfe, hG2⟩ := HStep.out k f hk hf
      have hP := HPut.out _ u hu
      rw [← hw2] at hP
      have HS2 := hide hP.1
      have HGr2 := hide (show w.grownBy w2 (Value.slice (some ⟨g, 0, none⟩) n c).ownBlock from HGr.out.trans (by rw [HOb.out]; exact hP.2))
      have HG2 := hide hG2
      clear hG2 hk hf hu hw2 hP C HPut HStep
      cases f with
      | true =>
        have HR := hide (HNi.out (by rw [← hfe] <;> rfl))
        clear hfe
        go_wp2
        go_ret
        exact ⟨ret_bool HR.out.symm, _, HS2.out, HG2.out.all, HGr2.out⟩
      | false =>
        have HA2 := hide (show ∀ j, j < i + 1 → (!has (ls.getD j []) x) = true from fun j hj => by
          by_cases e : j = i
          · rw [e, ← hfe] <;> rfl
          · exact HAll.out j (by omega))
        clear hfe
        go_wp2
        go_roundw
        case rel => exact ⟨i + 1, _, by omega, by go_num, HS2.out, HG2.out, HA2.out, HGr2.out⟩
        case measure => simp [intOf]; omega
    · obtain rfl : n = i := by omega
      have HR := hide (HYes.out hall)
      have HS := hide hS
      have HG := hide hG
      have HGr := hide hgr
      clear hS hG hall hgr
      go_wp2
      go_ret
      exact ⟨ret_bool HR.out.symm, _, HS.out, HG.out.all, HGr.out⟩
end Go.Proofs.Ytfkmcknkapplmaa
