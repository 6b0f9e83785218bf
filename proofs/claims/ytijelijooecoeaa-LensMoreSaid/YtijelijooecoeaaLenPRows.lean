/- Rows of rows of the program's items in the call's own memory; contract of the program's rowsOf. -/
import Derived.Test.YtijelijooecoeaaLenPMerged
import Derived.Test.YtijelijooecoeaaLenPPairs
namespace Go.Proofs.Ytijelijooecoeaa
open Go.RowKit Len

namespace Len
theorem mergeP_mem {ls ps : List PI} {x : PI} : x ∈ mergeP ls ps → x ∈ ls ∨ x ∈ ps := by
  match ls, ps with
  | [], ps => rw [nil_mergeP]; exact .inr
  | a :: ls, [] => rw [mergeP_nil]; exact .inl
  | a :: ls, b :: ps =>
    rw [mergeP_cons]
    split
    · intro h
      rcases List.mem_cons.1 h with e | e
      · exact .inl (by rw [e]; exact List.mem_cons_self)
      · rcases mergeP_mem e with h | h
        · exact .inl (List.mem_cons_of_mem _ h)
        · exact .inr h
    · intro h
      rcases List.mem_cons.1 h with e | e
      · exact .inr (by rw [e]; exact List.mem_cons_self)
      · rcases mergeP_mem e with h | h
        · exact .inl h
        · exact .inr (List.mem_cons_of_mem _ h)
termination_by ls.length + ps.length
theorem pairsP_mem : ∀ {l : List PI} {x : PI}, x ∈ pairsP l → x.2 = 300 ∧ ∃ a b, a ∈ l ∧ b ∈ l ∧ x.1 = a.1 + b.1
  | [], _, h => by simp [pairsP] at h
  | [_], _, h => by simp [pairsP] at h
  | a :: b :: r, x, h => by
    rw [pairsP] at h
    rcases List.mem_cons.1 h with e | e
    · rw [e]
      exact ⟨rfl, a, b, by simp, by simp, rfl⟩
    · obtain ⟨h1, c, d, hc, hd, e⟩ := pairsP_mem e
      exact ⟨h1, c, d, by simp [hc], by simp [hd], e⟩
theorem rowP_bound {lv : List PI} (h : ∀ x ∈ lv, x.1 < 4294967296) : ∀ r, ∀ x ∈ rowP lv r, x.1 < 4294967296 * 2 ^ r
  | 0, x, hx => by simpa [rowP] using h x hx
  | r + 1, x, hx => by
    rw [rowP] at hx
    have h2 : 4294967296 * 2 ^ (r + 1) = 4294967296 * 2 ^ r + 4294967296 * 2 ^ r := by rw [Nat.pow_succ]; omega
    rcases mergeP_mem hx with e | e
    · have := h x e
      have := Nat.pow_pos (a := 2) (n := r + 1) (by omega)
      have : 4294967296 * 1 ≤ 4294967296 * 2 ^ (r + 1) := Nat.mul_le_mul_left _ this
      omega
    · obtain ⟨_, a, b, ha, hb, e⟩ := pairsP_mem e
      have := rowP_bound h r a ha
      have := rowP_bound h r b hb
      omega
theorem rowP_small {lv : List PI} (h : ∀ x ∈ lv, x.1 < 4294967296) {r : Nat} (hr : r ≤ 15) : ∀ x ∈ rowP lv r, x.1 < 9223372036854775808 := fun x hx => by
  have h1 := rowP_bound h r x hx
  have h2 : 2 ^ r ≤ 2 ^ 15 := Nat.pow_le_pow_right (by omega) hr
  have : 4294967296 * 2 ^ r ≤ 4294967296 * 2 ^ 15 := Nat.mul_le_mul_left _ h2
  omega
theorem rowP_len (lv : List PI) (r : Nat) : (rowP lv (r + 1)).length = lv.length + (rowP lv r).length / 2 := by rw [rowP, mergeP_len, pairsP_len]
theorem rowP_le (lv : List PI) : ∀ r, (rowP lv r).length ≤ 2 * lv.length ∧ lv.length ≤ (rowP lv r).length
  | 0 => by rw [rowP]; omega
  | r + 1 => by
    have := rowP_le lv r
    rw [rowP_len]
    omega
end Len

/-- v is nil, or lies in a block from base on, and holds these rows, each in the call's own memory. -/
def RowsP (w : World) (base : Nat) (v : Value) (R : List (List PI)) : Prop := ∃ Vs : List Value, w.ownsRow base 46 1 v R.length Vs ∧ ∀ i, i < R.length → OwnPI w 0 (Vs.getD i undef) (R.getD i [])
theorem prow_info : (Try.prog.info? 46).map (fun i => (i.zero, i.size, i.bytes)) = some (some (.slice none 0 0), 1, 24) := by kernel_rfl
section
variable {w w' : World} {base g : Nat} {v u : Value} {R : List (List PI)} {L : List PI} {Vs : List Value}
theorem OwnPI.notRows (h : OwnPI w base u L) {b2 n : Nat} (hY : w.ownsRow b2 46 1 v n Vs) (hg : v.ownBlock = some g) : u.ownBlock ≠ some g := by
  intro e
  rcases h.2 with ⟨rfl, _⟩ | ⟨g1, c1, cur1, rfl, _, h1, _⟩
  · cases e
  rcases hY.2 with ⟨rfl, _⟩ | ⟨g2, c2, cur2, rfl, _, h2, _⟩
  · cases hg
  simp only [Value.ownBlock, Option.some.injEq] at e hg
  subst e
  subst hg
  rw [h1] at h2
  simp only [Option.some.injEq, Obj.cells.injEq] at h2
  exact absurd h2.2.1 (by decide)
theorem RowsP.ext (h : RowsP w base v R) (hE : Ext w w') : RowsP w' base v R := by
  obtain ⟨Vs, h1, h2⟩ := h
  exact ⟨Vs, World.ownsRow.kept h1 (hE.grown none) (by cases hv : v.ownBlock <;> simp), fun i hi => (h2 i hi).ext hE⟩
theorem RowsP.lt (h : RowsP w base v R) : ∀ k, v.ownBlock = some k → base ≤ k ∧ k < w.heap.size := by
  obtain ⟨Vs, h1, _⟩ := h
  exact World.ownsRow.lt h1
/-- How it lies. -/
theorem RowsP.form (h : RowsP w base v R) : ∃ A c, v = .slice A R.length c ∧ R.length ≤ c ∧ c ≤ maxLen ∧ (R.length = 0 ∨ ∃ g, A = some ⟨g, 0, none⟩ ∧ base ≤ g ∧ g < w.heap.size ∧ ∀ i, i < R.length → ∃ u, w.cell? ⟨g, i, none⟩ = some u ∧ OwnPI w 0 u (R.getD i [])) := by
  obtain ⟨Vs, h1, h2⟩ := h
  rcases h1.2 with ⟨rfl, h0⟩ | ⟨g, cap, cur, rfl, hb, hgg, hn, hc, hs, ht⟩
  · exact ⟨none, 0, by rw [h0], by omega, by unfold maxLen; omega, .inl h0⟩
  · refine ⟨_, cap, rfl, hn, hc, .inr ⟨g, rfl, hb, (Array.getElem?_eq_some_iff.1 hgg).1, fun i hi => ⟨_, ?_, h2 i hi⟩⟩⟩
    have := World.ownsRow.cellAt h1 i (by omega)
    have hl : i < Vs.length := by rw [h1.1]; omega
    rw [this, List.getD_eq_getElem?_getD, List.getElem?_eq_getElem hl]
    rfl
/-- One row. -/
theorem RowsP.one (w : World) (u : Value) (L : List PI) (h : OwnPI w base u L) {b2 : Nat} (hb : b2 ≤ w.heap.size) : RowsP (w.alloc (.cells #[u] 46)) b2 (.slice (some ⟨w.heap.size, 0, none⟩) 1 1) [L] := by
  refine ⟨[u], World.ownsRow_lit (e := 46) (size := 1) w #[u] 1 hb (by unfold maxLen; omega) (by simp), fun i hi => ?_⟩
  obtain rfl : i = 0 := by simp at hi; exact hi
  exact (h.ext (extNew w _)).mono (Nat.zero_le _)
end
section
variable {o : Oper} {a : Act} {Q : Exit → Act → World → Prop} {w : World} {base b2 : Nat} {v u : Value} {R : List (List PI)} {L : List PI}
/-- append of one row, which lies in a block of its own. -/
theorem wpList_appRow {ops : Array Oper} {rest : List Oper} (hgd : o.guard = none) (s x : Operand) (ho : o.op = .call { callee := .builtin .append, args := #[s, x], argTypes := #[49, 49] }) (hs : a.eval s = v) (hown : RowsP w base v R) (hu : OwnPI w b2 u L)
    {c : Nat} (hx : a.eval x = .slice (some ⟨w.heap.size, 0, none⟩) 1 c) (hlen : R.length ≤ 1000) (hbase : base ≤ w.heap.size)
    (h : ∀ v' w', RowsP w' base v' (R ++ [L]) → (w.alloc (.cells #[u] 46)).grownBy w' v.ownBlock → wpList Try.prog ops Q rest (a.put o.dst v') w') :
    wpList Try.prog ops Q (o :: rest) a (w.alloc (.cells #[u] 46)) := by
  obtain ⟨i, hi, hz, hsz, hby⟩ := info_parts prow_info
  obtain ⟨Vs, h1, h2⟩ := hown
  have hE := extNew w (.cells #[u] 46)
  have h1E : (w.alloc (.cells #[u] 46)).ownsRow base 46 1 v R.length Vs := World.ownsRow.kept h1 (hE.grown none) (by cases hv : v.ownBlock <;> simp)
  obtain ⟨Au, cu, hue, _, _, _⟩ := hu.form
  refine wpList_append_own_at _ hgd s x 49 ho base 46 i _ 1 24 Try.underlying49 hi hz hsz hby rfl (by omega) v R.length Vs hs h1E ⟨w.heap.size, 0, none⟩ 1 c [u] hx rfl (by
    intro j x hu
    match j, hu with
    | 0, hu =>
      have : (⟨w.heap.size, 0, none⟩ : Addr).add 0 = ⟨w.heap.size, 0, none⟩ := rfl
      rw [this, cellNew]
      simpa using hu
    | j + 1, hu => simp at hu) (by
    intro x hx
    simp at hx
    rw [hx, hue]
    rfl) (by unfold maxLen; omega) (by omega) (by simp; omega) ?_
  intro v' w' h4 h5 _ _
  have kept : ∀ {b : Nat} {x : Value} {M : List PI}, OwnPI w b x M → OwnPI w' 0 x M := fun {b x M} hM => ((hM.ext hE).kept h5 (by
    cases hb : v.ownBlock with
    | none => cases hx : x.ownBlock <;> simp
    | some g => exact .inr ((hM.ext hE).notRows h1E hb))).mono (Nat.zero_le _)
  refine h v' w' ⟨Vs ++ [u], ?_, fun j hj => ?_⟩ h5
  · rw [List.length_append]
    exact h4
  · have hvl : Vs.length = R.length := by have := h1.1; omega
    by_cases hjl : j < R.length
    · have e1 : (R ++ [L]).getD j [] = R.getD j [] := by simp [List.getD_eq_getElem?_getD, List.getElem?_append_left hjl]
      have e2 : (Vs ++ [u]).getD j undef = Vs.getD j undef := by simp [List.getD_eq_getElem?_getD, List.getElem?_append_left (by omega : j < Vs.length)]
      rw [e1, e2]
      exact kept (h2 j hjl)
    · obtain rfl : j = R.length := by simp at hj; omega
      have e1 : (R ++ [L]).getD R.length [] = L := by simp [List.getD_eq_getElem?_getD]
      have e2 : (Vs ++ [u]).getD R.length undef = u := by rw [← hvl]; simp [List.getD_eq_getElem?_getD]
      rw [e1, e2]
      exact kept hu
end
theorem mapRange_succ (f : Nat → List PI) (r : Nat) : (List.range (r + 1)).map f = (List.range r).map f ++ [f r] := by rw [List.range_succ, List.map_append]; rfl
theorem mapRange_get (f : Nat → List PI) {r i : Nat} (h : i < r) : ((List.range r).map f).getD i [] = f i := by simp [List.getD_eq_getElem?_getD, h]

set_option maxHeartbeats 2000000 in
set_option maxRecDepth 100000 in
theorem rowsOf_any {lv : List PI} {A : Option Addr} {n c L base : Nat} {w : World} (hn : lv.length = n) (hn1 : 1 ≤ n) (hn3 : n ≤ 300) (hL1 : 1 ≤ L) (hL : L ≤ 15) (h : OwnPI w base (.slice A n c) lv) (hw : ∀ x ∈ lv, x.1 < 4294967296) (hs : ∀ x ∈ lv, x.2 < 300) :
    Calls Try.prog 23 #[.slice A n c, .int .i64 (L : Int), .func (.func 17) #[] #[]] w fun e w' => ∃ v, e = .returned v ∧ RowsP w' w.heap.size v ((List.range L).map (rowP lv)) ∧ Ext w w' := by
  obtain ⟨Ax, cx, e, hnc, hcm, hP⟩ := h.form
  rw [hn] at e hP hnc
  simp only [Value.slice.injEq, true_and] at e
  obtain ⟨rfl, rfl⟩ := e
  have HSm := hide (fun r hr i hi => rowP_small (r := r) hw hr ((rowP lv r).getD i (0, 0)) (by rw [List.getD_eq_getElem?_getD, List.getElem?_eq_getElem hi]; exact List.getElem_mem hi))
  have HLe := hide (fun r => hn ▸ rowP_le lv r)
  have HS := hide (show ∀ i, i < n → (lv.getD i (0, 0)).2 < 300 from fun i hi => hs _ (by rw [List.getD_eq_getElem?_getD, List.getElem?_eq_getElem (by omega)]; exact List.getElem_mem _))
  have HT := hide (fun r i hi => (pairsP_mem (l := rowP lv r) (x := (pairsP (rowP lv r)).getD i (0, 0)) (by rw [List.getD_eq_getElem?_getD, List.getElem?_eq_getElem hi]; exact List.getElem_mem hi)).1)
  have HO := hide h
  have HP := hide hP
  have HM := hide hcm
  have HR := hide (mapRange_succ (rowP lv))
  have HG := hide (fun r i hi => mapRange_get (rowP lv) (r := r) (i := i) hi)
  have H0 := hide (show (List.range 1).map (rowP lv) = [lv] from rfl)
  have HN := hide hn
  have HRr := hide (fun r => show rowP lv (r + 1) = mergeP lv (pairsP (rowP lv r)) from rfl)
  have HPl := hide (fun r => pairsP_len (rowP lv r))
  have h1 := RowsP.one w (.slice A n c) lv h (Nat.le_refl w.heap.size)
  rw [← H0.out] at h1
  have hEa := extNew w (.cells #[.slice A n c] 46)
  have HW := hide hw
  clear hw hs hn h hP hcm
  generalize hrp : rowP lv = rp at *
  clear hrp
  go_enter Try.func23, Try.ntmps23
  go_wp2
  go_loopw [7] (fun a wr => ∃ r : Nat, 1 ≤ r ∧ r ≤ L ∧ RowsP wr w.heap.size a ((List.range r).map rp) ∧ Ext w wr) (fun a _ => L - sliceN a)
  case atStart => exact ⟨1, Nat.le_refl _, hL1, h1, hEa⟩
  case round =>
    clear h1 hEa
    obtain ⟨r, hr1, hrL, hR, hE⟩ := hrel
    obtain ⟨Ar, cr, rfl, hrc, hrm, hcell⟩ := hR.form
    have hlen : ((List.range r).map rp).length = r := by simp
    rw [hlen] at hrc hcell ⊢
    have HR1 := hide hR
    by_cases hrl : r < L
    · rcases hcell with h0 | ⟨g, rfl, hgb, hgl, hcell⟩
      · omega
      obtain ⟨u, hu, hOu⟩ := hcell (r - 1) (by omega)
      rw [HG.out r (r - 1) (by omega)] at hOu
      have hlr := HLe.out (r - 1)
      have hsm := HSm.out (r - 1) (by omega)
      have htm := HT.out (r - 1)
      have hpl := HPl.out (r - 1)
      have hrr := HRr.out (r - 1)
      rw [show r - 1 + 1 = r by omega] at hrr
      generalize rp (r - 1) = X at *
      obtain ⟨Ax, cx, rfl, hxc, hxm, hPx⟩ := hOu.form
      rcases hPx.2 with h0 | ⟨gx, ox, rfl, _, _⟩
      · omega
      have C1 := pairsOf_any (L := X) (by omega) hxc hxm hPx hsm
      have hri : ((r : Int) - 1) = ((r - 1 : Nat) : Int) := by omega
      have HX := hide hsm
      have HRr2 := hide hrr
      have HTm := hide htm
      have HPl2 := hide hpl
      clear hsm hcell hPx hOu htm hrr hpl hlen
      obtain ⟨m, hm⟩ : ∃ m, m = X.length := ⟨_, rfl⟩
      rw [← hm] at C1 hu hxc hlr
      have HMm := hide hm
      clear hm
      go_wp2_with fail
      refine C1.mono ?_
      rintro e w2 ⟨v2, rfl, hO2, hE2⟩
      have hE02 := hE.trans hE2
      obtain ⟨A2, c2, rfl, h2c, _, hP2⟩ := hO2.form
      have C2 := merged_any (ls := lv) (ps := pairsP X) (A1 := A) (A2 := A2) (n1 := n) (n2 := (pairsP X).length) (c1 := c) (c2 := c2) (w := w2) hn3 (by rw [HPl2.out, ← HMm.out]; omega) hnc HM.out (HP.out.ext hE02) hP2 HS.out HTm.out
      rw [← HRr2.out] at C2
      have hR2 := hR.ext hE2
      have HR2 := hide hR2
      clear hR2 hP2 hR
      generalize (pairsP X).length = n2 at *
      go_wp2_with fail
      refine C2.mono ?_
      rintro e w3 ⟨v3, rfl, hO3, hE3⟩
      have hE03 := hE02.trans hE3
      have hR3 := HR2.out.ext hE3
      obtain ⟨A3, c3, rfl, _, _, _⟩ := hO3.form
      have hbb := hE03.le
      have hl1 : ((List.range r).map rp).length ≤ 1000 := by simp; omega
      go_wp2_with (at_builtin; refine wpList_appRow (R := (List.range r).map rp) rfl (.tmp 22) (.tmp 27) rfl (by rw [List.length_map, List.length_range]; rfl) hR3 hO3 rfl hl1 hbb ?_; intro v5 w5 hR5 hG5)
      have hE5 : Ext w w5 := Below.grown (hE03.trans (extNew w3 _)) hG5 (hE03.trans (extNew w3 _)).le (fun k hk => (HR1.out.lt k (by simpa [Value.ownBlock] using hk)).1)
      rw [← HR.out r] at hR5
      obtain ⟨A5, c5, rfl, _, _, _⟩ := hR5.form
      go_roundw
      case rel => exact ⟨r + 1, by omega, by omega, hR5, hE5⟩
      case measure => simp [sliceN]; omega
    · obtain rfl : r = L := by omega
      clear hcell hlen
      go_wp2
      go_ret
      refine ⟨_, rfl, ?_, hE⟩
      have := HR1.out
      rwa [List.length_map, List.length_range] at this
end Go.Proofs.Ytijelijooecoeaa
