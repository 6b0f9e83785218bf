/- The document's functions of chapter 15: One, Term, Same, Has. -/
import Derived.Test.YtnkiopfpcddliaaWrdRef
namespace Go.Proofs.Ytnkiopfpcddliaa
open Go.RowKit Wrd

theorem Wrd.list_ext {a b : List (List UInt8)} (hl : a.length = b.length) (h : ∀ i, i < a.length → a.getD i [] = b.getD i []) : a = b := by
  refine List.ext_getElem hl fun i h1 h2 => ?_
  have := h i h1
  rwa [List.getD_eq_getElem?_getD, List.getD_eq_getElem?_getD, List.getElem?_eq_getElem h1, List.getElem?_eq_getElem h2] at this
set_option maxHeartbeats 1000000 in
set_option maxRecDepth 100000 in
theorem refSame15_any (A1 A2 : Option Addr) (c1 c2 : Nat) (a b : List (List UInt8)) (w : World) (h1 : TextsAt w w.heap.size A1 a.length a) (h2 : TextsAt w w.heap.size A2 b.length b) (hn0 : a.length ≤ 140737488355328) :
    Calls Try.prog 11 #[.slice A1 a.length c1, .slice A2 b.length c2] w fun e w' => e = .returned (.bool (decide (a = b))) ∧ Ext w w' := by
  by_cases hl : a.length = b.length
  · have HEq := hide (show (∀ i, i < a.length → a.getD i [] = b.getD i []) → decide (a = b) = true from fun h => decide_eq_true (Wrd.list_ext hl h))
    have HNe := hide (show ∀ i, a.getD i [] ≠ b.getD i [] → decide (a = b) = false from fun i h => decide_eq_false fun e => h (by rw [e]))
    have hlb : ((a.length : Int) != (b.length : Int)) = false := by simp; omega
    have HA := hide h1
    have HB := hide h2
    generalize decide (a = b) = res at *
    rw [← hl] at HB ⊢
    generalize a.length = n at *
    clear h1 h2 hl
    go_enter Try.func11, Try.ntmps11
    go_wp2
    go_loopw [5] (fun x wr => ∃ i : Nat, i ≤ n ∧ x = .int .i64 (i : Int) ∧ (∀ j, j < i → a.getD j [] = b.getD j []) ∧ Qt w wr) (fun x _ => n - (intOf x).toNat)
    case atStart => exact ⟨0, by omega, rfl, fun j hj => absurd hj (by omega), Qt.refl _⟩
    case round =>
      obtain ⟨i, hi, rfl, hall, hQ⟩ := hrel
      have HAll := hide hall
      clear hall
      by_cases hlt : i < n
      · have hiI : (i : Int) < (n : Int) := by omega
        rcases (HA.out.later hQ.ext).2 with hn | ⟨b1, o1, rfl, _, hc1⟩
        · omega
        rcases (HB.out.later hQ.ext).2 with hn | ⟨b2, o2, rfl, _, hc2⟩
        · omega
        have e1 := hc1 i hlt
        have e2 := hc2 i hlt
        have hNe := HNe.out i
        clear hc1 hc2
        by_cases he : a.getD i [] = b.getD i []
        · have HE := hide he
          obtain ⟨y, hy⟩ : ∃ y, y = b.getD i [] := ⟨_, rfl⟩
          rw [he, ← hy] at e1
          rw [← hy] at e2
          clear he hNe hy
          go_wp2_with fail
          go_quiet (fail)
          go_wp2
          go_roundw
          case rel => exact ⟨i + 1, by omega, by go_num, fun j hj => (by
            by_cases e : j = i
            · rw [e]; exact HE.out
            · exact HAll.out j (by omega)), hQ.drewN _⟩
          case measure => simp [intOf]; omega
        · have HN := hide (hNe he)
          have heb : (!(a.getD i [] == b.getD i [])) = true := by simpa using he
          generalize a.getD i [] = y1 at *
          generalize b.getD i [] = y2 at *
          clear hNe he
          go_wp2_with fail
          go_quiet (fail)
          go_wp2
          go_ret
          exact ⟨ret_bool HN.out.symm, (hQ.drewN _).ext⟩
      · obtain rfl : n = i := by omega
        have HN := hide (HEq.out HAll.out)
        go_wp2
        go_ret
        exact ⟨ret_bool HN.out.symm, hQ.ext⟩
  · have HN := hide (show decide (a = b) = false from decide_eq_false fun e => hl (by rw [e]))
    have hlb : ((a.length : Int) != (b.length : Int)) = true := by simp; omega
    generalize decide (a = b) = res at *
    clear h1 h2
    go_enter Try.func11, Try.ntmps11
    go_wp2
    go_ret
    exact ⟨ret_bool HN.out.symm, Ext.refl _⟩

theorem Wrd.mem_at {l : List (List UInt8)} {i : Nat} (h : i < l.length) : l.getD i [] ∈ l := by
  rw [List.getD_eq_getElem?_getD, List.getElem?_eq_getElem h]
  exact List.getElem_mem _
theorem Wrd.at_mem {l : List (List UInt8)} {x : List UInt8} (h : x ∈ l) : ∃ i, i < l.length ∧ l.getD i [] = x := by
  obtain ⟨i, hi, rfl⟩ := List.getElem_of_mem h
  exact ⟨i, hi, by rw [List.getD_eq_getElem?_getD, List.getElem?_eq_getElem hi]; rfl⟩
set_option maxHeartbeats 1000000 in
set_option maxRecDepth 10000 in
theorem refHas15_any (A : Option Addr) (n c : Nat) (L : List (List UInt8)) (x : List UInt8) (w : World) (h : TextsAt w w.heap.size A n L) (hn : n ≤ 1000000) :
    Calls Try.prog 21 #[.slice A n c, .string ⟨x.toArray⟩] w fun e w' => e = .returned (.bool (decide (x ∈ L))) ∧ w = w' := by
  have hl := h.1
  have HA := hide h
  have HYes := hide (show ∀ i, i < n → L.getD i [] = x → decide (x ∈ L) = true from fun i hi e => decide_eq_true (e ▸ mem_at (by omega)))
  have HNo := hide (show (∀ i, i < n → L.getD i [] ≠ x) → decide (x ∈ L) = false from fun h => decide_eq_false fun hm => by
    obtain ⟨i, hi, e⟩ := at_mem hm
    exact h i (by omega) e)
  generalize decide (x ∈ L) = res at *
  clear h hl
  go_enter Try.func21, Try.ntmps21
  go_wp2
  go_loopw [5] (fun y wr => ∃ i : Nat, i ≤ n ∧ y = .int .i64 (i : Int) ∧ (∀ j, j < i → L.getD j [] ≠ x) ∧ wr = w) (fun y _ => n - (intOf y).toNat)
  case atStart => exact ⟨0, by omega, rfl, fun j hj => absurd hj (by omega), rfl⟩
  case round =>
    obtain ⟨i, hi, rfl, hall, rfl⟩ := hrel
    have HAll := hide hall
    clear hall
    by_cases hlt : i < n
    · have hiI : (i : Int) < (n : Int) := by omega
      rcases HA.out.2 with hn0 | ⟨b1, o1, rfl, _, hc1⟩
      · omega
      have e1 := hc1 i hlt
      have HYi := hide (HYes.out i hlt)
      obtain ⟨y, hy⟩ : ∃ y, y = L.getD i [] := ⟨_, rfl⟩
      rw [← hy] at e1 HYi
      have HY := hide hy
      clear hc1 hy
      by_cases g : y = x
      · have HR := hide (HYi.out g)
        have hb : (y == x) = true := by simpa using g
        clear g HYi HYes HNo
        go_wp2
        go_ret
        exact ⟨ret_bool HR.out.symm, rfl⟩
      · have hb : (y == x) = false := by simpa using g
        have HG := hide g
        clear g
        go_wp2
        go_roundw
        case rel => exact ⟨i + 1, by omega, by go_num, fun j hj => (by
          by_cases e : j = i
          · rw [e, ← HY.out]; exact HG.out
          · exact HAll.out j (by omega)), trivial⟩
        case measure => simp [intOf]; omega
    · obtain rfl : n = i := by omega
      have HN := hide (HNo.out HAll.out)
      go_wp2
      go_ret
      exact ⟨ret_bool HN.out.symm, rfl⟩

attribute [local go_sem ↓] run_txtAt run_txtLen run_txtCut
/-- What One tells. -/
def OneTo (w : World) (l : List UInt8) (e : Ending) (w' : World) : Prop := e = .returned (.tuple #[.string ⟨(oneE l).1.toArray⟩, .bool (oneE l).2]) ∧ Ext w w'
set_option maxHeartbeats 1000000 in
set_option maxRecDepth 10000 in
theorem refOne_any (l : List UInt8) (w : World) (hl : l.length ≤ maxLen) : Calls Try.prog 15 #[.string ⟨l.toArray⟩] w (OneTo w l) := by
  unfold OneTo
  unfold maxLen at hl
  by_cases h1 : l.length < 1
  · have HN := hide (show oneE l = ([], false) by unfold oneE; rw [if_neg (by omega)])
    have h1I : (l.length : Int) < 1 := by omega
    rw [HN.out]
    clear HN h1
    go_enter Try.func15, Try.ntmps15
    go_wp2
    go_ret2
    exact ⟨rfl, Ext.refl _⟩
  by_cases h2 : 24 < l.length
  · have HN := hide (show oneE l = ([], false) by unfold oneE; rw [if_neg (by omega)])
    have h1I : ¬ (l.length : Int) < 1 := by omega
    have h2I : (24 : Int) < (l.length : Int) := by omega
    rw [HN.out]
    clear HN h1 h2
    go_enter Try.func15, Try.ntmps15
    go_wp2
    go_ret2
    exact ⟨rfl, Ext.refl _⟩
  have h1I : ¬ (l.length : Int) < 1 := by omega
  have h2I : ¬ (24 : Int) < (l.length : Int) := by omega
  have HBad := hide (show ∀ i, i < l.length → isL (l.getD i 0) = false → oneE l = ([], false) from fun i hi h => by
    unfold oneE
    rw [if_neg]
    rintro ⟨_, h3⟩
    have := List.all_eq_true.1 h3 (l.getD i 0) (by rw [List.getD_eq_getElem?_getD, List.getElem?_eq_getElem hi]; exact List.getElem_mem _)
    rw [h] at this
    cases this)
  have HGood := hide (show (∀ i, i < l.length → isL (l.getD i 0) = true) → oneE l = (l.map small, true) from fun h => by
    unfold oneE
    rw [if_pos]
    refine ⟨⟨by omega, by omega⟩, List.all_eq_true.2 fun x hx => ?_⟩
    obtain ⟨i, hi, rfl⟩ := List.getElem_of_mem hx
    have := h i hi
    rwa [List.getD_eq_getElem?_getD, List.getElem?_eq_getElem hi] at this)
  have HTake := hide (show ∀ i, i < l.length → (l.map small).take (i + 1) = (l.map small).take i ++ [small (l.getD i 0)] from fun i hi => by
    rw [List.take_add_one, List.getElem?_map, List.getElem?_eq_getElem hi, List.getD_eq_getElem?_getD, List.getElem?_eq_getElem hi]
    rfl)
  have HAll := hide (show (l.map small).take l.length = l.map small from List.take_of_length_le (by simp))
  have HTl := hide (show ∀ i, i ≤ l.length → ((l.map small).take i).length = i from fun i hi => by rw [List.length_take, List.length_map]; omega)
  generalize oneE l = res at *
  go_enter Try.func15, Try.ntmps15
  go_wp2
  go_loopw [5, 4] (fun x u wr => ∃ (i : Nat) (q : Value), i ≤ l.length ∧ x = .int .i64 (i : Int) ∧ q = u ∧ OwnB wr w.heap.size q ((l.map small).take i) ∧ (∀ j, j < i → isL (l.getD j 0) = true) ∧ Ext w wr) (fun x _ _ => l.length - (intOf x).toNat)
  case atStart => exact ⟨0, _, by omega, rfl, rfl, OwnB.nil _ _, fun j hj => absurd hj (by omega), Ext.refl _⟩
  case round =>
    obtain ⟨i, q, hi, rfl, rfl, hO, hall, hE⟩ := hrel
    have HAl := hide hall
    clear hall
    by_cases hlt : i < l.length
    · have hiI : (i : Int) < (l.length : Int) := by omega
      have HT := hide (HTake.out i hlt)
      have HB := hide (HBad.out i hlt)
      have HNx := hide (show isL (l.getD i 0) = true → ∀ j, j < i + 1 → isL (l.getD j 0) = true from fun h j hj => by
        by_cases e : j = i
        · rw [e]; exact h
        · exact HAl.out j (by omega))
      obtain ⟨d, hd0⟩ : ∃ d, d = l.getD i 0 := ⟨_, rfl⟩
      have hd : l[i]'hlt = d := by rw [hd0]; simp [List.getD_eq_getElem?_getD, hlt]
      rw [← hd0] at HT HB HNx
      have CD := fun W => refSmall_any d W
      have hlen : ((l.map small).take i).length = i := HTl.out i hi
      obtain ⟨Q, hQ0⟩ : ∃ Q, Q = (l.map small).take i := ⟨_, rfl⟩
      rw [← hQ0] at hO HT hlen
      have HE := hide hE
      have HO := hide hO
      clear hd0 hQ0 hE hO
      cases hL : isL d with
      | false =>
        have hz := small_zero hL
        have HR := hide (HB.out hL)
        generalize (small d).toNat = z at *
        clear hL HNx HB hlen
        go_wp2_with fail
        refine (CD _).mono ?_
        rintro e w' ⟨rfl, rfl⟩
        go_wp2
        go_ret2
        rw [HR.out]
        exact ⟨rfl, HE.out⟩
      | true =>
        have hz := small_ne hL
        have HN := hide (HNx.out hL)
        obtain ⟨z, hz0⟩ : ∃ z, z = (small d).toNat := ⟨_, rfl⟩
        rw [← hz0] at CD hz
        have hzb : ((z : Int) == 0) = false := by rw [beq_eq_false_iff_ne]; omega
        have HZ := hide hz0
        have hX := extNew wr (.cells #[.int .u8 (z : Int)] 5)
        have HQX := hide (HO.out.ext hX)
        have HBX := hide (bytesNew wr [small d] #[.int .u8 (z : Int)] 5 (0, 0) (by rw [HZ.out]; rfl) 1 rfl)
        have HEX := hide (HE.out.trans hX)
        have hql : Q.length + 1 ≤ 140737488355328 := by omega
        clear hL HNx HB hz0 hX hlen
        go_wp2_with fail
        refine (CD _).mono ?_
        rintro e w' ⟨rfl, rfl⟩
        go_wp2_with fail
        refine (CD _).mono ?_
        rintro e w' ⟨rfl, rfl⟩
        go_wp2_with (at_builtin; refine wpList_app (l := Q) rfl (.tmp 25) (.tmp 30) rfl rfl HQX.out rfl HBX.out hql HEX.out.le ?_; intro v2 w2 hO2 hG2)
        go_roundw
        case rel => exact ⟨i + 1, v2, by omega, by go_num, rfl, by rw [HT.out]; exact hO2, HN.out, Below.grown HEX.out hG2 HEX.out.le (fun j hj => (HQX.out.lt j hj).1)⟩
        case measure => simp [intOf]; omega
    · obtain rfl : i = l.length := by omega
      have HR := hide (HGood.out HAl.out)
      rw [HAll.out] at hO
      obtain ⟨A, c, rfl, hq1, hq2, hq3⟩ := hO.form
      have hcv := conv_bytes c hq3 (fun h => by subst h; rcases hq3.2 with h | ⟨_, _, h, _⟩; exact h; cases h)
      have HE := hide hE
      generalize l.map small = Q at *
      clear hO hq1 hq2 hq3 hE
      go_wp2
      go_ret2
      rw [HR.out]
      exact ⟨rfl, HE.out⟩

set_option maxHeartbeats 1000000 in
set_option maxRecDepth 10000 in
theorem refTerm_any (l : List UInt8) (w : World) (hl : l.length ≤ maxLen) : Calls Try.prog 17 #[.string ⟨l.toArray⟩] w fun e w' => e = .returned (.bool (termE l)) ∧ Ext w w' := by
  have hbl : (bareE l).length ≤ maxLen := by
    unfold bareE
    split
    · rw [List.length_tail]; omega
    · exact hl
  have CO := fun W => refOne_any (bareE l) W hbl
  unfold OneTo at CO
  unfold maxLen at hl hbl
  have HT := hide (show termE l = ((oneE (bareE l)).2 && decide ((oneE (bareE l)).1 = bareE l)) from rfl)
  rw [HT.out]
  cases l with
  | nil =>
    have hb : bareE ([] : List UInt8) = [] := rfl
    rw [hb] at CO ⊢
    clear HT hb hbl hl
    generalize oneE [] = r at *
    obtain ⟨r1, r2⟩ := r
    simp only at CO ⊢
    cases r2 with
    | false =>
      go_enter Try.func17, Try.ntmps17
      go_wp2_with fail
      refine (CO _).mono ?_
      rintro e w2 ⟨rfl, hE2⟩
      go_wp2
      go_ret
      exact ⟨rfl, hE2⟩
    | true =>
      have hbq : (r1 == ([] : List UInt8)) = decide (r1 = []) := by cases r1 <;> rfl
      go_enter Try.func17, Try.ntmps17
      go_wp2_with fail
      refine (CO _).mono ?_
      rintro e w2 ⟨rfl, hE2⟩
      go_wp2
      go_ret
      exact ⟨by simp, hE2⟩
  | cons a t =>
    obtain ⟨s, hs⟩ : ∃ s, s = (a :: t) := ⟨_, rfl⟩
    have hp : 0 < s.length := by rw [hs]; simp
    have hd : s[0]'hp = a := by simp [hs]
    have hdr : s.drop 1 = t := by rw [hs]; rfl
    have hp0 : (0 : Int) < (s.length : Int) := by omega
    have hp1 : (1 : Int) ≤ (s.length : Int) := by omega
    by_cases ha : a = 64
    · have hb : bareE (a :: t) = t := by rw [ha]; rfl
      have hab : ((a.toNat : Int) == 64) = true := by rw [ha]; rfl
      rw [hb] at CO ⊢
      generalize oneE t = r at *
      clear HT hb hbl hl ha
      rw [← hs]
      clear hs
      obtain ⟨r1, r2⟩ := r
      simp only at CO ⊢
      cases r2 with
      | false =>
        go_enter Try.func17, Try.ntmps17
        go_wp2_with fail
        refine (CO _).mono ?_
        rintro e w2 ⟨rfl, hE2⟩
        go_wp2
        go_ret
        exact ⟨rfl, hE2⟩
      | true =>
        have hbq : (r1 == t) = decide (r1 = t) := by
          by_cases h : r1 = t
          · rw [decide_eq_true h, h, beq_self_eq_true]
          · rw [decide_eq_false h, beq_eq_false_iff_ne]; exact h
        rw [Bool.true_and, ← hbq]
        generalize hres : (r1 == t) = res at *
        clear hbq
        go_enter Try.func17, Try.ntmps17
        go_wp2_with fail
        refine (CO _).mono ?_
        rintro e w2 ⟨rfl, hE2⟩
        go_wp2
        go_ret
        exact ⟨rfl, hE2⟩
    · have hb : bareE (a :: t) = a :: t := by unfold bareE; rw [if_neg]; simpa using ha
      have hab : ((a.toNat : Int) == 64) = false := by
        rw [beq_eq_false_iff_ne]
        intro h
        exact ha (UInt8.toNat_inj.1 (by show a.toNat = 64; omega))
      rw [hb] at CO ⊢
      rw [← hs] at CO ⊢
      generalize oneE s = r at *
      clear HT hb hbl hl ha hs hdr
      obtain ⟨r1, r2⟩ := r
      simp only at CO ⊢
      cases r2 with
      | false =>
        go_enter Try.func17, Try.ntmps17
        go_wp2_with fail
        refine (CO _).mono ?_
        rintro e w2 ⟨rfl, hE2⟩
        go_wp2
        go_ret
        exact ⟨rfl, hE2⟩
      | true =>
        have hbq : (r1 == s) = decide (r1 = s) := by
          by_cases h : r1 = s
          · rw [decide_eq_true h, h, beq_self_eq_true]
          · rw [decide_eq_false h, beq_eq_false_iff_ne]; exact h
        rw [Bool.true_and, ← hbq]
        generalize hres : (r1 == s) = res at *
        clear hbq
        go_enter Try.func17, Try.ntmps17
        go_wp2_with fail
        refine (CO _).mono ?_
        rintro e w2 ⟨rfl, hE2⟩
        go_wp2
        go_ret
        exact ⟨rfl, hE2⟩
end Go.Proofs.Ytnkiopfpcddliaa
