/- The document's functions of chapter 14: put, Any. -/
import Derived.Test.YtfkmcknkapplmaaSetRef
namespace Go.Proofs.Ytfkmcknkapplmaa
open Go.RowKit Sets

/-- append of one number to a list of the call's own, the world told by what there was. -/
theorem wpList_lit {ops : Array Oper} {rest : List Oper} {o : Oper} {a : Act} {Q : Exit → Act → World → Prop} (hgd : o.guard = none) (s x : Operand) (ho : o.op = .call { callee := .builtin .append, args := #[s, x], argTypes := #[22, 22] }) {w0 w : World} {v : Value} {L : List Int}
    (hE : Ext w0 w) (hO : OwnI w w0.heap.size v L) (hs : a.eval s = v) (p : Int) {c : Nat} (hx : a.eval x = .slice (some ⟨w.heap.size, 0, none⟩) 1 c) (hlen : L.length ≤ 1000000)
    (h : ∀ v' w', OwnI w' w0.heap.size v' (L ++ [p]) → Ext w0 w' → wpList Try.prog ops Q rest (a.put o.dst v') w') : wpList Try.prog ops Q (o :: rest) a (w.alloc (.cells #[.int .i64 p] 3)) :=
  wpList_appIB hgd s x ho hs p (hO.ext (extNew w _)) hx hlen hE.le fun v' w' h1 h2 => h v' w' h1 (Below.grown (hE.alloc _) h2 (by rw [World.size_alloc]; have := hE.le; omega) (fun k hk => (hO.lt k hk).1))
/-- A list of numbers is told. -/
def MadeL (w : World) (l : List Int) (e : Ending) (w' : World) : Prop := ∃ A c, e = .returned (.slice A l.length c) ∧ l.length ≤ c ∧ c ≤ maxLen ∧ IntsAt w' w'.heap.size A l.length l ∧ Ext w w'

theorem Sets.putR_drop {L : List Int} {i : Nat} (h : i < L.length) (x : Int) (d : Bool) : putR (L.drop i) x d = (if d = false ∧ x < L.getD i 0 then [x] else []) ++ L.getD i 0 :: putR (L.drop (i + 1)) x (d || decide (x ≤ L.getD i 0)) := by
  rw [List.drop_eq_getElem_cons h, putR, List.getD_eq_getElem?_getD, List.getElem?_eq_getElem h]
  rfl

set_option maxHeartbeats 2000000 in
set_option maxRecDepth 10000 in
theorem refSPut_any (A : Option Addr) (n c : Nat) (L : List Int) (x : Int) (w : World) (h : IntsAt w w.heap.size A n L) (hn : n ≤ 480000) :
    Calls Try.prog 33 #[.slice A n c, .int .i64 x] w (MadeL w (Sets.put L x)) := by
  have hl := h.1
  have HA := hide h
  have H0 := hide (show Sets.put L x = [] ++ putR (L.drop 0) x false from rfl)
  have HEnd := hide (show ∀ d, putR (L.drop n) x d = if d then [] else [x] from fun d => by rw [List.drop_of_length_le (by omega)]; rfl)
  have HStep := hide (fun (i : Nat) (hi : i < n) d => putR_drop (L := L) (i := i) (by omega) x d)
  have HPl := hide (put_len x L)
  generalize Sets.put L x = res at *
  unfold MadeL
  clear h hl
  go_enter Try.func33, Try.ntmps33
  go_wp2
  go_loopw [7, 5, 6] (fun y u z wr => ∃ (i : Nat) (v : Value) (d : Bool) (P : List Int), i ≤ n ∧ y = .int .i64 (i : Int) ∧ u = v ∧ z = .bool d ∧ OwnI wr w.heap.size v P ∧ P.length ≤ 2 * i ∧ res = P ++ putR (L.drop i) x d ∧ Ext w wr) (fun y _ _ _ => n - (intOf y).toNat)
  case atStart => exact ⟨0, _, false, [], by omega, rfl, rfl, rfl, OwnI.nil _ _, by simp, H0.out, Ext.refl _⟩
  case round =>
    clear H0
    obtain ⟨i, v, d, P, hi, rfl, rfl, rfl, hO, hPl, hres, hE⟩ := hrel
    have HRes := hide hres
    clear hres
    by_cases hlt : i < n
    · have hiI : (i : Int) < (n : Int) := by omega
      rcases (HA.out.later hE).2 with hn0 | ⟨b1, o1, rfl, _, hc1⟩
      · omega
      have e1 := hc1 i hlt
      have HC := hide (show ∀ W, Ext w W → W.cell? ⟨b1, o1 + i, none⟩ = some (.int .i64 (L.getD i 0)) from fun W hW => by
        rcases (HA.out.later hW).2 with h9 | ⟨b', o', e', _, hc'⟩
        · omega
        · simp only [Option.some.injEq, Addr.mk.injEq, and_true] at e'
          obtain ⟨rfl, rfl⟩ := e'
          exact hc' i hlt)
      have HSt := hide (HStep.out i hlt)
      obtain ⟨y, hy⟩ : ∃ y, y = L.getD i 0 := ⟨_, rfl⟩
      rw [← hy] at e1 HC HSt
      have hp1 : P.length ≤ 1000000 := by omega
      have HPl2 := hide hPl
      have HO := hide hO
      have HE := hide hE
      clear hc1 hy hO hE hPl
      cases d with
      | true =>
        have HN := hide (show res = (P ++ [y]) ++ putR (L.drop (i + 1)) x true by rw [HRes.out, HSt.out, if_neg (by simp), Bool.true_or, List.append_assoc]; rfl)
        by_cases g : y = x
        · have hb : (y == x) = true := by simpa using g
          clear g
          go_wp2_with (at_builtin; refine wpList_lit rfl (.tmp 34) (.tmp 39) rfl HE.out HO.out rfl y rfl hp1 ?_; intro v2 w2 hO2 hE2)
          go_roundw
          case rel => exact ⟨i + 1, v2, true, _, by omega, by go_num, rfl, rfl, hO2, by rw [List.length_append, List.length_singleton]; have := HPl2.out; omega, HN.out, hE2⟩
          case measure => simp [intOf]; omega
        · have hb : (y == x) = false := by simpa using g
          clear g
          go_wp2_with (at_builtin; refine wpList_lit rfl (.tmp 34) (.tmp 39) rfl HE.out HO.out rfl y rfl hp1 ?_; intro v2 w2 hO2 hE2)
          go_roundw
          case rel => exact ⟨i + 1, v2, true, _, by omega, by go_num, rfl, rfl, hO2, by rw [List.length_append, List.length_singleton]; have := HPl2.out; omega, HN.out, hE2⟩
          case measure => simp [intOf]; omega
      | false =>
        by_cases g1 : x < y
        · have HN := hide (show res = ((P ++ [x]) ++ [y]) ++ putR (L.drop (i + 1)) x true by
            rw [HRes.out, HSt.out, if_pos ⟨rfl, g1⟩, decide_eq_true (show x ≤ y by omega), Bool.or_true]; simp)
          have hb : (y == x) = false := by rw [beq_eq_false_iff_ne]; omega
          obtain ⟨P2, hP2⟩ : ∃ Z, Z = P ++ [x] := ⟨_, rfl⟩
          have hp2 : P2.length ≤ 1000000 := by rw [hP2, List.length_append, List.length_singleton]; have := HPl2.out; omega
          have HP2 := hide hP2
          clear hP2
          go_wp2_with (first
            | (at_builtin; refine wpList_lit rfl (.tmp 24) (.tmp 26) rfl HE.out HO.out rfl x rfl hp1 ?_; intro v1 w1 hO1 hE1; rw [← HP2.out] at hO1; have f1 := HC.out w1 hE1; have HO1 := hide hO1; have HE1 := hide hE1; clear hO1 hE1 e1)
            | (at_builtin; refine wpList_lit rfl (.tmp 34) (.tmp 39) rfl HE1.out HO1.out rfl y rfl hp2 ?_; intro v2 w2 hO2 hE2))
          go_roundw
          case rel => exact ⟨i + 1, v2, true, _, by omega, by go_num, rfl, rfl, hO2, by rw [List.length_append, List.length_singleton, HP2.out, List.length_append, List.length_singleton]; have := HPl2.out; omega, by rw [HP2.out]; exact HN.out, hE2⟩
          case measure => simp [intOf]; omega
        · by_cases g2 : y = x
          · have HN := hide (show res = (P ++ [y]) ++ putR (L.drop (i + 1)) x true by
              rw [HRes.out, HSt.out, if_neg (fun h => g1 h.2), decide_eq_true (show x ≤ y by omega), Bool.or_true]; simp)
            have hb : (y == x) = true := by simpa using g2
            clear g2
            go_wp2_with (at_builtin; refine wpList_lit rfl (.tmp 34) (.tmp 39) rfl HE.out HO.out rfl y rfl hp1 ?_; intro v2 w2 hO2 hE2)
            go_roundw
            case rel => exact ⟨i + 1, v2, true, _, by omega, by go_num, rfl, rfl, hO2, by rw [List.length_append, List.length_singleton]; have := HPl2.out; omega, HN.out, hE2⟩
            case measure => simp [intOf]; omega
          · have HN := hide (show res = (P ++ [y]) ++ putR (L.drop (i + 1)) x false by
              rw [HRes.out, HSt.out, if_neg (fun h => g1 h.2), decide_eq_false (show ¬ x ≤ y by omega), Bool.or_false]; simp)
            have hb : (y == x) = false := by simpa using g2
            clear g2
            go_wp2_with (at_builtin; refine wpList_lit rfl (.tmp 34) (.tmp 39) rfl HE.out HO.out rfl y rfl hp1 ?_; intro v2 w2 hO2 hE2)
            go_roundw
            case rel => exact ⟨i + 1, v2, false, _, by omega, by go_num, rfl, rfl, hO2, by rw [List.length_append, List.length_singleton]; have := HPl2.out; omega, HN.out, hE2⟩
            case measure => simp [intOf]; omega
    · obtain rfl : n = i := by omega
      have HO := hide hO
      have HE := hide hE
      have hp1 : P.length ≤ 1000000 := by omega
      rw [HEnd.out] at HRes
      clear hO hE
      cases d with
      | true =>
        have HF := hide (show res = P by rw [HRes.out]; simp)
        go_wp2
        go_ret
        obtain ⟨A2, c2, rfl, h1, h2, h3⟩ := HO.out.form2
        rw [HF.out]
        exact ⟨A2, c2, rfl, h1, h2, h3, HE.out⟩
      | false =>
        have HF := hide (show res = P ++ [x] by rw [HRes.out]; simp)
        go_wp2_with (at_builtin; refine wpList_lit rfl (.tmp 43) (.tmp 45) rfl HE.out HO.out rfl x rfl hp1 ?_; intro v2 w2 hO2 hE2)
        go_ret
        obtain ⟨A2, c2, rfl, h1, h2, h3⟩ := hO2.form2
        rw [HF.out]
        exact ⟨A2, c2, rfl, h1, h2, h3, hE2⟩

theorem Sets.puts_len_le (l : List Int) : ∀ out : List Int, (l.foldl Sets.put out).length ≤ out.length + l.length := by
  induction l with
  | nil => intro out; simp
  | cons x l ih =>
    intro out
    have h1 := ih (Sets.put out x)
    have h2 := put_len x out
    rw [List.foldl_cons]
    unfold Sets.put at h1 h2 ⊢
    simp only [List.length_cons]
    omega
theorem Sets.take_fold {l : List Int} {i : Nat} (h : i < l.length) (out : List Int) : (l.take (i + 1)).foldl Sets.put out = Sets.put ((l.take i).foldl Sets.put out) (l.getD i 0) := by
  rw [List.take_add_one, List.getElem?_eq_getElem h, List.foldl_append, List.getD_eq_getElem?_getD, List.getElem?_eq_getElem h]
  rfl
theorem Sets.take_any {ls : List (List Int)} {i : Nat} (h : i < ls.length) : anyL (ls.take (i + 1)) = (ls.getD i []).foldl Sets.put (anyL (ls.take i)) := by
  unfold anyL
  rw [List.take_add_one, List.getElem?_eq_getElem h, List.foldl_append, List.getD_eq_getElem?_getD, List.getElem?_eq_getElem h]
  rfl
theorem Sets.any_len : ∀ (ls : List (List Int)) (m : Nat), (∀ l, l ∈ ls → l.length ≤ m) → (anyL ls).length ≤ ls.length * m := by
  intro ls m h
  have key : ∀ (k : Nat), k ≤ ls.length → (anyL (ls.take k)).length ≤ k * m := by
    intro k
    induction k with
    | zero => intro _; simp [anyL]
    | succ k ih =>
      intro hk
      have h1 := ih (by omega)
      rw [take_any (by omega)]
      have h2 := puts_len_le (ls.getD k []) (anyL (ls.take k))
      have h3 := h (ls.getD k []) (by rw [List.getD_eq_getElem?_getD, List.getElem?_eq_getElem (by omega)]; exact List.getElem_mem _)
      rw [Nat.succ_mul]
      omega
  have := key ls.length (Nat.le_refl _)
  rwa [List.take_length] at this

set_option maxHeartbeats 2000000 in
set_option maxRecDepth 10000 in
theorem refSAny_any (A : Option Addr) (n c : Nat) (ls : List (List Int)) (w : World) (h : ILists w w.heap.size A n ls) (hn : n ≤ 20) (hs : ∀ l, l ∈ ls → l.length ≤ 20000) :
    Calls Try.prog 20 #[.slice A n c] w (MadeS w (anyE ls)) := by
  have C0 := refSAll_any A n c ls w h (by omega) (fun l hl => by have := hs l hl; omega)
  have hl := h.1
  have HA := hide h
  cases hk : all ls with
  | false =>
    have HN := hide (show anyE ls = ([], 13) by unfold anyE; rw [hk, if_pos rfl])
    rw [hk] at C0
    rw [HN.out]
    clear h hs hl hk HN
    go_enter Try.func20, Try.ntmps20
    go_wp2_with fail
    refine C0.mono ?_
    rintro e w2 ⟨rfl, hE2⟩
    clear C0
    go_wp2
    go_ret2
    exact MadeS.none w hE2 13
  | true =>
    have HN := hide (show anyE ls = (anyL ls, 0) by unfold anyE; rw [hk, if_neg (by simp)])
    rw [hk] at C0
    have HTk := hide (fun (i : Nat) (hi : i < n) => take_any (ls := ls) (i := i) (by omega))
    have HLen := hide (show ∀ i, i < n → (ls.getD i []).length ≤ 20000 from fun i hi => hs _ (by
      rw [List.getD_eq_getElem?_getD, List.getElem?_eq_getElem (by omega)]
      exact List.getElem_mem _))
    have HAl := hide (show ∀ i, i ≤ n → (anyL (ls.take i)).length ≤ 400000 from fun i hi => by
      have h1 := any_len (ls.take i) 20000 (fun l hl => hs l (List.mem_of_mem_take hl))
      have h2 : (ls.take i).length ≤ 20 := by rw [List.length_take]; omega
      have h3 : (ls.take i).length * 20000 ≤ 20 * 20000 := Nat.mul_le_mul_right _ h2
      omega)
    have HAll := hide (show anyL (ls.take n) = anyL ls by rw [List.take_of_length_le (by omega)])
    rw [HN.out]
    clear h hs hl hk HN
    go_enter Try.func20, Try.ntmps20
    go_wp2_with fail
    refine C0.mono ?_
    rintro e w2 ⟨rfl, hE2⟩
    clear C0
    go_wp2
    go_loopw [5, 4] (fun y u wr => ∃ (i : Nat) (B : Option Addr) (d : Nat), i ≤ n ∧ y = .int .i64 (i : Int) ∧ u = .slice B (anyL (ls.take i)).length d ∧ (anyL (ls.take i)).length ≤ d ∧ d ≤ maxLen ∧ IntsAt wr wr.heap.size B (anyL (ls.take i)).length (anyL (ls.take i)) ∧ Ext w wr) (fun y _ _ => n - (intOf y).toNat)
    case atStart => exact ⟨0, none, 0, by omega, rfl, by simp [anyL], by simp [anyL], by unfold maxLen; omega, ⟨rfl, .inl (by simp [anyL])⟩, hE2⟩
    case round =>
      clear hE2
      obtain ⟨i, B, d, hi, rfl, rfl, hd1, hd2, hI, hE⟩ := hrel
      by_cases hlt : i < n
      · have hiI : (i : Int) < (n : Int) := by omega
        obtain ⟨b1, o1, a1, c1, rfl, e1, _, _, hr⟩ := (HA.out.ext hE).at hlt
        have HCell := hide (show ∀ W, Ext w W → W.cell? ⟨b1, o1 + i, none⟩ = some (.slice a1 (ls.getD i []).length c1) ∧ IntsAt W W.heap.size a1 (ls.getD i []).length (ls.getD i []) ∨ True from fun _ _ => .inr trivial)
        obtain ⟨wa, rfl⟩ : ∃ W, W = wr := ⟨_, rfl⟩
        obtain ⟨l, hl⟩ : ∃ l, l = ls.getD i [] := ⟨_, rfl⟩
        have HT := hide (HTk.out i hlt)
        have HLl := hide (HLen.out i hlt)
        have HAi := hide (HAl.out i hi)
        rw [← hl] at e1 hr HT HLl
        obtain ⟨out, hout⟩ : ∃ o, o = anyL (ls.take i) := ⟨_, rfl⟩
        rw [← hout] at hd1 hI HT HAi ⊢
        have HR := hide hr
        have HE := hide hE
        have hb1 := World.block_lt_of_cell? _ _ e1
        have He1 := hide e1
        have HI := hide hI
        have HD := hide (And.intro hd1 hd2)
        clear hl hout hr hE HCell hI hd1 hd2 e1
        go_wp2_with fail
        go_loopw [6, 4] (fun y u wr => ∃ (k : Nat) (B : Option Addr) (d : Nat), k ≤ l.length ∧ y = .int .i64 (k : Int) ∧ u = .slice B ((l.take k).foldl Sets.put out).length d ∧ ((l.take k).foldl Sets.put out).length ≤ d ∧ d ≤ maxLen ∧ IntsAt wr wr.heap.size B ((l.take k).foldl Sets.put out).length ((l.take k).foldl Sets.put out) ∧ Ext wa wr) (fun y _ _ => l.length - (intOf y).toNat)
        case atStart => exact ⟨0, B, d, by omega, rfl, by simp, HD.out.1, HD.out.2, HI.out, Ext.refl _⟩
        case round =>
          clear HI HD
          obtain ⟨k, B, d, hk, rfl, rfl, hd1, hd2, hI, hE⟩ := hrel
          have e1 := (hE.cell hb1).trans He1.out
          by_cases hkl : k < l.length
          · have hkI : (k : Int) < (l.length : Int) := by omega
            have hk2 : k < 20000 := by have := HLl.out; omega
            rcases (HR.out.later hE).2 with hn0 | ⟨b2, o2, rfl, _, hc2⟩
            · omega
            have e2 := hc2 k hkl
            have HF := hide (take_fold hkl out)
            obtain ⟨P, hP⟩ : ∃ P, P = (l.take k).foldl Sets.put out := ⟨_, rfl⟩
            have hPl : P.length ≤ 420000 := by
              have h1 := puts_len_le (l.take k) out
              have h2 := HAi.out
              have h3 := HLl.out
              rw [List.length_take] at h1
              rw [hP]
              omega
            rw [← hP] at hI HF hd1 ⊢
            obtain ⟨y, hy⟩ : ∃ y, y = l.getD k 0 := ⟨_, rfl⟩
            rw [← hy] at e2 HF
            have C := refSPut_any B P.length d P y _ hI (by omega)
            have HE2 := hide hE
            clear hP hy hc2 hI hd1 hE hPl
            go_wp2_with fail
            refine C.mono ?_
            rintro e w5 ⟨B2, d2, rfl, h1, h2, h3, hE5⟩
            have HI5 := hide h3
            have HE5 := hide (HE2.out.trans hE5)
            have HD5 := hide (And.intro h1 h2)
            clear C h1 h2 h3 hE5 e1 e2
            go_wp2
            go_roundw
            case rel => exact ⟨k + 1, B2, d2, by omega, by go_num, by rw [HF.out], by rw [HF.out]; exact HD5.out.1, HD5.out.2, by rw [HF.out]; exact HI5.out, HE5.out⟩
            case measure => simp [intOf]; omega
          · obtain rfl : l.length = k := by omega
            have HT2 := hide (show anyL (ls.take (i + 1)) = (l.take l.length).foldl Sets.put out by rw [List.take_length, HT.out])
            obtain ⟨P, hP⟩ : ∃ P, P = (l.take l.length).foldl Sets.put out := ⟨_, rfl⟩
            rw [← hP] at hI hd1 HT2 ⊢
            have HI5 := hide hI
            have HE5 := hide (HE.out.trans hE)
            have HD5 := hide (And.intro hd1 hd2)
            clear hP hI hE hd1 hd2
            go_wp2
            go_roundw
            case rel => exact ⟨i + 1, B, d, by omega, by go_num, by rw [HT2.out], by rw [HT2.out]; exact HD5.out.1, HD5.out.2, by rw [HT2.out]; exact HI5.out, HE5.out⟩
            case measure => simp [intOf]; omega
      · obtain rfl : n = i := by omega
        rw [HAll.out] at hI hd1 ⊢
        go_wp2
        go_ret2
        exact ⟨B, d, rfl, hd1, hd2, hI, hE⟩
end Go.Proofs.Ytfkmcknkapplmaa
