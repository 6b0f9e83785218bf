/- The program's kept: the numbers that are asked for. -/
import Derived.Test.YtfkmcknkapplmaaSetPSev
namespace Go.Proofs.Ytfkmcknkapplmaa
open Go.RowKit Sets

/-- A function that is called as a value. -/
def EnteredS (K : Nat) : Prop := ∀ (args : Array Value) (W : World), (callFunc K args).run Try.prog W = .ok (.enter K args) W
theorem enteredS_of {K : Nat} {fn : Func} {c : Code} (hf : Try.prog.funcs[K]? = some fn) (hname : (fn.name == "runtime.NumGoroutine") = false) (hb : fn.body = some c) : EnteredS K := by
  intro args W
  have h1 : fn.name ≠ "runtime.NumGoroutine" := by simpa using hname
  simp [callFunc, hf, h1, hb]
theorem entered_allHave : EnteredS 30 := enteredS_of Try.func30 (by kernel_rfl) rfl
theorem entered_noneHas : EnteredS 42 := enteredS_of Try.func42 (by kernel_rfl) rfl
/-- What kept tells: a list; all below base is as it was. -/
def KeptTo (w : World) (base : Nat) (L : List Int) (e : Ending) (w' : World) : Prop := ∃ A c, e = .returned (.slice A L.length c) ∧ L.length ≤ c ∧ c ≤ maxLen ∧ IntsAt w' w'.heap.size A L.length L ∧ Below base w w'

set_option maxHeartbeats 2000000 in
set_option maxRecDepth 10000 in
theorem kept_any {K : Nat} (hK : EnteredS K) {w : World} {base sb n c : Nat} {A : Option Addr} {ov : Value} {a : List Int} {ls : List (List Int)} {q : Int → Bool}
    (hQ : ∀ W rs x, Sev W base sb (.slice A n c) ov rs → Rems x ls rs → Calls Try.prog K #[.pointer (some ⟨sb, 0, none⟩), .int .i64 x] W (AskTo W base sb (.slice A n c) ov ls x (q x)))
    (h : Sev w base sb (.slice A n c) ov ls) (hA : IntsAt w base A n a) (hn : n ≤ 20000) (ha : ok a = true) (hls : all ls = true) :
    Calls Try.prog 29 #[.pointer (some ⟨sb, 0, none⟩), .func (.func K) #[.pointer (some ⟨sb, 0, none⟩)] #[]] w (KeptTo w base (a.filter q)) := by
  have hEn := fun args W => hK args W
  have hl := hA.1
  have HQ := hide hQ
  have HA := hide hA
  have f0 := h.2.1.at 0 (u := .slice A n c) rfl
  have hsb := h.2.1.lt
  have hbase := h.1
  have HLt := hide (show ∀ i, i < n → i + 1 < n → a.getD i 0 + 1 ≤ a.getD (i + 1) 0 from fun i _ h => by have := ok_lt ha (show i < i + 1 by omega) (by omega); omega)
  have HR0 := hide (Rems.start hls (a.getD 0 0))
  have HTake := hide (show ∀ i, i < n → (a.take (i + 1)).filter q = (a.take i).filter q ++ (if q (a.getD i 0) then [a.getD i 0] else []) from fun i hi => by
    rw [List.take_add_one, List.getElem?_eq_getElem (by omega), List.filter_append, List.getD_eq_getElem?_getD, List.getElem?_eq_getElem (by omega)]
    simp only [Option.toList_some, Option.getD_some, List.filter_cons, List.filter_nil])
  have HFl := hide (show ∀ i, i ≤ n → ((a.take i).filter q).length ≤ 20000 from fun i hi => by
    have h1 := List.length_filter_le q (a.take i)
    rw [List.length_take] at h1
    omega)
  have HAll := hide (show (a.take n).filter q = a.filter q by rw [List.take_of_length_le (by omega)])
  have HS0 := hide h
  have HOv := hide (show ∀ k, ov.ownBlock = some k → base ≤ k ∧ k < w.heap.size from by
    obtain ⟨_, _, _, vs, hO, _⟩ := h
    exact hO.lt)
  unfold KeptTo
  clear h hA hQ ha hls hl
  go_enter Try.func29, Try.ntmps29
  go_wp2
  go_loopw [13, 5] (fun y u wr => ∃ (i : Nat) (v : Value) (rs : List (List Int)), i ≤ n ∧ y = .int .i64 (i : Int) ∧ v = u ∧ OwnI wr w.heap.size v ((a.take i).filter q) ∧ Sev wr base sb (.slice A n c) ov rs ∧ (i < n → Rems (a.getD i 0) ls rs) ∧ Below base w wr ∧ w.heap.size ≤ wr.heap.size) (fun y _ _ => n - (intOf y).toNat)
  case atStart => exact ⟨0, _, ls, by omega, rfl, rfl, OwnI.nil _ _, HS0.out, fun _ => HR0.out, Below.refl _ _, Nat.le_refl _⟩
  case round =>
    clear HS0 HR0 f0
    obtain ⟨i, v, rs, hi, rfl, rfl, hO, hS, hr, hB, hsz⟩ := hrel
    by_cases hlt : i < n
    · have hiI : (i : Int) < (n : Int) := by omega
      rcases (HA.out.below hB (Nat.le_refl _)).2 with hn0 | ⟨b1, o1, rfl, _, hc1⟩
      · omega
      have e1 := hc1 i hlt
      have HT := hide (HTake.out i hlt)
      have HFi := hide (HFl.out i hi)
      have HLi := hide (HLt.out i hlt)
      have hr := hr hlt
      obtain ⟨P, hP⟩ : ∃ P, P = (a.take i).filter q := ⟨_, rfl⟩
      obtain ⟨x, hx⟩ : ∃ x, x = a.getD i 0 := ⟨_, rfl⟩
      rw [← hx] at e1 HT HLi hr
      rw [← hP] at hO HT HFi
      have C := HQ.out wr rs x hS hr
      have HS := hide hS
      have HO := hide hO
      have HB := hide hB
      have HSz := hide hsz
      have HVne := hide (show ∀ k, k < w.heap.size → v.ownBlock ≠ some k from fun k hk e => by have := (hO.lt k e).1; omega)
      have HVov := hide (show v.ownBlock = none ∨ v.ownBlock ≠ ov.ownBlock from by
        cases hv : v.ownBlock with
        | none => exact .inl rfl
        | some k => exact .inr fun e => by have := (hO.lt k hv).1; have := (HOv.out k e.symm).2; omega)
      clear hc1 hP hx hr hS hO hB hsz
      go_wp2_with fail
      refine C.mono ?_
      rintro e w2 ⟨rfl, rs2, hS2, hR2, hG2⟩
      have HO2 := hide (show OwnI w2 w.heap.size v P from World.ownsRow.kept HO.out hG2 HVov.out)
      have HB2 := hide (show Below base w w2 from Below.grown HB.out hG2 (by have := HSz.out; omega) (fun k hk => (HOv.out k hk).1))
      have HSz2 := hide (show w.heap.size ≤ w2.heap.size from Nat.le_trans HSz.out hG2.size)
      have HR2 := hide (show i + 1 < n → Rems (a.getD (i + 1) 0) ls rs2 from fun h => hR2.mono (HLi.out h))
      have HS2 := hide hS2
      clear hS2 hR2 hG2 C e1 HO HB HSz HLi HVov
      cases hq : q x with
      | true =>
        rw [hq, if_pos rfl] at HT
        have hp1 : P.length ≤ 1000000 := by have := HFi.out; omega
        have hX := extNew w2 (.cells #[.int .i64 x] 3)
        have HO3 := hide (HO2.out.ext hX)
        have HBa := hide (show w.heap.size ≤ (w2.alloc (.cells #[.int .i64 x] 3)).heap.size from Nat.le_trans HSz2.out hX.le)
        have HX := hide hX
        clear hX
        go_wp2_with (at_builtin; refine wpList_appIB (v := v) rfl (.tmp 20) (.tmp 22) rfl rfl x HO3.out rfl hp1 HSz2.out ?_; intro v3 w3 hO4 hG4)
        go_roundw
        case rel =>
          have hE : Ext w2 (w2.alloc (.cells #[.int .i64 x] 3)) := HX.out
          have hv : ∀ k, v.ownBlock = some k → w.heap.size ≤ k := fun k hk => (HO3.out.lt k hk).1
          refine ⟨i + 1, v3, rs2, by omega, by go_num, rfl, by rw [HT.out]; exact hO4, (HS2.out.ext hE).kept hG4 (HVne.out sb hsb) ?_ (fun k hk => by have := hv k hk; omega), HR2.out, ?_, Nat.le_trans HBa.out hG4.size⟩
          · cases h9 : ov.ownBlock with
            | none => exact .inl rfl
            | some k => exact .inr fun e => HVne.out k (HOv.out k h9).2 e.symm
          · exact Below.grown (Below.trans HB2.out (Below.mono hE (by have := HSz2.out; omega))) hG4 (by have := HBa.out; omega) (fun k hk => by have := hv k hk; omega)
        case measure => simp [intOf]; omega
      | false =>
        rw [hq, if_neg (by simp), List.append_nil] at HT
        go_wp2
        go_roundw
        case rel => exact ⟨i + 1, v, rs2, by omega, by go_num, rfl, by rw [HT.out]; exact HO2.out, HS2.out, HR2.out, HB2.out, HSz2.out⟩
        case measure => simp [intOf]; omega
    · obtain rfl : n = i := by omega
      rw [HAll.out] at hO
      have f0 := hS.2.1.at 0 (u := .slice A n c) rfl
      have g0 := hS.2.1.frozen 0
      have HO := hide hO
      have HB := hide hB
      clear hS hr hO hB
      go_wp2
      go_ret
      have hO2 := World.ownsRow.kept HO.out (show wr.grownBy (wr.setCell ⟨sb, 0, none⟩ (.slice none 0 0)) (some sb) from ⟨rfl, rfl, rfl, by simp, fun k _ hk => Below.heap_setCell wr ⟨sb, 0, none⟩ _ k (fun e => hk (by rw [e]))⟩) (.inr fun e => by have := (HO.out.lt sb e).1; omega)
      obtain ⟨A2, c2, rfl, h1, h2, h3⟩ := OwnI.form2 hO2
      exact ⟨A2, c2, rfl, h1, h2, h3, Below.setCell HB.out (p := ⟨sb, 0, none⟩) hbase _⟩
end Go.Proofs.Ytfkmcknkapplmaa
