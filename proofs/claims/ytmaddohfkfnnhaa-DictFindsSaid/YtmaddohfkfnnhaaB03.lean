/- The document's functions of chapter 16: Alike, May. The program's small functions of chapter 16: maySize, mayFollow, isRow, same. How the program reads the texts of a bucket, step by step: plain mathematics. The beginning of a slice of bytes; numbers of 64 bits. The closures that go on last: they tell what was read and take the bytes ahead. The row's reading methods: number, first. The row's reading methods: first, count, fixed, text. The row's reading methods: count, fixed, text. What goes on in each of the cursor's reading calls: the number. The program's cursor: Num, whatever its state. The contract of the library's slices.Clone at bytes. The program's cursor: New, Left, At, Err, Fail, End. What goes on in the cursor's reading calls: a number that is at most so much, a fixed number, bytes, a text. The contract of the document's Same, of bytes as strings. Pieces of the program's row: cloned, and told as a text. -/
import Derived.Test.YtmaddohfkfnnhaaB01
import Derived.Test.YtmaddohfkfnnhaaB02
import Derived.OpenShut
import Derived.Deep.QuietTactic
import Derived.BigQuiet
import Derived.Deep.RegionLaw
import Derived.StillTailTactics
import Derived.Lib.SliceRun
namespace Go.Proofs.Ytmaddohfkfnnhaa
open Go.RowKit Wrd Dic

theorem Dic.alike_at : ∀ (a b : List UInt8) (i : Nat), i ≤ alike a b → alike a b = i + alike (a.drop i) (b.drop i)
  | _, _, 0, _ => by simp
  | [], _, i + 1, h => by simp [alike] at h
  | _ :: _, [], i + 1, h => by simp [alike] at h
  | a :: s, b :: t, i + 1, h => by
    rw [alike] at h ⊢
    split
    · rename_i e
      rw [if_pos e] at h
      have := alike_at s t i (by omega)
      rw [List.drop_succ_cons, List.drop_succ_cons]
      omega
    · rename_i e
      rw [if_neg e] at h
      omega
theorem Dic.alike_step {a b : List UInt8} {i : Nat} (h1 : i < a.length) (h2 : i < b.length) : alike (a.drop i) (b.drop i) = if a[i] = b[i] then alike (a.drop (i + 1)) (b.drop (i + 1)) + 1 else 0 := by
  rw [List.drop_eq_getElem_cons h1, List.drop_eq_getElem_cons h2, alike]
attribute [local go_sem ↓] run_txtAt run_txtLen run_txtCut run_txtTop
set_option maxHeartbeats 1000000 in
set_option maxRecDepth 10000 in
theorem refAlike_any (a b : List UInt8) (w : World) (ha : a.length ≤ 1000000) : Calls Try.prog 33 #[.string ⟨a.toArray⟩, .string ⟨b.toArray⟩] w fun e w' => e = .returned (.int .i64 (alike a b : Int)) ∧ Qt w w' := by
  have H0 := hide (show alike a b = 0 + alike (a.drop 0) (b.drop 0) by simp)
  have HSt := hide (fun (i : Nat) (h1 : i < a.length) (h2 : i < b.length) => alike_step h1 h2)
  have HEa := hide (show ∀ t, alike (a.drop a.length) t = 0 from fun t => by rw [List.drop_length]; simp [alike])
  have HEb := hide (show ∀ t i, b.length ≤ i → alike t (b.drop i) = 0 from fun t i h => by rw [List.drop_of_length_le h]; cases t <;> simp [alike])
  generalize alike a b = res at *
  go_enter Try.func33, Try.ntmps33
  go_wp2
  go_loopw [5] (fun y wr => ∃ i : Nat, i ≤ a.length ∧ y = .int .i64 (i : Int) ∧ res = i + alike (a.drop i) (b.drop i) ∧ Qt w wr) (fun y _ => a.length - (intOf y).toNat)
  case atStart => exact ⟨0, by omega, rfl, H0.out, Qt.refl _⟩
  case round =>
    clear H0
    obtain ⟨i, hi, rfl, hres, hQ⟩ := hrel
    have HR := hide hres
    clear hres
    by_cases hlt : i < a.length
    · have hiI : (i : Int) < (a.length : Int) := by omega
      by_cases hlb : i < b.length
      · have hbI : (i : Int) < (b.length : Int) := by omega
        have hd0 : decide ((b.length : Int) ≤ (i : Int)) = false := decide_eq_false (by omega)
        have hst := HSt.out i hlt hlb
        obtain ⟨x, hx⟩ : ∃ x, a[i]'hlt = x := ⟨_, rfl⟩
        obtain ⟨y, hy⟩ : ∃ y, b[i]'hlb = y := ⟨_, rfl⟩
        rw [hx, hy] at hst
        by_cases hxy : x = y
        · rw [if_pos hxy] at hst
          have HS := hide (show res = (i + 1) + alike (a.drop (i + 1)) (b.drop (i + 1)) by rw [HR.out, hst]; omega)
          have hne : ((x.toNat : Int) != (y.toNat : Int)) = false := by rw [hxy]; simp
          clear hst hxy
          go_wp2_with fail
          go_quiet (fail)
          go_wp2
          go_roundw
          case rel => exact ⟨i + 1, by omega, by go_num, HS.out, hQ.drewN _⟩
          case measure => simp [intOf]; omega
        · rw [if_neg hxy] at hst
          have HS := hide (show res = i by rw [HR.out, hst]; rfl)
          have hne : ((x.toNat : Int) != (y.toNat : Int)) = true := by
            rw [bne_iff_ne]
            intro h
            exact hxy (UInt8.toNat_inj.1 (by omega))
          clear hst hxy
          go_wp2_with fail
          go_quiet (fail)
          go_wp2
          go_ret
          rw [HS.out]
          exact ⟨rfl, hQ.drewN _⟩
      · have hd0 : decide ((b.length : Int) ≤ (i : Int)) = true := decide_eq_true (by omega)
        have HS := hide (show res = i by rw [HR.out, HEb.out _ i (by omega)]; rfl)
        go_wp2_with fail
        go_quiet (fail)
        go_wp2
        go_ret
        rw [HS.out]
        exact ⟨rfl, hQ.drewN _⟩
    · obtain rfl : i = a.length := by omega
      have HS := hide (show res = a.length by rw [HR.out, HEa.out]; rfl)
      go_wp2
      go_ret
      rw [HS.out]
      exact ⟨rfl, hQ⟩

theorem Dic.rises_of : ∀ (l : List (List UInt8)), (∀ i, i + 1 < l.length → Op.bytesLess (l.getD i []) (l.getD (i + 1) []) = true) → risesB l = true
  | [], _ => rfl
  | [_], _ => rfl
  | a :: b :: t, h => by
    rw [risesB, Bool.and_eq_true]
    refine ⟨h 0 (by simp), rises_of (b :: t) fun i hi => ?_⟩
    have := h (i + 1) (by simpa using hi)
    rwa [List.getD_cons_succ, List.getD_cons_succ] at this
theorem Dic.may_yes {l : List (List UInt8)} (h0 : l.length ≤ 1048576) (h : ∀ i, i < l.length → (1 ≤ (l.getD i []).length ∧ (l.getD i []).length ≤ 25) ∧ (0 < i → Op.bytesLess (l.getD (i - 1) []) (l.getD i []) = true)) : mayD l = true := by
  refine may_of h0 (fun s hs => ?_) ((rises_iff l).1 (rises_of l fun i hi => (h (i + 1) hi).2 (by omega)))
  obtain ⟨i, hi, rfl⟩ := List.getElem_of_mem hs
  have := (h i hi).1
  rwa [List.getD_eq_getElem?_getD, List.getElem?_eq_getElem hi] at this
theorem Dic.may_no {l : List (List UInt8)} {i : Nat} (hi : i < l.length) (h : (l.getD i []).length < 1 ∨ 25 < (l.getD i []).length ∨ (0 < i ∧ (Op.bytesLess (l.getD i []) (l.getD (i - 1) []) || l.getD i [] == l.getD (i - 1) []) = true)) : mayD l = false := by
  cases hm : mayD l with
  | false => rfl
  | true =>
    exfalso
    obtain ⟨_, h2, h3⟩ := may_facts hm
    have hmem := h2 (l.getD i []) (by rw [List.getD_eq_getElem?_getD, List.getElem?_eq_getElem hi]; exact List.getElem_mem _)
    rcases h with h | h | ⟨h0, h⟩
    · omega
    · omega
    · have hl := rise_lt h3 (show i - 1 < i by omega) hi
      rw [Bool.or_eq_true, beq_iff_eq] at h
      rcases h with h | h
      · have := less_trans _ _ _ hl h
        rw [less_self] at this
        cases this
      · rw [h, less_self] at hl
        cases hl

set_option maxHeartbeats 2000000 in
set_option maxRecDepth 10000 in
theorem refMay16_any (A : Option Addr) (n c : Nat) (L : List (List UInt8)) (w : World) (h : TextsAt w w.heap.size A n L) (hn : n ≤ 1048576) (hs : ∀ s, s ∈ L → s.length ≤ 1000000) :
    Calls Try.prog 17 #[.slice A n c] w fun e w' => e = .returned (.bool (mayD L)) ∧ Qt w w' := by
  have hl := h.1
  have HA := hide h
  have hnI : ¬ (1048576 : Int) < (n : Int) := by omega
  have HYes := hide (show (∀ i, i < n → (1 ≤ (L.getD i []).length ∧ (L.getD i []).length ≤ 25) ∧ (0 < i → Op.bytesLess (L.getD (i - 1) []) (L.getD i []) = true)) → mayD L = true from fun h => may_yes (by omega) (by rw [hl]; exact h))
  have HNo := hide (fun (i : Nat) (hi : i < n) => may_no (l := L) (i := i) (by omega))
  have HLe := hide (show ∀ i, i < n → (L.getD i []).length ≤ 1000000 from fun i hi => hs _ (by
    rw [List.getD_eq_getElem?_getD, List.getElem?_eq_getElem (by omega)]
    exact List.getElem_mem _))
  generalize mayD L = res at *
  clear h hl hs
  go_enter Try.func17, Try.ntmps17
  go_wp2
  go_loopw [3] (fun x wr => ∃ i : Nat, i ≤ n ∧ x = .int .i64 (i : Int) ∧ (∀ j, j < i → (1 ≤ (L.getD j []).length ∧ (L.getD j []).length ≤ 25) ∧ (0 < j → Op.bytesLess (L.getD (j - 1) []) (L.getD j []) = true)) ∧ Qt w wr) (fun x _ => n - (intOf x).toNat)
  case atStart => exact ⟨0, by omega, rfl, fun j hj => absurd hj (by omega), Qt.refl _⟩
  case round =>
    obtain ⟨i, hi, rfl, hall, hQ⟩ := hrel
    have HAll := hide hall
    clear hall
    by_cases hlt : i < n
    · have hiI : (i : Int) < (n : Int) := by omega
      rcases (HA.out.later hQ.ext).2 with hn0 | ⟨b1, o1, rfl, _, hc1⟩
      · omega
      have e1 := hc1 i hlt
      have HNi := hide (HNo.out i hlt)
      have HNext := hide (show ((1 ≤ (L.getD i []).length ∧ (L.getD i []).length ≤ 25) ∧ (0 < i → Op.bytesLess (L.getD (i - 1) []) (L.getD i []) = true)) → ∀ j, j < i + 1 → (1 ≤ (L.getD j []).length ∧ (L.getD j []).length ≤ 25) ∧ (0 < j → Op.bytesLess (L.getD (j - 1) []) (L.getD j []) = true) from fun h j hj => by
        by_cases e : j = i
        · rw [e]; exact h
        · exact HAll.out j (by omega))
      obtain ⟨j, hj⟩ : ∃ j, j = i - 1 := ⟨_, rfl⟩
      have HC2 := hide (show 0 < i → wr.cell? ⟨b1, o1 + j, none⟩ = some (.string ⟨(L.getD j []).toArray⟩) from fun h => hc1 j (by omega))
      rw [← hj] at HNi HNext
      obtain ⟨y, hy⟩ : ∃ y, y = L.getD i [] := ⟨_, rfl⟩
      obtain ⟨z, hz⟩ : ∃ z, z = L.getD j [] := ⟨_, rfl⟩
      rw [← hy] at e1 HNi HNext
      rw [← hz] at HNi HNext HC2
      have HJ := hide hj
      clear hc1 hy hz hj
      by_cases g1 : y.length < 1
      · have hd1 : decide ((y.length : Int) < 1) = true := decide_eq_true (by omega)
        have HR := hide (HNi.out (.inl g1))
        clear HNext HNi HC2 g1
        go_wp2_with fail
        go_quiet (fail)
        go_wp2
        go_ret
        exact ⟨ret_bool HR.out.symm, hQ.drewN _⟩
      have hd1 : decide ((y.length : Int) < 1) = false := decide_eq_false (by omega)
      by_cases g2 : 25 < y.length
      · have hd2 : decide ((25 : Int) < (y.length : Int)) = true := decide_eq_true (by omega)
        have HR := hide (HNi.out (.inr (.inl g2)))
        clear HNext HNi HC2 g1 g2
        go_wp2_with fail
        go_quiet (fail)
        go_wp2
        go_ret
        exact ⟨ret_bool HR.out.symm, hQ.drewN _⟩
      have hd2 : decide ((25 : Int) < (y.length : Int)) = false := decide_eq_false (by omega)
      rcases Nat.eq_zero_or_pos i with hi0 | hi0
      · have hd0 : decide ((0 : Int) < (i : Int)) = false := decide_eq_false (by omega)
        have hdn : decide (0 < i) = false := decide_eq_false (by omega)
        have hNx := hide (HNext.out ⟨⟨by omega, by omega⟩, fun h => absurd h (by omega)⟩)
        clear HNext HNi HC2 g1 g2 hi0
        go_wp2_with fail
        go_quiet (fail)
        go_wp2
        go_roundw
        case rel => exact ⟨i + 1, by omega, by go_num, hNx.out, hQ.drewN _⟩
        case measure => simp [intOf]; omega
      have hd0 : decide ((0 : Int) < (i : Int)) = true := decide_eq_true (by omega)
      have hdn : decide (0 < i) = true := decide_eq_true hi0
      have e2 := HC2.out hi0
      have hji : (i : Int) - 1 = (j : Int) := by have := HJ.out; omega
      have hj0 : (0 : Int) < (i : Int) := by omega
      have hjn : (j : Int) < (n : Int) := by omega
      cases hle : (Op.bytesLess y z || y == z) with
      | true =>
        have HR := hide (HNi.out (.inr (.inr ⟨hi0, hle⟩)))
        clear HNext HNi HC2 g1 g2 hi0
        go_wp2_with fail
        go_quiet (fail)
        go_wp2
        go_ret
        exact ⟨ret_bool HR.out.symm, hQ.drewN _⟩
      | false =>
        have hNx := hide (HNext.out ⟨⟨by omega, by omega⟩, fun _ => by
          rw [Bool.or_eq_false_iff, beq_eq_false_iff_ne] at hle
          exact less_total y z hle.1 hle.2⟩)
        clear HNext HNi HC2 g1 g2 hi0
        go_wp2_with fail
        go_quiet (fail)
        go_wp2
        go_roundw
        case rel => exact ⟨i + 1, by omega, by go_num, hNx.out, hQ.drewN _⟩
        case measure => simp [intOf]; omega
    · obtain rfl : n = i := by omega
      have HN := hide (HYes.out HAll.out)
      go_wp2
      go_ret
      exact ⟨ret_bool HN.out.symm, hQ⟩
end Go.Proofs.Ytmaddohfkfnnhaa

namespace Go.Proofs.Ytmaddohfkfnnhaa
open Go.RowKit Wrd Dic

def Dic.sizeD (size : Int) : Bool := decide (1 ≤ size ∧ size ≤ 64)
theorem dSize_any (size : Int) (w : World) : Calls Try.prog 25 #[.int .i64 size] w fun e w' => e = .returned (.bool (sizeD size)) ∧ w = w' := by
  by_cases h0 : 1 ≤ size
  · by_cases h1 : size ≤ 64
    · have HD := hide (show sizeD size = true from decide_eq_true ⟨h0, h1⟩)
      generalize sizeD size = res at *
      go_enter Try.func25, Try.ntmps25
      go_wp2
      go_ret
      exact ⟨ret_bool HD.out.symm, rfl⟩
    · have HD := hide (show sizeD size = false from decide_eq_false fun h => h1 h.2)
      generalize sizeD size = res at *
      go_enter Try.func25, Try.ntmps25
      go_wp2
      go_ret
      exact ⟨ret_bool HD.out.symm, rfl⟩
  · have HD := hide (show sizeD size = false from decide_eq_false fun h => h0 h.1)
    generalize sizeD size = res at *
    go_enter Try.func25, Try.ntmps25
    go_wp2
    go_ret
    exact ⟨ret_bool HD.out.symm, rfl⟩

theorem Dic.gtr_less (a t : List UInt8) : (!Op.bytesLess t a && !t == a) = Op.bytesLess a t := by
  cases h : Op.bytesLess a t with
  | true =>
    have h1 : Op.bytesLess t a = false := by
      cases h2 : Op.bytesLess t a with
      | false => rfl
      | true => have := less_trans _ _ _ h h2; rw [less_self] at this; cases this
    have h2 : (t == a) = false := by
      rw [beq_eq_false_iff_ne]
      rintro rfl
      rw [less_self] at h
      cases h
    rw [h1, h2]
    rfl
  | false =>
    by_cases he : t = a
    · subst he; simp
    · rw [less_total _ _ h (fun e => he e.symm)]
      rfl
/-- May the text t follow the text a? -/
def Dic.followD (a t : List UInt8) : Bool := decide (t.length ≤ 25) && Op.bytesLess a t
attribute [local go_sem ↓] run_txtAt run_txtLen run_txtCut run_txtTop
set_option maxHeartbeats 1000000 in
set_option maxRecDepth 10000 in
theorem dFollow_any (a t : List UInt8) (w : World) (ht : t.length ≤ 1000000) : Calls Try.prog 40 #[.string ⟨a.toArray⟩, .string ⟨t.toArray⟩] w fun e w' => e = .returned (.bool (followD a t)) ∧ w = w' := by
  by_cases h1 : t.length ≤ 25
  · have h1I : (t.length : Int) ≤ 25 := by omega
    have HD := hide (show followD a t = (!Op.bytesLess t a && !t == a) by unfold followD; rw [decide_eq_true h1, Bool.true_and, gtr_less])
    generalize followD a t = res at *
    go_enter Try.func40, Try.ntmps40
    go_wp2
    go_ret
    exact ⟨ret_bool HD.out.symm, rfl⟩
  · have h1I : ¬ (t.length : Int) ≤ 25 := by omega
    have HD := hide (show followD a t = false by unfold followD; rw [decide_eq_false h1, Bool.false_and])
    generalize followD a t = res at *
    clear h1
    go_enter Try.func40, Try.ntmps40
    go_wp2
    go_ret
    exact ⟨ret_bool HD.out.symm, rfl⟩

/-- The text ahead. -/
def Dic.wasOf (l : List (List UInt8)) (i : Nat) : List UInt8 := if i = 0 then [] else l.getD (i - 1) []
theorem Dic.wasOf_succ (l : List (List UInt8)) (i : Nat) : wasOf l (i + 1) = l.getD i [] := by unfold wasOf; rw [if_neg (by omega), Nat.add_sub_cancel]
theorem Dic.less_pos {a t : List UInt8} (h : Op.bytesLess a t = true) : 1 ≤ t.length := by
  cases t with
  | nil => cases a <;> simp [Op.bytesLess] at h
  | cons _ _ => simp
theorem Dic.row_yes {l : List (List UInt8)} (h : ∀ i, i < l.length → followD (wasOf l i) (l.getD i []) = true) : mayD l = decide (l.length ≤ 1048576) := by
  by_cases h0 : l.length ≤ 1048576
  · rw [decide_eq_true h0]
    refine may_yes h0 fun i hi => ?_
    have h1 := h i hi
    unfold followD at h1
    rw [Bool.and_eq_true, decide_eq_true_eq] at h1
    refine ⟨⟨less_pos h1.2, h1.1⟩, fun hp => ?_⟩
    have h2 := h1.2
    unfold wasOf at h2
    rwa [if_neg (by omega)] at h2
  · rw [decide_eq_false h0]
    cases hm : mayD l with
    | false => rfl
    | true => exact absurd (may_facts hm).1 h0
theorem Dic.row_no {l : List (List UInt8)} {i : Nat} (hi : i < l.length) (h : followD (wasOf l i) (l.getD i []) = false) : mayD l = false := by
  cases hm : mayD l with
  | false => rfl
  | true =>
    exfalso
    obtain ⟨_, h2, h3⟩ := may_facts hm
    have hmem := h2 (l.getD i []) (by rw [List.getD_eq_getElem?_getD, List.getElem?_eq_getElem hi]; exact List.getElem_mem _)
    unfold followD at h
    rw [decide_eq_true hmem.2, Bool.true_and] at h
    unfold wasOf at h
    split at h
    · cases hx : l.getD i [] with
      | nil => rw [hx] at hmem; simp at hmem
      | cons _ _ => rw [hx] at h; simp [Op.bytesLess] at h
    · rw [rise_lt h3 (show i - 1 < i by omega) hi] at h
      cases h
set_option maxHeartbeats 1000000 in
set_option maxRecDepth 10000 in
theorem dIsRow_any (A : Option Addr) (n c : Nat) (L : List (List UInt8)) (w : World) (h : TextsAt w w.heap.size A n L) (hn : n ≤ 1000000) (hs : ∀ s, s ∈ L → s.length ≤ 1000000) :
    Calls Try.prog 26 #[.slice A n c] w fun e w' => e = .returned (.bool (mayD L)) ∧ w = w' := by
  have hl := h.1
  have HA := hide h
  have hnI : (n : Int) ≤ 1048576 := by omega
  have HYes := hide (show (∀ i, i < n → followD (wasOf L i) (L.getD i []) = true) → mayD L = true from fun h => by rw [row_yes (by rw [hl]; exact h), decide_eq_true (by omega)])
  have HNo := hide (fun (i : Nat) (hi : i < n) => row_no (l := L) (i := i) (by omega))
  have HLe := hide (show ∀ i, i < n → (L.getD i []).length ≤ 1000000 from fun i hi => hs _ (by
    rw [List.getD_eq_getElem?_getD, List.getElem?_eq_getElem (by omega)]
    exact List.getElem_mem _))
  generalize mayD L = res at *
  clear h hl hs
  go_enter Try.func26, Try.ntmps26
  go_wp2
  go_loopw [3, 8] (fun y x wr => ∃ i : Nat, i ≤ n ∧ x = .int .i64 (i : Int) ∧ y = .string ⟨(wasOf L i).toArray⟩ ∧ (∀ j, j < i → followD (wasOf L j) (L.getD j []) = true) ∧ w = wr) (fun _ x _ => n - (intOf x).toNat)
  case atStart => exact ⟨0, by omega, rfl, rfl, fun j hj => absurd hj (by omega), rfl⟩
  case round =>
    obtain ⟨i, hi, rfl, rfl, hall, rfl⟩ := hrel
    have HAll := hide hall
    clear hall
    by_cases hlt : i < n
    · have hiI : (i : Int) < (n : Int) := by omega
      rcases HA.out.2 with hn0 | ⟨b1, o1, rfl, -, hc1⟩
      · omega
      have e1 := hc1 i hlt
      have HNi := hide (HNo.out i hlt)
      have HNext := hide (show followD (wasOf L i) (L.getD i []) = true → ∀ j, j < i + 1 → followD (wasOf L j) (L.getD j []) = true from fun h1 j hj => by
        by_cases e : j = i
        · rw [e]; exact h1
        · exact HAll.out j (by omega))
      have hy := HLe.out i hlt
      have HW := hide (wasOf_succ L i)
      generalize wasOf L i = was at *
      obtain ⟨t, ht⟩ : ∃ t, t = L.getD i [] := ⟨_, rfl⟩
      rw [← ht] at e1 HNi HNext hy HW
      have C := dFollow_any was t w hy
      clear hc1 ht
      cases hf : followD was t with
      | true =>
        rw [hf] at C
        have HNx := hide (HNext.out hf)
        clear HNi HNext hf
        go_wp2_with fail
        refine C.mono ?_
        rintro e w2 ⟨rfl, rfl⟩
        clear C
        go_wp2
        go_roundw
        case rel => exact ⟨i + 1, by omega, by go_num, by rw [HW.out], HNx.out, by first | rfl | trivial⟩
        case measure => simp [intOf]; omega
      | false =>
        rw [hf] at C
        have HR := hide (HNi.out hf)
        clear HNi HNext hf
        go_wp2_with fail
        refine C.mono ?_
        rintro e w2 ⟨rfl, rfl⟩
        clear C
        go_wp2
        go_ret
        exact ⟨ret_bool HR.out.symm, rfl⟩
    · have hiI : ¬ (i : Int) < (n : Int) := by omega
      have HR := hide (HYes.out (fun j hj => HAll.out j (by omega)))
      clear hlt
      go_wp2
      go_ret
      exact ⟨ret_bool HR.out.symm, rfl⟩
set_option maxHeartbeats 1000000 in
set_option maxRecDepth 10000 in
theorem dSame_b (a b : List UInt8) (w : World) (ha : a.length ≤ 1000000) (hb : b.length ≤ 1000000) (hba : b.length < a.length) : Calls Try.prog 43 #[.string ⟨a.toArray⟩, .string ⟨b.toArray⟩] w fun e w' => e = .returned (.int .i64 (alike a b : Int)) ∧ Qt w w' := by
  have H0 := hide (show alike a b = 0 + alike (a.drop 0) (b.drop 0) by simp)
  have HSt := hide (fun (i : Nat) (h1 : i < a.length) (h2 : i < b.length) => alike_step h1 h2)
  have HEnd := hide (show ∀ i, b.length ≤ i → alike (a.drop i) (b.drop i) = 0 from fun i h => by
    rcases Nat.lt_or_ge i a.length with h1 | h1
    · rw [List.drop_of_length_le (by omega : b.length ≤ i)]; cases a.drop i <;> simp [alike]
    · rw [List.drop_of_length_le h1]; simp [alike])
  generalize alike a b = res at *
  go_enter Try.func43, Try.ntmps43
  go_wp2
  go_loopw [5] (fun y wr => ∃ i : Nat, i ≤ b.length ∧ y = .int .i64 (i : Int) ∧ res = i + alike (a.drop i) (b.drop i) ∧ Qt w wr) (fun y _ => b.length - (intOf y).toNat)
  case atStart => exact ⟨0, by omega, rfl, H0.out, Qt.refl _⟩
  case round =>
    clear H0
    obtain ⟨i, hi, rfl, hres, hQ⟩ := hrel
    have HR := hide hres
    clear hres
    by_cases hlt : i < b.length
    · have hiI : (i : Int) < (b.length : Int) := by omega
      have hla : i < a.length := by omega
      have hlb : i < b.length := by omega
      have hlaI : (i : Int) < (a.length : Int) := by omega
      have hlbI : (i : Int) < (b.length : Int) := by omega
      have hd0 : decide ((i : Int) < (b.length : Int)) = true := decide_eq_true hiI
      have hd1 : decide (i < b.length) = true := decide_eq_true hlt
      have hst := HSt.out i hla hlb
      obtain ⟨x, hx⟩ : ∃ x, a[i]'hla = x := ⟨_, rfl⟩
      obtain ⟨y, hy⟩ : ∃ y, b[i]'hlb = y := ⟨_, rfl⟩
      rw [hx, hy] at hst
      by_cases hxy : x = y
      · rw [if_pos hxy] at hst
        have HS := hide (show res = (i + 1) + alike (a.drop (i + 1)) (b.drop (i + 1)) by rw [HR.out, hst]; omega)
        have hne : ((x.toNat : Int) == (y.toNat : Int)) = true := by rw [hxy]; simp
        clear hst hxy
        go_wp2_with fail
        go_quiet (fail)
        go_wp2
        go_roundw
        case rel => exact ⟨i + 1, by omega, by go_num, HS.out, hQ.drewN _⟩
        case measure => simp [intOf]; omega
      · rw [if_neg hxy] at hst
        have HS := hide (show res = i by rw [HR.out, hst]; rfl)
        have hne : ((x.toNat : Int) == (y.toNat : Int)) = false := by
          rw [beq_eq_false_iff_ne]
          intro h
          exact hxy (UInt8.toNat_inj.1 (by omega))
        clear hst hxy
        go_wp2_with fail
        go_quiet (fail)
        go_wp2
        go_ret
        rw [HS.out]
        exact ⟨rfl, hQ.drewN _⟩
    · have hiI : ¬ (i : Int) < (b.length : Int) := by omega
      have hd0 : decide ((i : Int) < (b.length : Int)) = false := decide_eq_false hiI
      have hd1 : decide (i < b.length) = false := decide_eq_false hlt
      have HS := hide (show res = i by rw [HR.out, HEnd.out i (by omega)]; rfl)
      go_wp2_with fail
      go_quiet (fail)
      go_wp2
      go_ret
      rw [HS.out]
      exact ⟨rfl, hQ.drewN _⟩
set_option maxHeartbeats 1000000 in
set_option maxRecDepth 10000 in
theorem dSame_a (a b : List UInt8) (w : World) (ha : a.length ≤ 1000000) (hb : b.length ≤ 1000000) (hba : ¬ b.length < a.length) : Calls Try.prog 43 #[.string ⟨a.toArray⟩, .string ⟨b.toArray⟩] w fun e w' => e = .returned (.int .i64 (alike a b : Int)) ∧ Qt w w' := by
  have H0 := hide (show alike a b = 0 + alike (a.drop 0) (b.drop 0) by simp)
  have HSt := hide (fun (i : Nat) (h1 : i < a.length) (h2 : i < b.length) => alike_step h1 h2)
  have HEnd := hide (show ∀ i, a.length ≤ i → alike (a.drop i) (b.drop i) = 0 from fun i h => by
    rcases Nat.lt_or_ge i a.length with h1 | h1
    · rw [List.drop_of_length_le (by omega : b.length ≤ i)]; cases a.drop i <;> simp [alike]
    · rw [List.drop_of_length_le h1]; simp [alike])
  generalize alike a b = res at *
  go_enter Try.func43, Try.ntmps43
  go_wp2
  go_loopw [5] (fun y wr => ∃ i : Nat, i ≤ a.length ∧ y = .int .i64 (i : Int) ∧ res = i + alike (a.drop i) (b.drop i) ∧ Qt w wr) (fun y _ => a.length - (intOf y).toNat)
  case atStart => exact ⟨0, by omega, rfl, H0.out, Qt.refl _⟩
  case round =>
    clear H0
    obtain ⟨i, hi, rfl, hres, hQ⟩ := hrel
    have HR := hide hres
    clear hres
    by_cases hlt : i < a.length
    · have hiI : (i : Int) < (a.length : Int) := by omega
      have hla : i < a.length := by omega
      have hlb : i < b.length := by omega
      have hlaI : (i : Int) < (a.length : Int) := by omega
      have hlbI : (i : Int) < (b.length : Int) := by omega
      have hd0 : decide ((i : Int) < (a.length : Int)) = true := decide_eq_true hiI
      have hd1 : decide (i < a.length) = true := decide_eq_true hlt
      have hst := HSt.out i hla hlb
      obtain ⟨x, hx⟩ : ∃ x, a[i]'hla = x := ⟨_, rfl⟩
      obtain ⟨y, hy⟩ : ∃ y, b[i]'hlb = y := ⟨_, rfl⟩
      rw [hx, hy] at hst
      by_cases hxy : x = y
      · rw [if_pos hxy] at hst
        have HS := hide (show res = (i + 1) + alike (a.drop (i + 1)) (b.drop (i + 1)) by rw [HR.out, hst]; omega)
        have hne : ((x.toNat : Int) == (y.toNat : Int)) = true := by rw [hxy]; simp
        clear hst hxy
        go_wp2_with fail
        go_quiet (fail)
        go_wp2
        go_roundw
        case rel => exact ⟨i + 1, by omega, by go_num, HS.out, hQ.drewN _⟩
        case measure => simp [intOf]; omega
      · rw [if_neg hxy] at hst
        have HS := hide (show res = i by rw [HR.out, hst]; rfl)
        have hne : ((x.toNat : Int) == (y.toNat : Int)) = false := by
          rw [beq_eq_false_iff_ne]
          intro h
          exact hxy (UInt8.toNat_inj.1 (by omega))
        clear hst hxy
        go_wp2_with fail
        go_quiet (fail)
        go_wp2
        go_ret
        rw [HS.out]
        exact ⟨rfl, hQ.drewN _⟩
    · have hiI : ¬ (i : Int) < (a.length : Int) := by omega
      have hd0 : decide ((i : Int) < (a.length : Int)) = false := decide_eq_false hiI
      have hd1 : decide (i < a.length) = false := decide_eq_false hlt
      have HS := hide (show res = i by rw [HR.out, HEnd.out i (by omega)]; rfl)
      go_wp2_with fail
      go_quiet (fail)
      go_wp2
      go_ret
      rw [HS.out]
      exact ⟨rfl, hQ.drewN _⟩
theorem dSame_any (a b : List UInt8) (w : World) (ha : a.length ≤ 1000000) (hb : b.length ≤ 1000000) : Calls Try.prog 43 #[.string ⟨a.toArray⟩, .string ⟨b.toArray⟩] w fun e w' => e = .returned (.int .i64 (alike a b : Int)) ∧ Qt w w' := by
  by_cases h : b.length < a.length
  · exact dSame_b a b w ha hb h
  · exact dSame_a a b w ha hb h
end Go.Proofs.Ytmaddohfkfnnhaa

namespace Go.Proofs.Ytmaddohfkfnnhaa
namespace Dic
open Num Wrd

/-- The error behind a text. -/
def followE (a t : List UInt8) (e : Int) : Int := if followD a t = true then e else failR e 2
/-- What the program takes first, and further on: the text, the place, the error. -/
def firstP (p a : List UInt8) (q : Nat) (e : Int) : List UInt8 × Nat × Int := ((textR p q e 25).1, (textR p q e 25).2.1, followE a (textR p q e 25).1 (textR p q e 25).2.2)
/-- The text, of what is the same and what is read. -/
def addT (p a : List UInt8) (q : Nat) (e : Int) : List UInt8 := a.take (intR p q e (a.length : Int)).1 ++ (textR p (intR p q e (a.length : Int)).2.1 (intR p q e (a.length : Int)).2.2 25).1
def sameE (p a : List UInt8) (q : Nat) (e : Int) : Int :=
  if alike a (addT p a q e) = (intR p q e (a.length : Int)).1 then (textR p (intR p q e (a.length : Int)).2.1 (intR p q e (a.length : Int)).2.2 25).2.2 else failR (textR p (intR p q e (a.length : Int)).2.1 (intR p q e (a.length : Int)).2.2 25).2.2 2
def furtherP (p a : List UInt8) (q : Nat) (e : Int) : List UInt8 × Nat × Int :=
  (addT p a q e, (textR p (intR p q e (a.length : Int)).2.1 (intR p q e (a.length : Int)).2.2 25).2.1, followE a (addT p a q e) (sameE p a q e))
theorem fail_err {e e' : Int} (he : e ≠ 0) : failR e e' = e := by unfold failR; rw [if_neg he]
theorem follow_err {a t : List UInt8} {e : Int} (he : e ≠ 0) : followE a t e = e := by
  unfold followE
  split
  · rfl
  · rw [fail_err he]
theorem follow_ok {a t : List UInt8} {e : Int} (h : followD a t = true) : followE a t e = e := by unfold followE; rw [if_pos h]
theorem follow_no {a t : List UInt8} (h : ¬ followD a t = true) : followE a t 0 = 2 := by unfold followE; rw [if_neg h]; rfl
theorem one_of {p a t : List UInt8} {f : Bool} {q n q1 q' : Nat} {e1 e : Int} (hs : sameR p f a q = (n, q1, e1)) (ht : textR p q1 e1 25 = (t, q', e)) :
    oneR p f a q = if e ≠ 0 then ([], 0, e) else if t = [] ∨ 25 < (a.take n ++ t).length ∨ Op.bytesLess a (a.take n ++ t) = false ∨ (f = false ∧ alike a (a.take n ++ t) ≠ n) then ([], 0, 2) else (a.take n ++ t, q', 0) := by
  unfold oneR
  rw [hs]
  dsimp only
  rw [ht]
theorem int_same {p : List UInt8} {q : Nat} {e most : Int} (h : 0 ≤ most) : ((intR p q e most).1 : Int) ≤ most := by
  unfold intR
  split
  · split
    · simpa using h
    · omega
  · simpa using h
/-- The first text of a bucket is read as the document reads it. -/
theorem first_is (p a : List UInt8) (q : Nat) : oneR p true a q = if (firstP p a q 0).2.2 ≠ 0 then ([], 0, (firstP p a q 0).2.2) else firstP p a q 0 := by
  obtain ⟨t, q', e, ht⟩ : ∃ t q' e, textR p q 0 25 = (t, q', e) := ⟨_, _, _, rfl⟩
  have hf : firstP p a q 0 = (t, q', followE a t e) := by unfold firstP; rw [ht]
  rw [one_of (show sameR p true a q = (0, q, 0) from rfl) ht, hf]
  dsimp only
  rw [List.take_zero, List.nil_append]
  by_cases he : e = 0
  case neg => rw [follow_err he, if_pos he, if_pos he]
  subst he
  rw [if_neg (by simp)]
  by_cases hd : followD a t = true
  · rw [follow_ok hd, if_neg (show ¬ ((0 : Int) ≠ 0) by simp)]
    unfold followD at hd
    rw [Bool.and_eq_true, decide_eq_true_eq] at hd
    have := less_pos hd.2
    rw [if_neg]
    rintro (h | h | h | h)
    · subst h; simp at this
    · omega
    · rw [hd.2] at h; cases h
    · cases h.1
  · rw [follow_no hd, if_pos (show (2 : Int) ≠ 0 by decide), if_pos]
    unfold followD at hd
    rw [Bool.and_eq_true, decide_eq_true_eq] at hd
    by_cases h1 : t.length ≤ 25
    · refine .inr (.inr (.inl ?_))
      cases h2 : Op.bytesLess a t with
      | false => rfl
      | true => exact absurd ⟨h1, h2⟩ hd
    · exact .inr (.inl (by omega))
/-- So is each further one. -/
theorem further_is (p a : List UInt8) (q : Nat) : oneR p false a q = if (furtherP p a q 0).2.2 ≠ 0 then ([], 0, (furtherP p a q 0).2.2) else furtherP p a q 0 := by
  obtain ⟨n, q1, e1, hn⟩ : ∃ n q1 e1, intR p q 0 (a.length : Int) = (n, q1, e1) := ⟨_, _, _, rfl⟩
  obtain ⟨t, q', e, ht⟩ : ∃ t q' e, textR p q1 e1 25 = (t, q', e) := ⟨_, _, _, rfl⟩
  obtain ⟨x, hx⟩ : ∃ x, x = a.take n ++ t := ⟨_, rfl⟩
  have hf : furtherP p a q 0 = (x, q', followE a x (if alike a x = n then e else failR e 2)) := by
    unfold furtherP sameE addT
    rw [hn]
    dsimp only
    rw [ht]
    dsimp only
    rw [hx]
  rw [one_of (show sameR p false a q = (n, q1, e1) from hn) ht, hf]
  dsimp only
  rw [← hx]
  by_cases he : e = 0
  case neg =>
    rw [show (if alike a x = n then e else failR e 2) = e by split; rfl; exact fail_err he, follow_err he, if_pos he, if_pos he]
  subst he
  rw [if_neg (show ¬ ((0 : Int) ≠ 0) by simp)]
  by_cases h3 : alike a x = n
  · rw [if_pos h3]
    by_cases hd : followD a x = true
    · rw [follow_ok hd, if_neg (show ¬ ((0 : Int) ≠ 0) by simp)]
      unfold followD at hd
      rw [Bool.and_eq_true, decide_eq_true_eq] at hd
      rw [if_neg]
      rintro (h | h | h | h)
      · subst h
        rw [List.append_nil] at hx
        have h4 := begins_low x a (hx ▸ List.take_prefix n a)
        rw [hd.2] at h4
        cases h4
      · omega
      · rw [hd.2] at h; cases h
      · exact h.2 h3
    · rw [follow_no hd, if_pos (show (2 : Int) ≠ 0 by decide), if_pos]
      unfold followD at hd
      rw [Bool.and_eq_true, decide_eq_true_eq] at hd
      by_cases h1 : x.length ≤ 25
      · refine .inr (.inr (.inl ?_))
        cases h2 : Op.bytesLess a x with
        | false => rfl
        | true => exact absurd ⟨h1, h2⟩ hd
      · exact .inr (.inl (by omega))
  · rw [if_neg h3, if_pos (.inr (.inr (.inr ⟨rfl, h3⟩))), show failR 0 2 = 2 from rfl, follow_err (by decide), if_pos (show (2 : Int) ≠ 0 by decide)]
theorem text_len25 {p : List UInt8} {q : Nat} {e : Int} : (textR p q e 25).1.length ≤ 25 := by
  unfold textR
  split
  · split
    · simp
    · unfold takeR
      have h := int_same (p := p) (q := q) (e := e) (most := 25) (by decide)
      rw [if_pos rfl]
      split
      · simp
      · split
        · simp
        · simp; omega
  · simp
theorem add_len {p a : List UInt8} {q : Nat} {e : Int} : (addT p a q e).length ≤ a.length + 25 := by
  unfold addT
  have := text_len25 (p := p) (q := (intR p q e (a.length : Int)).2.1) (e := (intR p q e (a.length : Int)).2.2)
  rw [List.length_append, List.length_take]
  omega
/-- Texts of a bucket, with others ahead. -/
theorem texts_err (p : List UInt8) : ∀ (k : Nat) (f : Bool) (a : List UInt8) (q : Nat), (textsR p k f a q).2.2 ≠ 0 → (textsR p k f a q).1 = [] ∧ (textsR p k f a q).2.1 = 0
  | 0, _, _, _, h => by simp [textsR] at h
  | k + 1, f, a, q, h => by
    rw [textsR] at h ⊢
    split
    · exact ⟨rfl, rfl⟩
    · rename_i h1
      rw [if_neg h1] at h
      split
      · exact ⟨rfl, rfl⟩
      · rename_i h2
        rw [if_neg h2] at h
        exact absurd rfl h
theorem texts_bad {p a : List UInt8} {k q : Nat} {f : Bool} (h : (oneR p f a q).2.2 ≠ 0) : textsR p (k + 1) f a q = ([], 0, (oneR p f a q).2.2) := by rw [textsR, if_pos h]
theorem texts_good {p a : List UInt8} {k q : Nat} {f : Bool} (h : (oneR p f a q).2.2 = 0) : textsR p (k + 1) f a q = behind [(oneR p f a q).1] (textsR p k false (oneR p f a q).1 (oneR p f a q).2.1) := by
  rw [textsR, if_neg (by simp [h])]
  rfl
/-- Where the program's loop stands: k texts in all, T taken, a the last, q the place, e the error. -/
def Stand (p : List UInt8) (k : Nat) (was : List UInt8) (T : List (List UInt8)) (a : List UInt8) (q : Nat) (e : Int) : Prop :=
  1 ≤ T.length ∧ T.length ≤ k ∧ (e = 0 → textsR p k true was 0 = behind T (textsR p (k - T.length) false a q)) ∧ (e ≠ 0 → (textsR p k true was 0).2.2 = e)
theorem stand_first {p was : List UInt8} {k : Nat} (hk : 1 ≤ k) : Stand p k was [(firstP p was 0 0).1] (firstP p was 0 0).1 (firstP p was 0 0).2.1 (firstP p was 0 0).2.2 := by
  obtain ⟨m, rfl⟩ : ∃ m, k = m + 1 := ⟨k - 1, by omega⟩
  have h1 := first_is p was 0
  refine ⟨by simp, by simp, fun he => ?_, fun he => ?_⟩
  · rw [if_neg (by simp [he])] at h1
    rw [texts_good (by rw [h1]; exact he), h1]
    rfl
  · rw [if_pos he] at h1
    rw [texts_bad (by rw [h1]; exact he), h1]
theorem stand_next {p was a : List UInt8} {k q : Nat} {T : List (List UInt8)} (h : Stand p k was T a q 0) (hk : T.length < k) : Stand p k was (T ++ [(furtherP p a q 0).1]) (furtherP p a q 0).1 (furtherP p a q 0).2.1 (furtherP p a q 0).2.2 := by
  obtain ⟨h1, h2, h3, _⟩ := h
  have h3 := h3 rfl
  obtain ⟨m, hm⟩ : ∃ m, k - T.length = m + 1 := ⟨k - T.length - 1, by omega⟩
  rw [hm] at h3
  have h5 := further_is p a q
  refine ⟨by simp, by simp; omega, fun he => ?_, fun he => ?_⟩
  · rw [if_neg (by simp [he])] at h5
    rw [h3, texts_good (by rw [h5]; exact he), h5, behind_behind, show k - (T ++ [(furtherP p a q 0).1]).length = m by simp; omega]
  · rw [if_pos he] at h5
    rw [h3, texts_bad (by rw [h5]; exact he), h5]
    unfold behind
    dsimp only
    rw [if_pos he]
/-- What a bucket's bytes tell, when the loop is over. -/
theorem stand_end {p was a : List UInt8} {k q : Nat} {T : List (List UInt8)} {e : Int} (h : Stand p k was T a q e) (hend : e ≠ 0 ∨ k ≤ T.length) :
    (partR p k was).2 = endR p q e ∧ (endR p q e = 0 → partR p k was = (T, 0)) := by
  obtain ⟨h1, h2, h3, h4⟩ := h
  by_cases he : e = 0
  · subst he
    have h3 := h3 rfl
    rw [show k - T.length = 0 by omega, textsR] at h3
    unfold behind at h3
    dsimp only at h3
    rw [if_neg (by simp), List.append_nil] at h3
    unfold partR endR
    rw [h3]
    dsimp only
    rw [if_neg (by simp)]
    by_cases hq : q < p.length
    · rw [if_pos hq, if_pos ⟨rfl, by omega⟩]
      exact ⟨rfl, fun h => absurd h (by decide)⟩
    · rw [if_neg hq, if_neg (by omega)]
      exact ⟨rfl, fun _ => rfl⟩
  · have h4 := h4 he
    unfold partR endR
    rw [if_pos (by rw [h4]; exact he), if_neg (fun h => he h.1)]
    exact ⟨h4, fun h => absurd h he⟩
end Dic
end Go.Proofs.Ytmaddohfkfnnhaa

namespace Go.Proofs.Ytmaddohfkfnnhaa
open Go.RowKit

/-- A number of 64 bits. -/
def IsI64 (x : Int) : Prop := -9223372036854775808 ≤ x ∧ x ≤ 9223372036854775807
open Go.WideMaps in
theorem isI64_of {x : Int} (h : (Lit.int .i64 x).wf = true) : IsI64 x := by
  have := bounds_i64 h
  unfold IsI64
  omega
/-- 'b[:n]' of bytes. -/
theorem run_headB (W : World) (a : Option Addr) (n c : Nat) (k : IntKind) (h : Int) (h0 : 0 ≤ h) (h1 : h ≤ c) :
    (Instr.slice 25 (.slice a n c) none (some (.int k h)) none).run Try.prog W = .ok (.slice (cutAt a c 0) h.toNat c) W := by
  rw [run_slice_h (P := Try.prog) (w := W) 25 a n c (by kernel_rfl) k h h0 h1]
  have hs : (sizeOf (Try.prog.elem 25)).run Try.prog W = .ok 1 W := by kernel_rfl
  rw [hs]
  simp [Result.andThen, sliced, cutAt]
theorem Ef.bytes_take {w : World} {B n k : Nat} {A : Option Addr} {l : List UInt8} (h : Bytes w B A n l) (hk : k ≤ n) : Bytes w B A k (l.take k) := by
  refine ⟨by rw [List.length_take, h.1]; omega, ?_⟩
  rcases h.2 with h0 | ⟨b, off, rfl, hB, hc⟩
  · exact .inl (by omega)
  · refine .inr ⟨b, off, rfl, hB, fun i hi => ?_⟩
    have := hc i (by omega)
    rw [List.getD_eq_getElem?_getD, List.getElem?_take, if_pos hi, ← List.getD_eq_getElem?_getD]
    exact this
theorem Ef.bytes_head {w : World} {B n c k : Nat} {A : Option Addr} {l : List UInt8} (h : Bytes w B A n l) (hk : k ≤ n) (hc : n ≤ c) : Bytes w B (cutAt A c 0) k (l.take k) := by
  have h1 := bytes_take (h.drop (k := 0) (c := c) (by omega) hc) (k := k) (by omega)
  rwa [List.drop_zero] at h1
end Go.Proofs.Ytmaddohfkfnnhaa

namespace Go.Proofs.Ytmaddohfkfnnhaa
open Go.RowKit

/-- Behind a closure that goes on: block t holds what it told, the cursor stands at q. -/
def Told (w : World) (g r t : Nat) (T : TypeId) (b : List UInt8) (v : Value) (q : Nat) (w' : World) : Prop := PC w' g r b q 0 ∧ Whole w' t T #[v] ∧ Mod w w' g (some t)
theorem Told.refl {w : World} {g r t q : Nat} {T : TypeId} {b : List UInt8} {v : Value} (h : PC w g r b q 0) (ht : Whole w t T #[v]) : Told w g r t T b v q w := ⟨h, ht, Mod.refl _ _ _⟩
theorem Told.from {w w' w'' : World} {g r t q : Nat} {T : TypeId} {b : List UInt8} {v : Value} (hE : Ext w w') (h : Told w' g r t T b v q w'') : Told w g r t T b v q w'' := ⟨h.1, h.2.1, (Mod.ofExt hE).trans h.2.2 (.inl rfl)⟩

/-- What is told is stored: the cursor stays. -/
theorem PC.told {w w' : World} {g r t q : Nat} {b : List UInt8} {e : Int} (h : PC w g r b q e) (hM : Mod w w' g (some t)) (hG : w'.heap[g]? = w.heap[g]?) (htr : t ≠ r) : PC w' g r b q e := by
  obtain ⟨A, c, hW, hc, hR, hr, h⟩ := h
  exact ⟨A, c, hG.trans hW, hc, hR.mod hM hr (by simpa using htr), Nat.lt_of_lt_of_le hr hM.size, h⟩

/-- The bytes ahead are taken. -/
theorem PC.moved {w : World} {g r q p c : Nat} {b : List UInt8} {e z : Int} {A : Option Addr} (h : PC w g r b q e) (hR : RowIn w g r A (b.length - p) (b.drop p)) (hc : b.length - p ≤ c) (hp : p ≤ b.length) (hz : z = (p : Int)) :
    PC ((w.setCell ⟨g, 1, none⟩ (.int .i64 z)).setCell ⟨g, 0, none⟩ (.slice A (b.length - p) c)) g r b p e := by
  obtain ⟨A0, c0, hW, _, _, hr, _, hl⟩ := h
  subst hz
  refine ⟨A, c, (hW.set 1 _).set 0 _, hc, ?_, by simpa using hr, hp, hl⟩
  have h1 := hR.mod (ob := none) (Mod.ofRow (grown_setCell w g 1 (.int .i64 (p : Int)))) hr (by simp)
  exact h1.mod (ob := none) (Mod.ofRow (grown_setCell _ g 0 _)) (by simpa using hr) (by simp)
theorem PC.movedMod {w : World} {g r q : Nat} {b : List UInt8} {e : Int} (_h : PC w g r b q e) (u v : Value) {ob : Option Nat} : Mod w ((w.setCell ⟨g, 1, none⟩ u).setCell ⟨g, 0, none⟩ v) g ob :=
  (Mod.ofRow (ob := ob) (grown_setCell w g 1 u)).trans (Mod.ofRow (grown_setCell _ g 0 v)) (.inl rfl)
theorem PC.wholeFar {w : World} {g r q t : Nat} {b : List UInt8} {e : Int} (_h : PC w g r b q e) {T : TypeId} {cs : Array Value} (hW : Whole w t T cs) (htg : t ≠ g) {u v : Value} : Whole ((w.setCell ⟨g, 1, none⟩ u).setCell ⟨g, 0, none⟩ v) t T cs :=
  (hW.far htg 1 u).far htg 0 v

theorem takerInt_any (g t : Nat) (w : World) :
    Calls Try.prog 64 #[.pointer (some ⟨g, 0, none⟩), .pointer (some ⟨t, 0, none⟩)] w fun e w' =>
      ∃ Bt Bc, e = .returned (.func (.func 72) #[] #[.pointer (some ⟨Bt, 0, none⟩), .pointer (some ⟨Bc, 0, none⟩)]) ∧ w.heap.size ≤ Bt ∧ w.heap.size ≤ Bc ∧
        w'.cell? ⟨Bt, 0, none⟩ = some (.pointer (some ⟨t, 0, none⟩)) ∧ w'.cell? ⟨Bc, 0, none⟩ = some (.pointer (some ⟨g, 0, none⟩)) ∧ Ext w w' := by
  go_enter Try.func64, Try.ntmps64
  go_wp2
  go_ret
  have h1 := cellNew (w.alloc (.cells #[.pointer (some ⟨g, 0, none⟩)] 80)) #[.pointer (some ⟨t, 0, none⟩)] 97 (0, 0) 0
  rw [World.size_alloc] at h1
  exact ⟨w.heap.size + 1, w.heap.size, rfl, by omega, by omega, h1, ((extNew _ _).cell (i := 0) (by simp)).trans (cellNew w _ _ _ 0), (extNew w _).trans (extNew _ _)⟩

set_option maxHeartbeats 2000000 in
set_option maxRecDepth 100000 in
theorem tellInt_any {w : World} {g r t Bt Bc q p c : Nat} {b : List UInt8} {A : Option Addr} {v0 : Value} {x : Int} (h : PC w g r b q 0) (hqp : q ≤ p) (hp : p ≤ b.length) (hBt : w.cell? ⟨Bt, 0, none⟩ = some (.pointer (some ⟨t, 0, none⟩))) (hBc : w.cell? ⟨Bc, 0, none⟩ = some (.pointer (some ⟨g, 0, none⟩)))
    (ht : Whole w t 3 #[v0]) (htg : t ≠ g) (htr : t ≠ r) (hct : Bc ≠ t) (hcg : Bc ≠ g) (hR : RowIn w g r A (b.length - p) (b.drop p)) (hc : b.length - p ≤ c) :
    Calls Try.prog 72 #[.int .i64 x, .slice A (b.length - p) c, .pointer (some ⟨Bt, 0, none⟩), .pointer (some ⟨Bc, 0, none⟩)] w fun e w' => e = .returned (.int .i64 0) ∧ Told w g r t 3 b (.int .i64 x) p w' := by
  obtain ⟨A0, c0, d0, d1, d2, f0, f1, f2, hc0, hR0⟩ := h.cells
  obtain ⟨hq, hl⟩ := h.bounds
  have htlt := ht.lt
  have hrlt := h.rlt
  have hglt := h.lt
  go_enter Try.func72, Try.ntmps72
  go_wp2_with (refine wpList_storeC rfl 3 (.tmp 9) (.tmp 8) rfl #[.int .i64 x] rfl rfl ht (by simp) (by kernel_rfl) rfl rfl rfl ?_; intro w1 hW1 hG1; have hM1 : Mod w w1 g (some t) := Mod.ofOwn hG1; have hP1 := h.told hM1 (hG1.block g hglt (by simpa using fun e => htg e.symm)) htr; obtain ⟨A1, c1, e0, e1, e2, k0, k1, k2, hc1, hR1⟩ := hP1.cells; have hBc1 := (hM1.cell (x := Bc) (i := 0) (World.block_lt_of_cell? w ⟨Bc, 0, none⟩ hBc) hcg (by simpa using fun e => hct e.symm)).trans hBc)
  go_still_tail 13, (by kernel_rfl)
  change wpList _ _ _ _ _ w1.drew
  have hE2 : Ext w1 w1.drew := (Ext.refl w1).drew
  have hP2 := hP1.ext hE2
  have hW2 := hW1.ext hE2
  have hM2 : Mod w w1.drew g (some t) := hM1.trans (Mod.ofExt hE2) (.inl rfl)
  have hBc2 := (hE2.cell (i := 0) (World.block_lt_of_cell? w1 ⟨Bc, 0, none⟩ hBc1)).trans hBc1
  clear hBc1 hG1 e0 e1 e2 k0 k1 k2
  generalize w1.drew = w2 at *
  obtain ⟨A2, c2, e0, e1, e2, k0, k1, k2, hc2, hR2⟩ := hP2.cells
  clear hR1 hR2 hR0 d0 d1 d2 f0 f1 f2
  go_wp2_with fail
  go_ret
  have hR2 := hR.mod hM2 hrlt (by simpa using htr)
  exact ⟨rfl, hP2.moved hR2 hc hp (by omega), hP2.wholeFar hW2 htg, hM2.trans (hP2.movedMod _ _) (.inl rfl)⟩
theorem takerRow_any (g t : Nat) (w : World) :
    Calls Try.prog 75 #[.pointer (some ⟨g, 0, none⟩), .pointer (some ⟨t, 0, none⟩)] w fun e w' =>
      ∃ Bt Bc, e = .returned (.func (.func 79) #[] #[.pointer (some ⟨Bt, 0, none⟩), .pointer (some ⟨Bc, 0, none⟩)]) ∧ w.heap.size ≤ Bt ∧ w.heap.size ≤ Bc ∧
        w'.cell? ⟨Bt, 0, none⟩ = some (.pointer (some ⟨t, 0, none⟩)) ∧ w'.cell? ⟨Bc, 0, none⟩ = some (.pointer (some ⟨g, 0, none⟩)) ∧ Ext w w' := by
  go_enter Try.func75, Try.ntmps75
  go_wp2
  go_ret
  have h1 := cellNew (w.alloc (.cells #[.pointer (some ⟨g, 0, none⟩)] 80)) #[.pointer (some ⟨t, 0, none⟩)] 106 (0, 0) 0
  rw [World.size_alloc] at h1
  exact ⟨w.heap.size + 1, w.heap.size, rfl, by omega, by omega, h1, ((extNew _ _).cell (i := 0) (by simp)).trans (cellNew w _ _ _ 0), (extNew w _).trans (extNew _ _)⟩

set_option maxHeartbeats 2000000 in
set_option maxRecDepth 100000 in
theorem tellRow_any {w : World} {g r t Bt Bc q p c : Nat} {b : List UInt8} {A : Option Addr} {v0 : Value} {Ax : Option Addr} {nx cx : Nat} (h : PC w g r b q 0) (hqp : q ≤ p) (hp : p ≤ b.length) (hBt : w.cell? ⟨Bt, 0, none⟩ = some (.pointer (some ⟨t, 0, none⟩))) (hBc : w.cell? ⟨Bc, 0, none⟩ = some (.pointer (some ⟨g, 0, none⟩)))
    (ht : Whole w t 90 #[v0]) (htg : t ≠ g) (htr : t ≠ r) (hct : Bc ≠ t) (hcg : Bc ≠ g) (hR : RowIn w g r A (b.length - p) (b.drop p)) (hc : b.length - p ≤ c) :
    Calls Try.prog 79 #[.slice Ax nx cx, .slice A (b.length - p) c, .pointer (some ⟨Bt, 0, none⟩), .pointer (some ⟨Bc, 0, none⟩)] w fun e w' => e = .returned (.int .i64 0) ∧ Told w g r t 90 b (.slice Ax nx cx) p w' := by
  obtain ⟨A0, c0, d0, d1, d2, f0, f1, f2, hc0, hR0⟩ := h.cells
  obtain ⟨hq, hl⟩ := h.bounds
  have htlt := ht.lt
  have hrlt := h.rlt
  have hglt := h.lt
  go_enter Try.func79, Try.ntmps79
  go_wp2_with (refine wpList_storeC rfl 90 (.tmp 9) (.tmp 8) rfl #[.slice Ax nx cx] rfl rfl ht (by simp) (by kernel_rfl) rfl rfl rfl ?_; intro w1 hW1 hG1; have hM1 : Mod w w1 g (some t) := Mod.ofOwn hG1; have hP1 := h.told hM1 (hG1.block g hglt (by simpa using fun e => htg e.symm)) htr; obtain ⟨A1, c1, e0, e1, e2, k0, k1, k2, hc1, hR1⟩ := hP1.cells; have hBc1 := (hM1.cell (x := Bc) (i := 0) (World.block_lt_of_cell? w ⟨Bc, 0, none⟩ hBc) hcg (by simpa using fun e => hct e.symm)).trans hBc)
  go_still_tail 13, (by kernel_rfl)
  change wpList _ _ _ _ _ w1.drew
  have hE2 : Ext w1 w1.drew := (Ext.refl w1).drew
  have hP2 := hP1.ext hE2
  have hW2 := hW1.ext hE2
  have hM2 : Mod w w1.drew g (some t) := hM1.trans (Mod.ofExt hE2) (.inl rfl)
  have hBc2 := (hE2.cell (i := 0) (World.block_lt_of_cell? w1 ⟨Bc, 0, none⟩ hBc1)).trans hBc1
  clear hBc1 hG1 e0 e1 e2 k0 k1 k2
  generalize w1.drew = w2 at *
  obtain ⟨A2, c2, e0, e1, e2, k0, k1, k2, hc2, hR2⟩ := hP2.cells
  clear hR1 hR2 hR0 d0 d1 d2 f0 f1 f2
  go_wp2_with fail
  go_ret
  have hR2 := hR.mod hM2 hrlt (by simpa using htr)
  exact ⟨rfl, hP2.moved hR2 hc hp (by omega), hP2.wholeFar hW2 htg, hM2.trans (hP2.movedMod _ _) (.inl rfl)⟩
end Go.Proofs.Ytmaddohfkfnnhaa

namespace Go.Proofs.Ytmaddohfkfnnhaa
open Go.RowKit

theorem Num.or_seven (X i : Nat) (c : UInt8) (hX : X < 128 ^ i) (hi : i ≤ 9) (h9 : i = 9 → c.toNat = 1) :
    bits .or .u64 (X : Int) (IntKind.u64.wrap (IntKind.u64.wrap (bits .andNot .u8 (c.toNat : Int) 128) * 2 ^ (7 * i))) = ((X + c.toNat % 128 * 128 ^ i : Nat) : Int) := by
  have hc := c.toNat_lt
  have e1 : bits .andNot .u8 (c.toNat : Int) 128 = ((c.toNat % 128 : Nat) : Int) := by
    rw [show (128 : Int) = ((128 : Nat) : Int) from rfl, u8_andNot_nat _ _ hc (by decide), show (255 - 128 : Nat) = 2 ^ 7 - 1 from rfl, Nat.and_two_pow_sub_one_eq_mod]
  have hp : (128 : Nat) ^ i = 2 ^ (7 * i) := by rw [Nat.pow_mul]
  have hlt : c.toNat % 128 * 2 ^ (7 * i) < 2 ^ 64 := by
    rcases Nat.lt_or_ge i 9 with h | h
    · have h1 : c.toNat % 128 < 128 := Nat.mod_lt _ (by decide)
      have h2 : 2 ^ (7 * i) ≤ 2 ^ 56 := Nat.pow_le_pow_right (by decide) (by omega)
      have h3 : c.toNat % 128 * 2 ^ (7 * i) ≤ 127 * 2 ^ 56 := Nat.mul_le_mul (by omega) h2
      omega
    · obtain rfl : i = 9 := by omega
      rw [h9 rfl]
      decide
  have e2 : IntKind.u64.wrap (((c.toNat % 128 : Nat) : Int) * 2 ^ (7 * i)) = ((c.toNat % 128 * 2 ^ (7 * i) : Nat) : Int) := by
    have : ((c.toNat % 128 : Nat) : Int) * 2 ^ (7 * i) = ((c.toNat % 128 * 2 ^ (7 * i) : Nat) : Int) := by simp only [Int.natCast_mul, Int.natCast_pow]; rfl
    rw [this, IntKind.wrap_u64]
    omega
  have hX' : X < 2 ^ 64 := Nat.lt_of_lt_of_le hX (by rw [hp]; exact Nat.pow_le_pow_right (by decide) (by omega))
  have e3 : IntKind.u64.wrap ((c.toNat % 128 : Nat) : Int) = ((c.toNat % 128 : Nat) : Int) := by rw [IntKind.wrap_u64]; omega
  rw [e1, e3, e2, u64_or_nat _ _ hX' hlt, hp, Nat.mul_comm (c.toNat % 128), Nat.or_comm, ← Nat.two_pow_add_eq_or_of_lt (by rw [← hp]; exact hX), Nat.add_comm]

/-- 'r[l:]' of a row. -/
theorem run_cutR (W : World) (a : Option Addr) (n c : Nat) (k : IntKind) (l : Int) (h0 : 0 ≤ l) (h1 : l ≤ n) :
    (Instr.slice 90 (.slice a n c) (some (.int k l)) none none).run Try.prog W = .ok (.slice (cutAt a c l.toNat) (n - l.toNat) (c - l.toNat)) W := by
  rw [run_slice_l (P := Try.prog) (w := W) 90 a n c (by kernel_rfl) k l h0 h1]
  have hs : (sizeOf (Try.prog.elem 90)).run Try.prog W = .ok 1 W := by kernel_rfl
  rw [hs]
  simp [Result.andThen, sliced, cutAt]
attribute [local go_sem ↓] run_cutR

set_option maxHeartbeats 2000000 in
set_option maxRecDepth 100000 in
theorem curNumber_any {w : World} {A : Option Addr} {c K : Nat} {l : List UInt8} {cap : Array Value} {R : Ending → World → Prop} (hK : Entered K) (hb : Bytes w w.heap.size A l.length l) (hl : l.length ≤ 1000000) (hc : l.length ≤ c)
    (hR : ∀ e w', R e w' → ∃ er, e = .returned (.int .i64 er))
    (hok : (Num.scan l 0).2.2 = 0 → Calls Try.prog K (#[.int .u64 (((Num.scan l 0).1 : Nat) : Int), .slice (cutAt A c (Num.scan l 0).2.1) (l.length - (Num.scan l 0).2.1) (c - (Num.scan l 0).2.1)] ++ cap) w R)
    (hbad : (Num.scan l 0).2.2 ≠ 0 → R (.returned (.int .i64 (Num.scan l 0).2.2)) w) :
    Calls Try.prog 70 #[.slice A l.length c, .func (.func K) #[] cap] w R := by
  have hE := fun args W => hK args W
  obtain ⟨_, hb⟩ := hb
  rcases hb with h0 | ⟨blk, off, rfl, hB, hcell⟩
  · obtain rfl := List.eq_nil_of_length_eq_zero h0
    have hbad' := hide (hbad (by decide))
    clear hok hbad
    go_enter Try.func70, Try.ntmps70
    go_wp2
    go_loop [5, 10] (fun x i => x = .int .u64 0 ∧ i = .int .i64 0) (fun _ _ => 0)
    case atStart => exact ⟨rfl, rfl⟩
    case round =>
      obtain ⟨rfl, rfl⟩ := hrel
      go_wp2
      exact hbad'.out
  · go_enter Try.func70, Try.ntmps70
    go_wp2
    go_loop [5, 10] (fun x i => ∃ (X j : Nat), x = .int .u64 (X : Int) ∧ i = .int .i64 (j : Int) ∧ X < 128 ^ j ∧ j ≤ 9 ∧ j ≤ l.length ∧ Num.scanF l 0 (10 - j) j X = Num.scan l 0) (fun _ i => l.length - (intOf i).toNat)
    case atStart => exact ⟨0, 0, rfl, rfl, by decide, by omega, by omega, rfl⟩
    case round =>
      obtain ⟨X, j, rfl, rfl, hX, hj, hjl, hs⟩ := hrel
      obtain ⟨f, hf⟩ : ∃ f, 10 - j = f + 1 := ⟨9 - j, by omega⟩
      rw [hf, Num.scanF, Nat.zero_add] at hs
      by_cases hlt : j < l.length
      · rw [if_neg (by omega)] at hs
        have hcj := hcell j hlt
        generalize l.getD j 0 = bt at *
        have hbt := bt.toNat_lt
        clear hcell
        by_cases h2 : (j = 9 ∧ bt.toNat ≠ 1) ∨ (0 < j ∧ bt.toNat = 0)
        · rw [if_pos h2] at hs
          rw [← hs] at hbad hok
          have hbad' := hide (hbad (by decide))
          clear hbad hok hs hX hf
          rcases h2 with ⟨h9, h1⟩ | ⟨h0, h1⟩
          · subst h9
            have h1' : ((bt.toNat : Int) != 1) = true := by simp; omega
            clear h1
            go_wp2_with fail
            exact hbad'.out
          · rw [h1] at hcj
            by_cases h9 : j = 9
            · subst h9
              go_wp2_with fail
              exact hbad'.out
            · have h9' : ((j : Int) == 9) = false := by simp; omega
              have h0' : (0 : Int) < (j : Int) := by omega
              clear h1
              go_wp2_with fail
              exact hbad'.out
        · rw [if_neg h2] at hs
          have HO := Num.or_seven X j bt hX hj (fun h => by omega)
          have hw7 : IntKind.i64.wrap (7 * (j : Int)) = ((7 * j : Nat) : Int) := by rw [IntKind.wrap_i64]; omega
          have hcases : (((j : Int) == 9) = true ∧ ((bt.toNat : Int) != 1) = false ∧ (0 < (j : Int)) ∧ ((bt.toNat : Int) == 0) = false) ∨ (((j : Int) == 9) = false ∧ 0 < (j : Int) ∧ ((bt.toNat : Int) == 0) = false) ∨ (((j : Int) == 9) = false ∧ ¬ (0 < (j : Int))) := by
            simp only [beq_iff_eq, beq_eq_false_iff_ne, bne_eq_false_iff_eq, ne_eq]
            omega
          have hNX := Num.part_lt (c := bt.toNat) hX
          clear h2
          by_cases h128 : bt.toNat < 128
          · rw [if_pos h128] at hs
            rw [← hs] at hok
            have hok' := hide (hok rfl)
            clear hok hbad hs hf hNX hX
            generalize X + bt.toNat % 128 * 128 ^ j = NX at *
            have h128' : (bt.toNat : Int) < 128 := by omega
            have i0 : (0 : Int) ≤ (j : Int) + 1 := by omega
            have i1 : (j : Int) + 1 ≤ (l.length : Int) := by omega
            have i2 : ((j : Int) + 1).toNat = j + 1 := by omega
            clear h128
            rcases hcases with ⟨a1, a2, a3, a4⟩ | ⟨a1, a3, a4⟩ | ⟨a1, a3⟩
            all_goals (
              go_wp2_with fail
              refine hok'.out.mono ?_
              intro e w2 hr
              obtain ⟨er, rfl⟩ := hR _ _ hr
              go_wp2
              exact hr)
          · rw [if_neg h128] at hs
            have hs' := hide hs
            have hf' := hide (show 10 - (j + 1) = f by omega)
            have hj8 : j + 1 ≤ 9 := by
              rcases hcases with ⟨a1, a2, _⟩ | ⟨a1, _⟩ | ⟨a1, _⟩
              · simp only [bne_eq_false_iff_eq] at a2
                omega
              · simp only [beq_eq_false_iff_ne, ne_eq] at a1
                omega
              · simp only [beq_eq_false_iff_ne, ne_eq] at a1
                omega
            clear hs hf hok hbad
            generalize X + bt.toNat % 128 * 128 ^ j = NX at *
            have hNX' := hide hNX
            have h128' : ¬ ((bt.toNat : Int) < 128) := by omega
            clear h128 hX hNX
            rcases hcases with ⟨a1, a2, a3, a4⟩ | ⟨a1, a3, a4⟩ | ⟨a1, a3⟩
            all_goals (
              go_wp2_with fail
              go_round
              case rel => exact ⟨NX, j + 1, rfl, by go_num, hNX'.out, hj8, by omega, by rw [hf'.out]; exact hs'.out⟩
              case measure => simp [intOf]; omega)
      · obtain rfl : j = l.length := by omega
        rw [if_pos (by omega)] at hs
        rw [← hs] at hbad hok
        have hbad' := hide (hbad (by decide))
        clear hbad hok hs hX hf
        go_wp2
        exact hbad'.out
end Go.Proofs.Ytmaddohfkfnnhaa

namespace Go.Proofs.Ytmaddohfkfnnhaa
open Go.RowKit
attribute [local go_sem ↓] run_cutR

/-- 'r[:h]' of a row. -/
theorem run_headR (W : World) (a : Option Addr) (n c : Nat) (k : IntKind) (h : Int) (h0 : 0 ≤ h) (h1 : h ≤ c) :
    (Instr.slice 90 (.slice a n c) none (some (.int k h)) none).run Try.prog W = .ok (.slice (cutAt a c 0) h.toNat c) W := by
  rw [run_slice_h (P := Try.prog) (w := W) 90 a n c (by kernel_rfl) k h h0 h1]
  have hs : (sizeOf (Try.prog.elem 90)).run Try.prog W = .ok 1 W := by kernel_rfl
  rw [hs]
  simp [Result.andThen, sliced, cutAt]
attribute [local go_sem ↓] run_headR

set_option maxHeartbeats 2000000 in
set_option maxRecDepth 100000 in
theorem first_any {w : World} {A : Option Addr} {m c K : Nat} {n : Int} {cap : Array Value} {R : Ending → World → Prop} (hK : Entered K) (hc : m ≤ c)
    (hR : ∀ e w', R e w' → ∃ er, e = .returned (.int .i64 er))
    (hneg : n < 0 → R (.returned (.int .i64 13)) w) (hbig : (m : Int) < n → R (.returned (.int .i64 1)) w)
    (hok : ∀ k : Nat, n = (k : Int) → k ≤ m → Calls Try.prog K (#[.slice (cutAt A c 0) k c, .slice (cutAt A c k) (m - k) (c - k)] ++ cap) w.drew R) :
    Calls Try.prog 78 #[.slice A m c, .int .i64 n, .func (.func K) #[] cap] w R := by
  have hE := fun args W => hK args W
  by_cases h0 : n < 0
  · have H := hide (hneg h0)
    clear hneg hbig hok
    go_enter Try.func78, Try.ntmps78
    go_wp2
    exact H.out
  · by_cases h1 : (m : Int) < n
    · have H := hide (hbig h1)
      clear hneg hbig hok
      go_enter Try.func78, Try.ntmps78
      go_wp2
      exact H.out
    · obtain ⟨k, rfl⟩ := Int.eq_ofNat_of_zero_le (show 0 ≤ n by omega)
      have H := hide (hok k rfl (by omega))
      have i1 : (k : Int) ≤ (m : Int) := by omega
      have i2 : (k : Int) ≤ (c : Int) := by omega
      clear hneg hbig hok h0
      go_enter Try.func78, Try.ntmps78
      go_wp2
      go_still_tail 7, (by kernel_rfl)
      change wpList _ _ _ _ _ w.drew
      go_wp2_with fail
      refine H.out.mono ?_
      intro e w2 hr
      obtain ⟨er, rfl⟩ := hR _ _ hr
      go_wp2
      exact hr

theorem entered_count1 : Entered 71 := entered_of Try.func71 (by kernel_rfl) rfl
set_option maxHeartbeats 2000000 in
set_option maxRecDepth 100000 in
theorem count1_any {w : World} {A : Option Addr} {m c K x Bm Bk : Nat} {most : Int} {cap : Array Value} {R : Ending → World → Prop} (hK : Entered K) (hm : most ≤ 9223372036854775807) (hx : x < 18446744073709551616)
    (hBm : w.cell? ⟨Bm, 0, none⟩ = some (.int .i64 most)) (hBk : w.cell? ⟨Bk, 0, none⟩ = some (.func (.func K) #[] cap))
    (hR : ∀ e w', R e w' → ∃ er, e = .returned (.int .i64 er))
    (hbig : most < (x : Int) → R (.returned (.int .i64 6)) w)
    (hok : (x : Int) ≤ most → Calls Try.prog K (#[.int .i64 (x : Int), .slice A m c] ++ cap) w R) :
    Calls Try.prog 71 #[.int .u64 (x : Int), .slice A m c, .pointer (some ⟨Bm, 0, none⟩), .pointer (some ⟨Bk, 0, none⟩)] w R := by
  have hE := fun args W => hK args W
  by_cases h0 : most < 0
  · have H := hide (hbig (by omega))
    clear hbig hok hx
    go_enter Try.func71, Try.ntmps71
    go_wp2
    exact H.out
  · obtain ⟨k, rfl⟩ := Int.eq_ofNat_of_zero_le (show 0 ≤ most by omega)
    have hwk : IntKind.u64.wrap (k : Int) = (k : Int) := by rw [IntKind.wrap_u64]; omega
    by_cases h1 : (k : Int) < (x : Int)
    · have H := hide (hbig h1)
      clear hbig hok hx h0
      go_enter Try.func71, Try.ntmps71
      go_wp2
      exact H.out
    · have H := hide (hok (by omega))
      have hwx : IntKind.i64.wrap (x : Int) = (x : Int) := by rw [IntKind.wrap_i64]; omega
      clear hbig hok h0
      go_enter Try.func71, Try.ntmps71
      go_wp2_with fail
      refine H.out.mono ?_
      intro e w2 hr
      obtain ⟨er, rfl⟩ := hR _ _ hr
      go_wp2
      exact hr
end Go.Proofs.Ytmaddohfkfnnhaa

namespace Go.Proofs.Ytmaddohfkfnnhaa
open Go.RowKit
attribute [local go_sem ↓] run_cutR

theorem Num.scan_lt (l : List UInt8) (q : Nat) : (Num.scan l q).1 < 18446744073709551616 := (Num.scan_facts l q).1

set_option maxHeartbeats 2000000 in
set_option maxRecDepth 100000 in
theorem count_any {w : World} {A : Option Addr} {c K : Nat} {l : List UInt8} {most : Int} {cap : Array Value} {R : Ending → World → Prop} (hK : Entered K) (hm : most ≤ 9223372036854775807) (hb : Bytes w w.heap.size A l.length l) (hl : l.length ≤ 1000000) (hc : l.length ≤ c)
    (hR : ∀ e w', R e w' → ∃ er, e = .returned (.int .i64 er))
    (hbad : ∀ er w', Ext w w' → (Num.scan l 0).2.2 = er ∧ er ≠ 0 ∨ (Num.scan l 0).2.2 = 0 ∧ most < ((Num.scan l 0).1 : Int) ∧ er = 6 → R (.returned (.int .i64 er)) w')
    (hok : (Num.scan l 0).2.2 = 0 → ((Num.scan l 0).1 : Int) ≤ most → ∀ w', Ext w w' →
      Calls Try.prog K (#[.int .i64 (((Num.scan l 0).1 : Nat) : Int), .slice (cutAt A c (Num.scan l 0).2.1) (l.length - (Num.scan l 0).2.1) (c - (Num.scan l 0).2.1)] ++ cap) w' R) :
    Calls Try.prog 63 #[.slice A l.length c, .int .i64 most, .func (.func K) #[] cap] w R := by
  have hE1 := extNew w (.cells #[.int .i64 most] 3)
  have hE2 := extNew (w.alloc (.cells #[.int .i64 most] 3)) (.cells #[.func (.func K) #[] cap] 95)
  have hE := hE1.trans hE2
  have hBm : ((w.alloc (.cells #[.int .i64 most] 3)).alloc (.cells #[.func (.func K) #[] cap] 95)).cell? ⟨w.heap.size, 0, none⟩ = some (.int .i64 most) := (hE2.cell (by simp)).trans (cellNew w _ _ _ 0)
  have hBk : ((w.alloc (.cells #[.int .i64 most] 3)).alloc (.cells #[.func (.func K) #[] cap] 95)).cell? ⟨w.heap.size + 1, 0, none⟩ = some (.func (.func K) #[] cap) := by
    have := cellNew (w.alloc (.cells #[.int .i64 most] 3)) #[.func (.func K) #[] cap] 95 (0, 0) 0
    rwa [World.size_alloc] at this
  have H := hide (curNumber_any (K := 71) (cap := #[.pointer (some ⟨w.heap.size, 0, none⟩), .pointer (some ⟨w.heap.size + 1, 0, none⟩)]) (R := R) entered_count1 (hE.bytes hb) hl hc hR
    (fun h0 => count1_any hK hm (Num.scan_lt l 0) hBm hBk hR (fun h6 => hbad 6 _ hE (.inr ⟨h0, h6, rfl⟩)) (fun hle => hok h0 hle _ hE))
    (fun h0 => hbad _ _ hE (.inl ⟨rfl, h0⟩)))
  clear hbad hok hE1 hE2 hE hBm hBk hb
  go_enter Try.func63, Try.ntmps63
  go_wp2_with fail
  refine H.out.mono ?_
  intro e w2 hr
  obtain ⟨er, rfl⟩ := hR _ _ hr
  go_wp2
  exact hr

theorem Num.low_snoc (l : List UInt8) (c : UInt8) : Num.low (l ++ [c]) = Num.low l + c.toNat * 256 ^ l.length := by
  induction l with
  | nil => simp [Num.low]
  | cons d l ih => rw [List.cons_append, Num.low, Num.low, ih, List.length_cons, Nat.pow_succ, Nat.mul_add, Nat.mul_comm 256 (c.toNat * 256 ^ l.length), Nat.mul_assoc, Nat.add_assoc]
theorem Num.low_take (l : List UInt8) (k : Nat) (h : k < l.length) : Num.low (l.take (k + 1)) = Num.low (l.take k) + (l.getD k 0).toNat * 256 ^ k := by
  rw [List.take_succ_eq_append_getElem h, Num.low_snoc, List.length_take, Nat.min_eq_left (by omega), List.getD_eq_getElem?_getD, List.getElem?_eq_getElem h]
  rfl
theorem Num.or_eight (X i : Nat) (c : UInt8) (hX : X < 256 ^ i) (hi : i < 8) :
    bits .or .u64 (X : Int) (IntKind.u64.wrap ((c.toNat : Int) * 2 ^ (8 * i))) = ((X + c.toNat * 256 ^ i : Nat) : Int) := by
  have hc := c.toNat_lt
  have hp : (256 : Nat) ^ i = 2 ^ (8 * i) := by rw [Nat.pow_mul]
  have hlt : c.toNat * 2 ^ (8 * i) < 2 ^ 64 := by
    have h2 : 2 ^ (8 * i) ≤ 2 ^ 56 := Nat.pow_le_pow_right (by decide) (by omega)
    have h3 : c.toNat * 2 ^ (8 * i) ≤ 255 * 2 ^ 56 := Nat.mul_le_mul (by omega) h2
    omega
  have e2 : IntKind.u64.wrap ((c.toNat : Int) * 2 ^ (8 * i)) = ((c.toNat * 2 ^ (8 * i) : Nat) : Int) := by
    have : (c.toNat : Int) * 2 ^ (8 * i) = ((c.toNat * 2 ^ (8 * i) : Nat) : Int) := by simp only [Int.natCast_mul, Int.natCast_pow]; rfl
    rw [this, IntKind.wrap_u64]
    omega
  have hX' : X < 2 ^ 64 := Nat.lt_of_lt_of_le hX (by rw [hp]; exact Nat.pow_le_pow_right (by decide) (by omega))
  rw [e2, u64_or_nat _ _ hX' hlt, hp, Nat.mul_comm c.toNat, Nat.or_comm, ← Nat.two_pow_add_eq_or_of_lt (by rw [← hp]; exact hX), Nat.add_comm]

theorem entered_text1 : Entered 77 := entered_of Try.func77 (by kernel_rfl) rfl
set_option maxHeartbeats 2000000 in
set_option maxRecDepth 100000 in
theorem text_any {w : World} {A : Option Addr} {c K : Nat} {l : List UInt8} {most : Int} {cap : Array Value} {R : Ending → World → Prop} (hK : Entered K) (hm : most ≤ 9223372036854775807) (hb : Bytes w w.heap.size A l.length l) (hl : l.length ≤ 1000000) (hc : l.length ≤ c)
    (hR : ∀ e w', R e w' → ∃ er, e = .returned (.int .i64 er))
    (hbad : ∀ er w', Ext w w' → (Num.scan l 0).2.2 = er ∧ er ≠ 0 ∨ (Num.scan l 0).2.2 = 0 ∧ most < ((Num.scan l 0).1 : Int) ∧ er = 6 ∨ (Num.scan l 0).2.2 = 0 ∧ ((Num.scan l 0).1 : Int) ≤ most ∧ l.length - (Num.scan l 0).2.1 < (Num.scan l 0).1 ∧ er = 1 → R (.returned (.int .i64 er)) w')
    (hok : (Num.scan l 0).2.2 = 0 → ((Num.scan l 0).1 : Int) ≤ most → (Num.scan l 0).1 ≤ l.length - (Num.scan l 0).2.1 → ∀ w', Ext w w' →
      Calls Try.prog K (#[.slice (cutAt (cutAt A c (Num.scan l 0).2.1) (c - (Num.scan l 0).2.1) 0) (Num.scan l 0).1 (c - (Num.scan l 0).2.1), .slice (cutAt (cutAt A c (Num.scan l 0).2.1) (c - (Num.scan l 0).2.1) (Num.scan l 0).1) (l.length - (Num.scan l 0).2.1 - (Num.scan l 0).1) (c - (Num.scan l 0).2.1 - (Num.scan l 0).1)] ++ cap) w' R) :
    Calls Try.prog 74 #[.slice A l.length c, .int .i64 most, .func (.func K) #[] cap] w R := by
  have hE := extNew w (.cells #[.func (.func K) #[] cap] 104)
  have hBk : (w.alloc (.cells #[.func (.func K) #[] cap] 104)).cell? ⟨w.heap.size, 0, none⟩ = some (.func (.func K) #[] cap) := cellNew w _ _ (0, 0) 0
  have H := hide (count_any (w := w.alloc (.cells #[.func (.func K) #[] cap] 104)) (K := 77) (cap := #[.pointer (some ⟨w.heap.size, 0, none⟩)]) (R := R) entered_text1 hm (hE.bytes hb) hl hc hR
    (fun er w' hE' h => hbad er w' (hE.trans hE') (by rcases h with h | h; exact .inl h; exact .inr (.inl h)))
    (fun h0 hle w' hE' => by
      have hBk' := (hE'.cell (i := 0) (by simp)).trans hBk
      have hn := Num.scan_facts l 0
      have F := hide (first_any (w := w') (A := cutAt A c (Num.scan l 0).2.1) (c := c - (Num.scan l 0).2.1) (m := l.length - (Num.scan l 0).2.1) (n := (((Num.scan l 0).1 : Nat) : Int)) (K := K) (cap := cap) (R := R) hK (by omega) hR
        (fun h => absurd h (by omega)) (fun h => hbad 1 w' (hE.trans hE') (.inr (.inr ⟨h0, hle, by omega, rfl⟩)))
        (fun k hk hkm => by
          obtain rfl : (Num.scan l 0).1 = k := by omega
          exact hok h0 hle hkm _ (hE.trans hE'.drew)))
      clear hbad hok hE hE' hb hn
      generalize cutAt A c (Num.scan l 0).2.1 = A' at *
      generalize c - (Num.scan l 0).2.1 = c' at *
      generalize l.length - (Num.scan l 0).2.1 = m' at *
      generalize (Num.scan l 0).1 = x at *
      show Calls Try.prog 77 #[_, _, _] _ _
      go_enter Try.func77, Try.ntmps77
      go_wp2_with fail
      refine F.out.mono ?_
      intro e w2 hr
      obtain ⟨er, rfl⟩ := hR _ _ hr
      go_wp2
      exact hr))
  clear hbad hok hE hBk hb
  go_enter Try.func74, Try.ntmps74
  go_wp2_with fail
  refine H.out.mono ?_
  intro e w2 hr
  obtain ⟨er, rfl⟩ := hR _ _ hr
  go_wp2
  exact hr
end Go.Proofs.Ytmaddohfkfnnhaa

namespace Go.Proofs.Ytmaddohfkfnnhaa
open Go.RowKit

theorem Num.scanF_drop (b : List UInt8) (q : Nat) : ∀ (f i x : Nat), Num.scanF b q f i x = ((Num.scanF (b.drop q) 0 f i x).1, q + (Num.scanF (b.drop q) 0 f i x).2.1, (Num.scanF (b.drop q) 0 f i x).2.2)
  | 0, _, _ => by simp [Num.scanF]
  | f + 1, i, x => by
    have hg : (b.drop q).getD (0 + i) 0 = b.getD (q + i) 0 := by simp [List.getD_eq_getElem?_getD]
    rw [Num.scanF, Num.scanF, hg, List.length_drop]
    by_cases h1 : b.length ≤ q + i
    · have h1' : b.length - q ≤ 0 + i := by omega
      simp only [if_pos h1, if_pos h1']; simp
    · have h1' : ¬ (b.length - q ≤ 0 + i) := by omega
      simp only [if_neg h1, if_neg h1']
      by_cases h2 : (i = 9 ∧ (b.getD (q + i) 0).toNat ≠ 1) ∨ (0 < i ∧ (b.getD (q + i) 0).toNat = 0)
      · simp only [if_pos h2]; simp
      · simp only [if_neg h2]
        by_cases h3 : (b.getD (q + i) 0).toNat < 128
        · simp only [if_pos h3]; simp; omega
        · simp only [if_neg h3]
          exact Num.scanF_drop b q f (i + 1) _
theorem Num.scan_drop (b : List UInt8) (q : Nat) : Num.scan b q = ((Num.scan (b.drop q) 0).1, q + (Num.scan (b.drop q) 0).2.1, (Num.scan (b.drop q) 0).2.2) := Num.scanF_drop b q 10 0 0

end Go.Proofs.Ytmaddohfkfnnhaa

namespace Go.Proofs.Ytmaddohfkfnnhaa
open Go.RowKit

/-- Behind a call of the program's cursor. -/
def PcTo (w : World) (g r : Nat) (b : List UInt8) (q : Nat) (e : Int) (w' : World) : Prop := PC w' g r b q e ∧ Mod w w' g none
theorem PcTo.refl {w : World} {g r q : Nat} {b : List UInt8} {e : Int} (h : PC w g r b q e) : PcTo w g r b q e w := ⟨h, Mod.refl _ _ _⟩
theorem PcTo.ext {w w' : World} {g r q : Nat} {b : List UInt8} {e : Int} (h : PC w g r b q e) (hE : Ext w w') : PcTo w g r b q e w' := ⟨h.ext hE, Mod.ofExt hE⟩
theorem PcTo.then {w w' w'' : World} {g r q' q'' : Nat} {b : List UInt8} {e' e'' : Int} (h : PcTo w g r b q' e' w') (k : PcTo w' g r b q'' e'' w'') : PcTo w g r b q'' e'' w'' := ⟨k.1, h.2.trans k.2 (.inl rfl)⟩
/-- The result stands in a cell. -/
theorem results_cell_one {fn : Func} {p : Tmp} {ty : TypeId} (h : fn.results = #[.cell p ty]) (tmps : Array Value) {w : World} {t : Nat} {v : Value} (hp : tmps.getD p undef = .pointer (some ⟨t, 0, none⟩)) (hv : ∀ W : World, W.cell? ⟨t, 0, none⟩ = some v → (loadVar ty ⟨t, 0, none⟩).run Try.prog W = .ok v W)
    (hc : w.cell? ⟨t, 0, none⟩ = some v) : (results fn tmps).run Try.prog w = .ok v w := by
  have hp' : tmps[p]?.getD undef = .pointer (some ⟨t, 0, none⟩) := by simpa using hp
  simp [results, h, hp', asAddr, hv w hc]

theorem load_u64 (t : Nat) (v : Value) (W : World) (h : W.cell? ⟨t, 0, none⟩ = some v) : (loadVar 55 ⟨t, 0, none⟩).run Try.prog W = .ok v W := by
  go_simp
theorem load_int (t : Nat) (v : Value) (W : World) (h : W.cell? ⟨t, 0, none⟩ = some v) : (loadVar 3 ⟨t, 0, none⟩).run Try.prog W = .ok v W := by
  go_simp
/-- What is told is stored once more, at the end. -/
theorem PC.atEnd {w : World} {g r t q : Nat} {b : List UInt8} {e : Int} (h : PC w g r b q e) (htg : t ≠ g) (htr : t ≠ r) (v : Value) : PC (w.setCell ⟨t, 0, none⟩ v) g r b q e :=
  h.told (Mod.ofOwn (grown_setCell w t 0 v)) ((grown_setCell w t 0 v).block g h.lt (by simpa using fun e => htg e.symm)) htr
theorem Mod.atEnd {w w1 w2 : World} {g t : Nat} (hE : Ext w w1) (hM : Mod w1 w2 g (some t)) (ht : w.heap.size ≤ t) (v : Value) : Mod w (w2.setCell ⟨t, 0, none⟩ v) g none :=
  (Mod.ofExt hE).trans (hM.trans (Mod.ofOwn (grown_setCell w2 t 0 v)) (.inl rfl)) (.inr ⟨t, rfl, ht⟩)

theorem read_told {w : World} {g r t q q' K : Nat} {T : TypeId} {b : List UInt8} {v : Value} {er : Int} {cap : Array Value} (hK : Entered K) (h : PC w g r b q 0) (htg : t ≠ g)
    (hC : Calls Try.prog K cap w fun e' w' => e' = .returned (.int .i64 er) ∧ Told w g r t T b v q' w') :
    Calls Try.prog 61 #[.pointer (some ⟨g, 0, none⟩), .func (.func K) #[] cap] w fun e' w' => e' = .returned (.tuple #[]) ∧ PC w' g r b q' er ∧ Whole w' t T #[v] ∧ Mod w w' g (some t) := by
  refine (read_any (R := fun er' w' => er' = er ∧ Told w g r t T b v q' w') hK h (hC.mono ?_)).mono ?_
  · rintro e' w' ⟨rfl, hT⟩
    exact ⟨er, q', rfl, hT.1, rfl, hT⟩
  · rintro e' w' ⟨rfl, er', _, w2, _, ⟨rfl, hT⟩, rfl⟩
    exact ⟨rfl, hT.1.setErr, hT.2.1.far htg 2 _, hT.2.2.trans (Mod.ofRow (grown_setCell w2 g 2 _)) (.inl rfl)⟩

end Go.Proofs.Ytmaddohfkfnnhaa

namespace Go.Proofs.Ytmaddohfkfnnhaa
open Go.RowKit

set_option maxHeartbeats 1000000 in
theorem slicesClone_any (A : Option Addr) (n c : Nat) (l : List UInt8) (w : World) (hc : n ≤ c) (hn : n ≤ 140737488355328) (hb : Bytes w w.heap.size A n l) :
    Calls Try.prog 60 #[.slice A n c] w (MadeB w l) := by
  have hnil := fun (W : World) (a : Option Addr) (n c n' c' : Nat) => Lib.run_eql_slice_nil (P := Try.prog) W 25 5 a n c n' c' Try.underlying25
  rcases A with _ | ad
  · have hl : l = [] := by
      rcases hb.2 with h0 | ⟨_, _, h, _⟩
      · exact List.eq_nil_of_length_eq_zero (by rw [hb.1, h0])
      · cases h
    subst hl
    have hn0 : n = 0 := hb.1.symm
    subst hn0
    go_enter Try.func60, Try.ntmps60
    go_wp2
    go_ret
    exact ⟨_, rfl, OwnB.nil _ _, Ext.refl _⟩
  · have ho := OwnB.empty w (Nat.le_refl _)
    have hb' := (extNew w (.cells #[] 5)).bytes hb
    have hB : w.heap.size ≤ (w.alloc (.cells #[] 5)).heap.size := by simp
    have hl0 : ([] : List UInt8).length + n ≤ 140737488355328 := by simpa using hn
    have hE := extNew w (.cells #[] 5)
    go_enter Try.func60, Try.ntmps60
    go_wp2_with (at_builtin; refine wpList_app rfl (.tmp 5) (.tmp 6) rfl rfl ho rfl hb' hl0 hB ?_; intro v1 w1 hown1 hg1)
    go_ret
    exact ⟨v1, rfl, hown1, ho.below hE hg1 hB⟩
end Go.Proofs.Ytmaddohfkfnnhaa

namespace Go.Proofs.Ytmaddohfkfnnhaa
open Go.RowKit

/-- A cursor is made of bytes of the call's own. -/
theorem PC.new {w : World} {base : Nat} {v : Value} {b : List UInt8} (h : OwnB w base v b) (hl : b.length ≤ 1000000) :
    ∃ r, PC (w.alloc (.cells #[v, .int .i64 0, .int .i64 0] 92)) w.heap.size r b 0 0 := by
  have hO := h.ext (extNew w (.cells #[v, .int .i64 0, .int .i64 0] 92))
  have hW := Whole.new w 92 #[v, .int .i64 0, .int .i64 0]
  rcases h.2 with ⟨rfl, h0⟩ | ⟨x, cap, cur, rfl, hb, hx, hn, _⟩
  · have hnil := List.eq_nil_of_length_eq_zero h0
    subst hnil
    exact ⟨w.heap.size, none, 0, hW, by simp, ⟨rfl, .inl rfl⟩, by simp, by simp, by simp⟩
  · have hxl := (Array.getElem?_eq_some_iff.1 hx).1
    refine ⟨x, some ⟨x, 0, none⟩, cap, hW, by simpa using hn, ⟨by simp, ?_⟩, by simp; omega, by simp, hl⟩
    refine .inr ⟨by omega, 0, rfl, fun i hi => ?_⟩
    rw [Nat.zero_add, List.drop_zero]
    exact (hO.cell (by simpa using hi)).1

theorem pcNew_any (A : Option Addr) (n c : Nat) (b : List UInt8) (w : World) (hc : n ≤ c) (hn : n ≤ 1000000) (hb : Bytes w w.heap.size A n b) :
    Calls Try.prog 50 #[.slice A n c] w fun e w' => ∃ g r, e = .returned (.pointer (some ⟨g, 0, none⟩)) ∧ w.heap.size ≤ g ∧ PC w' g r b 0 0 ∧ Ext w w' := by
  have hll := hb.1
  subst hll
  have C := slicesClone_any A b.length c b w hc (by omega) hb
  go_enter Try.func50, Try.ntmps50
  go_wp2_with fail
  refine C.mono ?_
  rintro e w1 ⟨v, rfl, hO, hE⟩
  obtain ⟨r, hP⟩ := PC.new hO hn
  have hB := hE.le
  obtain ⟨A1, n1, c1, rfl, _⟩ := hO.form'
  go_wp2
  go_ret
  exact ⟨w1.heap.size, r, rfl, hB, hP, hE.trans (extNew w1 _)⟩

theorem pcAt_any {w : World} {g r q : Nat} {b : List UInt8} {e : Int} (h : PC w g r b q e) :
    Calls Try.prog 54 #[.pointer (some ⟨g, 0, none⟩)] w fun e' w' => e' = .returned (.int .i64 (q : Int)) ∧ w = w' := by
  obtain ⟨A, c, c0, c1, _, _, _, _, hc, hR⟩ := h.cells
  clear hR h
  go_enter Try.func54, Try.ntmps54
  go_wp2
  go_ret
  exact ⟨rfl, rfl⟩
theorem pcErr_any {w : World} {g r q : Nat} {b : List UInt8} {e : Int} (h : PC w g r b q e) :
    Calls Try.prog 53 #[.pointer (some ⟨g, 0, none⟩)] w fun e' w' => e' = .returned (.int .i64 e) ∧ w = w' := by
  obtain ⟨A, c, c0, c1, c2, _, _, _, hc, hR⟩ := h.cells
  clear hR h
  go_enter Try.func53, Try.ntmps53
  go_wp2
  go_ret
  exact ⟨rfl, rfl⟩
theorem pcAt_nil (w : World) : Calls Try.prog 54 #[.pointer none] w fun e' w' => e' = .returned (.int .i64 0) ∧ w = w' := by
  go_enter Try.func54, Try.ntmps54
  go_wp2
  go_ret
  exact ⟨rfl, rfl⟩
theorem pcErr_nil (w : World) : Calls Try.prog 53 #[.pointer none] w fun e' w' => e' = .returned (.int .i64 13) ∧ w = w' := by
  go_enter Try.func53, Try.ntmps53
  go_wp2
  go_ret
  exact ⟨rfl, rfl⟩

theorem entered_fail1 : Entered 76 := entered_of Try.func76 (by kernel_rfl) rfl
theorem fail1_any {w : World} {B : Nat} {e : Int} (hB : w.cell? ⟨B, 0, none⟩ = some (.int .i64 e)) : Calls Try.prog 76 #[.pointer (some ⟨B, 0, none⟩)] w fun e' w' => e' = .returned (.int .i64 e) ∧ w = w' := by
  go_enter Try.func76, Try.ntmps76
  go_wp2
  go_ret
  exact ⟨rfl, rfl⟩
theorem pcFail_any {w : World} {g r q : Nat} {b : List UInt8} {e : Int} (h : PC w g r b q e) (e2 : Int) :
    Calls Try.prog 67 #[.pointer (some ⟨g, 0, none⟩), .int .i64 e2] w fun e' w' => e' = .returned (.tuple #[]) ∧ PcTo w g r b q (Num.failR e e2) w' := by
  have hE := extNew w (.cells #[.int .i64 e2] 26)
  have hP := h.ext hE
  have hB : (w.alloc (.cells #[.int .i64 e2] 26)).cell? ⟨w.heap.size, 0, none⟩ = some (.int .i64 e2) := cellNew w _ _ _ 0
  by_cases he : e = 0
  · subst he
    have C := read_any (R := fun er w' => er = e2 ∧ w.alloc (.cells #[.int .i64 e2] 26) = w') entered_fail1 hP ((fail1_any hB).mono (by rintro e' w' ⟨rfl, rfl⟩; exact ⟨e2, q, rfl, hP, rfl, rfl⟩))
    have HR := hide (show Num.failR 0 e2 = e2 from rfl)
    have HP := hide hP
    have HE := hide hE
    clear hB hP hE h
    go_enter Try.func67, Try.ntmps67
    go_wp2_with fail
    refine C.mono ?_
    rintro e' w2 ⟨rfl, er, q', w3, _, ⟨rfl, rfl⟩, rfl⟩
    go_wp2
    go_end0
    rw [HR.out]
    exact ⟨rfl, HP.out.setErr, (Mod.ofExt HE.out).trans (Mod.ofRow (grown_setCell _ g 2 _)) (.inl rfl)⟩
  · have HR := hide (show Num.failR e e2 = e by unfold Num.failR; rw [if_neg he])
    have C := read_stuck (K := 76) (cap := #[.pointer (some ⟨w.heap.size, 0, none⟩)]) hP he
    have HP := hide hP
    have HE := hide hE
    clear hB hP hE h he
    go_enter Try.func67, Try.ntmps67
    go_wp2_with fail
    refine C.mono ?_
    rintro e' w2 ⟨rfl, rfl⟩
    go_wp2
    go_end0
    rw [HR.out]
    exact ⟨rfl, HP.out, Mod.ofExt HE.out⟩
theorem pcFail_nil (w : World) (e2 : Int) : Calls Try.prog 67 #[.pointer none, .int .i64 e2] w fun e' w' => e' = .returned (.tuple #[]) ∧ Ext w w' := by
  have C := read_nil (w := w.alloc (.cells #[.int .i64 e2] 26)) (K := 76) (cap := #[.pointer (some ⟨w.heap.size, 0, none⟩)])
  have HE := hide (extNew w (.cells #[.int .i64 e2] 26))
  go_enter Try.func67, Try.ntmps67
  go_wp2_with fail
  refine C.mono ?_
  rintro e' w2 ⟨rfl, rfl⟩
  go_wp2
  go_end0
  exact ⟨rfl, HE.out⟩

theorem entered_end1 : Entered 68 := entered_of Try.func68 (by kernel_rfl) rfl
theorem end1_any {w : World} {g r B q : Nat} {b : List UInt8} {e : Int} (h : PC w g r b q e) (hB : w.cell? ⟨B, 0, none⟩ = some (.pointer (some ⟨g, 0, none⟩))) :
    Calls Try.prog 68 #[.pointer (some ⟨B, 0, none⟩)] w fun e' w' => e' = .returned (.int .i64 (Num.endR b q 0)) ∧ w = w' := by
  obtain ⟨A, c, c0, _, _, _, _, _, hc, hR⟩ := h.cells
  clear hR h
  by_cases h0 : 0 < b.length - q
  · have HR := hide (show Num.endR b q 0 = 2 by unfold Num.endR; rw [if_pos ⟨rfl, h0⟩])
    have h0' : (0 : Int) < ((b.length - q : Nat) : Int) := by omega
    go_enter Try.func68, Try.ntmps68
    go_wp2
    go_ret
    rw [HR.out]
    exact ⟨rfl, rfl⟩
  · have HR := hide (show Num.endR b q 0 = 0 by unfold Num.endR; rw [if_neg (fun h => h0 h.2)])
    have h0' : ¬ ((0 : Int) < ((b.length - q : Nat) : Int)) := by omega
    go_enter Try.func68, Try.ntmps68
    go_wp2
    go_ret
    rw [HR.out]
    exact ⟨rfl, rfl⟩
theorem pcEnd_any {w : World} {g r q : Nat} {b : List UInt8} {e : Int} (h : PC w g r b q e) :
    Calls Try.prog 58 #[.pointer (some ⟨g, 0, none⟩)] w fun e' w' => e' = .returned (.int .i64 (Num.endR b q e)) ∧ PcTo w g r b q (Num.endR b q e) w' := by
  have hE := extNew w (.cells #[.pointer (some ⟨g, 0, none⟩)] 80)
  have hP := h.ext hE
  have hglt := h.lt
  have hB : (w.alloc (.cells #[.pointer (some ⟨g, 0, none⟩)] 80)).cell? ⟨w.heap.size, 0, none⟩ = some (.pointer (some ⟨g, 0, none⟩)) := cellNew w _ _ _ 0
  by_cases he : e = 0
  · subst he
    have C := read_any (R := fun er w' => er = Num.endR b q 0 ∧ w.alloc (.cells #[.pointer (some ⟨g, 0, none⟩)] 80) = w') entered_end1 hP ((end1_any hP hB).mono (by rintro e' w' ⟨rfl, rfl⟩; exact ⟨_, q, rfl, hP, rfl, rfl⟩))
    generalize Num.endR b q 0 = E at *
    have HP := hide hP
    have HE := hide hE
    have HB := hide hB
    clear hB hP hE h
    go_enter Try.func58, Try.ntmps58
    go_wp2_with fail
    refine C.mono ?_
    rintro e' w2 ⟨rfl, er, q', w3, _, ⟨rfl, rfl⟩, rfl⟩
    have hP2 := HP.out.setErr (e' := er)
    have hM2 := (Mod.ofExt (g := g) (ob := none) HE.out).trans (Mod.ofRow (grown_setCell _ g 2 (.int .i64 er))) (.inl rfl)
    have hB2 := ((Mod.ofRow (ob := none) (grown_setCell (w.alloc (.cells #[.pointer (some ⟨g, 0, none⟩)] 80)) g 2 (.int .i64 er))).cell (x := w.heap.size) (i := 0) (by simp) (by omega) (by simp)).trans HB.out
    generalize (w.alloc (.cells #[.pointer (some ⟨g, 0, none⟩)] 80)).setCell ⟨g, 2, none⟩ (.int .i64 er) = w2 at *
    have C2 := pcErr_any hP2
    go_wp2_with fail
    refine C2.mono ?_
    rintro e' w4 ⟨rfl, rfl⟩
    go_wp2
    go_ret
    exact ⟨rfl, hP2, hM2⟩
  · have HR := hide (show Num.endR b q e = e by unfold Num.endR; rw [if_neg (fun h => he h.1)])
    have C := read_stuck (K := 68) (cap := #[.pointer (some ⟨w.heap.size, 0, none⟩)]) hP he
    have C2 := pcErr_any hP
    have HP := hide hP
    have HE := hide hE
    clear hP hE h he
    go_enter Try.func58, Try.ntmps58
    go_wp2_with fail
    refine C.mono ?_
    rintro e' w2 ⟨rfl, rfl⟩
    go_wp2_with fail
    refine C2.mono ?_
    rintro e' w4 ⟨rfl, rfl⟩
    go_wp2
    go_ret
    rw [HR.out]
    exact ⟨rfl, HP.out, Mod.ofExt HE.out⟩
theorem pcEnd_nil (w : World) : Calls Try.prog 58 #[.pointer none] w fun e' w' => e' = .returned (.int .i64 13) ∧ Ext w w' := by
  have C := read_nil (w := w.alloc (.cells #[.pointer none] 80)) (K := 68) (cap := #[.pointer (some ⟨w.heap.size, 0, none⟩)])
  have HE := hide (extNew w (.cells #[.pointer none] 80))
  have hB : (w.alloc (.cells #[.pointer none] 80)).cell? ⟨w.heap.size, 0, none⟩ = some (.pointer none) := cellNew w _ _ _ 0
  have C2 := pcErr_nil (w.alloc (.cells #[.pointer none] 80))
  go_enter Try.func58, Try.ntmps58
  go_wp2_with fail
  refine C.mono ?_
  rintro e' w2 ⟨rfl, rfl⟩
  go_wp2_with fail
  refine C2.mono ?_
  rintro e' w4 ⟨rfl, rfl⟩
  go_wp2
  go_ret
  exact ⟨rfl, HE.out⟩
end Go.Proofs.Ytmaddohfkfnnhaa

namespace Go.Proofs.Ytmaddohfkfnnhaa
open Go.RowKit

theorem Told.ext0 {w w' : World} {g r t q : Nat} {T : TypeId} {b : List UInt8} {v : Value} (h : PC w g r b q 0) (ht : Whole w t T #[v]) (hE : Ext w w') : Told w g r t T b v q w' := ⟨h.ext hE, ht.ext hE, Mod.ofExt hE⟩
/-- Behind a closure that tells bytes of the row. -/
def ToldRow (w : World) (g r t : Nat) (b l : List UInt8) (q : Nat) (w' : World) : Prop := ∃ A n c, PC w' g r b q 0 ∧ Whole w' t 90 #[.slice A n c] ∧ n ≤ c ∧ RowIn w' g r A n l ∧ Mod w w' g (some t)
theorem ToldRow.from {w w' w'' : World} {g r t q : Nat} {b l : List UInt8} (hE : Ext w w') (h : ToldRow w' g r t b l q w'') : ToldRow w g r t b l q w'' := by
  obtain ⟨A, n, c, h1, h2, h3, h4, h5⟩ := h
  exact ⟨A, n, c, h1, h2, h3, h4, (Mod.ofExt hE).trans h5 (.inl rfl)⟩
theorem ToldRow.ext0 {w w' : World} {g r t q : Nat} {b : List UInt8} (h : PC w g r b q 0) (ht : Whole w t 90 #[.slice none 0 0]) (hE : Ext w w') : ToldRow w g r t b [] q w' := ⟨none, 0, 0, h.ext hE, ht.ext hE, Nat.le_refl _, ⟨rfl, .inl rfl⟩, Mod.ofExt hE⟩
theorem ToldRow.of {w w' : World} {g r t q q0 nx cx : Nat} {e : Int} {b l : List UInt8} {Ax : Option Addr} (h : PC w g r b q0 e) (htr : t ≠ r) (hx : RowIn w g r Ax nx l) (hn : nx ≤ cx) (hT : Told w g r t 90 b (.slice Ax nx cx) q w') : ToldRow w g r t b l q w' :=
  ⟨Ax, nx, cx, hT.1, hT.2.1, hn, hx.mod hT.2.2 h.rlt (by simpa using htr), hT.2.2⟩

theorem entered_tellInt : Entered 72 := entered_of Try.func72 (by kernel_rfl) rfl
theorem entered_tellRow : Entered 79 := entered_of Try.func79 (by kernel_rfl) rfl

theorem intGoes {w : World} {g r t Bt Bc q m c : Nat} {b : List UInt8} {A : Option Addr} {most : Int} (hm : most ≤ 9223372036854775807) (h : PC w g r b q 0) (hrow : w.cell? ⟨g, 0, none⟩ = some (.slice A m c)) (hBt : w.cell? ⟨Bt, 0, none⟩ = some (.pointer (some ⟨t, 0, none⟩))) (hBc : w.cell? ⟨Bc, 0, none⟩ = some (.pointer (some ⟨g, 0, none⟩)))
    (ht : Whole w t 3 #[.int .i64 0]) (htg : t ≠ g) (htr : t ≠ r) (hct : Bc ≠ t) (hcg : Bc ≠ g) :
    Calls Try.prog 63 #[.slice A m c, .int .i64 most, .func (.func 72) #[] #[.pointer (some ⟨Bt, 0, none⟩), .pointer (some ⟨Bc, 0, none⟩)]] w
      fun e w' => e = .returned (.int .i64 (Num.intR b q 0 most).2.2) ∧ Told w g r t 3 b (.int .i64 (((Num.intR b q 0 most).1 : Nat) : Int)) (Num.intR b q 0 most).2.1 w' := by
  obtain ⟨A0, c0, d0, _, _, _, _, _, hc0, hR0⟩ := h.cells
  rw [hrow] at d0
  simp only [Option.some.injEq, Value.slice.injEq] at d0
  obtain ⟨rfl, rfl, rfl⟩ := d0
  have hl := h.bounds
  have hI : Num.intR b q 0 most = (if (Num.numR b q 0).2.2 = 0 then (if most < ((Num.numR b q 0).1 : Int) then (0, q, 6) else Num.numR b q 0) else (0, (Num.numR b q 0).2.1, (Num.numR b q 0).2.2)) := rfl
  rw [show Num.numR b q 0 = Num.scan b q from rfl, Num.scan_drop b q] at hI
  have hf := Num.scan_facts (b.drop q) 0
  have hlen : (b.drop q).length = b.length - q := List.length_drop
  have := count_any (w := w) (A := A) (c := c) (l := b.drop q) (most := most) (K := 72) (cap := #[.pointer (some ⟨Bt, 0, none⟩), .pointer (some ⟨Bc, 0, none⟩)])
    (R := fun e w' => e = .returned (.int .i64 (Num.intR b q 0 most).2.2) ∧ Told w g r t 3 b (.int .i64 (((Num.intR b q 0 most).1 : Nat) : Int)) (Num.intR b q 0 most).2.1 w')
    entered_tellInt hm (by rw [hlen]; exact hR0.bytes) (by omega) (by omega) (fun e w' he => ⟨_, he.1⟩)
    (fun er w' hE hcase => by
      rcases hcase with ⟨rfl, h0⟩ | ⟨h0, h6, rfl⟩
      · obtain ⟨h1, h2⟩ := hf.2.2.1 h0
        rw [if_neg h0, h1] at hI
        rw [hI]
        exact ⟨rfl, Told.ext0 h ht hE⟩
      · rw [if_pos h0, if_pos h6] at hI
        rw [hI]
        exact ⟨rfl, Told.ext0 h ht hE⟩)
    (fun h0 hle w' hE => by
      obtain ⟨h1, h2⟩ := hf.2.1 h0
      rw [if_pos h0, if_neg (by omega)] at hI
      rw [hI, h0]
      have hRd := (hR0.drop (k := (Num.scan (b.drop q) 0).2.1) (by omega) hc0)
      rw [List.drop_drop, Nat.sub_sub] at hRd
      rw [hlen, Nat.sub_sub]
      have hBlt := World.block_lt_of_cell? w ⟨Bt, 0, none⟩ hBt
      have hClt := World.block_lt_of_cell? w ⟨Bc, 0, none⟩ hBc
      refine (tellInt_any (h.ext hE) (by omega) (by omega) ((hE.cell hBlt).trans hBt) ((hE.cell hClt).trans hBc) (ht.ext hE) htg htr hct hcg (hRd.at (hE.block r h.rlt)) (by omega)).mono ?_
      rintro e w2 ⟨rfl, hT⟩
      exact ⟨rfl, Told.from hE hT⟩)
  rwa [hlen] at this

theorem takeGoes {w : World} {g r t Bt Bc q m c : Nat} {b : List UInt8} {A : Option Addr} {n : Int} (h : PC w g r b q 0) (hrow : w.cell? ⟨g, 0, none⟩ = some (.slice A m c)) (hBt : w.cell? ⟨Bt, 0, none⟩ = some (.pointer (some ⟨t, 0, none⟩))) (hBc : w.cell? ⟨Bc, 0, none⟩ = some (.pointer (some ⟨g, 0, none⟩)))
    (ht : Whole w t 90 #[.slice none 0 0]) (htg : t ≠ g) (htr : t ≠ r) (hct : Bc ≠ t) (hcg : Bc ≠ g) :
    Calls Try.prog 78 #[.slice A m c, .int .i64 n, .func (.func 79) #[] #[.pointer (some ⟨Bt, 0, none⟩), .pointer (some ⟨Bc, 0, none⟩)]] w
      fun e w' => e = .returned (.int .i64 (Num.takeR b q 0 n).2.2) ∧ ToldRow w g r t b (Num.takeR b q 0 n).1 (Num.takeR b q 0 n).2.1 w' := by
  obtain ⟨A0, c0, d0, _, _, _, _, _, hc0, hR0⟩ := h.cells
  rw [hrow] at d0
  simp only [Option.some.injEq, Value.slice.injEq] at d0
  obtain ⟨rfl, rfl, rfl⟩ := d0
  have hl := h.bounds
  refine first_any (w := w) (A := A) (m := b.length - q) (c := c) (n := n) (K := 79) (cap := #[.pointer (some ⟨Bt, 0, none⟩), .pointer (some ⟨Bc, 0, none⟩)]) entered_tellRow hc0 (fun e w' he => ⟨_, he.1⟩) (fun h0 => ?_) (fun h0 => ?_) (fun k hk hkm => ?_)
  · have hF : Num.takeR b q 0 n = ([], q, 13) := by unfold Num.takeR; rw [if_pos rfl, if_pos h0]
    rw [hF]
    exact ⟨rfl, ToldRow.ext0 h ht (Ext.refl _)⟩
  · have hF : Num.takeR b q 0 n = ([], q, 1) := by unfold Num.takeR; rw [if_pos rfl, if_neg (by omega), if_pos h0]
    rw [hF]
    exact ⟨rfl, ToldRow.ext0 h ht (Ext.refl _)⟩
  · subst hk
    have hF : Num.takeR b q 0 (k : Int) = ((b.drop q).take k, q + k, 0) := by unfold Num.takeR; rw [if_pos rfl, if_neg (by omega), if_neg (by omega)]; rfl
    rw [hF]
    have hE : Ext w w.drew := (Ext.refl w).drew
    have hRd := (hR0.drop (k := k) (by omega) hc0)
    rw [List.drop_drop, Nat.sub_sub] at hRd
    rw [Nat.sub_sub]
    have hRt := ((hR0.drop (k := 0) (by omega) hc0)).take (k := k) (by omega)
    rw [List.drop_zero] at hRt
    have hRt' := hRt.at (hE.block r h.rlt)
    have hBlt := World.block_lt_of_cell? w ⟨Bt, 0, none⟩ hBt
    have hClt := World.block_lt_of_cell? w ⟨Bc, 0, none⟩ hBc
    refine (tellRow_any (h.ext hE) (by omega) (by omega) ((hE.cell hBlt).trans hBt) ((hE.cell hClt).trans hBc) (ht.ext hE) htg htr hct hcg (hRd.at (hE.block r h.rlt)) (by omega)).mono ?_
    rintro e w2 ⟨rfl, hT⟩
    exact ⟨rfl, ToldRow.from hE (ToldRow.of (h.ext hE) htr hRt' (by omega) hT)⟩

theorem textGoes {w : World} {g r t Bt Bc q m c : Nat} {b : List UInt8} {A : Option Addr} {most : Int} (hm : most ≤ 9223372036854775807) (h : PC w g r b q 0) (hrow : w.cell? ⟨g, 0, none⟩ = some (.slice A m c)) (hBt : w.cell? ⟨Bt, 0, none⟩ = some (.pointer (some ⟨t, 0, none⟩))) (hBc : w.cell? ⟨Bc, 0, none⟩ = some (.pointer (some ⟨g, 0, none⟩)))
    (ht : Whole w t 90 #[.slice none 0 0]) (htg : t ≠ g) (htr : t ≠ r) (hct : Bc ≠ t) (hcg : Bc ≠ g) :
    Calls Try.prog 74 #[.slice A m c, .int .i64 most, .func (.func 79) #[] #[.pointer (some ⟨Bt, 0, none⟩), .pointer (some ⟨Bc, 0, none⟩)]] w
      fun e w' => e = .returned (.int .i64 (Num.textR b q 0 most).2.2) ∧ ToldRow w g r t b (Num.textR b q 0 most).1 (Num.textR b q 0 most).2.1 w' := by
  obtain ⟨A0, c0, d0, _, _, _, _, _, hc0, hR0⟩ := h.cells
  rw [hrow] at d0
  simp only [Option.some.injEq, Value.slice.injEq] at d0
  obtain ⟨rfl, rfl, rfl⟩ := d0
  have hl := h.bounds
  have hI : Num.intR b q 0 most = (if (Num.numR b q 0).2.2 = 0 then (if most < ((Num.numR b q 0).1 : Int) then (0, q, 6) else Num.numR b q 0) else (0, (Num.numR b q 0).2.1, (Num.numR b q 0).2.2)) := rfl
  rw [show Num.numR b q 0 = Num.scan b q from rfl, Num.scan_drop b q] at hI
  have hf := Num.scan_facts (b.drop q) 0
  have hlen : (b.drop q).length = b.length - q := List.length_drop
  have := text_any (w := w) (A := A) (c := c) (l := b.drop q) (most := most) (K := 79) (cap := #[.pointer (some ⟨Bt, 0, none⟩), .pointer (some ⟨Bc, 0, none⟩)])
    (R := fun e w' => e = .returned (.int .i64 (Num.textR b q 0 most).2.2) ∧ ToldRow w g r t b (Num.textR b q 0 most).1 (Num.textR b q 0 most).2.1 w')
    entered_tellRow hm (by rw [hlen]; exact hR0.bytes) (by omega) (by omega) (fun e w' he => ⟨_, he.1⟩)
    (fun er w' hE hcase => by
      rcases hcase with ⟨rfl, h0⟩ | ⟨h0, h6, rfl⟩ | ⟨h0, hle, hs, rfl⟩
      · obtain ⟨h1, h2⟩ := hf.2.2.1 h0
        rw [if_neg h0, h1] at hI
        have hF : Num.textR b q 0 most = ([], q, (Num.scan (b.drop q) 0).2.2) := by unfold Num.textR; rw [hI, if_neg h0]; rfl
        rw [hF]
        exact ⟨rfl, ToldRow.ext0 h ht hE⟩
      · rw [if_pos h0, if_pos h6] at hI
        have hF : Num.textR b q 0 most = ([], q, 6) := by unfold Num.textR; rw [hI, if_neg (by simp)]
        rw [hF]
        exact ⟨rfl, ToldRow.ext0 h ht hE⟩
      · obtain ⟨h1, h2⟩ := hf.2.1 h0
        rw [if_pos h0, if_neg (by omega)] at hI
        have hF : Num.textR b q 0 most = ([], q, 1) := by
          unfold Num.textR
          rw [hI, if_pos h0, if_pos (by simp only; omega)]
        rw [hF]
        exact ⟨rfl, ToldRow.ext0 h ht hE⟩)
    (fun h0 hle hs w' hE => by
      obtain ⟨h1, h2⟩ := hf.2.1 h0
      rw [if_pos h0, if_neg (by omega)] at hI
      generalize hx : (Num.scan (b.drop q) 0).1 = x at *
      generalize hp : (Num.scan (b.drop q) 0).2.1 = p at *
      have hF : Num.textR b q 0 most = ((b.drop (q + p)).take x, q + p + x, 0) := by
        unfold Num.textR
        rw [hI, if_pos h0, if_neg (by simp only; omega)]
        unfold Num.takeR
        rw [if_pos rfl, if_neg (by omega), if_neg (by simp only; omega)]
        rfl
      rw [hF]
      have hRd := hR0.drop (k := p) (by omega) hc0
      rw [List.drop_drop] at hRd
      have hRx := hRd.drop (k := x) (c := c - p) (by omega) (by omega)
      rw [List.drop_drop, show b.length - q - p - x = b.length - (q + p + x) by omega] at hRx
      have hRt := (hRd.drop (k := 0) (c := c - p) (by omega) (by omega)).take (k := x) (by omega)
      rw [List.drop_zero] at hRt
      have hRt' := hRt.at (hE.block r h.rlt)
      rw [hlen, show b.length - q - p - x = b.length - (q + p + x) by omega]
      have hBlt := World.block_lt_of_cell? w ⟨Bt, 0, none⟩ hBt
      have hClt := World.block_lt_of_cell? w ⟨Bc, 0, none⟩ hBc
      refine (tellRow_any (h.ext hE) (by omega) (by omega) ((hE.cell hBlt).trans hBt) ((hE.cell hClt).trans hBc) (ht.ext hE) htg htr hct hcg (hRx.at (hE.block r h.rlt)) (by omega)).mono ?_
      rintro e w2 ⟨rfl, hT⟩
      exact ⟨rfl, ToldRow.from hE (ToldRow.of (h.ext hE) htr hRt' (by omega) hT)⟩)
  rwa [hlen] at this

theorem entered_int1 : Entered 62 := entered_of Try.func62 (by kernel_rfl) rfl
set_option maxHeartbeats 2000000 in
set_option maxRecDepth 100000 in
theorem int1_any {w : World} {g r t B0 B1 q : Nat} {b : List UInt8} {most : Int} (hm : most ≤ 9223372036854775807) (h : PC w g r b q 0) (hB0 : w.cell? ⟨B0, 0, none⟩ = some (.pointer (some ⟨g, 0, none⟩))) (hB1 : w.cell? ⟨B1, 0, none⟩ = some (.int .i64 most)) (ht : Whole w t 3 #[.int .i64 0]) (htg : t ≠ g) (htr : t ≠ r) :
    Calls Try.prog 62 #[.pointer (some ⟨B0, 0, none⟩), .pointer (some ⟨B1, 0, none⟩), .pointer (some ⟨t, 0, none⟩)] w
      fun e w' => e = .returned (.int .i64 (Num.intR b q 0 most).2.2) ∧ Told w g r t 3 b (.int .i64 (((Num.intR b q 0 most).1 : Nat) : Int)) (Num.intR b q 0 most).2.1 w' := by
  obtain ⟨A, c, c0, x1, x2, x3, x4, x5, hc, hR⟩ := h.cells
  clear x1 x2 x3 x4 x5
  have hglt := h.lt
  have htlt := ht.lt
  have hBlt := World.block_lt_of_cell? w ⟨B0, 0, none⟩ hB0
  have hBlt1 := World.block_lt_of_cell? w ⟨B1, 0, none⟩ hB1
  have HP := hide h
  have HT := hide ht
  clear h ht hR hc
  go_enter Try.func62, Try.ntmps62
  go_wp2
  refine wp_region_T (fun W => W.cell? ⟨B0, 0, none⟩ = some (.pointer (some ⟨g, 0, none⟩)) ∧ W.cell? ⟨B1, 0, none⟩ = some (.int .i64 most) ∧ W.cell? ⟨g, 0, none⟩ = some (.slice A (b.length - q) c)) 7 9 #[false, false, false, false, false, false, false, false, false] (by kernel_rfl) rfl rfl ⟨hB0, hB1, c0⟩ ?_
  intro hS0
  refine wpAnyT_take 0 (some 4) (.pointer (some ⟨g, 0, none⟩)) #[true, false, false, false, false, false, false, false, false] rfl rfl rfl (by kernel_rfl) (fun _ _ _ h => h) hS0 (by rfl) (fun W ⟨s0, s1, s2⟩ => by go_simp) ?_
  simp only [Act.put, List.setIfInBounds_toArray, List.set_cons_zero, List.set_cons_succ]
  refine wpAnyT_take 1 (some 5) (.pointer (some ⟨g, 0, none⟩)) #[true, true, false, false, false, false, false, false, false] rfl rfl rfl (by kernel_rfl) (fun _ _ _ h => h) hS0 (by rfl) (fun W ⟨s0, s1, s2⟩ => by go_simp) ?_
  simp only [Act.put, List.setIfInBounds_toArray, List.set_cons_zero, List.set_cons_succ]
  refine wpAnyT_take 2 (some 6) (.pointer (some ⟨g, 0, none⟩)) #[true, true, true, false, false, false, false, false, false] rfl rfl rfl (by kernel_rfl) (fun _ _ _ h => h) hS0 (by rfl) (fun W ⟨s0, s1, s2⟩ => by go_simp) ?_
  simp only [Act.put, List.setIfInBounds_toArray, List.set_cons_zero, List.set_cons_succ]
  refine wpAnyT_take 3 (some 7) (.slice A (b.length - q) c) #[true, true, true, true, false, false, false, false, false] rfl rfl rfl (by kernel_rfl) (fun _ _ _ h => h) hS0 (by rfl) (fun W ⟨s0, s1, s2⟩ => by go_simp) ?_
  simp only [Act.put, List.setIfInBounds_toArray, List.set_cons_zero, List.set_cons_succ]
  refine wpAnyT_take 4 (some 8) (.int .i64 most) #[true, true, true, true, true, false, false, false, false] rfl rfl rfl (by kernel_rfl) (fun _ _ _ h => h) hS0 (by rfl) (fun W ⟨s0, s1, s2⟩ => by go_simp) ?_
  simp only [Act.put, List.setIfInBounds_toArray, List.set_cons_zero, List.set_cons_succ]
  refine wpAnyT_take 5 (some 9) (.pointer (some ⟨g, 0, none⟩)) #[true, true, true, true, true, true, false, false, false] rfl rfl rfl (by kernel_rfl) (fun _ _ _ h => h) hS0 (by rfl) (fun W ⟨s0, s1, s2⟩ => by go_simp) ?_
  simp only [Act.put, List.setIfInBounds_toArray, List.set_cons_zero, List.set_cons_succ]
  refine wpAnyT_only 6 #[true, true, true, true, true, true, true, false, false] (by kernel_rfl) rfl rfl (by rfl) (fun K hK => ?_)
  go_simp
  refine (takerInt_any g t _).mono ?_
  rintro e w2 ⟨Bt, Bc, rfl, _, hBc1, hBt, hBc, hE2'⟩
  have hE2 : Ext w w2 := (Ext.refl w).drew.trans hE2'
  have k0 := (hE2.cell (i := 0) hBlt).trans hB0
  have kn := (hE2.cell (i := 0) hBlt1).trans hB1
  have k1 := (hE2.cell (i := 0) hglt).trans c0
  change w.heap.size ≤ Bc at hBc1
  refine hK _ _ (fun _ => ⟨k0, kn, k1⟩) ?_
  clear hK K
  refine wpAnyT_only 7 #[true, true, true, true, true, true, true, true, false] (by kernel_rfl) rfl rfl (by rfl) (fun K hK => ?_)
  go_simp
  refine (intGoes hm (HP.out.ext hE2) k1 hBt hBc (HT.out.ext hE2) htg htr (by omega) (by omega)).mono ?_
  rintro e w3 ⟨rfl, hT3⟩
  refine hK _ _ (fun h => absurd h (by decide)) ?_
  clear hK K
  refine wpAnyT_only 8 #[true, true, true, true, true, true, true, true, true] (by kernel_rfl) rfl rfl (by rfl) (fun K hK => ?_)
  go_simp
  refine hK _ _ (fun h => absurd h (by decide)) ?_
  refine wpAnyT_done (by kernel_rfl) ?_ _
  go_wp2
  go_ret
  exact ⟨rfl, Told.from hE2 hT3⟩

theorem entered_ctext1 : Entered 73 := entered_of Try.func73 (by kernel_rfl) rfl
set_option maxHeartbeats 2000000 in
set_option maxRecDepth 100000 in
theorem ctext1_any {w : World} {g r t B0 B1 q : Nat} {b : List UInt8} {most : Int} (hm : most ≤ 9223372036854775807) (h : PC w g r b q 0) (hB0 : w.cell? ⟨B0, 0, none⟩ = some (.pointer (some ⟨g, 0, none⟩))) (hB1 : w.cell? ⟨B1, 0, none⟩ = some (.int .i64 most)) (ht : Whole w t 90 #[.slice none 0 0]) (htg : t ≠ g) (htr : t ≠ r) :
    Calls Try.prog 73 #[.pointer (some ⟨B0, 0, none⟩), .pointer (some ⟨B1, 0, none⟩), .pointer (some ⟨t, 0, none⟩)] w
      fun e w' => e = .returned (.int .i64 (Num.textR b q 0 most).2.2) ∧ ToldRow w g r t b (Num.textR b q 0 most).1 (Num.textR b q 0 most).2.1 w' := by
  obtain ⟨A, c, c0, x1, x2, x3, x4, x5, hc, hR⟩ := h.cells
  clear x1 x2 x3 x4 x5
  have hglt := h.lt
  have htlt := ht.lt
  have hBlt := World.block_lt_of_cell? w ⟨B0, 0, none⟩ hB0
  have hBlt1 := World.block_lt_of_cell? w ⟨B1, 0, none⟩ hB1
  have HP := hide h
  have HT := hide ht
  clear h ht hR hc
  go_enter Try.func73, Try.ntmps73
  go_wp2
  refine wp_region_T (fun W => W.cell? ⟨B0, 0, none⟩ = some (.pointer (some ⟨g, 0, none⟩)) ∧ W.cell? ⟨B1, 0, none⟩ = some (.int .i64 most) ∧ W.cell? ⟨g, 0, none⟩ = some (.slice A (b.length - q) c)) 7 9 #[false, false, false, false, false, false, false, false, false] (by kernel_rfl) rfl rfl ⟨hB0, hB1, c0⟩ ?_
  intro hS0
  refine wpAnyT_take 0 (some 4) (.pointer (some ⟨g, 0, none⟩)) #[true, false, false, false, false, false, false, false, false] rfl rfl rfl (by kernel_rfl) (fun _ _ _ h => h) hS0 (by rfl) (fun W ⟨s0, s1, s2⟩ => by go_simp) ?_
  simp only [Act.put, List.setIfInBounds_toArray, List.set_cons_zero, List.set_cons_succ]
  refine wpAnyT_take 1 (some 5) (.pointer (some ⟨g, 0, none⟩)) #[true, true, false, false, false, false, false, false, false] rfl rfl rfl (by kernel_rfl) (fun _ _ _ h => h) hS0 (by rfl) (fun W ⟨s0, s1, s2⟩ => by go_simp) ?_
  simp only [Act.put, List.setIfInBounds_toArray, List.set_cons_zero, List.set_cons_succ]
  refine wpAnyT_take 2 (some 6) (.pointer (some ⟨g, 0, none⟩)) #[true, true, true, false, false, false, false, false, false] rfl rfl rfl (by kernel_rfl) (fun _ _ _ h => h) hS0 (by rfl) (fun W ⟨s0, s1, s2⟩ => by go_simp) ?_
  simp only [Act.put, List.setIfInBounds_toArray, List.set_cons_zero, List.set_cons_succ]
  refine wpAnyT_take 3 (some 7) (.slice A (b.length - q) c) #[true, true, true, true, false, false, false, false, false] rfl rfl rfl (by kernel_rfl) (fun _ _ _ h => h) hS0 (by rfl) (fun W ⟨s0, s1, s2⟩ => by go_simp) ?_
  simp only [Act.put, List.setIfInBounds_toArray, List.set_cons_zero, List.set_cons_succ]
  refine wpAnyT_take 4 (some 8) (.int .i64 most) #[true, true, true, true, true, false, false, false, false] rfl rfl rfl (by kernel_rfl) (fun _ _ _ h => h) hS0 (by rfl) (fun W ⟨s0, s1, s2⟩ => by go_simp) ?_
  simp only [Act.put, List.setIfInBounds_toArray, List.set_cons_zero, List.set_cons_succ]
  refine wpAnyT_take 5 (some 9) (.pointer (some ⟨g, 0, none⟩)) #[true, true, true, true, true, true, false, false, false] rfl rfl rfl (by kernel_rfl) (fun _ _ _ h => h) hS0 (by rfl) (fun W ⟨s0, s1, s2⟩ => by go_simp) ?_
  simp only [Act.put, List.setIfInBounds_toArray, List.set_cons_zero, List.set_cons_succ]
  refine wpAnyT_only 6 #[true, true, true, true, true, true, true, false, false] (by kernel_rfl) rfl rfl (by rfl) (fun K hK => ?_)
  go_simp
  refine (takerRow_any g t _).mono ?_
  rintro e w2 ⟨Bt, Bc, rfl, _, hBc1, hBt, hBc, hE2'⟩
  have hE2 : Ext w w2 := (Ext.refl w).drew.trans hE2'
  have k0 := (hE2.cell (i := 0) hBlt).trans hB0
  have kn := (hE2.cell (i := 0) hBlt1).trans hB1
  have k1 := (hE2.cell (i := 0) hglt).trans c0
  change w.heap.size ≤ Bc at hBc1
  refine hK _ _ (fun _ => ⟨k0, kn, k1⟩) ?_
  clear hK K
  refine wpAnyT_only 7 #[true, true, true, true, true, true, true, true, false] (by kernel_rfl) rfl rfl (by rfl) (fun K hK => ?_)
  go_simp
  refine (textGoes hm (HP.out.ext hE2) k1 hBt hBc (HT.out.ext hE2) htg htr (by omega) (by omega)).mono ?_
  rintro e w3 ⟨rfl, hT3⟩
  refine hK _ _ (fun h => absurd h (by decide)) ?_
  clear hK K
  refine wpAnyT_only 8 #[true, true, true, true, true, true, true, true, true] (by kernel_rfl) rfl rfl (by rfl) (fun K hK => ?_)
  go_simp
  refine hK _ _ (fun h => absurd h (by decide)) ?_
  refine wpAnyT_done (by kernel_rfl) ?_ _
  go_wp2
  go_ret
  exact ⟨rfl, ToldRow.from hE2 hT3⟩
end Go.Proofs.Ytmaddohfkfnnhaa

namespace Go.Proofs.Ytmaddohfkfnnhaa
open Go.RowKit

set_option maxHeartbeats 1000000 in
theorem same_any (A1 A2 : Option Addr) (n m c d : Nat) (a b : List UInt8) (w : World) (ha : Bytes w w.heap.size A1 n a) (hb : Bytes w w.heap.size A2 m b) :
    Calls Try.prog 13 #[.slice A1 n c, .slice A2 m d] w fun e w' => e = .returned (.bool (sameB a b)) ∧ Ext w w' := by
  have h1 := conv_bytes c ha (fun h => by subst h; rcases ha.2 with h | ⟨_, _, h, _⟩; exact h; cases h)
  have h2 := conv_bytes d hb (fun h => by subst h; rcases hb.2 with h | ⟨_, _, h, _⟩; exact h; cases h)
  clear ha hb
  go_enter Try.func13, Try.ntmps13
  go_wp2
  go_ret
  exact ⟨ret_bool (same_beq a b).symm, Ext.refl _⟩
end Go.Proofs.Ytmaddohfkfnnhaa

namespace Go.Proofs.Ytmaddohfkfnnhaa
open Go.RowKit

theorem run_append_zeroR (w : World) (ty : TypeId) (base : Nat) (v : Value) (l : List UInt8) (hown : OwnB w base v l) (A : Option Addr) (c : Nat) :
    (Builtin.append_ #[90, 90] ty #[v, .slice A 0 c]).run Try.prog w = .ok v w := by
  obtain ⟨i, hi, _, _, _⟩ := info_parts byte_info
  rcases hown.2 with ⟨rfl, _⟩ | ⟨g, cap, cur, rfl, _, _, hnc, _⟩
  · cases A <;> simp [Builtin.append_, run_underlying Try.underlying90, sizeOf, typeInfo, hi, Builtin.lenOf, Builtin.firstCells, loadCells, loadCellsFrom]
  · cases A <;> simp [Builtin.append_, run_underlying Try.underlying90, sizeOf, typeInfo, hi, Builtin.lenOf, Builtin.firstCells, loadCells, loadCellsFrom, hnc, storeCells]

/-- append of bytes, wherever they lie. -/
theorem app_runR {w : World} (ty : TypeId) {base : Nat} {v : Value} {l : List UInt8} (hown : OwnB w base v l) {A : Option Addr} {m : Nat} {k : List UInt8} (c : Nat) (hb : Bytes w w.heap.size A m k)
    (hlen : l.length + m ≤ 140737488355328) (hbase : base ≤ w.heap.size) :
    ∃ v' w', (Builtin.append_ #[90, 90] ty #[v, .slice A m c]).run Try.prog w = .ok v' w' ∧ OwnB w' base v' (l ++ k) ∧ w.grownBy w' v.ownBlock := by
  obtain ⟨hk, hb⟩ := hb
  rcases hb with rfl | ⟨b, off, rfl, hB, hc⟩
  · obtain rfl := List.eq_nil_of_length_eq_zero hk
    exact ⟨v, w, run_append_zeroR w ty base v l hown A c, by simpa using hown, World.grownBy.refl w _⟩
  · obtain ⟨i, hi, hz, hs, hby⟩ := info_parts byte_info
    obtain ⟨v', w', hr, h2, h3, _⟩ := run_append_own (P := Try.prog) w base 90 ty 5 i _ 1 1 Try.underlying90 hi hz hs hby rfl (by omega) v l.length (l.map byteV) hown
      ⟨b, off, none⟩ m c (k.map byteV) (by simpa using hk) (by
        intro j u hu
        have hj : j < m := by
          rcases Nat.lt_or_ge j m with h | h
          · exact h
          · rw [List.getElem?_eq_none (by simp; omega)] at hu; cases hu
        have hadd : (⟨b, off, none⟩ : Addr).add j = ⟨b, off + j, none⟩ := by unfold Addr.add; split <;> simp_all
        rw [hadd, hc j hj]
        rw [List.getElem?_map, List.getElem?_eq_getElem (by omega)] at hu
        rw [List.getD_eq_getElem?_getD, List.getElem?_eq_getElem (by omega)]
        simpa [byteV] using hu) (by
        intro u hu
        obtain ⟨x, _, rfl⟩ := List.mem_map.1 hu
        rfl) (by unfold maxLen; omega) (by omega) hbase
    refine ⟨v', w', hr, ?_, h3⟩
    unfold OwnB
    rw [List.length_append, hk, List.map_append]
    exact h2
theorem wp_appR {o : Oper} {a : Act} {K : Act → World → Prop} {Q : Exit → Act → World → Prop} {w : World} (s x : Operand)
    (ho : o.op = .call { callee := .builtin .append, args := #[s, x], argTypes := #[90, 90] }) {base : Nat} {v : Value} {l : List UInt8} (hs : a.eval s = v) (hown : OwnB w base v l)
    {A : Option Addr} {m c : Nat} {k : List UInt8} (hx : a.eval x = .slice A m c) (hb : Bytes w w.heap.size A m k) (hlen : l.length + m ≤ 140737488355328) (hbase : base ≤ w.heap.size)
    (h : ∀ v' w', OwnB w' base v' (l ++ k) → w.grownBy w' v.ownBlock → K (a.put o.dst v') w') : o.wp Try.prog a w K Q := by
  obtain ⟨v', w', hr, h2, h3⟩ := app_runR o.type hown c hb hlen hbase
  unfold Oper.wp execOp
  simp only [ho, resolve, invoke, builtin, Sem.run_bind, Sem.run_pure, Result.andThen_ok, List.map_toArray, List.map_cons, List.map_nil, hs, hx, hr]
  exact h v' w' h2 h3
/-- The same for a walk of a plain region. -/
theorem wpList_appR {ops : Array Oper} {rest : List Oper} {o : Oper} {a : Act} {Q : Exit → Act → World → Prop} {w : World} (hgd : o.guard = none) (s x : Operand)
    (ho : o.op = .call { callee := .builtin .append, args := #[s, x], argTypes := #[90, 90] }) {base : Nat} {v : Value} {l : List UInt8} (hs : a.eval s = v) (hown : OwnB w base v l)
    {A : Option Addr} {m c : Nat} {k : List UInt8} (hx : a.eval x = .slice A m c) (hb : Bytes w w.heap.size A m k) (hlen : l.length + m ≤ 140737488355328) (hbase : base ≤ w.heap.size)
    (h : ∀ v' w', OwnB w' base v' (l ++ k) → w.grownBy w' v.ownBlock → wpList Try.prog ops Q rest (a.put o.dst v') w') : wpList Try.prog ops Q (o :: rest) a w :=
  wpList_plain hgd fun _ hK => wp_appR s x ho hs hown hx hb hlen hbase fun v' w' h2 h3 => hK _ _ (h v' w' h2 h3)

theorem conv_row {w : World} {B : Nat} {A : Option Addr} {n : Nat} {l : List UInt8} (c : Nat) (h : Bytes w B A n l) (hA : A = none → n = 0) :
    (convert 90 9 (.slice A n c)).run Try.prog w = .ok (.string ⟨l.toArray⟩) w := by
  obtain ⟨hl, hb⟩ := h
  rcases A with _ | ad
  · obtain rfl := hA rfl
    obtain rfl := List.eq_nil_of_length_eq_zero hl
    exact run_convert_bytes_nil w 90 5 Try.underlying90 Try.underlying5 0 c 9 Try.underlying9
  · subst hl
    refine run_convert_bytes_back w 90 9 5 ad c l Try.underlying90 Try.underlying5 Try.underlying9 fun j hj => ?_
    rcases hb with h0 | ⟨b, off, hA, _, hc⟩
    · omega
    · obtain rfl : ad = ⟨b, off, none⟩ := by injection hA
      have hadd : (⟨b, off, none⟩ : Addr).add j = ⟨b, off + j, none⟩ := by unfold Addr.add; split <;> simp_all
      rw [hadd, hc j hj, List.getD_eq_getElem?_getD, List.getElem?_eq_getElem hj]
      rfl
end Go.Proofs.Ytmaddohfkfnnhaa

