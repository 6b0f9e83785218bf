/- The document's functions of chapter 17: Weight, Check, Great, Same. The document's Same of chapter 17: two logs. Contracts of the document's numbers: Num, Fixed, Zig, Zag, scan. Contracts of the document's numbers: Fixed, scan, Text. The contract of the document's Text; append of a string's bytes. Three slices of bytes of the call's own, side by side. The document's functions of chapter 17: One, Bytes. A slice of numbers that came in. Lists of numbers of the call's own. Own lists of numbers: their form; append of one number, the world told by what there was. The document's Groups of chapter 17. The contract of the document's scan. Contracts of the document's cursor: New, Left, Num, Int, Take. Contracts of the document's cursor: Int, Take, Fail, End. The contract of the document's Same, of bytes as strings. Contracts of the document's cursor: Byte, Fixed, Text. What the call owns lies in no block of another kind. -/
import Derived.Test.YtkgkppblkdihkaaB01
import Derived.BigQuiet
import Derived.OwnWalk
import Derived.Laws.StructEq
import Derived.Lib.AppendStr
import Derived.Laws.OwnMore
import Derived.Maps.AppendAt
import Derived.Deep.QuietTactic
import Derived.Deep.RegionLaw
import Derived.Deep.RegionHeld3
import Derived.Deep.RegionWith
namespace Go.Proofs.Ytkgkppblkdihkaa
open Go.RowKit Rcs

attribute [local go_sem ↓] run_txtAt run_txtLen run_txtCut
set_option maxHeartbeats 2000000 in
set_option maxRecDepth 10000 in
theorem refWeight17_any (A : Option Addr) (n c : Nat) (l : List Rc) (w : World) (h : RcsAt w w.heap.size A n l) (hn : n ≤ maxLen) : Calls Try.prog 17 #[.slice A n c] w fun e w' => e = .returned (.int .i64 (wgtF 0 l : Int)) ∧ Qt w w' := by
  have hl := h.1
  have H0 := hide (show wgtF 0 l = wgtF 0 (l.drop 0) from rfl)
  have HSt := hide (fun (i sum : Nat) (hi : i < n) => wgt_step (l := l) (i := i) (sum := sum) (by omega))
  have HEnd := hide (show ∀ sum, wgtF sum (l.drop n) = sum from fun sum => by rw [List.drop_eq_nil_of_le (by omega)]; rfl)
  have HOk := hide (fun (i : Nat) (hi : i < n) => h.okAt hi)
  have HA := hide h
  unfold maxLen at hn
  generalize wgtF 0 l = res at *
  clear h hl
  go_enter Try.func17, Try.ntmps17
  go_wp2
  go_loopw [4, 3] (fun x y wr => ∃ i sum : Nat, i ≤ n ∧ x = .int .i64 (i : Int) ∧ y = .int .i64 (sum : Int) ∧ sum ≤ 3298534883344 ∧ res = wgtF sum (l.drop i) ∧ Qt w wr) (fun x _ _ => n - (intOf x).toNat)
  case atStart => exact ⟨0, 0, by omega, rfl, rfl, by omega, H0.out, Qt.refl _⟩
  case round =>
    clear H0
    obtain ⟨i, sum, hi, rfl, rfl, hs, hres, hQ⟩ := hrel
    by_cases hlt : i < n
    · have hiI : (i : Int) < (n : Int) := by omega
      rcases (HA.out.later hQ.ext).2.1 with hn0 | ⟨b1, o1, rfl, _, hc1⟩
      · omega
      obtain ⟨-, -, e2, e3⟩ := hc1 i hlt
      rw [HSt.out i sum hlt] at hres
      obtain ⟨-, k1, k2⟩ := HOk.out i hlt
      unfold maxLen at k1 k2
      obtain ⟨s, hs0⟩ : ∃ s, s = (l.getD i default).src := ⟨_, rfl⟩
      obtain ⟨t, ht0⟩ : ∃ t, t = (l.getD i default).text := ⟨_, rfl⟩
      rw [← hs0] at e2 hres k1
      rw [← ht0] at e3 hres k2
      have HRes := hide hres
      clear hc1 hs0 ht0 hres
      have HQ := hide hQ
      clear hQ
      by_cases b1' : 1099511627776 < sum
      · have bI : (1099511627776 : Int) < (sum : Int) := by omega
        have HR := hide (show res = 2199023255552 by rw [HRes.out, if_pos (.inl b1')])
        clear b1' HRes
        go_wp2
        go_ret
        rw [HR.out]
        exact ⟨rfl, HQ.out⟩
      have bI : ¬ (1099511627776 : Int) < (sum : Int) := by omega
      by_cases b2' : 1099511627776 < s.length
      · have cI : (1099511627776 : Int) < (s.length : Int) := by omega
        have HR := hide (show res = 2199023255552 by rw [HRes.out, if_pos (.inr (.inl b2'))])
        clear b1' b2' HRes
        go_wp2
        go_ret
        rw [HR.out]
        exact ⟨rfl, HQ.out⟩
      have cI : ¬ (1099511627776 : Int) < (s.length : Int) := by omega
      by_cases b3' : 1099511627776 < t.length
      · have dI : (1099511627776 : Int) < (t.length : Int) := by omega
        have HR := hide (show res = 2199023255552 by rw [HRes.out, if_pos (.inr (.inr b3'))])
        clear b1' b2' b3' HRes
        go_wp2
        go_ret
        rw [HR.out]
        exact ⟨rfl, HQ.out⟩
      have dI : ¬ (1099511627776 : Int) < (t.length : Int) := by omega
      have HR := hide (show res = wgtF (sum + 16 + s.length + t.length) (l.drop (i + 1)) by rw [HRes.out, if_neg (by omega)])
      have w1 : IntKind.i64.wrap ((sum : Int) + 16) = (sum : Int) + 16 := by rw [IntKind.wrap_i64]; omega
      have w2 : IntKind.i64.wrap ((sum : Int) + 16 + (s.length : Int)) = (sum : Int) + 16 + (s.length : Int) := by rw [IntKind.wrap_i64]; omega
      have w3 : IntKind.i64.wrap ((sum : Int) + 16 + (s.length : Int) + (t.length : Int)) = ((sum + 16 + s.length + t.length : Nat) : Int) := by rw [IntKind.wrap_i64]; omega
      have hs' : sum + 16 + s.length + t.length ≤ 3298534883344 := by omega
      clear b1' b2' b3' HRes k1 k2
      generalize hz : sum + 16 + s.length + t.length = z at *
      go_wp2_with fail
      go_quiet (fail)
      clear w1 w2 w3
      go_wp2
      go_roundw
      case rel => exact ⟨i + 1, z, by omega, by go_num, by first | rfl | (rw [← hz]; rfl) | (rw [← hz]; congr 1; omega), hs', by rw [← hz] at *; exact HR.out, HQ.out.drewN _⟩
      case measure => simp [intOf]; omega
    · have hiI : ¬ (i : Int) < (n : Int) := by omega
      obtain rfl : i = n := by omega
      rw [HEnd.out] at hres
      subst hres
      clear hlt
      go_wp2
      go_ret
      exact ⟨rfl, hQ⟩

set_option maxHeartbeats 2000000 in
set_option maxRecDepth 10000 in
theorem refCheck17_any (A : Option Addr) (n c : Nat) (l : List Rc) (w : World) (h : RcsAt w w.heap.size A n l) : Calls Try.prog 14 #[.slice A n c] w fun e w' => e = .returned (.int .i64 (checkE l)) ∧ Qt w w' := by
  have hl := h.1
  by_cases hbig : 20000 < n
  · have hbI : (20000 : Int) < (n : Int) := by omega
    have hc : checkE l = 6 := by unfold checkE; rw [if_neg (by omega)]
    rw [hc]
    clear hc hl hbig h
    go_enter Try.func14, Try.ntmps14
    go_wp2
    go_ret
    exact ⟨rfl, Qt.refl _⟩
  have hbI : ¬ (20000 : Int) < (n : Int) := by omega
  have HNo := hide (show ∀ i, i < n → 4000 < (l.getD i default).src.length ∨ 4000 < (l.getD i default).text.length → checkE l = 6 from fun i hi hx => by
    unfold checkE
    rw [if_neg]
    rintro ⟨_, h2, _⟩
    have := h2 (l.getD i default) (by rw [List.getD_eq_getElem?_getD, List.getElem?_eq_getElem (by omega)]; exact List.getElem_mem _)
    omega)
  have HEnd := hide (show (∀ i, i < n → (l.getD i default).src.length ≤ 4000 ∧ (l.getD i default).text.length ≤ 4000) → checkE l = if 1048576 < weightE l then 6 else 0 from fun hx => by
    have h2 : ∀ r ∈ l, r.src.length ≤ 4000 ∧ r.text.length ≤ 4000 := fun r hr => by
      obtain ⟨i, hi, rfl⟩ := List.getElem_of_mem hr
      have := hx i (by omega)
      rw [List.getD_eq_getElem?_getD, List.getElem?_eq_getElem hi] at this
      exact this
    unfold checkE
    by_cases hw : 1048576 < weightE l
    · rw [if_neg (by omega), if_pos hw]
    · rw [if_pos ⟨by omega, h2, by omega⟩, if_neg hw])
  have HW := hide (fun (i : Nat) (hi : i < n) => weight_step (l := l) (i := i) (by omega))
  have HW0 := hide (show weightE (l.take 0) = 0 by simp [weightE])
  have HWn := hide (show weightE (l.take n) = weightE l by rw [List.take_of_length_le (by omega)])
  have HA := hide h
  generalize checkE l = res at *
  clear h hl hbig
  go_enter Try.func14, Try.ntmps14
  go_wp2
  go_loopw [4, 3] (fun x y wr => ∃ i sum : Nat, i ≤ n ∧ x = .int .i64 (i : Int) ∧ y = .int .i64 (sum : Int) ∧ sum = weightE (l.take i) ∧ sum ≤ 8016 * i ∧ (∀ j, j < i → (l.getD j default).src.length ≤ 4000 ∧ (l.getD j default).text.length ≤ 4000) ∧ Qt w wr) (fun x _ _ => n - (intOf x).toNat)
  case atStart => exact ⟨0, 0, by omega, rfl, rfl, HW0.out.symm, by omega, fun j hj => absurd hj (by omega), Qt.refl _⟩
  case round =>
    obtain ⟨i, sum, hi, rfl, rfl, hs, hs2, hall, hQ⟩ := hrel
    have HS := hide hs
    have HAll := hide hall
    clear hs hall
    by_cases hlt : i < n
    · have hiI : (i : Int) < (n : Int) := by omega
      rcases (HA.out.later hQ.ext).2.1 with hn0 | ⟨b1, o1, rfl, _, hc1⟩
      · omega
      obtain ⟨-, -, e2, e3⟩ := hc1 i hlt
      have HWi := hide (HW.out i hlt)
      have HNi := hide (HNo.out i hlt)
      have HNx := hide (show (l.getD i default).src.length ≤ 4000 → (l.getD i default).text.length ≤ 4000 → ∀ j, j < i + 1 → (l.getD j default).src.length ≤ 4000 ∧ (l.getD j default).text.length ≤ 4000 from fun h1 h2 j hj => by
        by_cases e : j = i
        · rw [e]; exact ⟨h1, h2⟩
        · exact HAll.out j (by omega))
      obtain ⟨s, hs0⟩ : ∃ s, s = (l.getD i default).src := ⟨_, rfl⟩
      obtain ⟨t, ht0⟩ : ∃ t, t = (l.getD i default).text := ⟨_, rfl⟩
      rw [← hs0] at e2 HWi HNi HNx
      rw [← ht0] at e3 HWi HNi HNx
      have HQ := hide hQ
      clear hc1 hs0 ht0 hQ
      by_cases b2' : 4000 < s.length
      · have cI : (4000 : Int) < (s.length : Int) := by omega
        have HR := hide (HNi.out (.inl b2'))
        clear b2' HNi HNx
        go_wp2
        go_ret
        rw [HR.out]
        exact ⟨rfl, HQ.out⟩
      have cI : ¬ (4000 : Int) < (s.length : Int) := by omega
      by_cases b3' : 4000 < t.length
      · have dI : (4000 : Int) < (t.length : Int) := by omega
        have HR := hide (HNi.out (.inr b3'))
        clear b2' b3' HNi HNx
        go_wp2
        go_ret
        rw [HR.out]
        exact ⟨rfl, HQ.out⟩
      have dI : ¬ (4000 : Int) < (t.length : Int) := by omega
      have HNx2 := hide (HNx.out (by omega) (by omega))
      have w1 : IntKind.i64.wrap ((sum : Int) + 16) = (sum : Int) + 16 := by rw [IntKind.wrap_i64]; omega
      have w2 : IntKind.i64.wrap ((sum : Int) + 16 + (s.length : Int)) = (sum : Int) + 16 + (s.length : Int) := by rw [IntKind.wrap_i64]; omega
      have w3 : IntKind.i64.wrap ((sum : Int) + 16 + (s.length : Int) + (t.length : Int)) = ((sum + 16 + s.length + t.length : Nat) : Int) := by rw [IntKind.wrap_i64]; omega
      have hs' : sum + 16 + s.length + t.length ≤ 8016 * (i + 1) := by omega
      have HSn := hide (show sum + 16 + s.length + t.length = weightE (l.take (i + 1)) by rw [HWi.out, ← HS.out])
      clear b2' b3' HNi HNx
      generalize hz : sum + 16 + s.length + t.length = z at *
      go_wp2_with fail
      go_quiet (fail)
      clear w1 w2 w3
      go_wp2
      go_roundw
      case rel => exact ⟨i + 1, z, by omega, by go_num, by first | rfl | (rw [← hz]; rfl) | (rw [← hz]; congr 1; omega), by first | exact HSn.out | (rw [← hz] at *; exact HSn.out), by first | exact hs' | omega, HNx2.out, HQ.out.drewN _⟩
      case measure => simp [intOf]; omega
    · have hiI : ¬ (i : Int) < (n : Int) := by omega
      obtain rfl : i = n := by omega
      have hr := HEnd.out (fun j hj => HAll.out j hj)
      rw [← HWn.out, ← HS.out] at hr
      have HR := hide hr
      have HQ := hide hQ
      clear hlt hr hQ
      by_cases hw : 1048576 < sum
      · have wI : (1048576 : Int) < (sum : Int) := by omega
        have HR2 := hide (show res = 6 by rw [HR.out, if_pos hw])
        clear hw
        go_wp2
        go_ret
        rw [HR2.out]
        exact ⟨rfl, HQ.out⟩
      · have wI : ¬ (1048576 : Int) < (sum : Int) := by omega
        have HR2 := hide (show res = 0 by rw [HR.out, if_neg hw])
        clear hw
        go_wp2
        go_ret
        rw [HR2.out]
        exact ⟨rfl, HQ.out⟩

set_option maxHeartbeats 2000000 in
set_option maxRecDepth 10000 in
theorem refGreat17_any (A : Option Addr) (n c : Nat) (l : List Rc) (records bytes : Int) (w : World) (h : RcsAt w w.heap.size A n l) (hn : n ≤ maxLen) : Calls Try.prog 15 #[.slice A n c, .int .i64 records, .int .i64 bytes] w fun e w' => e = .returned (.bool (greatE l records bytes)) ∧ Qt w w' := by
  have CW := refWeight17_any A n c l w h hn
  have hl := h.1
  unfold greatE
  rw [hl]
  generalize wgtF 0 l = g at *
  clear h hl hn
  by_cases h1 : records < (n : Int)
  · rw [decide_eq_true (.inl h1)]
    clear CW
    go_enter Try.func15, Try.ntmps15
    go_wp2
    go_ret
    exact ⟨rfl, Qt.refl _⟩
  · by_cases h2 : bytes < (g : Int)
    · rw [decide_eq_true (.inr h2)]
      go_enter Try.func15, Try.ntmps15
      go_wp2_with fail
      refine CW.mono ?_
      rintro e w1 ⟨rfl, hQ1⟩
      go_wp2
      go_ret
      exact ⟨rfl, hQ1⟩
    · rw [decide_eq_false (by omega)]
      go_enter Try.func15, Try.ntmps15
      go_wp2_with fail
      refine CW.mono ?_
      rintro e w1 ⟨rfl, hQ1⟩
      go_wp2
      go_ret
      exact ⟨ret_bool (decide_eq_false (by omega)), hQ1⟩
end Go.Proofs.Ytkgkppblkdihkaa

namespace Go.Proofs.Ytkgkppblkdihkaa
open Go.RowKit Rcs

theorem rc_ext {a b : List Rc} (hl : a.length = b.length) (h : ∀ i, i < a.length → a.getD i default = b.getD i default) : a = b := by
  apply List.ext_getElem hl
  intro i h1 h2
  have := h i h1
  rwa [List.getD_eq_getElem?_getD, List.getD_eq_getElem?_getD, List.getElem?_eq_getElem h1, List.getElem?_eq_getElem h2] at this

set_option maxHeartbeats 1000000 in
set_option maxRecDepth 10000 in
theorem run_eqRc (a b : Rc) (w : World) : (Op.equalIn 10000 42 (.agg #[.int .u64 (a.time : Int), .int .u8 (a.lv.toNat : Int), .string ⟨a.src.toArray⟩, .string ⟨a.text.toArray⟩]) (.agg #[.int .u64 (b.time : Int), .int .u8 (b.lv.toNat : Int), .string ⟨b.src.toArray⟩, .string ⟨b.text.toArray⟩])).run Try.prog w = .ok (decide (a = b)) w := by
  have u1 := Try.underlying40
  have a1 := Try.isAgg40
  have z1 := Try.sizeOf40
  have u2 := Try.underlying5
  have a2 := Try.isAgg5
  have z2 := Try.sizeOf5
  have u3 := Try.underlying9
  have a3 := Try.isAgg9
  have z3 := Try.sizeOf9
  have hS : Try.prog.underlying 42 = some (.struct (Try.prog.fieldsOf 42)) := by kernel_rfl
  have hp : Try.prog.stoodInHeld 42 = false := by kernel_rfl
  obtain ⟨a1', a2', a3', a4'⟩ := a
  obtain ⟨b1', b2', b3', b4'⟩ := b
  have e2 : ((a2'.toNat : Int) == (b2'.toNat : Int)) = decide (a2' = b2') := by
    by_cases h : a2' = b2'
    · subst h; simp
    · rw [decide_eq_false h, beq_eq_false_iff_ne]
      exact fun e => h (UInt8.toNat_inj.1 (by omega))
  have e1 : ((a1' : Int) == (b1' : Int)) = decide (a1' = b1') := by
    by_cases h : a1' = b1'
    · subst h; simp
    · rw [decide_eq_false h, beq_eq_false_iff_ne]
      omega
  have el : ∀ x : List UInt8, (ByteArray.mk x.toArray).toList = x := fun x => by simp
  have es : ∀ x y : List UInt8, ((ByteArray.mk x.toArray).toList == (ByteArray.mk y.toArray).toList) = decide (x = y) := fun x y => by
    rw [el, el]
    by_cases h : x = y
    · subst h; simp
    · rw [decide_eq_false h, beq_eq_false_iff_ne]
      exact h
  rw [show (10000 : Nat) = 9999 + 1 from rfl, run_equalIn_agg w 9999 42 _ _ hS hp]
  simp only [Program.fieldsOf, Try.underlying42]
  go_simp
  by_cases h1 : a1' = b1' <;> by_cases h2 : a2' = b2' <;> by_cases h3 : a3' = b3' <;> by_cases h4 : a4' = b4' <;> simp [h1, h2, h3, h4]

attribute [local go_sem ↓] run_eqRc
set_option maxHeartbeats 2000000 in
set_option maxRecDepth 10000 in
theorem refSame17_any (A1 A2 : Option Addr) (c1 c2 : Nat) (a b : List Rc) (w : World) (h1 : RcsAt w w.heap.size A1 a.length a) (h2 : RcsAt w w.heap.size A2 b.length b) (hn : a.length ≤ 1000000) :
    Calls Try.prog 23 #[.slice A1 a.length c1, .slice A2 b.length c2] w fun e w' => e = .returned (.bool (decide (a = b))) ∧ Qt w w' := by
  by_cases hl : a.length = b.length
  · have HYes := hide (show (∀ i, i < a.length → a.getD i default = b.getD i default) → decide (a = b) = true from fun h => decide_eq_true (rc_ext hl h))
    have HNo := hide (show ∀ i, i < a.length → a.getD i default ≠ b.getD i default → decide (a = b) = false from fun i hi h => decide_eq_false (fun e => h (by rw [e])))
    have H1 := hide h1
    have H2 := hide h2
    rw [← hl] at H2 ⊢
    generalize decide (a = b) = res at *
    obtain ⟨n, hnn⟩ : ∃ n, n = a.length := ⟨_, rfl⟩
    rw [← hnn] at H1 H2 HYes HNo hn ⊢
    clear h1 h2 hl hnn
    go_enter Try.func23, Try.ntmps23
    go_wp2
    go_loopw [5] (fun x wr => ∃ i : Nat, i ≤ n ∧ x = .int .i64 (i : Int) ∧ (∀ j, j < i → a.getD j default = b.getD j default) ∧ Qt w wr) (fun x _ => n - (intOf x).toNat)
    case atStart => exact ⟨0, by omega, rfl, fun j hj => absurd hj (by omega), Qt.refl _⟩
    case round =>
      obtain ⟨i, hi, rfl, hall, hQ⟩ := hrel
      have HAll := hide hall
      clear hall
      by_cases hlt : i < n
      · have hiI : (i : Int) < (n : Int) := by omega
        rcases (H1.out.later hQ.ext).2.1 with hn0 | ⟨b1, o1, rfl, _, hc1⟩
        · omega
        rcases (H2.out.later hQ.ext).2.1 with hn0 | ⟨b2, o2, rfl, _, hc2⟩
        · omega
        obtain ⟨e0, e1, e2, e3⟩ := hc1 i hlt
        obtain ⟨f0, f1, f2, f3⟩ := hc2 i hlt
        have HYi := hide (HNo.out i hlt)
        have HNx := hide (show a.getD i default = b.getD i default → ∀ j, j < i + 1 → a.getD j default = b.getD j default from fun h j hj => by
          by_cases e : j = i
          · rw [e]; exact h
          · exact HAll.out j (by omega))
        obtain ⟨ra, hra⟩ : ∃ r, r = a.getD i default := ⟨_, rfl⟩
        obtain ⟨rb, hrb⟩ : ∃ r, r = b.getD i default := ⟨_, rfl⟩
        rw [← hra] at e0 e1 e2 e3 HYi HNx
        rw [← hrb] at f0 f1 f2 f3 HYi HNx
        have HQ := hide hQ
        clear hc1 hc2 hQ hra hrb
        by_cases hq : ra = rb
        · have hqd : decide (ra = rb) = true := decide_eq_true hq
          have HN2 := hide (HNx.out hq)
          clear hq HYi HNx
          go_wp2_with fail
          go_quiet (fail)
          go_wp2
          go_roundw
          case rel => exact ⟨i + 1, by omega, by go_num, HN2.out, HQ.out.drewN _⟩
          case measure => simp [intOf]; omega
        · have hqd : decide (ra = rb) = false := decide_eq_false hq
          have HR := hide (HYi.out hq)
          clear hq HYi HNx
          go_wp2_with fail
          go_quiet (fail)
          go_wp2
          go_ret
          exact ⟨ret_bool HR.out.symm, HQ.out.drewN _⟩
      · have hiI : ¬ (i : Int) < (n : Int) := by omega
        have HR := hide (HYes.out (fun j hj => HAll.out j (by omega)))
        clear hlt
        go_wp2
        go_ret
        exact ⟨ret_bool HR.out.symm, hQ⟩
  · have hd : decide (a = b) = false := decide_eq_false (fun e => hl (by rw [e]))
    have hlI : ((a.length : Int) != (b.length : Int)) = true := by rw [bne_iff_ne]; omega
    rw [hd]
    generalize a.length = n at *
    generalize b.length = m at *
    clear h1 h2 hd hl
    go_enter Try.func23, Try.ntmps23
    go_wp2
    go_ret
    exact ⟨rfl, Qt.refl _⟩
end Go.Proofs.Ytkgkppblkdihkaa

namespace Go.Proofs.Ytkgkppblkdihkaa
open Go.RowKit

/-- A byte that a number becomes. -/
theorem byte_of {z : Int} {y : Nat} (h : z = (y : Int)) (hy : y < 256) : z = ((UInt8.ofNat y).toNat : Int) := by rw [h, Num.ofNat_low y hy]

set_option maxHeartbeats 1000000 in
set_option maxRecDepth 100000 in
theorem refNum_any (x : Nat) (w : World) (hx : x < 18446744073709551616) : Calls Try.prog 47 #[.int .u64 x] w (MadeB w (Num.enc x)) := by
  go_enter Try.func47, Try.ntmps47
  go_wp2
  go_loopw [0, 3] (fun y v wr => ∃ (k z : Nat) (pre : List UInt8), y = .int .u64 (z : Int) ∧ z < 18446744073709551616 ∧ z < 128 ^ (10 - k) ∧ k ≤ 9 ∧ pre.length = k ∧ pre ++ Num.encF (10 - k) z = Num.enc x ∧ OwnB wr w.heap.size v pre ∧ Ext w wr) (fun y _ _ => (intOf y).toNat)
  case atStart => exact ⟨0, x, [], rfl, hx, Nat.lt_of_lt_of_le hx (by decide), by omega, rfl, rfl, OwnB.nil _ _, Ext.refl _⟩
  case round =>
    obtain ⟨k, z, pre, rfl, hz, hzk, hk, hlen, henc, hO, hE⟩ := hrel
    obtain ⟨f, hf⟩ : ∃ f, 10 - k = f + 1 := ⟨9 - k, by omega⟩
    rw [hf] at henc hzk
    have hfit : pre.length + 1 ≤ 140737488355328 := by omega
    by_cases hs : z < 128
    · rw [Num.encF_small hs] at henc
      have HE := hide henc
      have hbyte : ((z : Int) % 256) = ((UInt8.ofNat z).toNat : Int) := byte_of (by omega) (by omega)
      obtain ⟨bt, rfl⟩ : ∃ bt : UInt8, z = bt.toNat := ⟨UInt8.ofNat z, by rw [Num.ofNat_low z (by omega)]⟩
      rw [UInt8.ofNat_toNat] at HE
      have hb1 := bytesNew wr [bt] #[.int .u8 (bt.toNat : Int)] 5 (0, 0) rfl 1 rfl
      have hO1 := hO.ext (extNew wr (.cells #[.int .u8 (bt.toNat : Int)] 5))
      have hE1 := hE.trans (extNew wr (.cells #[.int .u8 (bt.toNat : Int)] 5))
      have hB1 := hE1.le
      clear henc hlen hbyte hf
      go_wp2_with (at_builtin; refine wpList_appAt rfl (.tmp 15) (.tmp 18) rfl rfl hO1 rfl hb1 hfit hB1 ?_; intro v2 w2 hO2 hG2 hN2)
      go_ret
      exact ⟨v2, rfl, by rw [← HE.out]; exact hO2, hO1.below hE1 hG2 hB1⟩
    · rw [Num.encF_big hs] at henc
      have HE := hide henc
      have hk9 : k ≤ 8 := by
        rcases Nat.lt_or_ge k 9 with h | h
        · omega
        · obtain rfl : k = 9 := by omega
          obtain rfl : f = 0 := by omega
          simp at hzk
          omega
      have HF := hide (show 10 - (k + 1) = f by omega)
      have HZ := hide (show z / 128 < 128 ^ f by rw [Nat.pow_succ] at hzk; exact Nat.div_lt_of_lt_mul (by rw [Nat.mul_comm]; exact hzk))
      obtain ⟨bt, hbt⟩ : ∃ bt : UInt8, bt = UInt8.ofNat (128 + z % 128) := ⟨_, rfl⟩
      have hbn : bt.toNat = 128 + z % 128 := by rw [hbt]; exact Num.ofNat_low _ (by omega)
      rw [← hbt] at HE
      have hbyte : (128 + (z : Int) % 128) = (bt.toNat : Int) := by omega
      have hbl := bt.toNat_lt
      have hb1 := bytesNew wr [bt] #[.int .u8 (bt.toNat : Int)] 5 (0, 0) rfl 1 rfl
      have hO1 := hO.ext (extNew wr (.cells #[.int .u8 (bt.toNat : Int)] 5))
      have hE1 := hE.trans (extNew wr (.cells #[.int .u8 (bt.toNat : Int)] 5))
      have hB1 := hE1.le
      have HLen := hide hlen
      clear henc hlen hf hbt hbn hzk
      go_wp2_with (at_builtin; refine wpList_appAt rfl (.tmp 6) (.tmp 11) rfl rfl hO1 rfl hb1 hfit hB1 ?_; intro v2 w2 hO2 hG2 hN2)
      go_roundw
      case rel =>
        refine ⟨k + 1, z / 128, pre ++ [bt], ?_, by omega, by rw [HF.out]; exact HZ.out, by omega, by simp [HLen.out], by rw [HF.out, List.append_assoc]; exact HE.out, hO2, hO1.below hE1 hG2 hB1⟩
        rw [show ((z : Int) / 128) = ((z / 128 : Nat) : Int) by omega]
      case measure => simp [intOf]; omega

theorem ret_u64 {a b : Int} (h : a = b) : Ending.returned (.int .u64 a) = .returned (.int .u64 b) := by rw [h]
set_option maxRecDepth 100000 in
theorem refZig_any (d : Nat) (w : World) (hd : d < 18446744073709551616) : Calls Try.prog 48 #[.int .u64 d] w fun e w' => e = .returned (.int .u64 (Num.zig d : Nat)) ∧ w = w' := by
  by_cases h : (9223372036854775808 : Int) ≤ (d : Int)
  · have HZ := hide (show 2 * (18446744073709551615 - (d : Int)) + 1 = ((Num.zig d : Nat) : Int) by unfold Num.zig; rw [if_pos (by omega)]; omega)
    have HD := hide hd
    clear hd
    have hd' : (d : Int) ≤ 18446744073709551615 := by have := HD.out; omega
    go_enter Try.func48, Try.ntmps48
    go_wp2
    go_ret
    exact ⟨ret_u64 HZ.out, rfl⟩
  · have HZ := hide (show 2 * (d : Int) = ((Num.zig d : Nat) : Int) by unfold Num.zig; rw [if_neg (by omega)]; omega)
    clear hd
    have h' : (d : Int) ≤ 9223372036854775807 := by omega
    have hge : decide ((9223372036854775808 : Int) ≤ (d : Int)) = false := by simp; omega
    clear h
    go_enter Try.func48, Try.ntmps48
    go_wp2
    go_ret
    exact ⟨ret_u64 HZ.out, rfl⟩
set_option maxRecDepth 100000 in
theorem refZag_any (z : Nat) (w : World) (hz : z < 18446744073709551616) : Calls Try.prog 52 #[.int .u64 z] w fun e w' => e = .returned (.int .u64 (Num.zag z : Nat)) ∧ w = w' := by
  by_cases h : z % 2 = 1
  · have HZ := hide (show 18446744073709551615 - (z : Int) / 2 = ((Num.zag z : Nat) : Int) by unfold Num.zag; rw [if_pos h]; omega)
    have ht : ((z : Int) % 2 == 1) = true := by simp; omega
    clear h
    go_enter Try.func52, Try.ntmps52
    go_wp2
    go_ret
    exact ⟨ret_u64 HZ.out, rfl⟩
  · have HZ := hide (show (z : Int) / 2 = ((Num.zag z : Nat) : Int) by unfold Num.zag; rw [if_neg h]; omega)
    have ht : ((z : Int) % 2 == 1) = false := by simp; omega
    clear h
    go_enter Try.func52, Try.ntmps52
    go_wp2
    go_ret
    exact ⟨ret_u64 HZ.out, rfl⟩
end Go.Proofs.Ytkgkppblkdihkaa

namespace Go.Proofs.Ytkgkppblkdihkaa
open Go.RowKit

namespace Num
def fixErr (x : Nat) (n : Int) : Int := if 1 ≤ n ∧ n ≤ 8 ∧ x < 256 ^ n.toNat then 0 else 13
def fixBytes (x : Nat) (n : Int) : List UInt8 := if 1 ≤ n ∧ n ≤ 8 ∧ x < 256 ^ n.toNat then fix n.toNat x else []
end Num
theorem ret_verr' {v : Value} {a b : Int} (h : a = b) : Ending.returned (.tuple #[v, .int .i64 a]) = .returned (.tuple #[v, .int .i64 b]) := by rw [h]
/-- Behind a call that makes bytes and tells an error. -/
def MadeE (w : World) (l : List UInt8) (err : Int) (e : Ending) (w' : World) : Prop := ∃ v, e = .returned (.tuple #[v, .int .i64 err]) ∧ OwnB w' w.heap.size v l ∧ Ext w w'

end Go.Proofs.Ytkgkppblkdihkaa

namespace Go.Proofs.Ytkgkppblkdihkaa
open Go.RowKit

theorem strCells_bytes (s : ByteArray) : Lib.strCells s = s.data.toList.map byteV := rfl
/-- append of a string's bytes to bytes of the call's own. -/
theorem wpList_appS {ops : Array Oper} {rest : List Oper} {o : Oper} {a : Act} {Q : Exit → Act → World → Prop} {w : World} (hgd : o.guard = none) (s x : Operand) (ho : o.op = .call { callee := .builtin .append, args := #[s, x], argTypes := #[32, 9] })
    {base : Nat} {v : Value} {l : List UInt8} (hs : a.eval s = v) (hown : OwnB w base v l) {b : ByteArray} (hx : a.eval x = .string b) (hlen : l.length + b.size ≤ 140737488355328) (hbase : base ≤ w.heap.size)
    (h : ∀ v' w', OwnB w' base v' (l ++ b.data.toList) → w.grownBy w' v.ownBlock → wpList Try.prog ops Q rest (a.put o.dst v') w') : wpList Try.prog ops Q (o :: rest) a w := by
  obtain ⟨i, hi, hz, hsz, hby⟩ := info_parts byte_info
  refine Lib.wpList_append_own_string _ hgd s x 32 9 ho base 5 i Try.underlying32 Try.underlying9 hi hz hsz hby v l.length (l.map byteV) hs hown b hx (by unfold maxLen; omega) (by omega) hbase ?_
  intro v' w' h2 h3 _
  refine h v' w' ?_ h3
  unfold OwnB
  rw [List.length_append, List.map_append]
  exact h2

theorem refText_any (s : ByteArray) (w : World) (hs : s.size ≤ 1000000) : Calls Try.prog 55 #[.string s] w (MadeB w (Num.enc s.size ++ s.data.toList)) := by
  have hw : IntKind.u64.wrap (s.size : Int) = (s.size : Int) := by rw [IntKind.wrap_u64]; omega
  have hl := Num.enc_len s.size
  have hfit : (Num.enc s.size).length + s.size ≤ 140737488355328 := by omega
  have CN := refNum_any s.size w (by omega)
  generalize Num.enc s.size = E at *
  go_enter Try.func55, Try.ntmps55
  go_wp2_with (first
    | (go_at_call 47; refine CN.mono ?_; rintro e w2 ⟨v2, rfl, hO2, hE2⟩)
    | (at_builtin; refine wpList_appS rfl (.tmp 6) (.tmp 7) rfl rfl hO2 rfl hfit hE2.le ?_; intro v3 w3 hO3 hG3))
  go_ret
  exact ⟨v3, rfl, hO3, hO2.below hE2 hG3 hE2.le⟩
end Go.Proofs.Ytkgkppblkdihkaa

namespace Go.Proofs.Ytkgkppblkdihkaa
open Go.RowKit

/-- They lie in blocks of their own. -/
def Ap (x y : Value) : Prop := ∀ k, x.ownBlock = some k → y.ownBlock ≠ some k
theorem Ap.symm {x y : Value} (h : Ap x y) : Ap y x := fun k hk e => h k e hk
theorem Ap.nil (y : Value) : Ap y (.slice none 0 0) := fun k _ e => by simp [Value.ownBlock] at e
theorem OwnB.grown {w w' : World} {base : Nat} {v u : Value} {l : List UInt8} (h : OwnB w base v l) (hg : w.grownBy w' u.ownBlock) (ha : Ap v u) : OwnB w' base v l :=
  World.ownsRow.kept h hg (by
    cases hv : v.ownBlock with
    | none => exact .inl rfl
    | some k => exact .inr (fun e => ha k hv e.symm))
def Three (w : World) (base : Nat) (u : Value) (U : List UInt8) (v : Value) (V : List UInt8) (x : Value) (X : List UInt8) : Prop :=
  OwnB w base u U ∧ OwnB w base v V ∧ OwnB w base x X ∧ Ap u v ∧ Ap u x ∧ Ap v x
theorem Three.ext {w w' : World} {base : Nat} {u v x : Value} {U V X : List UInt8} (h : Three w base u U v V x X) (hE : Ext w w') : Three w' base u U v V x X :=
  ⟨h.1.ext hE, h.2.1.ext hE, h.2.2.1.ext hE, h.2.2.2⟩
theorem Three.flip {w : World} {base : Nat} {u v x : Value} {U V X : List UInt8} (h : Three w base u U v V x X) : Three w base v V u U x X :=
  ⟨h.2.1, h.1, h.2.2.1, h.2.2.2.1.symm, h.2.2.2.2.2, h.2.2.2.2.1⟩
theorem Three.turn {w : World} {base : Nat} {u v x : Value} {U V X : List UInt8} (h : Three w base u U v V x X) : Three w base x X u U v V :=
  ⟨h.2.2.1, h.1, h.2.1, h.2.2.2.2.1.symm, h.2.2.2.2.2.symm, h.2.2.2.1⟩
/-- The first one has grown. -/
theorem Three.grow {w w' : World} {base : Nat} {u u' v x : Value} {U U' V X : List UInt8} (h : Three w base u U v V x X) (h1 : OwnB w' base u' U') (hG : w.grownBy w' u.ownBlock) (hN : NewOb w u.ownBlock u'.ownBlock) : Three w' base u' U' v V x X := by
  have new : ∀ {y : Value} {Y : List UInt8}, OwnB w base y Y → Ap u y → Ap u' y := fun {y Y} hy ha k hk e => by
    rcases hN with h | ⟨g, h, hg⟩
    · exact ha k (h ▸ hk) e
    · rw [hk] at h
      injection h with h
      have := (hy.lt k e).2
      omega
  exact ⟨h1, h.2.1.grown hG h.2.2.2.1.symm, h.2.2.1.grown hG h.2.2.2.2.1.symm, new h.2.1 h.2.2.2.1, new h.2.2.1 h.2.2.2.2.1, h.2.2.2.2.2⟩
/-- Another one in the third one's place, which was made just now. -/
theorem Three.fresh {w w' : World} {base : Nat} {u v y x : Value} {U V Y X : List UInt8} (h : Three w base u U v V y Y) (hE : Ext w w') (hx : OwnB w' w.heap.size x X) (hb : base ≤ w.heap.size) : Three w' base u U v V x X := by
  have new : ∀ {y : Value} {Y : List UInt8}, OwnB w base y Y → Ap y x := fun {y Y} hy k hk e => by
    have h1 := (hy.lt k hk).2
    have h2 := (hx.lt k e).1
    omega
  exact ⟨h.1.ext hE, h.2.1.ext hE, hx.mono hb, h.2.2.2.1, new h.1, new h.2.1⟩
theorem Three.drop {w : World} {base : Nat} {u v y : Value} {U V Y : List UInt8} (h : Three w base u U v V y Y) : Three w base u U v V (.slice none 0 0) [] :=
  ⟨h.1, h.2.1, OwnB.nil _ _, h.2.2.2.1, Ap.nil _, Ap.nil _⟩
theorem OwnB.bytesOf {w : World} {base n c : Nat} {A : Option Addr} {l : List UInt8} (h : OwnB w base (.slice A n c) l) : Bytes w w.heap.size A n l := by
  obtain ⟨A1, c1, hv, _, _, hb⟩ := h.form
  simp only [Value.slice.injEq] at hv
  obtain ⟨rfl, rfl, rfl⟩ := hv
  exact hb
end Go.Proofs.Ytkgkppblkdihkaa

namespace Go.Proofs.Ytkgkppblkdihkaa
open Go.RowKit Rcs Num

theorem refTextT_any (s : List UInt8) (w : World) (hs : s.length ≤ 1000000) : Calls Try.prog 55 #[.string ⟨s.toArray⟩] w (MadeB w (txtB s)) := by
  have := refText_any ⟨s.toArray⟩ w (by rw [txt_size]; exact hs)
  rw [txt_size] at this
  simpa [txtB] using this
theorem one_len (whole : Bool) (r : Rc) : (oneB whole r).length ≤ 31 + r.src.length + r.text.length := by
  have h1 := enc_len r.time
  have h2 := enc_len r.src.length
  have h3 := enc_len r.text.length
  unfold oneB txtB
  cases whole <;> simp only [List.length_append, List.length_nil, List.length_cons, if_true, if_false, Bool.false_eq_true] <;> omega

set_option maxHeartbeats 2000000 in
set_option maxRecDepth 10000 in
theorem refOne17_any (whole : Bool) (r : Rc) (w : World) (ht : r.time < 2 ^ 64) (h1 : r.src.length ≤ 1000000) (h2 : r.text.length ≤ 1000000) : Calls Try.prog 35 #[.bool whole, rcV r] w (MadeB w (oneB whole r)) := by
  obtain ⟨time, lv, src, text⟩ := r
  dsimp only at ht h1 h2
  obtain ⟨w1, hw1⟩ : ∃ w1, w1 = w.alloc (.cells #[.int .u64 (time : Int), .int .u8 (lv.toNat : Int), .string ⟨src.toArray⟩, .string ⟨text.toArray⟩] 42) := ⟨_, rfl⟩
  have hE1 : Ext w w1 := by rw [hw1]; exact extNew w _
  have hW1 : Whole w1 w.heap.size 42 #[.int .u64 (time : Int), .int .u8 (lv.toNat : Int), .string ⟨src.toArray⟩, .string ⟨text.toArray⟩] := by rw [hw1]; exact Whole.new w _ _
  have HW := hide hW1
  have HE1 := hide hE1
  have CN := hide (fun W => refNum_any time W (by omega))
  have CS := hide (fun W => refTextT_any src W h1)
  have CT := hide (fun W => refTextT_any text W h2)
  have hls := enc_len src.length
  have hlt := enc_len text.length
  have hln := enc_len time
  have HSl := hide (show (txtB src).length ≤ 1000010 by unfold txtB; rw [List.length_append]; omega)
  have HTl := hide (show (txtB text).length ≤ 1000010 by unfold txtB; rw [List.length_append]; omega)
  have HNl := hide hln
  have HFin := hide (fun (e : Ending) (w' : World) (v : Value) (l : List UInt8) (he : e = .returned v) (hO : OwnB w' w1.heap.size v l) (hE : Ext w1 w') (hl : l = oneB whole ⟨time, lv, src, text⟩) => (show MadeB w (oneB whole ⟨time, lv, src, text⟩) e w' from ⟨v, he, by rw [← hl]; exact hO.mono hE1.le, hE1.trans hE⟩))
  unfold rcV
  cases whole with
  | false =>
    have HOne := hide (show [] ++ txtB src ++ txtB text = oneB false ⟨time, lv, src, text⟩ by simp [oneB])
    generalize txtB src = S at *
    generalize txtB text = T at *
    generalize oneB false ⟨time, lv, src, text⟩ = res at *
    clear hE1 hW1 hls hlt hln CN HNl
    have c2 := HW.out.at 2 (u := .string ⟨src.toArray⟩) rfl
    go_enter Try.func35, Try.ntmps35
    go_wp2_with fail
    rw [← hw1]
    clear hw1
    refine (CS.out w1).mono ?_
    rintro e w2 ⟨v2, rfl, hO2, hE2⟩
    obtain ⟨A2, c2', hv2, -, -, q2⟩ := hO2.form
    obtain ⟨m2, hm2⟩ : ∃ m, m = S.length := ⟨_, rfl⟩
    rw [← hm2] at hv2 q2
    have HM2 := hide hm2
    have HQ2 := hide q2
    have HE2 := hide hE2
    subst hv2
    clear hO2 q2 hm2 hE2 c2
    go_wp2_with (at_builtin; refine wpList_appAt (base := w1.heap.size) (v := .slice none 0 0) rfl (.tmp 17) (.tmp 20) rfl rfl (OwnB.nil _ _) rfl HQ2.out (by have := HM2.out; have := HSl.out; simp; omega) HE2.out.le ?_; intro v3 w3 hO3 hG3 _; have HO3 := hide hO3; have HE3 := hide (show Ext w1 w3 from Below.grown HE2.out hG3 HE2.out.le (fun k hk => by simp [Value.ownBlock] at hk)); have c3 := (HW.out.ext HE3.out).at 3 (u := .string ⟨text.toArray⟩) rfl; clear hO3 hG3)
    refine (CT.out w3).mono ?_
    rintro e w4 ⟨v4, rfl, hO4, hE4⟩
    obtain ⟨A4, c4', hv4, -, -, q4⟩ := hO4.form
    obtain ⟨m4, hm4⟩ : ∃ m, m = T.length := ⟨_, rfl⟩
    rw [← hm4] at hv4 q4
    have HM4 := hide hm4
    have HQ4 := hide q4
    have HE4 := hide (HE3.out.trans hE4)
    have HO4 := hide (HO3.out.ext hE4)
    subst hv4
    clear hO4 q4 hm4 hE4 c3
    go_wp2_with (at_builtin; refine wpList_appAt rfl (.tmp 22) (.tmp 25) rfl rfl HO4.out rfl HQ4.out (by have := HM4.out; have := HSl.out; have := HTl.out; simp; omega) HE4.out.le ?_; intro v5 w5 hO5 hG5 _; have HO5 := hide hO5; have HE5 := hide (show Ext w1 w5 from Below.grown HE4.out hG5 HE4.out.le (fun k hk => (HO4.out.lt k hk).1)); clear hO5 hG5)
    go_ret
    exact HFin.out _ _ _ _ rfl HO5.out HE5.out HOne.out
  | true =>
    have HOne := hide (show [] ++ enc time ++ [lv] ++ txtB src ++ txtB text = oneB true ⟨time, lv, src, text⟩ by simp [oneB])
    generalize txtB src = S at *
    generalize txtB text = T at *
    generalize enc time = N at *
    generalize oneB true ⟨time, lv, src, text⟩ = res at *
    clear hE1 hW1 hls hlt hln
    have c2 := HW.out.at 0 (u := .int .u64 (time : Int)) rfl
    go_enter Try.func35, Try.ntmps35
    go_wp2_with fail
    rw [← hw1]
    clear hw1
    refine (CN.out w1).mono ?_
    rintro e w2 ⟨v2, rfl, hO2, hE2⟩
    obtain ⟨A2, c2', hv2, -, -, q2⟩ := hO2.form
    obtain ⟨m2, hm2⟩ : ∃ m, m = N.length := ⟨_, rfl⟩
    rw [← hm2] at hv2 q2
    have HM2 := hide hm2
    have HQ2 := hide q2
    have HE2 := hide hE2
    subst hv2
    clear hO2 q2 hm2 hE2 c2
    go_wp2_with (first
      | (at_builtin; refine wpList_appAt (base := w1.heap.size) (v := .slice none 0 0) rfl (.tmp 7) (.tmp 10) rfl rfl (OwnB.nil _ _) rfl HQ2.out (by have := HM2.out; have := HNl.out; simp; omega) HE2.out.le ?_; intro v3 w3 hO3 hG3 _; have HO3 := hide hO3; have HE3 := hide (show Ext w1 w3 from Below.grown HE2.out hG3 HE2.out.le (fun k hk => by simp [Value.ownBlock] at hk)); have c3 := (HW.out.ext HE3.out).at 1 (u := .int .u8 (lv.toNat : Int)) rfl; clear hO3 hG3)
      | (at_builtin; refine wpList_appAt rfl (.tmp 12) (.tmp 15) rfl rfl (HO3.out.ext (extNew w3 _)) rfl (bytesNew w3 [lv] #[.int .u8 (lv.toNat : Int)] 5 (0, 0) rfl 1 rfl) (by have := HNl.out; simp; omega) (HE3.out.trans (extNew w3 _)).le ?_; intro v4 w4 hO4 hG4 _; have HO4 := hide hO4; have HE4 := hide (show Ext w1 w4 from Below.grown (HE3.out.trans (extNew w3 _)) hG4 (HE3.out.trans (extNew w3 _)).le (fun k hk => (HO3.out.lt k hk).1)); have c4 := (HW.out.ext HE4.out).at 2 (u := .string ⟨src.toArray⟩) rfl; clear hO4 hG4))
    refine (CS.out w4).mono ?_
    rintro e w5 ⟨v5, rfl, hO5, hE5⟩
    obtain ⟨A5, c5', hv5, -, -, q5⟩ := hO5.form
    obtain ⟨m5, hm5⟩ : ∃ m, m = S.length := ⟨_, rfl⟩
    rw [← hm5] at hv5 q5
    have HM5 := hide hm5
    have HQ5 := hide q5
    have HE5 := hide (HE4.out.trans hE5)
    have HO5 := hide (HO4.out.ext hE5)
    subst hv5
    clear hO5 q5 hm5 hE5 c3 c4
    go_wp2_with (at_builtin; refine wpList_appAt rfl (.tmp 17) (.tmp 20) rfl rfl HO5.out rfl HQ5.out (by have := HM5.out; have := HSl.out; have := HNl.out; simp; omega) HE5.out.le ?_; intro v6 w6 hO6 hG6 _; have HO6 := hide hO6; have HE6 := hide (show Ext w1 w6 from Below.grown HE5.out hG6 HE5.out.le (fun k hk => (HO5.out.lt k hk).1)); have c6 := (HW.out.ext HE6.out).at 3 (u := .string ⟨text.toArray⟩) rfl; clear hO6 hG6)
    refine (CT.out w6).mono ?_
    rintro e w7 ⟨v7, rfl, hO7, hE7⟩
    obtain ⟨A7, c7', hv7, -, -, q7⟩ := hO7.form
    obtain ⟨m7, hm7⟩ : ∃ m, m = T.length := ⟨_, rfl⟩
    rw [← hm7] at hv7 q7
    have HM7 := hide hm7
    have HQ7 := hide q7
    have HE7 := hide (HE6.out.trans hE7)
    have HO7 := hide (HO6.out.ext hE7)
    subst hv7
    clear hO7 q7 hm7 hE7 c6
    go_wp2_with (at_builtin; refine wpList_appAt rfl (.tmp 22) (.tmp 25) rfl rfl HO7.out rfl HQ7.out (by have := HM7.out; have := HSl.out; have := HTl.out; have := HNl.out; simp; omega) HE7.out.le ?_; intro v8 w8 hO8 hG8 _; have HO8 := hide hO8; have HE8 := hide (show Ext w1 w8 from Below.grown HE7.out hG8 HE7.out.le (fun k hk => (HO7.out.lt k hk).1)); clear hO8 hG8)
    go_ret
    exact HFin.out _ _ _ _ rfl HO8.out HE8.out HOne.out

theorem Rcs.bytes_snoc (whole : Bool) {l : List Rc} {i : Nat} (h : i < l.length) : bytesB whole (l.take (i + 1)) = bytesB whole (l.take i) ++ oneB whole (l.getD i default) := by
  rw [rc_take h]
  unfold bytesB
  rw [List.flatMap_append]
  simp
theorem Rcs.bytes_small (whole : Bool) : ∀ l : List Rc, (bytesB whole l).length ≤ 2 * weightE l
  | [] => by simp [bytesB]
  | r :: t => by
    have h1 := bytes_small whole t
    have h2 := one_len whole r
    unfold bytesB at h1 ⊢
    unfold weightE at h1 ⊢
    rw [List.flatMap_cons, List.length_append, List.map_cons, List.sum_cons]
    omega
set_option maxHeartbeats 2000000 in
set_option maxRecDepth 10000 in
theorem refBytes17_any (whole : Bool) (A : Option Addr) (n c : Nat) (l : List Rc) (w : World) (h : RcsAt w w.heap.size A n l) (hw : weightE l ≤ 1000000) : Calls Try.prog 20 #[.bool whole, .slice A n c] w (MadeB w (bytesB whole l)) := by
  have hl := h.1
  have hn : n ≤ 1000000 := by have := weight_len l; omega
  have HSt := hide (fun (i : Nat) (hi : i < n) => bytes_snoc whole (l := l) (i := i) (by omega))
  have HSm := hide (show ∀ i, (bytesB whole (l.take i)).length ≤ 2000000 from fun i => by have h1 := bytes_small whole (l.take i); have h2 := weight_take l i; omega)
  have HOne := hide (fun (i : Nat) (hi : i < n) => show (l.getD i default).time < 2 ^ 64 ∧ (l.getD i default).src.length ≤ 1000000 ∧ (l.getD i default).text.length ≤ 1000000 from by
    have h1 := weight_mem (l := l) (r := l.getD i default) (by rw [List.getD_eq_getElem?_getD, List.getElem?_eq_getElem (by omega)]; exact List.getElem_mem _)
    exact ⟨(h.okAt hi).1, by omega, by omega⟩)
  have HAll := hide (show bytesB whole (l.take n) = bytesB whole l by rw [List.take_of_length_le (by omega)])
  have H0 := hide (show bytesB whole (l.take 0) = [] by simp [bytesB])
  have HA := hide h
  unfold MadeB
  generalize bytesB whole l = res at *
  clear h hl hw
  go_enter Try.func20, Try.ntmps20
  go_wp2
  go_loopw [6, 5] (fun x v wr => ∃ i : Nat, i ≤ n ∧ x = .int .i64 (i : Int) ∧ OwnB wr w.heap.size v (bytesB whole (l.take i)) ∧ Ext w wr) (fun x _ _ => n - (intOf x).toNat)
  case atStart => exact ⟨0, by omega, rfl, by rw [H0.out]; exact OwnB.nil _ _, Ext.refl _⟩
  case round =>
    clear H0
    obtain ⟨i, hi, rfl, hO, hE⟩ := hrel
    have HO := hide hO
    have HE := hide hE
    clear hO hE
    by_cases hlt : i < n
    · have hiI : (i : Int) < (n : Int) := by omega
      rcases (HA.out.later HE.out).2.1 with hn0 | ⟨b1, o1, rfl, _, hc1⟩
      · omega
      obtain ⟨e0, e1, e2, e3⟩ := hc1 i hlt
      obtain ⟨k0, k1, k2⟩ := HOne.out i hlt
      have HSi := hide (HSt.out i hlt)
      have HSl := hide (HSm.out i)
      have hle := one_len whole (l.getD i default)
      obtain ⟨r, hr⟩ : ∃ r, r = l.getD i default := ⟨_, rfl⟩
      rw [← hr] at e0 e1 e2 e3 k0 k1 k2 HSi hle
      have CO := refOne17_any whole r wr k0 k1 k2
      unfold rcV at CO
      have HLe := hide (show (oneB whole r).length ≤ 3000000 by omega)
      obtain ⟨Z, hZ⟩ : ∃ Z, Z = oneB whole r := ⟨_, rfl⟩
      rw [← hZ] at CO HSi HLe
      clear hc1 hr k0 k1 k2 hle hZ
      go_wp2_with fail
      refine CO.mono ?_
      rintro e w4 ⟨v4, rfl, hO4, hE4⟩
      obtain ⟨A4, c4, hv4, -, -, q4⟩ := hO4.form
      obtain ⟨m4, hm4⟩ : ∃ m, m = Z.length := ⟨_, rfl⟩
      rw [← hm4] at hv4 q4
      have HM4 := hide hm4
      have HQ4 := hide q4
      have HE4 := hide (HE.out.trans hE4)
      have HO4 := hide (HO.out.ext hE4)
      have HB4 := hide (show (bytesB whole (l.take i)).length ≤ 2000000 by have := HSl.out; omega)
      subst hv4
      clear hO4 q4 hm4 hE4 CO e0 e1 e2 e3
      go_wp2_with (at_builtin; refine wpList_appAt rfl (.tmp 13) (.tmp 19) rfl rfl HO4.out rfl HQ4.out (by have := HM4.out; have := HLe.out; have := HB4.out; omega) HE4.out.le ?_; intro v5 w5 hO5 hG5 _; have HO5 := hide hO5; have HE5 := hide (show Ext w w5 from Below.grown HE4.out hG5 HE4.out.le (fun k hk => (HO4.out.lt k hk).1)); clear hO5 hG5)
      go_roundw
      case rel => exact ⟨i + 1, by omega, by go_num, by rw [HSi.out]; exact HO5.out, HE5.out⟩
      case measure => simp [intOf]; omega
    · have hiI : ¬ (i : Int) < (n : Int) := by omega
      obtain rfl : i = n := by omega
      clear hlt
      go_wp2
      go_ret
      exact ⟨_, rfl, by rw [← HAll.out]; exact HO.out, HE.out⟩
end Go.Proofs.Ytkgkppblkdihkaa

namespace Go.Proofs.Ytkgkppblkdihkaa
open Go.RowKit

/-- A slice of numbers that came in. -/
def IntsAt (w : World) (B : Nat) (A : Option Addr) (n : Nat) (L : List Int) : Prop :=
  L.length = n ∧ (n = 0 ∨ ∃ b off, A = some ⟨b, off, none⟩ ∧ b < B ∧ ∀ i, i < n → w.cell? ⟨b, off + i, none⟩ = some (.int .i64 (L.getD i 0)))
theorem IntsAt.below {w w' : World} {B C : Nat} {A : Option Addr} {n : Nat} {L : List Int} (h : IntsAt w B A n L) (hb : Below C w w') (hC : B ≤ C) : IntsAt w' B A n L := by
  refine ⟨h.1, ?_⟩
  rcases h.2 with h0 | ⟨b, off, hA, hB, hc⟩
  · exact .inl h0
  · exact .inr ⟨b, off, hA, hB, fun i hi => by rw [hb.cell (p := ⟨b, off + i, none⟩) (Nat.lt_of_lt_of_le hB hC)]; exact hc i hi⟩
theorem IntsAt.later {w w' : World} {A : Option Addr} {n : Nat} {L : List Int} (h : IntsAt w w.heap.size A n L) (hE : Ext w w') : IntsAt w' w'.heap.size A n L := by
  refine ⟨h.1, ?_⟩
  rcases h.2 with h0 | ⟨b, off, hA, hB, hc⟩
  · exact .inl h0
  · exact .inr ⟨b, off, hA, Nat.lt_of_lt_of_le hB hE.le, fun i hi => by rw [hE.cell hB]; exact hc i hi⟩
theorem intsNew (w : World) (L : List Int) (cs : Array Value) (t : TypeId) (fr : Nat × Nat) (h : cs = (L.map (Value.int .i64)).toArray) (n : Nat) (hn : L.length = n) :
    IntsAt (w.alloc (.cells cs t fr)) (w.alloc (.cells cs t fr)).heap.size (some ⟨w.heap.size, 0, none⟩) n L := by
  subst h
  subst hn
  refine ⟨rfl, .inr ⟨w.heap.size, 0, rfl, by simp, fun i hi => ?_⟩⟩
  rw [Nat.zero_add, World.cell?_alloc_mark]
  simp [hi]
end Go.Proofs.Ytkgkppblkdihkaa

namespace Go.Proofs.Ytkgkppblkdihkaa
open Go.RowKit

/-- v is nil, or lies in a block of the call's own, and reads as these numbers. -/
def OwnI (w : World) (base : Nat) (v : Value) (L : List Int) : Prop := w.ownsRow base 3 1 v L.length (L.map (Value.int .i64))
theorem int_info : (Try.prog.info? 3).map (fun i => (i.zero, i.size, i.bytes)) = some (some (.int .i64 0), 1, 8) := by kernel_rfl
theorem OwnI.nil (w : World) (base : Nat) : OwnI w base (.slice none 0 0) [] := World.ownsRow_nil w base _ _
theorem OwnI.ext {w w' : World} {base : Nat} {v : Value} {L : List Int} (h : OwnI w base v L) (hE : Ext w w') : OwnI w' base v L :=
  World.ownsRow.kept h (hE.grown none) (by cases hv : v.ownBlock <;> simp)
theorem OwnI.lt {w : World} {base : Nat} {v : Value} {L : List Int} (h : OwnI w base v L) : ∀ k, v.ownBlock = some k → base ≤ k ∧ k < w.heap.size := World.ownsRow.lt h
theorem OwnI.form {w : World} {base : Nat} {v : Value} {L : List Int} (h : OwnI w base v L) : ∃ A c, v = .slice A L.length c ∧ L.length ≤ c ∧ IntsAt w w.heap.size A L.length L := by
  have hl := h.lt
  rcases h.2 with ⟨rfl, h0⟩ | ⟨g, cap, cur, rfl, hb, hg, hn, hc, hs, ht⟩
  · exact ⟨none, 0, by rw [h0], by omega, rfl, .inl h0⟩
  · refine ⟨_, cap, rfl, hn, rfl, .inr ⟨g, 0, rfl, (hl g rfl).2, fun i hi => ?_⟩⟩
    have hk := World.ownsRow.cellAt h i (by omega)
    rw [Nat.zero_add, hk]
    simp [hi]
section
variable {o : Oper} {a : Act} {Q : Exit → Act → World → Prop} {w : World} {base : Nat} {v : Value} {L : List Int}
/-- append of one number, which lies in a block of its own. -/
theorem wpList_appIB {ops : Array Oper} {rest : List Oper} (hgd : o.guard = none) (s x : Operand) (ho : o.op = .call { callee := .builtin .append, args := #[s, x], argTypes := #[44, 44] }) (hs : a.eval s = v) (p : Int)
    (hown : OwnI (w.alloc (.cells #[.int .i64 p] 3)) base v L) {c : Nat} (hx : a.eval x = .slice (some ⟨w.heap.size, 0, none⟩) 1 c) (hlen : L.length ≤ 1000000) (hbase : base ≤ w.heap.size)
    (h : ∀ v' w', OwnI w' base v' (L ++ [p]) → (w.alloc (.cells #[.int .i64 p] 3)).grownBy w' v.ownBlock → wpList Try.prog ops Q rest (a.put o.dst v') w') :
    wpList Try.prog ops Q (o :: rest) a (w.alloc (.cells #[.int .i64 p] 3)) := by
  obtain ⟨i, hi, hz, hsz, hby⟩ := info_parts int_info
  refine wpList_append_own_at _ hgd s x 44 ho base 3 i _ 1 8 Try.underlying44 hi hz hsz hby rfl (by omega) v L.length (L.map (Value.int .i64)) hs hown ⟨w.heap.size, 0, none⟩ 1 c [.int .i64 p] hx rfl (by
    intro j u hu
    match j, hu with
    | 0, hu =>
      have : (⟨w.heap.size, 0, none⟩ : Addr).add 0 = ⟨w.heap.size, 0, none⟩ := rfl
      rw [this, cellNew]
      simpa using hu
    | j + 1, hu => simp at hu) (by
    intro u hu
    simp at hu
    subst hu
    rfl) (by unfold maxLen; omega) (by omega) (by simp; omega) ?_
  intro v' w' h2 h3 _ h5
  refine h v' w' ?_ h3
  unfold OwnI
  rw [List.length_append, List.map_append]
  exact h2
theorem wpList_appI {ops : Array Oper} {rest : List Oper} (hgd : o.guard = none) (s x : Operand) (ho : o.op = .call { callee := .builtin .append, args := #[s, x], argTypes := #[44, 44] }) (hs : a.eval s = v) (p : Int)
    (hown : OwnI (w.alloc (.cells #[.int .i64 p] 3)) base v L) {c : Nat} (hx : a.eval x = .slice (some ⟨w.heap.size, 0, none⟩) 1 c) (hlen : L.length ≤ 1000) (hbase : base ≤ w.heap.size)
    (h : ∀ v' w', OwnI w' base v' (L ++ [p]) → (w.alloc (.cells #[.int .i64 p] 3)).grownBy w' v.ownBlock → wpList Try.prog ops Q rest (a.put o.dst v') w') :
    wpList Try.prog ops Q (o :: rest) a (w.alloc (.cells #[.int .i64 p] 3)) :=
  wpList_appIB hgd s x ho hs p hown hx (by omega) hbase h
end
end Go.Proofs.Ytkgkppblkdihkaa

namespace Go.Proofs.Ytkgkppblkdihkaa
open Go.RowKit

theorem OwnI.form2 {w : World} {base : Nat} {v : Value} {L : List Int} (h : OwnI w base v L) : ∃ A c, v = .slice A L.length c ∧ L.length ≤ c ∧ c ≤ maxLen ∧ IntsAt w w.heap.size A L.length L := by
  have hl := h.lt
  rcases h.2 with ⟨rfl, h0⟩ | ⟨g, cap, cur, rfl, hb, hg, hn, hc, hs, ht⟩
  · exact ⟨.none, 0, by rw [h0], by omega, by unfold maxLen; omega, rfl, .inl h0⟩
  · refine ⟨_, cap, rfl, hn, hc, rfl, .inr ⟨g, 0, rfl, (hl g rfl).2, fun i hi => ?_⟩⟩
    have hk := World.ownsRow.cellAt h i (by omega)
    rw [Nat.zero_add, hk]
    simp [hi]
/-- append of one number to a list of the call's own, the world told by what there was. -/
theorem wpList_lit {ops : Array Oper} {rest : List Oper} {o : Oper} {a : Act} {Q : Exit → Act → World → Prop} (hgd : o.guard = none) (s x : Operand) (ho : o.op = .call { callee := .builtin .append, args := #[s, x], argTypes := #[44, 44] }) {w0 w : World} {v : Value} {L : List Int}
    (hE : Ext w0 w) (hO : OwnI w w0.heap.size v L) (hs : a.eval s = v) (p : Int) {c : Nat} (hx : a.eval x = .slice (some ⟨w.heap.size, 0, none⟩) 1 c) (hlen : L.length ≤ 1000000)
    (h : ∀ v' w', OwnI w' w0.heap.size v' (L ++ [p]) → Ext w0 w' → wpList Try.prog ops Q rest (a.put o.dst v') w') : wpList Try.prog ops Q (o :: rest) a (w.alloc (.cells #[.int .i64 p] 3)) :=
  wpList_appIB hgd s x ho hs p (hO.ext (extNew w _)) hx hlen hE.le fun v' w' h1 h2 => h v' w' h1 (Below.grown (hE.alloc _) h2 (by rw [World.size_alloc]; have := hE.le; omega) (fun k hk => (hO.lt k hk).1))
/-- A list of numbers is told. -/
def MadeL (w : World) (l : List Int) (e : Ending) (w' : World) : Prop := ∃ A c, e = .returned (.slice A l.length c) ∧ l.length ≤ c ∧ c ≤ maxLen ∧ IntsAt w' w'.heap.size A l.length l ∧ Ext w w'
end Go.Proofs.Ytkgkppblkdihkaa

namespace Go.Proofs.Ytkgkppblkdihkaa
open Go.RowKit Rcs Num

/-- The groups as numbers. -/
def Rcs.groupsI (size : Int) (whole : Bool) (l : List Rc) : List Int := (groupsE size whole l).map fun (n : Nat) => (n : Int)
def Rcs.restI (size : Int) (whole : Bool) (l : List Rc) (i : Nat) : List Int := (groupsAt size whole l i).map fun (n : Nat) => (n : Int)
theorem Rcs.more_step {whole : Bool} {size : Int} {l : List Rc} {sum k : Nat} (h : k < l.length) : moreG whole size sum (l.drop k) = if ((sum + (oneB whole (l.getD k default)).length : Nat) : Int) ≤ size then moreG whole size (sum + (oneB whole (l.getD k default)).length) (l.drop (k + 1)) + 1 else 0 := by rw [rc_drop h, moreG]
theorem Rcs.more_end {whole : Bool} {size : Int} {l : List Rc} {sum k : Nat} (h : l.length ≤ k) : moreG whole size sum (l.drop k) = 0 := by rw [List.drop_eq_nil_of_le h]; rfl

set_option maxHeartbeats 4000000 in
set_option maxRecDepth 10000 in
theorem refGroupsG_any (size : Int) (whole : Bool) (A : Option Addr) (n c : Nat) (l : List Rc) (w : World) (size0 : Int) (hz : (size0 < 1 ∧ size = 1) ∨ (1 ≤ size0 ∧ size = size0)) (hi64 : size ≤ 9223372036854775807) (h : RcsAt w w.heap.size A n l) (hw : weightE l ≤ 1000000) :
    Calls Try.prog 26 #[.int .i64 size0, .bool whole, .slice A n c] w (MadeL w (restI size whole l 0)) := by
  have hl := h.1
  have hn : n ≤ 62500 := by have := weight_len l; omega
  have HOne := hide (fun (i : Nat) (hi : i < n) => show (l.getD i default).time < 2 ^ 64 ∧ (l.getD i default).src.length ≤ 1000000 ∧ (l.getD i default).text.length ≤ 1000000 from by
    have h1 := weight_mem (l := l) (r := l.getD i default) (by rw [List.getD_eq_getElem?_getD, List.getElem?_eq_getElem (by omega)]; exact List.getElem_mem _)
    exact ⟨(h.okAt hi).1, by omega, by omega⟩)
  have HWt := hide (show ∀ i, weightE (l.take i) ≤ 1000000 from fun i => Nat.le_trans (weight_take l i) hw)
  have HWs := hide (fun (i : Nat) (hi : i < n) => weight_step (l := l) (i := i) (by omega))
  have HLn := hide (fun (i : Nat) => one_len whole (l.getD i default))
  have HSt := hide (fun (i : Nat) (hi : i < n) => (groups_step (size := size) (whole := whole) (l := l) (i := i) (by omega)))
  have HGn := hide (show ∀ i, groupN size whole l i = moreG whole size (oneB whole (l.getD i default)).length (l.drop (i + 1)) + 1 from fun _ => rfl)
  have HMs := hide (fun (k sum : Nat) (hk : k < n) => more_step (whole := whole) (size := size) (l := l) (sum := sum) (k := k) (by omega))
  have HMe := hide (fun (k sum : Nat) (hk : n ≤ k) => more_end (whole := whole) (size := size) (l := l) (sum := sum) (k := k) (by omega))
  have HEnd := hide (show restI size whole l n = [] by unfold restI; rw [groups_end (by omega)]; rfl)
  have H0 := hide (show restI size whole l 0 = [] ++ restI size whole l 0 from rfl)
  have HRs := hide (show ∀ i, i < n → restI size whole l i = (groupN size whole l i : Int) :: restI size whole l (i + groupN size whole l i) from fun i hi => by unfold restI; rw [(groups_step (by omega)).1, List.map_cons])
  have HFit := hide (show ∀ i, i < n → i + groupN size whole l i ≤ n from fun i hi => by have := (groups_step (size := size) (whole := whole) (l := l) (i := i) (by omega)).2; omega)
  have HCO := hide (fun (i : Nat) (hi : i < n) (W : World) => refOne17_any whole (l.getD i default) W (HOne.out i hi).1 (HOne.out i hi).2.1 (HOne.out i hi).2.2)
  have HA := hide h
  have hs1 : 1 ≤ size := by omega
  unfold MadeL
  generalize hres : restI size whole l 0 = res at *
  clear h hl hw HSt
  rcases hz with ⟨z1, rfl⟩ | ⟨z1, rfl⟩
  · have hzI : size0 < 1 := z1
    go_enter Try.func26, Try.ntmps26
    go_wp2
    go_loopw [8, 7] (fun x v wr => ∃ (i : Nat) (done : List Int), i ≤ n ∧ done.length ≤ i ∧ x = .int .i64 (i : Int) ∧ OwnI wr w.heap.size v done ∧ res = done ++ restI 1 whole l i ∧ Ext w wr) (fun x _ _ => n - (intOf x).toNat)
    case atStart => exact ⟨0, [], by omega, by simp, rfl, OwnI.nil _ _, by rw [← hres]; rfl, Ext.refl _⟩
    case round =>
      clear H0 hres
      obtain ⟨i, done, hi, hdl, rfl, hO, hrs, hE⟩ := hrel
      have HO := hide hO
      have HE := hide hE
      have HRes := hide hrs
      have HDl := hide hdl
      clear hO hE hrs hdl
      by_cases hlt : i < n
      · have hiI : (i : Int) < (n : Int) := by omega
        rcases (HA.out.later HE.out).2.1 with hn0 | ⟨b1, o1, rfl, _, hc1⟩
        · omega
        have HCell := hide (show ∀ W, Ext w W → ∀ j, j < n → RcAt W b1 (o1 + j * 4) (l.getD j default) from fun W hW j hj => by
          rcases (HA.out.later hW).2.1 with h0 | ⟨b2, o2, h2, _, hc2⟩
          · omega
          · simp only [Option.some.injEq, Addr.mk.injEq, and_true] at h2
            obtain ⟨rfl, rfl⟩ := h2
            exact hc2 j hj)
        obtain ⟨e0, e1, e2, e3⟩ := hc1 i hlt
        have CO := HCO.out i hlt wr
        unfold rcV at CO
        have HG0 := hide (HGn.out i)
        have HRi := hide (HRs.out i hlt)
        have HFi := hide (HFit.out i hlt)
        have HL0 := hide (show (oneB whole (l.getD i default)).length ≤ 2 * weightE (l.take (i + 1)) by have h1 := HWs.out i hlt; have h2 := HLn.out i; omega)
        obtain ⟨r, hr⟩ : ∃ r, r = l.getD i default := ⟨_, rfl⟩
        rw [← hr] at e0 e1 e2 e3 CO HG0 HL0
        obtain ⟨Z, hZ⟩ : ∃ Z, Z = oneB whole r := ⟨_, rfl⟩
        rw [← hZ] at CO HG0 HL0
        clear hc1 hr hZ
        go_wp2_with fail
        refine CO.mono ?_
        rintro e w4 ⟨v4, rfl, hO4, hE4⟩
        obtain ⟨A4, c4, hv4, -, -, -⟩ := hO4.form
        obtain ⟨m4, hm4⟩ : ∃ m, m = Z.length := ⟨_, rfl⟩
        rw [← hm4] at hv4 HG0 HL0
        have HE4 := hide (HE.out.trans hE4)
        have HO4 := hide (HO.out.ext hE4)
        subst hv4
        clear hO4 hm4 hE4 CO e0 e1 e2 e3 HO
        have HO := HO4
        clear HO4
        obtain ⟨wo, rfl⟩ : ∃ W, W = w4 := ⟨_, rfl⟩
        go_wp2
        go_loopw [9, 10] (fun y z wk => ∃ k sum : Nat, 1 ≤ k ∧ i + k ≤ n ∧ y = .int .i64 (k : Int) ∧ z = .int .i64 (sum : Int) ∧ groupN 1 whole l i = k + moreG whole 1 sum (l.drop (i + k)) ∧ sum ≤ 2 * weightE (l.take (i + k)) ∧ Ext w wk ∧ Ext wo wk) (fun y _ _ => n - (intOf y).toNat)
        case atStart => exact ⟨1, m4, by omega, by omega, rfl, rfl, by rw [HG0.out, Nat.add_comm], HL0.out, HE4.out, Ext.refl _⟩
        case round =>
          clear HG0 HL0
          obtain ⟨k, sum, hk1, hkn, rfl, rfl, hGk, hsl, hEk, hEo⟩ := hrel
          have hs2 : sum ≤ 2000000 := by have := HWt.out (i + k); omega
          have HSl := hide hsl
          have HEk := hide hEk
          have HEo := hide hEo
          clear hsl hEk hEo
          by_cases hk : i + k < n
          · have hkI : (i : Int) + (k : Int) < (n : Int) := by omega
            obtain ⟨j, hj⟩ : ∃ j, j = i + k := ⟨_, rfl⟩
            have hjI : (i : Int) + (k : Int) = (j : Int) := by omega
            have hjn : j < n := by omega
            have hjnI : (j : Int) < (n : Int) := by omega
            rw [HMs.out (i + k) sum hk, ← hj] at hGk
            obtain ⟨e0, e1, e2, e3⟩ := HCell.out wr HEk.out j hjn
            have HCj := hide (fun W (hW : Ext w W) => HCell.out W hW j hjn)
            have CO := hide (fun W => HCO.out j hjn W)
            have HLj := hide (HLn.out j)
            have HWj := hide (HWs.out j hjn)
            have HWm := hide (HWt.out (j + 1))
            obtain ⟨r, hr⟩ : ∃ r, r = l.getD j default := ⟨_, rfl⟩
            rw [← hr] at e0 e1 e2 e3 CO HCj HLj HWj hGk
            obtain ⟨Z, hZ⟩ : ∃ Z, Z = oneB whole r := ⟨_, rfl⟩
            rw [← hZ] at CO HLj hGk
            obtain ⟨m, hm⟩ : ∃ m, m = Z.length := ⟨_, rfl⟩
            rw [← hm] at hGk
            have HM := hide hm
            have hm2 : m ≤ 2000000 := by have h1 := HLj.out; have h2 := HWj.out; have h3 := HWm.out; omega
            have HSn := hide (show sum + m ≤ 2 * weightE (l.take (j + 1)) by have h1 := HLj.out; have h2 := HWj.out; have h3 := HSl.out; rw [← hj] at h3; omega)
            have HJ := hide hj
            have C1 := CO.out wr
            unfold rcV at C1
            clear hr hZ hm hk hj
            by_cases hs : ((sum + m : Nat) : Int) ≤ 1
            · rw [if_pos hs] at hGk
              have hsI : (sum : Int) + (m : Int) ≤ 1 := by omega
              have HGk := hide hGk
              clear hs hGk
              go_wp2_with fail
              refine C1.mono ?_
              rintro e w5 ⟨v5, rfl, hO5, hE5⟩
              obtain ⟨A5, c5, hv5, -, -, -⟩ := hO5.form
              rw [← HM.out] at hv5
              have HE5 := hide (HEk.out.trans hE5)
              have HEo5 := hide (HEo.out.trans hE5)
              obtain ⟨f0, f1, f2, f3⟩ := HCj.out w5 HE5.out
              have C2 := CO.out w5
              unfold rcV at C2
              subst hv5
              clear hO5 hE5 C1 e0 e1 e2 e3
              go_wp2_with fail
              refine C2.mono ?_
              rintro e w6 ⟨v6, rfl, hO6, hE6⟩
              obtain ⟨A6, c6, hv6, -, -, -⟩ := hO6.form
              rw [← HM.out] at hv6
              have HE6 := hide (HE5.out.trans hE6)
              have HEo6 := hide (HEo5.out.trans hE6)
              subst hv6
              clear hO6 hE6 C2 f0 f1 f2 f3
              go_wp2
              go_roundw
              case rel => exact ⟨k + 1, sum + m, by omega, by have := HJ.out; omega, by go_num, by go_num, by rw [HGk.out, show i + (k + 1) = j + 1 by have := HJ.out; omega]; omega, by rw [show i + (k + 1) = j + 1 by have := HJ.out; omega]; exact HSn.out, HE6.out, HEo6.out⟩
              case measure => have := HJ.out; simp [intOf]; omega
            · have hsI : ¬ (sum : Int) + (m : Int) ≤ 1 := by omega
              rw [if_neg hs] at hGk
              clear hs
              go_wp2_with fail
              refine C1.mono ?_
              rintro e w5 ⟨v5, rfl, hO5, hE5⟩
              obtain ⟨A5, c5, hv5, -, -, -⟩ := hO5.form
              rw [← HM.out] at hv5
              subst hv5
              clear C1 e0 e1 e2 e3
              have hG : groupN 1 whole l i = k := by rw [hGk, Nat.add_zero]
              have hR1 := HRi.out
              rw [hG] at hR1
              have hR2 := HRes.out
              rw [hR1] at hR2
              have HR3 := hide (show res = (done ++ [(k : Int)]) ++ restI 1 whole l (i + k) by rw [hR2, List.append_assoc]; rfl)
              have HOx := hide (HO.out.ext (HEo.out.trans hE5))
              have HEx := hide (HEk.out.trans hE5)
              have hdn : done.length ≤ 1000000 := by have := HDl.out; omega
              have HDn := hide (show (done ++ [(k : Int)]).length ≤ i + k by rw [List.length_append, List.length_singleton]; have := HDl.out; omega)
              clear hG hR1 hR2 hGk
              go_wp2_with (at_builtin; refine wpList_lit rfl (.tmp 58) (.tmp 60) rfl HEx.out HOx.out rfl (k : Int) rfl hdn ?_; intro v6 w6 hO6 hE6; have HO6 := hide hO6; have HE6 := hide hE6; clear hO6 hE6)
              go_roundw
              case rel => exact ⟨i + k, done ++ [(k : Int)], by omega, HDn.out, by go_num, HO6.out, HR3.out, HE6.out⟩
              case measure => simp [intOf]; omega
          · have hkI : ¬ (i : Int) + (k : Int) < (n : Int) := by omega
            rw [HMe.out (i + k) sum (by omega)] at hGk
            clear hk
            have hG : groupN 1 whole l i = k := by rw [hGk, Nat.add_zero]
            have hR1 := HRi.out
            rw [hG] at hR1
            have hR2 := HRes.out
            rw [hR1] at hR2
            have HR3 := hide (show res = (done ++ [(k : Int)]) ++ restI 1 whole l (i + k) by rw [hR2, List.append_assoc]; rfl)
            have HOx := hide (HO.out.ext HEo.out)
            have HEx := hide HEk.out
            have hdn : done.length ≤ 1000000 := by have := HDl.out; omega
            have HDn := hide (show (done ++ [(k : Int)]).length ≤ i + k by rw [List.length_append, List.length_singleton]; have := HDl.out; omega)
            clear hG hR1 hR2 hGk
            go_wp2_with (at_builtin; refine wpList_lit rfl (.tmp 58) (.tmp 60) rfl HEx.out HOx.out rfl (k : Int) rfl hdn ?_; intro v6 w6 hO6 hE6; have HO6 := hide hO6; have HE6 := hide hE6; clear hO6 hE6)
            go_roundw
            case rel => exact ⟨i + k, done ++ [(k : Int)], by omega, HDn.out, by go_num, HO6.out, HR3.out, HE6.out⟩
            case measure => simp [intOf]; omega
      · have hiI : ¬ (i : Int) < (n : Int) := by omega
        have hr : res = done := by rw [HRes.out, show i = n by omega, HEnd.out, List.append_nil]
        subst hr
        obtain ⟨A7, c7, hv7, hn7, hm7, hI7⟩ := HO.out.form2
        have HI7 := hide hI7
        subst hv7
        clear hlt hI7
        go_wp2
        go_ret
        exact ⟨A7, c7, rfl, hn7, hm7, HI7.out, HE.out⟩
  · have hzI : ¬ size < 1 := by omega
    go_enter Try.func26, Try.ntmps26
    go_wp2
    go_loopw [8, 7] (fun x v wr => ∃ (i : Nat) (done : List Int), i ≤ n ∧ done.length ≤ i ∧ x = .int .i64 (i : Int) ∧ OwnI wr w.heap.size v done ∧ res = done ++ restI size whole l i ∧ Ext w wr) (fun x _ _ => n - (intOf x).toNat)
    case atStart => exact ⟨0, [], by omega, by simp, rfl, OwnI.nil _ _, by rw [← hres]; rfl, Ext.refl _⟩
    case round =>
      clear H0 hres
      obtain ⟨i, done, hi, hdl, rfl, hO, hrs, hE⟩ := hrel
      have HO := hide hO
      have HE := hide hE
      have HRes := hide hrs
      have HDl := hide hdl
      clear hO hE hrs hdl
      by_cases hlt : i < n
      · have hiI : (i : Int) < (n : Int) := by omega
        rcases (HA.out.later HE.out).2.1 with hn0 | ⟨b1, o1, rfl, _, hc1⟩
        · omega
        have HCell := hide (show ∀ W, Ext w W → ∀ j, j < n → RcAt W b1 (o1 + j * 4) (l.getD j default) from fun W hW j hj => by
          rcases (HA.out.later hW).2.1 with h0 | ⟨b2, o2, h2, _, hc2⟩
          · omega
          · simp only [Option.some.injEq, Addr.mk.injEq, and_true] at h2
            obtain ⟨rfl, rfl⟩ := h2
            exact hc2 j hj)
        obtain ⟨e0, e1, e2, e3⟩ := hc1 i hlt
        have CO := HCO.out i hlt wr
        unfold rcV at CO
        have HG0 := hide (HGn.out i)
        have HRi := hide (HRs.out i hlt)
        have HFi := hide (HFit.out i hlt)
        have HL0 := hide (show (oneB whole (l.getD i default)).length ≤ 2 * weightE (l.take (i + 1)) by have h1 := HWs.out i hlt; have h2 := HLn.out i; omega)
        obtain ⟨r, hr⟩ : ∃ r, r = l.getD i default := ⟨_, rfl⟩
        rw [← hr] at e0 e1 e2 e3 CO HG0 HL0
        obtain ⟨Z, hZ⟩ : ∃ Z, Z = oneB whole r := ⟨_, rfl⟩
        rw [← hZ] at CO HG0 HL0
        clear hc1 hr hZ
        go_wp2_with fail
        refine CO.mono ?_
        rintro e w4 ⟨v4, rfl, hO4, hE4⟩
        obtain ⟨A4, c4, hv4, -, -, -⟩ := hO4.form
        obtain ⟨m4, hm4⟩ : ∃ m, m = Z.length := ⟨_, rfl⟩
        rw [← hm4] at hv4 HG0 HL0
        have HE4 := hide (HE.out.trans hE4)
        have HO4 := hide (HO.out.ext hE4)
        subst hv4
        clear hO4 hm4 hE4 CO e0 e1 e2 e3 HO
        have HO := HO4
        clear HO4
        obtain ⟨wo, rfl⟩ : ∃ W, W = w4 := ⟨_, rfl⟩
        go_wp2
        go_loopw [9, 10] (fun y z wk => ∃ k sum : Nat, 1 ≤ k ∧ i + k ≤ n ∧ y = .int .i64 (k : Int) ∧ z = .int .i64 (sum : Int) ∧ groupN size whole l i = k + moreG whole size sum (l.drop (i + k)) ∧ sum ≤ 2 * weightE (l.take (i + k)) ∧ Ext w wk ∧ Ext wo wk) (fun y _ _ => n - (intOf y).toNat)
        case atStart => exact ⟨1, m4, by omega, by omega, rfl, rfl, by rw [HG0.out, Nat.add_comm], HL0.out, HE4.out, Ext.refl _⟩
        case round =>
          clear HG0 HL0
          obtain ⟨k, sum, hk1, hkn, rfl, rfl, hGk, hsl, hEk, hEo⟩ := hrel
          have hs2 : sum ≤ 2000000 := by have := HWt.out (i + k); omega
          have HSl := hide hsl
          have HEk := hide hEk
          have HEo := hide hEo
          clear hsl hEk hEo
          by_cases hk : i + k < n
          · have hkI : (i : Int) + (k : Int) < (n : Int) := by omega
            obtain ⟨j, hj⟩ : ∃ j, j = i + k := ⟨_, rfl⟩
            have hjI : (i : Int) + (k : Int) = (j : Int) := by omega
            have hjn : j < n := by omega
            have hjnI : (j : Int) < (n : Int) := by omega
            rw [HMs.out (i + k) sum hk, ← hj] at hGk
            obtain ⟨e0, e1, e2, e3⟩ := HCell.out wr HEk.out j hjn
            have HCj := hide (fun W (hW : Ext w W) => HCell.out W hW j hjn)
            have CO := hide (fun W => HCO.out j hjn W)
            have HLj := hide (HLn.out j)
            have HWj := hide (HWs.out j hjn)
            have HWm := hide (HWt.out (j + 1))
            obtain ⟨r, hr⟩ : ∃ r, r = l.getD j default := ⟨_, rfl⟩
            rw [← hr] at e0 e1 e2 e3 CO HCj HLj HWj hGk
            obtain ⟨Z, hZ⟩ : ∃ Z, Z = oneB whole r := ⟨_, rfl⟩
            rw [← hZ] at CO HLj hGk
            obtain ⟨m, hm⟩ : ∃ m, m = Z.length := ⟨_, rfl⟩
            rw [← hm] at hGk
            have HM := hide hm
            have hm2 : m ≤ 2000000 := by have h1 := HLj.out; have h2 := HWj.out; have h3 := HWm.out; omega
            have HSn := hide (show sum + m ≤ 2 * weightE (l.take (j + 1)) by have h1 := HLj.out; have h2 := HWj.out; have h3 := HSl.out; rw [← hj] at h3; omega)
            have HJ := hide hj
            have C1 := CO.out wr
            unfold rcV at C1
            clear hr hZ hm hk hj
            by_cases hs : ((sum + m : Nat) : Int) ≤ size
            · rw [if_pos hs] at hGk
              have hsI : (sum : Int) + (m : Int) ≤ size := by omega
              have HGk := hide hGk
              clear hs hGk
              go_wp2_with fail
              refine C1.mono ?_
              rintro e w5 ⟨v5, rfl, hO5, hE5⟩
              obtain ⟨A5, c5, hv5, -, -, -⟩ := hO5.form
              rw [← HM.out] at hv5
              have HE5 := hide (HEk.out.trans hE5)
              have HEo5 := hide (HEo.out.trans hE5)
              obtain ⟨f0, f1, f2, f3⟩ := HCj.out w5 HE5.out
              have C2 := CO.out w5
              unfold rcV at C2
              subst hv5
              clear hO5 hE5 C1 e0 e1 e2 e3
              go_wp2_with fail
              refine C2.mono ?_
              rintro e w6 ⟨v6, rfl, hO6, hE6⟩
              obtain ⟨A6, c6, hv6, -, -, -⟩ := hO6.form
              rw [← HM.out] at hv6
              have HE6 := hide (HE5.out.trans hE6)
              have HEo6 := hide (HEo5.out.trans hE6)
              subst hv6
              clear hO6 hE6 C2 f0 f1 f2 f3
              go_wp2
              go_roundw
              case rel => exact ⟨k + 1, sum + m, by omega, by have := HJ.out; omega, by go_num, by go_num, by rw [HGk.out, show i + (k + 1) = j + 1 by have := HJ.out; omega]; omega, by rw [show i + (k + 1) = j + 1 by have := HJ.out; omega]; exact HSn.out, HE6.out, HEo6.out⟩
              case measure => have := HJ.out; simp [intOf]; omega
            · have hsI : ¬ (sum : Int) + (m : Int) ≤ size := by omega
              rw [if_neg hs] at hGk
              clear hs
              go_wp2_with fail
              refine C1.mono ?_
              rintro e w5 ⟨v5, rfl, hO5, hE5⟩
              obtain ⟨A5, c5, hv5, -, -, -⟩ := hO5.form
              rw [← HM.out] at hv5
              subst hv5
              clear C1 e0 e1 e2 e3
              have hG : groupN size whole l i = k := by rw [hGk, Nat.add_zero]
              have hR1 := HRi.out
              rw [hG] at hR1
              have hR2 := HRes.out
              rw [hR1] at hR2
              have HR3 := hide (show res = (done ++ [(k : Int)]) ++ restI size whole l (i + k) by rw [hR2, List.append_assoc]; rfl)
              have HOx := hide (HO.out.ext (HEo.out.trans hE5))
              have HEx := hide (HEk.out.trans hE5)
              have hdn : done.length ≤ 1000000 := by have := HDl.out; omega
              have HDn := hide (show (done ++ [(k : Int)]).length ≤ i + k by rw [List.length_append, List.length_singleton]; have := HDl.out; omega)
              clear hG hR1 hR2 hGk
              go_wp2_with (at_builtin; refine wpList_lit rfl (.tmp 58) (.tmp 60) rfl HEx.out HOx.out rfl (k : Int) rfl hdn ?_; intro v6 w6 hO6 hE6; have HO6 := hide hO6; have HE6 := hide hE6; clear hO6 hE6)
              go_roundw
              case rel => exact ⟨i + k, done ++ [(k : Int)], by omega, HDn.out, by go_num, HO6.out, HR3.out, HE6.out⟩
              case measure => simp [intOf]; omega
          · have hkI : ¬ (i : Int) + (k : Int) < (n : Int) := by omega
            rw [HMe.out (i + k) sum (by omega)] at hGk
            clear hk
            have hG : groupN size whole l i = k := by rw [hGk, Nat.add_zero]
            have hR1 := HRi.out
            rw [hG] at hR1
            have hR2 := HRes.out
            rw [hR1] at hR2
            have HR3 := hide (show res = (done ++ [(k : Int)]) ++ restI size whole l (i + k) by rw [hR2, List.append_assoc]; rfl)
            have HOx := hide (HO.out.ext HEo.out)
            have HEx := hide HEk.out
            have hdn : done.length ≤ 1000000 := by have := HDl.out; omega
            have HDn := hide (show (done ++ [(k : Int)]).length ≤ i + k by rw [List.length_append, List.length_singleton]; have := HDl.out; omega)
            clear hG hR1 hR2 hGk
            go_wp2_with (at_builtin; refine wpList_lit rfl (.tmp 58) (.tmp 60) rfl HEx.out HOx.out rfl (k : Int) rfl hdn ?_; intro v6 w6 hO6 hE6; have HO6 := hide hO6; have HE6 := hide hE6; clear hO6 hE6)
            go_roundw
            case rel => exact ⟨i + k, done ++ [(k : Int)], by omega, HDn.out, by go_num, HO6.out, HR3.out, HE6.out⟩
            case measure => simp [intOf]; omega
      · have hiI : ¬ (i : Int) < (n : Int) := by omega
        have hr : res = done := by rw [HRes.out, show i = n by omega, HEnd.out, List.append_nil]
        subst hr
        obtain ⟨A7, c7, hv7, hn7, hm7, hI7⟩ := HO.out.form2
        have HI7 := hide hI7
        subst hv7
        clear hlt hI7
        go_wp2
        go_ret
        exact ⟨A7, c7, rfl, hn7, hm7, HI7.out, HE.out⟩
end Go.Proofs.Ytkgkppblkdihkaa

namespace Go.Proofs.Ytkgkppblkdihkaa
open Go.RowKit

theorem ret_scan {x q : Nat} {e : Int} {r : Nat × Nat × Int} (h : r = (x, q, e)) : Ending.returned (.tuple #[.int .u64 (x : Int), .int .i64 (q : Int), .int .i64 e]) = .returned (.tuple #[.int .u64 ((r.1 : Nat) : Int), .int .i64 ((r.2.1 : Nat) : Int), .int .i64 r.2.2]) := by rw [h]

set_option maxHeartbeats 2000000 in
set_option maxRecDepth 100000 in
theorem scan_any (A : Option Addr) (c q : Nat) (b : List UInt8) (w : World) (hb : Bytes w w.heap.size A b.length b) (hq : q ≤ b.length) (hl : b.length ≤ 1000000000) :
    Calls Try.prog 59 #[.slice A b.length c, .int .i64 q] w fun e w' => e = .returned (.tuple #[.int .u64 (((Num.scan b q).1 : Nat) : Int), .int .i64 (((Num.scan b q).2.1 : Nat) : Int), .int .i64 (Num.scan b q).2.2]) ∧ w = w' := by
  go_enter Try.func59, Try.ntmps59
  go_wp2
  go_loop [7, 8, 9, 10] (fun x m i _ => ∃ (k X : Nat), k ≤ 9 ∧ X < 128 ^ k ∧ x = .int .u64 (X : Int) ∧ m = .int .u64 ((128 ^ k : Nat) : Int) ∧ i = .int .i64 (k : Int) ∧ Num.scan b q = Num.scanF b q (10 - k) k X) (fun _ _ i _ => 10 - (intOf i).toNat)
  case atStart => exact ⟨0, 0, by omega, by decide, rfl, rfl, rfl, rfl⟩
  case round =>
    obtain ⟨k, X, hk, hX, rfl, rfl, rfl, hS⟩ := hrel
    obtain ⟨f, hf⟩ : ∃ f, 10 - k = f + 1 := ⟨9 - k, by omega⟩
    rw [hf, Num.scanF] at hS
    by_cases h1 : b.length ≤ q + k
    · rw [if_pos h1] at hS
      have HS := hide hS
      clear hS
      go_wp2
      go_ret3
      exact ⟨ret_scan HS.out, rfl⟩
    · rw [if_neg h1] at hS
      obtain ⟨hlen, hb'⟩ := hb
      rcases hb' with h | ⟨bb, off, rfl, _, hcells⟩
      · omega
      have hc := hcells (q + k) (by omega)
      have hix : (q : Int) + k < (b.length : Int) := by omega
      have hcl := (b.getD (q + k) 0).toNat_lt
      have hcl' : (b.getD (q + k) 0).toNat ≤ 255 := by omega
      have hP := fun (h9 : k = 9 → (b.getD (q + k) 0).toNat = 1) => show X + (b.getD (q + k) 0).toNat % 128 * 128 ^ k < 18446744073709551616 from by
        by_cases hk9 : k = 9
        · rw [h9 hk9, hk9]
          rw [hk9] at hX
          have : (128 : Nat) ^ 9 = 9223372036854775808 := by decide
          omega
        · have h4 := Num.part_lt (c := (b.getD (q + k) 0).toNat) hX
          have h5 : (128 : Nat) ^ (k + 1) ≤ 128 ^ 9 := Nat.pow_le_pow_right (by decide) (by omega)
          have : (128 : Nat) ^ 9 = 9223372036854775808 := by decide
          omega
      have HN := hide (Num.part_lt (c := (b.getD (q + k) 0).toNat) hX)
      have hlow : (b.getD (q + k) 0).toNat < 128 → (b.getD (q + k) 0).toNat % 128 = (b.getD (q + k) 0).toNat := fun h => Nat.mod_eq_of_lt h
      clear hcells h1 hcl
      have HM := hide (fun (h : k ≤ 8) => show 128 ^ k * 128 = 128 ^ (k + 1) ∧ 128 ^ (k + 1) ≤ 9223372036854775808 from ⟨rfl, Nat.le_trans (Nat.pow_le_pow_right (by decide) (show k + 1 ≤ 9 by omega)) (by decide)⟩)
      generalize (b.getD (q + k) 0).toNat = cc at *
      generalize hMM : 128 ^ k = M at *
      have HMM := hide hMM
      clear hMM
      by_cases hform : (k = 9 ∧ cc ≠ 1) ∨ (0 < k ∧ cc = 0)
      · have HS := hide (hS.trans (if_pos hform))
        clear hS hP
        rcases hform with ⟨rfl, hne⟩ | ⟨h0, rfl⟩
        · have e1 : ((cc : Int) != 1) = true := by simp; omega
          clear hne
          go_wp2
          go_ret3
          exact ⟨ret_scan HS.out, rfl⟩
        · by_cases hk9 : k = 9
          · subst hk9
            go_wp2
            go_ret3
            exact ⟨ret_scan HS.out, rfl⟩
          · have e9 : ((k : Int) == 9) = false := by simp; omega
            have e0 : (0 : Int) < (k : Int) := by omega
            clear hk9 h0
            go_wp2
            go_ret3
            exact ⟨ret_scan HS.out, rfl⟩
      · rw [if_neg hform] at hS
        have hlt := hP (fun h9 => by
          rcases Nat.lt_trichotomy cc 1 with h | h | h
          · exact absurd (.inr ⟨by omega, by omega⟩) hform
          · exact h
          · exact absurd (.inl ⟨h9, by omega⟩) hform)
        have hY : cc % 128 * M < 18446744073709551616 := by omega
        have hmul : IntKind.u64.wrap ((cc : Int) % 128 * (M : Int)) = ((cc % 128 * M : Nat) : Int) := by
          have e : (cc : Int) % 128 * (M : Int) = ((cc % 128 * M : Nat) : Int) := by simp only [Int.natCast_mul, Int.natCast_emod]; rfl
          rw [e, IntKind.wrap_u64]; omega
        have hadd : IntKind.u64.wrap ((X : Int) + ((cc % 128 * M : Nat) : Int)) = ((X + cc % 128 * M : Nat) : Int) := by rw [IntKind.wrap_u64]; omega
        have hk9c : (((k : Int) == 9) = true ∧ ((cc : Int) != 1) = false ∧ k = 9 ∧ cc = 1) ∨ ((k : Int) == 9) = false := by
          by_cases hk9 : k = 9
          · have : cc = 1 := by
              rcases Nat.lt_trichotomy cc 1 with h | h | h
              · exact absurd (.inr ⟨by omega, by omega⟩) hform
              · exact h
              · exact absurd (.inl ⟨hk9, by omega⟩) hform
            exact .inl ⟨by simp; omega, by simp; omega, hk9, this⟩
          · exact .inr (by simp; omega)
        have hk0c : (¬ (0 : Int) < (k : Int)) ∨ ((0 : Int) < (k : Int) ∧ ((cc : Int) == 0) = false) := by
          by_cases hk0 : 0 < k
          · exact .inr ⟨by omega, by simp; intro h; exact hform (.inr ⟨hk0, by omega⟩)⟩
          · exact .inl (by omega)
        by_cases hs : cc < 128
        · have HS := hide (hS.trans (if_pos hs))
          have hs' : (cc : Int) < 128 := by omega
          rcases hk9c with ⟨e9, e1, rfl, rfl⟩ | e9
          · have hml : M < 18446744073709551616 := by omega
            have hsum : X + M < 18446744073709551616 := by omega
            have hm1 : IntKind.u64.wrap (M : Int) = (M : Int) := by rw [IntKind.wrap_u64]; omega
            have hm2 : IntKind.u64.wrap ((X : Int) + (M : Int)) = ((X + M : Nat) : Int) := by rw [IntKind.wrap_u64]; omega
            have HS2 := hide (show Num.scan b q = (X + M, q + 9 + 1, 0) by rw [HS.out]; simp)
            clear hk0c hS hP hlt hY hform hmul hadd HS hml hsum e9 e1
            go_wp2
            go_ret3
            exact ⟨ret_scan HS2.out, rfl⟩
          · clear hS hP hlt hY hform
            generalize cc % 128 * M = Y at *
            rcases hk0c with e0 | ⟨e0, ec⟩
            · go_wp2
              go_ret3
              exact ⟨ret_scan HS.out, rfl⟩
            · go_wp2
              go_ret3
              exact ⟨ret_scan HS.out, rfl⟩
        · have HS := hide (hS.trans (if_neg hs))
          have hs' : ¬ (cc : Int) < 128 := by omega
          have hk8 : k ≤ 8 := by
            rcases hk9c with ⟨_, _, _, h⟩ | h
            · omega
            · simp at h; omega
          have hm2 := HM.out hk8
          clear hS hP hlt hY hform
          have hm128 : IntKind.u64.wrap ((M : Int) * 128) = ((128 ^ (k + 1) : Nat) : Int) := by
            rw [← hm2.1, IntKind.wrap_u64]
            have := hm2.1
            have := hm2.2
            omega
          have hmp := hm2.2
          have HK := hide (show 10 - (k + 1) = f by omega)
          clear hm2
          rw [← HK.out] at HS
          generalize cc % 128 * M = Y at *
          generalize hMM2 : 128 ^ (k + 1) = M2 at *
          have HM2 := hide hMM2
          clear hMM2
          have e9 : ((k : Int) == 9) = false := by simp; omega
          clear hk9c
          rcases hk0c with e0 | ⟨e0, ec⟩
          · go_wp2
            go_round
            case rel => exact ⟨k + 1, X + Y, by omega, by rw [HM2.out]; exact HN.out, by go_num, by rw [HM2.out], by go_num, HS.out⟩
            case measure => simp [intOf]; omega
          · go_wp2
            go_round
            case rel => exact ⟨k + 1, X + Y, by omega, by rw [HM2.out]; exact HN.out, by go_num, by rw [HM2.out], by go_num, HS.out⟩
            case measure => simp [intOf]; omega
end Go.Proofs.Ytkgkppblkdihkaa

namespace Go.Proofs.Ytkgkppblkdihkaa
open Go.RowKit
attribute [local go_sem ↓] run_mid

/-- Block g is the document's cursor over the bytes b, at the place q, with the error e; P0: what is known of where its bytes lie. -/
def RefCF (P0 : Value → Prop) (w : World) (base g : Nat) (b : List UInt8) (q : Nat) (e : Int) : Prop :=
  ∃ v, Whole w g 75 #[v, .int .i64 (q : Int), .int .i64 e] ∧ OwnB w base v b ∧ v.ownBlock ≠ some g ∧ base ≤ g ∧ q ≤ b.length ∧ b.length ≤ 1000000 ∧ P0 v
abbrev RefC (w : World) (base g : Nat) (b : List UInt8) (q : Nat) (e : Int) : Prop := RefCF (fun _ => True) w base g b q e
/-- Behind a call of a cursor. -/
def CurToF (P0 : Value → Prop) (w : World) (base g : Nat) (b : List UInt8) (q : Nat) (e : Int) (w' : World) : Prop := RefCF P0 w' base g b q e ∧ Mod w w' g none
abbrev CurTo (w : World) (base g : Nat) (b : List UInt8) (q : Nat) (e : Int) (w' : World) : Prop := CurToF (fun _ => True) w base g b q e w'
section
variable {P0 : Value → Prop} {w w' : World} {base g q : Nat} {b : List UInt8} {e : Int}
theorem RefCF.lt (h : RefCF P0 w base g b q e) : g < w.heap.size := by obtain ⟨v, h, _⟩ := h; exact h.lt
theorem RefCF.le (h : RefCF P0 w base g b q e) : base ≤ g := by obtain ⟨v, _, _, _, h, _⟩ := h; exact h
theorem RefCF.ext (h : RefCF P0 w base g b q e) (hE : Ext w w') : RefCF P0 w' base g b q e := by
  obtain ⟨v, hW, hO, r⟩ := h
  exact ⟨v, hW.ext hE, hO.ext hE, r⟩
theorem RefCF.kept {g' : Nat} {ob : Option Nat} (h : RefCF P0 w base g b q e) (hM : Mod w w' g' ob) (h1 : g ≠ g') (h2 : g' < base) (h3 : ∀ k, ob = some k → k < base) : RefCF P0 w' base g b q e := by
  obtain ⟨v, hW, hO, hne, hb, r⟩ := h
  refine ⟨v, hM.whole hW h1 (fun e => by have := h3 _ e; omega), hM.own hO (fun e => by have := (hO.lt _ e).1; omega) ?_, hne, hb, r⟩
  cases hv : v.ownBlock with
  | none => exact .inl rfl
  | some x => exact .inr (fun e => by have := h3 _ e.symm; have := (hO.lt _ hv).1; omega)
theorem RefCF.bounds (h : RefCF P0 w base g b q e) : q ≤ b.length ∧ b.length ≤ 1000000 := by obtain ⟨v, _, _, _, _, h1, h2, _⟩ := h; exact ⟨h1, h2⟩
/-- What its cells hold. -/
theorem RefCF.cells (h : RefCF P0 w base g b q e) : ∃ A c, w.cell? ⟨g, 0, none⟩ = some (.slice A b.length c) ∧ w.cell? ⟨g, 1, none⟩ = some (.int .i64 (q : Int)) ∧ w.cell? ⟨g, 2, none⟩ = some (.int .i64 e) ∧ w.frozen? ⟨g, 1, none⟩ = false ∧ w.frozen? ⟨g, 2, none⟩ = false ∧
    b.length ≤ c ∧ Bytes w w.heap.size A b.length b := by
  obtain ⟨v, hW, hO, hne, hb, hq, hl, -⟩ := h
  obtain ⟨A, c, rfl, hc, _, hbb⟩ := hO.form
  exact ⟨A, c, hW.at 0 rfl, hW.at 1 rfl, hW.at 2 rfl, hW.frozen 1, hW.frozen 2, hc, hbb⟩
theorem RefCF.setAt {q' : Nat} (h : RefCF P0 w base g b q e) (hq : q' ≤ b.length) {x : Int} (hx : x = (q' : Int)) : CurToF P0 w base g b q' e (w.setCell ⟨g, 1, none⟩ (.int .i64 x)) := by
  obtain ⟨v, hW, hO, hne, hb, _, hl⟩ := h
  subst hx
  exact ⟨⟨v, hW.set 1 _, hO.far hne 1 _, hne, hb, hq, hl⟩, Mod.ofRow (grown_setCell w g 1 _)⟩
theorem RefCF.setErr {e' : Int} (h : RefCF P0 w base g b q e) : CurToF P0 w base g b q e' (w.setCell ⟨g, 2, none⟩ (.int .i64 e')) := by
  obtain ⟨v, hW, hO, hne, hb, r⟩ := h
  exact ⟨⟨v, hW.set 2 _, hO.far hne 2 _, hne, hb, r⟩, Mod.ofRow (grown_setCell w g 2 _)⟩
theorem CurToF.refl (h : RefCF P0 w base g b q e) : CurToF P0 w base g b q e w := ⟨h, Mod.refl _ _ _⟩
theorem CurToF.ext (h : RefCF P0 w base g b q e) (hE : Ext w w') : CurToF P0 w base g b q e w' := ⟨h.ext hE, Mod.ofExt hE⟩
theorem CurToF.then {w'' : World} {q' q'' : Nat} {e' e'' : Int} (h : CurToF P0 w base g b q' e' w') (k : CurToF P0 w' base g b q'' e'' w'') : CurToF P0 w base g b q'' e'' w'' := ⟨k.1, h.2.trans k.2 (.inl rfl)⟩
end

theorem refNew_any (A : Option Addr) (n c : Nat) (b : List UInt8) (w : World) (hn : n ≤ 1000000) (hb : Bytes w w.heap.size A n b) :
    Calls Try.prog 39 #[.slice A n c] w fun e w' => ∃ g, e = .returned (.pointer (some ⟨g, 0, none⟩)) ∧ RefC w' w.heap.size g b 0 0 ∧ Ext w w' := by
  have hll := hb.1
  subst hll
  have ho := OwnB.empty w (Nat.le_refl _)
  have hE := extNew w (.cells #[] 5)
  have hb' := hE.bytes hb
  have hfit : ([] : List UInt8).length + b.length ≤ 140737488355328 := by simp; omega
  have hB := hE.le
  go_enter Try.func39, Try.ntmps39
  go_wp2_with (at_builtin; refine wpList_appAt rfl (.tmp 3) (.tmp 4) rfl rfl ho rfl hb' hfit hB ?_; intro v2 w2 hO2 hG2 _; rw [List.nil_append] at hO2; obtain ⟨A2, n2, c2, hv2, _, _, _⟩ := hO2.form'; subst hv2)
  go_ret
  have hE2 : Ext w w2 := ho.below hE hG2 hB
  refine ⟨w2.heap.size, rfl, ⟨.slice A2 n2 c2, Whole.new w2 _ _, hO2.ext (extNew w2 _), fun e => by have := (hO2.lt _ e).2; omega, hE2.le, by omega, hn, trivial⟩, hE2.trans (extNew w2 _)⟩

theorem curLeft_any {P0 : Value → Prop} {w : World} {base g q : Nat} {b : List UInt8} {e : Int} (h : RefCF P0 w base g b q e) :
    Calls Try.prog 40 #[.pointer (some ⟨g, 0, none⟩)] w fun e' w' => e' = .returned (.int .i64 ((b.length - q : Nat) : Int)) ∧ Qt w w' := by
  obtain ⟨A, c, c0, c1, c2, _, _, _, _⟩ := h.cells
  obtain ⟨hq, hl⟩ := h.bounds
  go_enter Try.func40, Try.ntmps40
  go_wp2
  go_quiet (fail)
  go_wp2
  go_ret
  exact ⟨ret_i64 (by omega), ⟨_, rfl⟩⟩

theorem ret_u64N {a b : Nat} (h : a = b) : Ending.returned (.int .u64 (a : Int)) = .returned (.int .u64 (b : Int)) := by rw [h]
theorem ret_i64N {a b : Nat} (h : a = b) : Ending.returned (.int .i64 (a : Int)) = .returned (.int .i64 (b : Int)) := by rw [h]

set_option maxHeartbeats 1000000 in
theorem curNum_any {P0 : Value → Prop} {w : World} {base g q : Nat} {b : List UInt8} {e : Int} (h : RefCF P0 w base g b q e) :
    Calls Try.prog 41 #[.pointer (some ⟨g, 0, none⟩)] w fun e' w' => e' = .returned (.int .u64 (((Num.numR b q e).1 : Nat) : Int)) ∧ CurToF P0 w base g b (Num.numR b q e).2.1 (Num.numR b q e).2.2 w' := by
  obtain ⟨A, c, c0, c1, c2, f1, f2, hc, hbb⟩ := h.cells
  obtain ⟨hq, hl⟩ := h.bounds
  have HR := hide h
  clear h
  by_cases he : e = 0
  · subst he
    have HN := hide (show Num.numR b q 0 = Num.scan b q from rfl)
    have CS := fun m => scan_any A c q b (w.drewN m) (hbb.below ((Ext.refl w).drewN m) (Nat.le_refl _)) hq (by omega)
    have HF := hide (Num.scan_facts b q)
    have hwd : (Num.scan b q).2.1 ≤ b.length := by
      have := HF.out
      by_cases h0 : (Num.scan b q).2.2 = 0
      · exact (this.2.1 h0).2
      · have := (this.2.2.1 h0).1; omega
    have HW := hide hwd
    clear hwd
    rw [HN.out]
    generalize Num.scan b q = r at *
    obtain ⟨x, q', e'⟩ := r
    dsimp only at *
    go_enter Try.func41, Try.ntmps41
    go_wp2
    go_quiet (first | (go_at_call 59; exact Calls.quiet_of ((CS _).mono fun _ _ ⟨he, hw⟩ => ⟨he, 0, hw.symm⟩)))
    go_wp2
    go_ret
    have h1 := HR.out.setAt (q' := q') HW.out rfl
    have h2 := h1.1.setErr (e' := e')
    exact ⟨rfl, (h1.then h2).then (CurToF.ext h2.1 ((Ext.refl _).drewN _))⟩
  · have HN := hide (show Num.numR b q e = (0, q, e) by unfold Num.numR; rw [if_neg he])
    have he' : (e != 0) = true := by simpa using he
    clear he
    go_enter Try.func41, Try.ntmps41
    go_wp2
    go_ret
    rw [HN.out]
    exact ⟨rfl, CurToF.refl HR.out⟩
end Go.Proofs.Ytkgkppblkdihkaa

namespace Go.Proofs.Ytkgkppblkdihkaa
open Go.RowKit
attribute [local go_sem ↓] run_mid

set_option maxHeartbeats 1000000 in
set_option maxRecDepth 100000 in
theorem curInt_any {P0 : Value → Prop} {w : World} {base g q : Nat} {b : List UInt8} {e : Int} (h : RefCF P0 w base g b q e) (most : Int) (hm : most ≤ 9223372036854775807) :
    Calls Try.prog 53 #[.pointer (some ⟨g, 0, none⟩), .int .i64 most] w fun e' w' => e' = .returned (.int .i64 (((Num.intR b q e most).1 : Nat) : Int)) ∧ CurToF P0 w base g b (Num.intR b q e most).2.1 (Num.intR b q e most).2.2 w' := by
  obtain ⟨A, c, c0, c1, c2, f1, f2, hc, hbb⟩ := h.cells
  obtain ⟨hq, hl⟩ := h.bounds
  have C1 := curNum_any h
  have HI := hide (show Num.intR b q e most = (if (Num.numR b q e).2.2 = 0 then (if most < ((Num.numR b q e).1 : Int) then (0, q, 6) else Num.numR b q e) else (0, (Num.numR b q e).2.1, (Num.numR b q e).2.2)) from rfl)
  generalize Num.numR b q e = r at *
  obtain ⟨x, q', e'⟩ := r
  dsimp only at *
  clear h c0 c2 f1 f2 hc hbb
  by_cases he : e' = 0
  · subst he
    by_cases hx : most < (x : Int)
    · have HR := hide (show Num.intR b q e most = (0, q, 6) by rw [HI.out, if_pos rfl, if_pos hx])
      by_cases h0 : most < 0
      · clear hx
        go_enter Try.func53, Try.ntmps53
        go_wp2_with fail
        refine C1.mono ?_
        rintro e2 w2 ⟨rfl, hR2, hM2⟩
        obtain ⟨_, _, _, d1, d2, g1, g2, _, _⟩ := hR2.cells
        have HR2 := hide hR2
        clear hR2
        go_wp2
        go_ret
        have h1 := HR2.out.setAt (q' := q) hq rfl
        have h2 := h1.1.setErr (e' := 6)
        have h12 := h1.then h2
        rw [HR.out]
        exact ⟨rfl, h12.1, hM2.trans h12.2 (.inl rfl)⟩
      · obtain ⟨m, rfl⟩ := Int.eq_ofNat_of_zero_le (show 0 ≤ most by omega)
        have hwm : IntKind.u64.wrap (m : Int) = (m : Int) := by rw [IntKind.wrap_u64]; omega
        clear h0
        go_enter Try.func53, Try.ntmps53
        go_wp2_with fail
        refine C1.mono ?_
        rintro e2 w2 ⟨rfl, hR2, hM2⟩
        obtain ⟨_, _, _, d1, d2, g1, g2, _, _⟩ := hR2.cells
        have HR2 := hide hR2
        clear hR2
        go_wp2
        go_ret
        have h1 := HR2.out.setAt (q' := q) hq rfl
        have h2 := h1.1.setErr (e' := 6)
        have h12 := h1.then h2
        rw [HR.out]
        exact ⟨rfl, h12.1, hM2.trans h12.2 (.inl rfl)⟩
    · have HR := hide (show Num.intR b q e most = (x, q', 0) by rw [HI.out, if_pos rfl, if_neg hx])
      obtain ⟨m, rfl⟩ := Int.eq_ofNat_of_zero_le (show 0 ≤ most by omega)
      have hwm : IntKind.u64.wrap (m : Int) = (m : Int) := by rw [IntKind.wrap_u64]; omega
      have hx' : ¬ ((m : Int) < (x : Int)) := hx
      have hwx : IntKind.i64.wrap (x : Int) = (x : Int) := by rw [IntKind.wrap_i64]; omega
      clear hx
      go_enter Try.func53, Try.ntmps53
      go_wp2_with fail
      refine C1.mono ?_
      rintro e2 w2 ⟨rfl, hR2, hM2⟩
      obtain ⟨_, _, _, d1, d2, g1, g2, _, _⟩ := hR2.cells
      have HR2 := hide hR2
      clear hR2
      go_wp2
      go_ret
      rw [HR.out]
      exact ⟨rfl, HR2.out, hM2⟩
  · have HR := hide (show Num.intR b q e most = (0, q', e') by rw [HI.out, if_neg he])
    have he' : (e' != 0) = true := by simpa using he
    clear he
    go_enter Try.func53, Try.ntmps53
    go_wp2_with fail
    refine C1.mono ?_
    rintro e2 w2 ⟨rfl, hR2, hM2⟩
    obtain ⟨_, _, _, d1, d2, g1, g2, _, _⟩ := hR2.cells
    have HR2 := hide hR2
    clear hR2
    go_wp2
    go_ret
    rw [HR.out]
    exact ⟨rfl, HR2.out, hM2⟩

/-- Behind a call that takes bytes. -/
def Took (P0 : Value → Prop) (w : World) (base g : Nat) (b : List UInt8) (r : List UInt8 × Nat × Int) (e : Ending) (w' : World) : Prop :=
  ∃ v, e = .returned v ∧ OwnB w' w.heap.size v r.1 ∧ CurToF P0 w base g b r.2.1 r.2.2 w'

set_option maxHeartbeats 1000000 in
set_option maxRecDepth 100000 in
theorem curTake_any {P0 : Value → Prop} {w : World} {base g q : Nat} {b : List UInt8} {e : Int} (h : RefCF P0 w base g b q e) (n : Int) :
    Calls Try.prog 60 #[.pointer (some ⟨g, 0, none⟩), .int .i64 n] w (Took P0 w base g b (Num.takeR b q e n)) := by
  obtain ⟨A, c, c0, c1, c2, f1, f2, hc, hbb⟩ := h.cells
  obtain ⟨hq, hl⟩ := h.bounds
  have CL := curLeft_any h
  have hglt := h.lt
  by_cases he : e = 0
  · subst he
    by_cases h0 : n < 0
    · have HR := hide (show Num.takeR b q 0 n = ([], q, 13) by unfold Num.takeR; rw [if_pos rfl, if_pos h0])
      have HC := hide h
      clear h
      go_enter Try.func60, Try.ntmps60
      go_wp2
      go_ret
      rw [HR.out]
      exact ⟨_, rfl, OwnB.nil _ _, HC.out.setErr⟩
    · obtain ⟨k, rfl⟩ := Int.eq_ofNat_of_zero_le (show 0 ≤ n by omega)
      by_cases hs : b.length - q < k
      · have HR := hide (show Num.takeR b q 0 (k : Int) = ([], q, 1) by unfold Num.takeR; rw [if_pos rfl, if_neg h0, if_pos (by omega)])
        have hs' : ((b.length - q : Nat) : Int) < (k : Int) := by omega
        go_enter Try.func60, Try.ntmps60
        go_wp2_with fail
        refine CL.mono ?_
        rintro e2 w2 ⟨rfl, hQ2⟩
        have hR2 := h.ext hQ2.ext
        obtain ⟨_, _, _, d1, d2, g1, g2, _, _⟩ := hR2.cells
        have HR2 := hide hR2
        clear hR2 h c0 c1 c2 f1 f2
        go_wp2
        go_ret
        rw [HR.out]
        exact ⟨_, rfl, OwnB.nil _ _, (CurToF.refl HR2.out).then HR2.out.setErr |>.1, (Mod.ofExt hQ2.ext).trans HR2.out.setErr.2 (.inl rfl)⟩
      · have HR := hide (show Num.takeR b q 0 (k : Int) = ((b.drop q).take k, q + k, 0) by unfold Num.takeR; rw [if_pos rfl, if_neg h0, if_neg (by omega)]; simp)
        have hs' : ¬ (((b.length - q : Nat) : Int) < (k : Int)) := by omega
        go_enter Try.func60, Try.ntmps60
        go_wp2_with fail
        refine CL.mono ?_
        rintro e2 w2 ⟨rfl, hQ2⟩
        have hR2 := h.ext hQ2.ext
        obtain ⟨A2, c2', d0, d1, d2, g1, g2, hc2, hbb2⟩ := hR2.cells
        have HR2 := hide hR2
        have ho : OwnB (w2.alloc (.cells #[] 5)).drew w.heap.size (.slice (some ⟨w2.heap.size, 0, none⟩) 0 0) [] := (OwnB.empty w2 hQ2.ext.le).ext (Ext.refl _).drew
        have hE := extNew w2 (.cells #[] 5)
        have hEd : Ext w2 (w2.alloc (.cells #[] 5)).drew := hE.drew
        have k0 : (w2.alloc (.cells #[] 5)).cell? ⟨g, 0, none⟩ = some (.slice A2 b.length c2') := (hE.cell HR2.out.lt).trans d0
        have k1 : (w2.alloc (.cells #[] 5)).cell? ⟨g, 1, none⟩ = some (.int .i64 (q : Int)) := (hE.cell HR2.out.lt).trans d1
        obtain ⟨t, ht⟩ : ∃ t, t = q + k := ⟨_, rfl⟩
        have hw : IntKind.i64.wrap ((q : Int) + k) = (t : Int) := by rw [IntKind.wrap_i64]; omega
        have HTk := hide (show (b.drop q).take k = (b.drop q).take (t - q) by rw [ht, Nat.add_sub_cancel_left])
        have hcut := (hbb2.drop (k := q) hq hc2).take (k := t - q) (by omega)
        have hb' := hEd.bytes hcut
        have hfit : ([] : List UInt8).length + (t - q) ≤ 140737488355328 := by simp; omega
        have hB : w.heap.size ≤ (w2.alloc (.cells #[] 5)).drew.heap.size := (hQ2.ext.trans hEd).le
        have a1 : (0 : Int) ≤ q := by omega
        have a2 : (q : Int) ≤ (t : Int) := by omega
        have a3 : (t : Int) ≤ (c2' : Int) := by omega
        have hqk : q + k ≤ b.length := by omega
        have Ht := hide ht
        clear ht
        clear hR2 h c0 c1 c2 f1 f2 hcut hbb2 hbb
        go_wp2_with fail
        go_region_held3 (fun w' => w'.cell? ⟨g, 0, none⟩ = some (.slice A2 b.length c2') ∧ w'.cell? ⟨g, 1, none⟩ = some (.int .i64 (q : Int))) (first | exact ⟨d0, d1⟩ | exact ⟨k0, k1⟩ | exact ⟨m0, m1⟩) (first
          | (refine step_appAt rfl (.tmp 23) (.tmp 38) rfl rfl ho rfl hb' hfit hB ?_; intro v3 w3 hO3' hG3 _; have hO3 : OwnB w3 w.heap.size v3 ((b.drop q).take (t - q)) := hO3'; have hE3 : Ext w w3 := ho.below (hQ2.ext.trans hEd) hG3 hB; have hE23 : Ext w2 w3 := Below.grown hEd hG3 hEd.le (fun k hk => by cases hk; exact Nat.le_refl _); have m0 : w3.cell? ⟨g, 0, none⟩ = some (.slice A2 b.length c2') := (hE23.cell HR2.out.lt).trans d0; have m1 : w3.cell? ⟨g, 1, none⟩ = some (.int .i64 (q : Int)) := (hE23.cell HR2.out.lt).trans d1; clear hO3' hG3))
        have HR3 := hide (HR2.out.ext hE23)
        have n1 : w3.frozen? ⟨g, 1, none⟩ = false := by obtain ⟨_, _, _, _, _, h, _⟩ := HR3.out.cells; exact h
        clear k0 k1 hE hEd ho hb' hE23
        go_wp2
        go_ret
        have hS := HR3.out.setAt (q' := q + k) (x := (t : Int)) hqk (by have := Ht.out; omega)
        rw [HR.out]
        exact ⟨v3, rfl, by dsimp only; rw [HTk.out]; exact hO3.far (fun e => by have := (hO3.lt _ e).1; omega) 1 _, hS.1, (Mod.ofExt hE3).trans hS.2 (.inl rfl)⟩
  · have HR := hide (show Num.takeR b q e n = ([], q, e) by unfold Num.takeR; rw [if_neg he])
    have he' : (e != 0) = true := by simpa using he
    have HC := hide h
    clear he h
    go_enter Try.func60, Try.ntmps60
    go_wp2
    go_ret
    rw [HR.out]
    exact ⟨_, rfl, OwnB.nil _ _, CurToF.refl HC.out⟩

end Go.Proofs.Ytkgkppblkdihkaa

namespace Go.Proofs.Ytkgkppblkdihkaa
open Go.RowKit

set_option maxHeartbeats 1000000 in
theorem same_any (A1 A2 : Option Addr) (n m c d : Nat) (a b : List UInt8) (w : World) (ha : Bytes w w.heap.size A1 n a) (hb : Bytes w w.heap.size A2 m b) :
    Calls Try.prog 18 #[.slice A1 n c, .slice A2 m d] w fun e w' => e = .returned (.bool (sameB a b)) ∧ Ext w w' := by
  have h1 := conv_bytes c ha (fun h => by subst h; rcases ha.2 with h | ⟨_, _, h, _⟩; exact h; cases h)
  have h2 := conv_bytes d hb (fun h => by subst h; rcases hb.2 with h | ⟨_, _, h, _⟩; exact h; cases h)
  clear ha hb
  go_enter Try.func18, Try.ntmps18
  go_wp2
  go_ret
  exact ⟨ret_bool (same_beq a b).symm, Ext.refl _⟩
end Go.Proofs.Ytkgkppblkdihkaa

namespace Go.Proofs.Ytkgkppblkdihkaa
open Go.RowKit

theorem ret_u8 {a b : Int} (h : a = b) : Ending.returned (.int .u8 a) = .returned (.int .u8 b) := by rw [h]

theorem curByte_any {P0 : Value → Prop} {w : World} {base g q : Nat} {b : List UInt8} {e : Int} (h : RefCF P0 w base g b q e) :
    Calls Try.prog 42 #[.pointer (some ⟨g, 0, none⟩)] w fun e' w' => e' = .returned (.int .u8 (((Num.byteR b q e).1 : Nat) : Int)) ∧ CurToF P0 w base g b (Num.byteR b q e).2.1 (Num.byteR b q e).2.2 w' := by
  have CT := curTake_any h 1
  have HB := hide (show Num.byteR b q e = (((Num.takeR b q e 1).1.getD 0 0).toNat, (Num.takeR b q e 1).2) from rfl)
  rw [HB.out]
  generalize Num.takeR b q e 1 = r at *
  obtain ⟨l, q', e'⟩ := r
  dsimp only at *
  clear h
  go_enter Try.func42, Try.ntmps42
  go_wp2_with fail
  refine CT.mono ?_
  rintro e2 w2 ⟨v, rfl, hO, hR, hM⟩
  dsimp only at hO hR
  rcases Nat.eq_zero_or_pos l.length with h0 | h0
  · obtain rfl := List.eq_nil_of_length_eq_zero h0
    obtain ⟨A, c, rfl, _, _, _⟩ := hO.form
    simp only [List.length_nil]
    go_wp2
    go_ret
    exact ⟨ret_u8 rfl, hR, hM⟩
  · obtain ⟨g', c, rfl, _, _⟩ := hO.formG h0
    have hc := (hO.cell (i := 0) h0).1
    have hl : ¬ ((l.length : Int) < 1) := by omega
    have hl0 : (0 : Int) < (l.length : Int) := by omega
    have HR := hide hR
    clear hO hR
    generalize hx : (l.getD 0 0).toNat = x at hc
    have HX := hide hx
    clear hx
    go_wp2
    go_ret
    exact ⟨ret_u8 (by rw [← HX.out]), HR.out, hM⟩

theorem Num.intR_le (b : List UInt8) (q : Nat) (e most : Int) (h : (Num.intR b q e most).2.2 = 0) : e = 0 ∧ ((Num.intR b q e most).1 : Int) ≤ most ∧ (Num.intR b q e most).2.1 ≤ b.length := by
  unfold Num.intR at *
  by_cases h1 : (Num.numR b q e).2.2 = 0
  · rw [if_pos h1] at h ⊢
    have he : e = 0 := by
      unfold Num.numR at h1
      by_cases he : e = 0
      · exact he
      · rw [if_neg he] at h1; exact absurd h1 he
    subst he
    by_cases h2 : most < ((Num.numR b q 0).1 : Int)
    · rw [if_pos h2] at h; simp at h
    · rw [if_neg h2] at h ⊢
      exact ⟨rfl, by omega, ((Num.scan_facts b q).2.1 h1).2⟩
  · rw [if_neg h1] at h
    exact absurd h h1

set_option maxHeartbeats 1000000 in
set_option maxRecDepth 100000 in
theorem curText_any {P0 : Value → Prop} {w : World} {base g q : Nat} {b : List UInt8} {e : Int} (h : RefCF P0 w base g b q e) (most : Int) (hm : most ≤ 9223372036854775807) :
    Calls Try.prog 43 #[.pointer (some ⟨g, 0, none⟩), .int .i64 most] w fun e' w' => e' = .returned (.string ⟨(Num.textR b q e most).1.toArray⟩) ∧ CurToF P0 w base g b (Num.textR b q e most).2.1 (Num.textR b q e most).2.2 w' := by
  obtain ⟨A, c, c0, c1, c2, f1, f2, hc, hbb⟩ := h.cells
  obtain ⟨hq, hl⟩ := h.bounds
  have CI := curInt_any h most hm
  have HT := hide (show Num.textR b q e most = (if (Num.intR b q e most).2.2 = 0 then (if b.length - (Num.intR b q e most).2.1 < (Num.intR b q e most).1 then ([], q, 1) else Num.takeR b (Num.intR b q e most).2.1 0 ((Num.intR b q e most).1 : Int)) else ([], (Num.intR b q e most).2)) from rfl)
  have HI := hide (Num.intR_le b q e most)
  generalize Num.intR b q e most = r at *
  obtain ⟨x, q', e'⟩ := r
  dsimp only at *
  clear h c0 hbb hc f1 f2
  go_enter Try.func43, Try.ntmps43
  go_wp2_with fail
  refine CI.mono ?_
  rintro e2 w2 ⟨rfl, hR2, hM2⟩
  obtain ⟨_, _, _, d1, d2, g1, g2, _, _⟩ := hR2.cells
  by_cases he : e' = 0
  · subst he
    by_cases hs : b.length - q' < x
    · have HR := hide (show Num.textR b q e most = ([], q, 1) by rw [HT.out, if_pos rfl, if_pos hs])
      have hs' : ((b.length - q' : Nat) : Int) < (x : Int) := by omega
      go_wp2_with fail
      refine (curLeft_any hR2).mono ?_
      rintro e3 w3 ⟨rfl, hQ3⟩
      have hR3 := hR2.ext hQ3.ext
      obtain ⟨_, _, _, k1, k2, l1, l2, _, _⟩ := hR3.cells
      have HR3 := hide hR3
      clear hR2 hR3 d1 d2 g1 g2
      go_wp2
      go_ret
      have h1 := HR3.out.setAt (q' := q) hq rfl
      have h2 := h1.1.setErr (e' := 1)
      have h12 := h1.then h2
      rw [HR.out]
      exact ⟨rfl, h12.1, (hM2.trans (Mod.ofExt hQ3.ext) (.inl rfl)).trans h12.2 (.inl rfl)⟩
    · have HR := hide (show Num.textR b q e most = Num.takeR b q' 0 (x : Int) by rw [HT.out, if_pos rfl, if_neg hs])
      have hs' : ¬ (((b.length - q' : Nat) : Int) < (x : Int)) := by omega
      go_wp2_with fail
      refine (curLeft_any hR2).mono ?_
      rintro e3 w3 ⟨rfl, hQ3⟩
      have hR3 := hR2.ext hQ3.ext
      clear hR2 d1 d2 g1 g2
      go_wp2_with fail
      refine (curTake_any hR3 (x : Int)).mono ?_
      rintro e4 w4 ⟨v4, rfl, hO4, hR4, hM4⟩
      generalize Num.takeR b q' 0 (x : Int) = rr at *
      obtain ⟨l, q4, e4'⟩ := rr
      dsimp only at *
      obtain ⟨A4, c4, rfl, _, _, hb4⟩ := hO4.form
      have hcv := conv_bytes (w := w4) c4 hb4 (fun h => by subst h; rcases hb4.2 with h | ⟨_, _, h, _⟩; exact h; cases h)
      have HR4 := hide hR4
      clear hR3 hR4 hO4 hb4
      go_wp2
      go_ret
      rw [HR.out]
      exact ⟨rfl, HR4.out, (hM2.trans (Mod.ofExt hQ3.ext) (.inl rfl)).trans hM4 (.inl rfl)⟩
  · have HR := hide (show Num.textR b q e most = ([], q', e') by rw [HT.out, if_neg he])
    have he' : (e' != 0) = true := by simpa using he
    have HR2 := hide hR2
    clear he hR2
    go_wp2
    go_ret
    rw [HR.out]
    exact ⟨rfl, HR2.out, hM2⟩
end Go.Proofs.Ytkgkppblkdihkaa

namespace Go.Proofs.Ytkgkppblkdihkaa
open Go.RowKit

/-- Bytes of the call's own lie in no block of another kind. -/
theorem OwnB.notKind {w : World} {base b : Nat} {v : Value} {l : List UInt8} {t : TypeId} {cs : Array Value} (h : OwnB w base v l) (hb : Whole w b t cs) (ht : t ≠ 5) : v.ownBlock ≠ some b := by
  intro e
  rcases h.2 with ⟨rfl, _⟩ | ⟨g', cap, cur, rfl, _, hg, _⟩
  · simp [Value.ownBlock] at e
  · simp only [Value.ownBlock, Option.some.injEq] at e
    subst e
    unfold Whole at hb
    rw [hb] at hg
    simp only [Option.some.injEq, Obj.cells.injEq] at hg
    exact ht hg.2.1
end Go.Proofs.Ytkgkppblkdihkaa

