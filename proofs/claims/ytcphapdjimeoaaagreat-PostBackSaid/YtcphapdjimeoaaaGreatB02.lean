/- Groups and columns: plain mathematics of chapter 17. What a log weighs, and whether it may be: plain mathematics of chapter 17. make([]byte, n), told as a slice of the call's own. How great a dictionary is that is read. Slices of slices of bytes. How the program finds a text by the first ones of the buckets, and how it reads: plain mathematics. -/
import Derived.Test.YtcphapdjimeoaaaGreatB01
namespace Go.Proofs.YtcphapdjimeoaaaGreat
namespace Rcs
open Num

/-! ### Groups -/
theorem more_le (whole : Bool) (size : Int) : ∀ (sum : Nat) (l : List Rc), moreG whole size sum l ≤ l.length
  | _, [] => by simp [moreG]
  | sum, r :: t => by
    have := more_le whole size (sum + (oneB whole r).length) t
    rw [moreG]
    split <;> simp <;> omega
/-- What goes in fits; what doesn't, doesn't. -/
theorem more_fits (whole : Bool) (size : Int) : ∀ (sum : Nat) (l : List Rc),
    (0 < moreG whole size sum l → ((sum + (bytesB whole (l.take (moreG whole size sum l))).length : Nat) : Int) ≤ size) ∧
    (moreG whole size sum l < l.length → size < ((sum + (bytesB whole (l.take (moreG whole size sum l))).length + (oneB whole (l.getD (moreG whole size sum l) default)).length : Nat) : Int))
  | _, [] => by simp [moreG]
  | sum, r :: t => by
    obtain ⟨h1, h2⟩ := more_fits whole size (sum + (oneB whole r).length) t
    rw [moreG]
    by_cases h : ((sum + (oneB whole r).length : Nat) : Int) ≤ size
    · rw [if_pos h, List.take_succ_cons]
      have e : (bytesB whole (r :: t.take (moreG whole size (sum + (oneB whole r).length) t))).length = (oneB whole r).length + (bytesB whole (t.take (moreG whole size (sum + (oneB whole r).length) t))).length := by
        unfold bytesB; rw [List.flatMap_cons, List.length_append]
      rw [e]
      constructor
      · intro _
        by_cases h0 : 0 < moreG whole size (sum + (oneB whole r).length) t
        · have := h1 h0; omega
        · have h0 : moreG whole size (sum + (oneB whole r).length) t = 0 := by omega
          rw [h0] at *
          simp only [List.take_zero, bytesB, List.flatMap_nil, List.length_nil]
          omega
      · intro hl
        have := h2 (by simpa using hl)
        rw [List.getD_cons_succ]
        omega
    · rw [if_neg h]
      refine ⟨fun h0 => absurd h0 (by omega), fun _ => ?_⟩
      simp [bytesB] at h ⊢
      omega
/-- The groups from a place on. -/
theorem groups_more {whole : Bool} {size : Int} : ∀ (f : Nat) (l : List Rc), l.length ≤ f → groupsF whole size f l = groupsF whole size l.length l
  | 0, l, h => by obtain rfl := List.eq_nil_of_length_eq_zero (by omega : l.length = 0); rfl
  | f + 1, [], _ => rfl
  | f + 1, r :: t, h => by
    have hm := more_le whole size (oneB whole r).length t
    rw [groupsF, List.length_cons, groupsF]
    have h1 : (t.drop (moreG whole size (oneB whole r).length t)).length ≤ t.length := by rw [List.length_drop]; omega
    rw [groups_more f _ (by simp at h; omega), groups_more t.length _ h1]
/-- The groups of the records from the place i on. -/
def groupsAt (size : Int) (whole : Bool) (l : List Rc) (i : Nat) : List Nat := groupsF whole size (l.length - i) (l.drop i)
theorem groups_end {size : Int} {whole : Bool} {l : List Rc} {i : Nat} (h : l.length ≤ i) : groupsAt size whole l i = [] := by unfold groupsAt; rw [show l.length - i = 0 by omega]; rfl
/-- How many records the group has that begins at the place i. -/
def groupN (size : Int) (whole : Bool) (l : List Rc) (i : Nat) : Nat := moreG whole size (oneB whole (l.getD i default)).length (l.drop (i + 1)) + 1
theorem rc_drop {l : List Rc} {i : Nat} (h : i < l.length) : l.drop i = l.getD i default :: l.drop (i + 1) := by
  rw [List.drop_eq_getElem_cons h, List.getD_eq_getElem?_getD, List.getElem?_eq_getElem h]
  rfl
theorem groups_step {size : Int} {whole : Bool} {l : List Rc} {i : Nat} (h : i < l.length) : groupsAt size whole l i = groupN size whole l i :: groupsAt size whole l (i + groupN size whole l i) ∧ i + groupN size whole l i ≤ l.length := by
  have hm := more_le whole size (oneB whole (l.getD i default)).length (l.drop (i + 1))
  rw [List.length_drop] at hm
  unfold groupsAt groupN
  obtain ⟨f, hf⟩ : ∃ f, l.length - i = f + 1 := ⟨l.length - i - 1, by omega⟩
  rw [hf, rc_drop h, groupsF, List.drop_drop]
  refine ⟨?_, by omega⟩
  congr 1
  rw [groups_more f _ (by rw [List.length_drop]; omega), List.length_drop]
  rw [show i + 1 + moreG whole size (oneB whole (l.getD i default)).length (l.drop (i + 1)) = i + (moreG whole size (oneB whole (l.getD i default)).length (l.drop (i + 1)) + 1) by omega]
/-- A group of several fits; with the next record it wouldn't. -/
theorem group_fits {size : Int} {whole : Bool} {l : List Rc} {i : Nat} (h : i < l.length) :
    (1 < groupN size whole l i → ((bytesB whole ((l.drop i).take (groupN size whole l i))).length : Int) ≤ size) ∧
    (i + groupN size whole l i < l.length → size < ((bytesB whole ((l.drop i).take (groupN size whole l i))).length : Int) + ((oneB whole (l.getD (i + groupN size whole l i) default)).length : Int)) := by
  obtain ⟨h1, h2⟩ := more_fits whole size (oneB whole (l.getD i default)).length (l.drop (i + 1))
  unfold groupN
  rw [rc_drop h, List.take_succ_cons]
  have e : (bytesB whole (l.getD i default :: (l.drop (i + 1)).take (moreG whole size (oneB whole (l.getD i default)).length (l.drop (i + 1))))).length = (oneB whole (l.getD i default)).length + (bytesB whole ((l.drop (i + 1)).take (moreG whole size (oneB whole (l.getD i default)).length (l.drop (i + 1))))).length := by
    unfold bytesB; rw [List.flatMap_cons, List.length_append]
  rw [e]
  refine ⟨fun hg => by have := h1 (by omega); omega, fun hg => ?_⟩
  have := h2 (by rw [List.length_drop]; omega)
  have e2 : (l.drop (i + 1)).getD (moreG whole size (oneB whole (l.getD i default)).length (l.drop (i + 1))) default = l.getD (i + (moreG whole size (oneB whole (l.getD i default)).length (l.drop (i + 1)) + 1)) default := by
    rw [List.getD_eq_getElem?_getD, List.getElem?_drop, List.getD_eq_getElem?_getD]
    congr 2
    omega
  rw [e2] at this
  omega

/-! ### Columns -/
theorem sub_add {a b : Nat} (ha : a < 2 ^ 64) (hb : b < 2 ^ 64) : (b + sub64 a b) % 2 ^ 64 = a := by unfold sub64; omega
theorem sub_lt (a b : Nat) : sub64 a b < 2 ^ 64 := Nat.mod_lt _ (by decide)
theorem times_at {b : List UInt8} : ∀ (l : List Rc) (was : Nat) (pre post : List UInt8), b = pre ++ (timesB was l ++ post) → was < 2 ^ 64 → (∀ r ∈ l, r.time < 2 ^ 64) → timesR b l.length was pre.length = (l.map Rc.time, pre.length + (timesB was l).length, 0)
  | [], was, pre, post, _, _, _ => by simp [timesR, timesB]
  | r :: t, was, pre, post, hb, hw, h => by
    have hr := h r (by simp)
    have hb1 : b = pre ++ (enc (zig (sub64 r.time was)) ++ (timesB r.time t ++ post)) := by rw [hb, timesB, List.append_assoc]
    have h1 := num_at hb1 (zig_lt (sub_lt r.time was))
    have ih := times_at (b := b) t r.time (pre ++ enc (zig (sub64 r.time was))) post (by rw [hb1]; simp) hr (fun x hx => h x (by simp [hx]))
    rw [List.length_append] at ih
    rw [List.length_cons, timesR, h1]
    dsimp only
    rw [if_neg (by simp), zag_zig (sub_lt r.time was), sub_add hr hw, ih]
    dsimp only
    rw [if_neg (by simp), timesB, List.length_append, List.map_cons, Nat.add_assoc]
theorem run_le (x : UInt8) : ∀ l : List Rc, rowN x l ≤ l.length
  | [] => by simp [rowN]
  | r :: t => by
    have := run_le x t
    rw [rowN]
    split <;> simp <;> omega
/-- A row's further records write nothing. -/
theorem levels_run (x : UInt8) : ∀ l : List Rc, levelsB (some x) l = levelsB (some x) (l.drop (rowN x l)) ∧ l.map Rc.lv = List.replicate (rowN x l) x ++ (l.drop (rowN x l)).map Rc.lv ∧ ∀ r, (l.drop (rowN x l)).head? = some r → r.lv ≠ x
  | [] => by simp [rowN]
  | r :: t => by
    obtain ⟨h1, h2, h3⟩ := levels_run x t
    rw [rowN]
    by_cases h : r.lv = x
    · rw [if_pos h, List.drop_succ_cons, levelsB, if_pos (by rw [h]), List.nil_append, h, List.replicate_succ, List.map_cons, h, List.cons_append]
      exact ⟨h1, by rw [h2], h3⟩
    · rw [if_neg h, List.drop_zero]
      refine ⟨rfl, by simp, fun y hy => ?_⟩
      simp at hy
      rw [← hy]
      exact h
theorem levels_at {b : List UInt8} : ∀ (f : Nat) (l : List Rc) (p : Option UInt8) (pre post : List UInt8), l.length ≤ f → l.length ≤ 1000000 → b = pre ++ (levelsB p l ++ post) → (∀ r, l.head? = some r → p ≠ some r.lv) → levelsR b f l.length p pre.length = (l.map Rc.lv, pre.length + (levelsB p l).length, 0)
  | 0, l, p, pre, post, hf, _, _, _ => by obtain rfl := List.eq_nil_of_length_eq_zero (by omega : l.length = 0); simp [levelsR, levelsB]
  | f + 1, [], p, pre, post, _, _, _, _ => by simp [levelsR, levelsB]
  | f + 1, r :: t, p, pre, post, hf, hl, hb, hp => by
    have hpr := hp r rfl
    obtain ⟨g1, g2, g3⟩ := levels_run r.lv t
    have hrun := run_le r.lv t
    have e0 : levelsB p (r :: t) = r.lv :: (enc (rowN r.lv t + 1) ++ levelsB (some r.lv) (t.drop (rowN r.lv t))) := by
      rw [levelsB, if_neg hpr, g1]
      simp
    rw [e0] at hb ⊢
    have hb1 : b = pre ++ (r.lv :: ((enc (rowN r.lv t + 1) ++ levelsB (some r.lv) (t.drop (rowN r.lv t))) ++ post)) := by rw [hb]; simp
    have h1 := byte_at hb1
    have h2 : runR b pre.length (r :: t).length = (rowN r.lv t + 1, pre.length + 1 + (enc (rowN r.lv t + 1)).length, 0) := by
      unfold runR
      rw [h1]
      dsimp only
      have := int_at (b := b) (pre := pre ++ [r.lv]) (post := levelsB (some r.lv) (t.drop (rowN r.lv t)) ++ post) (x := rowN r.lv t + 1) (most := ((r :: t).length : Int)) (by rw [hb1]; simp) (by simp at hl; omega) (by rw [List.length_cons]; omega)
      rw [List.length_append, List.length_singleton] at this
      exact this
    have ih := levels_at (b := b) f (t.drop (rowN r.lv t)) (some r.lv) (pre ++ (r.lv :: enc (rowN r.lv t + 1))) post (by rw [List.length_drop]; simp at hf; omega) (by rw [List.length_drop]; simp at hl; omega) (by rw [hb1]; simp) (fun y hy e => g3 y hy (by injection e with e; exact e.symm))
    rw [levelsR, if_neg (by simp), h2, h1]
    dsimp only
    rw [if_neg (by simp), UInt8.ofNat_toNat, if_neg (by rintro (h | h); · omega
                                                        · exact hpr h)]
    rw [List.length_append, List.length_cons, List.length_drop] at ih
    rw [show (r :: t).length - (rowN r.lv t + 1) = t.length - rowN r.lv t by simp, show pre.length + 1 + (enc (rowN r.lv t + 1)).length = pre.length + ((enc (rowN r.lv t + 1)).length + 1) by omega, ih]
    dsimp only
    rw [if_neg (by simp), List.map_cons, g2, List.replicate_succ, List.cons_append, List.length_cons, List.length_append]
    congr 2
    omega
/-- What was written as columns is read, whatever stands behind it. -/
theorem columns_back {l : List Rc} (hl : l.length ≤ 20000) (h : ∀ r ∈ l, r.time < 2 ^ 64) (more : List UInt8) : readCE (l.length : Int) (columnsE l ++ more) = (l.map Rc.time, l.map Rc.lv, (columnsE l).length, 0) := by
  have h1 := times_at (b := columnsE l ++ more) l 0 [] (levelsB none l ++ more) (by simp [columnsE]) (by decide) h
  have h2 := levels_at (b := columnsE l ++ more) l.length l none (timesB 0 l) more (Nat.le_refl _) (by omega) (by simp [columnsE]) (fun r _ => by simp)
  simp only [List.length_nil, Nat.zero_add] at h1
  unfold readCE
  rw [if_neg (by omega), Int.toNat_natCast]
  unfold readCR
  rw [h1]
  dsimp only
  rw [if_neg (by simp), h2]
  dsimp only
  rw [if_neg (by simp)]
  simp [columnsE]
end Rcs
end Go.Proofs.YtcphapdjimeoaaaGreat

namespace Go.Proofs.YtcphapdjimeoaaaGreat
namespace Rcs
open Num

theorem rc_take {l : List Rc} {i : Nat} (h : i < l.length) : l.take (i + 1) = l.take i ++ [l.getD i default] := by
  rw [List.take_add_one, List.getElem?_eq_getElem h, List.getD_eq_getElem?_getD, List.getElem?_eq_getElem h]
  rfl
theorem weight_step {l : List Rc} {i : Nat} (h : i < l.length) : weightE (l.take (i + 1)) = weightE (l.take i) + 16 + (l.getD i default).src.length + (l.getD i default).text.length := by
  rw [rc_take h]
  unfold weightE
  rw [List.map_append, List.sum_append]
  simp
  omega
theorem weight_take (l : List Rc) (i : Nat) : weightE (l.take i) ≤ weightE l := by
  have : weightE l = weightE (l.take i) + weightE (l.drop i) := by
    conv => lhs; rw [← List.take_append_drop i l]
    unfold weightE
    rw [List.map_append, List.sum_append]
  omega
theorem weight_mem {l : List Rc} {r : Rc} (h : r ∈ l) : 16 + r.src.length + r.text.length ≤ weightE l := by
  unfold weightE
  induction l with
  | nil => simp at h
  | cons a t ih =>
    rw [List.map_cons, List.sum_cons]
    rcases List.mem_cons.1 h with rfl | h
    · omega
    · have := ih h; omega
theorem weight_len (l : List Rc) : 16 * l.length ≤ weightE l := by
  unfold weightE
  induction l with
  | nil => simp
  | cons a t ih => rw [List.map_cons, List.sum_cons, List.length_cons]; omega
/-- What the document counts; f: where it stops. -/
def wgtF : Nat → List Rc → Nat
  | sum, [] => sum
  | sum, r :: t => if 1099511627776 < sum ∨ 1099511627776 < r.src.length ∨ 1099511627776 < r.text.length then 2199023255552 else wgtF (sum + 16 + r.src.length + r.text.length) t
theorem wgt_is : ∀ (l : List Rc) (sum : Nat), wgtF sum l ≤ 1099511627776 → wgtF sum l = sum + weightE l
  | [], sum, _ => by simp [wgtF, weightE]
  | r :: t, sum, h => by
    rw [wgtF] at h ⊢
    by_cases h1 : 1099511627776 < sum ∨ 1099511627776 < r.src.length ∨ 1099511627776 < r.text.length
    · rw [if_pos h1] at h; omega
    · rw [if_neg h1] at h ⊢
      rw [wgt_is t _ h]
      unfold weightE
      rw [List.map_cons, List.sum_cons]
      omega
theorem wgt_le : ∀ (l : List Rc) (sum : Nat), sum ≤ 3298534883344 → wgtF sum l ≤ 3298534883344
  | [], sum, h => by rw [wgtF]; exact h
  | r :: t, sum, h => by
    rw [wgtF]
    split
    · omega
    · exact wgt_le t _ (by omega)
theorem wgt_step {l : List Rc} {i sum : Nat} (h : i < l.length) : wgtF sum (l.drop i) = if 1099511627776 < sum ∨ 1099511627776 < (l.getD i default).src.length ∨ 1099511627776 < (l.getD i default).text.length then 2199023255552 else wgtF (sum + 16 + (l.getD i default).src.length + (l.getD i default).text.length) (l.drop (i + 1)) := by
  rw [rc_drop h, wgtF]
/-- Is a log more than statements look at? -/
def greatE (l : List Rc) (records bytes : Int) : Bool := decide (records < (l.length : Int) ∨ bytes < (wgtF 0 l : Int))
theorem great_no {l : List Rc} {records bytes : Int} (h : greatE l records bytes = false) (hb : bytes ≤ 1099511627776) : (l.length : Int) ≤ records ∧ (weightE l : Int) ≤ bytes := by
  have h := of_decide_eq_false h
  have h1 : ¬ records < (l.length : Int) := fun e => h (.inl e)
  have h2 : ¬ bytes < (wgtF 0 l : Int) := fun e => h (.inr e)
  have := wgt_is l 0 (by omega)
  omega
end Rcs
end Go.Proofs.YtcphapdjimeoaaaGreat

namespace Go.Proofs.YtcphapdjimeoaaaGreat
open Go.RowKit

theorem wpList_makeB {ops : Array Oper} {rest : List Oper} {o : Oper} {a : Act} {Q : Exit → Act → World → Prop} {w : World} (hgd : o.guard = none) (x y : Operand) (ho : o.op = .makeSlice 22 x y) {n : Nat} (hx : a.eval x = .int .i64 (n : Int)) (hy : a.eval y = .int .i64 (n : Int)) (hn : n ≤ 1000)
    (h : ∀ w', OwnB w' w.heap.size (.slice (some ⟨w.heap.size, 0, none⟩) n n) (List.replicate n 0) → Ext w w' → wpList Tryz.prog ops Q rest (a.put o.dst (.slice (some ⟨w.heap.size, 0, none⟩) n n)) w') : wpList Tryz.prog ops Q (o :: rest) a w := by
  obtain ⟨i, hi, hz, hsz, hby⟩ := info_parts byte_info
  refine wpList_make_full w hgd x y 22 ho w.heap.size 5 i _ 1 Tryz.underlying22 hi hz hsz .i64 .i64 _ _ n hx hy rfl rfl (by rw [hby]; omega) (by unfold maxLen; omega) (Nat.le_refl _) ?_
  intro w' h1 h2
  refine h w' ?_ (Below.grown (Ext.refl w) h2 (Nat.le_refl _) fun k hk => by cases hk)
  unfold OwnB
  have e : (madeCells (Value.int .u8 0).cells (n * 1)).toList = (List.replicate n (0 : UInt8)).map byteV := by
    have : madeCells (Value.int .u8 0).cells n = ((List.replicate n (0 : UInt8)).map byteV).toArray := by
      apply Array.ext
      · simp [size_madeCells]
      · intro i h1 h2
        simp [madeCells, Value.cells, byteV, Nat.mod_one]
    rw [Nat.mul_one, this]
  rw [e] at h1
  simpa using h1
end Go.Proofs.YtcphapdjimeoaaaGreat

namespace Go.Proofs.YtcphapdjimeoaaaGreat
open Go.RowKit Wrd Dic Num

theorem Dic.tail_ge : ∀ (t : List (List UInt8)) (was : List UInt8), t.length ≤ (tailB was t).length
  | [], _ => by simp
  | s :: t, was => by
    have h1 := tail_ge t s
    have h2 := enc_pos (alike was s)
    rw [tailB, List.length_append, List.length_cons]
    unfold itemB
    rw [List.length_append]
    omega
theorem Dic.bucket_ge : ∀ c : List (List UInt8), c.length ≤ (bucketB c).length
  | [] => by simp
  | s :: t => by
    have h1 := tail_ge t s
    have h2 := enc_pos s.length
    rw [bucketB, List.length_append, List.length_cons]
    unfold textB
    rw [List.length_append]
    omega
theorem Dic.chunks_ge {size : Nat} (hs : 1 ≤ size) : ∀ (f : Nat) (l : List (List UInt8)), l.length ≤ f → l.length ≤ (bodyB (chunks size f l)).length
  | 0, l, h => by omega
  | f + 1, l, h => by
    rw [chunks]
    split
    · rename_i e; subst e; simp
    · rename_i e
      have hp : 0 < l.length := List.length_pos_iff.2 e
      have h1 := chunks_ge hs f (l.drop size) (by rw [List.length_drop]; omega)
      have h2 := bucket_ge (l.take size)
      unfold bodyB at h1 ⊢
      rw [List.flatMap_cons, List.length_append]
      rw [List.length_drop] at h1
      rw [List.length_take] at h2
      omega
theorem Dic.dict_ge {size : Nat} (hs : 1 ≤ size) (l : List (List UInt8)) : l.length ≤ (dictB size l).length := by
  have := chunks_ge hs l.length l (Nat.le_refl _)
  unfold dictB bucketsOf
  rw [List.length_append]
  omega
/-- Of a dictionary that is read: what is written, and how much it is. -/
theorem Dic.one_facts {size : Int} {b : List UInt8} {l : List (List UInt8)} {n : Nat} (h : readE b size = (l, n, 0)) : n ≤ b.length ∧ writeE size l = (b.take n, 0) ∧ l.length ≤ b.length ∧ ∀ s, s ∈ l → s.length ≤ 25 := by
  unfold readE at h
  split at h
  · simp at h
  · rename_i hs
    obtain ⟨h1, h2, h3⟩ := read_one (by omega) h
    refine ⟨h2, ?_, ?_, fun s hs => ((may_facts h1).2.1 s hs).2⟩
    · unfold writeE
      rw [if_neg (by rw [h1]; simp; omega), h3]
    · have := dict_ge (size := size.toNat) (by omega) l
      rw [h3, List.length_take] at this
      omega
end Go.Proofs.YtcphapdjimeoaaaGreat

namespace Go.Proofs.YtcphapdjimeoaaaGreat
open Go.RowKit

/-- A slice of slices that reads as these rows of bytes. -/
def Parts (w : World) (B : Nat) (A : Option Addr) (n : Nat) (ls : List (List UInt8)) : Prop :=
  ls.length = n ∧ (n = 0 ∨ ∃ b off, A = some ⟨b, off, none⟩ ∧ b < B ∧ ∀ i, i < n → ∃ A' n' c', w.cell? ⟨b, off + i, none⟩ = some (.slice A' n' c') ∧ n' ≤ maxLen ∧ Bytes w B A' n' (ls.getD i []))

end Go.Proofs.YtcphapdjimeoaaaGreat

namespace Go.Proofs.YtcphapdjimeoaaaGreat
namespace Dic
open Num Wrd

/-! ### Finding -/
/-- So many texts of a row are below s. -/
def IsLow (l : List (List UInt8)) (s : List UInt8) (i : Nat) : Prop := i ≤ l.length ∧ (∀ j, j < i → Op.bytesLess (l.getD j []) s = true) ∧ ∀ j, i ≤ j → j < l.length → Op.bytesLess (l.getD j []) s = false
theorem not_below {a b s : List UInt8} (h : Op.bytesLess a s = false) (hab : Op.bytesLess a b = true) : Op.bytesLess b s = false := by
  cases hb : Op.bytesLess b s with
  | false => rfl
  | true => exact absurd (less_trans a b s hab hb) (by rw [h]; simp)
theorem begins_low : ∀ (s x : List UInt8), s <+: x → Op.bytesLess x s = false
  | [], x, _ => by cases x <;> rfl
  | a :: s, x, h => by
    obtain ⟨t, rfl⟩ := h
    have := begins_low s (s ++ t) (List.prefix_append _ _)
    simp [Op.bytesLess, this, UInt8.lt_irrefl]
theorem getD_mem {l : List (List UInt8)} {i : Nat} (h : i < l.length) : l.getD i [] ∈ l := by
  rw [List.getD_eq_getElem?_getD, List.getElem?_eq_getElem h]
  exact List.getElem_mem _
theorem find_low {l : List (List UInt8)} {s : List UInt8} {i : Nat} (h : Rising l) (hi : IsLow l s i) : findE l s = if i < l.length ∧ l.getD i [] = s then (i, true) else (0, false) := by
  unfold findE
  rcases findF_facts s l 0 with ⟨h1, h2⟩ | ⟨k, h1, h2, h3, -⟩
  · rw [h1, if_neg]
    rintro ⟨h3, h4⟩
    exact h2 (h4 ▸ getD_mem h3)
  · have hk : k = i := by
      rcases Nat.lt_trichotomy k i with hlt | he | hgt
      · have := hi.2.1 k hlt
        rw [h3, less_self] at this
        cases this
      · exact he
      · have := hi.2.2 i (Nat.le_refl _) (by omega)
        have h4 := rise_lt h hgt h2
        rw [h3, this] at h4
        cases h4
    subst hk
    rw [h1, if_pos ⟨h2, h3⟩, Nat.zero_add]
/-- Of those that aren't below s, the ones that begin with s stand first. -/
theorem begins_mono {l : List (List UInt8)} {s : List UInt8} {i a b : Nat} (h : Rising l) (hi : IsLow l s i) (hab : a ≤ b) (hb : i + b < l.length) (hs : beginsB (l.getD (i + b) []) s = true) : beginsB (l.getD (i + a) []) s = true := by
  rcases Nat.lt_or_ge a b with hlt | hge
  · have h1 := hi.2.2 (i + a) (by omega) (by omega)
    by_cases he : l.getD (i + a) [] = s
    · rw [he]
      exact begins_iff.2 (List.prefix_refl _)
    · exact begins_iff.2 (between s s _ _ (List.prefix_refl _) (begins_iff.1 hs) (less_total _ _ h1 he) (rise_lt h (by omega) hb))
  · rw [show a = b by omega]; exact hs
theorem range_low {l : List (List UInt8)} {s : List UInt8} {i n : Nat} (hi : IsLow l s i) (hn : i + n ≤ l.length) (h1 : ∀ j, j < n → beginsB (l.getD (i + j) []) s = true) (h2 : ∀ j, n ≤ j → i + j < l.length → beginsB (l.getD (i + j) []) s = false) : rangeE l s = if n = 0 then (0, 0) else (i, i + n) := by
  have hlow : ∀ k, k < l.length → beginsB (l.getD k []) s = true → i ≤ k := by
    intro k hk hb
    rcases Nat.lt_or_ge k i with hlt | hge
    · have h3 := hi.2.1 k hlt
      rw [begins_low s _ (begins_iff.1 hb)] at h3
      cases h3
    · exact hge
  unfold rangeE
  rcases rangeF_facts s l 0 with ⟨h3, h4, h5⟩ | ⟨f, t, h3, h4, h5, h6, h7, h8, h9⟩
  · have : n = 0 := by
      rcases Nat.eq_zero_or_pos n with h | h
      · exact h
      · have := h1 0 h
        rw [Nat.add_zero, h5 i (by omega)] at this
        cases this
    rw [if_pos this]
    exact Prod.ext h4 h3
  · have hf := hlow f (by omega) h6
    have ht := hlow t h5 h7
    have htn : t < i + n := by
      rcases Nat.lt_or_ge t (i + n) with h | h
      · exact h
      · have := h2 (t - i) (by omega) (by omega)
        rw [show i + (t - i) = t by omega, h7] at this
        cases this
    have h10 := h1 0 (by omega)
    have h11 := h1 (n - 1) (by omega)
    rw [Nat.add_zero] at h10
    have hfi : f = i := by
      rcases Nat.lt_or_ge i f with h | h
      · rw [h8 i h] at h10; cases h10
      · omega
    have hti : t = i + (n - 1) := by
      rcases Nat.lt_or_ge t (i + (n - 1)) with h | h
      · rw [h9 _ h (by omega)] at h11; cases h11
      · omega
    rw [h3, if_neg (by omega), hfi, hti]
    congr 1 <;> omega

/-- f: the first texts of the buckets. -/
def FirstsOf (size : Nat) (l f : List (List UInt8)) : Prop := f.length = bucketsN size l.length ∧ ∀ k, k < f.length → f.getD k [] = l.getD (k * size) []
theorem buckets_in {size n k : Nat} (hs : 1 ≤ size) (h : k < bucketsN size n) : k * size < n := by
  unfold bucketsN at h
  have h1 : (k + 1) * size ≤ n + size - 1 := Nat.le_trans (Nat.mul_le_mul_right _ h) (Nat.div_mul_le_self _ _)
  rw [Nat.add_mul, Nat.one_mul] at h1
  omega
theorem buckets_over {size n k : Nat} (hs : 1 ≤ size) (h : k * size < n) : k < bucketsN size n := by
  unfold bucketsN
  have : (k + 1) ≤ (n + size - 1) / size := by
    rw [Nat.le_div_iff_mul_le (by omega), Nat.add_mul, Nat.one_mul]
    omega
  omega
theorem seek_none {size : Nat} {l f : List (List UInt8)} {s : List UInt8} (hs : 1 ≤ size) (h : Rising l) (hf : FirstsOf size l f) (hl : 0 < l.length) (hb : IsLow f s 0) : IsLow l s 0 := by
  refine ⟨Nat.zero_le _, fun j hj => by omega, fun j _ hj => ?_⟩
  have hf0 : 0 < f.length := by rw [hf.1]; exact buckets_over hs (by omega)
  have h0 := hb.2.2 0 (Nat.le_refl _) hf0
  rw [hf.2 0 hf0, Nat.zero_mul] at h0
  rcases Nat.eq_zero_or_pos j with rfl | hj0
  · exact h0
  · exact not_below h0 (rise_lt h hj0 hj)
theorem seek_some {size b k : Nat} {l f : List (List UInt8)} {s : List UInt8} (hs : 1 ≤ size) (h : Rising l) (hf : FirstsOf size l f) (hb : IsLow f s b) (h0 : 0 < b)
    (hk : IsLow ((l.drop ((b - 1) * size)).take (min ((b - 1) * size + size) l.length - (b - 1) * size)) s k) : IsLow l s ((b - 1) * size + k) := by
  have hbl := hb.1
  rw [hf.1] at hbl
  have hin := buckets_in hs (show b - 1 < bucketsN size l.length by omega)
  have hfst := hb.2.1 (b - 1) (by omega)
  rw [hf.2 (b - 1) (by rw [hf.1]; omega)] at hfst
  have hfar : ∀ j, (b - 1) * size + size ≤ j → j < l.length → Op.bytesLess (l.getD j []) s = false := by
    intro j hj hjl
    have hbs : b * size = (b - 1) * size + size := by
      obtain ⟨c, rfl⟩ : ∃ c, b = c + 1 := ⟨b - 1, by omega⟩
      rw [Nat.add_sub_cancel, Nat.add_mul, Nat.one_mul]
    have hbn : b < f.length := by rw [hf.1]; exact buckets_over hs (by omega)
    have h1 := hb.2.2 b (Nat.le_refl _) hbn
    rw [hf.2 b hbn, hbs] at h1
    rcases Nat.lt_or_ge ((b - 1) * size + size) j with hlt | hge
    · exact not_below h1 (rise_lt h hlt hjl)
    · rw [show j = (b - 1) * size + size by omega]; exact h1
  generalize (b - 1) * size = from_ at *
  obtain ⟨hk1, hk2, hk3⟩ := hk
  have hlen : ((l.drop from_).take (min (from_ + size) l.length - from_)).length = min (from_ + size) l.length - from_ := by rw [List.length_take, List.length_drop]; omega
  have hget : ∀ j, j < min (from_ + size) l.length - from_ → ((l.drop from_).take (min (from_ + size) l.length - from_)).getD j [] = l.getD (from_ + j) [] := by
    intro j hj
    simp [List.getD_eq_getElem?_getD, hj]
  rw [hlen] at hk1 hk3
  refine ⟨by omega, fun j hj => ?_, fun j hj hjl => ?_⟩
  · rcases Nat.lt_or_ge j from_ with hlt | hge
    · exact less_trans _ _ _ (rise_lt h hlt hin) hfst
    · have := hk2 (j - from_) (by omega)
      rw [hget _ (by omega), show from_ + (j - from_) = j by omega] at this
      exact this
  · rcases Nat.lt_or_ge j (from_ + size) with hlt | hge
    · have := hk3 (j - from_) (by omega) (by omega)
      rw [hget _ (by omega), show from_ + (j - from_) = j by omega] at this
      exact this
    · exact hfar j hge hjl

/-! ### Reading numbers of a part of the bytes -/
theorem scanF_part {b : List UInt8} {at_ q K : Nat} (hK : q + 10 ≤ K) : ∀ f i x, i + f = 10 → scanF ((b.drop at_).take K) q f i x = ((scanF b (at_ + q) f i x).1, (scanF b (at_ + q) f i x).2.1 - at_, (scanF b (at_ + q) f i x).2.2) ∧ (scanF b (at_ + q) f i x).2.1 ≤ at_ + q + 10
  | 0, _, _, _ => ⟨by simp [scanF], by simp [scanF]⟩
  | f + 1, i, x, hf => by
    have hg : ((b.drop at_).take K).getD (q + i) 0 = b.getD (at_ + q + i) 0 := by
      rw [List.getD_eq_getElem?_getD, List.getElem?_take_of_lt (by omega), List.getElem?_drop, ← Nat.add_assoc, ← List.getD_eq_getElem?_getD]
    obtain ⟨ih1, ih2⟩ := scanF_part hK f (i + 1) (x + (b.getD (at_ + q + i) 0).toNat % 128 * 128 ^ i) (by omega)
    have hl : ((b.drop at_).take K).length ≤ q + i ↔ b.length ≤ at_ + q + i := by rw [List.length_take, List.length_drop]; omega
    rw [scanF, scanF, hg]
    by_cases h1 : b.length ≤ at_ + q + i
    · rw [if_pos (hl.2 h1), if_pos h1]
      exact ⟨by simp, by simp⟩
    rw [if_neg (fun h => h1 (hl.1 h)), if_neg h1]
    by_cases h2 : (i = 9 ∧ (b.getD (at_ + q + i) 0).toNat ≠ 1) ∨ (0 < i ∧ (b.getD (at_ + q + i) 0).toNat = 0)
    · rw [if_pos h2, if_pos h2]
      exact ⟨by simp, by simp⟩
    rw [if_neg h2, if_neg h2]
    by_cases h3 : (b.getD (at_ + q + i) 0).toNat < 128
    · rw [if_pos h3, if_pos h3]
      refine ⟨?_, by simp; omega⟩
      simp
      omega
    · rw [if_neg h3, if_neg h3]
      exact ⟨ih1, ih2⟩
theorem int_part {b : List UInt8} {at_ q K : Nat} (hK : q + 10 ≤ K) (most : Int) : intR ((b.drop at_).take K) q 0 most = ((intR b (at_ + q) 0 most).1, (intR b (at_ + q) 0 most).2.1 - at_, (intR b (at_ + q) 0 most).2.2) ∧ (intR b (at_ + q) 0 most).2.1 ≤ at_ + q + 10 := by
  obtain ⟨h1, h2⟩ := scanF_part (b := b) (at_ := at_) hK 10 0 0 rfl
  unfold intR numR scan
  rw [if_pos rfl, if_pos rfl, h1]
  generalize scanF b (at_ + q) 10 0 0 = r at *
  obtain ⟨x, p, e⟩ := r
  dsimp only at *
  by_cases he : e = 0
  · rw [if_pos he, if_pos he]
    by_cases hm : most < (x : Int)
    · rw [if_pos hm, if_pos hm]
      exact ⟨by simp, by simp⟩
    · rw [if_neg hm, if_neg hm]
      exact ⟨rfl, h2⟩
  · rw [if_neg he, if_neg he]
    exact ⟨rfl, h2⟩
/-- m numbers, each at most so much, from the place q on. -/
def numsR (b : List UInt8) (most : Int) : Nat → Nat → List Nat × Nat × Int
  | 0, q => ([], q, 0)
  | m + 1, q => if (intR b q 0 most).2.2 ≠ 0 then ([], 0, (intR b q 0 most).2.2) else
      if (numsR b most m (intR b q 0 most).2.1).2.2 ≠ 0 then ([], 0, (numsR b most m (intR b q 0 most).2.1).2.2) else ((intR b q 0 most).1 :: (numsR b most m (intR b q 0 most).2.1).1, (numsR b most m (intR b q 0 most).2.1).2.1, 0)
theorem sizes_nums (b : List UInt8) : ∀ m q, sizesR b m q = numsR b 2000 m q
  | 0, _ => rfl
  | m + 1, q => by rw [sizesR, numsR, sizes_nums b m]
/-- What is read, with other things ahead; an error alone. -/
def behind {α : Type} (vs : List α) (r : List α × Nat × Int) : List α × Nat × Int := if r.2.2 ≠ 0 then ([], 0, r.2.2) else (vs ++ r.1, r.2.1, 0)
theorem behind_nil {α : Type} {r : List α × Nat × Int} (h : r.2.2 ≠ 0 → r.1 = [] ∧ r.2.1 = 0) : behind [] r = r := by
  obtain ⟨a, q, e⟩ := r
  unfold behind
  dsimp only at *
  by_cases he : e = 0
  · subst he; simp
  · rw [if_pos he]
    obtain ⟨rfl, rfl⟩ := h he
    rfl
theorem behind_behind {α : Type} (vs us : List α) (r : List α × Nat × Int) : behind vs (behind us r) = behind (vs ++ us) r := by
  obtain ⟨a, q, e⟩ := r
  unfold behind
  dsimp only
  by_cases he : e = 0
  · subst he; simp
  · simp [he]
theorem nums_err (b : List UInt8) (most : Int) : ∀ m q, (numsR b most m q).2.2 ≠ 0 → (numsR b most m q).1 = [] ∧ (numsR b most m q).2.1 = 0
  | 0, _, h => by simp [numsR] at h
  | m + 1, q, h => by
    rw [numsR] at h ⊢
    split
    · exact ⟨rfl, rfl⟩
    · rename_i h1
      rw [if_neg h1] at h
      split
      · exact ⟨rfl, rfl⟩
      · rename_i h2
        rw [if_neg h2] at h
        exact absurd rfl h
theorem nums_bad {b : List UInt8} {most : Int} {m q : Nat} (h : (intR b q 0 most).2.2 ≠ 0) : numsR b most (m + 1) q = ([], 0, (intR b q 0 most).2.2) := by rw [numsR, if_pos h]
theorem nums_good {b : List UInt8} {most : Int} {m q : Nat} (h : (intR b q 0 most).2.2 = 0) : numsR b most (m + 1) q = behind [(intR b q 0 most).1] (numsR b most m (intR b q 0 most).2.1) := by
  rw [numsR, if_neg (by simp [h])]
  rfl
theorem nums_part {b : List UInt8} {at_ K : Nat} {most : Int} : ∀ (m q : Nat), q + 10 * m ≤ K → numsR ((b.drop at_).take K) most m q = ((numsR b most m (at_ + q)).1, (numsR b most m (at_ + q)).2.1 - at_, (numsR b most m (at_ + q)).2.2)
  | 0, q, _ => by simp [numsR]
  | m + 1, q, hK => by
    obtain ⟨h1, h2⟩ := int_part (b := b) (at_ := at_) (q := q) (K := K) (by omega) most
    by_cases he : (intR b (at_ + q) 0 most).2.2 = 0
    · obtain ⟨x, q', hi⟩ : ∃ x q', intR b (at_ + q) 0 most = (x, q', 0) := ⟨_, _, Prod.ext rfl (Prod.ext rfl he)⟩
      have hq := (int_is hi).2.1
      rw [hi] at h1 h2
      dsimp only at h1 h2
      rw [nums_good (by rw [h1]), nums_good he, h1, hi]
      dsimp only
      have ih := nums_part (b := b) (at_ := at_) (K := K) (most := most) m (q' - at_) (by omega)
      rw [show at_ + (q' - at_) = q' by omega] at ih
      rw [ih]
      unfold behind
      dsimp only
      by_cases h3 : (numsR b most m q').2.2 = 0
      · rw [if_neg (by simp [h3]), if_neg (by simp [h3])]
      · rw [if_pos h3, if_pos h3]
        simp
    · rw [nums_bad (by rw [h1]; exact he), nums_bad he, h1]
      simp
/-- Each number has a byte at least. -/
theorem nums_long {b : List UInt8} {most : Int} : ∀ (m q : Nat), (numsR b most m q).2.2 = 0 → q ≤ b.length → q + m ≤ (numsR b most m q).2.1 ∧ (numsR b most m q).2.1 ≤ b.length ∧ (numsR b most m q).1.length = m ∧ ∀ z, z ∈ (numsR b most m q).1 → (z : Int) ≤ most
  | 0, q, _, hq => by simp [numsR, hq]
  | m + 1, q, h, hq => by
    by_cases he : (intR b q 0 most).2.2 = 0
    · obtain ⟨x, q', hi⟩ : ∃ x q', intR b q 0 most = (x, q', 0) := ⟨_, _, Prod.ext rfl (Prod.ext rfl he)⟩
      obtain ⟨h1, h2, h3, h4⟩ := int_is hi
      have h5 := enc_pos x
      have h6 : q < q' := by
        rw [h4] at h5
        unfold seg at h5
        simp at h5
        omega
      rw [nums_good he, hi] at h ⊢
      dsimp only at h ⊢
      unfold behind at h ⊢
      by_cases hn : (numsR b most m q').2.2 = 0
      · rw [if_neg (by simp [hn])] at h ⊢
        obtain ⟨i1, i2, i3, i4⟩ := nums_long m q' hn h3
        refine ⟨by dsimp only; omega, i2, by simp [i3], fun z hz => ?_⟩
        rcases List.mem_cons.1 (by simpa using hz) with rfl | hz
        · exact h1
        · exact i4 z hz
      · rw [if_pos hn] at h
        exact absurd h hn
    · rw [nums_bad he] at h
      exact absurd h he
end Dic
end Go.Proofs.YtcphapdjimeoaaaGreat

