/- Sets as rising lists: all, any, less, the rest, the next. Plain mathematics of chapter 14. -/
import Derived.Test.YtcphapdjimeoaaaGreatRows
namespace Go.Proofs.YtcphapdjimeoaaaGreat.Sets

/-- Is the list a set? -/
def ok (l : List Int) : Bool := decide (l.Pairwise (· < ·) ∧ ∀ y, y ∈ l → 0 ≤ y)
def has (l : List Int) (x : Int) : Bool := decide (x ∈ l)
def all (ls : List (List Int)) : Bool := ls.all ok
/-- What all have. -/
def bothL (ls : List (List Int)) : List Int := (ls.getD 0 []).filter fun x => (ls.drop 1).all fun l => has l x
def bothE (ls : List (List Int)) : List Int × Int := if ls.length = 0 ∨ all ls = false then ([], 13) else (bothL ls, 0)
/-- A number is put into a set; done: it is there already. -/
def putR : List Int → Int → Bool → List Int
  | [], x, d => if d then [] else [x]
  | y :: ys, x, d => (if d = false ∧ x < y then [x] else []) ++ y :: putR ys x (d || decide (x ≤ y))
/-- As the document goes along: what stands behind is put by what was done ahead. -/
def put (l : List Int) (x : Int) : List Int := putR l x false
def anyL (ls : List (List Int)) : List Int := ls.foldl (fun out l => l.foldl put out) []
def anyE (ls : List (List Int)) : List Int × Int := if all ls = false then ([], 13) else (anyL ls, 0)
def lessL (a : List Int) (bs : List (List Int)) : List Int := a.filter fun x => !(bs.any fun l => has l x)
def lessE (a : List Int) (bs : List (List Int)) : List Int × Int := if ok a = false ∨ all bs = false then ([], 13) else (lessL a bs, 0)
def restL (bound : Nat) (l : List Int) : List Int := ((List.range bound).map fun i : Nat => (i : Int)).filter fun x => !(has l x)
def restE (bound : Int) (l : List Int) : List Int × Int := if (0 ≤ bound ∧ bound ≤ 20000) ∧ ok l = true ∧ (l.all fun y => decide (y < bound)) = true then (restL bound.toNat l, 0) else ([], 13)
def nextE (l : List Int) (x : Int) : Int × Bool :=
  if ok l = false then (0, false) else match (List.range l.length).find? fun i => decide (x ≤ l.getD i 0) with
    | some i => ((i : Int), true)
    | none => (0, false)

theorem ok_iff {l : List Int} : ok l = true ↔ l.Pairwise (· < ·) ∧ ∀ y, y ∈ l → 0 ≤ y := by unfold ok; rw [decide_eq_true_iff]
theorem has_iff {l : List Int} {x : Int} : has l x = true ↔ x ∈ l := by unfold has; rw [decide_eq_true_iff]
theorem getD_mem {l : List Int} {i : Nat} (h : i < l.length) : l.getD i 0 ∈ l := by
  rw [List.getD_eq_getElem?_getD, List.getElem?_eq_getElem h]
  exact List.getElem_mem h
theorem mem_getD {l : List Int} {x : Int} (h : x ∈ l) : ∃ i, i < l.length ∧ l.getD i 0 = x := by
  obtain ⟨i, hi, e⟩ := List.getElem_of_mem h
  exact ⟨i, hi, by rw [List.getD_eq_getElem?_getD, List.getElem?_eq_getElem hi]; exact e⟩
theorem getD_app (a b : List Int) (i : Nat) : (a ++ b).getD i 0 = if i < a.length then a.getD i 0 else b.getD (i - a.length) 0 := by
  rw [List.getD_eq_getElem?_getD, List.getElem?_append]
  split <;> rw [← List.getD_eq_getElem?_getD]
/-- By places: each is above the one ahead. -/
theorem ok_of {l : List Int} (h : ∀ i, i < l.length → 0 ≤ l.getD i 0 ∧ (0 < i → l.getD (i - 1) 0 < l.getD i 0)) : ok l = true := by
  rw [ok_iff]
  constructor
  · rw [List.pairwise_iff_getElem]
    intro i j hi hj hij
    have key : ∀ d, i + d + 1 < l.length → l.getD i 0 < l.getD (i + d + 1) 0 := by
      intro d
      induction d with
      | zero => intro hd; have := (h (i + 0 + 1) hd).2 (by omega); simpa using this
      | succ d ih =>
        intro hd
        have h1 := ih (by omega)
        have h2 := (h (i + (d + 1) + 1) hd).2 (by omega)
        rw [show i + (d + 1) + 1 - 1 = i + d + 1 by omega] at h2
        omega
    have := key (j - i - 1) (by omega)
    rw [show i + (j - i - 1) + 1 = j by omega] at this
    rw [List.getD_eq_getElem?_getD, List.getD_eq_getElem?_getD, List.getElem?_eq_getElem hi, List.getElem?_eq_getElem hj] at this
    exact this
  · intro y hy
    obtain ⟨i, hi, e⟩ := mem_getD hy
    rw [← e]
    exact (h i hi).1
theorem ok_lt {l : List Int} (h : ok l = true) {i j : Nat} (hij : i < j) (hj : j < l.length) : l.getD i 0 < l.getD j 0 := by
  have h1 := (ok_iff.1 h).1
  rw [List.pairwise_iff_getElem] at h1
  have := h1 i j (by omega) hj hij
  rw [List.getD_eq_getElem?_getD, List.getD_eq_getElem?_getD, List.getElem?_eq_getElem (by omega), List.getElem?_eq_getElem hj]
  exact this
theorem ok_le {l : List Int} (h : ok l = true) {i j : Nat} (hij : i ≤ j) (hj : j < l.length) : l.getD i 0 ≤ l.getD j 0 := by
  rcases Nat.lt_or_ge i j with h1 | h1
  · exact Int.le_of_lt (ok_lt h h1 hj)
  · obtain rfl : i = j := by omega
    exact Int.le_refl _
theorem ok_no {l : List Int} {i : Nat} (hi : i < l.length) (h : l.getD i 0 < 0 ∨ (0 < i ∧ l.getD i 0 ≤ l.getD (i - 1) 0)) : ok l = false := by
  cases hk : ok l with
  | false => rfl
  | true =>
    rcases h with h | ⟨h0, h⟩
    · have := (ok_iff.1 hk).2 _ (getD_mem hi)
      omega
    · have := ok_lt hk (i := i - 1) (j := i) (by omega) hi
      omega
theorem ext : ∀ {a b : List Int}, a.Pairwise (· < ·) → b.Pairwise (· < ·) → (∀ z, z ∈ a ↔ z ∈ b) → a = b
  | [], [], _, _, _ => rfl
  | [], y :: b, _, _, h => by have := (h y).2 (by simp); simp at this
  | x :: a, [], _, _, h => by have := (h x).1 (by simp); simp at this
  | x :: a, y :: b, ha, hb, h => by
    rw [List.pairwise_cons] at ha hb
    have e : x = y := by
      have h1 := (h x).1 (by simp)
      have h2 := (h y).2 (by simp)
      rw [List.mem_cons] at h1 h2
      rcases h1 with h1 | h1
      · exact h1
      · rcases h2 with h2 | h2
        · exact h2.symm
        · have := hb.1 x h1
          have := ha.1 y h2
          omega
    subst e
    rw [ext ha.2 hb.2 fun z => ?_]
    constructor
    · intro hz
      have := (h z).1 (List.mem_cons_of_mem _ hz)
      rw [List.mem_cons] at this
      rcases this with e | e
      · have := ha.1 z hz; omega
      · exact e
    · intro hz
      have := (h z).2 (List.mem_cons_of_mem _ hz)
      rw [List.mem_cons] at this
      rcases this with e | e
      · have := hb.1 z hz; omega
      · exact e
theorem ok_ext {a b : List Int} (ha : ok a = true) (hb : ok b = true) (h : ∀ z, z ∈ a ↔ z ∈ b) : a = b := ext (ok_iff.1 ha).1 (ok_iff.1 hb).1 h
theorem ok_nil : ok [] = true := by decide
theorem ok_filter {l : List Int} (p : Int → Bool) (h : ok l = true) : ok (l.filter p) = true := by
  rw [ok_iff] at h ⊢
  exact ⟨h.1.filter p, fun y hy => h.2 y (List.mem_filter.1 hy).1⟩

/-! ### put -/
theorem putR_done : ∀ (l : List Int) (x : Int), putR l x true = l
  | [], _ => rfl
  | y :: ys, x => by rw [putR, if_neg (by simp), Bool.true_or, putR_done ys x]; rfl
theorem mem_putR (z x : Int) : ∀ (l : List Int) (d : Bool), z ∈ putR l x d ↔ z ∈ l ∨ (d = false ∧ z = x)
  | [], d => by cases d <;> simp [putR]
  | y :: ys, d => by
    rw [putR, List.mem_append, List.mem_cons, List.mem_cons, mem_putR z x ys]
    cases d with
    | true => simp
    | false =>
      by_cases h1 : x < y
      · have h2 : x ≤ y := by omega
        simp [h1, h2]
        constructor
        · rintro (h | h | h)
          · exact .inr h
          · exact .inl (.inl h)
          · exact .inl (.inr h)
        · rintro ((h | h) | h)
          · exact .inr (.inl h)
          · exact .inr (.inr h)
          · exact .inl h
      · by_cases h2 : x ≤ y
        · obtain rfl : x = y := by omega
          simp
          intro h
          exact .inl h
        · simp [h1, h2]
          constructor
          · rintro (h | h | h)
            · exact .inl (.inl h)
            · exact .inl (.inr h)
            · exact .inr h
          · rintro ((h | h) | h)
            · exact .inl h
            · exact .inr (.inl h)
            · exact .inr (.inr h)
theorem mem_put {l : List Int} {x z : Int} : z ∈ put l x ↔ z ∈ l ∨ z = x := by unfold put; rw [mem_putR]; simp
theorem put_pair (x : Int) : ∀ {l : List Int}, l.Pairwise (· < ·) → (putR l x false).Pairwise (· < ·)
  | [], _ => by simp [putR]
  | y :: ys, h => by
    rw [List.pairwise_cons] at h
    rw [putR]
    by_cases h1 : x < y
    · rw [if_pos ⟨rfl, h1⟩, decide_eq_true (show x ≤ y by omega), Bool.or_true, putR_done]
      simp only [List.cons_append, List.nil_append]
      rw [List.pairwise_cons, List.pairwise_cons]
      refine ⟨fun z hz => ?_, h⟩
      rw [List.mem_cons] at hz
      rcases hz with rfl | hz
      · exact h1
      · have := h.1 z hz; omega
    · rw [if_neg (fun e => h1 e.2), List.nil_append, List.pairwise_cons]
      by_cases h2 : x ≤ y
      · rw [decide_eq_true h2, Bool.or_true, putR_done]
        exact h
      · rw [decide_eq_false h2, Bool.or_false]
        refine ⟨fun z hz => ?_, put_pair x h.2⟩
        rw [mem_putR] at hz
        rcases hz with hz | ⟨_, rfl⟩
        · exact h.1 z hz
        · omega
theorem ok_put {l : List Int} {x : Int} (h : ok l = true) (hx : 0 ≤ x) : ok (put l x) = true := by
  rw [ok_iff] at h ⊢
  refine ⟨put_pair x h.1, fun y hy => ?_⟩
  rw [mem_put] at hy
  rcases hy with hy | rfl
  · exact h.2 y hy
  · exact hx
theorem put_len (x : Int) : ∀ (l : List Int), (putR l x false).length ≤ l.length + 1
  | [] => by simp [putR]
  | y :: ys => by
    rw [putR]
    by_cases h1 : x < y
    · rw [if_pos ⟨rfl, h1⟩, decide_eq_true (show x ≤ y by omega), Bool.or_true, putR_done]; simp
    · rw [if_neg (fun e => h1 e.2), List.nil_append]
      by_cases h2 : x ≤ y
      · rw [decide_eq_true h2, Bool.or_true, putR_done]; simp
      · rw [decide_eq_false h2, Bool.or_false]
        have := put_len x ys
        simp only [List.length_cons]
        omega
theorem puts_facts : ∀ {l out : List Int}, ok out = true → (∀ y, y ∈ l → 0 ≤ y) → ok (l.foldl put out) = true ∧ (∀ z, z ∈ l.foldl put out ↔ z ∈ out ∨ z ∈ l) ∧ (l.foldl put out).length ≤ out.length + l.length
  | [], out, h, _ => ⟨h, fun z => by simp, by simp⟩
  | x :: l, out, h, h0 => by
    have h1 := ok_put h (h0 x (by simp))
    obtain ⟨i1, i2, i3⟩ := puts_facts (l := l) h1 (fun y hy => h0 y (by simp [hy]))
    rw [List.foldl_cons]
    refine ⟨i1, fun z => ?_, ?_⟩
    · rw [i2, mem_put, List.mem_cons, or_assoc]
    · have := put_len x out
      unfold put at i3 this ⊢
      simp only [List.length_cons]
      omega
theorem any_facts : ∀ {ls : List (List Int)} {out : List Int}, ok out = true → all ls = true → ok (ls.foldl (fun out l => l.foldl put out) out) = true ∧ ∀ z, z ∈ ls.foldl (fun out l => l.foldl put out) out ↔ z ∈ out ∨ ∃ l, l ∈ ls ∧ z ∈ l
  | [], out, h, _ => ⟨h, fun z => by simp⟩
  | l :: ls, out, h, ha => by
    unfold all at ha
    rw [List.all_cons, Bool.and_eq_true] at ha
    obtain ⟨i1, i2, _⟩ := puts_facts (l := l) h (ok_iff.1 ha.1).2
    obtain ⟨j1, j2⟩ := any_facts (ls := ls) i1 ha.2
    rw [List.foldl_cons]
    refine ⟨j1, fun z => ?_⟩
    rw [j2, i2]
    simp only [List.mem_cons, exists_eq_or_imp, or_assoc]
theorem mem_any {ls : List (List Int)} (h : all ls = true) {z : Int} : z ∈ anyL ls ↔ ∃ l, l ∈ ls ∧ z ∈ l := by
  unfold anyL
  rw [(any_facts ok_nil h).2]
  simp
theorem ok_any {ls : List (List Int)} (h : all ls = true) : ok (anyL ls) = true := (any_facts ok_nil h).1
theorem mem_both2 {a b : List Int} {z : Int} : z ∈ bothL [a, b] ↔ z ∈ a ∧ z ∈ b := by simp [bothL, has, List.mem_filter]
theorem mem_less1 {a b : List Int} {z : Int} : z ∈ lessL a [b] ↔ z ∈ a ∧ ¬ z ∈ b := by simp [lessL, has, List.mem_filter]
theorem mem_rest {bound : Nat} {l : List Int} {z : Int} : z ∈ restL bound l ↔ (0 ≤ z ∧ z < (bound : Int)) ∧ ¬ z ∈ l := by
  unfold restL
  rw [List.mem_filter, List.mem_map]
  simp only [has, List.mem_range, Bool.not_eq_true', decide_eq_false_iff_not]
  constructor
  · rintro ⟨⟨i, hi, rfl⟩, h⟩
    exact ⟨⟨by omega, by omega⟩, h⟩
  · rintro ⟨⟨h1, h2⟩, h⟩
    exact ⟨⟨z.toNat, by omega, by omega⟩, h⟩
theorem ok_rest (bound : Nat) (l : List Int) : ok (restL bound l) = true := by
  refine ok_filter _ (ok_iff.2 ⟨?_, fun y hy => ?_⟩)
  · rw [List.pairwise_map]
    exact (List.pairwise_lt_range).imp fun h => by omega
  · obtain ⟨i, _, rfl⟩ := List.mem_map.1 hy
    omega
theorem all2 {a b : List Int} (ha : ok a = true) (hb : ok b = true) : all [a, b] = true := by simp [all, ha, hb]
theorem all1 {a : List Int} (ha : ok a = true) : all [a] = true := by simp [all, ha]
theorem mem_any2 {a b : List Int} (ha : ok a = true) (hb : ok b = true) {z : Int} : z ∈ anyL [a, b] ↔ z ∈ a ∨ z ∈ b := by rw [mem_any (all2 ha hb)]; simp
theorem ok_both2 {a b : List Int} (ha : ok a = true) : ok (bothL [a, b]) = true := ok_filter _ ha
theorem ok_less {a : List Int} (bs : List (List Int)) (ha : ok a = true) : ok (lessL a bs) = true := ok_filter _ ha

/-! ### What follows -/
theorem both_turns {a b : List Int} (ha : ok a = true) (hb : ok b = true) : bothL [a, b] = bothL [b, a] := ok_ext (ok_both2 ha) (ok_both2 hb) fun z => by rw [mem_both2, mem_both2, and_comm]
theorem any_turns {a b : List Int} (ha : ok a = true) (hb : ok b = true) : anyL [a, b] = anyL [b, a] := ok_ext (ok_any (all2 ha hb)) (ok_any (all2 hb ha)) fun z => by rw [mem_any2 ha hb, mem_any2 hb ha, or_comm]
theorem rest_rest {bound : Nat} {l : List Int} (h : ok l = true) (hb : ∀ y, y ∈ l → y < (bound : Int)) : restL bound (restL bound l) = l := ok_ext (ok_rest _ _) h fun z => by
  rw [mem_rest, mem_rest]
  constructor
  · rintro ⟨h1, h2⟩
    exact Classical.byContradiction fun h3 => h2 ⟨h1, h3⟩
  · intro hz
    exact ⟨⟨(ok_iff.1 h).2 z hz, hb z hz⟩, fun h2 => h2.2 hz⟩
theorem rest_both {bound : Nat} {a b : List Int} : restL bound (bothL [a, b]) = anyL [restL bound a, restL bound b] :=
  ok_ext (ok_rest _ _) (ok_any (all2 (ok_rest _ _) (ok_rest _ _))) fun z => by
    rw [mem_rest, mem_both2, mem_any2 (ok_rest _ _) (ok_rest _ _), mem_rest, mem_rest]
    constructor
    · rintro ⟨h1, h2⟩
      by_cases ha : z ∈ a
      · exact .inr ⟨h1, fun hb => h2 ⟨ha, hb⟩⟩
      · exact .inl ⟨h1, ha⟩
    · rintro (⟨h1, h2⟩ | ⟨h1, h2⟩)
      · exact ⟨h1, fun h => h2 h.1⟩
      · exact ⟨h1, fun h => h2 h.2⟩
theorem both_rest {bound : Nat} {a b : List Int} (ha : ok a = true) (hb : ∀ y, y ∈ a → y < (bound : Int)) : bothL [a, restL bound b] = lessL a [b] :=
  ok_ext (ok_both2 ha) (ok_less _ ha) fun z => by
    rw [mem_both2, mem_rest, mem_less1]
    constructor
    · rintro ⟨h1, _, h2⟩
      exact ⟨h1, h2⟩
    · rintro ⟨h1, h2⟩
      exact ⟨h1, ⟨(ok_iff.1 ha).2 z h1, hb z h1⟩, h2⟩
theorem puts_len : ∀ {l out : List Int}, ok out = true → ok l = true → (l.foldl put out).length = out.length + (l.filter fun x => !(has out x)).length
  | [], out, _, _ => by simp
  | x :: l, out, h, hl => by
    have hl0 := ok_iff.1 hl
    rw [List.pairwise_cons] at hl0
    have hx := hl0.2 x (by simp)
    have hl2 : ok l = true := ok_iff.2 ⟨hl0.1.2, fun y hy => hl0.2 y (by simp [hy])⟩
    have h1 := ok_put h hx
    have ih := puts_len (l := l) h1 hl2
    rw [List.foldl_cons, ih]
    have e : (l.filter fun z => !(has (put out x) z)) = l.filter fun z => !(has out z) := by
      refine List.filter_congr fun z hz => ?_
      have hne : z ≠ x := fun e => by have := hl0.1.1 z hz; omega
      have : has (put out x) z = has out z := by
        unfold has
        refine decide_eq_decide.2 ?_
        rw [mem_put]
        exact ⟨fun h => h.resolve_right hne, .inl⟩
      rw [this]
    rw [e, List.filter_cons]
    by_cases hm : x ∈ out
    · have e2 : put out x = out := ok_ext h1 h fun z => by
        rw [mem_put]
        exact ⟨fun h => h.elim id fun e => e ▸ hm, .inl⟩
      have e3 : has out x = true := has_iff.2 hm
      rw [e2, e3]
      simp
    · have e3 : has out x = false := by
        cases h9 : has out x with
        | false => rfl
        | true => exact absurd (has_iff.1 h9) hm
      have e4 : (put out x).length = out.length + 1 := by
        have := put_new x out (by intro h9; exact hm h9)
        exact this
      rw [e3, e4]
      simp
      omega
where
  put_new (x : Int) : ∀ (l : List Int), ¬ x ∈ l → (putR l x false).length = l.length + 1
    | [], _ => by simp [putR]
    | y :: ys, h => by
      rw [List.mem_cons] at h
      rw [putR]
      by_cases h1 : x < y
      · rw [if_pos ⟨rfl, h1⟩, decide_eq_true (show x ≤ y by omega), Bool.or_true, putR_done]; simp
      · have h2 : ¬ x ≤ y := fun h3 => h (.inl (by omega))
        rw [if_neg (fun e => h1 e.2), List.nil_append, decide_eq_false h2, Bool.or_false, List.length_cons, put_new x ys (fun h9 => h (.inr h9)), List.length_cons]
theorem counts {a b : List Int} (ha : ok a = true) (hb : ok b = true) : (bothL [a, b]).length + (anyL [a, b]).length = a.length + b.length := by
  have e1 : a.foldl put [] = a := by
    obtain ⟨i1, i2, _⟩ := puts_facts (l := a) ok_nil (ok_iff.1 ha).2
    exact ok_ext i1 ha fun z => by rw [i2]; simp
  have e2 : anyL [a, b] = b.foldl put a := by
    show b.foldl put (a.foldl put []) = _
    rw [e1]
  have e3 := puts_len ha hb
  have e4 : bothL [b, a] = b.filter fun x => has a x := by
    unfold bothL
    simp
  have e5 : b.length = (b.filter fun x => has a x).length + (b.filter fun x => !(has a x)).length := by
    have := List.length_eq_countP_add_countP (fun x => has a x) (l := b)
    rw [List.countP_eq_length_filter, List.countP_eq_length_filter] at this
    rw [this]
    congr 2
    refine List.filter_congr fun z _ => ?_
    cases has a z <;> simp
  rw [both_turns ha hb, e4, e2, e3]
  omega
end Go.Proofs.YtcphapdjimeoaaaGreat.Sets

