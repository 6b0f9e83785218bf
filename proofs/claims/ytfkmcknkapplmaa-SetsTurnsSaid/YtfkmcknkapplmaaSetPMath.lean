/- What the walks along rising lists leave. -/
import Derived.Test.YtfkmcknkapplmaaSetMath
namespace Go.Proofs.Ytfkmcknkapplmaa
namespace Sets

/-- k is the place of the first number that isn't below x. -/
def Cut (r : List Int) (x : Int) (k : Nat) : Prop := k ≤ r.length ∧ (∀ j, j < k → r.getD j 0 < x) ∧ (k < r.length → x ≤ r.getD k 0)
/-- f tells whether x stands at the place k. -/
def Hit (r : List Int) (x : Int) (k : Nat) (f : Bool) : Prop := (f = true → k < r.length ∧ r.getD k 0 = x) ∧ (f = false → k < r.length → r.getD k 0 ≠ x)

theorem pair_lt {l : List Int} (h : l.Pairwise (· < ·)) {i j : Nat} (hij : i < j) (hj : j < l.length) : l.getD i 0 < l.getD j 0 := by
  have := List.pairwise_iff_getElem.1 h i j (by omega) hj hij
  simpa [List.getD_eq_getElem?_getD, hj, show i < l.length by omega] using this
theorem getD_drop (r : List Int) (k i : Nat) : (r.drop k).getD i 0 = r.getD (k + i) 0 := by simp [List.getD_eq_getElem?_getD]
/-- What is left behind x, and whether x was there. -/
theorem hit_facts {r : List Int} {x : Int} {k : Nat} {f : Bool} (hr : r.Pairwise (· < ·)) (hc : Cut r x k) (hf : Hit r x k f) :
    f = has r x ∧ (r.drop (k + f.toNat)).Pairwise (· < ·) ∧ (∀ y, x < y → (y ∈ r.drop (k + f.toNat) ↔ y ∈ r)) ∧ ∀ y, y ∈ r.drop (k + f.toNat) → x < y := by
  obtain ⟨h1, h2, h3⟩ := hc
  have hlt : ∀ y, y ∈ r.drop (k + f.toNat) → x < y := by
    intro y hy
    obtain ⟨i, hi, e⟩ := mem_getD hy
    rw [List.length_drop] at hi
    rw [getD_drop] at e
    have hk := h3 (by omega)
    cases f with
    | true =>
      have he := (hf.1 rfl).2
      simp only [Bool.toNat_true] at hi e
      have := pair_lt hr (i := k) (j := k + 1 + i) (by omega) (by omega)
      omega
    | false =>
      simp only [Bool.toNat_false, Nat.add_zero] at hi e
      have he := hf.2 rfl (by omega)
      rcases Nat.eq_zero_or_pos i with h0 | h0
      · subst h0
        rw [Nat.add_zero] at e
        omega
      · have := pair_lt hr (i := k) (j := k + i) (by omega) (by omega)
        omega
  refine ⟨?_, hr.sublist (List.drop_sublist _ _), fun y hy => ⟨fun h => List.mem_of_mem_drop h, fun h => ?_⟩, hlt⟩
  · cases f with
    | true =>
      symm
      rw [has_iff]
      have he := hf.1 rfl
      rw [← he.2]
      exact getD_mem he.1
    | false =>
      symm
      rw [← Bool.not_eq_true, has_iff]
      intro hx
      obtain ⟨i, hi, e⟩ := mem_getD hx
      rcases Nat.lt_trichotomy i k with h | h | h
      · have := h2 i h; omega
      · subst h; exact hf.2 rfl hi e
      · have := pair_lt hr h hi
        have := h3 (by omega)
        omega
  · obtain ⟨i, hi, e⟩ := mem_getD h
    have hki : k + f.toNat ≤ i := by
      rcases Nat.lt_trichotomy i k with h | h | h
      · have := h2 i h; omega
      · cases f with
        | true => have := (hf.1 rfl).2; rw [← h] at this; omega
        | false => simp; omega
      · cases f <;> simp <;> omega
    rw [← e, show i = (k + f.toNat) + (i - (k + f.toNat)) by omega, ← getD_drop]
    exact getD_mem (by rw [List.length_drop]; omega)

/-- Of l there is left r, as far as numbers from x on are asked for. -/
def Rem (x : Int) (l r : List Int) : Prop := r.Pairwise (· < ·) ∧ ∀ y, x ≤ y → (y ∈ r ↔ y ∈ l)
theorem Rem.start {l : List Int} (h : ok l = true) (x : Int) : Rem x l l := ⟨(ok_iff.1 h).1, fun _ _ => Iff.rfl⟩
theorem Rem.mono {x y : Int} {l r : List Int} (h : Rem x l r) (hxy : x ≤ y) : Rem y l r := ⟨h.1, fun z hz => h.2 z (by omega)⟩
theorem Rem.step {x : Int} {l r : List Int} {k : Nat} {f : Bool} (h : Rem x l r) (hc : Cut r x k) (hf : Hit r x k f) : f = has l x ∧ Rem (x + 1) l (r.drop (k + f.toNat)) := by
  obtain ⟨h1, h2, h3, _⟩ := hit_facts h.1 hc hf
  refine ⟨?_, h2, fun y hy => (h3 y (by omega)).trans (h.2 y (by omega))⟩
  rw [h1, Bool.eq_iff_iff, has_iff, has_iff]
  exact h.2 x (by omega)
/-- All lists so. -/
def Rems (x : Int) (ls rs : List (List Int)) : Prop := rs.length = ls.length ∧ ∀ j, j < ls.length → Rem x (ls.getD j []) (rs.getD j [])
theorem Rems.start {ls : List (List Int)} (h : all ls = true) (x : Int) : Rems x ls ls :=
  ⟨rfl, fun j hj => Rem.start (List.all_eq_true.1 h _ (by rw [List.getD_eq_getElem?_getD, List.getElem?_eq_getElem hj]; exact List.getElem_mem _)) x⟩
theorem Rems.mono {x y : Int} {ls rs : List (List Int)} (h : Rems x ls rs) (hxy : x ≤ y) : Rems y ls rs := ⟨h.1, fun j hj => (h.2 j hj).mono hxy⟩

/-- Two lists put together: P is told, ra and rb are left. -/
def Mrg (a b P ra rb : List Int) : Prop := ok (P ++ ra) = true ∧ ok (P ++ rb) = true ∧ (∀ z, z ∈ P ∨ z ∈ ra ∨ z ∈ rb ↔ z ∈ a ∨ z ∈ b) ∧ P.length + ra.length + rb.length ≤ a.length + b.length
theorem Mrg.start {a b : List Int} (ha : ok a = true) (hb : ok b = true) : Mrg a b [] a b := ⟨by simpa using ha, by simpa using hb, fun z => by simp, by simp⟩
theorem Mrg.step {a b P ra rb : List Int} {x : Int} {k k2 : Nat} {f : Bool} (h : Mrg a b P (x :: ra) rb) (hc : Cut rb x k) (hc2 : Cut (rb.drop k) x k2) (hf : Hit (rb.drop k) x k2 f) :
    Mrg a b (P ++ rb.take k ++ [x]) ra ((rb.drop k).drop (k2 + f.toNat)) := by
  obtain ⟨h1, h2, h3, h4⟩ := h
  rw [ok_iff, List.pairwise_append] at h1 h2
  obtain ⟨⟨hP, hra, hPa⟩, hz1⟩ := h1
  obtain ⟨⟨_, hrb, hPb⟩, hz2⟩ := h2
  rw [List.pairwise_cons] at hra
  have hdr : (rb.drop k).Pairwise (· < ·) := hrb.sublist (List.drop_sublist _ _)
  obtain ⟨f1, f2, f3, f4⟩ := hit_facts hdr hc2 hf
  have htk : ∀ y, y ∈ rb.take k → y < x := by
    intro y hy
    obtain ⟨i, hi, e⟩ := mem_getD hy
    rw [List.length_take] at hi
    have := hc.2.1 i (by omega)
    have e2 : (rb.take k).getD i 0 = rb.getD i 0 := by simp [List.getD_eq_getElem?_getD, show i < k by omega]
    omega
  have hge : ∀ y, y ∈ rb.drop k → x ≤ y := by
    intro y hy
    obtain ⟨i, hi, e⟩ := mem_getD hy
    rw [List.length_drop] at hi
    rw [getD_drop] at e
    have h0 := hc.2.2 (by omega)
    rcases Nat.eq_zero_or_pos i with h | h
    · subst h; rw [Nat.add_zero] at e; omega
    · have := pair_lt hrb (i := k) (j := k + i) (by omega) (by omega); omega
  have hP1 : (P ++ rb.take k ++ [x]).Pairwise (· < ·) := by
    rw [List.pairwise_append, List.pairwise_append]
    refine ⟨⟨hP, hrb.sublist (List.take_sublist _ _), fun y hy z hz => hPb y hy z (List.mem_of_mem_take hz)⟩, by simp, fun y hy z hz => ?_⟩
    rw [List.mem_singleton] at hz
    subst hz
    rcases List.mem_append.1 hy with h | h
    · exact hPa y h z (by simp)
    · exact htk y h
  have hlt : ∀ y, y ∈ P ++ rb.take k ++ [x] → y ≤ x := by
    intro y hy
    rcases List.mem_append.1 hy with h | h
    · rcases List.mem_append.1 h with h | h
      · have := hPa y h x (by simp); omega
      · have := htk y h; omega
    · rw [List.mem_singleton] at h; omega
  have hsub : ∀ y, y ∈ (rb.drop k).drop (k2 + f.toNat) → y ∈ rb := fun y hy => List.mem_of_mem_drop (List.mem_of_mem_drop hy)
  have hzP : ∀ y, y ∈ P ++ rb.take k ++ [x] → 0 ≤ y := by
    intro y hy
    rcases List.mem_append.1 hy with h | h
    · rcases List.mem_append.1 h with h | h
      · exact hz1 y (by simp [h])
      · exact hz2 y (by simp [List.mem_of_mem_take h])
    · rw [List.mem_singleton] at h; exact hz1 y (by simp [h])
  refine ⟨?_, ?_, fun z => ?_, ?_⟩
  · rw [ok_iff, List.pairwise_append]
    refine ⟨⟨hP1, hra.2, fun y hy z hz => ?_⟩, fun y hy => ?_⟩
    · have := hlt y hy
      have := hra.1 z hz
      omega
    · rcases List.mem_append.1 hy with h | h
      · exact hzP y h
      · exact hz1 y (by simp [h])
  · rw [ok_iff, List.pairwise_append]
    refine ⟨⟨hP1, f2, fun y hy z hz => ?_⟩, fun y hy => ?_⟩
    · have := hlt y hy
      have := f4 z hz
      omega
    · rcases List.mem_append.1 hy with h | h
      · exact hzP y h
      · exact hz2 y (by simp [hsub y h])
  · rw [← h3 z]
    constructor
    · rintro (h | h | h)
      · rcases List.mem_append.1 h with h | h
        · rcases List.mem_append.1 h with h | h
          · exact .inl h
          · exact .inr (.inr (List.mem_of_mem_take h))
        · rw [List.mem_singleton] at h; exact .inr (.inl (by simp [h]))
      · exact .inr (.inl (by simp [h]))
      · exact .inr (.inr (hsub z h))
    · rintro (h | h | h)
      · exact .inl (by simp [h])
      · rcases List.mem_cons.1 h with h | h
        · exact .inl (by simp [h])
        · exact .inr (.inl h)
      · rw [← List.take_append_drop k rb, List.mem_append] at h
        rcases h with h | h
        · exact .inl (by simp [h])
        · rcases Int.lt_or_le x z with hx | hx
          · exact .inr (.inr ((f3 z hx).2 h))
          · have := hge z h
            exact .inl (by simp [show z = x by omega])
  · simp only [List.length_append, List.length_take, List.length_drop, List.length_cons, List.length_nil] at h4 ⊢
    have := hc.1
    omega
theorem Mrg.done {a b P rb : List Int} (h : Mrg a b P [] rb) : ok (P ++ rb) = true ∧ ∀ z, z ∈ P ++ rb ↔ z ∈ a ∨ z ∈ b :=
  ⟨h.2.1, fun z => by rw [← h.2.2.1 z]; simp⟩
end Sets
end Go.Proofs.Ytfkmcknkapplmaa
