/- Chapter 23: lanes, what stands at one place of all stripes, one behind the other: plain mathematics. Chapter 23: stripes that are damaged alike are mended at once: plain mathematics. Chapter 23: the document's Read. Chapter 23: what is asked of the program; the example; StripeSizes, StripeLays, StripeReads, StripeBack. The program's shape of chapter 23: may, parts, room, laidBytes, stripes, and Size. Chapter 23: StripeLays, StripeBack. Chapter 23: StripeBack. -/
import Derived.Test.YtkfipfhmbhmamaaDoorB02
import Derived.Test.YtkfipfhmbhmamaaDoorB03
import Derived.Test.YtkfipfhmbhmamaaDoorB04
import Derived.Test.YtkfipfhmbhmamaaDoorB05
import Derived.Test.YtkfipfhmbhmamaaDoorB11
import Derived.Test.YtkfipfhmbhmamaaDoorB12
import Derived.Test.YtkfipfhmbhmamaaDoorB13
import Derived.Test.YtkfipfhmbhmamaaDoorB14
import Derived.Lib.SlBytesConst
import Derived.BigQuiet
namespace Go.Proofs.YtkfipfhmbhmamaaDoor
open Go.RowKit
namespace Stp

/-- A part of a row. -/
def seg (o c : Nat) (l : List UInt8) : List UInt8 := (l.drop o).take c
/-- So many chunks, one behind the other. -/
def laneF (N : Nat) (F : Nat → List UInt8) : List UInt8 := (List.range N).flatMap F
theorem lane_zero (F : Nat → List UInt8) : laneF 0 F = [] := rfl
theorem lane_next (N : Nat) (F : Nat → List UInt8) : laneF (N + 1) F = laneF N F ++ F N := by
  unfold laneF
  rw [List.range_succ, List.flatMap_append]
  simp
theorem lane_congr {N : Nat} {F G : Nat → List UInt8} (h : ∀ j, j < N → F j = G j) : laneF N F = laneF N G := by
  induction N with
  | zero => rfl
  | succ N ih => rw [lane_next, lane_next, ih fun j hj => h j (by omega), h N (by omega)]
theorem lane_add (a : Nat) (F : Nat → List UInt8) : ∀ b, laneF (a + b) F = laneF a F ++ laneF b fun j => F (a + j)
  | 0 => by simp [lane_zero]
  | b + 1 => by rw [← Nat.add_assoc, lane_next, lane_add a F b, lane_next, List.append_assoc]
section
variable {c N : Nat} {F G : Nat → List UInt8}
theorem lane_len : ∀ N, (∀ j, j < N → (F j).length = c) → (laneF N F).length = N * c
  | 0, _ => by simp [lane_zero]
  | N + 1, h => by rw [lane_next, List.length_append, lane_len N fun j hj => h j (by omega), h N (by omega), Nat.succ_mul]
theorem lane_parts (h : ∀ j, j < N → (F j).length = c) {a d : Nat} (had : a + d ≤ N) : seg (a * c) (d * c) (laneF N F) = laneF d fun j => F (a + j) := by
  obtain ⟨r, hr⟩ : ∃ r, N = a + (d + r) := ⟨N - a - d, by omega⟩
  subst hr
  have h1 := lane_len (F := F) (c := c) a fun j hj => h j (by omega)
  have h2 := lane_len (F := fun j => F (a + j)) (c := c) d fun j hj => h _ (by omega)
  unfold seg
  rw [lane_add, ← h1, List.drop_left' rfl, lane_add, ← h2, List.take_left' rfl]
theorem lane_seg (h : ∀ j, j < N → (F j).length = c) {j : Nat} (hj : j < N) : seg (j * c) c (laneF N F) = F j := by
  have h1 := lane_parts h (a := j) (d := 1) (by omega)
  rw [Nat.one_mul, lane_next, lane_zero] at h1
  simpa using h1
theorem lane_inj (hF : ∀ j, j < N → (F j).length = c) (hG : ∀ j, j < N → (G j).length = c) (h : laneF N F = laneF N G) {j : Nat} (hj : j < N) : F j = G j := by
  rw [← lane_seg hF hj, ← lane_seg hG hj, h]
theorem lane_spl (h : ∀ j, j < N → (F j).length = c) {a d : Nat} (had : a + d ≤ N) (hG : ∀ j, j < d → (G j).length = c) : splB (laneF N F) (a * c) (laneF d G) = laneF N fun j => if j < a then F j else if j < a + d then G (j - a) else F j := by
  obtain ⟨r, hr⟩ : ∃ r, N = a + (d + r) := ⟨N - a - d, by omega⟩
  subst hr
  have h1 := lane_len (F := F) (c := c) a fun j hj => h j (by omega)
  have h2 := lane_len (F := fun j => F (a + j)) (c := c) d fun j hj => h _ (by omega)
  have h3 := lane_len (F := G) (c := c) d hG
  unfold splB
  rw [lane_add, lane_add, ← h1, List.take_left' rfl, ← List.drop_drop, List.drop_left' rfl, h3, ← h2, List.drop_left' rfl, lane_add a, lane_add d, List.append_assoc]
  congr 1
  · exact lane_congr fun j hj => by rw [if_pos hj]
  congr 1
  · refine lane_congr fun j hj => ?_
    rw [if_neg (by omega), if_pos (by omega), Nat.add_sub_cancel_left]
  · refine lane_congr fun j hj => ?_
    rw [if_neg (by omega), if_neg (by omega)]
theorem lane_set (h : ∀ j, j < N → (F j).length = c) {a : Nat} (ha : a < N) {x : List UInt8} (hx : x.length = c) : splB (laneF N F) (a * c) x = laneF N fun j => if j = a then x else F j := by
  have h1 := lane_spl h (a := a) (d := 1) (G := fun _ => x) (by omega) (fun _ _ => hx)
  rw [lane_next, lane_zero, List.nil_append] at h1
  rw [h1]
  refine lane_congr fun j hj => ?_
  by_cases e : j = a
  · rw [if_neg (by omega), if_pos (by omega), if_pos e]
  · rw [if_neg e]
    by_cases e2 : j < a
    · rw [if_pos e2]
    · rw [if_neg e2, if_neg (by omega)]
theorem spl_mid (A B D x : List UInt8) (h : x.length ≤ D.length) : splB (A ++ (D ++ B)) A.length x = A ++ (x ++ (D.drop x.length ++ B)) := by
  unfold splB
  rw [List.take_left' rfl, ← List.drop_drop, List.drop_left' rfl, List.drop_append_of_le_length h, List.append_assoc]
/-- Where less is put than a chunk has. -/
theorem lane_set_part (h : ∀ j, j < N → (F j).length = c) {a : Nat} (ha : a < N) {x : List UInt8} (hx : x.length ≤ c) : splB (laneF N F) (a * c) x = laneF N fun j => if j = a then x ++ (F a).drop x.length else F j := by
  have hl : (x ++ (F a).drop x.length).length = c := by rw [List.length_append, List.length_drop, h a ha]; omega
  rw [← lane_set h ha hl]
  have h1 := lane_len N h
  obtain ⟨r, hr⟩ : ∃ r, N = a + (1 + r) := ⟨N - a - 1, by omega⟩
  subst hr
  have h2 := lane_len (F := F) (c := c) a fun j hj => h j (by omega)
  rw [lane_add, lane_add, show laneF 1 (fun j => F (a + j)) = F a by rw [lane_next, lane_zero]; simp, ← h2, spl_mid _ _ _ _ (by rw [h a ha]; exact hx), spl_mid _ _ _ _ (by rw [hl, h a ha]; exact Nat.le_refl _), hl, ← h a ha, List.drop_length]
  simp
end
theorem lane_zeros (c : Nat) : ∀ N, laneF N (fun _ => List.replicate c (0 : UInt8)) = List.replicate (N * c) 0
  | 0 => by simp [lane_zero]
  | N + 1 => by rw [lane_next, lane_zeros c N, List.replicate_append_replicate, Nat.succ_mul]
theorem rowB_lane (c : Nat) (f : Nat → UInt8) : ∀ N, rowB (N * c) f = laneF N fun j => rowB c fun x => f (j * c + x)
  | 0 => by simp [lane_zero, rowB]
  | N + 1 => by rw [Nat.succ_mul, rowB_add, rowB_lane c f N, lane_next]
theorem lane_at {c N : Nat} {F : Nat → List UInt8} (h : ∀ j, j < N → (F j).length = c) {j x : Nat} (hj : j < N) (hx : x < c) : (laneF N F).getD (j * c + x) 0 = (F j).getD x 0 := by
  rw [← lane_seg h hj]
  unfold seg
  simp [List.getD_eq_getElem?_getD, List.getElem?_drop, hx]

/- Sums of products, lane by lane. -/
theorem times_lane {r k c N : Nat} {f : Mat.M} {D : List (List UInt8)} {F : Nat → Nat → List UInt8} {C : Nat → List (List UInt8)} (hk : 1 ≤ k) (hD : ∀ q, q < k → D.getD q [] = laneF N (F q)) (hF : ∀ q, q < k → ∀ j, j < N → (F q j).length = c)
    (hC : ∀ j, j < N → ∀ q, q < k → (C j).getD q [] = F q j) {i : Nat} (hi : i < r) : (timesL r k f D).getD i [] = laneF N fun j => (timesL r k f (C j)).getD i [] := by
  have hl : (D.getD 0 []).length = N * c := by rw [hD 0 (by omega), lane_len N (hF 0 (by omega))]
  rw [timesL_at hi, hl, rowB_lane]
  refine lane_congr fun j hj => ?_
  rw [timesL_at hi, hC j hj 0 (by omega), hF 0 (by omega) j hj]
  refine rowB_congr fun x hx => Mat.sum_congr fun q hq => ?_
  show Mat.fm (f i q) ((D.getD q []).getD (j * c + x) 0) = Mat.fm (f i q) (((C j).getD q []).getD x 0)
  rw [hD q hq, lane_at (hF q hq) hj hx, hC j hj q hq]
theorem code_lane {k t c N : Nat} {D : List (List UInt8)} {F : Nat → Nat → List UInt8} {C : Nat → List (List UInt8)} (hk : 1 ≤ k) (hD : ∀ q, q < k → D.getD q [] = laneF N (F q)) (hF : ∀ q, q < k → ∀ j, j < N → (F q j).length = c)
    (hC : ∀ j, j < N → ∀ q, q < k → (C j).getD q [] = F q j) {i : Nat} (hi : i < t) : (codeL k t D).getD i [] = laneF N fun j => (codeL k t (C j)).getD i [] := times_lane hk hD hF hC hi

/- What is laid out. -/
/-- The k lanes of data. -/
def lanesB (k c N : Nat) (b : List UInt8) : List (List UInt8) := (List.range k).map fun i => laneF N fun j => (dataAt k c b (j * (k * c))).getD i []
theorem lanesB_len (k c N : Nat) (b : List UInt8) : (lanesB k c N b).length = k := by simp [lanesB]
theorem lanesB_at {k c N : Nat} {b : List UInt8} {i : Nat} (hi : i < k) : (lanesB k c N b).getD i [] = laneF N fun j => (dataAt k c b (j * (k * c))).getD i [] := by simp [lanesB, List.getD_eq_getElem?_getD, hi]
theorem lanesB_row {k c N : Nat} {b : List UInt8} {i : Nat} (hi : i < k) : ((lanesB k c N b).getD i []).length = N * c := by
  rw [lanesB_at hi, lane_len N fun j _ => by rw [data_at hi, rowB_len]]
theorem lanesB_alike (k c N : Nat) (b : List UInt8) : alike (lanesB k c N b) := alike_of (N := N * c) fun i hi => by rw [lanesB_len] at hi; exact lanesB_row hi
/-- All lanes. -/
def lanesL (k m c N : Nat) (b : List UInt8) : List (List UInt8) := codeL k (k + m) (lanesB k c N b)
theorem lanesL_len (k m c N : Nat) (b : List UInt8) : (lanesL k m c N b).length = k + m := codeL_len _ _ _
theorem lanesL_at {k m c N : Nat} {b : List UInt8} {i : Nat} (hk : 1 ≤ k) (hi : i < k + m) : (lanesL k m c N b).getD i [] = laneF N fun j => (layS k m c b j).getD i [] :=
  code_lane (c := c) hk (fun q hq => lanesB_at hq) (fun q hq j _ => by rw [data_at hq, rowB_len]) (fun _ _ _ _ => rfl) hi
theorem lanesL_seg {k m c N : Nat} {b : List UInt8} {i j : Nat} (hk : 1 ≤ k) (hi : i < k + m) (hj : j < N) : seg (j * c) c ((lanesL k m c N b).getD i []) = chunkQ k m c b (j * (k + m) + i) := by
  rw [lanesL_at hk hi, lane_seg (fun j _ => layS_row hk hi) hj, chunkQ_at hi]
theorem lanesL_row {k m c N : Nat} {b : List UInt8} {i : Nat} (hk : 1 ≤ k) (hi : i < k + m) : ((lanesL k m c N b).getD i []).length = N * c := by
  rw [lanesL_at hk hi, lane_len N fun j _ => layS_row hk hi]
theorem lanesL_split {k m c N : Nat} {b : List UInt8} (hk : 1 ≤ k) (hkm : k + m ≤ 255) : ∃ P, parityE m (lanesB k c N b) = (P, 0) ∧ lanesL k m c N b = lanesB k c N b ++ P ∧ P.length = m := by
  refine ⟨_, code_parity hk hkm (lanesB_len ..) (lanesB_alike _ _ _ _), ?_, by rw [List.length_drop, codeL_len]; omega⟩
  unfold lanesL
  rw [code_split (lanesB_len ..) (lanesB_alike _ _ _ _), List.drop_append_of_le_length (by rw [lanesB_len]; exact Nat.le_refl _), List.drop_of_length_le (by rw [lanesB_len]; exact Nat.le_refl _)]
  simp
/-- The lane i of data when the first p chunks were put. -/
def putF (k c : Nat) (b : List UInt8) (p i j : Nat) : List UInt8 := if j * k + i < p then rowB c fun x => b.getD ((j * k + i) * c + x) 0 else List.replicate c 0
theorem putF_len (k c : Nat) (b : List UInt8) (p i j : Nat) : (putF k c b p i j).length = c := by
  unfold putF
  split
  · rw [rowB_len]
  · simp
theorem putF_zero (k c N : Nat) (b : List UInt8) (i : Nat) : laneF N (putF k c b 0 i) = List.replicate (N * c) 0 := by
  rw [← lane_zeros]
  exact lane_congr fun j _ => if_neg (by omega)
/-- Bytes with zeros behind them. -/
theorem take_zeros {b : List UInt8} {a c : Nat} : (b.drop a).take c ++ (List.replicate c (0 : UInt8)).drop ((b.drop a).take c).length = rowB c fun x => b.getD (a + x) 0 := by
  apply List.ext_getElem?
  intro i
  have hl : ((b.drop a).take c).length ≤ c := by rw [List.length_take]; omega
  have e : (rowB c fun x => b.getD (a + x) 0)[i]? = if i < c then some (b.getD (a + i) 0) else none := by
    unfold rowB
    by_cases h : i < c
    · simp [h]
    · simp [h]
  rw [e]
  have hl2 : ((b.drop a).take c).length = min c (b.length - a) := by rw [List.length_take, List.length_drop]
  by_cases hi : i < ((b.drop a).take c).length
  · rw [List.getElem?_append_left hi, if_pos (by omega), List.getElem?_take, if_pos (by omega), List.getElem?_drop, List.getD_eq_getElem?_getD, List.getElem?_eq_getElem (by omega)]
    rfl
  · rw [List.getElem?_append_right (by omega), List.getElem?_drop, List.getElem?_replicate]
    by_cases hc : i < c
    · rw [if_pos (by omega), if_pos hc, List.getD_eq_getElem?_getD, List.getElem?_eq_none (by omega)]
      rfl
    · rw [if_neg (by omega), if_neg hc]
theorem put_next {k c N p : Nat} {b : List UInt8} (hk : 1 ≤ k) (hp : p / k < N) : splB (laneF N (putF k c b p (p % k))) (p / k * c) ((b.drop (p * c)).take c) = laneF N (putF k c b (p + 1) (p % k)) := by
  have hpk : p / k * k + p % k = p := by rw [Nat.mul_comm]; exact Nat.div_add_mod p k
  rw [lane_set_part (c := c) (fun j _ => putF_len k c b p _ j) hp (by rw [List.length_take]; omega)]
  refine lane_congr fun j _ => ?_
  by_cases e : j = p / k
  · subst e
    rw [if_pos rfl]
    unfold putF
    rw [hpk, if_neg (by omega), if_pos (by omega), take_zeros]
  · rw [if_neg e]
    unfold putF
    have hne : j * k + p % k ≠ p := fun e2 => e (by
      have : j * k = p / k * k := by omega
      exact Nat.eq_of_mul_eq_mul_right (by omega) this)
    by_cases h : j * k + p % k < p
    · rw [if_pos h, if_pos (by omega)]
    · rw [if_neg h, if_neg (by omega)]
theorem put_other {k c N p i : Nat} {b : List UInt8} (hi : i < k) (h : i ≠ p % k) : laneF N (putF k c b (p + 1) i) = laneF N (putF k c b p i) := by
  refine lane_congr fun j _ => ?_
  unfold putF
  have hne : j * k + i ≠ p := fun e => h (by rw [← e, Nat.mul_comm, Nat.mul_add_mod, Nat.mod_eq_of_lt hi])
  by_cases h2 : j * k + i < p
  · rw [if_pos h2, if_pos (by omega)]
  · rw [if_neg h2, if_neg (by omega)]
theorem put_all {k c N p i : Nat} {b : List UInt8} (hi : i < k) (hp : b.length ≤ p * c) : laneF N (putF k c b p i) = (lanesB k c N b).getD i [] := by
  rw [lanesB_at hi]
  refine lane_congr fun j _ => ?_
  rw [data_at hi]
  have e : ∀ x, j * (k * c) + i * c + x = (j * k + i) * c + x := fun x => by rw [Nat.add_mul, Nat.mul_assoc]
  unfold putF
  split
  · exact rowB_congr fun x _ => by rw [e]
  · rename_i h
    have e0 : (List.replicate c (0 : UInt8)) = rowB c fun _ => 0 := by unfold rowB; rw [List.map_const', List.length_range]
    rw [e0]
    refine rowB_congr fun x hx => ?_
    have : p * c ≤ (j * k + i) * c := Nat.mul_le_mul_right _ (by omega)
    rw [e, List.getD_eq_getElem?_getD, List.getElem?_eq_none (by omega)]
    rfl

/- What is read. -/
/-- The bytes of the chunk q, good or not. -/
def rawQ (c : Nat) (s : List UInt8) (q : Nat) : List UInt8 := (s.drop (q * (c + 4))).take c
theorem raw_part (c : Nat) (s : List UInt8) (q : Nat) : (partQ c s q).take c = rawQ c s q := by
  unfold partQ rawQ
  rw [List.take_take, Nat.min_eq_left (by omega)]
theorem raw_len {c : Nat} {s : List UInt8} {q : Nat} (h : q * (c + 4) + (c + 4) ≤ s.length) : (rawQ c s q).length = c := by
  unfold rawQ
  rw [List.length_take, List.length_drop]
  omega
theorem raw_cut {c : Nat} {s : List UInt8} {q : Nat} (h : q * (c + 4) + (c + 4) ≤ s.length) (hg : goodQ c s q = true) : cutQ c s q = rawQ c s q := by
  have hl := part_len h
  rw [← raw_part]
  unfold goodQ at hg
  have hg := of_decide_eq_true hg
  unfold Crc.cutErr at hg
  unfold cutQ Crc.cutBytes
  rw [if_neg (by omega)] at hg ⊢
  split at hg
  · rename_i hr
    rw [if_pos hr, hl, Nat.add_sub_cancel]
  · omega
/-- The lane i when the first q chunks were put. -/
def rawT (t c : Nat) (s : List UInt8) (q i : Nat) : List UInt8 := laneF (q / t + if i < q % t then 1 else 0) fun j => rawQ c s (j * t + i)
theorem lane_le {c : Nat} {F : Nat → List UInt8} (h : ∀ j, (F j).length ≤ c) : ∀ n, (laneF n F).length ≤ n * c
  | 0 => by simp [lane_zero]
  | n + 1 => by
    have h1 := lane_le h n
    have h2 := h n
    rw [lane_next, List.length_append, Nat.succ_mul]
    omega
theorem rawT_le (t c : Nat) (s : List UInt8) (q i : Nat) : (rawT t c s q i).length ≤ (q + 1) * c := by
  have h1 := lane_le (c := c) (F := fun j => rawQ c s (j * t + i)) (fun j => by unfold rawQ; rw [List.length_take]; omega) (q / t + if i < q % t then 1 else 0)
  have h2 : (q / t + if i < q % t then 1 else 0) ≤ q + 1 := by
    have := Nat.div_le_self q t
    split <;> omega
  exact Nat.le_trans h1 (Nat.mul_le_mul_right _ h2)
theorem rawT_zero (t c : Nat) (s : List UInt8) (i : Nat) : rawT t c s 0 i = [] := by simp [rawT, lane_zero]
theorem div_next {t q : Nat} (ht : 1 ≤ t) : ((q + 1) / t = q / t ∧ (q + 1) % t = q % t + 1 ∧ q % t + 1 < t) ∨ ((q + 1) / t = q / t + 1 ∧ (q + 1) % t = 0 ∧ q % t + 1 = t) := by
  have h1 := Nat.div_add_mod q t
  have h2 := Nat.mod_lt q (show t > 0 by omega)
  rcases Nat.lt_or_ge (q % t + 1) t with h | h
  · have e : q + 1 = (q % t + 1) + t * (q / t) := by omega
    refine .inl ⟨?_, ?_, h⟩
    · rw [e, Nat.add_mul_div_left _ _ (by omega), Nat.div_eq_of_lt h, Nat.zero_add]
    · have : (q + 1) % t = ((q % t + 1) + t * (q / t)) % t := by rw [← e]
      rw [this, Nat.add_mul_mod_self_left, Nat.mod_eq_of_lt h]
  · have e : q + 1 = 0 + t * (q / t + 1) := by rw [Nat.mul_succ]; omega
    refine .inr ⟨?_, ?_, by omega⟩
    · rw [e, Nat.add_mul_div_left _ _ (by omega), Nat.zero_div, Nat.zero_add]
    · have : (q + 1) % t = (0 + t * (q / t + 1)) % t := by rw [← e]
      rw [this, Nat.add_mul_mod_self_left, Nat.zero_mod]
theorem rawT_next {t c q : Nat} {s : List UInt8} (ht : 1 ≤ t) : rawT t c s (q + 1) (q % t) = rawT t c s q (q % t) ++ rawQ c s q := by
  have h1 := Nat.div_add_mod q t
  have hq : q / t * t + q % t = q := by rw [Nat.mul_comm]; exact h1
  unfold rawT
  rw [if_neg (Nat.lt_irrefl (q % t)), Nat.add_zero (q / t)]
  have e : ((q + 1) / t + if q % t < (q + 1) % t then 1 else 0) = q / t + 1 := by
    rcases div_next (q := q) ht with ⟨a, b, h⟩ | ⟨a, b, h⟩
    · rw [a, b, if_pos (by omega)]
    · rw [a, b, if_neg (by omega)]
  rw [e, lane_next, hq]
theorem rawT_other {t c q i : Nat} {s : List UInt8} (ht : 1 ≤ t) (hi : i < t) (h : i ≠ q % t) : rawT t c s (q + 1) i = rawT t c s q i := by
  unfold rawT
  have e : ((q + 1) / t + if i < (q + 1) % t then 1 else 0) = (q / t + if i < q % t then 1 else 0) := by
    rcases div_next (q := q) ht with ⟨a, b, h2⟩ | ⟨a, b, h2⟩
    · rw [a, b]
      by_cases h3 : i < q % t
      · rw [if_pos h3, if_pos (by omega)]
      · rw [if_neg h3, if_neg (by omega)]
    · rw [a, b, if_neg (by omega), if_pos (by omega)]
  rw [e]
theorem rawT_all {t c N i : Nat} {s : List UInt8} (ht : 1 ≤ t) : rawT t c s (N * t) i = laneF N fun j => rawQ c s (j * t + i) := by
  unfold rawT
  rw [Nat.mul_div_cancel _ (by omega), Nat.mul_mod_left, if_neg (by omega), Nat.add_zero]
end Stp
end Go.Proofs.YtkfipfhmbhmamaaDoor

namespace Go.Proofs.YtkfipfhmbhmamaaDoor
open Go.RowKit
namespace Stp
section
variable {k m c N : Nat} {s : List UInt8}
/-- The chunk i of the stripe j, mended. -/
noncomputable def mnd (k m c : Nat) (s : List UInt8) (j i : Nat) : List UInt8 := (mendE k m (partsS k m c s j (k + m)) (goodS k m c s j (k + m))).1.getD i []
theorem mnd_len (hk : 1 ≤ k) (hkm : k + m ≤ 255) (hs : s.length = N * (k + m) * (c + 4)) {j : Nat} (hj : j < N) (hl : lostS k m c s j (k + m) ≤ m) {i : Nat} (hi : i < k + m) : (mnd k m c s j i).length = c := by
  obtain ⟨D, hD, ha, he, hc⟩ := mend_some hk hkm hs hj hl
  unfold mnd
  rw [he, codeL_at hi, rowB_len, hc]
theorem good_lost (k m c : Nat) (s : List UInt8) {j j' : Nat} (h : goodS k m c s j (k + m) = goodS k m c s j' (k + m)) : lostS k m c s j (k + m) = lostS k m c s j' (k + m) := by
  have h1 := good_many k m c s j (k + m)
  have h2 := good_many k m c s j' (k + m)
  rw [h] at h1
  omega
theorem good_at_lt (k m c : Nat) (s : List UInt8) (j : Nat) {q : Nat} (hq : q < (goodAt (goodS k m c s j (k + m))).length) : (goodAt (goodS k m c s j (k + m))).getD q 0 < k + m ∧ goodQ c s (j * (k + m) + (goodAt (goodS k m c s j (k + m))).getD q 0) = true := by
  have h1 : (goodAt (goodS k m c s j (k + m))).getD q 0 ∈ goodAt (goodS k m c s j (k + m)) := by rw [List.getD_eq_getElem?_getD, List.getElem?_eq_getElem hq]; exact List.getElem_mem hq
  obtain ⟨h2, h3⟩ := goodAt_mem.1 h1
  rw [goods_len] at h2
  rw [goods_at h2] at h3
  exact ⟨h2, h3⟩
/-- The parts of a run. -/
structure Run (k m c : Nat) (s : List UInt8) (a d : Nat) (P : List (List UInt8)) : Prop where
  len : P.length = k + m
  at_ : ∀ i, i < k + m → P.getD i [] = laneF d fun j => rawQ c s ((a + j) * (k + m) + i)
  good : ∀ j, j < d → goodS k m c s (a + j) (k + m) = goodS k m c s a (k + m)
variable {a d : Nat} {P : List (List UInt8)}
theorem Run.alike (h : Run k m c s a d P) (hs : s.length = N * (k + m) * (c + 4)) (had : a + d ≤ N) : Go.Proofs.YtkfipfhmbhmamaaDoor.alike ((goodAt (goodS k m c s a (k + m))).map fun i => P.getD i []) := alike_of (N := d * c) fun q hq => by
  rw [List.length_map] at hq
  obtain ⟨h1, _⟩ := good_at_lt k m c s a hq
  rw [getD_mapL hq, h.at_ _ h1, lane_len d fun j hj => raw_len (place_le hs (by omega) h1)]
theorem Run.lost (h : Run k m c s a d P) (hk : 1 ≤ k) (hkm : k + m ≤ 255) (hs : s.length = N * (k + m) * (c + 4)) (had : a + d ≤ N) (hl : m < lostS k m c s a (k + m)) : mendE k m P (goodS k m c s a (k + m)) = ([], 12) := by
  have hn := good_many k m c s a (k + m)
  have hp := h.len
  unfold mendE
  rw [if_pos ⟨mayK_iff.2 ⟨by omega, by omega, by omega, by omega⟩, by rw [hp]; simp, by rw [goods_len]; simp⟩, if_pos (h.alike hs had), if_pos (by omega)]
theorem Run.mend (h : Run k m c s a d P) (hk : 1 ≤ k) (hkm : k + m ≤ 255) (hs : s.length = N * (k + m) * (c + 4)) (had : a + d ≤ N) (hl : lostS k m c s a (k + m) ≤ m) :
    ∃ M, mendE k m P (goodS k m c s a (k + m)) = (M, 0) ∧ M.length = k + m ∧ ∀ i, i < k + m → M.getD i [] = laneF d fun j => mnd k m c s (a + j) i := by
  have hn := good_many k m c s a (k + m)
  have hp := h.len
  have hal := h.alike hs had
  have hgl : k ≤ (goodAt (goodS k m c s a (k + m))).length := by omega
  have hA := fun q hq => good_at_lt k m c s a (q := q) hq
  have hJ : ∀ j, j < d → (mendE k m (partsS k m c s (a + j) (k + m)) (goodS k m c s (a + j) (k + m))).1 = codeL k (k + m) (timesL k k (backX k ((goodAt (goodS k m c s a (k + m))).take k)) (((goodAt (goodS k m c s a (k + m))).map fun i => (partsS k m c s (a + j) (k + m)).getD i []).take k)) := fun j hj => by
    unfold mendE
    rw [h.good j hj]
    rw [if_pos ⟨mayK_iff.2 ⟨by omega, by omega, by omega, by omega⟩, by rw [parts_len]; simp, by rw [goods_len]; simp⟩, if_pos (alike_of (N := c) fun q hq => by
      rw [List.length_map] at hq
      obtain ⟨h1, h2⟩ := hA q hq
      have h3 : goodQ c s ((a + j) * (k + m) + (goodAt (goodS k m c s a (k + m))).getD q 0) = true := by
        have := goods_at (k := k) (m := m) (c := c) (s := s) (j := a + j) h1
        rw [h.good j hj, goods_at h1, h2] at this
        exact this.symm
      rw [getD_mapL hq, parts_at h1, cut_len (place_le hs (by omega) h1) h3]), if_neg (by omega)]
    simp only [Int.toNat_natCast]
  have hK : ∀ j, j < d → ∀ q, q < k → (((goodAt (goodS k m c s a (k + m))).map fun i => (partsS k m c s (a + j) (k + m)).getD i []).take k).getD q [] = rawQ c s ((a + j) * (k + m) + (goodAt (goodS k m c s a (k + m))).getD q 0) := fun j hj q hq => by
    obtain ⟨h1, h2⟩ := hA q (by omega)
    have h3 : goodQ c s ((a + j) * (k + m) + (goodAt (goodS k m c s a (k + m))).getD q 0) = true := by
      have := goods_at (k := k) (m := m) (c := c) (s := s) (j := a + j) h1
      rw [h.good j hj, goods_at h1, h2] at this
      exact this.symm
    rw [getD_takeP hq, getD_mapL (by omega), parts_at h1, raw_cut (place_le hs (by omega) h1) h3]
  have hP : ∀ q, q < k → (((goodAt (goodS k m c s a (k + m))).map fun i => P.getD i []).take k).getD q [] = laneF d fun j => rawQ c s ((a + j) * (k + m) + (goodAt (goodS k m c s a (k + m))).getD q 0) := fun q hq => by
    rw [getD_takeP hq, getD_mapL (by omega), h.at_ _ (hA q (by omega)).1]
  have hR : ∀ q, q < k → ∀ j, j < d → (rawQ c s ((a + j) * (k + m) + (goodAt (goodS k m c s a (k + m))).getD q 0)).length = c := fun q hq j hj => raw_len (place_le hs (by omega) (hA q (by omega)).1)
  refine ⟨codeL k (k + m) (timesL k k (backX k ((goodAt (goodS k m c s a (k + m))).take k)) (((goodAt (goodS k m c s a (k + m))).map fun i => P.getD i []).take k)), ?_, codeL_len _ _ _, fun i hi => ?_⟩
  · unfold mendE
    rw [if_pos ⟨mayK_iff.2 ⟨by omega, by omega, by omega, by omega⟩, by rw [hp]; simp, by rw [goods_len]; simp⟩, if_pos hal, if_neg (by omega)]
    simp only [Int.toNat_natCast]
  · generalize (goodAt (goodS k m c s a (k + m))) = g at *
    rw [code_lane (c := c) (F := fun q j => (timesL k k (backX k (g.take k)) ((g.map fun i => (partsS k m c s (a + j) (k + m)).getD i []).take k)).getD q []) (C := fun j => timesL k k (backX k (g.take k)) ((g.map fun i => (partsS k m c s (a + j) (k + m)).getD i []).take k)) hk
      (fun q hq => times_lane hk hP hR hK hq) (fun q hq j hj => by rw [timesL_at hq, rowB_len, hK j hj 0 (by omega), hR 0 (by omega) j hj]) (fun _ _ _ _ => rfl) hi]
    refine lane_congr fun j hj => ?_
    unfold mnd
    rw [hJ j hj]
/-- Does each good part of the stripes of the run say what is mended? -/
theorem Run.fits (h : Run k m c s a d P) (hk : 1 ≤ k) (hkm : k + m ≤ 255) (hs : s.length = N * (k + m) * (c + 4)) (had : a + d ≤ N) (hl : lostS k m c s a (k + m) ≤ m) {M : List (List UInt8)} (hM : ∀ i, i < k + m → M.getD i [] = laneF d fun j => mnd k m c s (a + j) i)
    (hg : ∀ i, i < k + m → (goodS k m c s a (k + m)).getD i false = true → P.getD i [] = M.getD i []) : ∀ j, j < d → fitsS k m c s (a + j) (k + m) = true := fun j hj => by
  unfold fitsS
  rw [List.all_eq_true]
  intro i hi
  have hi := List.mem_range.1 hi
  cases hq : goodQ c s ((a + j) * (k + m) + i) with
  | false => rfl
  | true =>
    have h1 := goods_at (k := k) (m := m) (c := c) (s := s) (j := a + j) hi
    rw [h.good j hj, hq] at h1
    have h2 := hg i hi h1
    rw [h.at_ i hi, hM i hi] at h2
    have h3 := lane_inj (c := c) (fun j hj => raw_len (place_le hs (by omega) hi)) (fun j hj => mnd_len hk hkm hs (by omega) (by rw [good_lost k m c s (h.good j hj)]; exact hl) hi) h2 hj
    rw [raw_cut (place_le hs (by omega) hi) hq]
    have h4 : mnd k m c s (a + j) i = rawQ c s ((a + j) * (k + m) + i) := h3.symm
    unfold mnd at h4
    rw [h4]
    simp
/-- A good part that isn't what is mended. -/
theorem Run.unfit (h : Run k m c s a d P) (hs : s.length = N * (k + m) * (c + 4)) (had : a + d ≤ N) {M : List (List UInt8)} (hM : ∀ i, i < k + m → M.getD i [] = laneF d fun j => mnd k m c s (a + j) i)
    {i : Nat} (hi : i < k + m) (hg : (goodS k m c s a (k + m)).getD i false = true) (hne : P.getD i [] ≠ M.getD i []) : ∃ j, j < d ∧ fitsS k m c s (a + j) (k + m) = false := by
  refine Decidable.by_contra fun hn => hne ?_
  rw [h.at_ i hi, hM i hi]
  refine lane_congr fun j hj => ?_
  have h1 := goods_at (k := k) (m := m) (c := c) (s := s) (j := a + j) hi
  rw [h.good j hj, hg] at h1
  cases hf : fitsS k m c s (a + j) (k + m) with
  | false => exact absurd ⟨j, hj, hf⟩ hn
  | true =>
    unfold fitsS at hf
    rw [List.all_eq_true] at hf
    have h2 := hf i (List.mem_range.2 hi)
    rw [← h1] at h2
    simp only [Bool.not_true, Bool.false_or, decide_eq_true_eq] at h2
    unfold mnd
    rw [h2, raw_cut (place_le hs (by omega) hi) h1.symm]
/-- Stripes that are read, as far as the run goes. -/
theorem readTo_run (h0 : (Stp.readTo k m c s a).2 = 0) : ∀ d, (∀ j, j < d → lostS k m c s (a + j) (k + m) ≤ m ∧ fitsS k m c s (a + j) (k + m) = true) → (Stp.readTo k m c s (a + d)).2 = 0
  | 0, _ => h0
  | d + 1, h => by
    have h1 := readTo_run h0 d fun j hj => h j (by omega)
    have h2 := h d (by omega)
    have h3 : (readS k m c s (a + d)).2 = 0 := by rw [readS_0 h2.1 h2.2]
    rw [← Nat.add_assoc, readTo_next h1 h3]
theorem readTo_unfit (h0 : (Stp.readTo k m c s a).2 = 0) : ∀ d, (∀ j, j < d → lostS k m c s (a + j) (k + m) ≤ m) → (∃ j, j < d ∧ fitsS k m c s (a + j) (k + m) = false) → ∀ t, a + d ≤ t → (Stp.readTo k m c s t).2 = 2
  | 0, _, h, _, _ => by obtain ⟨j, hj, _⟩ := h; omega
  | d + 1, hl, h, t, ht => by
    by_cases he : ∃ j, j < d ∧ fitsS k m c s (a + j) (k + m) = false
    · exact readTo_unfit h0 d (fun j hj => hl j (by omega)) he t (by omega)
    · have h1 := readTo_run h0 d fun j hj => ⟨hl j (by omega), by
        cases hf : fitsS k m c s (a + j) (k + m) with
        | true => rfl
        | false => exact absurd ⟨j, hj, hf⟩ he⟩
      obtain ⟨j, hj, hf⟩ := h
      have hjd : j = d := by
        rcases Nat.lt_or_ge j d with h2 | h2
        · exact absurd ⟨j, h2, hf⟩ he
        · omega
      subst hjd
      have h3 : (readS k m c s (a + j)).2 = 2 := by rw [readS_2 (hl j (by omega)) hf]
      rw [readTo_stop h1 (by omega) t (by omega), h3]
theorem readTo_lost (h0 : (Stp.readTo k m c s a).2 = 0) (hl : m < lostS k m c s a (k + m)) {t : Nat} (ht : a < t) : (Stp.readTo k m c s t).2 = 12 := by
  have h3 : (readS k m c s a).2 = 12 := by rw [readS_12 hl]
  rw [readTo_stop h0 (by omega) t ht, h3]
/-- The lane i when the stripes below a are mended. -/
noncomputable def laneM (k m c N : Nat) (s : List UInt8) (a i : Nat) : List UInt8 := laneF N fun j => if j < a then mnd k m c s j i else rawQ c s (j * (k + m) + i)
theorem laneM_zero (k m c N : Nat) (s : List UInt8) (i : Nat) : laneM k m c N s 0 i = laneF N fun j => rawQ c s (j * (k + m) + i) := lane_congr fun j _ => if_neg (by omega)
theorem laneM_chunk (hk : 1 ≤ k) (hkm : k + m ≤ 255) (hs : s.length = N * (k + m) * (c + 4)) (hl : ∀ j, j < a → lostS k m c s j (k + m) ≤ m) {i j : Nat} (hi : i < k + m) (hj : j < N) : (if j < a then mnd k m c s j i else rawQ c s (j * (k + m) + i)).length = c := by
  split
  · exact mnd_len hk hkm hs hj (hl j (by assumption)) hi
  · exact raw_len (place_le hs hj hi)
theorem laneM_len (hk : 1 ≤ k) (hkm : k + m ≤ 255) (hs : s.length = N * (k + m) * (c + 4)) (hl : ∀ j, j < a → lostS k m c s j (k + m) ≤ m) {i : Nat} (hi : i < k + m) : (laneM k m c N s a i).length = N * c := lane_len N fun _ hj => laneM_chunk hk hkm hs hl hi hj
theorem laneM_part (hk : 1 ≤ k) (hkm : k + m ≤ 255) (hs : s.length = N * (k + m) * (c + 4)) (hl : ∀ j, j < a → lostS k m c s j (k + m) ≤ m) {i : Nat} (hi : i < k + m) (had : a + d ≤ N) : seg (a * c) (d * c) (laneM k m c N s a i) = laneF d fun j => rawQ c s ((a + j) * (k + m) + i) := by
  unfold laneM
  rw [lane_parts (fun j hj => laneM_chunk hk hkm hs hl hi hj) had]
  exact lane_congr fun j _ => if_neg (by omega)
theorem laneM_put (hk : 1 ≤ k) (hkm : k + m ≤ 255) (hs : s.length = N * (k + m) * (c + 4)) (hl : ∀ j, j < a + d → lostS k m c s j (k + m) ≤ m) {i : Nat} (hi : i < k + m) (had : a + d ≤ N) : splB (laneM k m c N s a i) (a * c) (laneF d fun j => mnd k m c s (a + j) i) = laneM k m c N s (a + d) i := by
  unfold laneM
  rw [lane_spl (fun j hj => laneM_chunk hk hkm hs (fun j hj => hl j (by omega)) hi hj) had (fun _ hj => mnd_len hk hkm hs (by omega) (hl _ (by omega)) hi)]
  refine lane_congr fun j hj => ?_
  by_cases h1 : j < a
  · rw [if_pos h1, if_pos h1, if_pos (by omega)]
  · rw [if_neg h1]
    by_cases h2 : j < a + d
    · rw [if_pos h2, if_pos h2, show a + (j - a) = j by omega]
    · rw [if_neg h2, if_neg h1, if_neg h2]
theorem laneM_seg (hk : 1 ≤ k) (hkm : k + m ≤ 255) (hs : s.length = N * (k + m) * (c + 4)) (hl : ∀ j, j < N → lostS k m c s j (k + m) ≤ m) {i j : Nat} (hi : i < k + m) (hj : j < N) : seg (j * c) c (laneM k m c N s N i) = mnd k m c s j i := by
  unfold laneM
  rw [lane_seg (fun j hj => laneM_chunk hk hkm hs (fun j hj => hl j hj) hi hj) hj, if_pos hj]
/-- The first q chunks of data, one behind the other. -/
noncomputable def dataQ (k m c : Nat) (s : List UInt8) (q : Nat) : List UInt8 := laneF q fun q => mnd k m c s (q / k) (q % k)
theorem take_flat (ls : List (List UInt8)) : ∀ k, k ≤ ls.length → (ls.take k).flatten = laneF k fun i => ls.getD i []
  | 0, _ => by simp [lane_zero]
  | k + 1, h => by rw [flat_takeS ls k h, take_flat ls k (by omega), lane_next]
theorem dataQ_all (hk : 1 ≤ k) (hkm : k + m ≤ 255) (hs : s.length = N * (k + m) * (c + 4)) : ∀ j, j ≤ N → (Stp.readTo k m c s j).2 = 0 → dataQ k m c s (j * k) = (Stp.readTo k m c s j).1
  | 0, _, _ => by simp [dataQ, lane_zero, Stp.readTo]
  | j + 1, hj, h => by
    have h1 := readTo_down (j := j) (j + 1) (by omega) h
    have h2 : (readS k m c s j).2 = 0 := by
      rw [Stp.readTo, if_neg (by omega)] at h
      split at h
      · exact absurd h (by assumption)
      · omega
    rw [readTo_next h1 h2, Nat.succ_mul]
    unfold dataQ
    rw [lane_add]
    have e := dataQ_all hk hkm hs j (by omega) h1
    unfold dataQ at e
    rw [e]
    congr 1
    have hl : lostS k m c s j (k + m) ≤ m := by
      refine Decidable.by_contra fun hn => ?_
      rw [readS_12 (by omega)] at h2
      simp at h2
    have hf : fitsS k m c s j (k + m) = true := by
      cases hf : fitsS k m c s j (k + m) with
      | true => rfl
      | false => rw [readS_2 hl hf] at h2; simp at h2
    obtain ⟨D, hD, ha, he, hc⟩ := mend_some hk hkm hs (show j < N by omega) hl
    rw [readS_0 hl hf, take_flat _ _ (by rw [he]; dsimp only; rw [codeL_len]; omega)]
    refine lane_congr fun i hi => ?_
    rw [show (j * k + i) / k = j by rw [Nat.mul_comm, Nat.mul_add_div (by omega), Nat.div_eq_of_lt hi, Nat.add_zero], show (j * k + i) % k = i by rw [Nat.mul_comm, Nat.mul_add_mod, Nat.mod_eq_of_lt hi]]
    rfl
theorem readE_fail {n : Nat} (hz : sizeE k m c n = (((sizeN k m c n : Nat) : Int), 0)) (hs : s.length = sizeN k m c n) (h1 : (Stp.readTo k m c s (stripesN k c n)).2 ≠ 0) : readE k m c n s = ([], [], (Stp.readTo k m c s (stripesN k c n)).2) := by
  unfold readE
  rw [hz]
  dsimp only
  rw [if_neg (by omega), if_neg (by omega), if_neg (by omega)]
  simp only [Int.toNat_natCast]
  rw [if_pos h1]
end
/-- The program's number of stripes. -/
theorem stripes_is {e n k c : Nat} (he : e = k * c) (h : 1 ≤ e) : (n + e - 1) / e = stripesN k c n := by
  subst he
  obtain ⟨h1, h2⟩ := stripes_room k c n h
  generalize k * c = e at *
  generalize stripesN k c n = N at *
  refine Nat.div_eq_of_lt_le (by omega) ?_
  rw [Nat.succ_mul]
  omega
end Stp
end Go.Proofs.YtkfipfhmbhmamaaDoor

namespace Go.Proofs.YtkfipfhmbhmamaaDoor
open Go.RowKit Stp

/-- What Read tells: bytes, numbers and an error. -/
def RdTo23 (w : World) (r : List UInt8 × List Int × Int) (e : Ending) (w' : World) : Prop :=
  ∃ A cA B cB, e = .returned (.tuple #[.slice A r.1.length cA, .slice B r.2.1.length cB, .int .i64 r.2.2]) ∧ Bytes w' w'.heap.size A r.1.length r.1 ∧ IntsAt w' w'.heap.size B r.2.1.length r.2.1 ∧ Ext w w'
theorem rd_nil {w w' : World} {r : List UInt8 × List Int × Int} {er : Int} (h : r = ([], [], er)) (hE : Ext w w') : RdTo23 w r (.returned (.tuple #[.slice none 0 0, .slice none 0 0, .int .i64 er])) w' := by
  subst h
  exact ⟨none, 0, none, 0, rfl, Bytes.none _ _ _, ⟨rfl, .inl rfl⟩, hE⟩

theorem rd_ok {w w' : World} {r : List UInt8 × List Int × Int} {l : List UInt8} {L : List Int} {n q : Nat} {A B : Option Addr} {cA cB : Nat} (h : r = (l, L, 0)) (hl : l.length = n) (hL : L.length = q) (hE : Ext w w') (hb : Bytes w' w'.heap.size A n l) (hI : IntsAt w' w'.heap.size B q L) :
    RdTo23 w r (.returned (.tuple #[.slice A n cA, .slice B q cB, .int .i64 0])) w' := by
  subst h hl hL
  exact ⟨A, cA, B, cB, rfl, hb, hI, hE⟩
theorem boolsExt {w w' : World} {A : Option Addr} {n : Nat} {L : List Bool} (h : BoolsAt w w.heap.size A n L) (hE : Ext w w') : BoolsAt w' w'.heap.size A n L := by
  refine ⟨h.1, h.2.imp_right ?_⟩
  rintro ⟨b, off, e, hb, hc⟩
  exact ⟨b, off, e, Nat.lt_of_lt_of_le hb hE.le, fun i hi => (hE.cell (i := off + i) hb).trans (hc i hi)⟩
attribute [local go_sem ↓] run_mid run_headB
set_option maxHeartbeats 16000000 in
set_option maxRecDepth 100000 in
theorem refRead23_any (k m c n : Int) (A : Option Addr) (ns cap : Nat) (s : List UInt8) (w : World) (hk64 : k ≤ 9223372036854775807) (hb : Bytes w w.heap.size A ns s) (hcap : ns ≤ cap) (hm4 : ns ≤ 4000) :
    Calls Tryd.prog 16 #[.int .i64 k, .int .i64 m, .int .i64 c, .int .i64 n, .slice A ns cap] w (RdTo23 w (readE k m c n s)) := by
  have hsl := hb.1
  have CS := fun W => refSize23_any k m c n W hk64
  by_cases he : (sizeE k m c n).2 = 0
  rotate_left
  · have HR := hide (readE_err (s := s) he)
    have hne : ((sizeE k m c n).2 == 0) = false := by rw [beq_eq_false_iff_ne]; exact he
    generalize (sizeE k m c n).1 = z at *
    generalize (sizeE k m c n).2 = er at *
    clear hb hsl hk64 he
    go_enter Tryd.func16, Tryd.ntmps16
    go_wp2_with fail
    refine (CS _).mono ?_
    rintro e w2 ⟨rfl, rfl⟩
    go_wp2
    go_ret3
    exact rd_nil HR.out (Ext.refl _)
  by_cases hs1 : (ns : Int) < (sizeE k m c n).1
  · have HR := hide (readE_short (s := s) he (by rw [hsl]; exact hs1))
    rw [he] at CS
    generalize (sizeE k m c n).1 = z at *
    clear hb hsl hk64 he
    go_enter Tryd.func16, Tryd.ntmps16
    go_wp2_with fail
    refine (CS _).mono ?_
    rintro e w2 ⟨rfl, rfl⟩
    go_wp2
    go_ret3
    exact rd_nil HR.out (Ext.refl _)
  by_cases hs2 : (sizeE k m c n).1 < (ns : Int)
  · have HR := hide (readE_long (s := s) he (by rw [hsl]; exact hs2))
    rw [he] at CS
    generalize (sizeE k m c n).1 = z at *
    clear hb hsl hk64 he
    go_enter Tryd.func16, Tryd.ntmps16
    go_wp2_with fail
    refine (CS _).mono ?_
    rintro e w2 ⟨rfl, rfl⟩
    go_wp2
    go_ret3
    exact rd_nil HR.out (Ext.refl _)
  obtain ⟨⟨⟨a1, a2, a3, a4⟩, b1, b2, b3, b4⟩, hz1⟩ := size_facts he
  obtain ⟨k, rfl⟩ := Int.eq_ofNat_of_zero_le (show 0 ≤ k by omega)
  obtain ⟨m, rfl⟩ := Int.eq_ofNat_of_zero_le (show 0 ≤ m by omega)
  obtain ⟨c, rfl⟩ := Int.eq_ofNat_of_zero_le (show 0 ≤ c by omega)
  obtain ⟨n, rfl⟩ := Int.eq_ofNat_of_zero_le (show 0 ≤ n by omega)
  simp only [Int.toNat_natCast] at hz1
  have hk1 : 1 ≤ k := by omega
  have hkm : k + m ≤ 255 := by omega
  have hc1 : 1 ≤ c := by omega
  have hc2 : c ≤ 4096 := by omega
  have hss : s.length = sizeN k m c n := by omega
  have hzz : sizeE k m c n = (((sizeN k m c n : Nat) : Int), 0) := Prod.ext hz1 he
  have HStop := hide (fun j (hj : j < stripesN k c n) (h1 : (readTo k m c s j).2 = 0) (h2 : (readS k m c s j).2 ≠ 0) => readE_stop hzz hss hj h1 h2)
  have HEnd := hide (fun (h1 : (readTo k m c s (stripesN k c n)).2 = 0) => readE_end hzz hss h1)
  have hroom := stripes_room k c n (Nat.mul_pos hk1 hc1)
  have hsN : s.length = stripesN k c n * (k + m) * (c + 4) := hss
  rw [hzz] at CS hs1 hs2
  dsimp only at CS hs1 hs2
  obtain ⟨N, hN⟩ : ∃ N, N = stripesN k c n := ⟨_, rfl⟩
  rw [← hN] at HStop HEnd hroom hsN
  have HLen := hide (readTo_len (k := k) (m := m) (c := c) (N := N) (s := s) hk1 hkm hsN)
  have HMend := hide (fun j (hj : j < N) (hl : lostS k m c s j (k + m) ≤ m) => mend_some hk1 hkm hsN hj hl)
  have HPl := hide (fun j i (hj : j < N) (hi : i < k + m) => place_le hsN hj hi)
  have HNext := hide (fun j (h1 : (readTo k m c s j).2 = 0) (h2 : (readS k m c s j).2 = 0) => readTo_next h1 h2)
  obtain ⟨t, ht⟩ : ∃ t, t = k + m := ⟨_, rfl⟩
  obtain ⟨d, hd⟩ : ∃ d, d = c + 4 := ⟨_, rfl⟩
  have hnT : ns = N * (t * d) := by rw [ht, hd, ← Nat.mul_assoc, ← hsN, hsl]
  rw [← ht, ← hd] at HPl
  generalize readE (k : Int) (m : Int) (c : Int) (n : Int) s = res at *
  generalize sizeN k m c n = zn at *
  obtain rfl : zn = ns := by omega
  have ht255 : t ≤ 255 := by omega
  have htk : k ≤ t := by omega
  have hd5 : 5 ≤ d := by omega
  have hd9 : d ≤ 4100 := by omega
  have ht1 : 1 ≤ t := by omega
  obtain ⟨T, hT⟩ : ∃ T, T = t * d := ⟨_, rfl⟩
  have hT9 : T ≤ 255 * 4100 := by rw [hT]; exact Nat.mul_le_mul ht255 hd9
  have hT1 : 1 ≤ T := by rw [hT]; exact Nat.mul_pos ht1 (by omega)
  have hkc9 : k * c ≤ 255 * 4096 := Nat.mul_le_mul (by omega) hc2
  rw [← hT] at hnT
  have HnT := hide hnT
  have pt : (k : Int) + (m : Int) = (t : Int) := by omega
  have pd : (c : Int) + 4 = (d : Int) := by omega
  have pT : (t : Int) * (d : Int) = (T : Int) := by rw [hT]; exact (Int.natCast_mul _ _).symm
  have HT := hide hT
  have Hd := hide hd
  have Ht := hide ht
  have HB := hide hb
  have HSl := hide hsl
  have qT : (T : Int) ≤ 1045500 := by omega
  have qt : (t : Int) ≤ 255 := by omega
  have qd : (d : Int) ≤ 4100 ∧ (5 : Int) ≤ (d : Int) := by omega
  obtain ⟨qd1, qd2⟩ := qd
  have qd3 : ((d : Int) == 0) = false := by rw [beq_eq_false_iff_ne]; omega
  have hz5 : ¬ (zn : Int) < (zn : Int) := by omega
  clear hN hT hd ht hb hsl hz1 he hzz hss hsN hnT hs1 hs2 a1 a2 a3 a4 b1 b2 b3 b4 hk64
  go_enter Tryd.func16, Tryd.ntmps16
  go_wp2_with fail
  refine (CS _).mono ?_
  rintro e w2 ⟨rfl, rfl⟩
  clear CS
  go_wp2_with fail
  go_loopw [15, 16, 17] (fun vo vb z wr => ∃ j : Nat, j ≤ N ∧ z = .int .i64 ((j * T : Nat) : Int) ∧ (readTo k m c s j).2 = 0 ∧ OwnB wr w.heap.size vo (readTo k m c s j).1 ∧ OwnI wr w.heap.size vb (badQ c s (j * t)) ∧ Ext w wr) (fun _ _ z _ => zn - (intOf z).toNat)
  case atStart => exact ⟨0, by omega, by simp, rfl, OwnB.nil _ _, by rw [Nat.zero_mul]; exact OwnI.nil _ _, Ext.refl _⟩
  case round =>
    obtain ⟨j, hj, rfl, hok, hO, hI, hE⟩ := hrel
    by_cases hlt : j < N
    · have hjT : j * T + T ≤ zn := by rw [HnT.out, ← Nat.succ_mul]; exact Nat.mul_le_mul_right _ hlt
      obtain ⟨aj, haj⟩ : ∃ a, a = j * T := ⟨_, rfl⟩
      rw [← haj] at hjT ⊢
      have HAJ := hide haj
      have hajI : (aj : Int) < (zn : Int) := by omega
      have haj9 : (aj : Int) ≤ 4000 := by omega
      have HStopJ := hide (HStop.out j hlt hok)
      have HNextJ := hide (HNext.out j hok)
      have HMendJ := hide (HMend.out j hlt)
      have HPlJ := hide (show ∀ i, i < t → (j * t + i) * d + d ≤ zn from fun i hi => by rw [← HSl.out]; exact HPl.out j i hlt hi)
      have HPn := hide (show ∀ i, partsS k m c s j (i + 1) = partsS k m c s j i ++ [cutQ c s (j * t + i)] from fun i => by rw [Ht.out]; exact parts_next ..)
      have HGn := hide (show ∀ i, goodS k m c s j (i + 1) = goodS k m c s j i ++ [goodQ c s (j * t + i)] from fun i => by rw [Ht.out]; exact goods_next ..)
      have HLn := hide (show ∀ i, lostS k m c s j (i + 1) = lostS k m c s j i + if goodQ c s (j * t + i) = true then 0 else 1 from fun i => by rw [Ht.out]; exact lost_next ..)
      have HBn := hide (fun q => bad_next c s q)
      have HO := hide hO
      have HI := hide hI
      have HE := hide hE
      clear haj hO hI hE HStop HNext HMend HPl
      obtain ⟨wa, rfl⟩ : ∃ W, W = wr := ⟨_, rfl⟩
      have HU := hide (show ∀ u ∈ [u16.ownBlock, (Value.slice none 0 0).ownBlock], ∀ q, u = some q → q < wa.heap.size from fun u hu q e => by
        rcases List.mem_cons.1 hu with h | h
        · subst h; exact (HI.out.lt q e).2
        · rw [List.mem_singleton] at h
          subst h
          cases e)
      go_wp2_with fail
      go_loopw [16, 18, 19, 20, 21] (fun vb vp vg zl z wr => ∃ i : Nat, i ≤ t ∧ z = .int .i64 (i : Int) ∧ zl = .int .i64 ((lostS k m c s j i : Nat) : Int) ∧ OwnI wr w.heap.size vb (badQ c s (j * t + i)) ∧ RowsL wr w.heap.size wr.heap.size vp (partsS k m c s j i) [vb.ownBlock, vg.ownBlock] ∧ OwnT wr w.heap.size vg (goodS k m c s j i) ∧ OwnB wr w.heap.size u15 (readTo k m c s j).1 ∧ Ext w wr) (fun _ _ _ _ z _ => t - (intOf z).toNat)
      case atStart => exact ⟨0, by omega, rfl, rfl, HI.out, RowsL.start _ _ _ _ HU.out, OwnT.nil _ _, HO.out, HE.out⟩
      case round =>
        clear HI HO HE HU
        obtain ⟨i, hi, rfl, rfl, hI, hRL, hG, hO, hE⟩ := hrel
        by_cases hit : i < t
        · have hitI : (i : Int) < (t : Int) := by omega
          have hpl := HPlJ.out i hit
          have hPn := HPn.out i
          have hGn := HGn.out i
          have hLn := HLn.out i
          obtain ⟨q, hq⟩ : ∃ q, q = j * t + i := ⟨_, rfl⟩
          have HQ := hide hq
          have hBn := HBn.out q
          rw [← hq] at hpl hPn hGn hLn
          obtain ⟨fr, hfr⟩ : ∃ x, x = q * d := ⟨_, rfl⟩
          have hfa : fr = aj + i * d := by rw [hfr, hq, Nat.add_mul, HAJ.out, HT.out, Nat.mul_assoc]
          obtain ⟨id_, hid⟩ : ∃ x, x = i * d := ⟨_, rfl⟩
          rw [← hid] at hfa
          have p1 : (i : Int) * (d : Int) = (id_ : Int) := by rw [hid]; exact (Int.natCast_mul _ _).symm
          have hpart : partQ c s q = (s.drop fr).take d := by unfold partQ; rw [hfr, Hd.out]
          have p5 : (fr : Int).tdiv (d : Int) = (q : Int) := by rw [Int.tdiv_eq_ediv_of_nonneg (by omega), hfr, Int.natCast_mul]; exact Int.mul_ediv_cancel _ (by omega)
          have hq8 : q ≤ 800 := by have := Nat.mul_le_mul_left q hd5; omega
          rw [← hfr] at hpl
          obtain ⟨f1, hf1⟩ : ∃ x, x = fr + c := ⟨_, rfl⟩
          obtain ⟨f2, hf2⟩ : ∃ x, x = fr + d := ⟨_, rfl⟩
          have p2 : (aj : Int) + (id_ : Int) = (fr : Int) := by omega
          have p3 : (fr : Int) + (c : Int) = (f1 : Int) := by omega
          have p4 : (f1 : Int) + 4 = (f2 : Int) := by have := Hd.out; omega
          have r1 : (0 : Int) ≤ (fr : Int) := by omega
          have r2 : (fr : Int) ≤ (f2 : Int) := by omega
          have r3 : (f2 : Int) ≤ (cap : Int) := by omega
          have r4 : (f2 : Int) ≤ 4000 := by omega
          have r5 : (id_ : Int) ≤ 4000 := by omega
          have r6 : (f1 : Int) ≤ 4000 := by omega
          have hBq : Bytes w w.heap.size (cutAt A cap fr) (f2 - fr) (partQ c s q) := by
            rw [hpart, show f2 - fr = d by omega]
            exact (HB.out.drop (by omega) hcap).take (by omega)
          have CC := refCut_any (cutAt A cap fr) (f2 - fr) (cap - fr) (partQ c s q) wr (by omega) (by omega) (hE.bytes hBq)
          unfold CutB at CC
          have hx : cutQ c s q = Crc.cutBytes (partQ c s q) := rfl
          have hcl := cut_le c s q
          have hgd : goodQ c s q = decide (Crc.cutErr (partQ c s q) = 0) := rfl
          rw [hx] at hPn hcl
          generalize Crc.cutErr (partQ c s q) = ce at *
          generalize Crc.cutBytes (partQ c s q) = x at *
          have hlP : (partsS k m c s j i).length ≤ 1000 := by rw [parts_len]; omega
          have hlG : (goodS k m c s j i).length ≤ 1000 := by rw [goods_len]; omega
          have hlB : (badQ c s q).length ≤ 1000 := Nat.le_trans (bad_len c s q) (by omega)
          have hqn : j * t + (i + 1) = q + 1 := by omega
          rw [← hq] at hI
          have HQn := hide hqn
          clear hq hfr hfa hid hf1 hf2 hpart hx hBq hpl hqn
          by_cases hce : ce = 0
          · subst hce
            rw [decide_eq_true rfl] at hgd
            rw [hgd] at hGn hLn hBn
            rw [if_pos rfl, Nat.add_zero] at hLn
            rw [if_pos rfl, List.append_nil] at hBn
            have HPi := hide hPn
            have HGi := hide hGn
            have HLi := hide hLn
            have HBi := hide hBn
            clear hPn hGn hLn hBn hgd
            go_wp2_with fail
            refine CC.mono ?_
            rintro e6 w6 ⟨v6, rfl, hO6, hE6⟩
            obtain ⟨A6, c6, rfl, -, -, -⟩ := hO6.form
            have hrow := hO6.row
            have hnew := NewX.own hO6
            have hRL6 := hRL.ext hE6
            have hH6 := hE6.le
            have hT6 := hG.ext hE6
            have hI6 := hI.ext hE6
            have hOo6 := hO.ext hE6
            have hF6 := hE.trans hE6
            clear CC hO6 hE6 hRL hG hI hO hE
            go_wp2_with (first
              | (at_builtin; refine wpList_appRL rfl (.tmp 85) (.tmp 87) rfl rfl hRL6 hH6 hrow hnew rfl hlP hF6.le ?_; intro v7 w7 hRL7 hG7 hj7; have hEa := extNew w6 (.cells #[.slice A6 x.length c6] 27); have hRLa := hRL6.ext hEa; have hT7 := hRLa.keptT (hT6.ext hEa) hG7; have hI7 := hRLa.keptI (hI6.ext hEa) hG7; have hO7 := hRLa.keptB (hOo6.ext hEa) hG7; have hF7 : Ext w w7 := Below.grown (hF6.trans hEa) hG7 (hF6.trans hEa).le hj7; have hEb := extNew w7 (.cells #[.bool true] 4); have hTb := hT7.ext hEb; have hRLb := hRL7.ext hEb; have hIb := hI7.ext hEb; have hOb := hO7.ext hEb; have hFb := hF7.trans hEb; clear hRL6 hH6 hrow hnew hRLa hT6 hI6 hOo6 hG7 hF6 hT7 hRL7 hI7 hO7)
              | (at_builtin; refine wpList_appT rfl (.tmp 89) (.tmp 92) rfl rfl true hTb rfl hlG hF7.le ?_; intro v8 w8 hT8 hG8 hN8; replace hG8 : (w7.alloc (.cells #[.bool true] 4)).grownBy w8 u19.ownBlock := hG8; replace hN8 : v8.ownBlock = u19.ownBlock ∨ v8.ownBlock = some (w7.heap.size + 1) := hN8; have hI8 := World.ownsRow.kept hIb hG8 (ownsApartS hIb hTb (by decide)); have hO8 := World.ownsRow.kept hOb hG8 (ownsApartS hOb hTb (by decide)); have hF8 : Ext w w8 := Below.grown hFb hG8 hFb.le (fun g hg => (hTb.lt g hg).1); have hRL8 := hRLb.side (us' := [u16.ownBlock, v8.ownBlock]) hEb.le hG8 (by simp) (hRLb.apartT hTb) hN8 (by rw [World.size_alloc]; exact Nat.le_refl _) (fun g hg => (hT8.lt g hg).2) (fun u hu => by simp at hu ⊢; rcases hu with rfl | rfl <;> simp)))
            go_roundw
            case rel => exact ⟨i + 1, by omega, by go_num, by rw [HLi.out]; rfl, by rw [HQn.out, HBi.out]; exact hI8, by rw [HPi.out]; exact hRL8, by rw [HGi.out]; exact hT8, hO8, hF8⟩
            case measure => simp [intOf]; omega
          · have hceb : (ce == 0) = false := by rw [beq_eq_false_iff_ne]; exact hce
            rw [decide_eq_false hce] at hgd
            rw [hgd] at hGn hLn hBn
            rw [if_neg (by decide)] at hLn hBn
            have HPi := hide hPn
            have HGi := hide hGn
            have HLi := hide hLn
            have HBi := hide hBn
            have hL9 : lostS k m c s j i ≤ 255 := by
              have := good_many k m c s j i
              omega
            clear hPn hGn hLn hBn hgd hce
            generalize lostS k m c s j i = lo at *
            have hlo9 : (lo : Int) ≤ 255 := by omega
            go_wp2_with fail
            refine CC.mono ?_
            rintro e6 w6 ⟨v6, rfl, hO6, hE6⟩
            obtain ⟨A6, c6, rfl, -, -, -⟩ := hO6.form
            have hrow := hO6.row
            have hnew := NewX.own hO6
            have hRL6 := hRL.ext hE6
            have hH6 := hE6.le
            have hT6 := hG.ext hE6
            have hI6 := hI.ext hE6
            have hOo6 := hO.ext hE6
            have hF6 := hE.trans hE6
            clear CC hO6 hE6 hRL hG hI hO hE
            go_wp2_with (first
              | (at_builtin; refine wpList_appRL rfl (.tmp 85) (.tmp 87) rfl rfl hRL6 hH6 hrow hnew rfl hlP hF6.le ?_; intro v7 w7 hRL7 hG7 hj7; have hEa := extNew w6 (.cells #[.slice A6 x.length c6] 27); have hRLa := hRL6.ext hEa; have hT7 := hRLa.keptT (hT6.ext hEa) hG7; have hI7 := hRLa.keptI (hI6.ext hEa) hG7; have hO7 := hRLa.keptB (hOo6.ext hEa) hG7; have hF7 : Ext w w7 := Below.grown (hF6.trans hEa) hG7 (hF6.trans hEa).le hj7; have hEb := extNew w7 (.cells #[.bool false] 4); have hTb := hT7.ext hEb; have hRLb := hRL7.ext hEb; have hIb := hI7.ext hEb; have hOb := hO7.ext hEb; have hFb := hF7.trans hEb; clear hRL6 hH6 hrow hnew hRLa hT6 hI6 hOo6 hG7 hF6 hT7 hRL7 hI7 hO7)
              | (at_builtin; refine wpList_appT rfl (.tmp 89) (.tmp 92) rfl rfl false hTb rfl hlG hF7.le ?_; intro v8 w8 hT8 hG8 hN8; replace hG8 : (w7.alloc (.cells #[.bool false] 4)).grownBy w8 u19.ownBlock := hG8; replace hN8 : v8.ownBlock = u19.ownBlock ∨ v8.ownBlock = some (w7.heap.size + 1) := hN8; have hI8 := World.ownsRow.kept hIb hG8 (ownsApartS hIb hTb (by decide)); have hO8 := World.ownsRow.kept hOb hG8 (ownsApartS hOb hTb (by decide)); have hF8 : Ext w w8 := Below.grown hFb hG8 hFb.le (fun g hg => (hTb.lt g hg).1); have hRL8 := hRLb.side (us' := [u16.ownBlock, v8.ownBlock]) hEb.le hG8 (by simp) (hRLb.apartT hTb) hN8 (by rw [World.size_alloc]; exact Nat.le_refl _) (fun g hg => (hT8.lt g hg).2) (fun u hu => by simp at hu ⊢; rcases hu with rfl | rfl <;> simp); have hEc := extNew w8 (.cells #[.int .i64 (q : Int)] 3); have hIc : OwnI (w8.alloc (.cells #[.int .i64 (q : Int)] 3)) w.heap.size u16 (badQ c s q) := OwnI.ext hI8 hEc; have hTc := hT8.ext hEc; have hRLc := hRL8.ext hEc; have hOc : OwnB _ w.heap.size u15 _ := OwnB.ext hO8 hEc; have hFc := hF8.trans hEc; clear hTb hRLb hIb hOb hG8 hI8 hT8 hRL8 hO8)
              | (at_builtin; refine wpList_appI' rfl (.tmp 96) (.tmp 101) rfl rfl (q : Int) hIc rfl hlB hF8.le ?_; intro v9 w9 hI9 hG9 hN9; replace hG9 : (w8.alloc (.cells #[.int .i64 (q : Int)] 3)).grownBy w9 u16.ownBlock := hG9; replace hN9 : v9.ownBlock = u16.ownBlock ∨ v9.ownBlock = some (w8.heap.size + 1) := hN9; have hT9 : OwnT w9 w.heap.size v8 _ := World.ownsRow.kept hTc hG9 (ownsApartS hTc hIc (by decide)); have hO9 : OwnB w9 w.heap.size u15 _ := World.ownsRow.kept hOc hG9 (ownsApartS hOc hIc (by decide)); have hF9 : Ext w w9 := Below.grown hFc hG9 hFc.le (fun g hg => (hIc.lt g hg).1); have hRL9 := hRLc.side (us' := [v9.ownBlock, v8.ownBlock]) hEc.le hG9 (by simp) (hRLc.apartI hIc) hN9 (by rw [World.size_alloc]; exact Nat.le_refl _) (fun g hg => (OwnI.lt hI9 g hg).2) (fun u hu => by simp at hu ⊢; rcases hu with rfl | rfl <;> simp)))
            go_roundw
            case rel => exact ⟨i + 1, by omega, by go_num, by rw [HLi.out]; go_num, by rw [HQn.out, HBi.out]; exact hI9, by rw [HPi.out]; exact hRL9, by rw [HGi.out]; exact hT9, hO9, hF9⟩
            case measure => simp [intOf]; omega
        · obtain rfl : t = i := by omega
          have hitI : ¬ (t : Int) < (t : Int) := by omega
          by_cases hbig : m < lostS k m c s j t
          · have hbigI : (m : Int) < ((lostS k m c s j t : Nat) : Int) := by omega
            have hS : readS k m c s j = ([], 12) := readS_12 (by rw [← Ht.out]; exact hbig)
            have HR := hide (show res = ([], [], 12) by rw [HStopJ.out (by rw [hS]; decide), hS])
            generalize lostS k m c s j t = lo at *
            clear hS hbig hRL hG hI hO HStopJ HNextJ HMendJ HPn HGn HLn HBn
            go_wp2_with fail
            go_ret3
            exact rd_nil HR.out hE
          · have hbigI : ¬ (m : Int) < ((lostS k m c s j t : Nat) : Int) := by omega
            obtain ⟨D, hD, ha, hme, hDc⟩ := HMendJ.out (by rw [← Ht.out]; omega)
            rw [← Ht.out] at hme
            obtain ⟨Ap, cp, hvp, -, -, hRp⟩ := hRL.rows
            obtain ⟨Ag, cg, hvg, -, hBg⟩ := hG.form
            have CM := refMendN_any (k : Int) (m : Int) Ap Ag cp cg (partsS k m c s j t) (goodS k m c s j t) wr (by omega) hRp hBg (by rw [parts_len]; omega) (fun x hx => by rw [parts_len] at hx; rw [Stp.parts_at hx]; have := cut_le c s (j * (k + m) + x); omega)
            rw [hme, parts_len, goods_len] at CM
            rw [parts_len] at hvp
            rw [goods_len] at hvg
            subst hvp hvg
            obtain ⟨Z, hZ⟩ : ∃ Z, Z = codeL k t D := ⟨_, rfl⟩
            rw [← hZ] at CM hme
            have HZl := hide (show Z.length = t by rw [hZ, codeL_len])
            have HZr := hide (show ∀ i, i < t → (Z.getD i []).length = c from fun i hi => by rw [hZ, codeL_at hi, rowB_len, hDc])
            have HFit := hide (show ∀ i, fitsS k m c s j (i + 1) = (fitsS k m c s j i && (!(goodQ c s (j * t + i)) || decide (Z.getD i [] = cutQ c s (j * t + i)))) from fun i => by
              have := fits_next k m c s j i
              rw [← Ht.out, hme] at this
              exact this)
            have HS0 := hide (show fitsS k m c s j t = true → readS k m c s j = ((Z.take k).flatten, 0) from fun hf => by
              have := readS_0 (k := k) (m := m) (c := c) (s := s) (j := j) (by rw [← Ht.out]; omega) (by rw [← Ht.out]; exact hf)
              rw [← Ht.out, hme] at this
              exact this)
            have HS2 := hide (show ∀ i, i < t → goodQ c s (j * t + i) = true → Z.getD i [] ≠ cutQ c s (j * t + i) → res = ([], [], 2) from fun i hi h1 h2 => by
              have h3 := fits_not (k := k) (m := m) (c := c) (s := s) (j := j) (i := i) (by rw [← Ht.out]; exact hi) (by rw [← Ht.out, hme]; exact ⟨h1, h2⟩)
              have h4 := readS_2 (by rw [← Ht.out]; omega) h3
              rw [HStopJ.out (by rw [h4]; decide), h4])
            have HPt := hide (show ∀ i, i < t → (partsS k m c s j t).getD i [] = cutQ c s (j * t + i) from fun i hi => by rw [Stp.parts_at hi, ← Ht.out])
            have HGt := hide (show ∀ i, i < t → (goodS k m c s j t).getD i false = goodQ c s (j * t + i) from fun i hi => by rw [goods_at hi, ← Ht.out])
            have HF0 := hide (show fitsS k m c s j 0 = true from rfl)
            have hPl := parts_len k m c s j t
            have hGl := goods_len k m c s j t
            unfold MadeNE at CM
            dsimp only at CM
            generalize lostS k m c s j t = lo at *
            generalize partsS k m c s j t = P at *
            generalize goodS k m c s j t = G at *
            rw [hPl] at hRp
            rw [hGl] at hBg
            have hltO := hO.lt
            have hbW := hE.le
            clear hbig hD ha hme hDc hZ hRL hG HMendJ HPn HGn HLn HBn HStopJ hPl hGl
            go_wp2_with fail
            refine CM.mono ?_
            rintro e5 w5 ⟨v5, rfl, hN5, hE5⟩
            obtain ⟨Az, cz, hvz, -, -, hRz⟩ := hN5.toP.form
            rw [HZl.out] at hvz hRz
            subst hvz
            have HRp := hide (hRp.ext hE5)
            have HBg := hide (boolsExt hBg hE5)
            have HRz := hide hRz
            have HT5 := hide (TwoL.ofN hN5 (hO.ext hE5) hbW (fun q hq => (hltO q hq).2))
            have HI5 := hide (hI.ext hE5)
            have HF5 := hide (hE.trans hE5)
            clear CM hN5 hE5 hRz hRp hBg hltO hbW hI hO hE
            go_wp2_with fail
            go_loopw [27] (fun z wr => ∃ i : Nat, i ≤ t ∧ z = .int .i64 (i : Int) ∧ fitsS k m c s j i = true ∧ Ext w5 wr) (fun z _ => t - (intOf z).toNat)
            case atStart => exact ⟨0, by omega, rfl, HF0.out, Ext.refl _⟩
            case round =>
              obtain ⟨i, hi, rfl, hfit, hEr⟩ := hrel
              by_cases hit : i < t
              · have hitI2 : (i : Int) < (t : Int) := by omega
                have hi0 : (0 : Int) ≤ (i : Int) := by omega
                rcases (boolsExt HBg.out hEr).2 with h0 | ⟨g1, o1, rfl, -, hc1⟩
                · omega
                rcases (HRz.out.ext hEr).2 with h0 | ⟨g2, o2, rfl, -, hc2'⟩
                · omega
                rcases (HRp.out.ext hEr).2 with h0 | ⟨g3, o3, rfl, -, hc3⟩
                · omega
                have kg := hc1 i hit
                obtain ⟨x, k1, Ax, kx, hx, -, -, hx4⟩ := hc2' i hit
                obtain ⟨y, k2, Ay, ky, hy, -, -, hy4⟩ := hc3 i hit
                subst hx
                subst hy
                have v1 := fun m => conv_bytes kx (((Ext.refl wr).drewN m).bytes hx4) (fun h => by subst h; rcases hx4.2 with h | ⟨_, _, h, _⟩; exact h; cases h)
                have v2 := fun m => conv_bytes ky (((Ext.refl wr).drewN m).bytes hy4) (fun h => by subst h; rcases hy4.2 with h | ⟨_, _, h, _⟩; exact h; cases h)
                have hFi := HFit.out i
                have hS2 := HS2.out i hit
                rw [HGt.out i hit] at kg
                rw [HPt.out i hit] at k2 v2
                rw [hfit] at hFi
                generalize Z.getD i [] = lx at *
                generalize cutQ c s (j * t + i) = ly at *
                generalize goodQ c s (j * t + i) = gb at *
                have HFi := hide hFi
                have HS2i := hide hS2
                clear hc1 hc2' hc3 hx4 hy4 hFi hS2 hfit
                cases gb with
                | false =>
                  go_wp2_with fail
                  go_quiet (fail)
                  go_wp2
                  go_roundw
                  case rel => exact ⟨i + 1, by omega, by go_num, by rw [HFi.out]; rfl, hEr.drewN _⟩
                  case measure => simp [intOf]; omega
                | true =>
                  by_cases he : lx = ly
                  · subst he
                    go_wp2_with fail
                    go_quiet (fail)
                    go_wp2
                    go_roundw
                    case rel => exact ⟨i + 1, by omega, by go_num, by rw [HFi.out]; simp, hEr.drewN _⟩
                    case measure => simp [intOf]; omega
                  · have he' : (lx == ly) = false := by simpa using he
                    have HR := hide (HS2i.out rfl he)
                    clear he HFi HS2i
                    go_wp2_with fail
                    go_quiet (fail)
                    go_wp2
                    go_ret3
                    exact rd_nil HR.out (HF5.out.trans (hEr.drewN _))
              · obtain rfl : t = i := by omega
                have hitI2 : ¬ (t : Int) < (t : Int) := by omega
                have HS1 := hide (HS0.out hfit)
                have hXl := HLen.out j (by omega) hok
                have hkcT : k * c ≤ T := by rw [HT.out]; exact Nat.mul_le_mul htk (by have := Hd.out; omega)
                have hX4 : (readTo k m c s j).1.length ≤ 4000 := by
                  have := Nat.mul_le_mul_left j hkcT
                  have := HAJ.out
                  omega
                obtain ⟨X, hX⟩ : ∃ X, X = (readTo k m c s j).1 := ⟨_, rfl⟩
                have hT0 := (HT5.out.ext hEr).up hEr.le
                have hI0 := HI5.out.ext hEr
                have hF0 := HF5.out.trans hEr
                rw [← hX] at hT0 hX4 hXl
                have HNx := hide (show (readS k m c s j).2 = 0 → readTo k m c s (j + 1) = (X ++ (readS k m c s j).1, 0) by rw [hX]; exact HNextJ.out)
                have HFlat := hide (show ∀ i, i < t → (Z.take (i + 1)).flatten = (Z.take i).flatten ++ Z.getD i [] from fun i hi => flat_takeS Z i (by rw [HZl.out]; exact hi))
                have HFl2 := hide (show ∀ i, i ≤ t → (Z.take i).flatten.length ≤ 255 * 4096 from fun i hi => by
                  rw [flat_rows (c := c) _ fun x hx => by rw [List.length_take, HZl.out] at hx; rw [getD_takeP (by omega), HZr.out x (by omega)], List.length_take]
                  exact Nat.mul_le_mul (by have := HZl.out; omega) hc2)
                have HTk0 := hide (show (Z.take 0).flatten = [] by simp)
                clear hX hXl HS0 HS2 HT5 HI5 HF5 HRp HBg HRz HFit HPt HGt HF0 hfit hEr HNextJ
                go_wp2_with fail
                go_loopw [15, 28] (fun vo z wr => ∃ i : Nat, i ≤ k ∧ z = .int .i64 (i : Int) ∧ TwoL wr w.heap.size wr.heap.size (.slice Az t cz) Z vo (X ++ (Z.take i).flatten) ∧ OwnI wr w.heap.size u16 (badQ c s (j * t + t)) ∧ Ext w wr) (fun _ z _ => k - (intOf z).toNat)
                case atStart => exact ⟨0, by omega, rfl, by rw [HTk0.out, List.append_nil]; exact hT0, hI0, hF0⟩
                case round =>
                  clear hT0 hI0 hF0
                  obtain ⟨i, hi, rfl, hT, hI, hE⟩ := hrel
                  by_cases hik : i < k
                  · have hikI : (i : Int) < (k : Int) := by omega
                    have hikT : (i : Int) < (t : Int) := by omega
                    have hi0 : (0 : Int) ≤ (i : Int) := by omega
                    obtain ⟨A8, c8, hv8, -, -, hR8⟩ := hT.rows
                    rw [HZl.out] at hv8
                    simp only [Value.slice.injEq] at hv8
                    obtain ⟨rfl, -, rfl⟩ := hv8
                    rcases hR8.2 with h0 | ⟨g, o, rfl, hg, hcl⟩
                    · rw [HZl.out] at h0; omega
                    obtain ⟨x, kx, Ax, kkx, rfl, -, -, hbx⟩ := hcl i (by rw [HZl.out]; omega)
                    rw [HZr.out i (by omega)] at kx hbx
                    have HFi := hide (show X ++ (Z.take (i + 1)).flatten = (X ++ (Z.take i).flatten) ++ Z.getD i [] by rw [HFlat.out i (by omega), List.append_assoc])
                    have hfit : (X ++ (Z.take i).flatten).length + c ≤ 140737488355328 := by rw [List.length_append]; have := HFl2.out i (by omega); omega
                    have hB := hE.le
                    have hown := hT.own
                    generalize Z.getD i [] = D at *
                    generalize X ++ (Z.take i).flatten = Y at *
                    clear hcl hR8
                    go_wp2_with (at_builtin; refine wpList_appTB rfl (.tmp 145) (.tmp 149) rfl rfl hT rfl hbx hfit hB ?_; intro v7 w7 hT7 hG7 hj7; replace hG7 : wr.grownBy w7 u15.ownBlock := hG7)
                    have hI7 : OwnI w7 w.heap.size u16 (badQ c s (j * t + t)) := World.ownsRow.kept hI hG7 (ownsApartS hI hown (by decide))
                    have hF7 : Ext w w7 := Below.grown hE hG7 hB hj7
                    go_roundw
                    case rel => exact ⟨i + 1, by omega, by go_num, by rw [HFi.out]; exact hT7, hI7, hF7⟩
                    case measure => simp [intOf]; omega
                  · obtain rfl : k = i := by omega
                    have hikI : ¬ (k : Int) < (k : Int) := by omega
                    have hO := hT.own
                    have HN1 := hide (show readTo k m c s (j + 1) = (X ++ (Z.take k).flatten, 0) by rw [HNx.out (by rw [HS1.out]), HS1.out])
                    generalize X ++ (Z.take k).flatten = Y at *
                    clear hT
                    go_wp2_with fail
                    go_roundw
                    case rel => exact ⟨j + 1, by omega, by rw [Nat.succ_mul, ← HAJ.out]; go_num, by rw [HN1.out], by rw [HN1.out]; exact hO, by rw [Nat.succ_mul]; exact hI, hE⟩
                    case measure => simp [intOf]; omega
    · obtain rfl : N = j := by omega
      have hres := HEnd.out hok
      rw [← Ht.out] at hres
      have hXl := HLen.out N (Nat.le_refl _) hok
      have hnI : ¬ ((N * T : Nat) : Int) < (zn : Int) := by have := HnT.out; omega
      generalize (readTo k m c s N).1 = X at *
      have hnX : n ≤ X.length := by rw [hXl]; exact hroom.1
      obtain ⟨A1, c1, rfl, hc1', hm1, hbX⟩ := hO.form
      obtain ⟨B1, cb, hvb, -, hIb⟩ := OwnI.form hI
      subst hvb
      have HRes := hide hres
      have HIb := hide hIb
      have HBX := hide hbX
      have HOk := hide hok
      have hkcT : k * c ≤ T := by rw [HT.out]; exact Nat.mul_le_mul htk (by have := Hd.out; omega)
      have hx4 : X.length ≤ 4000 := by have := Nat.mul_le_mul_left N hkcT; have := HnT.out; omega
      obtain ⟨lx, hlx⟩ : ∃ l, l = X.length := ⟨_, rfl⟩
      have hlx4 : (lx : Int) ≤ 4000 := by omega
      have hbh := Ef.bytes_head (c := c1) hbX hnX hc1'
      rw [← hlx] at hnX hbX hc1' HBX ⊢
      have HLx := hide hlx
      have HBh := hide hbh
      have HBl := hide (bad_len c s (N * t))
      have HIl := hide (show ∃ q, q = (badQ c s (N * t)).length from ⟨_, rfl⟩)
      generalize N * T = y at *
      clear hres hkcT hx4 hXl hbX hO hI hIb hok hlx hbh hroom HEnd HStop HNext HMend HPl HLen HnT
      obtain ⟨wb, rfl⟩ : ∃ W, W = wr := ⟨_, rfl⟩
      have HE := hide hE
      clear hE
      go_wp2_with fail
      go_loopw [29] (fun z wr => ∃ i : Nat, n ≤ i ∧ i ≤ lx ∧ z = .int .i64 (i : Int) ∧ (∀ x, n ≤ x → x < i → X.getD x 0 = 0) ∧ Ext wb wr) (fun z _ => lx - (intOf z).toNat)
      case atStart => exact ⟨n, Nat.le_refl _, hnX, rfl, fun x h1 h2 => absurd h1 (by omega), Ext.refl _⟩
      case round =>
        obtain ⟨i, hni, hi, rfl, hz, hEr⟩ := hrel
        have HZ := hide hz
        clear hz
        by_cases hil : i < lx
        · have hilI : (i : Int) < (lx : Int) := by omega
          have hi0 : (0 : Int) ≤ (i : Int) := by omega
          rcases (hEr.bytes HBX.out).2 with h0 | ⟨g, o, rfl, -, hcx⟩
          · omega
          have kx := hcx i hil
          obtain ⟨by_, hby⟩ : ∃ b, b = X.getD i 0 := ⟨_, rfl⟩
          rw [← hby] at kx
          have HBy := hide hby
          clear hby hcx
          by_cases hb0 : by_ = 0
          · subst hb0
            have kx : _ = some (Value.int .u8 0) := kx
            go_wp2_with fail
            go_roundw
            case rel => exact ⟨i + 1, by omega, by omega, by go_num, fun x h1 h2 => by
              by_cases e : x = i
              · rw [e]; exact HBy.out.symm
              · exact HZ.out x h1 (by omega), hEr⟩
            case measure => simp [intOf]; omega
          · have hbn : ((by_.toNat : Int) == 0) = false := by
              rw [beq_eq_false_iff_ne]
              intro e
              exact hb0 (UInt8.toNat_inj.1 (by simpa using e))
            have HR := hide (show res = ([], [], 2) by
              rw [HRes.out, if_neg]
              intro hp
              unfold padded at hp
              rw [List.all_eq_true] at hp
              have h1 := hp by_ (by rw [HBy.out, List.getD_eq_getElem?_getD, List.getElem?_eq_getElem (by have := HLx.out; omega)]; exact List.mem_drop_iff_getElem.2 ⟨i - n, by have := HLx.out; omega, by simp [show n + (i - n) = i by omega]⟩)
              exact hb0 (by simpa using h1))
            clear hb0
            go_wp2_with fail
            go_ret3
            exact rd_nil HR.out (HE.out.trans hEr)
        · obtain rfl : lx = i := by omega
          have hilI : ¬ (lx : Int) < (lx : Int) := by omega
          have hn0 : (0 : Int) ≤ (n : Int) := by omega
          have hnc : (n : Int) ≤ (c1 : Int) := by omega
          have HR := hide (show res = (X.take n, badQ c s (N * t), 0) by
            rw [HRes.out, if_pos]
            unfold padded
            rw [List.all_eq_true]
            intro x hx
            obtain ⟨q, hq, rfl⟩ := List.mem_iff_getElem.1 hx
            rw [List.length_drop] at hq
            have h1 := HZ.out (n + q) (by omega) (by have := HLx.out; omega)
            rw [List.getD_eq_getElem?_getD, List.getElem?_eq_getElem (by omega)] at h1
            simpa using h1)
          have HTl := hide (show (X.take n).length = n by rw [List.length_take]; have := HLx.out; omega)
          go_wp2_with fail
          go_ret3
          exact rd_ok HR.out HTl.out rfl ((HE.out.trans hEr)) (hEr.bytes HBh.out) (HIb.out.later hEr)
end Go.Proofs.YtkfipfhmbhmamaaDoor

namespace Go.Proofs.YtkfipfhmbhmamaaDoor
open Go.RowKit Stp

def SizeC23 (w : World) : Prop := ∀ (k m c n : Int) (W : World), Ext w W → IsI64 k → IsI64 m → IsI64 c → IsI64 n →
  Calls Tryd.prog 10 #[.int .i64 k, .int .i64 m, .int .i64 c, .int .i64 n] W fun e w' => e = .returned (.tuple #[.int .i64 (sizeE k m c n).1, .int .i64 (sizeE k m c n).2]) ∧ Ext W w'
def LayC23 (w : World) : Prop := ∀ (k m c : Int) (A : Option Addr) (n cap : Nat) (b : List UInt8) (W : World), Ext w W → IsI64 k → IsI64 m → IsI64 c → Bytes W W.heap.size A n b → n ≤ cap → cap ≤ maxLen → (sizeE k m c n).1 ≤ 20000 →
  Calls Tryd.prog 12 #[.int .i64 k, .int .i64 m, .int .i64 c, .slice A n cap] W (MadeE W (layE k m c b).1 (layE k m c b).2)
def ReadC23 (w : World) : Prop := ∀ (k m c n : Int) (A : Option Addr) (ns cap : Nat) (s : List UInt8) (W : World), Ext w W → IsI64 k → IsI64 m → IsI64 c → IsI64 n → Bytes W W.heap.size A ns s → ns ≤ cap → cap ≤ maxLen → ns ≤ 20000 →
  Calls Tryd.prog 15 #[.int .i64 k, .int .i64 m, .int .i64 c, .int .i64 n, .slice A ns cap] W (RdTo23 W (readE k m c n s))

theorem Stp.fits97 : (Crc.put [97]).length + (Crc.put [97]).length ≤ 140737488355328 := by decide +kernel
set_option maxHeartbeats 2000000 in
set_option maxRecDepth 100000 in
theorem alive23_any {w W : World} (hL : LayC23 w) (hE : Ext w W) : Calls Tryd.prog 9 #[] W fun e W' => e = .returned (.bool true) ∧ Ext W W' := by
  have kc := fun (w : World) (C : Array Value) (n c : Nat) => Lib.run_convert_bytes_const (P := Tryd.prog) w 27 5 C n c Tryd.underlying27 Tryd.underlying5
  have hE1 := extNew W (.cells #[.int .u8 97] 5 (1, 2))
  have hb1 := bytesNew W [97] #[.int .u8 97] 5 (1, 2) rfl 1 rfl
  have C := hL 1 1 1 _ 1 1 [97] _ (hE.trans hE1) (by unfold IsI64; omega) (by unfold IsI64; omega) (by unfold IsI64; omega) hb1 (Nat.le_refl _) (by unfold maxLen; omega) (by decide +kernel)
  rw [Stp.example23] at C
  unfold MadeE at C
  dsimp only at C
  have CP := fun W2 => refCrcPut_any (some ⟨World.heap W2 |>.size, 0, none⟩) 1 1 [97] (W2.alloc (.cells #[.int .u8 97] 5 (1, 2))) (by omega) (bytesNew W2 [97] _ 5 (1, 2) rfl 1 rfl)
  have hfit := Stp.fits97
  unfold MadeB at CP
  generalize Crc.put [97] = x at *
  obtain ⟨X, hX⟩ : ∃ X, X = x ++ x := ⟨_, rfl⟩
  rw [← hX] at C
  have HX := hide hX
  clear hb1 hL hX
  go_enter Tryd.func9, Tryd.ntmps9
  go_wp2_with fail
  refine C.mono ?_
  rintro e w2 ⟨v2, rfl, hO2, hE2⟩
  have hF2 := hE1.trans hE2
  have CP2 := CP w2
  clear C CP
  go_wp2_with fail
  refine CP2.mono ?_
  rintro e w4 ⟨v4, rfl, hO4, hE4⟩
  have hX4 := (extNew w2 (.cells #[.int .u8 97] 5 (1, 2))).trans hE4
  obtain ⟨A4, c4, rfl, -, -, h4⟩ := hO4.form
  have hOb := OwnB.empty w4 (Nat.le_refl w4.heap.size)
  have hEa := extNew w4 (.cells #[] 5)
  have h4a := hEa.bytes h4
  have hfit0 : ([] : List UInt8).length + x.length ≤ 140737488355328 := by rw [List.length_nil]; omega
  have hBa := hEa.le
  clear CP2 kc hO4
  go_wp2_with (first
    | (at_builtin; refine wpList_appGd (by rfl) (.tmp 17) (.tmp 18) rfl rfl hOb rfl h4a hfit0 hBa ?_; intro v5 w5 hO5 hG5; have hE5 : Ext w4 w5 := OwnB.below hOb hEa hG5 hBa; rw [List.nil_append] at hO5; have h4b := hE5.bytes h4; have hB5 := hE5.le; clear hOb h4a hG5)
    | (at_builtin; refine wpList_appGd (by rfl) (.tmp 19) (.tmp 20) rfl rfl hO5 rfl h4b hfit hB5 ?_; intro v6 w6 hO6 hG6; rw [← HX.out] at hO6; have hE6 : Ext w4 w6 := OwnB.below hO5 hE5 hG6 hB5; obtain ⟨A2, c2, rfl, _, _, h2⟩ := (hO2.ext (hX4.trans hE6)).form; obtain ⟨A6, c6, rfl, _, _, h6⟩ := hO6.form; have CS := same_any _ _ _ _ c2 c6 _ _ _ h2 h6; rw [sameB_true rfl] at CS; clear hO2 hO6 hO5 h2 h6 h4b hG6; generalize X.length = k at *))
  refine CS.mono ?_
  rintro e w7 ⟨rfl, hE7⟩
  go_wp2
  go_ret
  exact ⟨rfl, hF2.trans ((hX4.trans hE6).trans hE7)⟩

set_option maxHeartbeats 2000000 in
set_option maxRecDepth 100000 in
theorem stripeSizes_walk0 (k m c n : Int) (w : World) (hL : LayC23 w) (hS : SizeC23 w) (hk : IsI64 k) (hm : IsI64 m) (hc : IsI64 c) (hn : IsI64 n) :
    Calls Tryd.prog 3 #[.int .i64 k, .int .i64 m, .int .i64 c, .int .i64 n] w fun e w' => e = .returned (.bool true) ∧ Ext w w' := by
  have C0 := alive23_any hL (Ext.refl w)
  have C1 := fun W (hE : Ext w W) => hS k m c n W hE hk hm hc hn
  have C2 := fun W => refSize23_any k m c n W hk.2
  have h1 : ((sizeE k m c n).1 == (sizeE k m c n).1) = true := by simp
  have h2 : ((sizeE k m c n).2 == (sizeE k m c n).2) = true := by simp
  generalize (sizeE k m c n).1 = z at *
  generalize (sizeE k m c n).2 = er at *
  clear hk hm hc hn hL hS
  go_enter Tryd.func3, Tryd.ntmps3
  go_wp2_with fail
  refine C0.mono ?_
  rintro e w1 ⟨rfl, hE1⟩
  have C1 := C1 w1 hE1
  go_wp2_with fail
  refine C1.mono ?_
  rintro e w2 ⟨rfl, hE2⟩
  go_wp2_with fail
  refine (C2 _).mono ?_
  rintro e w3 ⟨rfl, rfl⟩
  go_wp2
  go_ret
  exact ⟨rfl, hE1.trans hE2⟩

set_option maxHeartbeats 4000000 in
set_option maxRecDepth 100000 in
theorem stripeReads_walk0 (k m c n : Int) (A : Option Addr) (ns cap : Nat) (s : List UInt8) (w : World) (hL : LayC23 w) (hR : ReadC23 w) (hk : IsI64 k) (hm : IsI64 m) (hc : IsI64 c) (hn : IsI64 n) (h1 : ns ≤ cap) (h2 : cap ≤ maxLen) (hb : Bytes w w.heap.size A ns s) :
    Calls Tryd.prog 5 #[.int .i64 k, .int .i64 m, .int .i64 c, .int .i64 n, .slice A ns cap] w fun e w' => e = .returned (.bool true) ∧ Ext w w' := by
  have C0 := alive23_any hL (Ext.refl w)
  by_cases hs : (2000 : Int) < (ns : Int)
  · clear hk hm hc hn hL hR hb
    go_enter Tryd.func5, Tryd.ntmps5
    go_wp2_with fail
    refine C0.mono ?_
    rintro e w1 ⟨rfl, hE1⟩
    go_wp2
    go_ret
    exact ⟨rfl, hE1⟩
  have C1 := fun W (hE : Ext w W) => hR k m c n A ns cap s W hE hk hm hc hn (hE.bytes hb) h1 h2 (by omega)
  have C2 := fun W (hE : Ext w W) => refRead23_any k m c n A ns cap s W hk.2 (hE.bytes hb) h1 (by omega)
  have hlen : (readE k m c n s).2.1.length ≤ 140737488355328 := by
    have h8 := bad_len c.toNat s
    unfold readE
    split
    · simp
    split
    · simp
    split
    · simp
    split
    · simp
    split
    · rename_i ha hb' hc' hd' he'
      dsimp only
      have hz := size_facts (k := k) (m := m) (c := c) (n := n) (by omega)
      have h9 := h8 (stripesN k.toNat c.toNat n.toNat * (k.toNat + m.toNat))
      have h10 : stripesN k.toNat c.toNat n.toNat * (k.toNat + m.toNat) ≤ sizeN k.toNat m.toNat c.toNat n.toNat := by unfold sizeN; exact Nat.le_mul_of_pos_right _ (by omega)
      have hl := hb.1
      omega
    · simp
  unfold RdTo23 at C1 C2
  generalize readE k m c n s = r at *
  obtain ⟨x, L, er⟩ := r
  dsimp only at *
  have hee : (er == er) = true := by simp
  have HL := hide hlen
  clear hlen hk hm hc hn hL hR hb
  go_enter Tryd.func5, Tryd.ntmps5
  go_wp2_with fail
  refine C0.mono ?_
  rintro e w1 ⟨rfl, hE1⟩
  have C1 := C1 w1 hE1
  go_wp2_with fail
  refine C1.mono ?_
  rintro e w2 ⟨A1, a1, B1, b1, rfl, hx1, hi1, hE2⟩
  have C2 := C2 w2 (hE1.trans hE2)
  clear C1
  go_wp2_with fail
  refine C2.mono ?_
  rintro e w3 ⟨A2, a2, B2, b2, rfl, hx2, hi2, hE3⟩
  have CS := same_any _ _ _ _ a1 a2 _ _ w3 (hE3.bytes hx1) hx2
  rw [sameB_true rfl] at CS
  clear C2
  go_wp2_with fail
  refine CS.mono ?_
  rintro e w4 ⟨rfl, hE4⟩
  have CI := refSame9_any B1 B2 b1 b2 L L w4 ((hi1.later hE3).later hE4) (hi2.later hE4) HL.out
  rw [decide_eq_true rfl] at CI
  clear CS
  go_wp2_with fail
  refine CI.mono ?_
  rintro e w5 ⟨rfl, hE5⟩
  go_wp2
  go_ret
  exact ⟨rfl, (((hE1.trans hE2).trans hE3).trans hE4).trans hE5⟩
end Go.Proofs.YtkfipfhmbhmamaaDoor

namespace Go.Proofs.YtkfipfhmbhmamaaDoor
open Go.RowKit Stp

/-- A shape as a value. -/
def shpV (k m c : Int) : Value := .agg #[.int .i64 k, .int .i64 m, .int .i64 c]
theorem shp_info : (Tryd.prog.info? 50).map (·.size) = some 3 := by kernel_rfl
theorem shp_one {k m c : Int} : (#[.int .i64 k, .int .i64 m, .int .i64 c] : Array Value).all (·.oneCell') = true := by
  simp
  exact ⟨rfl, rfl, rfl⟩
theorem whole_range3 {w : World} {r : Nat} {t : TypeId} {a b c : Value} (h : Whole w r t #[a, b, c]) : w.rangeAt r 0 [a, b, c] := by
  intro j v hv
  match j, hv with
  | 0, hv => exact h.at 0 hv
  | 1, hv => exact h.at 1 hv
  | 2, hv => exact h.at 2 hv

set_option maxHeartbeats 4000000 in
set_option maxRecDepth 100000 in
theorem sMay_any (k m c n : Int) (hk64 : k ≤ 9223372036854775807) (w : World) : Calls Tryd.prog 21 #[shpV k m c, .int .i64 n] w fun e w' => e = .returned (.bool (mayS k m c n)) ∧ Ext w w' := by
  have hE1 := extNew w (.cells #[.int .i64 k, .int .i64 m, .int .i64 c] 50)
  obtain ⟨res, hres⟩ : ∃ res, res = mayS k m c n := ⟨_, rfl⟩
  rw [← hres]
  have HC := hide hres
  clear hres
  have HI := hide (mayS_iff (k := k) (m := m) (c := c) (n := n))
  unfold shpV
  by_cases g1 : 1 ≤ k
  rotate_left
  · skip
    have HR := hide (show res = false from HC.out.trans (Bool.eq_false_iff.2 fun h => by have := HI.out.1 h; omega))
    clear HC HI
    go_enter Tryd.func21, Tryd.ntmps21
    go_wp2
    go_ret
    exact ⟨ret_bool HR.out.symm, hE1⟩
  by_cases g2 : 0 ≤ m
  rotate_left
  · skip
    have HR := hide (show res = false from HC.out.trans (Bool.eq_false_iff.2 fun h => by have := HI.out.1 h; omega))
    clear HC HI
    go_enter Tryd.func21, Tryd.ntmps21
    go_wp2
    go_ret
    exact ⟨ret_bool HR.out.symm, hE1⟩
  by_cases g3 : m ≤ 255 - k
  rotate_left
  · skip
    have HR := hide (show res = false from HC.out.trans (Bool.eq_false_iff.2 fun h => by have := HI.out.1 h; omega))
    clear HC HI
    go_enter Tryd.func21, Tryd.ntmps21
    go_wp2
    go_ret
    exact ⟨ret_bool HR.out.symm, hE1⟩
  by_cases g4 : 1 ≤ c
  rotate_left
  · skip
    have HR := hide (show res = false from HC.out.trans (Bool.eq_false_iff.2 fun h => by have := HI.out.1 h; omega))
    clear HC HI
    go_enter Tryd.func21, Tryd.ntmps21
    go_wp2
    go_ret
    exact ⟨ret_bool HR.out.symm, hE1⟩
  by_cases g5 : c ≤ 4096
  rotate_left
  · skip
    have HR := hide (show res = false from HC.out.trans (Bool.eq_false_iff.2 fun h => by have := HI.out.1 h; omega))
    clear HC HI
    go_enter Tryd.func21, Tryd.ntmps21
    go_wp2
    go_ret
    exact ⟨ret_bool HR.out.symm, hE1⟩
  by_cases g6 : 0 ≤ n
  rotate_left
  · skip
    have HR := hide (show res = false from HC.out.trans (Bool.eq_false_iff.2 fun h => by have := HI.out.1 h; omega))
    clear HC HI
    go_enter Tryd.func21, Tryd.ntmps21
    go_wp2
    go_ret
    exact ⟨ret_bool HR.out.symm, hE1⟩
  by_cases g7 : n ≤ 8388608
  rotate_left
  · skip
    have HR := hide (show res = false from HC.out.trans (Bool.eq_false_iff.2 fun h => by have := HI.out.1 h; omega))
    clear HC HI
    go_enter Tryd.func21, Tryd.ntmps21
    go_wp2
    go_ret
    exact ⟨ret_bool HR.out.symm, hE1⟩
  have HR := hide (show res = true from HC.out.trans (HI.out.2 ⟨⟨by omega, by omega, by omega, by omega⟩, by omega, by omega, by omega, by omega⟩))
  clear HC HI
  go_enter Tryd.func21, Tryd.ntmps21
  go_wp2
  go_ret
  exact ⟨ret_bool HR.out.symm, hE1⟩

set_option maxHeartbeats 1000000 in
set_option maxRecDepth 10000 in
theorem sParts_any {k m t : Nat} (ht : k + m = t) (h2 : t ≤ 255) (c : Int) (w : World) : Calls Tryd.prog 39 #[shpV k m c] w fun e w' => e = .returned (.int .i64 (t : Int)) ∧ Ext w w' := by
  have hE1 := extNew w (.cells #[.int .i64 k, .int .i64 m, .int .i64 c] 50)
  have hI : (k : Int) + (m : Int) = (t : Int) := by omega
  have h3 : (t : Int) ≤ 255 := by omega
  clear ht h2
  unfold shpV
  go_enter Tryd.func39, Tryd.ntmps39
  go_wp2
  go_ret
  exact ⟨rfl, hE1⟩
set_option maxHeartbeats 1000000 in
set_option maxRecDepth 10000 in
theorem sRoom_any {k c e : Nat} (he : k * c = e) (h2 : e ≤ 1044480) (m : Int) (w : World) : Calls Tryd.prog 38 #[shpV k m c] w fun x w' => x = .returned (.int .i64 (e : Int)) ∧ Ext w w' := by
  have hE1 := extNew w (.cells #[.int .i64 k, .int .i64 m, .int .i64 c] 50)
  have hI : (k : Int) * (c : Int) = (e : Int) := by rw [← he]; exact (Int.natCast_mul _ _).symm
  have h3 : (e : Int) ≤ 1044480 := by omega
  clear he h2
  unfold shpV
  go_enter Tryd.func38, Tryd.ntmps38
  go_wp2
  go_ret
  exact ⟨rfl, hE1⟩

set_option maxHeartbeats 1000000 in
set_option maxRecDepth 10000 in
theorem sLaid_any {k m t c z : Nat} (ht : k + m = t) (h2 : t ≤ 255) (hc : c ≤ 4096) (hz : t * (c + 4) = z) (w : World) : Calls Tryd.prog 23 #[shpV k m c] w fun x w' => x = .returned (.int .i64 (z : Int)) ∧ Ext w w' := by
  have CP := fun W => sParts_any ht h2 (c : Int) W
  have hW1 := Whole.new w 50 #[.int .i64 (k : Int), .int .i64 (m : Int), .int .i64 (c : Int)]
  have hE1 := extNew w (.cells #[.int .i64 (k : Int), .int .i64 (m : Int), .int .i64 (c : Int)] 50)
  have hI : (t : Int) * ((c : Int) + 4) = (z : Int) := by rw [← hz]; exact (Int.natCast_mul _ _).symm
  have hzz : z ≤ 255 * 4100 := by rw [← hz]; exact Nat.mul_le_mul h2 (by omega)
  have h3 : (z : Int) ≤ 1045500 := by omega
  have h4 : (c : Int) ≤ 4096 := by omega
  clear ht h2 hz hc hzz
  unfold shpV at CP ⊢
  go_enter Tryd.func23, Tryd.ntmps23
  go_wp2_with fail
  obtain ⟨wa, hwa⟩ : ∃ W, W = w.alloc (.cells #[.int .i64 (k : Int), .int .i64 (m : Int), .int .i64 (c : Int)] 50) := ⟨_, rfl⟩
  rw [← hwa] at hW1 hE1 ⊢
  have x1 : IntKind.i64.wrap ((c : Int) + 4) = (c : Int) + 4 := by rw [IntKind.wrap_i64]; omega
  have x2 : IntKind.i64.wrap (z : Int) = (z : Int) := by rw [IntKind.wrap_i64]; omega
  clear hwa
  refine wp_region_T (fun W => Ext wa W) 6 7 #[false, false, false, false, false, false, false] (by kernel_rfl) rfl rfl (Ext.refl wa).drew ?_
  intro hS0
  refine wpAnyT_take 0 (some 3) (.agg #[.int .i64 (k : Int), .int .i64 (m : Int), .int .i64 (c : Int)]) #[true, false, false, false, false, false, false] rfl rfl rfl (by kernel_rfl) (fun _ _ _ h => h) hS0 (by rfl) (fun W hX => by exact exec_load_mid 50 (.tmp 1) rfl w.heap.size 0 rfl [.int .i64 (k : Int), .int .i64 (m : Int), .int .i64 (c : Int)] (whole_range3 (hW1.ext hX)) Tryd.underlying50 rfl shp_info) ?_
  simp only [Act.put, List.setIfInBounds_toArray, List.set_cons_zero, List.set_cons_succ]
  refine wpAnyT_take 2 (some 5) (.pointer (some ⟨w.heap.size, 2, none⟩)) #[true, false, true, false, false, false, false] rfl rfl rfl (by kernel_rfl) (fun _ _ _ h => h) hS0 (by rfl) (fun W hX => by go_simp) ?_
  simp only [Act.put, List.setIfInBounds_toArray, List.set_cons_zero, List.set_cons_succ]
  refine wpAnyT_take 3 (some 6) (.int .i64 (c : Int)) #[true, false, true, true, false, false, false] rfl rfl rfl (by kernel_rfl) (fun _ _ _ h => h) hS0 (by rfl) (fun W hX => by have s2 := (hW1.ext hX).at 2 (u := .int .i64 (c : Int)) rfl; go_simp) ?_
  simp only [Act.put, List.setIfInBounds_toArray, List.set_cons_zero, List.set_cons_succ]
  refine wpAnyT_take 4 (some 7) (.int .i64 ((c : Int) + 4)) #[true, false, true, true, true, false, false] rfl rfl rfl (by kernel_rfl) (fun _ _ _ h => h) hS0 (by rfl) (fun W hX => by go_simp) ?_
  simp only [Act.put, List.setIfInBounds_toArray, List.set_cons_zero, List.set_cons_succ]
  refine wpAnyT_only 1 #[true, true, true, true, true, false, false] (by kernel_rfl) rfl rfl (by rfl) (fun K0 hK0 => ?_)
  go_simp
  go_at_call 39
  refine (CP _).mono ?_
  rintro e wc0 ⟨rfl, hC0⟩
  have hX0 := hS0.trans hC0
  refine hK0 _ _ (fun _ => hX0) ?_
  clear hK0 K0
  refine wpAnyT_take 5 (some 8) (.int .i64 (z : Int)) #[true, true, true, true, true, true, false] rfl rfl rfl (by kernel_rfl) (fun _ _ _ h => h) hX0 (by rfl) (fun W hX => by go_simp) ?_
  simp only [Act.put, List.setIfInBounds_toArray, List.set_cons_zero, List.set_cons_succ]
  refine wpAnyT_only 6 #[true, true, true, true, true, true, true] (by kernel_rfl) rfl rfl (by rfl) (fun K1 hK1 => ?_)
  go_simp
  refine hK1 _ _ (fun h => absurd h (by decide)) (wpAnyT_done (by kernel_rfl) ?_ _)
  clear hK1 K1
  go_wp2
  go_ret
  exact ⟨rfl, hE1.trans hX0⟩
set_option maxHeartbeats 1000000 in
set_option maxRecDepth 10000 in
theorem sStripes_any {k c n : Nat} (hk : 1 ≤ k) (hk2 : k ≤ 255) (hc : 1 ≤ c) (hc2 : c ≤ 4096) (hn : n ≤ 8388608) (m : Int) (w : World) : Calls Tryd.prog 22 #[shpV k m c, .int .i64 (n : Int)] w fun x w' => x = .returned (.int .i64 (stripesN k c n : Int)) ∧ Ext w w' := by
  have he1 : 1 ≤ k * c := Nat.mul_pos hk hc
  have he2 : k * c ≤ 255 * 4096 := Nat.mul_le_mul hk2 hc2
  have HN := stripes_is (n := n) (e := k * c) rfl he1
  have CR := fun W => sRoom_any (k := k) (c := c) rfl (by omega) m W
  have hW1 := Whole.new w 50 #[.int .i64 (k : Int), .int .i64 m, .int .i64 (c : Int)]
  have hE1 := extNew w (.cells #[.int .i64 (k : Int), .int .i64 m, .int .i64 (c : Int)] 50)
  generalize stripesN k c n = N at *
  generalize k * c = e at *
  have h5 : ((n : Int) + (e : Int) - 1).tdiv (e : Int) = (N : Int) := by
    rw [Int.tdiv_eq_ediv_of_nonneg (by omega), ← HN]
    have : ((n : Int) + (e : Int) - 1) = ((n + e - 1 : Nat) : Int) := by omega
    rw [this]
    exact (Int.natCast_ediv _ _).symm
  have h6 : (N : Int) ≤ 9433088 := by
    have : N ≤ n + e - 1 := by rw [← HN]; exact Nat.div_le_self _ _
    omega
  have h7 : (e : Int) ≤ 1044480 := by omega
  have h8 : (n : Int) ≤ 8388608 := by omega
  have h9 : (1 : Int) ≤ (e : Int) := by omega
  have h0 : ¬ (e : Int) = 0 := by omega
  clear HN he1 he2 hk hk2 hc hc2 hn
  unfold shpV at CR ⊢
  go_enter Tryd.func22, Tryd.ntmps22
  go_wp2_with fail
  obtain ⟨wa, hwa⟩ : ∃ W, W = w.alloc (.cells #[.int .i64 (k : Int), .int .i64 m, .int .i64 (c : Int)] 50) := ⟨_, rfl⟩
  rw [← hwa] at hW1 hE1 ⊢
  have x1 : IntKind.i64.wrap ((n : Int) + (e : Int)) = (n : Int) + (e : Int) := by rw [IntKind.wrap_i64]; omega
  have x2 : IntKind.i64.wrap ((n : Int) + (e : Int) - 1) = (n : Int) + (e : Int) - 1 := by rw [IntKind.wrap_i64]; omega
  have x3 : IntKind.i64.wrap (N : Int) = (N : Int) := by rw [IntKind.wrap_i64]; omega
  clear hwa
  refine wp_region_T (fun W => Ext wa W) 8 9 #[false, false, false, false, false, false, false, false, false] (by kernel_rfl) rfl rfl (Ext.refl wa).drew ?_
  intro hS0
  refine wpAnyT_take 0 (some 5) (.int .i64 (n : Int)) #[true, false, false, false, false, false, false, false, false] rfl rfl rfl (by kernel_rfl) (fun _ _ _ h => h) hS0 (by rfl) (fun W hX => by go_simp) ?_
  simp only [Act.put, List.setIfInBounds_toArray, List.set_cons_zero, List.set_cons_succ]
  refine wpAnyT_take 1 (some 6) (.agg #[.int .i64 (k : Int), .int .i64 m, .int .i64 (c : Int)]) #[true, true, false, false, false, false, false, false, false] rfl rfl rfl (by kernel_rfl) (fun _ _ _ h => h) hS0 (by rfl) (fun W hX => by exact exec_load_mid 50 (.tmp 2) rfl w.heap.size 0 rfl [.int .i64 (k : Int), .int .i64 m, .int .i64 (c : Int)] (whole_range3 (hW1.ext hX)) Tryd.underlying50 rfl shp_info) ?_
  simp only [Act.put, List.setIfInBounds_toArray, List.set_cons_zero, List.set_cons_succ]
  refine wpAnyT_take 5 (some 10) (.agg #[.int .i64 (k : Int), .int .i64 m, .int .i64 (c : Int)]) #[true, true, false, false, false, true, false, false, false] rfl rfl rfl (by kernel_rfl) (fun _ _ _ h => h) hS0 (by rfl) (fun W hX => by exact exec_load_mid 50 (.tmp 2) rfl w.heap.size 0 rfl [.int .i64 (k : Int), .int .i64 m, .int .i64 (c : Int)] (whole_range3 (hW1.ext hX)) Tryd.underlying50 rfl shp_info) ?_
  simp only [Act.put, List.setIfInBounds_toArray, List.set_cons_zero, List.set_cons_succ]
  refine wpAnyT_only 2 #[true, true, true, false, false, true, false, false, false] (by kernel_rfl) rfl rfl (by rfl) (fun K0 hK0 => ?_)
  go_simp
  go_at_call 38
  refine (CR _).mono ?_
  rintro e wc0 ⟨rfl, hC0⟩
  have hX0 := hS0.trans hC0
  refine hK0 _ _ (fun _ => hX0) ?_
  clear hK0 K0
  refine wpAnyT_take 3 (some 8) (.int .i64 ((n : Int) + (e : Int))) #[true, true, true, true, false, true, false, false, false] rfl rfl rfl (by kernel_rfl) (fun _ _ _ h => h) hX0 (by rfl) (fun W hX => by go_simp) ?_
  simp only [Act.put, List.setIfInBounds_toArray, List.set_cons_zero, List.set_cons_succ]
  refine wpAnyT_take 4 (some 9) (.int .i64 ((n : Int) + (e : Int) - 1)) #[true, true, true, true, true, true, false, false, false] rfl rfl rfl (by kernel_rfl) (fun _ _ _ h => h) hX0 (by rfl) (fun W hX => by go_simp) ?_
  simp only [Act.put, List.setIfInBounds_toArray, List.set_cons_zero, List.set_cons_succ]
  refine wpAnyT_only 6 #[true, true, true, true, true, true, true, false, false] (by kernel_rfl) rfl rfl (by rfl) (fun K1 hK1 => ?_)
  go_simp
  go_at_call 38
  refine (CR _).mono ?_
  rintro e wc1 ⟨rfl, hC1⟩
  have hX1 := hX0.trans hC1
  refine hK1 _ _ (fun _ => hX1) ?_
  clear hK1 K1
  refine wpAnyT_take 7 (some 12) (.int .i64 (N : Int)) #[true, true, true, true, true, true, true, true, false] rfl rfl rfl (by kernel_rfl) (fun _ _ _ h => h) hX1 (by rfl) (fun W hX => by go_simp; omega) ?_
  simp only [Act.put, List.setIfInBounds_toArray, List.set_cons_zero, List.set_cons_succ]
  refine wpAnyT_only 8 #[true, true, true, true, true, true, true, true, true] (by kernel_rfl) rfl rfl (by rfl) (fun K2 hK2 => ?_)
  go_simp
  refine hK2 _ _ (fun h => absurd h (by decide)) (wpAnyT_done (by kernel_rfl) ?_ _)
  clear hK2 K2
  go_wp2
  go_ret
  exact ⟨rfl, hE1.trans hX1⟩
end Go.Proofs.YtkfipfhmbhmamaaDoor

namespace Go.Proofs.YtkfipfhmbhmamaaDoor
open Go.RowKit Stp

set_option maxHeartbeats 2000000 in
set_option maxRecDepth 100000 in
theorem sSize_any (k m c n : Int) (w : World) (hk64 : k ≤ 9223372036854775807) :
    Calls Tryd.prog 10 #[.int .i64 k, .int .i64 m, .int .i64 c, .int .i64 n] w fun e w' => e = .returned (.tuple #[.int .i64 (sizeE k m c n).1, .int .i64 (sizeE k m c n).2]) ∧ Ext w w' := by
  have CM := fun W => sMay_any k m c n hk64 W
  obtain ⟨z, hz⟩ : ∃ z, z = sizeE k m c n := ⟨_, rfl⟩
  rw [← hz]
  have HC := hide hz
  clear hz
  have hWn := Whole.new w 50 #[.int .i64 0, .int .i64 0, .int .i64 0]
  have hEn := extNew w (.cells #[.int .i64 0, .int .i64 0, .int .i64 0] 50)
  by_cases h1 : mayS k m c n = true
  rotate_left
  · have h1 := Bool.eq_false_iff.2 h1
    have HR := hide (show z = (0, 13) from HC.out.trans (size_13 h1))
    rw [h1] at CM
    unfold shpV at CM
    clear HC h1 hk64
    go_enter Tryd.func10, Tryd.ntmps10
    go_wp2_with (first
      | (refine wpList_storeW rfl 50 (.tmp 10) (.tmp 15) rfl rfl rfl hWn rfl shp_info shp_one ?_; intro w1 hW1 hG1 hS1; have hE1 : Ext w w1 := Below.grown hEn hG1 hEn.le (fun k hk => by cases hk; exact Nat.le_refl _); clear hS1)
      | (refine wpList_load_row rfl 50 (.tmp 10) rfl _ rfl _ _ _ _ hW1 Tryd.underlying50 rfl shp_info ?_))
    refine (CM _).mono ?_
    rintro e w2 ⟨rfl, hE2⟩
    go_wp2
    go_ret2
    exact ⟨ret_two HR.out, hE1.trans hE2⟩
  obtain ⟨⟨a1, a2, a3, a4⟩, b1, b2, b3, b4⟩ := mayS_iff.1 h1
  rw [h1] at CM
  obtain ⟨k, rfl⟩ := Int.eq_ofNat_of_zero_le (show 0 ≤ k by omega)
  obtain ⟨m, rfl⟩ := Int.eq_ofNat_of_zero_le a2
  obtain ⟨c, rfl⟩ := Int.eq_ofNat_of_zero_le (show 0 ≤ c by omega)
  obtain ⟨n, rfl⟩ := Int.eq_ofNat_of_zero_le b3
  have CS := fun W => sStripes_any (k := k) (c := c) (n := n) (by omega) (by omega) (by omega) (by omega) (by omega) (m : Int) W
  obtain ⟨s, hs⟩ : ∃ s, s = (k + m) * (c + 4) := ⟨_, rfl⟩
  have CL := fun W => sLaid_any (k := k) (m := m) (c := c) rfl (by omega) (by omega) hs.symm W
  have hs1 : 1 ≤ s := by rw [hs]; exact Nat.mul_pos (by omega) (by omega)
  have hs2 : s ≤ 255 * 4100 := by rw [hs]; exact Nat.mul_le_mul (by omega) (by omega)
  have hst : stripesN k c n ≤ 8388609 := by unfold stripesN; have := Nat.div_le_self n (k * c); split <;> omega
  have hZ : sizeN k m c n = stripesN k c n * s := by unfold sizeN; rw [Nat.mul_assoc, hs]
  have hz0 : sizeE k m c n = if 16777216 < stripesN k c n * s then (0, 6) else (((stripesN k c n * s : Nat) : Int), 0) := by
    unfold sizeE
    rw [if_pos h1]
    simp only [Int.toNat_natCast]
    rw [hZ]
    by_cases h : 16777216 < stripesN k c n * s
    · rw [if_pos h, if_pos (by omega)]
    · rw [if_neg h, if_neg (by omega)]
  have HZ := hide hz0
  generalize stripesN k c n = N at *
  have hd : (16777216 : Int).tdiv (s : Int) = ((16777216 / s : Nat) : Int) := by
    rw [Int.tdiv_eq_ediv_of_nonneg (by omega)]
    exact (Int.natCast_ediv _ _).symm
  have hdn := Nat.div_lt_iff_lt_mul (x := 16777216) (y := N) (k := s) (by omega)
  have hdl : 16777216 / s ≤ 16777216 := Nat.div_le_self _ _
  obtain ⟨d, hdd⟩ : ∃ d, d = 16777216 / s := ⟨_, rfl⟩
  rw [← hdd] at hd hdn hdl
  have hdl2 : (d : Int) ≤ 16777216 := by omega
  have hN2 : (N : Int) ≤ 8388609 := by omega
  have hs3 : (1 : Int) ≤ (s : Int) := by omega
  have hs4 : (s : Int) ≤ 1045500 := by omega
  have hs0 : ¬ (s : Int) = 0 := by omega
  unfold shpV at CM CS CL
  have hpr : (N : Int) * (s : Int) = ((N * s : Nat) : Int) := (Int.natCast_mul _ _).symm
  have hpl : N * s ≤ 8388609 * 1045500 := Nat.mul_le_mul (by omega) (by omega)
  by_cases hbig : 16777216 < N * s
  · have HR := hide (show z = (0, 6) from HC.out.trans (HZ.out.trans (if_pos hbig)))
    have hcmp : (d : Int) < (N : Int) := by have := hdn.2 hbig; omega
    clear HC HZ h1 hk64 hz0 hZ hs hdd hdn hbig hpr hpl a1 a2 a3 a4 b1 b2 b3 b4
    go_enter Tryd.func10, Tryd.ntmps10
    go_wp2_with (first
      | (refine wpList_storeW rfl 50 (.tmp 10) (.tmp 15) rfl rfl rfl hWn rfl shp_info shp_one ?_; intro w1 hW1 hG1 hS1; have hE1 : Ext w w1 := Below.grown hEn hG1 hEn.le (fun k hk => by cases hk; exact Nat.le_refl _); clear hS1)
      | (refine wpList_load_row rfl 50 (.tmp 10) rfl _ rfl _ _ _ _ hW1 Tryd.underlying50 rfl shp_info ?_))
    refine (CM _).mono ?_
    rintro e w2 ⟨rfl, hE2⟩
    have hW2 := hW1.ext hE2
    have hF2 := hE1.trans hE2
    go_wp2_with (refine wpList_load_row rfl 50 (.tmp 10) rfl _ rfl _ _ _ _ hW2 Tryd.underlying50 rfl shp_info ?_)
    refine (CS _).mono ?_
    rintro e w3 ⟨rfl, hE3⟩
    have hW3 := hW2.ext hE3
    have hF3 := hF2.trans hE3
    clear CM CS hW2 hE2 hE3 hF2 hW1 hE1 hG1
    go_wp2_with (refine wpList_load_row rfl 50 (.tmp 10) rfl _ rfl _ _ _ _ hW3 Tryd.underlying50 rfl shp_info ?_)
    refine (CL _).mono ?_
    rintro e w4 ⟨rfl, hE4⟩
    go_wp2
    go_ret2
    exact ⟨ret_two HR.out, hF3.trans hE4⟩
  · have HR := hide (show z = (((N * s : Nat) : Int), 0) from HC.out.trans (HZ.out.trans (if_neg hbig)))
    have hcmp : ¬ (d : Int) < (N : Int) := fun h => hbig (hdn.1 (by omega))
    obtain ⟨x, hx⟩ : ∃ x, x = N * s := ⟨_, rfl⟩
    rw [← hx] at HR hpr hpl hbig
    have hx2 : (x : Int) ≤ 16777216 := by omega
    clear HC HZ h1 hk64 hz0 hZ hs hdd hdn hbig hpl hx a1 a2 a3 a4 b1 b2 b3 b4
    go_enter Tryd.func10, Tryd.ntmps10
    go_wp2_with (first
      | (refine wpList_storeW rfl 50 (.tmp 10) (.tmp 15) rfl rfl rfl hWn rfl shp_info shp_one ?_; intro w1 hW1 hG1 hS1; have hE1 : Ext w w1 := Below.grown hEn hG1 hEn.le (fun k hk => by cases hk; exact Nat.le_refl _); clear hS1)
      | (refine wpList_load_row rfl 50 (.tmp 10) rfl _ rfl _ _ _ _ hW1 Tryd.underlying50 rfl shp_info ?_))
    refine (CM _).mono ?_
    rintro e w2 ⟨rfl, hE2⟩
    have hW2 := hW1.ext hE2
    have hF2 := hE1.trans hE2
    go_wp2_with (refine wpList_load_row rfl 50 (.tmp 10) rfl _ rfl _ _ _ _ hW2 Tryd.underlying50 rfl shp_info ?_)
    refine (CS _).mono ?_
    rintro e w3 ⟨rfl, hE3⟩
    have hW3 := hW2.ext hE3
    have hF3 := hF2.trans hE3
    have CL2 := CL w3
    clear CM CS hW2 hE2 hE3 hF2 hW1 hE1 hG1
    go_wp2_with (refine wpList_load_row rfl 50 (.tmp 10) rfl _ rfl _ _ _ _ hW3 Tryd.underlying50 rfl shp_info ?_)
    refine CL2.mono ?_
    rintro e w4 ⟨rfl, hE4⟩
    have hW4 := hW3.ext hE4
    have hF4 := hF3.trans hE4
    have CL4 := CL w4
    clear CL CL2 hW3 hF3 hE4
    go_wp2_with (refine wpList_load_row rfl 50 (.tmp 10) rfl _ rfl _ _ _ _ hW4 Tryd.underlying50 rfl shp_info ?_)
    refine CL4.mono ?_
    rintro e w5 ⟨rfl, hE5⟩
    go_wp2
    go_ret2
    exact ⟨ret_two HR.out, hF4.trans hE5⟩
theorem sizeC23_any (w : World) : SizeC23 w := fun k m c n W _ hk _ _ _ => sSize_any k m c n W hk.2
end Go.Proofs.YtkfipfhmbhmamaaDoor

namespace Go.Proofs.YtkfipfhmbhmamaaDoor
open Go.RowKit Stp

set_option maxHeartbeats 4000000 in
set_option maxRecDepth 100000 in
theorem stripeLays_walk0 (k m c : Int) (A : Option Addr) (n cap : Nat) (b : List UInt8) (w : World) (hL : LayC23 w) (hk : IsI64 k) (hm : IsI64 m) (hc : IsI64 c) (h1 : n ≤ cap) (h2 : cap ≤ maxLen) (hb : Bytes w w.heap.size A n b) :
    Calls Tryd.prog 4 #[.int .i64 k, .int .i64 m, .int .i64 c, .slice A n cap] w fun e w' => e = .returned (.bool true) ∧ Ext w w' := by
  have C0 := alive23_any hL (Ext.refl w)
  have CS := fun W => refSize23_any k m c (n : Int) W hk.2
  have hbl := hb.1
  have HErr := hide (show (sizeE k m c (n : Int)).2 ≠ 0 → layE k m c b = ([], (sizeE k m c (n : Int)).2) from fun h => by rw [← hbl] at h ⊢; exact layE_err h)
  have HOk := hide (show (sizeE k m c (n : Int)).2 = 0 → (layE k m c b).2 = 0 ∧ ((layE k m c b).1.length : Int) = (sizeE k m c (n : Int)).1 from fun h => by
    obtain ⟨⟨⟨a1, a2, a3, a4⟩, b1, b2, b3, b4⟩, hz1⟩ := size_facts h
    obtain ⟨k, rfl⟩ := Int.eq_ofNat_of_zero_le (show 0 ≤ k by omega)
    obtain ⟨m, rfl⟩ := Int.eq_ofNat_of_zero_le (show 0 ≤ m by omega)
    obtain ⟨c, rfl⟩ := Int.eq_ofNat_of_zero_le (show 0 ≤ c by omega)
    simp only [Int.toNat_natCast] at hz1
    rw [← hbl] at h hz1 ⊢
    rw [layE_ok h]
    refine ⟨rfl, ?_⟩
    rw [hz1, layQ_len (by omega)]
    rfl)
  by_cases hbig : 3000 < (sizeE k m c (n : Int)).1
  · generalize (sizeE k m c (n : Int)).1 = z at *
    generalize (sizeE k m c (n : Int)).2 = er at *
    clear hk hm hc hL hb hbl h1 h2 HErr HOk
    go_enter Tryd.func4, Tryd.ntmps4
    go_wp2_with fail
    refine C0.mono ?_
    rintro e w1 ⟨rfl, hE1⟩
    go_wp2_with fail
    refine (CS _).mono ?_
    rintro e w2 ⟨rfl, rfl⟩
    go_wp2
    go_ret
    exact ⟨rfl, hE1⟩
  have CL := fun W (hE : Ext w W) => hL k m c A n cap b W hE hk hm hc (hE.bytes hb) h1 h2 (by omega)
  have CR := fun W (hE : Ext w W) => refLay23_any k m c A n cap b W hk.2 (hE.bytes hb) (by omega)
  generalize (sizeE k m c (n : Int)).1 = z at *
  generalize (sizeE k m c (n : Int)).2 = er at *
  by_cases her : er = 0
  · obtain ⟨e2, e1⟩ := HOk.out her
    subst her
    unfold MadeE at CL CR
    generalize (layE k m c b).1 = X at *
    generalize (layE k m c b).2 = e0 at *
    subst e2
    have hzz : (((X.length : Nat) : Int) == z) = true := by rw [e1]; simp
    have HZ := hide e1
    have hbig2 : ¬ 3000 < ((X.length : Nat) : Int) := by rw [e1]; exact hbig
    obtain ⟨lx, hlx⟩ : ∃ l, l = X.length := ⟨_, rfl⟩
    rw [← hlx] at e1 hbig2
    subst e1
    have HLx := hide hlx
    clear hk hm hc hL hb hbl h1 h2 HErr HOk hzz hbig hlx
    go_enter Tryd.func4, Tryd.ntmps4
    go_wp2_with fail
    refine C0.mono ?_
    rintro e w1 ⟨rfl, hE1⟩
    go_wp2_with fail
    refine (CS _).mono ?_
    rintro e w2 ⟨rfl, rfl⟩
    have CL := CL w1 hE1
    go_wp2_with fail
    refine CL.mono ?_
    rintro e w3 ⟨v3, rfl, hO3, hE3⟩
    have CR := CR w3 (hE1.trans hE3)
    clear CL
    go_wp2_with fail
    refine CR.mono ?_
    rintro e w4 ⟨v4, rfl, hO4, hE4⟩
    obtain ⟨A3, c3, hv3, -, -, h3⟩ := (hO3.ext hE4).form
    obtain ⟨A4, c4, hv4, -, -, h4⟩ := hO4.form
    have CX := same_any _ _ _ _ c3 c4 _ _ w4 h3 h4
    rw [sameB_true rfl] at CX
    rw [← HLx.out] at hv3 hv4 CX
    subst hv3 hv4
    have hself : ((lx : Int) == (lx : Int)) = true := by simp
    clear CR hO3 hO4 h3 h4
    go_wp2_with fail
    refine CX.mono ?_
    rintro e w5 ⟨rfl, hE5⟩
    go_wp2
    go_ret
    exact ⟨rfl, ((hE1.trans hE3).trans hE4).trans hE5⟩
  · have hL2 := HErr.out her
    have CL := fun W (hE : Ext w W) => by have := CL W hE; rw [hL2] at this; exact this
    unfold MadeE at CL
    have hne : (er == 0) = false := by rw [beq_eq_false_iff_ne]; exact her
    have hee : (er == er) = true := by simp
    clear hk hm hc hL hb hbl h1 h2 HErr HOk CR her
    go_enter Tryd.func4, Tryd.ntmps4
    go_wp2_with fail
    refine C0.mono ?_
    rintro e w1 ⟨rfl, hE1⟩
    go_wp2_with fail
    refine (CS _).mono ?_
    rintro e w2 ⟨rfl, rfl⟩
    have CL := CL w1 hE1
    go_wp2_with fail
    refine CL.mono ?_
    rintro e w3 ⟨v3, rfl, hO3, hE3⟩
    obtain ⟨A3, c3, rfl, -, -, h3⟩ := hO3.form
    dsimp only [List.length_nil] at *
    go_wp2
    go_ret
    exact ⟨rfl, hE1.trans hE3⟩

/-- The shape that three bytes mean. -/
theorem shapeOf_any (a b c : Nat) (w : World) (ha : a < 256) (hb : b < 256) (hc : c < 256) :
    Calls Tryd.prog 18 #[.agg #[.int .u8 (a : Int), .int .u8 (b : Int), .int .u8 (c : Int)]] w fun e w' => e = .returned (.tuple #[.int .i64 ((1 + a % 6 : Nat) : Int), .int .i64 ((b % 5 : Nat) : Int), .int .i64 ((1 + c % 24 : Nat) : Int)]) ∧ Ext w w' := by
  have hE1 := extNew w (.cells #[.int .u8 (a : Int), .int .u8 (b : Int), .int .u8 (c : Int)] 38)
  have hW1 := Whole.new w 38 #[.int .u8 (a : Int), .int .u8 (b : Int), .int .u8 (c : Int)]
  have s0 := hW1.at 0 (u := .int .u8 (a : Int)) rfl
  have s1 := hW1.at 1 (u := .int .u8 (b : Int)) rfl
  have s2 := hW1.at 2 (u := .int .u8 (c : Int)) rfl
  have e1 : (a : Int).tmod 6 = ((a % 6 : Nat) : Int) := by rw [Int.tmod_eq_emod_of_nonneg (by omega)]; exact (Int.natCast_emod _ _).symm
  have e2 : (b : Int).tmod 5 = ((b % 5 : Nat) : Int) := by rw [Int.tmod_eq_emod_of_nonneg (by omega)]; exact (Int.natCast_emod _ _).symm
  have e3 : (c : Int).tmod 24 = ((c % 24 : Nat) : Int) := by rw [Int.tmod_eq_emod_of_nonneg (by omega)]; exact (Int.natCast_emod _ _).symm
  have b1 : ((a % 6 : Nat) : Int) ≤ 5 := by omega
  have b3 : ((c % 24 : Nat) : Int) ≤ 23 := by omega
  have HR := hide (show ∀ x y : Nat, ((1 + x : Nat) : Int) = 1 + (x : Int) ∧ ((1 + y : Nat) : Int) = 1 + (y : Int) from fun x y => by omega)
  have ha0 : (a : Int) < 256 := by omega
  have hb0 : (b : Int) < 256 := by omega
  have hc0 : (c : Int) < 256 := by omega
  rw [(HR.out (a % 6) (c % 24)).1, (HR.out (a % 6) (c % 24)).2]
  generalize a % 6 = x at *
  generalize b % 5 = y at *
  generalize c % 24 = z at *
  clear hW1 ha hb hc
  go_enter Tryd.func18, Tryd.ntmps18
  go_wp2_with fail
  go_quiet (fail)
  go_wp2
  go_ret3
  exact ⟨rfl, hE1.drewN _⟩
end Go.Proofs.YtkfipfhmbhmamaaDoor

namespace Go.Proofs.YtkfipfhmbhmamaaDoor
open Go.RowKit Stp

namespace Stp
/-- Small shapes make little of few bytes. -/
theorem small_size {k m c n : Nat} (hk : 1 ≤ k) (hm : m ≤ 4) (hc : 1 ≤ c) (hk6 : k ≤ 6) (hc24 : c ≤ 24) (hn : n ≤ 600) : sizeN k m c n ≤ 20000 ∧ stripesN k c n * (k + m) ≤ 4000 := by
  have h1 := (stripes_room k c n (Nat.mul_pos hk hc)).2
  have h2 : k * c ≤ 6 * 24 := Nat.mul_le_mul hk6 hc24
  have h3 : (k + m) * (c + 4) ≤ (5 * k) * (5 * c) := Nat.mul_le_mul (by omega) (by omega)
  have h4 : stripesN k c n * ((k + m) * (c + 4)) ≤ stripesN k c n * ((5 * k) * (5 * c)) := Nat.mul_le_mul_left _ h3
  have h5 : stripesN k c n * ((5 * k) * (5 * c)) = 25 * (stripesN k c n * (k * c)) := by
    have e : (5 * k) * (5 * c) = 25 * (k * c) := by
      rw [Nat.mul_mul_mul_comm]
    rw [e, Nat.mul_left_comm]
  have h6 : sizeN k m c n = stripesN k c n * ((k + m) * (c + 4)) := by unfold sizeN; rw [Nat.mul_assoc]
  have h7 : stripesN k c n * (k + m) * 5 ≤ sizeN k m c n := by unfold sizeN; exact Nat.mul_le_mul_left _ (by omega)
  omega
theorem small_facts {k m c : Nat} {b : List UInt8} (hk : 1 ≤ k) (hm : m ≤ 4) (hc : 1 ≤ c) (hk6 : k ≤ 6) (hc24 : c ≤ 24) (hn : b.length ≤ 600) :
    sizeE k m c b.length = (((sizeN k m c b.length : Nat) : Int), 0) ∧ layE k m c b = (layQ k m c b (stripesN k c b.length * (k + m)), 0) ∧ (layQ k m c b (stripesN k c b.length * (k + m))).length = sizeN k m c b.length := by
  have h := (small_size hk hm hc hk6 hc24 hn).1
  have hz := size_nat hk (by omega) hc (by omega) (by omega) (show sizeN k m c b.length ≤ 16777216 by omega)
  exact ⟨hz, layE_nat hz, lay_size hk⟩
theorem back_facts {k m c : Nat} {b : List UInt8} (hk : 1 ≤ k) (hm : m ≤ 4) (hc : 1 ≤ c) (hk6 : k ≤ 6) (hc24 : c ≤ 24) (hn : b.length ≤ 600) :
    readE k m c b.length (layQ k m c b (stripesN k c b.length * (k + m))) = (b, [], 0) := by
  obtain ⟨hz, _, hl⟩ := small_facts hk hm hc hk6 hc24 hn
  rw [(lay_hurt hk).all hk (by omega) hc hz hl, lay_none hk]
end Stp

set_option maxHeartbeats 4000000 in
set_option maxRecDepth 100000 in
theorem stripeBack_walk0 (sa sb sc : Nat) (A : Option Addr) (n cap : Nat) (b : List UInt8) (w : World) (hL : LayC23 w) (hR : ReadC23 w) (ha : sa < 256) (hsb : sb < 256) (hsc : sc < 256) (h1 : n ≤ cap) (h2 : cap ≤ maxLen) (hb : Bytes w w.heap.size A n b) :
    Calls Tryd.prog 6 #[.agg #[.int .u8 (sa : Int), .int .u8 (sb : Int), .int .u8 (sc : Int)], .slice A n cap] w fun e w' => e = .returned (.bool true) ∧ Ext w w' := by
  have C0 := fun W (hE : Ext w W) => alive23_any hL hE
  have hbl := hb.1
  obtain ⟨w1, hw1⟩ : ∃ w1, w1 = w.alloc (.cells #[.int .u8 (sa : Int), .int .u8 (sb : Int), .int .u8 (sc : Int)] 38) := ⟨_, rfl⟩
  have HE1 := hide (show Ext w w1 by rw [hw1]; exact extNew w _)
  have HW := hide (show Whole w1 w.heap.size 38 #[.int .u8 (sa : Int), .int .u8 (sb : Int), .int .u8 (sc : Int)] by rw [hw1]; exact Whole.new w _ _)
  by_cases hbig : 600 < (n : Int)
  · clear hL hR hb hbl ha hsb hsc h1 h2 HW
    go_enter Tryd.func6, Tryd.ntmps6
    go_wp2_with fail
    rw [← hw1]
    refine (C0 _ HE1.out).mono ?_
    rintro e w2 ⟨rfl, hE2⟩
    go_wp2
    go_ret
    exact ⟨rfl, HE1.out.trans hE2⟩
  have CO := fun W => shapeOf_any sa sb sc W ha hsb hsc
  obtain ⟨k, hk⟩ : ∃ k, k = 1 + sa % 6 := ⟨_, rfl⟩
  obtain ⟨m, hm⟩ : ∃ m, m = sb % 5 := ⟨_, rfl⟩
  obtain ⟨c, hc⟩ : ∃ c, c = 1 + sc % 24 := ⟨_, rfl⟩
  simp only [← hk, ← hm, ← hc] at CO
  have hk1 : 1 ≤ k := by omega
  have hk6 : k ≤ 6 := by omega
  have hm4 : m ≤ 4 := by omega
  have hc1 : 1 ≤ c := by omega
  have hc24 : c ≤ 24 := by omega
  have hn : b.length ≤ 600 := by omega
  obtain ⟨f1, f2, f3⟩ := small_facts hk1 hm4 hc1 hk6 hc24 hn
  have f4 := back_facts hk1 hm4 hc1 hk6 hc24 hn
  have f5 := (small_size hk1 hm4 hc1 hk6 hc24 hn).1
  rw [hbl] at f1 f2 f3 f4 f5
  have CL := fun W (hE : Ext w W) => hL k m c A n cap b W hE (by unfold IsI64; omega) (by unfold IsI64; omega) (by unfold IsI64; omega) (hE.bytes hb) h1 h2 (by rw [f1]; dsimp only; omega)
  rw [f2] at CL
  generalize layQ k m c b (stripesN k c n * (k + m)) = X at *
  have CR := fun W (hE : Ext w W) A' c' (hX : Bytes W W.heap.size A' X.length X) hc' hm' => hR k m c n A' X.length c' X W hE (by unfold IsI64; omega) (by unfold IsI64; omega) (by unfold IsI64; omega) (by unfold IsI64; omega) hX hc' hm' (by omega)
  rw [f4] at CR
  unfold RdTo23 at CR
  unfold MadeE at CL
  dsimp only [List.length_nil] at CL CR
  have HB := hide hb
  have HBl := hide hbl
  clear hL hR hb hbl ha hsb hsc h1 h2 hk hm hc f1 f2 f3 f4 f5 hn
  go_enter Tryd.func6, Tryd.ntmps6
  go_wp2_with fail
  rw [← hw1]
  clear hw1
  refine (C0 _ HE1.out).mono ?_
  rintro e w2 ⟨rfl, hE2⟩
  have hF2 := HE1.out.trans hE2
  have hW2 := HW.out.ext hE2
  have s0 := hW2.at 0 (u := .int .u8 (sa : Int)) rfl
  have s1 := hW2.at 1 (u := .int .u8 (sb : Int)) rfl
  have s2 := hW2.at 2 (u := .int .u8 (sc : Int)) rfl
  clear HW hW2 hE2 C0
  go_wp2_with fail
  refine (CO _).mono ?_
  rintro e w3 ⟨rfl, hE3⟩
  have hF3 := hF2.trans hE3
  have CL := CL w3 hF3
  clear s0 s1 s2 CO hE3 hF2
  go_wp2_with fail
  refine CL.mono ?_
  rintro e w4 ⟨v4, rfl, hO4, hE4⟩
  have hF4 := hF3.trans hE4
  obtain ⟨A4, c4, rfl, hc4, hm4', hb4⟩ := hO4.form
  have CR := CR w4 hF4 A4 c4 hb4 hc4 hm4'
  clear CL hO4 hE4 hF3 hb4
  generalize X.length = lx at *
  rw [HBl.out] at CR
  go_wp2_with fail
  refine CR.mono ?_
  rintro e w5 ⟨A5, a5, B5, b5, rfl, hx5, hi5, hE5⟩
  have hF5 := hF4.trans hE5
  have CS := same_any _ _ _ _ a5 cap _ _ w5 hx5 (hF5.bytes HB.out)
  rw [sameB_true rfl] at CS
  clear CR hx5 hi5 hE5
  go_wp2_with fail
  refine CS.mono ?_
  rintro e w6 ⟨rfl, hE6⟩
  go_wp2
  go_ret
  exact ⟨rfl, hF5.trans hE6⟩
end Go.Proofs.YtkfipfhmbhmamaaDoor

