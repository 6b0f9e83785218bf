/- The library's slices.BinarySearch at []uint16. A slice of numbers that came in. The program's table of a code: length and find. Results: a row of cells in a block, and what a slot holds. How many symbols have each length, and the first word of each length, as the program counts them. Plain mathematics of chapter 8. What the laws of chapter 8 ask of the program's parts; the example; CanonChecks, CanonCodes. Contracts of the program's counts of lengths (right, firsts). Contracts of the program's countOut and Check. Contract of the program's Codes. The contract of the library's slices.Clone at bytes (named uint8). Lists of numbers of the call's own. The program's tableOf. The contract of the program's tableOf. Contracts of the document's writer: Put, Unary. The contract of the document's Put. The document's New and Put of chapter 9. -/
import Derived.Test.YtjpmabdnaooglaaB01
import Derived.Test.YtjpmabdnaooglaaB02
import Derived.BigQuiet
import Derived.IntWalk
import Derived.Deep.QuietTactic
import Derived.Laws.ResultCell
import Derived.Lib.SliceRun
import Derived.Laws.OwnMore
import Derived.Maps.AppendAt
import Derived.Deep.RegionLaw
import Derived.StillTailTactics
namespace Go.Proofs.Ytjpmabdnaooglaa
open Go.RowKit

theorem nan79_any (x : Nat) (w : World) : Calls Try.prog 79 #[.int .u16 (x : Int)] w fun e w' => e = .returned (.bool false) ∧ w = w' := by
  have hb : ((x : Int) != (x : Int)) = false := by simp
  go_enter Try.func79, Try.ntmps79
  go_wp2
  go_ret
  exact ⟨rfl, rfl⟩
theorem nan71_any (x : Nat) (w : World) : Calls Try.prog 71 #[.int .u16 (x : Int)] w fun e w' => e = .returned (.bool false) ∧ w = w' := by
  have hb : ((x : Int) != (x : Int)) = false := by simp
  go_enter Try.func71, Try.ntmps71
  go_wp2
  go_ret
  exact ⟨rfl, rfl⟩
theorem less16_any (x y : Nat) (w : World) : Calls Try.prog 70 #[.int .u16 (x : Int), .int .u16 (y : Int)] w fun e w' => e = .returned (.bool (decide (x < y))) ∧ w = w' := by
  by_cases h : x < y
  · have hI : (x : Int) < (y : Int) := by omega
    go_enter Try.func70, Try.ntmps70
    go_wp2_with (refine (nan79_any _ _).mono ?_; rintro e w' ⟨rfl, rfl⟩)
    go_ret
    exact ⟨by simp [h], rfl⟩
  · have hI : ¬ (x : Int) < (y : Int) := by omega
    go_enter Try.func70, Try.ntmps70
    go_wp2_with (refine (nan79_any _ _).mono ?_; rintro e w' ⟨rfl, rfl⟩)
    go_ret
    exact ⟨by simp [h], rfl⟩

/-- What the search tells: how many are below N, and whether N comes next. -/
def Found16 (w : World) (T : List Nat) (N : Nat) (e : Ending) (w' : World) : Prop :=
  ∃ i, i ≤ T.length ∧ (∀ j, j < i → T.getD j 0 < N) ∧ (∀ j, i ≤ j → j < T.length → N ≤ T.getD j 0) ∧ e = .returned (.tuple #[.int .i64 (i : Int), .bool (decide (i < T.length ∧ T.getD i 0 = N))]) ∧ w = w'

set_option maxHeartbeats 1000000 in
theorem bsearch16_any {w : World} {B : Nat} {A : Option Addr} {c : Nat} {T : List Nat} (h : H16At w B A T.length T) (hT : T.length ≤ 1000000) (hs : ∀ i j, i ≤ j → j < T.length → T.getD i 0 ≤ T.getD j 0) (N : Nat) :
    Calls Try.prog 58 #[.slice A T.length c, .int .u16 (N : Int)] w (Found16 w T N) := by
  have H := hide h.2
  have HS := hide hs
  clear h hs
  generalize hn : T.length = n at *
  have HN := hide hn
  clear hn
  go_enter Try.func58, Try.ntmps58
  go_wp2
  go_loop [7, 8] (fun i j => ∃ a b : Nat, i = .int .i64 (a : Int) ∧ j = .int .i64 (b : Int) ∧ a ≤ b ∧ b ≤ n ∧ (∀ t, t < a → T.getD t 0 < N) ∧ (∀ t, b ≤ t → t < n → N ≤ T.getD t 0)) (fun i j => (intOf j).toNat - (intOf i).toNat)
  case atStart => exact ⟨0, n, rfl, rfl, by omega, Nat.le_refl _, fun t ht => absurd ht (by omega), fun t h1 h2 => by omega⟩
  case round =>
    obtain ⟨a, b, rfl, rfl, hab, hbn, h1, h2⟩ := hrel
    have H1 := hide h1
    have H2 := hide h2
    clear h1 h2
    by_cases hlt : a < b
    · have hltI : (a : Int) < (b : Int) := by omega
      rcases H.out with h0 | ⟨bk, off, rfl, _, hc⟩
      · omega
      obtain ⟨k, hk⟩ : ∃ k, k = (a + b) / 2 := ⟨_, rfl⟩
      have hkb : k < b := by omega
      have hak : a ≤ k := by omega
      have e1 := hc k (by omega)
      have hkI : ((a : Int) + (b : Int)) / 2 = (k : Int) := by omega
      have hkn : k < n := by omega
      obtain ⟨x, hx⟩ : ∃ x, x = T.getD k 0 := ⟨_, rfl⟩
      rw [← hx] at e1
      have HX := hide hx
      clear hc hx hk
      by_cases hxn : x < N
      · have hd : decide (x < N) = true := by simpa using hxn
        have HR1 := hide (show ∀ t, t < k + 1 → T.getD t 0 < N from fun t ht => Nat.lt_of_le_of_lt (HS.out t k (by omega) hkn) (by rw [← HX.out]; exact hxn))
        go_wp2_with (refine (less16_any _ _ _).mono ?_; rintro e w' ⟨rfl, rfl⟩)
        go_round
        case rel => exact ⟨k + 1, b, by go_num, rfl, by omega, hbn, HR1.out, H2.out⟩
        case measure => simp [intOf]; omega
      · have hd : decide (x < N) = false := by simpa using hxn
        have HR2 := hide (show ∀ t, k ≤ t → t < n → N ≤ T.getD t 0 from fun t ht htn => Nat.le_trans (by rw [← HX.out]; omega) (HS.out k t ht htn))
        go_wp2_with (refine (less16_any _ _ _).mono ?_; rintro e w' ⟨rfl, rfl⟩)
        go_round
        case rel => exact ⟨a, k, rfl, rfl, by omega, by omega, H1.out, HR2.out⟩
        case measure => simp [intOf]; omega
    · obtain rfl : a = b := by omega
      have hnI : ¬ (a : Int) < (a : Int) := by omega
      by_cases han : a < n
      · have hanI : (a : Int) < (n : Int) := by omega
        rcases H.out with h0 | ⟨bk, off, rfl, _, hc⟩
        · omega
        have e1 := hc a han
        obtain ⟨x, hx⟩ : ∃ x, x = T.getD a 0 := ⟨_, rfl⟩
        rw [← hx] at e1
        have HX := hide hx
        clear hc hx
        by_cases hxn : x = N
        · have hxb : ((x : Int) == (N : Int)) = true := by simp [hxn]
          have HXN := hide hxn
          clear hxn
          go_wp2
          go_ret2
          exact ⟨a, by rw [HN.out]; omega, H1.out, fun j h1 h2 => H2.out j h1 (by rw [HN.out] at h2; exact h2), (congrArg (fun z => Ending.returned (.tuple #[.int .i64 (a : Int), .bool z])) (decide_eq_true ⟨by rw [HN.out]; exact han, by rw [← HX.out, HXN.out]⟩).symm), rfl⟩
        · have hxb : ((x : Int) == (N : Int)) = false := by rw [beq_eq_false_iff_ne]; omega
          go_wp2_with (refine (nan71_any _ _).mono ?_; rintro e w' ⟨rfl, rfl⟩)
          go_ret2
          exact ⟨a, by rw [HN.out]; omega, H1.out, fun j h1 h2 => H2.out j h1 (by rw [HN.out] at h2; exact h2), (congrArg (fun z => Ending.returned (.tuple #[.int .i64 (a : Int), .bool z])) (decide_eq_false (by rw [← HX.out]; exact fun h => hxn h.2)).symm), rfl⟩
      · have hanI : ¬ (a : Int) < (n : Int) := by omega
        go_wp2
        go_ret2
        exact ⟨a, by rw [HN.out]; omega, H1.out, fun j h1 h2 => H2.out j h1 (by rw [HN.out] at h2; exact h2), (congrArg (fun z => Ending.returned (.tuple #[.int .i64 (a : Int), .bool z])) (decide_eq_false (by rw [HN.out]; exact fun h => han h.1)).symm), rfl⟩
end Go.Proofs.Ytjpmabdnaooglaa

namespace Go.Proofs.Ytjpmabdnaooglaa
open Go.RowKit

/-- A slice of numbers that came in. -/
def IntsAt (w : World) (B : Nat) (A : Option Addr) (n : Nat) (L : List Int) : Prop :=
  L.length = n ∧ (n = 0 ∨ ∃ b off, A = some ⟨b, off, none⟩ ∧ b < B ∧ ∀ i, i < n → w.cell? ⟨b, off + i, none⟩ = some (.int .i64 (L.getD i 0)))
theorem IntsAt.below {w w' : World} {B C : Nat} {A : Option Addr} {n : Nat} {L : List Int} (h : IntsAt w B A n L) (hb : Below C w w') (hC : B ≤ C) : IntsAt w' B A n L := by
  refine ⟨h.1, ?_⟩
  rcases h.2 with h0 | ⟨b, off, hA, hB, hc⟩
  · exact .inl h0
  · exact .inr ⟨b, off, hA, hB, fun i hi => by rw [hb.cell (p := ⟨b, off + i, none⟩) (Nat.lt_of_lt_of_le hB hC)]; exact hc i hi⟩
theorem IntsAt.later {w w' : World} {A : Option Addr} {n : Nat} {L : List Int} (h : IntsAt w w.heap.size A n L) (hE : Ext w w') : IntsAt w' w'.heap.size A n L := by
  refine ⟨h.1, ?_⟩
  rcases h.2 with h0 | ⟨b, off, hA, hB, hc⟩
  · exact .inl h0
  · exact .inr ⟨b, off, hA, Nat.lt_of_lt_of_le hB hE.le, fun i hi => by rw [hE.cell hB]; exact hc i hi⟩
end Go.Proofs.Ytjpmabdnaooglaa

namespace Go.Proofs.Ytjpmabdnaooglaa
open Go.RowKit Len Can Huf

/-- The length of a symbol's word; 0, if it has none. -/
def Huf.lenX (l : List UInt8) (s : Int) : Nat := if 0 ≤ s ∧ s < (l.length : Int) then lenAt l s.toNat else 0
theorem Huf.lenX_at {l : List UInt8} {s : Nat} (h : s < l.length) : lenX l (s : Int) = lenAt l s := by
  unfold lenX
  rw [if_pos (by omega), Int.toNat_natCast]
theorem Huf.lenX_fine (l : List UInt8) (s : Int) : (fine l s = true → lenX l s = lenAt l s.toNat ∧ lenX l s ≠ 0) ∧ (fine l s = false → lenX l s = 0) := by
  unfold fine lenX
  constructor
  · intro h
    obtain ⟨h1, h2, h3⟩ := of_decide_eq_true h
    rw [if_pos ⟨h1, h2⟩]
    exact ⟨rfl, h3⟩
  · intro h
    have h1 := of_decide_eq_false h
    split
    · rename_i h2
      exact Classical.byContradiction fun h3 => h1 ⟨h2.1, h2.2, h3⟩
    · rfl

theorem ret_two {a b c d : Int} (h : (a, b) = (c, d)) : Ending.returned (.tuple #[.int .i64 a, .int .i64 b]) = .returned (.tuple #[.int .i64 c, .int .i64 d]) := by
  injection h with h1 h2
  rw [h1, h2]

theorem hlength_any {w : World} {B g c : Nat} {A : Option Addr} {l : List UInt8} (h : w.cell? ⟨g, 0, none⟩ = some (.slice A l.length c)) (hb : Bytes w B A l.length l) (s : Int) :
    Calls Try.prog 35 #[.pointer (some ⟨g, 0, none⟩), .int .i64 s] w fun e w' => e = .returned (.int .i64 ((lenX l s : Nat) : Int)) ∧ w = w' := by
  by_cases h0 : s < 0
  · have hx : lenX l s = 0 := by unfold lenX; rw [if_neg (by omega)]
    rw [hx]
    clear hx
    go_enter Try.func35, Try.ntmps35
    go_wp2
    go_ret
    exact ⟨rfl, rfl⟩
  obtain ⟨k, rfl⟩ := Int.eq_ofNat_of_zero_le (show 0 ≤ s by omega)
  by_cases hk : k < l.length
  · have hkI : (k : Int) < (l.length : Int) := by omega
    rcases hb.2 with hn | ⟨b1, o1, rfl, hb1, hc1⟩
    · omega
    have e1 : w.cell? ⟨b1, o1 + k, none⟩ = some (.int .u8 ((lenAt l k : Nat) : Int)) := hc1 k hk
    have hy : lenAt l k < 256 := UInt8.toNat_lt _
    rw [lenX_at hk]
    clear hc1 hb
    generalize lenAt l k = y at *
    go_enter Try.func35, Try.ntmps35
    go_wp2
    go_ret
    exact ⟨rfl, rfl⟩
  · have hkI : ¬ (k : Int) < (l.length : Int) := by omega
    have hx : lenX l (k : Int) = 0 := by unfold lenX; rw [if_neg (by omega)]
    rw [hx]
    clear hx
    go_enter Try.func35, Try.ntmps35
    go_wp2
    go_ret
    exact ⟨rfl, rfl⟩

/-- The cells of block g are the table of right lengths; its memory lies below block B. -/
def TabAt (w : World) (B g : Nat) (l : List UInt8) : Prop :=
  ∃ A1 c1 A2 c2 A3 c3 A4 c4 O, w.cell? ⟨g, 0, none⟩ = some (.slice A1 l.length c1) ∧ w.cell? ⟨g, 1, none⟩ = some (.slice A2 l.length c2) ∧ w.cell? ⟨g, 2, none⟩ = some (.slice A3 O.length c3) ∧ w.cell? ⟨g, 3, none⟩ = some (.slice A4 O.length c4) ∧
    Bytes w B A1 l.length l ∧ H16At w B A2 l.length (codesL l) ∧ IntsAt w B A3 O.length (O.map fun s : Nat => (s : Int)) ∧ H16At w B A4 O.length (starts l O) ∧ Ord l 16 0 O
theorem TabAt.ext {w w' : World} {g : Nat} {l : List UInt8} (h : TabAt w w.heap.size g l) (hE : Ext w w') : TabAt w' w'.heap.size g l := by
  obtain ⟨A1, c1, A2, c2, A3, c3, A4, c4, O, e1, e2, e3, e4, h1, h2, h3, h4, hO⟩ := h
  have hg := World.block_lt_of_cell? w _ e1
  have k : ∀ i, w'.cell? ⟨g, i, none⟩ = w.cell? ⟨g, i, none⟩ := fun i => hE.cell hg
  exact ⟨A1, c1, A2, c2, A3, c3, A4, c4, O, (k 0).trans e1, (k 1).trans e2, (k 2).trans e3, (k 3).trans e4, hE.bytes h1, (h2.below hE (Nat.le_refl _)).mono hE.le, h3.later hE, (h4.below hE (Nat.le_refl _)).mono hE.le, hO⟩
theorem TabAt.drewN {w : World} {B g : Nat} {l : List UInt8} (h : TabAt w B g l) (n : Nat) : TabAt (w.drewN n) B g l := h

/-- Where the last start at or below N is. -/
theorem Huf.spot {l : List UInt8} {O : List Nat} {N i : Nat} (h : Ord l 16 0 O) (hi : i ≤ (starts l O).length) (h1 : ∀ j, j < i → (starts l O).getD j 0 < N) (h2 : ∀ j, i ≤ j → j < (starts l O).length → N ≤ (starts l O).getD j 0) :
    ((i < (starts l O).length ∧ (starts l O).getD i 0 = N) → i < O.length ∧ (starts l O).getD i 0 ≤ N ∧ (i + 1 < O.length → N < (starts l O).getD (i + 1) 0)) ∧
    (¬ (i < (starts l O).length ∧ (starts l O).getD i 0 = N) → (i = 0 ∧ O = []) ∨ ∃ a, i = a + 1 ∧ a < O.length ∧ (starts l O).getD a 0 ≤ N ∧ (a + 1 < O.length → N < (starts l O).getD (a + 1) 0)) := by
  rw [starts_len] at *
  constructor
  · rintro ⟨h3, h4⟩
    refine ⟨h3, by omega, fun h5 => ?_⟩
    have := h.lt (i := i) (j := i + 1) (by omega) h5
    omega
  · intro h3
    rcases i with _ | a
    · left
      refine ⟨rfl, ?_⟩
      rcases Nat.eq_zero_or_pos O.length with h0 | h0
      · exact List.eq_nil_of_length_eq_zero h0
      · have h4 := h2 0 (Nat.le_refl _) h0
        have h5 := h.first h0
        exact absurd ⟨h0, by omega⟩ h3
    · right
      refine ⟨a, rfl, by omega, Nat.le_of_lt (h1 a (by omega)), fun h5 => ?_⟩
      have h4 := h2 (a + 1) (Nat.le_refl _) h5
      rcases Nat.lt_or_ge N ((starts l O).getD (a + 1) 0) with h6 | h6
      · exact h6
      · exact absurd ⟨h5, by omega⟩ h3
/-- What find tells of the last symbol that starts at or below the next bits. -/
def Huf.tellF (l : List UInt8) (N m s : Nat) : Int × Int := if N / 2 ^ (15 - lenAt l s) ≠ word l s then (-1, 7) else if m < lenAt l s then (-1, 1) else ((s : Int), 0)

set_option maxHeartbeats 2000000 in
theorem hfind_any {w : World} {B g : Nat} {l : List UInt8} (h : TabAt w B g l) (hr : right l = true) (b : List UInt8) (q : Nat) :
    Calls Try.prog 42 #[.pointer (some ⟨g, 0, none⟩), .int .u64 ((nextN b q : Nat) : Int), .int .i64 ((thereN b q : Nat) : Int)] w
      fun e w' => e = .returned (.tuple #[.int .i64 (getE l b q).1, .int .i64 (getE l b q).2.1]) ∧ Qt w w' := by
  obtain ⟨A1, c1, A2, c2, A3, c3, A4, c4, O, e1, e2, e3, e4, h1, h2, h3, h4, hO⟩ := h
  have hN := nextN_lt b q
  have hm : thereN b q ≤ 15 := by rw [thereN_eq]; omega
  have HNone := hide (show O = [] → ((getE l b q).1, (getE l b q).2.1) = (-1, 7) from fun e => by subst e; rw [find_none hO hr])
  have HIs := hide (show ∀ a, a < O.length → (starts l O).getD a 0 ≤ nextN b q → (a + 1 < O.length → nextN b q < (starts l O).getD (a + 1) 0) → ((getE l b q).1, (getE l b q).2.1) = tellF l (nextN b q) (thereN b q) (O.getD a 0) from fun a ha h5 h6 => by
    rw [find_is hO hr ha h5 h6]
    unfold tellF
    split
    · rfl
    · split <;> rfl)
  have h16 : H16At w B A4 (starts l O).length (starts l O) := by rw [starts_len]; exact h4
  have hlen := starts_len l O
  have hlen3 := hO.len_300 hr
  have C := bsearch16_any (c := c4) h16 (by omega) (fun i j hij hj => hO.le hij (by omega)) (nextN b q)
  rw [hlen] at C
  have HSp := hide (fun i => Huf.spot (N := nextN b q) (i := i) hO)
  have HFit := hide (show ∀ a, a < O.length → O.getD a 0 < l.length ∧ lenAt l (O.getD a 0) ≤ 15 ∧ word l (O.getD a 0) < 32768 from fun a ha => by
    have h5 := (hO.at_ a ha).1
    exact ⟨h5, (right_facts hr).2.1 _ h5, word_lt hr h5⟩)
  have HO := hide hO
  have HB := hide h1
  have H2 := hide h2.2
  have H3 := hide h3.2
  clear h1 h2 h3 h4 h16 hO hr
  generalize nextN b q = N at *
  generalize thereN b q = m at *
  generalize getE l b q = r at *
  have Hlen := hide hlen
  clear hlen
  have hN16 : (N : Int) % 65536 = (N : Int) := by omega
  have HN16 := hide hN16
  clear hN16
  go_enter Try.func42, Try.ntmps42
  go_wp2_with fail
  refine C.mono ?_
  rintro e w' ⟨i, hi1, hi2, hi3, rfl, rfl⟩
  obtain ⟨hs1, hs2⟩ := HSp.out i hi1 hi2 hi3
  clear hi2 hi3 C
  have HS1 := hide hs1
  have HS2 := hide hs2
  clear hs1 hs2
  have rest : ∀ a : Nat, a < O.length → (starts l O).getD a 0 ≤ N → (a + 1 < O.length → N < (starts l O).getD (a + 1) 0) → ∃ s b3 o3, A3 = some ⟨b3, o3, none⟩ ∧ w.cell? ⟨b3, o3 + a, none⟩ = some (.int .i64 ((s : Nat) : Int)) ∧ s < l.length ∧ lenAt l s ≤ 15 ∧ word l s < 32768 ∧ (r.1, r.2.1) = tellF l N m s := fun a ha h5 h6 => by
    obtain ⟨hf1, hf2, hf3⟩ := HFit.out a ha
    rcases H3.out with h0 | ⟨b3, o3, hA, _, hc⟩
    · omega
    refine ⟨O.getD a 0, b3, o3, hA, ?_, hf1, hf2, hf3, HIs.out a ha h5 h6⟩
    rw [hc a ha]
    simp [List.getD_eq_getElem?_getD, ha]
  have HRest := hide rest
  clear rest
  by_cases hq : i < (starts l O).length ∧ (starts l O).getD i 0 = N
  · rw [decide_eq_true hq]
    obtain ⟨ha, h5, h6⟩ := HS1.out hq
    obtain ⟨s, b3, o3, rfl, e5, hsl, h15, hwl, htell⟩ := HRest.out i ha h5 h6
    clear hq h5 h6
    have hlx := lenX_at hsl
    have CL := hlength_any e1 HB.out (s : Int)
    rw [hlx] at CL
    rcases H2.out with h0 | ⟨b2, o2, rfl, _, hc2⟩
    · omega
    have e6 : w.cell? ⟨b2, o2 + s, none⟩ = some (.int .u16 ((word l s : Nat) : Int)) := by rw [hc2 s hsl, codesL_at hsl]
    have HT := hide htell
    clear htell hc2 hlx HS1 HS2 HRest
    unfold tellF at HT
    generalize word l s = x at *
    generalize lenAt l s = y at *
    go_wp2_with fail
    refine CL.mono ?_
    rintro e w' ⟨rfl, rfl⟩
    clear CL
    have hsh : IntKind.i64.wrap (15 - (y : Int)) = 15 - (y : Int) := IntWalk.i64_in _ (by omega)
    have hsh0 : (0 : Int) ≤ 15 - (y : Int) := by omega
    have hsh1 : (15 - (y : Int)).toNat = 15 - y := by omega
    have hcast : (N : Int) / 2 ^ (15 - y) = ((N / 2 ^ (15 - y) : Nat) : Int) := by simp
    by_cases hw : N / 2 ^ (15 - y) = x
    · have HT2 := hide (show (r.1, r.2.1) = if m < y then (-1, 1) else ((s : Int), 0) by rw [HT.out, if_neg (fun hn => hn hw)])
      have hbe : ((N : Int) / 2 ^ (15 - y) != (x : Int)) = false := by rw [hcast, hw]; simp
      clear hw hcast
      by_cases hmy : m < y
      · have HT3 := hide (show (r.1, r.2.1) = (-1, 1) by rw [HT2.out, if_pos hmy])
        go_wp2_with fail
        go_quiet (fail)
        go_wp2
        go_ret2
        exact ⟨ret_two HT3.out.symm, _, rfl⟩
      · have HT3 := hide (show (r.1, r.2.1) = ((s : Int), 0) by rw [HT2.out, if_neg hmy])
        go_wp2_with fail
        go_quiet (fail)
        go_wp2
        go_ret2
        exact ⟨ret_two HT3.out.symm, _, rfl⟩
    · have HT2 := hide (show (r.1, r.2.1) = (-1, 7) by rw [HT.out, if_pos hw])
      have hbe : ((N : Int) / 2 ^ (15 - y) != (x : Int)) = true := by rw [hcast, bne_iff_ne]; omega
      clear hw hcast
      go_wp2_with fail
      go_quiet (fail)
      go_wp2
      go_ret2
      exact ⟨ret_two HT2.out.symm, _, rfl⟩
  · rw [decide_eq_false hq]
    rcases HS2.out hq with ⟨rfl, rfl⟩ | ⟨a, rfl, ha, h5, h6⟩
    · have HN := hide (HNone.out rfl)
      clear hq
      go_wp2
      go_ret2
      exact ⟨ret_two HN.out.symm, Qt.refl _⟩
    obtain ⟨s, b3, o3, rfl, e5, hsl, h15, hwl, htell⟩ := HRest.out a ha h5 h6
    have hai : ((a + 1 : Nat) : Int) - 1 = (a : Int) := by omega
    have hai0 : (0 : Int) ≤ (a : Int) := by omega
    clear hq h5 h6
    have hlx := lenX_at hsl
    have CL := hlength_any e1 HB.out (s : Int)
    rw [hlx] at CL
    rcases H2.out with h0 | ⟨b2, o2, rfl, _, hc2⟩
    · omega
    have e6 : w.cell? ⟨b2, o2 + s, none⟩ = some (.int .u16 ((word l s : Nat) : Int)) := by rw [hc2 s hsl, codesL_at hsl]
    have HT := hide htell
    clear htell hc2 hlx HS1 HS2 HRest
    unfold tellF at HT
    generalize word l s = x at *
    generalize lenAt l s = y at *
    go_wp2_with fail
    refine CL.mono ?_
    rintro e w' ⟨rfl, rfl⟩
    clear CL
    have hsh : IntKind.i64.wrap (15 - (y : Int)) = 15 - (y : Int) := IntWalk.i64_in _ (by omega)
    have hsh0 : (0 : Int) ≤ 15 - (y : Int) := by omega
    have hsh1 : (15 - (y : Int)).toNat = 15 - y := by omega
    have hcast : (N : Int) / 2 ^ (15 - y) = ((N / 2 ^ (15 - y) : Nat) : Int) := by simp
    by_cases hw : N / 2 ^ (15 - y) = x
    · have HT2 := hide (show (r.1, r.2.1) = if m < y then (-1, 1) else ((s : Int), 0) by rw [HT.out, if_neg (fun hn => hn hw)])
      have hbe : ((N : Int) / 2 ^ (15 - y) != (x : Int)) = false := by rw [hcast, hw]; simp
      clear hw hcast
      by_cases hmy : m < y
      · have HT3 := hide (show (r.1, r.2.1) = (-1, 1) by rw [HT2.out, if_pos hmy])
        go_wp2_with fail
        go_quiet (fail)
        go_wp2
        go_ret2
        exact ⟨ret_two HT3.out.symm, _, rfl⟩
      · have HT3 := hide (show (r.1, r.2.1) = ((s : Int), 0) by rw [HT2.out, if_neg hmy])
        go_wp2_with fail
        go_quiet (fail)
        go_wp2
        go_ret2
        exact ⟨ret_two HT3.out.symm, _, rfl⟩
    · have HT2 := hide (show (r.1, r.2.1) = (-1, 7) by rw [HT.out, if_pos hw])
      have hbe : ((N : Int) / 2 ^ (15 - y) != (x : Int)) = true := by rw [hcast, bne_iff_ne]; omega
      clear hw hcast
      go_wp2_with fail
      go_quiet (fail)
      go_wp2
      go_ret2
      exact ⟨ret_two HT2.out.symm, _, rfl⟩
end Go.Proofs.Ytjpmabdnaooglaa

namespace Go.Proofs.Ytjpmabdnaooglaa
open Go.RowKit

/-- The results are a row of cells in a block, and what a slot holds. -/
theorem results_row2 {fn : Func} {p u : Tmp} {ty : TypeId} (h : fn.results = #[.cell p ty, .tmp u]) (tmps : Array Value) {w : World} {g : Nat} {cs : Array Value} {x : Value} (hp : tmps.getD p undef = .pointer (some ⟨g, 0, none⟩)) (hx : tmps.getD u undef = x)
    (hl : (loadVar ty ⟨g, 0, none⟩).run Try.prog w = .ok (.agg cs) w) : (results fn tmps).run Try.prog w = .ok (.tuple #[.agg cs, x]) w := by
  rw [results_cell_tmp h, hp, hx]
  simp [asAddr, Result.andThen, hl]
end Go.Proofs.Ytjpmabdnaooglaa

namespace Go.Proofs.Ytjpmabdnaooglaa.Can
open Len

/-- How many of the first n symbols have length k. -/
def cnt (l : List UInt8) (n k : Nat) : Nat := sumN n fun i => if lenAt l i = k then 1 else 0
/-- The first word of length k. -/
def fst (l : List UInt8) (k : Nat) : Nat := if k = 0 then 0 else acc l k 0 / 2 ^ (15 - k)
theorem cnt_succ (l : List UInt8) (n k : Nat) : cnt l (n + 1) k = cnt l n k + if lenAt l n = k then 1 else 0 := rfl
theorem cnt_le (l : List UInt8) (k : Nat) : ∀ n, cnt l n k ≤ n
  | 0 => Nat.le_refl _
  | n + 1 => by
    have := cnt_le l k n
    rw [cnt_succ]
    split <;> omega
theorem acc_cnt (l : List UInt8) {k : Nat} (hk : 1 ≤ k) : ∀ s, s ≤ l.length → acc l k s = acc l k 0 + cnt l s k * 2 ^ (15 - k)
  | 0, _ => by simp [cnt, sumN]
  | s + 1, h => by
    rw [acc_step l hk (by omega), acc_cnt l hk s (by omega), cnt_succ]
    split
    · rw [Nat.add_mul, Nat.one_mul, Nat.add_assoc]
    · simp
theorem fst_mul (l : List UInt8) {k : Nat} (hk : 1 ≤ k) : fst l k * 2 ^ (15 - k) = acc l k 0 := by
  unfold fst
  rw [if_neg (by omega)]
  exact Nat.div_mul_cancel (acc_dvd _ _)
theorem fst_one (l : List UInt8) : fst l 1 = 0 := by
  unfold fst
  rw [if_neg (by omega), acc_start, Nat.zero_div]
theorem fst_acc (l : List UInt8) {k : Nat} (hk : 1 ≤ k) (s : Nat) (hs : s ≤ l.length) : (fst l k + cnt l s k) * 2 ^ (15 - k) = acc l k s := by
  rw [Nat.add_mul, fst_mul l hk, ← acc_cnt l hk s hs]
theorem fst_next (l : List UInt8) {k : Nat} (hk : 1 ≤ k) (h15 : k < 15) : fst l (k + 1) = (fst l k + cnt l l.length k) * 2 := by
  have h1 := fst_acc l hk l.length (Nat.le_refl _)
  rw [← acc_turn, ← fst_mul l (k := k + 1) (by omega), show 15 - k = 15 - (k + 1) + 1 by omega, Nat.pow_succ, ← Nat.mul_assoc, Nat.mul_right_comm] at h1
  exact (Nat.eq_of_mul_eq_mul_right (Nat.pow_pos (by omega)) h1).symm
theorem fst_room {l : List UInt8} (hr : right l = true) {k : Nat} (hk : 1 ≤ k) (s : Nat) (hs : s ≤ l.length) : fst l k + cnt l s k ≤ 32768 := by
  have h1 := acc_le l k s
  rw [← fst_acc l hk s hs] at h1
  have h2 := (right_facts hr).2.2
  have h3 : (fst l k + cnt l s k) * 1 ≤ (fst l k + cnt l s k) * 2 ^ (15 - k) := Nat.mul_le_mul_left _ (Nat.pow_pos (by omega))
  omega
theorem word_fst (l : List UInt8) {s : Nat} (hs : s < l.length) (h0 : lenAt l s ≠ 0) : word l s = fst l (lenAt l s) + cnt l s (lenAt l s) := by
  unfold word
  rw [if_neg h0, ← fst_acc l (by omega) s (by omega), Nat.mul_div_cancel _ (Nat.pow_pos (by omega))]

theorem cnt_sum {l : List UInt8} (c : Nat → Nat) : ∀ n, (∀ i, i < n → lenAt l i ≤ 15) → (sumN 15 fun j => cnt l n (j + 1) * c (j + 1)) = sumN n fun i => if lenAt l i = 0 then 0 else c (lenAt l i)
  | 0, _ => sumN_zero _ fun i _ => by simp [cnt, sumN]
  | n + 1, h => by
    have ih := cnt_sum c n (fun i hi => h i (by omega))
    have e : (sumN 15 fun j => cnt l (n + 1) (j + 1) * c (j + 1)) = sumN 15 fun j => cnt l n (j + 1) * c (j + 1) + (if lenAt l n = j + 1 then c (j + 1) else 0) := sumN_congr fun j _ => by
      rw [cnt_succ, Nat.add_mul]
      split <;> simp
    have e3 : (sumN 15 fun j => if lenAt l n = j + 1 then c (j + 1) else 0) = if lenAt l n = 0 then 0 else c (lenAt l n) := by
      by_cases h0 : lenAt l n = 0
      · rw [if_pos h0]
        exact sumN_zero _ fun j _ => if_neg (by omega)
      · rw [if_neg h0]
        have e2 : (sumN 15 fun j => if lenAt l n = j + 1 then c (j + 1) else 0) = sumN 15 fun j => if j = lenAt l n - 1 then c (lenAt l n) else 0 := sumN_congr fun j _ => by
          by_cases hj : lenAt l n = j + 1
          · rw [if_pos hj, if_pos (by omega), hj]
          · rw [if_neg hj, if_neg (by omega)]
        have := h n (by omega)
        rw [e2, sumN_pt, if_pos (by omega)]
    rw [e, sumN_add, ih, e3]
    rfl
/-- How many words there are, and their weight, by the counts. -/
def wordsF (f : Nat → Nat) (n : Nat) : Nat := sumN n fun j => f (j + 1)
def weightF (f : Nat → Nat) (n : Nat) : Nat := sumN n fun j => f (j + 1) * 2 ^ (15 - (j + 1))
def rightF (f : Nat → Nat) : Bool := decide (wordsF f 15 = 0 ∨ wordsF f 15 = 1 ∧ f 1 = 1 ∨ weightF f 15 = 32768)
theorem wordsF_le {f : Nat → Nat} (hf : ∀ k, f k ≤ 300) (n : Nat) : wordsF f n ≤ n * 300 := by
  rw [← sumN_const 300 n]
  exact sumN_le fun j _ => hf _
theorem weightF_le {f : Nat → Nat} (hf : ∀ k, f k ≤ 300) (n : Nat) : weightF f n ≤ n * 9830400 := by
  rw [← sumN_const 9830400 n]
  refine sumN_le fun j _ => ?_
  have h1 : 2 ^ (15 - (j + 1)) ≤ 2 ^ 15 := Nat.pow_le_pow_right (by omega) (by omega)
  have h2 := Nat.mul_le_mul (hf (j + 1)) h1
  omega
theorem right_of_counts {l : List UInt8} (hn : l.length ≤ 300) (h15 : ∀ i, i < l.length → lenAt l i ≤ 15) : rightF (cnt l l.length) = right l := by
  have hk : kraftE l = (kraftOf l l.length, 0) := if_pos ⟨hn, h15⟩
  have h1 : wordsF (cnt l l.length) 15 = usedC l l.length := by
    have := cnt_sum (l := l) (fun _ => 1) l.length h15
    simp only [Nat.mul_one] at this
    exact this
  have h2 : weightF (cnt l l.length) 15 = kraftOf l l.length := cnt_sum (l := l) (fun k => 2 ^ (15 - k)) l.length h15
  unfold rightF right
  rw [h1, h2, hk]
  apply decide_eq_decide.2
  constructor
  · exact fun h => ⟨rfl, h⟩
  · exact fun h => h.2
theorem wrong_long {l : List UInt8} (hn : 300 < l.length) : right l = false := decide_eq_false fun h => by
  have := (kraft_ok h.1).1
  omega
theorem wrong_high {l : List UInt8} {i : Nat} (hi : i < l.length) (h : 15 < lenAt l i) : right l = false := decide_eq_false fun h2 => by
  have := (kraft_ok h2.1).2.1 i hi
  omega
/-- The words of the first s symbols, the others 0. -/
def codesTo (l : List UInt8) (s : Nat) : List Nat := (List.range l.length).map fun t => if t < s then word l t else 0
theorem codesTo_len (l : List UInt8) (s : Nat) : (codesTo l s).length = l.length := by simp [codesTo]
theorem codesTo_none (l : List UInt8) : codesTo l 0 = List.replicate l.length 0 := by
  refine List.ext_getElem (by simp [codesTo]) fun t h1 h2 => ?_
  simp [codesTo]
theorem codesTo_all (l : List UInt8) : codesTo l l.length = codesL l := by
  refine List.ext_getElem (by simp [codesTo, codesL]) fun t h1 h2 => ?_
  have : t < l.length := by simpa [codesTo] using h1
  simp [codesTo, codesL, this]
theorem codesTo_set (l : List UInt8) (s : Nat) : (codesTo l s).set s (word l s) = codesTo l (s + 1) := by
  refine List.ext_getElem (by simp [codesTo]) fun t h1 h2 => ?_
  rw [List.getElem_set]
  simp only [codesTo, List.getElem_map, List.getElem_range]
  split
  · rename_i e
    rw [if_pos (by omega), e]
  · rename_i e
    by_cases h : t < s
    · rw [if_pos h, if_pos (by omega)]
    · rw [if_neg h, if_neg (by omega)]
theorem codesTo_pass (l : List UInt8) {s : Nat} (h : lenAt l s = 0) : codesTo l s = codesTo l (s + 1) := by
  have e : word l s = 0 := if_pos h
  refine List.ext_getElem (by simp [codesTo]) fun t h1 h2 => ?_
  simp only [codesTo, List.getElem_map, List.getElem_range]
  by_cases ht : t = s
  · rw [if_neg (by omega), if_pos (by omega), ht, e]
  · by_cases h : t < s
    · rw [if_pos h, if_pos (by omega)]
    · rw [if_neg h, if_neg (by omega)]
end Go.Proofs.Ytjpmabdnaooglaa.Can

namespace Go.Proofs.Ytjpmabdnaooglaa
open Go.RowKit Len Can

theorem Can.codes_example : codesE [1, 3, 3, 2] = ([0, 6, 7, 2], 0) := by decide +kernel
def CodesC (w : World) : Prop := ∀ (l : List UInt8) (A : Option Addr) (n c : Nat) (W : World), Ext w W → n ≤ c → c ≤ maxLen → Bytes W W.heap.size A n l → Calls Try.prog 54 #[.slice A n c] W (TellsH W (codesE l))

end Go.Proofs.Ytjpmabdnaooglaa

namespace Go.Proofs.Ytjpmabdnaooglaa
open Go.RowKit Len Can

/-- Sixteen numbers as an array's cells. -/
def Can.cntV (f : Nat → Nat) : Array Value := ((List.range 16).map fun k => Value.int .i64 ((f k : Nat) : Int)).toArray
theorem Can.cntV_size (f : Nat → Nat) : (cntV f).size = 16 := by simp [cntV]
theorem Can.cntV_at (f : Nat → Nat) {k : Nat} (hk : k < 16) : (cntV f)[k]? = some (.int .i64 ((f k : Nat) : Int)) := by simp [cntV, hk]
theorem Can.cntV_one (f : Nat → Nat) : (cntV f).all (·.oneCell') = true := by
  simp [cntV]
  intros
  rfl
theorem cnt_info : (Try.prog.info? 119).map (·.size) = some 16 := by kernel_rfl

set_option maxHeartbeats 2000000 in
set_option maxRecDepth 100000 in
theorem cRight_any (f : Nat → Nat) (hf : ∀ k, f k ≤ 300) (w : World) : Calls Try.prog 77 #[.agg (cntV f)] w fun e w' => e = .returned (.bool (rightF f)) ∧ Ext w w' := by
  have hE1 := extNew w (.cells (cntV f) 119)
  have hW1 := Whole.new w 119 (cntV f)
  have HA := hide (show ∀ k, k < 16 → (cntV f)[k]? = some (.int .i64 ((f k : Nat) : Int)) from fun k hk => cntV_at f hk)
  have HF := hide hf
  have HW0 := hide (show wordsF f 0 = 0 from rfl)
  have HG0 := hide (show weightF f 0 = 0 from rfl)
  have HWS := hide (show ∀ j, wordsF f (j + 1) = wordsF f j + f (j + 1) from fun _ => rfl)
  have HGS := hide (show ∀ j, weightF f (j + 1) = weightF f j + f (j + 1) * 2 ^ (15 - (j + 1)) from fun _ => rfl)
  have HWL := hide (wordsF_le hf)
  have HGL := hide (weightF_le hf)
  have HR := hide (show ∀ r : Prop, ((wordsF f 15 = 0 ∨ wordsF f 15 = 1 ∧ f 1 = 1 ∨ weightF f 15 = 32768) ↔ r) → (r → rightF f = true) ∧ (¬ r → rightF f = false) from fun r hr => ⟨fun h => decide_eq_true (hr.2 h), fun h => decide_eq_false fun h2 => h (hr.1 h2)⟩)
  clear hf
  generalize cntV f = cs at *
  generalize rightF f = res at *
  go_enter Try.func77, Try.ntmps77
  go_wp2
  go_loopw [5, 3, 4] (fun x a b wr => ∃ j u v : Nat, j ≤ 15 ∧ x = .int .i64 ((j + 1 : Nat) : Int) ∧ a = .int .i64 (u : Int) ∧ b = .int .i64 (v : Int) ∧ u = wordsF f j ∧ v = weightF f j ∧ Whole wr w.heap.size 119 cs ∧ Ext w wr) (fun x _ _ _ => 17 - (intOf x).toNat)
  case atStart => exact ⟨0, 0, 0, by omega, rfl, rfl, rfl, HW0.out.symm, HG0.out.symm, hW1, hE1⟩
  case round =>
    obtain ⟨j, u, v, hj, rfl, rfl, rfl, hu, hv, hW, hE⟩ := hrel
    have hub := HWL.out j
    have hvb := HGL.out j
    rw [← hu] at hub
    rw [← hv] at hvb
    by_cases hlt : j < 15
    · have hjI : ((j + 1 : Nat) : Int) ≤ 15 := by omega
      have hc := hW.at (j + 1) (HA.out (j + 1) (by omega))
      have hyl := HF.out (j + 1)
      have HU := HWS.out j
      have HV := HGS.out j
      rw [← hu] at HU
      rw [← hv] at HV
      generalize f (j + 1) = y at *
      have hp : 2 ^ (15 - (j + 1)) ≤ 32768 := Nat.le_trans (Nat.pow_le_pow_right (by omega) (show 15 - (j + 1) ≤ 15 by omega)) (by decide)
      have hyp := Nat.mul_le_mul hyl hp
      have HUh := hide HU
      have HVh := hide HV
      clear HU HV hu hv
      go_wp2
      have hw : wrap64 ((v : Int) + wrap64 ((y : Int) * 2 ^ (14 - j))) = ((v + y * 2 ^ (15 - (j + 1)) : Nat) : Int) := by
        have e : (y : Int) * 2 ^ (14 - j) = ((y * 2 ^ (15 - (j + 1)) : Nat) : Int) := by rw [Int.natCast_mul, Int.natCast_pow, show 15 - (j + 1) = 14 - j by omega]; rfl
        rw [e]
        generalize y * 2 ^ (15 - (j + 1)) = z at *
        unfold wrap64
        omega
      rw [hw]
      go_roundw
      case rel => exact ⟨j + 1, u + y, v + y * 2 ^ (15 - (j + 1)), by omega, by go_num, by go_num, rfl, HUh.out.symm, HVh.out.symm, hW, hE⟩
      case measure => simp [intOf]; omega
    · obtain rfl : j = 15 := by omega
      have hjI : ¬ ((15 + 1 : Nat) : Int) ≤ 15 := by omega
      have HRu := hide (HR.out (u = 0 ∨ u = 1 ∧ f 1 = 1 ∨ v = 32768) (by rw [hu, hv]))
      have hc := hW.at 1 (HA.out 1 (by omega))
      clear hu hv
      generalize f 1 = y at *
      by_cases h0 : u = 0
      · have HK := hide (HRu.out.1 (.inl h0))
        clear HRu
        subst h0
        go_wp2
        go_ret
        exact ⟨ret_bool HK.out.symm, hE⟩
      · have h0b : ((u : Int) == 0) = false := by rw [beq_eq_false_iff_ne]; omega
        by_cases hv : v = 32768
        · have HK := hide (HRu.out.1 (.inr (.inr hv)))
          clear HRu
          subst hv
          by_cases h1 : u = 1
          · subst h1
            by_cases hy : y = 1
            · subst hy
              go_wp2
              go_ret
              exact ⟨ret_bool HK.out.symm, hE⟩
            · have hyb : ((y : Int) == 1) = false := by rw [beq_eq_false_iff_ne]; omega
              go_wp2
              go_ret
              exact ⟨ret_bool HK.out.symm, hE⟩
          · have h1b : ((u : Int) == 1) = false := by rw [beq_eq_false_iff_ne]; omega
            go_wp2
            go_ret
            exact ⟨ret_bool HK.out.symm, hE⟩
        · have hvb2 : ((v : Int) == 32768) = false := by rw [beq_eq_false_iff_ne]; omega
          by_cases h1 : u = 1
          · by_cases hy : y = 1
            · have HK := hide (HRu.out.1 (.inr (.inl ⟨h1, hy⟩)))
              clear HRu
              subst h1
              subst hy
              go_wp2
              go_ret
              exact ⟨ret_bool HK.out.symm, hE⟩
            · have hyb : ((y : Int) == 1) = false := by rw [beq_eq_false_iff_ne]; omega
              have HK := hide (HRu.out.2 (by omega))
              clear HRu
              subst h1
              go_wp2
              go_ret
              exact ⟨ret_bool HK.out.symm, hE⟩
          · have h1b : ((u : Int) == 1) = false := by rw [beq_eq_false_iff_ne]; omega
            have HK := hide (HRu.out.2 (by omega))
            clear HRu
            go_wp2
            go_ret
            exact ⟨ret_bool HK.out.symm, hE⟩

/-- Sixteen numbers of 16 bits as an array's cells. -/
def Can.h16A (f : Nat → Nat) : Array Value := ((List.range 16).map fun k => h16V (f k)).toArray
theorem Can.h16A_size (f : Nat → Nat) : (h16A f).size = 16 := by simp [h16A]
theorem Can.h16A_at (f : Nat → Nat) {k : Nat} (hk : k < 16) : (h16A f)[k]? = some (.int .u16 ((f k : Nat) : Int)) := by simp [h16A, hk, h16V]
theorem Can.h16A_one (f : Nat → Nat) : (h16A f).all (·.oneCell') = true := by
  simp [h16A, h16V]
  intros
  rfl
theorem Can.h16A_set (f g : Nat → Nat) (k x : Nat) (h : ∀ j, j < 16 → g j = if j = k then x else f j) : (h16A f).setIfInBounds k (.int .u16 (x : Int)) = h16A g := by
  apply Array.ext_getElem?
  intro i
  rcases Nat.lt_or_ge i 16 with hi | hi
  · rw [h16A_at g hi, h i hi]
    by_cases e : k = i
    · subst e
      rw [Array.getElem?_setIfInBounds_self_of_lt (by rw [h16A_size]; exact hi), if_pos rfl]
    · rw [Array.getElem?_setIfInBounds_ne e, h16A_at f hi, if_neg (by omega)]
  · rw [Array.getElem?_eq_none (by rw [Array.size_setIfInBounds, h16A_size]; exact hi), Array.getElem?_eq_none (by rw [h16A_size]; exact hi)]
theorem f16_info : (Try.prog.info? 122).map (·.size) = some 16 := by kernel_rfl
/-- The first words of the lengths below n. -/
def Can.fstTo (l : List UInt8) (n k : Nat) : Nat := if k < n then fst l k else 0
theorem Can.fstTo_one (l : List UInt8) : h16A (fstTo l 1) = #[.int .u16 0, .int .u16 0, .int .u16 0, .int .u16 0, .int .u16 0, .int .u16 0, .int .u16 0, .int .u16 0, .int .u16 0, .int .u16 0, .int .u16 0, .int .u16 0, .int .u16 0, .int .u16 0, .int .u16 0, .int .u16 0] := rfl
theorem Can.fstTo_all (l : List UInt8) : h16A (fstTo l 16) = h16A (fst l) := by
  unfold h16A
  congr 1
theorem Can.fstTo_step (l : List UInt8) {k : Nat} : (h16A (fstTo l k)).setIfInBounds k (.int .u16 (fst l k : Nat)) = h16A (fstTo l (k + 1)) := h16A_set _ _ _ _ fun j _ => by
  unfold fstTo
  by_cases h : j = k
  · rw [if_pos h, if_pos (by omega), h]
  · rw [if_neg h]
    by_cases h2 : j < k
    · rw [if_pos h2, if_pos (by omega)]
    · rw [if_neg h2, if_neg (by omega)]

set_option maxHeartbeats 2000000 in
set_option maxRecDepth 100000 in
theorem cFirsts_any (l : List UInt8) (hr : right l = true) (w : World) : Calls Try.prog 68 #[.agg (cntV (cnt l l.length))] w fun e w' => e = .returned (.agg (h16A (fst l))) ∧ Ext w w' := by
  have hE1 := extNew w (.cells (cntV (cnt l l.length)) 119)
  have hW1 := Whole.new w 119 (cntV (cnt l l.length))
  have HA := hide (show ∀ k, k < 16 → (cntV (cnt l l.length))[k]? = some (.int .i64 ((cnt l l.length k : Nat) : Int)) from fun k hk => cntV_at _ hk)
  have HRoom := hide (show ∀ k, 1 ≤ k → fst l k + cnt l l.length k ≤ 32768 from fun k hk => fst_room hr hk _ (Nat.le_refl _))
  have HNext := hide (show ∀ k, 1 ≤ k → k < 15 → fst l (k + 1) = (fst l k + cnt l l.length k) * 2 from fun k hk h15 => fst_next l hk h15)
  have H1 := hide (fst_one l)
  have HZ := hide (fstTo_one l)
  have HS := hide (show ∀ k, (h16A (fstTo l k)).setIfInBounds k (.int .u16 (fst l k : Nat)) = h16A (fstTo l (k + 1)) from fun k => fstTo_step l)
  have HAll := hide (fstTo_all l)
  have HSz := hide (show ∀ k, (h16A (fstTo l k)).size = 16 from fun k => h16A_size _)
  have HSzA := hide (h16A_size (fst l))
  have HOne := hide (h16A_one (fst l))
  clear hr
  generalize cntV (cnt l l.length) = cs at *
  generalize cnt l l.length = f at *
  have hE2 := (hE1.alloc (.cells (h16A (fstTo l 1)) 122)).alloc (.cells (h16A (fstTo l 1)) 122)
  have hW2 := (hW1.alloc (.cells (h16A (fstTo l 1)) 122)).alloc (.cells (h16A (fstTo l 1)) 122)
  have hR2 := (Whole.new (w.alloc (.cells cs 119)) 122 (h16A (fstTo l 1))).alloc (.cells (h16A (fstTo l 1)) 122)
  have hF2 := Whole.new ((w.alloc (.cells cs 119)).alloc (.cells (h16A (fstTo l 1)) 122)) 122 (h16A (fstTo l 1))
  simp only [World.size_alloc] at hR2 hF2
  go_enter Try.func68, Try.ntmps68
  go_wp2
  rw [← HZ.out]
  obtain ⟨Z, hZ⟩ : ∃ Z, Z = h16A (fstTo l 1) := ⟨_, rfl⟩
  have HZs := hide (show Z.size = 16 by rw [hZ]; exact HSz.out 1)
  rw [← hZ] at hR2
  have HZe := hide hZ
  clear hZ
  go_loopw [5, 4] (fun x a wr => ∃ j s : Nat, j ≤ 15 ∧ x = .int .i64 ((j + 1 : Nat) : Int) ∧ a = .int .i64 (s : Int) ∧ (j < 15 → fst l (j + 1) = s * 2) ∧ s ≤ 32768 ∧ Whole wr w.heap.size 119 cs ∧ Whole wr (w.heap.size + 1) 122 Z ∧ Whole wr (w.heap.size + 1 + 1) 122 (h16A (fstTo l (j + 1))) ∧ Ext w wr) (fun x _ _ => 17 - (intOf x).toNat)
  case atStart => exact ⟨0, 0, by omega, rfl, rfl, fun _ => H1.out, by omega, hW2, by rw [HZe.out] at hR2 ⊢; exact hR2, hF2, hE2⟩
  case round =>
    clear hE1 hW1 hE2 hW2 hR2 hF2
    obtain ⟨j, s, hj, rfl, rfl, hs, hsb, hW, hR, hF, hE⟩ := hrel
    by_cases hlt : j < 15
    · have hjI : ((j + 1 : Nat) : Int) ≤ 15 := by omega
      have hcs := HA.out (j + 1) (by omega)
      have hS := HS.out (j + 1)
      rw [hs hlt] at hS
      have hrm := HRoom.out (j + 1) (by omega)
      rw [hs hlt] at hrm
      have hnx := HNext.out (j + 1) (by omega)
      rw [hs hlt] at hnx
      have hsz := HSz.out (j + 1)
      generalize f (j + 1) = y at *
      have HSh := hide hS
      have HNx := hide hnx
      clear hs hS hnx
      have hu16 : IntKind.u16.wrap ((s : Int) * 2) = ((s * 2 : Nat) : Int) := by simp [IntKind.wrap, IntKind.bits, IntKind.signed]; omega
      have hb1 : (Try.prog.info? 90).map (·.size) = some 1 := by kernel_rfl
      have hszl : j + 1 < (h16A (fstTo l (j + 1))).size := by omega
      have HSzl := hide hszl
      have HCs := hide hcs
      clear hsz hszl hcs
      generalize h16A (fstTo l (j + 1)) = V at *
      generalize hV2 : h16A (fstTo l (j + 1 + 1)) = V2 at *
      have HV2 := hide hV2
      clear hV2
      go_wp2_with (refine wpList_storeC rfl 90 (.tmp 15) (.tmp 14) rfl _ rfl rfl hF HSzl.out hb1 rfl rfl HSh.out ?_; intro w3 hF3 hG3; have hW3 := hW.grown hG3 (by omega); have hc3 := hW3.at (j + 1) HCs.out)
      go_roundw
      case rel => exact ⟨j + 1, s * 2 + y, by omega, by go_num, by go_num, HNx.out, hrm, hW3, hR.grown hG3 (by omega), by rw [HV2.out]; exact hF3, Below.grown hE hG3 hE.le (fun k hk => by cases hk; omega)⟩
      case measure => simp [intOf]; omega
    · obtain rfl : j = 15 := by omega
      have hjI : ¬ ((15 + 1 : Nat) : Int) ≤ 15 := by omega
      rw [show 15 + 1 = 16 from rfl, HAll.out] at hF
      have hsz := HSzA.out
      have hinf : (Try.prog.info? 122).map (·.size) = some (h16A (fst l)).size := by rw [hsz]; exact f16_info
      have hss : (h16A (fst l)).size = Z.size := by rw [hsz, HZs.out]
      have hone := HOne.out
      clear hs hW hsz
      obtain ⟨V, hV⟩ : ∃ V, V = h16A (fst l) := ⟨_, rfl⟩
      rw [← hV] at hF hinf hss hone
      have HVV := hide hV
      clear hV
      go_wp2_with (first
        | (refine wpList_load_row rfl 122 (.tmp 3) rfl _ rfl _ _ _ _ hF Try.underlying122 rfl hinf ?_)
        | (refine wpList_storeW rfl 122 (.tmp 2) (.tmp 21) rfl rfl rfl hR hss hinf hone ?_; intro w5 hW5 hG5 _))
      refine bodyPost_ret (results_cell_row rfl _ _ _ _ _ _ _ rfl hW5 Try.underlying122 rfl hinf) rfl ?_
      exact ⟨by rw [HVV.out], Below.grown hE hG5 hE.le (fun k hk => by cases hk; omega)⟩

theorem Can.cntV_zero : cntV (fun _ => 0) = #[.int .i64 0, .int .i64 0, .int .i64 0, .int .i64 0, .int .i64 0, .int .i64 0, .int .i64 0, .int .i64 0, .int .i64 0, .int .i64 0, .int .i64 0, .int .i64 0, .int .i64 0, .int .i64 0, .int .i64 0, .int .i64 0] := rfl
theorem Can.cntV_set (f g : Nat → Nat) (k x : Nat) (h : ∀ j, j < 16 → g j = if j = k then x else f j) : (cntV f).setIfInBounds k (.int .i64 (x : Int)) = cntV g := by
  apply Array.ext_getElem?
  intro i
  rcases Nat.lt_or_ge i 16 with hi | hi
  · rw [cntV_at g hi, h i hi]
    by_cases e : k = i
    · subst e
      rw [Array.getElem?_setIfInBounds_self_of_lt (by rw [cntV_size]; exact hi), if_pos rfl]
    · rw [Array.getElem?_setIfInBounds_ne e, cntV_at f hi, if_neg (by omega)]
  · rw [Array.getElem?_eq_none (by rw [Array.size_setIfInBounds, cntV_size]; exact hi), Array.getElem?_eq_none (by rw [cntV_size]; exact hi)]
end Go.Proofs.Ytjpmabdnaooglaa

namespace Go.Proofs.Ytjpmabdnaooglaa
open Go.RowKit Len Can

/-- What countOut tells. -/
def Can.outF (l : List UInt8) : Nat → Nat := if right l then cnt l l.length else fun _ => 0
def Counted (w : World) (l : List UInt8) (e : Ending) (w' : World) : Prop := e = .returned (.tuple #[.agg (cntV (outF l)), .int .i64 (checkE l)]) ∧ Ext w w'
theorem Can.cnt_step (l : List UInt8) (i : Nat) : (cntV (cnt l i)).setIfInBounds (lenAt l i) (.int .i64 ((cnt l i (lenAt l i) + 1 : Nat) : Int)) = cntV (cnt l (i + 1)) := cntV_set _ _ _ _ fun j _ => by
  rw [cnt_succ]
  by_cases h : j = lenAt l i
  · rw [if_pos h, if_pos h.symm, h]
  · rw [if_neg h, if_neg (fun e => h e.symm), Nat.add_zero]
theorem Can.cnt_none (l : List UInt8) : cntV (cnt l 0) = cntV fun _ => 0 := rfl

set_option maxHeartbeats 2000000 in
set_option maxRecDepth 100000 in
theorem countOut_any (A : Option Addr) (n c : Nat) (l : List UInt8) (w : World) (h : Bytes w w.heap.size A n l) : Calls Try.prog 67 #[.slice A n c] w (Counted w l) := by
  have hl := h.1
  subst hl
  have hR1 := Whole.new w 119 (cntV fun _ => 0)
  have hE1 := extNew w (.cells (cntV fun _ => 0) 119)
  have HNo := hide (show right l = false → outF l = fun _ => 0 from fun h => by unfold outF; rw [h]; rfl)
  have HNo7 := hide (show right l = false → checkE l = 7 from check_wrong)
  have hinf : (Try.prog.info? 119).map (·.size) = some (cntV fun _ => 0).size := by rw [cntV_size]; exact cnt_info
  by_cases hbig : (300 : Int) < (l.length : Int)
  · have HN := hide (HNo.out (wrong_long (by omega)))
    have H7 := hide (HNo7.out (wrong_long (by omega)))
    go_enter Try.func67, Try.ntmps67
    go_wp2
    refine bodyPost_ret (results_row2 rfl _ rfl rfl (run_loadVar_row _ _ _ _ _ _ _ hR1 Try.underlying119 rfl hinf)) rfl ?_
    exact ⟨by rw [HN.out, H7.out]; rfl, hE1⟩
  · have hE2 := hE1.alloc (.cells (cntV fun _ => 0) 119)
    have hR2 := hR1.alloc (.cells (cntV fun _ => 0) 119)
    have hM2 := Whole.new (w.alloc (.cells (cntV fun _ => 0) 119)) 119 (cntV fun _ => 0)
    simp only [World.size_alloc] at hM2
    have HS := hide (cnt_step l)
    have H0 := hide (cnt_none l)
    have HZ := hide cntV_zero
    have HLe := hide (show ∀ i k, cnt l i k ≤ i from fun i k => cnt_le l k i)
    have HRt := hide (show (∀ i, i < l.length → lenAt l i ≤ 15) → rightF (cnt l l.length) = right l from right_of_counts (by omega))
    have HYes := hide (show right l = true → outF l = cnt l l.length from fun h => by unfold outF; rw [h]; rfl)
    have HYes0 := hide (show right l = true → checkE l = 0 from check_right)
    have HWr := hide (show ∀ i, i < l.length → 15 < lenAt l i → right l = false from fun i hi h => wrong_high hi h)
    have HSz := hide (show ∀ f, (cntV f).size = 16 from cntV_size)
    have HOne := hide (show ∀ f, (cntV f).all (·.oneCell') = true from cntV_one)
    have HAt := hide (show ∀ f k, k < 16 → (cntV f)[k]? = some (.int .i64 ((f k : Nat) : Int)) from fun f k h => cntV_at f h)
    go_enter Try.func67, Try.ntmps67
    go_wp2
    rw [← HZ.out]
    go_loopw [13] (fun x wr => ∃ i : Nat, i ≤ l.length ∧ x = .int .i64 (i : Int) ∧ (∀ q, q < i → lenAt l q ≤ 15) ∧ Whole wr w.heap.size 119 (cntV fun _ => 0) ∧ Whole wr (w.heap.size + 1) 119 (cntV (cnt l i)) ∧ Ext w wr) (fun x _ => l.length - (intOf x).toNat)
    case atStart => exact ⟨0, by omega, rfl, fun q hq => absurd hq (by omega), hR2, by rw [H0.out]; exact hM2, hE2⟩
    case round =>
      clear hE1 hR1 hE2 hR2 hM2
      obtain ⟨i, hi, rfl, hall, hR, hM, hE⟩ := hrel
      have HAll := hide hall
      clear hall
      by_cases hlt : i < l.length
      · rcases (hE.bytes h).2 with h0 | ⟨b, o, rfl, hB, hc⟩
        · omega
        have hk := hc i hlt
        have hyl := UInt8.toNat_lt (l.getD i 0)
        have hS := HS.out i
        have hW := HWr.out i hlt
        obtain ⟨y, hy⟩ : ∃ y, y = lenAt l i := ⟨_, rfl⟩
        have hk2 : wr.cell? ⟨b, o + i, none⟩ = some (.int .u8 (y : Int)) := by rw [hy]; exact hk
        have hyl2 : y < 256 := by rw [hy]; exact hyl
        rw [← hy] at hS hW
        have HY := hide hy
        have hil : (i : Int) < (l.length : Int) := by omega
        clear hc hy hk hyl
        by_cases h15 : (15 : Int) < (y : Int)
        · have HN := hide (HNo.out (hW (by omega)))
          have H7 := hide (HNo7.out (hW (by omega)))
          have hone := HOne.out fun _ => 0
          clear hS hW
          go_wp2_with (refine wpList_storeW rfl 119 (.tmp 2) (.tmp 19) rfl rfl (congrArg Value.agg HZ.out.symm) hR rfl hinf hone ?_; intro w5 hW5 hG5 _)
          refine bodyPost_ret (results_row2 rfl _ rfl rfl (run_loadVar_row _ _ _ _ _ _ _ hW5 Try.underlying119 rfl hinf)) rfl ?_
          exact ⟨by rw [HN.out, H7.out]; rfl, Below.grown hE hG5 hE.le (fun k hk => by cases hk; omega)⟩
        · have HS2 := hide hS
          have hcy := hM.at y (HAt.out _ y (by omega))
          have hle := HLe.out i y
          have hb1 : (Try.prog.info? 3).map (·.size) = some 1 := by kernel_rfl
          have hys : y < (cntV (cnt l i)).size := by rw [HSz.out]; omega
          have HYs := hide hys
          clear hS hW hys
          obtain ⟨V, hV⟩ : ∃ V, V = cntV (cnt l i) := ⟨_, rfl⟩
          rw [← hV] at hM HYs HS2
          obtain ⟨V2, hV2⟩ : ∃ V2, V2 = cntV (cnt l (i + 1)) := ⟨_, rfl⟩
          rw [← hV2] at HS2
          have HV2 := hide hV2
          clear hV hV2
          generalize cnt l i y = m at *
          go_wp2_with (refine wpList_storeC rfl 3 (.tmp 24) (.tmp 23) rfl _ rfl rfl hM HYs.out hb1 rfl rfl HS2.out ?_; intro w3 hM3 hG3)
          go_roundw
          case rel => exact ⟨i + 1, by omega, by go_num, fun q hq => (by
            by_cases hqi : q = i
            · rw [hqi, ← HY.out]; omega
            · exact HAll.out q (by omega)), hR.grown hG3 (by omega), by rw [← HV2.out]; exact hM3, Below.grown hE hG3 hE.le (fun k hk => by cases hk; omega)⟩
          case measure => simp [intOf]; omega
      · obtain rfl : l.length = i := by omega
        have hrt := HRt.out HAll.out
        have C := fun W => cRight_any (cnt l l.length) (fun k => Nat.le_trans (HLe.out _ k) (by omega)) W
        rw [hrt] at C
        have hsz := HSz.out (cnt l l.length)
        have hinf2 : (Try.prog.info? 119).map (·.size) = some (cntV (cnt l l.length)).size := by rw [hsz]; exact cnt_info
        have hss : (cntV (cnt l l.length)).size = (cntV fun _ => 0).size := by rw [hsz, HSz.out]
        have hone := HOne.out (cnt l l.length)
        have hone0 := HOne.out fun _ => 0
        clear hrt hsz
        generalize right l = r at *
        obtain ⟨V, hV⟩ : ∃ V, V = cntV (cnt l l.length) := ⟨_, rfl⟩
        rw [← hV] at C hM hinf2 hss hone
        have HV := hide hV
        clear hV
        go_wp2_with (refine wpList_load_row rfl 119 (.tmp 4) rfl _ rfl _ _ _ _ hM Try.underlying119 rfl hinf2 ?_)
        refine (C _).mono ?_
        rintro e w4 ⟨rfl, hE4⟩
        have hM4 := hM.ext hE4
        have hR4 := hR.ext hE4
        have hF4 := hE.trans hE4
        clear hM hR hE hE4 C
        cases r with
        | false =>
          have HN := hide (HNo.out rfl)
          have H7 := hide (HNo7.out rfl)
          go_wp2_with (refine wpList_storeW rfl 119 (.tmp 2) (.tmp 29) rfl rfl (congrArg Value.agg HZ.out.symm) hR4 rfl hinf hone0 ?_; intro w5 hW5 hG5 _)
          refine bodyPost_ret (results_row2 rfl _ rfl rfl (run_loadVar_row _ _ _ _ _ _ _ hW5 Try.underlying119 rfl hinf)) rfl ?_
          exact ⟨by rw [HN.out, H7.out]; rfl, Below.grown hF4 hG5 hF4.le (fun k hk => by cases hk; omega)⟩
        | true =>
          have HN := hide (HYes.out rfl)
          have H0' := hide (HYes0.out rfl)
          go_wp2_with (first
            | (refine wpList_load_row rfl 119 (.tmp 4) rfl _ rfl _ _ _ _ hM4 Try.underlying119 rfl hinf2 ?_)
            | (refine wpList_storeW rfl 119 (.tmp 2) (.tmp 30) rfl rfl rfl hR4 hss hinf2 hone ?_; intro w5 hW5 hG5 _))
          refine bodyPost_ret (results_row2 rfl _ rfl rfl (run_loadVar_row _ _ _ _ _ _ _ hW5 Try.underlying119 rfl hinf2)) rfl ?_
          exact ⟨by rw [HN.out, H0'.out, HV.out]; rfl, Below.grown hF4 hG5 hF4.le (fun k hk => by cases hk; omega)⟩

end Go.Proofs.Ytjpmabdnaooglaa

namespace Go.Proofs.Ytjpmabdnaooglaa
open Go.RowKit Len Can

theorem wpList_makeH {ops : Array Oper} {rest : List Oper} {o : Oper} {a : Act} {Q : Exit → Act → World → Prop} {w : World} (hgd : o.guard = none) (x y : Operand) (ho : o.op = .makeSlice 28 x y) {n : Nat} (hx : a.eval x = .int .i64 (n : Int)) (hy : a.eval y = .int .i64 (n : Int)) (hn : n ≤ 1000)
    (h : ∀ w', OwnH w' w.heap.size (.slice (some ⟨w.heap.size, 0, none⟩) n n) (List.replicate n 0) → Ext w w' → wpList Try.prog ops Q rest (a.put o.dst (.slice (some ⟨w.heap.size, 0, none⟩) n n)) w') : wpList Try.prog ops Q (o :: rest) a w := by
  obtain ⟨i, hi, hz, hsz, hby⟩ := info_parts h16_info
  refine wpList_make_full w hgd x y 28 ho w.heap.size 90 i _ 1 Try.underlying28 hi hz hsz .i64 .i64 _ _ n hx hy rfl rfl (by rw [hby]; omega) (by unfold maxLen; omega) (Nat.le_refl _) ?_
  intro w' h1 h2
  refine h w' ?_ (Below.grown (Ext.refl w) h2 (Nat.le_refl _) fun k hk => by cases hk)
  unfold OwnH
  have e : (madeCells (Value.int .u16 0).cells (n * 1)).toList = (List.replicate n (0 : Nat)).map h16V := by
    have : madeCells (Value.int .u16 0).cells n = ((List.replicate n (0 : Nat)).map h16V).toArray := by
      apply Array.ext
      · simp [size_madeCells]
      · intro i h1 h2
        simp [madeCells, Value.cells, h16V, Nat.mod_one]
    rw [Nat.mul_one, this]
  rw [e] at h1
  simpa using h1
/-- The words that come next, of each length, ahead of symbol s. -/
def Can.nextF (l : List UInt8) (s k : Nat) : Nat := if k = 0 then 0 else fst l k + cnt l s k
theorem Can.next_none (l : List UInt8) : h16A (fst l) = h16A (nextF l 0) := rfl
theorem Can.next_pass (l : List UInt8) {s : Nat} (h : lenAt l s = 0) : h16A (nextF l s) = h16A (nextF l (s + 1)) := by
  congr 1
  funext k
  unfold nextF
  by_cases h0 : k = 0
  · rw [if_pos h0, if_pos h0]
  · rw [if_neg h0, if_neg h0, cnt_succ, if_neg (by omega), Nat.add_zero]
theorem Can.next_step (l : List UInt8) {s : Nat} (hs : s < l.length) (h : lenAt l s ≠ 0) : nextF l s (lenAt l s) = word l s ∧ (h16A (nextF l s)).setIfInBounds (lenAt l s) (.int .u16 ((word l s + 1 : Nat) : Int)) = h16A (nextF l (s + 1)) := by
  have e : nextF l s (lenAt l s) = word l s := by
    unfold nextF
    rw [if_neg h, word_fst l hs h]
  refine ⟨e, h16A_set _ _ _ _ fun j _ => ?_⟩
  by_cases hj : j = lenAt l s
  · rw [if_pos hj, ← e, hj]
    unfold nextF
    rw [if_neg h, if_neg h, cnt_succ, if_pos rfl]
    omega
  · rw [if_neg hj]
    unfold nextF
    by_cases h0 : j = 0
    · rw [if_pos h0, if_pos h0]
    · rw [if_neg h0, if_neg h0, cnt_succ, if_neg (fun e => hj e.symm), Nat.add_zero]

set_option maxHeartbeats 2000000 in
set_option maxRecDepth 100000 in
theorem codes_any (A : Option Addr) (n c : Nat) (l : List UInt8) (w : World) (h : Bytes w w.heap.size A n l) : Calls Try.prog 54 #[.slice A n c] w (TellsH w (codesE l)) := by
  have C := countOut_any A n c l w h
  unfold Counted at C
  have hl := h.1
  subst hl
  have HZ := hide cntV_zero
  have hsz := cntV_size (outF l)
  have hone := cntV_one (outF l)
  have hinf : (Try.prog.info? 119).map (·.size) = some (cntV (outF l)).size := by rw [hsz]; exact cnt_info
  have hss : (cntV (outF l)).size = (cntV fun _ => 0).size := by rw [hsz, cntV_size]
  rw [HZ.out] at hss
  cases hr : right l with
  | false =>
    have HN := hide (show codesE l = ([], 7) by unfold codesE; rw [hr]; rfl)
    rw [check_wrong hr] at C
    clear hr h
    generalize cntV (outF l) = V at *
    go_enter Try.func54, Try.ntmps54
    go_wp2_with fail
    refine C.mono ?_
    rintro e w2 ⟨rfl, hE⟩
    have hM := Whole.new w2 119 (cntV fun _ => 0)
    have hE2 := hE.alloc (.cells (cntV fun _ => 0) 119)
    rw [HZ.out] at hM hE2
    go_wp2_with (refine wpList_storeW rfl 119 (.tmp 4) (.tmp 13) rfl rfl rfl hM hss hinf hone ?_; intro w5 hW5 hG5 _)
    go_ret2
    rw [HN.out]
    exact ⟨_, rfl, OwnH.nil _ _, Below.grown hE2 hG5 hE2.le (fun k hk => by cases hk; exact hE.le)⟩
  | true =>
    have HN := hide (show codesE l = (codesL l, 0) by unfold codesE; rw [hr]; rfl)
    rw [check_right hr] at C
    obtain ⟨h300, h15, _⟩ := right_facts hr
    have HF := fun W => cFirsts_any l hr W
    have HO : outF l = cnt l l.length := by unfold outF; rw [hr]; rfl
    rw [← HO] at HF
    have HLt := hide (show ∀ s, s < l.length → word l s < 32768 from fun s hs => word_lt hr hs)
    have H15 := hide h15
    have HNone := hide (codesTo_none l)
    have HAll := hide (codesTo_all l)
    have HLen := hide (codesTo_len l)
    have HSet := hide (codesTo_set l)
    have HPass := hide (show ∀ s, lenAt l s = 0 → codesTo l s = codesTo l (s + 1) from fun s hs => codesTo_pass l hs)
    have HNx0 := hide (next_none l)
    have HNxP := hide (show ∀ s, lenAt l s = 0 → h16A (nextF l s) = h16A (nextF l (s + 1)) from fun s hs => next_pass l hs)
    have HNxS := hide (show ∀ s, s < l.length → lenAt l s ≠ 0 → nextF l s (lenAt l s) = word l s ∧ (h16A (nextF l s)).setIfInBounds (lenAt l s) (.int .u16 ((word l s + 1 : Nat) : Int)) = h16A (nextF l (s + 1)) from fun s hs h => next_step l hs h)
    have HSzA := hide (show ∀ f, (h16A f).size = 16 from h16A_size)
    have HAtA := hide (show ∀ f k, k < 16 → (h16A f)[k]? = some (.int .u16 ((f k : Nat) : Int)) from fun f k h => h16A_at f h)
    have honeF := h16A_one (fst l)
    have hinfF : (Try.prog.info? 122).map (·.size) = some (h16A (fst l)).size := by rw [h16A_size]; exact f16_info
    have hssF : (h16A (fst l)).size = (#[.int .u16 0, .int .u16 0, .int .u16 0, .int .u16 0, .int .u16 0, .int .u16 0, .int .u16 0, .int .u16 0, .int .u16 0, .int .u16 0, .int .u16 0, .int .u16 0, .int .u16 0, .int .u16 0, .int .u16 0, .int .u16 0] : Array Value).size := by rw [h16A_size]; rfl
    have hl300 : l.length ≤ 1000 := by omega
    clear hr h15 HO hsz
    generalize cntV (outF l) = V at *
    obtain ⟨F, hFe⟩ : ∃ F, F = h16A (fst l) := ⟨_, rfl⟩
    rw [← hFe] at HF hinfF hssF honeF
    have HFe := hide hFe
    clear hFe
    go_enter Try.func54, Try.ntmps54
    go_wp2_with fail
    refine C.mono ?_
    rintro e w2 ⟨rfl, hE⟩
    have hM := Whole.new w2 119 (cntV fun _ => 0)
    have hE2 := hE.alloc (.cells (cntV fun _ => 0) 119)
    rw [HZ.out] at hM hE2
    have hle := hE.le
    clear C hE
    go_wp2_with (first
      | (refine wpList_storeW rfl 119 (.tmp 4) (.tmp 13) rfl rfl rfl hM hss hinf hone ?_; intro w5 hW5 hG5 hS5; clear hS5)
      | (refine wpList_load_row rfl 119 (.tmp 4) rfl _ rfl _ _ _ _ hW5 Try.underlying119 rfl hinf ?_))
    have hF5 : Ext w w5 := Below.grown hE2 hG5 hE2.le (fun k hk => by cases hk; exact hle)
    clear hE2 hG5 hM
    refine (HF _).mono ?_
    rintro e w6 ⟨rfl, hE6⟩
    have hF6 := hF5.trans hE6
    have hM6 := Whole.new w6 122 #[.int .u16 0, .int .u16 0, .int .u16 0, .int .u16 0, .int .u16 0, .int .u16 0, .int .u16 0, .int .u16 0, .int .u16 0, .int .u16 0, .int .u16 0, .int .u16 0, .int .u16 0, .int .u16 0, .int .u16 0, .int .u16 0]
    have hF7 := hF6.alloc (.cells #[.int .u16 0, .int .u16 0, .int .u16 0, .int .u16 0, .int .u16 0, .int .u16 0, .int .u16 0, .int .u16 0, .int .u16 0, .int .u16 0, .int .u16 0, .int .u16 0, .int .u16 0, .int .u16 0, .int .u16 0, .int .u16 0] 122)
    have hle6 := hF6.le
    clear hF5 hE6 hF6 HF
    obtain ⟨g6, hg6⟩ : ∃ g, g = w6.heap.size := ⟨_, rfl⟩
    rw [← hg6] at hM6 hle6
    have Hg6 := hide hg6
    clear hg6
    go_wp2_with (first
      | (refine wpList_storeW rfl 122 (.tmp 6) (.tmp 19) rfl (by rw [Hg6.out]; rfl) rfl hM6 hssF hinfF honeF ?_; intro w7 hW7 hG7 hS7; clear hS7)
      | (refine wpList_makeH (n := l.length) rfl (.tmp 21) (.tmp 21) rfl rfl rfl hl300 ?_; intro w8 hO8 hE8))
    have hF7' : Ext w w7 := Below.grown hF7 hG7 hF7.le (fun k hk => by cases hk; exact hle6)
    have hF8 := hF7'.trans hE8
    clear hF7'
    have hW8 := hW7.ext hE8
    have hlt7 := hW7.lt
    have hle7 : w.heap.size ≤ w7.heap.size := by omega
    rw [HFe.out, HNx0.out] at hW8
    rw [← HNone.out] at hO8
    rw [← Hg6.out]
    generalize w7.heap.size = g7 at *
    have hg67 : g6 ≠ g7 := by omega
    clear hE8 hW7 hG7 hF7 hM6 hssF hinfF honeF hss hinf hone hW5 Hg6 HFe
    go_loopw [25] (fun x wr => ∃ s : Nat, s ≤ l.length ∧ x = .int .i64 (s : Int) ∧ Whole wr g6 122 (h16A (nextF l s)) ∧ OwnH wr w.heap.size (.slice (some ⟨g7, 0, none⟩) l.length l.length) (codesTo l s) ∧ Ext w wr) (fun x _ => l.length - (intOf x).toNat)
    case atStart => exact ⟨0, by omega, rfl, hW8, hO8.mono hle7, hF8⟩
    case round =>
      clear hW8 hO8 hF8
      obtain ⟨s, hs, rfl, hW, hO, hE⟩ := hrel
      by_cases hlt : s < l.length
      · rcases (hE.bytes h).2 with h0 | ⟨b, o, rfl, hB, hc⟩
        · omega
        have hk := hc s hlt
        have hy15 := H15.out s hlt
        have hP := HPass.out s
        have hNP := HNxP.out s
        have hNS := HNxS.out s hlt
        have hx := HLt.out s hlt
        obtain ⟨y, hy⟩ : ∃ y, y = lenAt l s := ⟨_, rfl⟩
        have hk2 : wr.cell? ⟨b, o + s, none⟩ = some (.int .u8 (y : Int)) := by rw [hy]; exact hk
        rw [← hy] at hP hNP hNS hy15
        have hil : (s : Int) < (l.length : Int) := by omega
        clear hc hy hk
        by_cases y0 : y = 0
        · have HP := hide (hP y0)
          have HNP := hide (hNP y0)
          clear hP hNP hNS
          subst y0
          go_wp2
          go_roundw
          case rel => exact ⟨s + 1, by omega, by go_num, by rw [← HNP.out]; exact hW, by rw [← HP.out]; exact hO, hE⟩
          case measure => simp [intOf]; omega
        · obtain ⟨hn1, hn2⟩ := hNS y0
          have hSt := HSet.out s
          have hcx := hW.at y (HAtA.out _ y (by omega))
          rw [hn1] at hcx
          have hO' := hO
          have hlenO := HLen.out s
          rw [← hlenO] at hO'
          obtain ⟨k1, k2⟩ := hO'.cell (i := s) (by rw [hlenO]; exact hlt)
          have hO2 := hO'.set s (word l s)
          rw [hSt, hlenO] at hO2
          have hW2 := hW.far (b := g7) hg67 s (.int .u16 ((word l s : Nat) : Int))
          have hcx2 := hW2.at y (HAtA.out _ y (by omega))
          rw [hn1] at hcx2
          have hsz := HSzA.out (nextF l s)
          have hsy : y < (h16A (nextF l s)).size := by rw [hsz]; omega
          have HSy := hide hsy
          have HN2 := hide hn2
          have HO2 := hide hO2
          have hb1 : (Try.prog.info? 90).map (·.size) = some 1 := by kernel_rfl
          have hE2 := hE.setCell (g := g7) (i := s) hle7 (.int .u16 ((word l s : Nat) : Int))
          have hgl : g7 < wr.heap.size := (hO.lt g7 rfl).2
          have hy0 : (0 : Int) < (y : Int) := by omega
          clear hP hNP hNS hn1 hn2 hSt hO' hlenO hO2 hsz hsy hO
          generalize word l s = x at *
          generalize (codesTo l s).getD s 0 = x0 at *
          obtain ⟨V1, hV1⟩ : ∃ V1, V1 = h16A (nextF l s) := ⟨_, rfl⟩
          rw [← hV1] at hW hW2 HSy HN2
          clear hV1
          obtain ⟨V2, hV2⟩ : ∃ V2, V2 = h16A (nextF l (s + 1)) := ⟨_, rfl⟩
          rw [← hV2] at HN2
          have HV2 := hide hV2
          clear hV2
          go_wp2_with (refine wpList_storeC rfl 90 (.tmp 42) (.tmp 41) rfl _ rfl rfl hW2 HSy.out hb1 rfl rfl HN2.out ?_; intro w9 hW9 hG9)
          go_roundw
          case rel =>
            have hO9 := World.ownsRow.kept HO2.out hG9 (by simp [Value.ownBlock]; omega)
            exact ⟨s + 1, by omega, by go_num, by rw [← HV2.out]; exact hW9, hO9, Below.grown hE2 hG9 hE2.le (fun k hk => by cases hk; exact hle6)⟩
          case measure => simp [intOf]; omega
      · obtain rfl : l.length = s := by omega
        rw [HAll.out] at hO
        have HO := hide hO
        clear hO
        go_wp2
        go_ret2
        rw [HN.out]
        exact ⟨_, rfl, HO.out, hE⟩
theorem codesC_any (w : World) : CodesC w := fun l A n c W _ _ _ hb => codes_any A n c l W hb
end Go.Proofs.Ytjpmabdnaooglaa

namespace Go.Proofs.Ytjpmabdnaooglaa
open Go.RowKit

set_option maxHeartbeats 1000000 in
theorem sliceClone8_any (A : Option Addr) (n c : Nat) (l : List UInt8) (w : World) (hc : n ≤ c) (hn : n ≤ 140737488355328) (hb : Bytes w w.heap.size A n l) :
    Calls Try.prog 55 #[.slice A n c] w (MadeB w l) := by
  have hnil := fun (W : World) (a : Option Addr) (n c n' c' : Nat) => Lib.run_eql_slice_nil (P := Try.prog) W 22 5 a n c n' c' Try.underlying22
  rcases A with _ | ad
  · have hl : l = [] := by
      rcases hb.2 with h0 | ⟨_, _, h, _⟩
      · exact List.eq_nil_of_length_eq_zero (by rw [hb.1, h0])
      · cases h
    subst hl
    have hn0 : n = 0 := hb.1.symm
    subst hn0
    go_enter Try.func55, Try.ntmps55
    go_wp2
    go_ret
    exact ⟨_, rfl, OwnB.nil _ _, Ext.refl _⟩
  · have ho := OwnB.empty w (Nat.le_refl _)
    have hb' := (extNew w (.cells #[] 5)).bytes hb
    have hB : w.heap.size ≤ (w.alloc (.cells #[] 5)).heap.size := by simp
    have hl0 : ([] : List UInt8).length + n ≤ 140737488355328 := by simpa using hn
    have hE := extNew w (.cells #[] 5)
    go_enter Try.func55, Try.ntmps55
    go_wp2_with (at_builtin; refine wpList_app rfl (.tmp 5) (.tmp 6) rfl rfl ho rfl hb' hl0 hB ?_; intro v1 w1 hown1 hg1)
    go_ret
    exact ⟨v1, rfl, hown1, ho.below hE hg1 hB⟩
end Go.Proofs.Ytjpmabdnaooglaa

namespace Go.Proofs.Ytjpmabdnaooglaa
open Go.RowKit

/-- v is nil, or lies in a block of the call's own, and reads as these numbers. -/
def OwnI (w : World) (base : Nat) (v : Value) (L : List Int) : Prop := w.ownsRow base 3 1 v L.length (L.map (Value.int .i64))
theorem int_info : (Try.prog.info? 3).map (fun i => (i.zero, i.size, i.bytes)) = some (some (.int .i64 0), 1, 8) := by kernel_rfl
theorem OwnI.nil (w : World) (base : Nat) : OwnI w base (.slice none 0 0) [] := World.ownsRow_nil w base _ _
theorem OwnI.ext {w w' : World} {base : Nat} {v : Value} {L : List Int} (h : OwnI w base v L) (hE : Ext w w') : OwnI w' base v L :=
  World.ownsRow.kept h (hE.grown none) (by cases hv : v.ownBlock <;> simp)
theorem OwnI.lt {w : World} {base : Nat} {v : Value} {L : List Int} (h : OwnI w base v L) : ∀ k, v.ownBlock = some k → base ≤ k ∧ k < w.heap.size := World.ownsRow.lt h
theorem OwnI.form {w : World} {base : Nat} {v : Value} {L : List Int} (h : OwnI w base v L) : ∃ A c, v = .slice A L.length c ∧ L.length ≤ c ∧ IntsAt w w.heap.size A L.length L := by
  have hl := h.lt
  rcases h.2 with ⟨rfl, h0⟩ | ⟨g, cap, cur, rfl, hb, hg, hn, hc, hs, ht⟩
  · exact ⟨none, 0, by rw [h0], by omega, rfl, .inl h0⟩
  · refine ⟨_, cap, rfl, hn, rfl, .inr ⟨g, 0, rfl, (hl g rfl).2, fun i hi => ?_⟩⟩
    have hk := World.ownsRow.cellAt h i (by omega)
    rw [Nat.zero_add, hk]
    simp [hi]
section
variable {o : Oper} {a : Act} {Q : Exit → Act → World → Prop} {w : World} {base : Nat} {v : Value} {L : List Int}
/-- append of one number, which lies in a block of its own. -/
theorem wpList_appIB {ops : Array Oper} {rest : List Oper} (hgd : o.guard = none) (s x : Operand) (ho : o.op = .call { callee := .builtin .append, args := #[s, x], argTypes := #[35, 35] }) (hs : a.eval s = v) (p : Int)
    (hown : OwnI (w.alloc (.cells #[.int .i64 p] 3)) base v L) {c : Nat} (hx : a.eval x = .slice (some ⟨w.heap.size, 0, none⟩) 1 c) (hlen : L.length ≤ 1000000) (hbase : base ≤ w.heap.size)
    (h : ∀ v' w', OwnI w' base v' (L ++ [p]) → (w.alloc (.cells #[.int .i64 p] 3)).grownBy w' v.ownBlock → wpList Try.prog ops Q rest (a.put o.dst v') w') :
    wpList Try.prog ops Q (o :: rest) a (w.alloc (.cells #[.int .i64 p] 3)) := by
  obtain ⟨i, hi, hz, hsz, hby⟩ := info_parts int_info
  refine wpList_append_own_at _ hgd s x 35 ho base 3 i _ 1 8 Try.underlying35 hi hz hsz hby rfl (by omega) v L.length (L.map (Value.int .i64)) hs hown ⟨w.heap.size, 0, none⟩ 1 c [.int .i64 p] hx rfl (by
    intro j u hu
    match j, hu with
    | 0, hu =>
      have : (⟨w.heap.size, 0, none⟩ : Addr).add 0 = ⟨w.heap.size, 0, none⟩ := rfl
      rw [this, cellNew]
      simpa using hu
    | j + 1, hu => simp at hu) (by
    intro u hu
    simp at hu
    subst hu
    rfl) (by unfold maxLen; omega) (by omega) (by simp; omega) ?_
  intro v' w' h2 h3 _ h5
  refine h v' w' ?_ h3
  unfold OwnI
  rw [List.length_append, List.map_append]
  exact h2
theorem wpList_appI {ops : Array Oper} {rest : List Oper} (hgd : o.guard = none) (s x : Operand) (ho : o.op = .call { callee := .builtin .append, args := #[s, x], argTypes := #[35, 35] }) (hs : a.eval s = v) (p : Int)
    (hown : OwnI (w.alloc (.cells #[.int .i64 p] 3)) base v L) {c : Nat} (hx : a.eval x = .slice (some ⟨w.heap.size, 0, none⟩) 1 c) (hlen : L.length ≤ 1000) (hbase : base ≤ w.heap.size)
    (h : ∀ v' w', OwnI w' base v' (L ++ [p]) → (w.alloc (.cells #[.int .i64 p] 3)).grownBy w' v.ownBlock → wpList Try.prog ops Q rest (a.put o.dst v') w') :
    wpList Try.prog ops Q (o :: rest) a (w.alloc (.cells #[.int .i64 p] 3)) :=
  wpList_appIB hgd s x ho hs p hown hx (by omega) hbase h
end
end Go.Proofs.Ytjpmabdnaooglaa

namespace Go.Proofs.Ytjpmabdnaooglaa
open Go.RowKit Len Can Huf

/-- What a slice of the call's own reads, lies in blocks from base on. -/
theorem ownsRow_low {w : World} {base size m : Nat} {E : TypeId} {A : Option Addr} {n c : Nat} {cs : List Value} (h : w.ownsRow base E size (.slice A n c) m cs) : ∀ b o, A = some ⟨b, o, none⟩ → base ≤ b := by
  intro b o hA
  rcases h.2 with ⟨hv, _⟩ | ⟨g, cap, cur, hv, hb, _⟩
  · simp only [Value.slice.injEq] at hv
    rw [hv.1] at hA
    cases hA
  · simp only [Value.slice.injEq] at hv
    rw [hv.1] at hA
    injection hA with hA
    injection hA with hA
    omega
/-- Rows of different types are apart. -/
theorem ownsRow_apart {w : World} {base base' size size' m m' : Nat} {E E' : TypeId} {v v' : Value} {cs cs' : List Value} (h : w.ownsRow base E size v m cs) (h' : w.ownsRow base' E' size' v' m' cs') (hne : E ≠ E') : v.ownBlock = none ∨ v.ownBlock ≠ v'.ownBlock := by
  rcases h.2 with ⟨rfl, _⟩ | ⟨g, cap, cur, rfl, hb, hg, _⟩
  · exact .inl rfl
  rcases h'.2 with ⟨rfl, _⟩ | ⟨g', cap', cur', rfl, hb', hg', _⟩
  · refine .inr ?_
    simp [Value.ownBlock]
  · refine .inr fun e => hne ?_
    have e2 : g = g' := by simpa [Value.ownBlock] using e
    subst e2
    rw [hg] at hg'
    simp only [Option.some.injEq, Obj.cells.injEq] at hg'
    exact hg'.2.1
theorem app16_run {w : World} (ty : TypeId) {base : Nat} {v : Value} {T : List Nat} (hown : OwnH w base v T) {gx m c p : Nat} (hm : m = 1) (hc : w.cell? ⟨gx, 0, none⟩ = some (.int .u16 (p : Int))) (hlen : T.length ≤ 1000000) (hbase : base ≤ w.heap.size) :
    ∃ v' w', (Builtin.append_ #[28, 28] ty #[v, .slice (some ⟨gx, 0, none⟩) m c]).run Try.prog w = .ok v' w' ∧ OwnH w' base v' (T ++ [p]) ∧ w.grownBy w' v.ownBlock := by
  subst hm
  obtain ⟨i, hi, hz, hs, hby⟩ := info_parts h16_info
  obtain ⟨v', w', hr, h2, h3, _, _⟩ := run_append_own_at (P := Try.prog) w base 28 ty 90 i _ 1 2 Try.underlying28 hi hz hs hby rfl (by omega) v T.length (T.map h16V) hown
    ⟨gx, 0, none⟩ 1 c [h16V p] rfl (by
      intro j u hu
      match j, hu with
      | 0, hu =>
        have : (⟨gx, 0, none⟩ : Addr).add 0 = ⟨gx, 0, none⟩ := rfl
        rw [this, hc]
        simpa [h16V] using hu
      | j + 1, hu => simp at hu) (by
      intro u hu
      simp at hu
      subst hu
      rfl) (by unfold maxLen; omega) (by omega) hbase
  refine ⟨v', w', hr, ?_, h3⟩
  unfold OwnH
  rw [List.length_append, List.map_append]
  exact h2
theorem step_app16 {ops : Array Oper} {o : Oper} {a : Act} {K : Act → World → Prop} {Q : Exit → Act → World → Prop} {E : Prop} {w : World} {base : Nat} {v : Value} {T : List Nat} (hgd : o.guard = none) (s x : Operand)
    (ho : o.op = .call { callee := .builtin .append, args := #[s, x], argTypes := #[28, 28] }) (hs : a.eval s = v) (hown : OwnH w base v T) {gx m c p : Nat} (hm : m = 1) (hx : a.eval x = .slice (some ⟨gx, 0, none⟩) m c) (hc : w.cell? ⟨gx, 0, none⟩ = some (.int .u16 (p : Int)))
    (hlen : T.length ≤ 1000000) (hbase : base ≤ w.heap.size) (h : ∀ v' w', OwnH w' base v' (T ++ [p]) → w.grownBy w' v.ownBlock → K (a.put o.dst v') w') :
    if Region.wanted o (yielded ops a.tmps) = true then Oper.wp Try.prog o a w K Q else E := by
  have hw : Region.wanted o (yielded ops a.tmps) = true := by simp [Region.wanted, hgd]
  rw [if_pos hw]
  obtain ⟨v', w', hr, h2, h3⟩ := app16_run (c := c) o.type hown hm hc hlen hbase
  unfold Oper.wp execOp
  simp only [ho, resolve, invoke, builtin, Sem.run_bind, Sem.run_pure, Result.andThen_ok, List.map_toArray, List.map_cons, List.map_nil, hs, hx, hr]
  exact h v' w' h2 h3

/-- The table that is being made, in block g: the lists of symbols and starts lie behind it, all else ahead of it. -/
structure TabS (w : World) (g : Nat) (A1 : Option Addr) (c1 : Nat) (A2 : Option Addr) (c2 : Nat) (v3 v4 : Value) (l : List UInt8) (L : List Int) (T : List Nat) : Prop where
  whole : Whole w g 69 #[.slice A1 l.length c1, .slice A2 l.length c2, v3, v4]
  syms : OwnI w (g + 1) v3 L
  starts : OwnH w (g + 1) v4 T
  lens : Bytes w g A1 l.length l
  words : H16At w g A2 l.length (codesL l)
section
variable {w w' : World} {g : Nat} {A1 : Option Addr} {c1 : Nat} {A2 : Option Addr} {c2 : Nat} {v3 v4 v3' v4' : Value} {l : List UInt8} {L : List Int} {T : List Nat}
theorem TabS.ext (h : TabS w g A1 c1 A2 c2 v3 v4 l L T) (hE : Ext w w') : TabS w' g A1 c1 A2 c2 v3 v4 l L T :=
  ⟨h.whole.ext hE, h.syms.ext hE, h.starts.ext hE, h.lens.below (Below.mono hE (Nat.le_of_lt h.whole.lt)) (Nat.le_refl _), h.words.below (Below.mono hE (Nat.le_of_lt h.whole.lt)) (Nat.le_refl _)⟩
/-- One more symbol is listed, not yet stored. -/
theorem TabS.appI (h : TabS w g A1 c1 A2 c2 v3 v4 l L T) (hG : w.grownBy w' v3.ownBlock) : Whole w' g 69 #[.slice A1 l.length c1, .slice A2 l.length c2, v3, v4] ∧ OwnH w' (g + 1) v4 T ∧ Below (g + 1) w w' ∧ Bytes w' g A1 l.length l ∧ H16At w' g A2 l.length (codesL l) := by
  have hlt := h.syms.lt
  have hB : Below (g + 1) w w' := Below.grown (Below.refl (g + 1) w) hG h.whole.lt (fun k hk => (hlt k hk).1)
  refine ⟨h.whole.ownGrown hG (fun e => by have := hlt g e; omega), World.ownsRow.kept h.starts hG (ownsRow_apart h.starts h.syms (by decide)), hB, h.lens.below hB (by omega), h.words.below hB (by omega)⟩
theorem TabS.appH (h : TabS w g A1 c1 A2 c2 v3 v4 l L T) (hG : w.grownBy w' v4.ownBlock) : Whole w' g 69 #[.slice A1 l.length c1, .slice A2 l.length c2, v3, v4] ∧ OwnI w' (g + 1) v3 L ∧ Below (g + 1) w w' ∧ Bytes w' g A1 l.length l ∧ H16At w' g A2 l.length (codesL l) := by
  have hlt := h.starts.lt
  have hB : Below (g + 1) w w' := Below.grown (Below.refl (g + 1) w) hG h.whole.lt (fun k hk => (hlt k hk).1)
  refine ⟨h.whole.ownGrown hG (fun e => by have := hlt g e; omega), World.ownsRow.kept h.syms hG (ownsRow_apart h.syms h.starts (by decide)), hB, h.lens.below hB (by omega), h.words.below hB (by omega)⟩
/-- The table is stored. -/
theorem tabS_store (hW : Whole w' g 69 #[.slice A1 l.length c1, .slice A2 l.length c2, v3', v4']) (hG : w.grownBy w' (some g)) (h3 : OwnI w (g + 1) v3' L) (h4 : OwnH w (g + 1) v4' T) (h1 : Bytes w g A1 l.length l) (h2 : H16At w g A2 l.length (codesL l)) (hg : g ≤ w.heap.size) :
    TabS w' g A1 c1 A2 c2 v3' v4' l L T ∧ Below g w w' := by
  have hB : Below g w w' := Below.grown (Below.refl g w) hG hg (fun k hk => by cases hk; omega)
  refine ⟨⟨hW, World.ownsRow.kept h3 hG ?_, World.ownsRow.kept h4 hG ?_, h1.below hB (Nat.le_refl _), h2.below hB (Nat.le_refl _)⟩, hB⟩
  · cases hv : v3'.ownBlock with
    | none => simp
    | some k => have := h3.lt k hv; simp; omega
  · cases hv : v4'.ownBlock with
    | none => simp
    | some k => have := h4.lt k hv; simp; omega
end
end Go.Proofs.Ytjpmabdnaooglaa

namespace Go.Proofs.Ytjpmabdnaooglaa
open Go.RowKit Len Can Huf

section
variable {w w' : World} {B n r : Nat} {A : Option Addr}
theorem cell_off (hG : w.grownBy w' (some r)) {b i : Nat} {v : Value} (hc : w.cell? ⟨b, i, none⟩ = some v) (hb : r < b) : w'.cell? ⟨b, i, none⟩ = some v :=
  (World.cell?_of_block (a := ⟨b, i, none⟩) (hG.block b (World.block_lt_of_cell? w _ hc) (by simp; omega))).trans hc
theorem bytes_off {l : List UInt8} (h : Bytes w B A n l) (hG : w.grownBy w' (some r)) (hl : ∀ b o, A = some ⟨b, o, none⟩ → r < b) : Bytes w' B A n l := by
  refine ⟨h.1, h.2.imp_right fun ⟨b, o, hA, hB, hc⟩ => ⟨b, o, hA, hB, fun i hi => cell_off hG (hc i hi) (hl b o hA)⟩⟩
theorem h16_off {L : List Nat} (h : H16At w B A n L) (hG : w.grownBy w' (some r)) (hl : ∀ b o, A = some ⟨b, o, none⟩ → r < b) : H16At w' B A n L := by
  refine ⟨h.1, h.2.imp_right fun ⟨b, o, hA, hB, hc⟩ => ⟨b, o, hA, hB, fun i hi => cell_off hG (hc i hi) (hl b o hA)⟩⟩
theorem ints_off {L : List Int} (h : IntsAt w B A n L) (hG : w.grownBy w' (some r)) (hl : ∀ b o, A = some ⟨b, o, none⟩ → r < b) : IntsAt w' B A n L := by
  refine ⟨h.1, h.2.imp_right fun ⟨b, o, hA, hB, hc⟩ => ⟨b, o, hA, hB, fun i hi => cell_off hG (hc i hi) (hl b o hA)⟩⟩
theorem ints_mono {C : Nat} {L : List Int} (h : IntsAt w B A n L) (hC : B ≤ C) : IntsAt w C A n L :=
  ⟨h.1, h.2.imp_right fun ⟨b, o, hA, hB, hc⟩ => ⟨b, o, hA, Nat.lt_of_lt_of_le hB hC, hc⟩⟩
end
/-- The four slices of a table of right lengths, their memory in the blocks from lo to below hi. -/
structure Tabs (w : World) (lo hi : Nat) (A1 A2 A3 A4 : Option Addr) (l : List UInt8) (O : List Nat) : Prop where
  lens : Bytes w hi A1 l.length l
  words : H16At w hi A2 l.length (codesL l)
  syms : IntsAt w hi A3 O.length (O.map fun s : Nat => (s : Int))
  starts : H16At w hi A4 O.length (starts l O)
  ord : Ord l 16 0 O
  low1 : ∀ b o, A1 = some ⟨b, o, none⟩ → lo ≤ b
  low2 : ∀ b o, A2 = some ⟨b, o, none⟩ → lo ≤ b
  low3 : ∀ b o, A3 = some ⟨b, o, none⟩ → lo ≤ b
  low4 : ∀ b o, A4 = some ⟨b, o, none⟩ → lo ≤ b
/-- What tableOf tells. -/
def TabTo (w : World) (l : List UInt8) (e : Ending) (w' : World) : Prop :=
  (right l = true → ∃ A1 c1 A2 c2 A3 c3 A4 c4 O, e = .returned (.tuple #[.agg #[.slice A1 l.length c1, .slice A2 l.length c2, .slice A3 O.length c3, .slice A4 O.length c4], .int .i64 0]) ∧ Tabs w' w.heap.size w'.heap.size A1 A2 A3 A4 l O) ∧
    (right l = false → e = .returned (.tuple #[.agg #[.slice none 0 0, .slice none 0 0, .slice none 0 0, .slice none 0 0], .int .i64 7])) ∧ Ext w w'
theorem tab_info : (Try.prog.info? 69).map (·.size) = some 4 := by kernel_rfl
theorem four_slices (A1 : Option Addr) (n1 c1 : Nat) (A2 : Option Addr) (n2 c2 : Nat) (A3 : Option Addr) (n3 c3 : Nat) (A4 : Option Addr) (n4 c4 : Nat) : (#[.slice A1 n1 c1, .slice A2 n2 c2, .slice A3 n3 c3, .slice A4 n4 c4] : Array Value).all (·.oneCell') = true := by
  simp
  exact ⟨rfl, rfl, rfl, rfl⟩

set_option maxHeartbeats 4000000 in
set_option maxRecDepth 100000 in
theorem tableOf_any (A : Option Addr) (n c : Nat) (l : List UInt8) (w : World) (hc : n ≤ c) (h : Bytes w w.heap.size A n l) : Calls Try.prog 33 #[.slice A n c] w (TabTo w l) := by
  have hl := h.1
  subst hl
  have hE1 := extNew w (.cells #[.slice none 0 0, .slice none 0 0, .slice none 0 0, .slice none 0 0] 69)
  have hR1 := Whole.new w 69 #[.slice none 0 0, .slice none 0 0, .slice none 0 0, .slice none 0 0]
  have C1 := codes_any A l.length c l _ (hE1.bytes h)
  cases hr : right l with
  | false =>
    have HR := hide hr
    rw [show codesE l = ([], 7) by unfold codesE; rw [hr]; rfl] at C1
    clear h hr
    go_enter Try.func33, Try.ntmps33
    go_wp2_with fail
    refine C1.mono ?_
    rintro e w2 ⟨v, rfl, hO, hE2⟩
    obtain ⟨A2, c2, rfl, _⟩ := hO.reads
    have hR2 := hR1.ext hE2
    clear C1 hO
    go_wp2_with (refine wpList_storeW rfl 69 (.tmp 2) (.tmp 16) rfl rfl rfl hR2 rfl tab_info (four_slices ..) ?_; intro w5 hR5 hG5 _)
    refine bodyPost_ret (results_row2 rfl _ rfl rfl (run_loadVar_row _ _ _ _ _ _ _ hR5 Try.underlying69 rfl tab_info)) rfl ?_
    have hE := hE1.trans hE2
    exact ⟨(fun h => by rw [HR.out] at h; cases h), fun _ => rfl, Below.grown hE hG5 hE.le (fun k hk => by cases hk; exact Nat.le_refl _)⟩
  | true =>
    have HR := hide hr
    have hl300 := (right_facts hr).1
    rw [show codesE l = (codesL l, 0) by unfold codesE; rw [hr]; rfl] at C1
    have HB := hide (hE1.bytes h)
    have HL := hide (codesL_len l)
    clear h hr
    go_enter Try.func33, Try.ntmps33
    go_wp2_with fail
    refine C1.mono ?_
    rintro e w2 ⟨v, rfl, hO, hE2⟩
    obtain ⟨A2, c2, rfl, h2c, h2m, h2⟩ := hO.reads
    have HLow2 := hide (ownsRow_low hO)
    rw [HL.out] at h2 h2c
    have H2 := hide h2
    rw [HL.out]
    have hR2 := hR1.ext hE2
    have C2 := sliceClone8_any A l.length c l w2 hc (by omega) (hE2.bytes HB.out)
    clear C1 hO h2
    go_wp2_with fail
    refine C2.mono ?_
    rintro e w3 ⟨v, rfl, hO3, hE3⟩
    obtain ⟨A1, c1, rfl, h1c, h1m, h1⟩ := hO3.form
    have HLow1 := hide (ownsRow_low hO3)
    have hR3 := hR2.ext hE3
    have h2w := H2.out.below hE3 (Nat.le_refl _)
    have h2v := h2w.mono hE3.le
    have hF3 := (hE1.trans hE2).trans hE3
    have hle1 : w.heap.size < w2.heap.size := by have := hE2.le; rw [World.size_alloc] at this; omega
    have hle2 := hE2.le
    have hle3 := hE3.le
    have Hle := hide (And.intro hle1 (And.intro hle2 hle3))
    have hlt3 : w.heap.size < w3.heap.size := by omega
    clear C2 hO3 hR1 hR2 hE1 hE2 hE3 h2w hle1 hle2 hle3
    obtain ⟨g, hg⟩ : ∃ g, g = w3.heap.size := ⟨_, rfl⟩
    have hE4 := extNew w3 (.cells #[.slice none 0 0, .slice none 0 0, .slice none 0 0, .slice none 0 0] 69)
    have hW4 := Whole.new w3 69 #[.slice none 0 0, .slice none 0 0, .slice none 0 0, .slice none 0 0]
    have hR4 := hR3.ext hE4
    have hF4 := hF3.trans hE4
    have h1' : Bytes (w3.alloc (.cells #[.slice none 0 0, .slice none 0 0, .slice none 0 0, .slice none 0 0] 69)) g A1 l.length l := by rw [hg]; exact h1.below hE4 (Nat.le_refl _)
    have h2' : H16At (w3.alloc (.cells #[.slice none 0 0, .slice none 0 0, .slice none 0 0, .slice none 0 0] 69)) g A2 l.length (codesL l) := by rw [hg]; exact h2v.below hE4 (Nat.le_refl _)
    have HG := hide hg
    rw [← hg] at hW4
    have hgw : w.heap.size < g := by omega
    clear h1 h2v hF3 hR3 hE4 hg hlt3
    go_wp2_with (refine wpList_storeW rfl 69 (.tmp 6) (.tmp 21) rfl (by rw [HG.out]; rfl) rfl hW4 rfl tab_info (four_slices ..) ?_; intro w5 hW5 hG5 hS5; clear hS5)
    rw [← HG.out]
    have hT5 := (tabS_store hW5 hG5 (OwnI.nil _ (g + 1)) (OwnH.nil _ (g + 1)) h1' h2' (by rw [World.size_alloc, HG.out]; omega)).1
    have hF5 : Ext w w5 := Below.grown hF4 hG5 hF4.le (fun k hk => by cases hk; omega)
    have hR5 := hR4.grown hG5 (by omega)
    clear hW5 hG5 hW4 hR4 hF4 h1' h2'
    have H15 := hide (right_facts HR.out).2.1
    have HWl := hide (show ∀ s, s < l.length → word l s < 2 ^ 15 from fun s hs => word_lt HR.out hs)
    go_loopw [7] (fun x wr => ∃ k v3 v4 O, 1 ≤ k ∧ k ≤ 16 ∧ x = .int .i64 ((k : Nat) : Int) ∧ TabS wr g A1 c1 A2 c2 v3 v4 l (O.map fun s : Nat => (s : Int)) (starts l O) ∧ Ord l k 0 O ∧ Whole wr w.heap.size 69 #[.slice none 0 0, .slice none 0 0, .slice none 0 0, .slice none 0 0] ∧ Ext w wr) (fun x _ => 17 - (intOf x).toNat)
    case atStart => exact ⟨1, _, _, [], by omega, by omega, rfl, hT5, Ord.start, hR5, hF5⟩
    case round =>
      clear hT5 hF5 hR5
      obtain ⟨k, v3, v4, O, hk1, hk16, rfl, hT, hO, hR, hE⟩ := hrel
      by_cases hk : k ≤ 15
      · have hkI : (k : Int) ≤ 15 := by omega
        obtain ⟨wa, rfl⟩ : ∃ W, W = wr := ⟨_, rfl⟩
        go_wp2_with fail
        go_loopw [28] (fun x wr => ∃ i v3 v4 O, i ≤ l.length ∧ x = .int .i64 ((i : Nat) : Int) ∧ TabS wr g A1 c1 A2 c2 v3 v4 l (O.map fun s : Nat => (s : Int)) (starts l O) ∧ Ord l k i O ∧ Whole wr w.heap.size 69 #[.slice none 0 0, .slice none 0 0, .slice none 0 0, .slice none 0 0] ∧ Ext w wr) (fun x _ => l.length - (intOf x).toNat)
        case atStart => exact ⟨0, v3, v4, O, by omega, rfl, hT, hO, hR, hE⟩
        case round =>
          clear hT hO hR hE
          obtain ⟨i, v3, v4, O, hi, rfl, hT, hO, hR, hE⟩ := hrel
          by_cases hlt : i < l.length
          · have hltI : (i : Int) < (l.length : Int) := by omega
            have CL := hlength_any (hT.whole.at 0 rfl) hT.lens (i : Int)
            rw [lenX_at hlt] at CL
            by_cases hy : lenAt l i = k
            · have hyb : ((lenAt l i : Int) == (k : Int)) = true := by simp [hy]
              have hOn := hO.put hk1 hlt hy
              have hlenO := hO.len_300 HR.out
              have HOn := hide hOn
              have hwl := HWl.out i hlt
              have hst : startOf l i = word l i * 2 ^ (15 - k) := by unfold startOf; rw [hy]
              have hst2 : startOf l i < 32768 := by
                have h1 := startOf_lt HR.out hlt (by omega)
                have h2 : 0 < 2 ^ (15 - lenAt l i) := Nat.pow_pos (by omega)
                omega
              have HT := hide hT
              have hEa := extNew wr (.cells #[.int .i64 (i : Int)] 3)
              have hTa := hT.ext hEa
              have d2 : wr.cell? ⟨g, 2, none⟩ = some v3 := hT.whole.at 2 rfl
              have hi1 : (Try.prog.info? 35).map (·.size) = some 1 := by kernel_rfl
              have hlen1 : (O.map fun s : Nat => (s : Int)).length ≤ 1000000 := by rw [List.length_map]; omega
              have hb1 : g + 1 ≤ wr.heap.size := hT.whole.lt
              have hln : ((O.map fun s : Nat => (s : Int)) ++ [(i : Int)]).length = O.length + 1 := by simp
              rcases hT.words.2 with h0 | ⟨b2, o2, rfl, hb2, hc2⟩
              · omega
              have e2 := hc2 i hlt
              rw [codesL_at hlt] at e2
              clear hT hO hOn hc2
              have HY := hide hy
              clear hy
              generalize lenAt l i = y at *
              go_wp2_with fail
              refine CL.mono ?_
              rintro e w' ⟨rfl, rfl⟩
              clear CL
              go_wp2_with (first
                | (at_builtin; refine wpList_appIB rfl (.tmp 36) (.tmp 38) rfl rfl (i : Int) hTa.syms rfl hlen1 hb1 ?_; intro v6 w6 hO6 hG6; obtain ⟨hW6, hH6, hB6, hl6, hw6⟩ := hTa.appI hG6; obtain ⟨A3, c3, rfl, h3c, h3⟩ := hO6.form; rw [hln] at hO6)
                | (refine wpList_storeC (u := .slice A3 (O.length + 1) c3) rfl 35 (.tmp 40) (.tmp 39) rfl _ rfl rfl hW6 (by simp) hi1 rfl rfl rfl ?_; intro w7 hW7 hG7))
              obtain ⟨hT7, hB7⟩ := tabS_store hW7 hG7 hO6 hH6 hl6 hw6 (Nat.le_of_lt hW6.lt)
              have hB67 : Below g wr w7 := ((Below.mono hEa (Nat.le_of_succ_le hb1)).trans (Below.mono hB6 (by omega))).trans hB7
              have hR7 := hR.below hB67 hgw
              have hF7 : Ext w w7 := Below.trans hE (Below.mono hB67 (Nat.le_of_lt hgw))
              have e7 : w7.cell? ⟨b2, o2 + i, none⟩ = some (.int .u16 ((word l i : Nat) : Int)) := (hB67.cell (p := ⟨b2, o2 + i, none⟩) hb2).trans e2
              have d3 : w7.cell? ⟨g, 3, none⟩ = some v4 := hT7.whole.at 3 rfl
              have hsv : IntKind.u16.wrap ((word l i : Int) * 2 ^ (15 - k)) = ((startOf l i : Nat) : Int) := by
                have e : (word l i : Int) * 2 ^ (15 - k) = ((startOf l i : Nat) : Int) := by rw [hst]; simp
                rw [e]
                simp [IntKind.wrap, IntKind.bits, IntKind.signed]
                omega
              have hsh : IntKind.i64.wrap (15 - (k : Int)) = 15 - (k : Int) := IntWalk.i64_in _ (by omega)
              have hsh0 : (0 : Int) ≤ 15 - (k : Int) := by omega
              have hsh1 : (15 - (k : Int)).toNat = 15 - k := by omega
              have hEb := extNew w7 (.cells #[.int .u16 ((startOf l i : Nat) : Int)] 90)
              have d3' : (w7.alloc (.cells #[.int .u16 ((startOf l i : Nat) : Int)] 90)).cell? ⟨g, 3, none⟩ = some v4 := (hT7.whole.ext hEb).at 3 rfl
              have hT8 := hT7.ext hEb.drew
              have hc8 : (w7.alloc (.cells #[.int .u16 ((startOf l i : Nat) : Int)] 90)).drew.cell? ⟨w7.heap.size, 0, none⟩ = some (.int .u16 ((startOf l i : Nat) : Int)) := cellNew w7 _ _ _ 0
              have hlen2 : (starts l O).length ≤ 1000000 := by rw [starts_len]; omega
              have hb2' : g + 1 ≤ (w7.alloc (.cells #[.int .u16 ((startOf l i : Nat) : Int)] 90)).drew.heap.size := hT8.whole.lt
              have hi2 : (Try.prog.info? 28).map (·.size) = some 1 := by kernel_rfl
              have HST := hide (starts_snoc l O i)
              have HMP := hide (show (O ++ [i]).map (fun s : Nat => (s : Int)) = (O.map fun s : Nat => (s : Int)) ++ [(i : Int)] by simp)
              have hltI2 : (0 : Int) ≤ (i : Int) := by omega
              clear hln hst hst2 hTa hEa d2 hb1 e2 hW6 hH6 hB6 hl6 hw6 hO6 hG6 hW7 hG7 hB7 hR hE hlen1 hi1 h3
              generalize startOf l i = p at *
              generalize word l i = x at *
              have HLn := hide (show (starts l O ++ [p]).length = (starts l O).length + 1 by simp)
              go_region_law (refine step_app16 rfl (.tmp 42) (.tmp 50) rfl rfl hT8.starts rfl rfl hc8 hlen2 hb2' ?_; intro v9 w9 hO9 hG9'; have hG9 : (w7.alloc (.cells #[.int .u16 (p : Int)] 90)).drew.grownBy w9 v4.ownBlock := hG9'; clear hG9'; obtain ⟨hW9, hS9, hB9, hl9, hw9⟩ := hT8.appH hG9; obtain ⟨A4, c4, hv9, _⟩ := OwnH.form hO9; rw [HLn.out] at hv9; subst hv9; have e9 := hW9.at 3 rfl; have f9 := hW9.frozen 3)
              all_goals (
                have hG10 := grown_setCell w9 g 3 (.slice A4 ((starts l O).length + 1) c4)
                have hW10 : Whole (w9.setCell ⟨g, 3, none⟩ (.slice A4 ((starts l O).length + 1) c4)) g 69 #[.slice A1 l.length c1, .slice (some ⟨b2, o2, none⟩) l.length c2, .slice A3 (O.length + 1) c3, .slice A4 ((starts l O).length + 1) c4] := hW9.set 3 _
                obtain ⟨hT10, hB10⟩ := tabS_store hW10 hG10 hS9 hO9 hl9 hw9 (Nat.le_of_lt hW9.lt)
                have hB79 : Below g w7 (w9.setCell ⟨g, 3, none⟩ (.slice A4 ((starts l O).length + 1) c4)) := ((Below.mono hEb.drew (Nat.le_of_lt hT7.whole.lt)).trans (Below.mono hB9 (by omega))).trans hB10
                have hR10 := hR7.below hB79 hgw
                have hF10 : Ext w (w9.setCell ⟨g, 3, none⟩ (.slice A4 ((starts l O).length + 1) c4)) := Below.trans hF7 (Below.mono hB79 (Nat.le_of_lt hgw))
                rw [← HMP.out, ← HST.out] at hT10
                have HT10 := hide hT10
                clear hG10 hW10 hT10 hB10 hB79 hW9 hS9 hB9 hl9 hw9 hO9 hG9 e9 f9
                go_wp2
                go_roundw
                case rel => exact ⟨i + 1, _, _, O ++ [i], by omega, by go_num, HT10.out, HOn.out, hR10, hF10⟩
                case measure => simp [intOf]; omega)
            · have hyb : ((lenAt l i : Int) == (k : Int)) = false := by rw [beq_eq_false_iff_ne]; omega
              have HOn := hide (hO.pass hk1 hlt hy)
              have HT := hide hT
              clear hT hO hy
              generalize lenAt l i = y at *
              go_wp2_with fail
              refine CL.mono ?_
              rintro e w' ⟨rfl, rfl⟩
              clear CL
              go_wp2
              go_roundw
              case rel => exact ⟨i + 1, v3, v4, O, by omega, by go_num, HT.out, HOn.out, hR, hE⟩
              case measure => simp [intOf]; omega
          · obtain rfl : l.length = i := by omega
            have HOn := hide hO.turn
            have HT := hide hT
            clear hT hO
            go_wp2
            go_roundw
            case rel => exact ⟨k + 1, v3, v4, O, by omega, by omega, by go_num, HT.out, HOn.out, hR, hE⟩
            case measure => simp [intOf]; omega
      · obtain rfl : k = 16 := by omega
        obtain ⟨A3, c3, rfl, h3c, h3⟩ := hT.syms.form
        obtain ⟨A4, c4, rfl, h4c, h4m, h4⟩ := OwnH.reads hT.starts
        have HLow3 := hide (ownsRow_low hT.syms)
        have HLow4 := hide (ownsRow_low hT.starts)
        rw [List.length_map] at h3 h3c
        rw [starts_len] at h4 h4c
        have hW := hT.whole
        rw [List.length_map, starts_len] at hW
        have HT := hide (And.intro hT.lens hT.words)
        have H3 := hide h3
        have H4 := hide h4
        have HO := hide hO
        clear hT h3 h4 hO
        go_wp2_with (first
          | (refine wpList_load_row rfl 69 (.tmp 6) rfl _ rfl _ _ _ _ hW Try.underlying69 rfl tab_info ?_)
          | (refine wpList_storeW rfl 69 (.tmp 2) (.tmp 54) rfl rfl rfl hR rfl tab_info (four_slices ..) ?_; intro w5 hR5 hG5 hS5))
        refine bodyPost_ret (results_row2 rfl _ rfl rfl (run_loadVar_row _ _ _ _ _ _ _ hR5 Try.underlying69 rfl tab_info)) rfl ?_
        obtain ⟨k1, k2, k3⟩ := Hle.out
        have l1 : ∀ b o, A1 = some ⟨b, o, none⟩ → w.heap.size < b := fun b o e => by have := HLow1.out b o e; omega
        have l2 : ∀ b o, A2 = some ⟨b, o, none⟩ → w.heap.size < b := fun b o e => by have := HLow2.out b o e; rw [World.size_alloc] at this; omega
        have l3 : ∀ b o, A3 = some ⟨b, o, none⟩ → w.heap.size < b := fun b o e => by have := HLow3.out b o e; omega
        have l4 : ∀ b o, A4 = some ⟨b, o, none⟩ → w.heap.size < b := fun b o e => by have := HLow4.out b o e; omega
        have hgl := hW.lt
        have hsz := hG5.size
        refine ⟨fun _ => ⟨_, _, _, _, _, _, _, _, O, rfl, ⟨(bytes_off HT.out.1 hG5 l1).mono (by omega), (h16_off HT.out.2 hG5 l2).mono (by omega), ints_mono (ints_off H3.out hG5 l3) hsz, (h16_off H4.out hG5 l4).mono hsz, HO.out, fun b o e => Nat.le_of_lt (l1 b o e), fun b o e => Nat.le_of_lt (l2 b o e), fun b o e => Nat.le_of_lt (l3 b o e), fun b o e => Nat.le_of_lt (l4 b o e)⟩⟩, (fun h => by rw [HR.out] at h; cases h), Below.grown hE hG5 hE.le (fun k hk => by cases hk; exact Nat.le_refl _)⟩
end Go.Proofs.Ytjpmabdnaooglaa

namespace Go.Proofs.Ytjpmabdnaooglaa
open Go.RowKit

def bit8 (b : Bool) : UInt8 := if b then 1 else 0
theorem bit8_int (b : Bool) : ((bit8 b).toNat : Int) = (b.toNat : Int) := by cases b <;> rfl
/-- Block g is the document's writer with these bytes; ob: the block that they lie in. -/
def RefW (w : World) (base g : Nat) (ob : Option Nat) (L : List UInt8) : Prop := ∃ v, Whole w g 78 #[v] ∧ OwnB w base v L ∧ v.ownBlock ≠ some g ∧ base ≤ g ∧ v.ownBlock = ob
def RefPuts (w : World) (base g : Nat) (ob : Option Nat) (L : List UInt8) (err : Int) (e : Ending) (w' : World) : Prop :=
  e = .returned (.int .i64 err) ∧ ∃ ob', RefW w' base g ob' L ∧ NewOb w ob ob' ∧ Mod w w' g ob
section
variable {w w' : World} {base g : Nat} {ob : Option Nat} {L : List UInt8}
theorem RefW.lt (h : RefW w base g ob L) : g < w.heap.size := by obtain ⟨v, h, _⟩ := h; exact h.lt
theorem RefW.le (h : RefW w base g ob L) : base ≤ g := by obtain ⟨v, _, _, _, h, _⟩ := h; exact h
theorem RefW.ne (h : RefW w base g ob L) : ob ≠ some g := by obtain ⟨v, _, _, h, _, rfl⟩ := h; exact h
theorem RefW.own (h : RefW w base g ob L) : ∀ k, ob = some k → base ≤ k ∧ k < w.heap.size := by obtain ⟨v, _, h, _, _, rfl⟩ := h; exact h.lt
theorem RefW.ext (h : RefW w base g ob L) (hE : Ext w w') : RefW w' base g ob L := by
  obtain ⟨v, hW, hO, r⟩ := h
  exact ⟨v, hW.ext hE, hO.ext hE, r⟩
theorem RefW.kept {g' : Nat} {ob' : Option Nat} (h : RefW w base g ob L) (hM : Mod w w' g' ob') (h1 : g ≠ g') (h2 : ob' ≠ some g) (h3 : ob ≠ some g') (h4 : ob = none ∨ ob ≠ ob') : RefW w' base g ob L := by
  obtain ⟨v, hW, hO, hne, hb, rfl⟩ := h
  exact ⟨v, hM.whole hW h1 h2, hM.own hO h3 h4, hne, hb, rfl⟩
end
/-- Behind 'w.Bits = append(w.Bits, x)', x laid in a block of its own first. -/
theorem RefW.put {w w1 w2 w3 : World} {base g : Nat} {v v2 : Value} {L : List UInt8} {x : UInt8} (hW : Whole w g 78 #[v]) (hne : v.ownBlock ≠ some g) (hb : base ≤ g) (hE : Ext w w1)
    (hO2 : OwnB w2 base v2 (L ++ [x])) (hG : w1.grownBy w2 v.ownBlock) (hN : NewOb w1 v.ownBlock v2.ownBlock) (hW3 : Whole w3 g 78 #[v2]) (hG3 : w2.grownBy w3 (some g)) :
    ∃ ob', RefW w3 base g ob' (L ++ [x]) ∧ NewOb w v.ownBlock ob' ∧ Mod w w3 g v.ownBlock := by
  have hne2 : v2.ownBlock ≠ some g := hN.ne (Nat.lt_of_lt_of_le hW.lt hE.le) hne
  refine ⟨v2.ownBlock, ⟨v2, hW3, (Mod.ofRow (ob := none) hG3).own hO2 hne2 (by cases v2.ownBlock <;> simp), hne2, hb, rfl⟩, (NewOb.same w _).trans hE.le hN, ?_⟩
  exact ((Mod.ofExt hE).trans (Mod.ofOwn hG) (.inl rfl)).trans (Mod.ofRow (ob := v.ownBlock) hG3) (.inl rfl)

end Go.Proofs.Ytjpmabdnaooglaa

namespace Go.Proofs.Ytjpmabdnaooglaa
open Go.RowKit

def Bit.lows (x k : Nat) : List UInt8 := (List.range k).map fun i => bit8 (x.testBit i)
theorem Bit.lows_len (x k : Nat) : (Bit.lows x k).length = k := by simp [Bit.lows]
theorem Bit.lows_succ (x k : Nat) : Bit.lows x (k + 1) = Bit.lows x k ++ [bit8 (x.testBit k)] := by simp [Bit.lows, List.range_succ]
theorem Bit.lows_get (x k i : Nat) (h : i < k) : (Bit.lows x k).getD i 0 = bit8 (x.testBit i) := by simp [Bit.lows, List.getD_eq_getElem?_getD, h]
theorem Bit.num_take (x n j : Nat) (hj : j < n) : ((Bit.num x n).take (n - (j + 1))).map bit8 ++ [bit8 (x.testBit j)] = ((Bit.num x n).take (n - j)).map bit8 := by
  have hl : n - (j + 1) < (Bit.num x n).length := by rw [Bit.num_length]; omega
  have hg : (Bit.num x n)[n - (j + 1)] = x.testBit j := by
    have h1 := Bit.num_getD x n (n - (j + 1)) (by omega)
    rw [List.getD_eq_getElem?_getD, List.getElem?_eq_getElem hl, show n - 1 - (n - (j + 1)) = j by omega] at h1
    exact h1
  rw [show n - j = n - (j + 1) + 1 by omega, List.take_succ_eq_append_getElem hl, List.map_append, hg]
  rfl
theorem Bit.bit_int (y : Nat) (b : Bool) (h : b.toNat = y % 2) : (y : Int) % 2 = ((bit8 b).toNat : Int) := by rw [bit8_int]; omega

set_option maxHeartbeats 2000000 in
theorem refPut_any {w : World} {base g : Nat} {ob : Option Nat} {L : List UInt8} (h : RefW w base g ob L) (x : Nat) (n : Int) (hx64 : x ≤ 18446744073709551615) (hL : L.length ≤ 900000000) :
    Calls Try.prog 56 #[.pointer (some ⟨g, 0, none⟩), .int .u64 x, .int .i64 n] w (RefPuts w base g ob (L ++ (Bit.putBits x n).map bit8) (Bit.putErr x n)) := by
  by_cases hr : 0 ≤ n ∧ n ≤ 64
  · obtain ⟨h0, h1⟩ := hr
    obtain ⟨k, rfl⟩ := Int.eq_ofNat_of_zero_le h0
    have hk : k ≤ 64 := by omega
    have HF := hide h
    go_enter Try.func56, Try.ntmps56
    go_wp2
    go_loopw [1, 7, 8] (fun y v i wr => ∃ j : Nat, j ≤ k ∧ i = .int .i64 (j : Int) ∧ y = .int .u64 ((x / 2 ^ j : Nat) : Int) ∧ OwnB wr w.heap.size v (Bit.lows x j) ∧ Ext w wr) (fun _ _ i _ => k - (intOf i).toNat)
    case atStart => exact ⟨0, by omega, rfl, by simp, OwnB.nil _ _, Ext.refl _⟩
    case round =>
      obtain ⟨j, hj, rfl, rfl, hO, hE⟩ := hrel
      by_cases hlt : j < k
      · have hbit := Bit.bit_int (x / 2 ^ j) (x.testBit j) (Bit.testBit_toNat x j)
        have hdiv := hide (show ((x / 2 ^ j : Nat) : Int) / 2 = ((x / 2 ^ (j + 1) : Nat) : Int) by rw [Nat.pow_succ, ← Nat.div_div_eq_div_mul]; omega)
        have hy : x / 2 ^ j ≤ 18446744073709551615 := Nat.le_trans (Nat.div_le_self _ _) hx64
        have HL := hide (Bit.lows_succ x j)
        have hlen := Bit.lows_len x j
        have hfit : (Bit.lows x j).length + 1 ≤ 140737488355328 := by omega
        generalize Bit.lows x j = Lo at *
        generalize x / 2 ^ j = y at *
        generalize bit8 (x.testBit j) = bt at *
        have hbt := bt.toNat_lt
        have hb1 := bytesNew wr [bt] #[.int .u8 (bt.toNat : Int)] 5 (0, 0) rfl 1 rfl
        have hO1 := hO.ext (extNew wr (.cells #[.int .u8 (bt.toNat : Int)] 5))
        have hE1 := hE.trans (extNew wr (.cells #[.int .u8 (bt.toNat : Int)] 5))
        have hB1 := hE1.le
        clear hlen
        go_wp2_with (at_builtin; refine wpList_appAt rfl (.tmp 21) (.tmp 25) rfl rfl hO1 rfl hb1 hfit hB1 ?_; intro v2 w2 hO2 hG2 hN2)
        go_roundw
        case rel =>
          refine ⟨j + 1, by omega, by go_num, by rw [← hdiv.out], by rw [HL.out]; exact hO2, hO1.below hE1 hG2 hB1⟩
        case measure => simp [intOf]; omega
      · obtain rfl : j = k := by omega
        by_cases hz : x / 2 ^ j = 0
        · have hxl : x < 2 ^ j := by
            rcases Nat.div_eq_zero_iff.1 hz with h | h
            · exact absurd h (Nat.ne_of_gt (Nat.two_pow_pos j))
            · exact h
          have HP := hide (Bit.put_good (x := x) (n := (j : Int)) (decide_eq_true ⟨by omega, by omega, by simpa using hxl⟩))
          have hz' : (((x / 2 ^ j : Nat) : Int) != 0) = false := by rw [hz]; rfl
          have HO := hide hO
          clear hz hxl
          generalize x / 2 ^ j = y at *
          generalize hwz : wr = wz at *
          clear hwz
          go_wp2
          have hR := HF.out.ext hE
          go_loopw [9] (fun i ww => ∃ (m : Nat) (ob1 : Option Nat), m ≤ j ∧ i = .int .i64 ((m : Int) - 1) ∧ RefW ww base g ob1 (L ++ ((Bit.num x j).take (j - m)).map bit8) ∧ NewOb wz ob ob1 ∧ Mod wz ww g ob) (fun i _ => ((intOf i) + 1).toNat)
          case atStart => exact ⟨j, ob, by omega, rfl, by simpa using hR, .inl rfl, Mod.refl _ _ _⟩
          case round =>
            obtain ⟨m, ob1, hm, rfl, ⟨v, hW, hOw, hne, hb, rfl⟩, hN, hM⟩ := hrel
            rcases m with _ | m
            · have hneg : ¬ (0 ≤ ((0 : Nat) : Int) - 1) := by omega
              go_wp2
              go_ret
              refine ⟨ret_i64 HP.out.1.symm, v.ownBlock, ?_, (NewOb.same w ob).trans hE.le hN, (Mod.ofExt hE).trans hM (.inl rfl)⟩
              rw [HP.out.2, Int.toNat_natCast]
              rw [Nat.sub_zero, List.take_of_length_le (by rw [Bit.num_length]; exact Nat.le_refl _)] at *
              exact ⟨v, hW, hOw, hne, hb, rfl⟩
            · rw [show (((m + 1 : Nat) : Int) - 1) = (m : Int) by omega]
              have hO1 := HO.out
              have hgl := HF.out.lt
              have hob := HF.out.own
              obtain ⟨gl, cl, hu, hbl, hcl⟩ := hO1.formG (by rw [Bit.lows_len]; omega)
              rw [Bit.lows_len] at hu
              subst hu
              have hOl := hM.own hO1 (by simp [Value.ownBlock]; omega) (.inr (fun e => by have := (hob gl e.symm).2; omega))
              have hcell := (hOl.cell (i := m) (by rw [Bit.lows_len]; omega)).1
              rw [Bit.lows_get x j m (by omega)] at hcell
              have HT := hide (Bit.num_take x j m (by omega))
              have hlen : (L ++ List.map bit8 (List.take (j - (m + 1)) (Bit.num x j))).length ≤ 900000064 := by
                rw [List.length_append, List.length_map, List.length_take]; omega
              have hfit : (L ++ List.map bit8 (List.take (j - (m + 1)) (Bit.num x j))).length + 1 ≤ 140737488355328 := by omega
              generalize bit8 (x.testBit m) = bt at *
              generalize hLL : L ++ List.map bit8 (List.take (j - (m + 1)) (Bit.num x j)) = LL at *
              have HLL := hide hLL
              have hbt := bt.toNat_lt
              have d0 : wr.cell? ⟨g, 0, none⟩ = some v := hW.at 0 rfl
              have hEa := extNew wr (.cells #[.int .u8 (bt.toNat : Int)] 5)
              have d0' : (wr.alloc (.cells #[.int .u8 (bt.toNat : Int)] 5)).cell? ⟨g, 0, none⟩ = some v := (hW.ext hEa).at 0 rfl
              have hb1 := (Ext.refl (wr.alloc (.cells #[.int .u8 (bt.toNat : Int)] 5))).drew.bytes (bytesNew wr [bt] #[.int .u8 (bt.toNat : Int)] 5 (0, 0) rfl 1 rfl)
              have hEw : Ext wr (wr.alloc (.cells #[.int .u8 (bt.toNat : Int)] 5)).drew := hEa.drew
              have hOx := hOw.ext hEw
              have hB1 : base ≤ (wr.alloc (.cells #[.int .u8 (bt.toNat : Int)] 5)).drew.heap.size := Nat.le_trans (Nat.le_trans hb (Nat.le_of_lt hW.lt)) hEw.le
              have hi : (Try.prog.info? 22).map (·.size) = some 1 := by kernel_rfl
              have hmj : (m : Int) < (j : Int) := by omega
              clear hLL hlen hO1 hO hOl hob
              go_wp2
              go_region_law (refine step_appAt rfl (.tmp 41) (.tmp 46) rfl rfl hOx rfl hb1 hfit hB1 ?_; intro v2 w2 hO2 hG2' hN2'; have hG2 : (wr.alloc (.cells #[.int .u8 (bt.toNat : Int)] 5)).drew.grownBy w2 v.ownBlock := hG2'; have hN2 : NewOb (wr.alloc (.cells #[.int .u8 (bt.toNat : Int)] 5)).drew v.ownBlock v2.ownBlock := hN2'; clear hG2' hN2'; have hW2 := (hW.ext hEw).ownGrown hG2 hne; obtain ⟨A2, n2, c2, hv2, _, _, _⟩ := hO2.form'; subst hv2; have e0 := hW2.at 0 rfl; have f2 := hW2.frozen 0)
              all_goals (
                have hG3 := grown_setCell w2 g 0 (.slice A2 n2 c2)
                have hW3 : Whole (w2.setCell ⟨g, 0, none⟩ (.slice A2 n2 c2)) g 78 #[.slice A2 n2 c2] := hW2.set 0 _
                obtain ⟨ob2, hR2, hN3, hM3⟩ := RefW.put hW hne hb hEw hO2 hG2 hN2 hW3 hG3
                rw [← HLL.out, List.append_assoc, HT.out] at hR2
                have HR := hide (show RefW (w2.setCell ⟨g, 0, none⟩ (.slice A2 n2 c2)) base g ob2 (L ++ ((Bit.num x j).take (j - m)).map bit8) ∧ NewOb wz ob ob2 ∧ Mod wz (w2.setCell ⟨g, 0, none⟩ (.slice A2 n2 c2)) g ob from ⟨hR2, hN.trans hM.size hN3, hM.trans hM3 hN⟩)
                clear hR2 hN3 hM3 hW3 hG3
                go_wp2
                go_roundw
                case rel => exact ⟨m, ob2, by omega, rfl, HR.out⟩
                case measure => simp [intOf])
        · have hxl : ¬ x < 2 ^ j := fun h => hz (Nat.div_eq_of_lt h)
          have HP := hide (Bit.put_bad (x := x) (n := (j : Int)) (decide_eq_false (fun h => hxl (by simpa using h.2.2))))
          have hz' : (((x / 2 ^ j : Nat) : Int) != 0) = true := by simpa using fun h => hz (by exact_mod_cast h)
          clear hz hxl
          generalize x / 2 ^ j = y at *
          go_wp2
          go_ret
          exact ⟨ret_i64 HP.out.1.symm, ob, by rw [HP.out.2, List.map_nil, List.append_nil]; exact HF.out.ext hE, .inl rfl, Mod.ofExt hE⟩
  · have HP := hide (Bit.put_bad (x := x) (n := n) (decide_eq_false (fun h => hr ⟨h.1, h.2.1⟩)))
    have HF := hide h
    by_cases h0 : n < 0
    · clear hr
      go_enter Try.func56, Try.ntmps56
      go_wp2
      go_ret
      exact ⟨ret_i64 HP.out.1.symm, ob, by rw [HP.out.2, List.map_nil, List.append_nil]; exact HF.out, .inl rfl, Mod.refl _ _ _⟩
    · have h1 : 64 < n := by omega
      clear hr
      go_enter Try.func56, Try.ntmps56
      go_wp2
      go_ret
      exact ⟨ret_i64 HP.out.1.symm, ob, by rw [HP.out.2, List.map_nil, List.append_nil]; exact HF.out, .inl rfl, Mod.refl _ _ _⟩
end Go.Proofs.Ytjpmabdnaooglaa

namespace Go.Proofs.Ytjpmabdnaooglaa
open Go.RowKit Len Can Huf

theorem cod_info : (Try.prog.info? 30).map (·.size) = some 2 := by kernel_rfl
theorem two_slices (A1 : Option Addr) (n1 c1 : Nat) (A2 : Option Addr) (n2 c2 : Nat) : (#[.slice A1 n1 c1, .slice A2 n2 c2] : Array Value).all (·.oneCell') = true := by
  simp
  exact ⟨rfl, rfl⟩

set_option maxHeartbeats 1000000 in
set_option maxRecDepth 100000 in
theorem refNew9R_any (A : Option Addr) (n c : Nat) (l : List UInt8) (w : World) (h : Bytes w w.heap.size A n l) : Calls Try.prog 12 #[.slice A n c] w (RefNewR w l) := by
  have hl := h.1
  subst hl
  have hE1 := extNew w (.cells #[.slice none 0 0, .slice none 0 0] 30)
  have hW1 := Whole.new w 30 #[.slice none 0 0, .slice none 0 0]
  have C1 := refCodes_any A l.length c l _ (hE1.bytes h)
  cases hr : right l with
  | false =>
    have HN := hide (check_wrong hr)
    have HR := hide hr
    rw [show codesE l = ([], 7) by unfold codesE; rw [hr]; rfl] at C1
    clear h hr
    go_enter Try.func12, Try.ntmps12
    go_wp2_with fail
    refine C1.mono ?_
    rintro e w2 ⟨v, rfl, hO, hE2⟩
    obtain ⟨A2, c2, rfl, _⟩ := hO.reads
    have hW2 := hW1.ext hE2
    clear C1 hO
    go_wp2_with (refine wpList_storeW rfl 30 (.tmp 2) (.tmp 13) rfl rfl rfl hW2 rfl cod_info (two_slices ..) ?_; intro w5 hW5 hG5 _)
    refine bodyPost_ret (results_row2 rfl _ rfl rfl (run_loadVar_row _ _ _ _ _ _ _ hW5 Try.underlying30 rfl cod_info)) rfl ?_
    have hE := hE1.trans hE2
    exact ⟨_, by rw [HN.out]; rfl, (fun h => by rw [HR.out] at h; cases h), fun _ => rfl, Below.grown hE hG5 hE.le (fun k hk => by cases hk; exact Nat.le_refl _)⟩
  | true =>
    have HN := hide (check_right hr)
    have HR := hide hr
    have hl300 := (right_facts hr).1
    rw [show codesE l = (codesL l, 0) by unfold codesE; rw [hr]; rfl] at C1
    have HB := hide (hE1.bytes h)
    clear h hr
    go_enter Try.func12, Try.ntmps12
    go_wp2_with fail
    refine C1.mono ?_
    rintro e w2 ⟨v, rfl, hO, hE2⟩
    have hO := hO
    obtain ⟨A2, c2, rfl, h2c, h2m, h2⟩ := hO.reads
    have HO := hide hO
    have HL := hide (codesL_len l)
    rw [HL.out] at h2 h2c
    have H2 := hide h2
    rw [HL.out]
    have hb2 := hE2.bytes HB.out
    have hE3 := extNew w2 (.cells #[] 5)
    have hO3 := OwnB.empty w2 (base := w2.heap.size) (Nat.le_refl _)
    have hb3 := hE3.bytes hb2
    have hW3 := (hW1.ext hE2).alloc (.cells #[] 5)
    have hlen : ([] : List UInt8).length + l.length ≤ 140737488355328 := by simp; omega
    have hlt1 : w.heap.size < w2.heap.size := by have := hE2.le; rw [World.size_alloc] at this; omega
    have hne5 : ∀ u : Unit, Value.ownBlock (.slice (some ⟨w2.heap.size, 0, none⟩) 0 0) ≠ some w.heap.size := fun _ => by simp [Value.ownBlock]; omega
    clear C1 hO h2 hb2
    go_wp2_with (first
      | (at_builtin; refine wpList_app rfl (.tmp 15) (.tmp 16) rfl rfl hO3 rfl hb3 hlen hE3.le ?_; intro v5 w5 hO5 hG5; simp only [List.nil_append] at hO5; have hW5 := hW3.ownGrown hG5 (hne5 ()); obtain ⟨A5, c5, rfl, h5c, h5m, h5⟩ := hO5.form)
      | (refine wpList_storeW rfl 30 (.tmp 2) (.tmp 19) rfl rfl rfl hW5 rfl cod_info (two_slices ..) ?_; intro w6 hW6 hG6 _))
    refine bodyPost_ret (results_row2 rfl _ rfl rfl (run_loadVar_row _ _ _ _ _ _ _ hW6 Try.underlying30 rfl cod_info)) rfl ?_
    have hG5' : (w2.alloc (.cells #[] 5)).grownBy w5 (some w2.heap.size) := hG5
    have hE := hE1.trans hE2
    have hE5 : Ext w w5 := Below.grown (hE.alloc (.cells #[] 5)) hG5' (hE.alloc (.cells #[] 5)).le (fun k hk => by cases hk; omega)
    have hO6 := (Mod.ofRow (ob := none) hG6).own hO5 (fun e => by have := (hO5.lt _ e).1; omega) (by cases Value.ownBlock (.slice A5 l.length c5) <;> simp)
    have hH := HO.out
    have hHl := hH.lt
    rw [World.size_alloc] at hHl
    have hH6 := World.ownsRow.kept (World.ownsRow.kept (hH.ext hE3) hG5' (by
      cases hv : Value.ownBlock (.slice A2 (codesL l).length c2) with
      | none => simp
      | some k => have := (hHl k hv).2; simp; omega)) hG6 (by
      cases hv : Value.ownBlock (.slice A2 (codesL l).length c2) with
      | none => simp
      | some k => have := (hHl k hv).1; simp; omega)
    refine ⟨_, by rw [HN.out]; rfl, fun _ => ?_, (fun h => by rw [HR.out] at h; cases h), Below.grown hE5 hG6 hE5.le (fun k hk => by cases hk; exact Nat.le_refl _)⟩
    have hH6' : OwnH w6 w.heap.size (.slice A2 (codesL l).length c2) (codesL l) := OwnH.mono hH6 (by rw [World.size_alloc]; omega)
    rw [HL.out] at hH6'
    have hO6' : OwnB w6 w.heap.size (.slice A5 l.length c5) l := ⟨hO6.1, hO6.2.imp_right fun ⟨g, cap, cur, e, hg, r⟩ => ⟨g, cap, cur, e, by omega, r⟩⟩
    exact ⟨_, _, _, _, rfl, hO6', hH6', fun k hk => (hO6'.lt k hk).2, fun k hk => (hH6'.lt k hk).2⟩
theorem refNew9_any (A : Option Addr) (n c : Nat) (l : List UInt8) (w : World) (h : Bytes w w.heap.size A n l) : Calls Try.prog 12 #[.slice A n c] w (RefNew w l) :=
  (refNew9R_any A n c l w h).mono fun _ _ ⟨v, e, hy, hn, hE⟩ => ⟨v, e, fun hr => (hy hr).cod, hn, hE⟩

/-- A symbol that may not be put. -/
theorem Huf.put_bad {l : List UInt8} {s : Int} (h : fine l s = false) : putE l s = 13 := by unfold putE; rw [h]; rfl
theorem Huf.put_fine {l : List UInt8} {s : Int} (h : fine l s = true) : putE l s = 0 := by unfold putE; rw [if_pos h]
/-- The bits that Put puts. -/
def Huf.putX (l : List UInt8) (s : Int) : List Bool := if fine l s then putB l s else []

set_option maxHeartbeats 2000000 in
set_option maxRecDepth 100000 in
theorem refPut9H_any {w : World} {base g : Nat} {ob : Option Nat} {B : List Bool} {v : Value} {l : List UInt8} (hv : RefCod w w.heap.size v l) (hr : right l = true) (h : RefW w base g ob (B.map bit8)) (s : Int) (hB : B.length ≤ 800000000) :
    Calls Try.prog 37 #[v, .pointer (some ⟨g, 0, none⟩), .int .i64 s] w (RefPuts w base g ob ((B ++ putX l s).map bit8) (putE l s)) := by
  obtain ⟨A1, c1, A2, c2, rfl, h1c, h1m, h1, h2⟩ := hv
  have hE1 := extNew w (.cells #[.slice A1 l.length c1, .slice A2 l.length c2] 30)
  have hW1 := Whole.new w 30 #[.slice A1 l.length c1, .slice A2 l.length c2]
  have d0 : (w.alloc (.cells #[.slice A1 l.length c1, .slice A2 l.length c2] 30)).cell? ⟨w.heap.size, 0, none⟩ = some (.slice A1 l.length c1) := hW1.at 0 rfl
  have d1 : (w.alloc (.cells #[.slice A1 l.length c1, .slice A2 l.length c2] 30)).cell? ⟨w.heap.size, 1, none⟩ = some (.slice A2 l.length c2) := hW1.at 1 rfl
  obtain ⟨h300, h15, _⟩ := right_facts hr
  have hbase := Nat.le_trans h.le (Nat.le_of_lt h.lt)
  have H := hide h
  have stay : ∀ e : Int, e = 13 → fine l s = false → RefPuts w base g ob ((B ++ putX l s).map bit8) (putE l s) (.returned (.int .i64 e)) (w.alloc (.cells #[.slice A1 l.length c1, .slice A2 l.length c2] 30)) := fun e he hf => by
    subst he
    refine ⟨by rw [Huf.put_bad hf], ob, ?_, .inl rfl, Mod.ofExt hE1⟩
    unfold putX
    rw [hf, if_neg (by simp), List.append_nil]
    exact H.out.ext hE1
  have HStay := hide stay
  clear stay h
  obtain ⟨G, hG⟩ : ∃ G, G = (B ++ putX l s).map bit8 := ⟨_, rfl⟩
  rw [← hG] at HStay ⊢
  have HG := hide hG
  clear hG
  by_cases h0 : s < 0
  · have hf : fine l s = false := decide_eq_false (by omega)
    have HK := hide (HStay.out 13 rfl hf)
    clear HStay hf hW1
    go_enter Try.func37, Try.ntmps37
    go_wp2
    go_ret
    exact HK.out
  obtain ⟨k, rfl⟩ := Int.eq_ofNat_of_zero_le (show 0 ≤ s by omega)
  by_cases hk : k < l.length
  · have hkI : (k : Int) < (l.length : Int) := by omega
    rcases h1.2 with hn | ⟨b1, o1, rfl, hb1, hc1⟩
    · omega
    rcases h2.2 with hn | ⟨b2, o2, rfl, hb2, hc2⟩
    · omega
    have e1 : (w.alloc (.cells #[.slice (some ⟨b1, o1, none⟩) l.length c1, .slice (some ⟨b2, o2, none⟩) l.length c2] 30)).cell? ⟨b1, o1 + k, none⟩ = some (.int .u8 ((lenAt l k : Nat) : Int)) := (hE1.cell (i := o1 + k) (by omega)).trans (hc1 k hk)
    have e2 : (w.alloc (.cells #[.slice (some ⟨b1, o1, none⟩) l.length c1, .slice (some ⟨b2, o2, none⟩) l.length c2] 30)).cell? ⟨b2, o2 + k, none⟩ = some (.int .u16 ((word l k : Nat) : Int)) := by
      rw [hE1.cell (i := o2 + k) (by omega), hc2 k hk, codesL_at hk]
    have hy15 := h15 k hk
    by_cases y0 : lenAt l k = 0
    · have hf : fine l (k : Int) = false := decide_eq_false (by rw [Int.toNat_natCast]; omega)
      have HK := hide (HStay.out 13 rfl hf)
      rw [y0] at e1
      change World.cell? _ ⟨b1, o1 + k, none⟩ = some (.int .u8 0) at e1
      clear HStay hf hW1 hc1 hc2 h1 h2 e2 y0 hy15
      go_enter Try.func37, Try.ntmps37
      go_wp2
      go_ret
      exact HK.out
    · have hf : fine l (k : Int) = true := decide_eq_true (by rw [Int.toNat_natCast]; omega)
      have hw := word_fits hr hk y0
      have hwl := word_lt hr hk
      have CP := fun W (hW : RefW W base g ob (B.map bit8)) => refPut_any hW (word l k) ((lenAt l k : Nat) : Int) (by omega) (by simp; omega)
      have hg := Bit.put_good (x := word l k) (n := ((lenAt l k : Nat) : Int)) (decide_eq_true ⟨by omega, by omega, by rw [Int.toNat_natCast]; exact hw⟩)
      simp only [hg.1, hg.2, Int.toNat_natCast] at CP
      have HX := hide (show putX l (k : Int) = Bit.num (word l k) (lenAt l k) by unfold putX; rw [if_pos hf]; unfold putB; rw [Int.toNat_natCast])
      have HE := hide (Huf.put_fine hf)
      have hyb : ((lenAt l k : Int) == 0) = false := by rw [beq_eq_false_iff_ne]; omega
      clear HStay hf hW1 hc1 hc2 h1 h2 hg
      generalize word l k = x at *
      generalize lenAt l k = y at *
      go_enter Try.func37, Try.ntmps37
      go_wp2_with fail
      generalize w.alloc (.cells #[.slice (some ⟨b1, o1, none⟩) l.length c1, .slice (some ⟨b2, o2, none⟩) l.length c2] 30) = w1 at *
      go_still_tail 13, (by kernel_rfl)
      change wpList _ _ _ _ _ (World.drew _)
      go_wp2_with fail
      refine (CP _ (H.out.ext hE1.drew)).mono ?_
      rintro e w2 ⟨rfl, ob2, hR2, hN2, hM2⟩
      go_wp2
      go_ret
      refine ⟨ret_i64 HE.out.symm, ob2, ?_, (NewOb.same w ob).trans hE1.le hN2, (Mod.ofExt hE1.drew).trans hM2 (.inl rfl)⟩
      rw [HG.out, HX.out, List.map_append]
      exact hR2
  · have hf : fine l (k : Int) = false := decide_eq_false (by omega)
    have hkI : ¬ (k : Int) < (l.length : Int) := by omega
    have HK := hide (HStay.out 13 rfl hf)
    clear HStay hf hW1
    go_enter Try.func37, Try.ntmps37
    go_wp2
    go_ret
    exact HK.out
theorem refPut9_any {w : World} {base g : Nat} {ob : Option Nat} {B : List Bool} {v : Value} {l : List UInt8} (hv : RefCod w base v l) (hr : right l = true) (h : RefW w base g ob (B.map bit8)) (s : Int) (hB : B.length ≤ 800000000) :
    Calls Try.prog 37 #[v, .pointer (some ⟨g, 0, none⟩), .int .i64 s] w (RefPuts w base g ob ((B ++ putX l s).map bit8) (putE l s)) :=
  refPut9H_any (hv.mono (Nat.le_trans h.le (Nat.le_of_lt h.lt))) hr h s hB
end Go.Proofs.Ytjpmabdnaooglaa

