/- The contract of the document's Bytes. The document's example; a new reader. A writer of the program and one of the document, side by side. The document's Pack of chapter 9. Lengths as bits, as values: what is written is read. Plain mathematics of chapter 8. Contracts of the document's reader: Left, Peek, Get, Skip, Unary, Pad. Contracts of the document's reader: Get, Skip, Unary, Pad. The document's Read of chapter 8. The document's Get of chapter 9. The contract of the document's Reader: what makes it. The document's Unpack and Same of chapter 9. Are two rows of bytes the same? Bytes as strings. The contract of the document's Same, of bytes as strings. What the laws of chapter 9 ask of the program's Pack and Unpack; the example; HuffPacks, HuffUnpacks, HuffBack. What the laws of chapter 9 ask of the program's coder. The program's coder: New, Len, Put, Get. -/
import Derived.Test.YtjpmabdnaooglaaB01
import Derived.Test.YtjpmabdnaooglaaB02
import Derived.Test.YtjpmabdnaooglaaB03
import Derived.Deep.RegionLaw
import Derived.BigQuiet
import Derived.StillTailTactics
namespace Go.Proofs.Ytjpmabdnaooglaa
open Go.RowKit

theorem Bit.val_bit (f : Nat → Bool) : ∀ n j, j < n → (Bit.val f n).testBit (n - 1 - j) = f j
  | n + 1, j, h => by
    rw [Bit.val]
    have hb : (2 * Bit.val f n + (f n).toNat) / 2 = Bit.val f n := by cases f n <;> simp <;> omega
    rcases Nat.lt_or_ge j n with hj | hj
    · rw [show n + 1 - 1 - j = (n - 1 - j) + 1 by omega, Nat.testBit_succ, hb]
      exact Bit.val_bit f n j hj
    · obtain rfl : j = n := by omega
      rw [show j + 1 - 1 - j = 0 by omega, Nat.testBit_zero]
      cases f j <;> simp
/-- The first m bytes of these bits. -/
def Bit.Front (l : List UInt8) (B : List Bool) (m : Nat) : Prop := l.length = m ∧ ∀ t, t < 8 * m → Bit.at_ l t = B.getD t false
theorem Bit.Front.next {l : List UInt8} {B : List Bool} {m : Nat} (h : Bit.Front l B m) : Bit.Front (l ++ [UInt8.ofNat (Bit.val (fun t => B.getD (8 * m + t) false) 8)]) B (m + 1) := by
  obtain ⟨hl, hb⟩ := h
  refine ⟨by simp [hl], fun t ht => ?_⟩
  have hv := Bit.val_lt (fun t => B.getD (8 * m + t) false) 8
  have h2 := Bit.val_bit (fun t => B.getD (8 * m + t) false) 8 (t % 8) (by omega)
  generalize Bit.val (fun t => B.getD (8 * m + t) false) 8 = X at *
  unfold Bit.at_
  rcases Nat.lt_or_ge t (8 * m) with h8 | h8
  · have h1 := hb t h8
    unfold Bit.at_ at h1
    rw [← h1]
    simp only [List.getD_eq_getElem?_getD]
    rw [List.getElem?_append_left (by omega)]
  · have h1 : t / 8 = m := by omega
    simp only [List.getD_eq_getElem?_getD]
    rw [h1, List.getElem?_append_right (by omega), hl, Nat.sub_self]
    simp only [List.getElem?_cons_zero, Option.getD_some]
    rw [UInt8.toNat_ofNat', Nat.mod_eq_of_lt hv]
    rw [show (8 : Nat) - 1 - t % 8 = 7 - t % 8 by omega] at h2
    rw [h2, show 8 * m + t % 8 = t by omega, List.getD_eq_getElem?_getD]
theorem Bit.Front.packs {l : List UInt8} {B : List Bool} {m : Nat} (h : Bit.Front l B m) (hm : m = (B.length + 7) / 8) : Bit.Packs l B := ⟨h.1.trans hm, fun i hi => h.2 i (by rw [← h.1]; exact hi)⟩

set_option maxHeartbeats 2000000 in
theorem refBytes_any {w : World} {base g : Nat} {ob : Option Nat} {B : List Bool} (h : RefW w base g ob (B.map bit8)) (hB : B.length ≤ 900000000) :
    Calls Try.prog 38 #[.pointer (some ⟨g, 0, none⟩)] w fun e w' => ∃ l, Bit.Packs l B ∧ MadeB w l e w' := by
  obtain ⟨v, hW, hO, hne, hb, rfl⟩ := h
  obtain ⟨A, c, rfl, hc, _, hbb⟩ := hO.form
  have hLn := hide (show (B.map bit8).length = B.length by simp)
  rw [hLn.out] at hW hbb hc
  have HW := hide hW
  have HBB := hide hbb
  clear hbb hO hne
  go_enter Try.func38, Try.ntmps38
  go_wp2
  go_loopw [3, 4, 5, 6] (fun o i _ _ wr => ∃ (m : Nat) (l : List UInt8), m ≤ (B.length + 7) / 8 ∧ i = .int .i64 ((8 * m : Nat) : Int) ∧ OwnB wr w.heap.size o l ∧ Bit.Front l B m ∧ Ext w wr) (fun _ i _ _ _ => B.length + 8 - (intOf i).toNat)
  case atStart => exact ⟨0, [], by omega, rfl, OwnB.nil _ _, ⟨rfl, fun t ht => by omega⟩, Ext.refl _⟩
  case round =>
    obtain ⟨m, l, hm, rfl, hOl, hF, hE⟩ := hrel
    have d0 : wr.cell? ⟨g, 0, none⟩ = some (.slice A B.length c) := (HW.out.ext hE).at 0 rfl
    have HF := hide hF
    by_cases hlt : 8 * m < B.length
    · have HC := hide ((hE.bytes HBB.out).2)
      go_wp2
      go_loop [5, 6] (fun x k => ∃ d : Nat, d ≤ 8 ∧ x = .int .i64 (Bit.val (fun t => B.getD (8 * m + t) false) d : Nat) ∧ k = .int .i64 ((8 * m + d : Nat) : Int)) (fun _ k => 8 * m + 8 - (intOf k).toNat)
      case atStart => exact ⟨0, by omega, rfl, by simp⟩
      case round =>
        obtain ⟨d, hd, rfl, rfl⟩ := hrel
        by_cases hd8 : d < 8
        · have hv := Bit.val_lt (fun t => B.getD (8 * m + t) false) d
          have hv8 : Bit.val (fun t => B.getD (8 * m + t) false) d < 256 := Nat.lt_of_lt_of_le hv (show 2 ^ d ≤ 2 ^ 8 from Nat.pow_le_pow_right (by omega) (by omega))
          have HV := hide (show Bit.val (fun t => B.getD (8 * m + t) false) (d + 1) = 2 * Bit.val (fun t => B.getD (8 * m + t) false) d + (B.getD (8 * m + d) false).toNat from rfl)
          clear hv
          generalize Bit.val (fun t => B.getD (8 * m + t) false) d = X at *
          by_cases hk : 8 * m + d < B.length
          · have hcell := HC.out
            rcases hcell with h0 | ⟨b, off, rfl, hbl, hcell⟩
            · omega
            have hc1 := hcell (8 * m + d) hk
            have hget : (B.map bit8).getD (8 * m + d) 0 = bit8 (B.getD (8 * m + d) false) := by simp [List.getD_eq_getElem?_getD, hk]
            rw [hget, bit8_int] at hc1
            clear hcell hget
            generalize B.getD (8 * m + d) false = bt at *
            have hbt : bt.toNat ≤ 1 := by cases bt <;> simp
            go_wp2
            go_round
            case rel => exact ⟨d + 1, by omega, by rw [HV.out]; go_num, by go_num⟩
            case measure => simp [intOf]; omega
          · have hfar := Bit.getD_far B (8 * m + d) (by omega)
            rw [hfar] at HV
            go_wp2
            go_round
            case rel => exact ⟨d + 1, by omega, by rw [HV.out]; simp, by go_num⟩
            case measure => simp [intOf]; omega
        · obtain rfl : d = 8 := by omega
          have HN := hide (HF.out.next)
          have hv := Bit.val_lt (fun t => B.getD (8 * m + t) false) 8
          generalize Bit.val (fun t => B.getD (8 * m + t) false) 8 = X at *
          obtain ⟨bt, rfl⟩ : ∃ bt : UInt8, X = bt.toNat := ⟨UInt8.ofNat X, by rw [UInt8.toNat_ofNat']; omega⟩
          rw [UInt8.ofNat_toNat] at HN
          have hbt := bt.toNat_lt
          have hl := HF.out.1
          have hfit : l.length + 1 ≤ 140737488355328 := by omega
          have hb1 := bytesNew wr [bt] #[.int .u8 (bt.toNat : Int)] 5 (0, 0) rfl 1 rfl
          have hO1 := hOl.ext (extNew wr (.cells #[.int .u8 (bt.toNat : Int)] 5))
          have hE1 := hE.trans (extNew wr (.cells #[.int .u8 (bt.toNat : Int)] 5))
          have hB1 := hE1.le
          clear hl hF
          go_wp2_with (at_builtin; refine wpList_appAt rfl (.tmp 42) (.tmp 45) rfl rfl hO1 rfl hb1 hfit hB1 ?_; intro v2 w2 hO2 hG2 hN2)
          go_roundw
          case rel => exact ⟨m + 1, _, by omega, by go_num, hO2, HN.out, hO1.below hE1 hG2 hB1⟩
          case measure => simp [intOf]; omega
    · have hP := hide (HF.out.packs (by omega))
      go_wp2
      go_ret
      exact ⟨l, hP.out, _, rfl, hOl, hE⟩
end Go.Proofs.Ytjpmabdnaooglaa

namespace Go.Proofs.Ytjpmabdnaooglaa
open Go.RowKit

theorem newReader_any (A : Option Addr) (n c : Nat) (l : List UInt8) (w : World) (hc : n ≤ c) (hn : n ≤ 1000000) (hb : Bytes w w.heap.size A n l) :
    Calls Try.prog 20 #[.slice A n c] w fun e w' => ∃ g, e = .returned (.pointer (some ⟨g, 0, none⟩)) ∧ Rdr w' w.heap.size g l 0 ∧ Ext w w' := by
  have hll := hb.1
  subst hll
  go_enter Try.func20, Try.ntmps20
  go_wp2_with (go_at_call 41; refine (rowOf_any A _ c l _ hc (by omega) hb).mono ?_; rintro e w2 ⟨A2, c2, rfl, hb2, hE2⟩)
  go_ret
  refine ⟨w2.heap.size, rfl, ⟨A2, c2, ?_, hb2.below (belowNew w2 _) (Nat.le_refl _), by omega, by omega, hE2.le⟩, hE2.alloc _⟩
  rw [← show (8 : Int) * (l.length : Int) = ((8 * l.length : Nat) : Int) by omega]
  exact Whole.new w2 _ _

/-- A new writer. -/
theorem Wrt.new (w : World) : Wrt (w.alloc (.cells #[.slice none 0 0, .int .i64 0] 62)) w.heap.size w.heap.size none [] :=
  ⟨.slice none 0 0, [], ⟨Whole.new w _ _, OwnB.nil _ _, by simp [Value.ownBlock], Nat.le_refl _⟩, Bit.Packs.nil, rfl⟩

theorem Bit.packs_alive : Bit.Packs [164] [true, false, true, false, false, true] := by
  refine ⟨by decide, fun i hi => ?_⟩
  simp only [List.length_singleton] at hi
  rcases (by omega : i = 0 ∨ i = 1 ∨ i = 2 ∨ i = 3 ∨ i = 4 ∨ i = 5 ∨ i = 6 ∨ i = 7) with rfl | rfl | rfl | rfl | rfl | rfl | rfl | rfl <;> decide

end Go.Proofs.Ytjpmabdnaooglaa

namespace Go.Proofs.Ytjpmabdnaooglaa
open Go.RowKit

theorem RefW.new (w : World) : RefW (w.alloc (.cells #[.slice none 0 0] 78)) w.heap.size w.heap.size none [] :=
  ⟨.slice none 0 0, Whole.new w _ _, OwnB.nil _ _, by simp [Value.ownBlock], Nat.le_refl _, rfl⟩

/-- A writer of the program and one of the document: neither lies in the other. -/
def Both (w : World) (base g1 g2 : Nat) (ob1 ob2 : Option Nat) (B : List Bool) (R : List UInt8) : Prop :=
  Wrt w base g1 ob1 B ∧ RefW w base g2 ob2 R ∧ g1 ≠ g2 ∧ ob1 ≠ some g2 ∧ ob2 ≠ some g1 ∧ (ob1 = none ∨ ob1 ≠ ob2)
theorem NewOb.apart {w : World} {ob ob' o2 : Option Nat} (h : NewOb w ob ob') (h2 : ∀ k, o2 = some k → k < w.heap.size) (hn : ob = none ∨ ob ≠ o2) : ob' = none ∨ ob' ≠ o2 := by
  rcases h with rfl | ⟨n, rfl, hn'⟩
  · exact hn
  · right
    intro e
    have := h2 n e.symm
    omega
theorem ob_symm {a b : Option Nat} (h : a = none ∨ a ≠ b) : b = none ∨ b ≠ a := by
  rcases h with rfl | h
  · cases b <;> simp
  · exact .inr (fun e => h e.symm)
theorem Both.first {w w' : World} {base g1 g2 : Nat} {ob1 ob2 : Option Nat} {B B' : List Bool} {R : List UInt8} {err : Int} {e : Ending} (h : Both w base g1 g2 ob1 ob2 B R) (hp : Puts w base g1 ob1 B' err e w') :
    e = .returned (.int .i64 err) ∧ ∃ ob1', Both w' base g1 g2 ob1' ob2 B' R ∧ Below base w w' := by
  obtain ⟨hW, hR, hg, h12, h21, hob⟩ := h
  obtain ⟨he, ob1', hW', hN, hM⟩ := hp
  refine ⟨he, ob1', ⟨hW', hR.kept hM (Ne.symm hg) h12 h21 (ob_symm hob), hg, hN.ne hR.lt h12, h21, hN.apart (fun k hk => (hR.own k hk).2) hob⟩, hM.below hW.bound hW.le (fun k hk => (hW.ob k hk).1)⟩
theorem Both.second {w w' : World} {base g1 g2 : Nat} {ob1 ob2 : Option Nat} {B : List Bool} {R R' : List UInt8} {err : Int} {e : Ending} (h : Both w base g1 g2 ob1 ob2 B R) (hp : RefPuts w base g2 ob2 R' err e w') :
    e = .returned (.int .i64 err) ∧ ∃ ob2', Both w' base g1 g2 ob1 ob2' B R' ∧ Below base w w' := by
  obtain ⟨hW, hR, hg, h12, h21, hob⟩ := h
  obtain ⟨he, ob2', hR', hN, hM⟩ := hp
  refine ⟨he, ob2', ⟨hW.kept hM hg h21 h12 hob, hR', hg, h12, hN.ne hW.lt h21, ob_symm (hN.apart (fun k hk => (hW.ob k hk).2) (ob_symm hob))⟩, hM.below hW.bound hR.le (fun k hk => (hR.own k hk).1)⟩
theorem Both.start (w1 : World) {b : Nat} (hb : b ≤ w1.heap.size) :
    Both ((w1.alloc (.cells #[.slice none 0 0, .int .i64 0] 62)).alloc (.cells #[.slice none 0 0] 78)) b w1.heap.size (w1.heap.size + 1) none none [] [] := by
  have hz1 : (w1.alloc (.cells #[.slice none 0 0, .int .i64 0] 62)).heap.size = w1.heap.size + 1 := by simp
  have h1 := (Wrt.new w1).ext (extNew _ (.cells #[.slice none 0 0] 78))
  have h2 := RefW.new (w1.alloc (.cells #[.slice none 0 0, .int .i64 0] 62))
  rw [hz1] at h2
  obtain ⟨v1, l1, ⟨a1, a2, a3, a4⟩, a5, a6⟩ := h1
  obtain ⟨v2, b1, b2, b3, b4, b5⟩ := h2
  exact ⟨⟨v1, l1, ⟨a1, a2.mono hb, a3, hb⟩, a5, a6⟩, ⟨v2, b1, b2.mono (Nat.le_succ_of_le hb), b3, Nat.le_succ_of_le hb, b5⟩, by omega, by simp, by simp, .inl rfl⟩
theorem below_drewN {B : Nat} {a b : World} (h : Below B a b) (n : Nat) : Below B a (b.drewN n) := ⟨h.os, h.tape, h.output, h.size, h.block⟩
theorem map_app (B C : List Bool) : B.map bit8 ++ C.map bit8 = (B ++ C).map bit8 := by rw [List.map_append]

theorem Wrt.lenQ {w : World} {base g : Nat} {ob : Option Nat} {B : List Bool} (h : Wrt w base g ob B) (m : Nat) :
    Calls Try.prog 32 #[.pointer (some ⟨g, 0, none⟩)] (w.drewN m) fun e w' => e = .returned (.int .i64 (B.length : Nat)) ∧ ∃ n, w' = w.drewN n :=
  Calls.quiet_of ((wlen_any (h.ext ((Ext.refl w).drewN m))).mono fun _ _ ⟨he, hw⟩ => ⟨he, 0, hw.symm⟩)
theorem RefW.cellLen {w : World} {base g : Nat} {ob : Option Nat} {B : List Bool} (h : RefW w base g ob (B.map bit8)) : ∃ A c, w.cell? ⟨g, 0, none⟩ = some (.slice A B.length c) := by
  obtain ⟨v, hW, hO, _⟩ := h
  obtain ⟨A, c, rfl, _⟩ := hO.form
  refine ⟨A, c, ?_⟩
  have := hW.at 0 rfl
  rwa [show (B.map bit8).length = B.length by simp] at this
theorem Both.drew {w : World} {base g1 g2 : Nat} {ob1 ob2 : Option Nat} {B : List Bool} {R : List UInt8} (h : Both w base g1 g2 ob1 ob2 B R) : Both w.drew base g1 g2 ob1 ob2 B R := h
theorem Both.drewN {w : World} {base g1 g2 : Nat} {ob1 ob2 : Option Nat} {B : List Bool} {R : List UInt8} (h : Both w base g1 g2 ob1 ob2 B R) (m : Nat) : Both (w.drewN m) base g1 g2 ob1 ob2 B R := h
end Go.Proofs.Ytjpmabdnaooglaa

namespace Go.Proofs.Ytjpmabdnaooglaa
open Go.RowKit Len Can Huf

theorem IntsAt.mono {w : World} {B C : Nat} {A : Option Addr} {n : Nat} {L : List Int} (h : IntsAt w B A n L) (hC : B ≤ C) : IntsAt w C A n L := by
  refine ⟨h.1, ?_⟩
  rcases h.2 with h0 | ⟨b, off, hA, hB, hc⟩
  · exact .inl h0
  · exact .inr ⟨b, off, hA, Nat.lt_of_lt_of_le hB hC, hc⟩
/-- Behind a call that packs: the bytes of bits, and an error, or no bytes. -/
def PackTo (w : World) (r : List Bool × Int) (e : Ending) (w' : World) : Prop :=
  ∃ v l, e = .returned (.tuple #[v, .int .i64 r.2]) ∧ OwnB w' w.heap.size v l ∧ (r.2 = 0 → Bit.Packs l r.1) ∧ (r.2 ≠ 0 → l = []) ∧ Ext w w'
theorem Huf.take_next {L : List Int} {i : Nat} (h : i < L.length) : L.take (i + 1) = L.take i ++ [L.getD i 0] := by
  rw [List.take_add_one, List.getD_eq_getElem?_getD, List.getElem?_eq_getElem h]
  rfl
theorem Huf.putB_le {l : List UInt8} {s : Int} (hr : right l = true) (h : fine l s = true) : (putB l s).length ≤ 15 := by
  obtain ⟨h0, h1, h2⟩ := of_decide_eq_true h
  unfold putB
  rw [Bit.num_length]
  exact (right_facts hr).2.1 _ (by omega)
theorem Huf.all_fine {l : List UInt8} {L : List Int} (h : ∀ i, i < L.length → fine l (L.getD i 0) = true) : L.all (fine l) = true := by
  rw [List.all_eq_true]
  intro x hx
  obtain ⟨i, hi, rfl⟩ := List.mem_iff_getElem.1 hx
  have := h i hi
  rwa [List.getD_eq_getElem?_getD, List.getElem?_eq_getElem hi] at this
theorem Huf.not_fine {l : List UInt8} {L : List Int} {i : Nat} (hi : i < L.length) (h : fine l (L.getD i 0) = false) : L.all (fine l) = false := by
  cases h2 : L.all (fine l) with
  | false => rfl
  | true =>
    rw [List.all_eq_true] at h2
    have := h2 (L.getD i 0) (by rw [List.getD_eq_getElem?_getD, List.getElem?_eq_getElem hi]; exact List.getElem_mem hi)
    rw [h] at this
    cases this

set_option maxHeartbeats 2000000 in
set_option maxRecDepth 100000 in
theorem refPack9_any (A A2 : Option Addr) (n c c2 : Nat) (l : List UInt8) (L : List Int) (w : World) (h : Bytes w w.heap.size A n l) (hL : IntsAt w w.heap.size A2 L.length L) (hL3 : L.length ≤ 100000) :
    Calls Try.prog 15 #[.slice A n c, .slice A2 L.length c2] w (PackTo w (packE l L)) := by
  have C1 := refNew9_any A n c l w h
  unfold RefNew at C1
  cases hr : right l with
  | false =>
    have HN := hide (show packE l L = ([], 7) by unfold packE; rw [hr]; rfl)
    have HR := hide hr
    rw [check_wrong hr] at C1
    generalize packE l L = res at *
    clear hr h hL
    go_enter Try.func15, Try.ntmps15
    go_wp2_with fail
    refine C1.mono ?_
    rintro e w2 ⟨v, rfl, _, hv, hE2⟩
    obtain rfl := hv HR.out
    go_wp2
    go_ret2
    rw [HN.out]
    exact ⟨_, [], rfl, OwnB.nil _ _, fun h => absurd h (by simp), fun _ => rfl, hE2.alloc _⟩
  | true =>
    rw [check_right hr] at C1
    have HR := hide hr
    have HOk := hide (show L.all (fine l) = true → packE l L = (bitsOf l L, 0) from fun h => by unfold packE; rw [if_pos hr, if_pos h])
    have HBad := hide (show L.all (fine l) = false → packE l L = ([], 13) from fun h => by unfold packE; rw [if_pos hr, h]; rfl)
    generalize packE l L = res at *
    have HLi := hide hL
    clear hr h hL
    go_enter Try.func15, Try.ntmps15
    go_wp2_with fail
    refine C1.mono ?_
    rintro e w2 ⟨v, rfl, hv, _, hE2⟩
    have hv := hv HR.out
    obtain ⟨B1, d1, B2, d2, rfl, hd1, hd1m, hb1, hb2⟩ := hv
    have HCod := hide (show RefCod w2 w2.heap.size (.agg #[.slice B1 l.length d1, .slice B2 l.length d2]) l from ⟨B1, d1, B2, d2, rfl, hd1, hd1m, hb1, hb2⟩)
    clear hb1 hb2 hv C1
    go_wp2_with fail
    have hES := hE2.alloc (.cells #[.slice B1 l.length d1, .slice B2 l.length d2] 30)
    have hWS := Whole.new w2 30 #[.slice B1 l.length d1, .slice B2 l.length d2]
    have hCS := HCod.out.ext (extNew w2 (.cells #[.slice B1 l.length d1, .slice B2 l.length d2] 30))
    have hLS := HLi.out.later hES
    have hR := RefW.new (w2.alloc (.cells #[.slice B1 l.length d1, .slice B2 l.length d2] 30))
    have hB0 := extNew (w2.alloc (.cells #[.slice B1 l.length d1, .slice B2 l.length d2] 30)) (.cells #[.slice none 0 0] 78)
    have hszS : (w2.alloc (.cells #[.slice B1 l.length d1, .slice B2 l.length d2] 30)).heap.size = w2.heap.size + 1 := by simp
    rw [hszS] at hR hCS hLS
    unfold Ext at hB0
    rw [hszS] at hB0
    have hlt2 : w2.heap.size < w2.heap.size + 1 := by omega
    have hle2 := hE2.le
    have HszS := hide hszS
    clear HCod HLi hE2 hszS
    generalize w2.heap.size = k6 at *
    generalize w2.alloc (.cells #[.slice B1 l.length d1, .slice B2 l.length d2] 30) = wS at *
    have HWS := hide hWS
    have HCS := hide hCS
    have HLS := hide hLS
    clear hWS hCS hLS
    go_loopw [9] (fun x wr => ∃ (i : Nat) (ob : Option Nat), i ≤ L.length ∧ x = .int .i64 (i : Int) ∧ (∀ j, j < i → fine l (L.getD j 0) = true) ∧ (bitsOf l (L.take i)).length ≤ 15 * i ∧ RefW wr (k6 + 1) (k6 + 1) ob ((bitsOf l (L.take i)).map bit8) ∧ Below (k6 + 1) wS wr) (fun x _ => L.length - (intOf x).toNat)
    case atStart => exact ⟨0, none, by omega, rfl, fun j hj => absurd hj (by omega), by simp [bitsOf], hR, hB0⟩
    case round =>
      clear hR hB0
      obtain ⟨i, ob, hi, rfl, hall, hlen, hR, hE⟩ := hrel
      have HAll := hide hall
      have hWr : Whole wr k6 30 #[.slice B1 l.length d1, .slice B2 l.length d2] := HWS.out.below hE (by omega)
      have e0 : wr.cell? ⟨k6, 0, none⟩ = some (.slice B1 l.length d1) := hWr.at 0 rfl
      have e1 : wr.cell? ⟨k6, 1, none⟩ = some (.slice B2 l.length d2) := hWr.at 1 rfl
      have hCr := HCS.out.below hE (Nat.le_refl _)
      clear hall hWr
      by_cases hlt : i < L.length
      · have hiI : (i : Int) < (L.length : Int) := by omega
        rcases (HLS.out.below hE (Nat.le_refl _)).2 with hn | ⟨b, o, rfl, hb, hc⟩
        · omega
        have e2 := hc i hlt
        have CP := fun W (hv : RefCod W (k6 + 1) (.agg #[.slice B1 l.length d1, .slice B2 l.length d2]) l) (hW : RefW W (k6 + 1) (k6 + 1) ob ((bitsOf l (L.take i)).map bit8)) => refPut9_any hv HR.out hW (L.getD i 0) (by omega)
        have HNot := hide (show fine l (L.getD i 0) = false → L.all (fine l) = false from fun h => not_fine hlt h)
        have HTk := hide (show L.take (i + 1) = L.take i ++ [L.getD i 0] from take_next hlt)
        have HGet := hide (show ∀ s, s = L.getD i 0 → fine l s = true → fine l (L.getD i 0) = true from fun s e h => e ▸ h)
        obtain ⟨s, hs⟩ : ∃ s, s = L.getD i 0 := ⟨_, rfl⟩
        rw [← hs] at e2 CP HNot HTk
        have HS := hide hs
        clear hc hs HGet
        have HCr := hide hCr
        have HRr := hide hR
        clear hCr hR
        go_wp2_with fail
        go_still_tail 5, (by kernel_rfl)
        change wpList _ _ _ _ _ (World.drew _)
        go_wp2_with fail
        refine (CP _ (HCr.out.below ((Below.refl _ wr).drew) (Nat.le_refl _)) (HRr.out.ext (Ext.refl wr).drew)).mono ?_
        rintro e w4 ⟨rfl, ob4, hR4, hN4, hM4⟩
        have hob := HRr.out.own
        have hbd := HRr.out.lt
        have hE4 : Below (k6 + 1) wS w4 := Below.trans (Below.drew hE) (hM4.below (by show k6 + 1 ≤ wr.heap.size; omega) (Nat.le_refl _) (fun k hk => (hob k hk).1))
        clear CP HCr
        cases hf : fine l s with
        | false =>
          have HB := hide (HBad.out (HNot.out hf))
          rw [Huf.put_bad hf]
          clear hf
          go_wp2
          go_ret2
          rw [HB.out]
          exact ⟨_, [], rfl, OwnB.nil _ _, fun h => absurd h (by simp), fun _ => rfl, Below.trans hES (Below.mono hE4 (by omega))⟩
        | true =>
          have hpl := putB_le HR.out hf
          rw [Huf.put_fine hf]
          unfold putX at hR4
          rw [if_pos hf, ← bitsOf_snoc, ← HTk.out] at hR4
          have HR4 := hide hR4
          have hl2 : (bitsOf l (L.take (i + 1))).length ≤ 15 * (i + 1) := by rw [HTk.out, bitsOf_snoc, List.length_append]; omega
          have HF := hide hf
          have HL2 := hide hl2
          clear hpl hf hR4 hl2
          go_wp2
          go_roundw
          case rel => exact ⟨i + 1, ob4, by omega, by go_num, fun j hj => (by
            by_cases e : j = i
            · rw [e, ← HS.out]; exact HF.out
            · exact HAll.out j (by omega)), HL2.out, HR4.out, hE4⟩
          case measure => simp [intOf]; omega
      · obtain rfl : L.length = i := by omega
        have HRes := hide (HOk.out (all_fine HAll.out))
        rw [List.take_length] at hR hlen
        have CB := refBytes_any hR (by omega)
        have hle := hR.lt
        have hEw : Ext w wr := Below.trans hES (Below.mono hE (by omega))
        clear hR hCr
        go_wp2_with fail
        refine CB.mono ?_
        rintro e w4 ⟨bs, hbs, v, rfl, hO, hE4⟩
        go_wp2
        go_ret2
        rw [HRes.out]
        exact ⟨_, bs, rfl, hO.mono hEw.le, fun _ => hbs, fun h => absurd rfl h, hEw.trans hE4⟩
end Go.Proofs.Ytjpmabdnaooglaa

namespace Go.Proofs.Ytjpmabdnaooglaa.Can
open Len

/-- The symbols without a length that stand ahead, f at most. -/
def zrun : Nat → List UInt8 → Nat
  | 0, _ => 0
  | _ + 1, [] => 0
  | f + 1, x :: r => if x = 0 then zrun f r + 1 else 0
theorem zrun_le : ∀ (f : Nat) (r : List UInt8), zrun f r ≤ f ∧ zrun f r ≤ r.length
  | 0, _ => by simp [zrun]
  | _ + 1, [] => by simp [zrun]
  | f + 1, x :: r => by
    have := zrun_le f r
    rw [zrun]
    split
    · simp; omega
    · simp
theorem zrun_zero : ∀ (f : Nat) (r : List UInt8), r.take (zrun f r) = List.replicate (zrun f r) 0
  | 0, _ => by simp [zrun]
  | _ + 1, [] => by simp [zrun]
  | f + 1, x :: r => by
    rw [zrun]
    split
    · rename_i h
      rw [List.take_succ_cons, zrun_zero f r, h, List.replicate_succ]
    · simp
theorem zrun_stop : ∀ (f : Nat) (r : List UInt8), zrun f r < f → ∀ y, (r.drop (zrun f r)).head? = some y → y ≠ 0
  | 0, _, h => by simp [zrun] at h
  | _ + 1, [], _ => by simp [zrun]
  | f + 1, x :: r, h => by
    rw [zrun] at h ⊢
    split at h
    · rename_i h0
      rw [if_pos h0, List.drop_succ_cons]
      exact zrun_stop f r (by omega)
    · rename_i h0
      rw [if_neg h0]
      intro y hy
      simp at hy
      rw [← hy]
      exact h0
/-- The bits of lengths. -/
def wbits : List UInt8 → List Bool
  | [] => []
  | x :: r => if x = 0 then Bit.num 0 4 ++ (Bit.num (zrun 63 r) 6 ++ wbits (r.drop (zrun 63 r))) else Bit.num x.toNat 4 ++ wbits r
termination_by l => l.length
decreasing_by all_goals (simp; try omega)
theorem wbits_nil : wbits [] = [] := by rw [wbits]
theorem wbits_used {x : UInt8} (r : List UInt8) (h : x ≠ 0) : wbits (x :: r) = Bit.num x.toNat 4 ++ wbits r := by rw [wbits, if_neg h]
theorem wbits_zero (r : List UInt8) : wbits (0 :: r) = Bit.num 0 4 ++ (Bit.num (zrun 63 r) 6 ++ wbits (r.drop (zrun 63 r))) := by rw [wbits, if_pos rfl]
theorem wbits_len : ∀ l : List UInt8, (wbits l).length ≤ 10 * l.length
  | [] => by rw [wbits_nil]; simp
  | x :: r => by
    by_cases h : x = 0
    · subst h
      have := wbits_len (r.drop (zrun 63 r))
      rw [wbits_zero, List.length_append, List.length_append, Bit.num_length, Bit.num_length]
      rw [List.length_drop] at this
      simp only [List.length_cons]
      omega
    · have := wbits_len r
      rw [wbits_used r h, List.length_append, Bit.num_length]
      simp only [List.length_cons]
      omega
termination_by l => l.length
decreasing_by all_goals (simp; try omega)
/-- What reading makes of the bits from q on: the lengths, the error, the place; out: those that are there. -/
def readR (b : List UInt8) (n q ah : Nat) (out : List UInt8) : List UInt8 × Int × Nat :=
  if out.length < n then
    if Bit.getErr (8 * b.length - q) 4 = 0 then
      if Bit.getNum b q 4 = 0 then
        if Bit.getErr (8 * b.length - (q + 4)) 6 = 0 then
          if ah < 64 ∨ n < out.length + Bit.getNum b (q + 4) 6 + 1 then ([], 7, q + 10)
          else readR b n (q + 10) (Bit.getNum b (q + 4) 6 + 1) (out ++ List.replicate (Bit.getNum b (q + 4) 6 + 1) 0)
        else ([], 1, q + 4)
      else readR b n (q + 4) 64 (out ++ [UInt8.ofNat (Bit.getNum b q 4)])
    else ([], 1, q)
  else if right out then (out, 0, q) else ([], 7, q)
termination_by n - out.length
decreasing_by all_goals (simp; try omega)
def readE (b : List UInt8) (n : Int) (q : Nat) : List UInt8 × Int × Nat := if n < 0 ∨ 300 < n then ([], 13, q) else readR b n.toNat q 64 []
section
variable {b : List UInt8} {n q ah : Nat} {out : List UInt8}
theorem readR_end (h : ¬ out.length < n) : readR b n q ah out = if right out then (out, 0, q) else ([], 7, q) := by rw [readR, if_neg h]
theorem readR_short (h : out.length < n) (h4 : Bit.getErr (8 * b.length - q) 4 ≠ 0) : readR b n q ah out = ([], 1, q) := by rw [readR, if_pos h, if_neg h4]
theorem readR_used (h : out.length < n) (h4 : Bit.getErr (8 * b.length - q) 4 = 0) (h0 : Bit.getNum b q 4 ≠ 0) : readR b n q ah out = readR b n (q + 4) 64 (out ++ [UInt8.ofNat (Bit.getNum b q 4)]) := by rw [readR, if_pos h, if_pos h4, if_neg h0]
theorem readR_short6 (h : out.length < n) (h4 : Bit.getErr (8 * b.length - q) 4 = 0) (h0 : Bit.getNum b q 4 = 0) (h6 : Bit.getErr (8 * b.length - (q + 4)) 6 ≠ 0) : readR b n q ah out = ([], 1, q + 4) := by rw [readR, if_pos h, if_pos h4, if_pos h0, if_neg h6]
theorem readR_bad (h : out.length < n) (h4 : Bit.getErr (8 * b.length - q) 4 = 0) (h0 : Bit.getNum b q 4 = 0) (h6 : Bit.getErr (8 * b.length - (q + 4)) 6 = 0) (hb : ah < 64 ∨ n < out.length + Bit.getNum b (q + 4) 6 + 1) : readR b n q ah out = ([], 7, q + 10) := by
  rw [readR, if_pos h, if_pos h4, if_pos h0, if_pos h6, if_pos hb]
theorem readR_run (h : out.length < n) (h4 : Bit.getErr (8 * b.length - q) 4 = 0) (h0 : Bit.getNum b q 4 = 0) (h6 : Bit.getErr (8 * b.length - (q + 4)) 6 = 0) (hb : ¬ (ah < 64 ∨ n < out.length + Bit.getNum b (q + 4) 6 + 1)) :
    readR b n q ah out = readR b n (q + 10) (Bit.getNum b (q + 4) 6 + 1) (out ++ List.replicate (Bit.getNum b (q + 4) 6 + 1) 0) := by
  rw [readR, if_pos h, if_pos h4, if_pos h0, if_pos h6, if_neg hb]
end
/-- What was written is read. -/
theorem read_back {l b : List UInt8} (hr : right l = true) : ∀ (suf pre : List UInt8) (P Q : List Bool) (ah : Nat), l = pre ++ suf → Bit.Packs b (P ++ wbits suf ++ Q) → (64 ≤ ah ∨ ∀ y, suf.head? = some y → y ≠ 0) →
    readR b l.length P.length ah pre = (l, 0, P.length + (wbits suf).length)
  | [], pre, P, Q, ah, e, _, _ => by
    rw [List.append_nil] at e
    subst e
    rw [readR_end (by omega), if_pos hr, wbits_nil]
    rfl
  | x :: r, pre, P, Q, ah, e, hP, ha => by
    have hl : pre.length < l.length := by rw [e]; simp
    have hx15 : x.toNat ≤ 15 := by
      have h := (right_facts hr).2.1 pre.length hl
      unfold lenAt at h
      rw [e, List.getD_eq_getElem?_getD, List.getElem?_append_right (Nat.le_refl _), Nat.sub_self] at h
      exact h
    by_cases hx : x = 0
    · subst hx
      rw [wbits_zero] at hP ⊢
      have hz := zrun_le 63 r
      have h4 := Bit.get_back (x := 0) (k := 4) (P := P) (Q := Bit.num (zrun 63 r) 6 ++ wbits (r.drop (zrun 63 r)) ++ Q) (by simpa [List.append_assoc] using hP) (by omega) (by decide)
      have h6 := Bit.get_back (x := zrun 63 r) (k := 6) (P := P ++ Bit.num 0 4) (Q := wbits (r.drop (zrun 63 r)) ++ Q) (by simpa [List.append_assoc] using hP) (by omega) (by omega)
      rw [List.length_append, Bit.num_length] at h6
      have a1 : Bit.getErr (8 * b.length - P.length) 4 = 0 := h4.1
      have a2 : Bit.getNum b P.length 4 = 0 := h4.2.1
      have a3 : Bit.getErr (8 * b.length - (P.length + 4)) 6 = 0 := h6.1
      have a4 : Bit.getNum b (P.length + 4) 6 = zrun 63 r := h6.2.1
      have ha2 : 64 ≤ ah := by
        rcases ha with h | h
        · exact h
        · exact absurd rfl (h 0 rfl)
      have hll : l.length = pre.length + 1 + r.length := by rw [e]; simp; omega
      rw [readR_run hl a1 a2 a3 (by rw [a4]; omega), a4]
      have e2 : l = (pre ++ List.replicate (zrun 63 r + 1) 0) ++ r.drop (zrun 63 r) := by
        rw [e, List.replicate_succ, ← zrun_zero 63 r]
        simp
      have IH := read_back hr (r.drop (zrun 63 r)) (pre ++ List.replicate (zrun 63 r + 1) 0) (P ++ Bit.num 0 4 ++ Bit.num (zrun 63 r) 6) Q (zrun 63 r + 1) e2 (by simpa [List.append_assoc] using hP) (by
        by_cases h : zrun 63 r < 63
        · exact .inr (zrun_stop 63 r h)
        · exact .inl (by omega))
      rw [List.length_append, List.length_append, Bit.num_length, Bit.num_length] at IH
      rw [show P.length + 10 = P.length + 4 + 6 by omega, IH]
      simp only [List.length_append, Bit.num_length]
      congr 2
      omega
    · rw [wbits_used r hx] at hP ⊢
      have h4 := Bit.get_back (x := x.toNat) (k := 4) (P := P) (Q := wbits r ++ Q) (by simpa [List.append_assoc] using hP) (by omega) (by omega)
      have a1 : Bit.getErr (8 * b.length - P.length) 4 = 0 := h4.1
      have a2 : Bit.getNum b P.length 4 = x.toNat := h4.2.1
      have hx0 : x.toNat ≠ 0 := fun h => hx (UInt8.toNat_inj.1 h)
      rw [readR_used hl a1 (by rw [a2]; exact hx0), a2, UInt8.ofNat_toNat]
      have IH := read_back hr r (pre ++ [x]) (P ++ Bit.num x.toNat 4) Q 64 (by rw [e]; simp) (by simpa [List.append_assoc] using hP) (.inl (Nat.le_refl _))
      rw [List.length_append, Bit.num_length] at IH
      rw [IH]
      simp only [List.length_append, Bit.num_length]
      congr 2
      omega
termination_by suf => suf.length
decreasing_by all_goals (simp; try omega)
end Go.Proofs.Ytjpmabdnaooglaa.Can

namespace Go.Proofs.Ytjpmabdnaooglaa
open Go.RowKit

/-- The first p bits of these bytes, a byte each. -/
def Bit.spread (l : List UInt8) (p : Nat) : List UInt8 := (List.range p).map fun i => bit8 (Bit.at_ l i)
theorem Bit.spread_len (l : List UInt8) (p : Nat) : (Bit.spread l p).length = p := by simp [Bit.spread]
theorem Bit.spread_get (l : List UInt8) (p i : Nat) (h : i < p) : (Bit.spread l p).getD i 0 = bit8 (Bit.at_ l i) := by simp [Bit.spread, List.getD_eq_getElem?_getD, h]
theorem Bit.spread_succ (l : List UInt8) (p : Nat) : Bit.spread l (p + 1) = Bit.spread l p ++ [bit8 (Bit.at_ l p)] := by simp [Bit.spread, List.range_succ]
/-- Block g is the document's reader of the bytes l, of which q bits are taken. -/
def RefR (w : World) (base g : Nat) (l : List UInt8) (q : Nat) : Prop :=
  ∃ v, Whole w g 86 #[v, .int .i64 (q : Int)] ∧ OwnB w base v (Bit.spread l (8 * l.length)) ∧ v.ownBlock ≠ some g ∧ base ≤ g ∧ q ≤ 8 * l.length ∧ l.length ≤ 1000000
section
variable {w w' : World} {base g q : Nat} {l : List UInt8}
theorem RefR.lt (h : RefR w base g l q) : g < w.heap.size := by obtain ⟨v, h, _⟩ := h; exact h.lt
theorem RefR.le (h : RefR w base g l q) : base ≤ g := by obtain ⟨v, _, _, _, h, _⟩ := h; exact h
theorem RefR.ext (h : RefR w base g l q) (hE : Ext w w') : RefR w' base g l q := by
  obtain ⟨v, hW, hO, r⟩ := h
  exact ⟨v, hW.ext hE, hO.ext hE, r⟩
theorem RefR.kept {g' : Nat} (h : RefR w base g l q) (hM : Mod w w' g' none) (h1 : g ≠ g') (h2 : g' < base) : RefR w' base g l q := by
  obtain ⟨v, hW, hO, hne, hb, r⟩ := h
  exact ⟨v, hM.whole hW h1 (by simp), hM.own hO (fun e => by have := (hO.lt _ e).1; omega) (by cases v.ownBlock <;> simp), hne, hb, r⟩
theorem RefR.moved {q' : Nat} (h : RefR w base g l q) (hq' : q' ≤ 8 * l.length) {x : Int} (hx : x = (q' : Int)) : RefR (w.setCell ⟨g, 1, none⟩ (.int .i64 x)) base g l q' ∧ Mod w (w.setCell ⟨g, 1, none⟩ (.int .i64 x)) g none := by
  obtain ⟨v, hW, hO, hne, hb, _, hl⟩ := h
  subst hx
  exact ⟨⟨v, hW.set 1 _, hO.far hne 1 _, hne, hb, hq', hl⟩, Mod.ofRow (grown_setCell w g 1 _)⟩
/-- What its cells hold. -/
theorem RefR.cells (h : RefR w base g l q) : ∃ A c, w.cell? ⟨g, 0, none⟩ = some (.slice A (8 * l.length) c) ∧ w.cell? ⟨g, 1, none⟩ = some (.int .i64 (q : Int)) ∧ w.frozen? ⟨g, 1, none⟩ = false ∧ q ≤ 8 * l.length ∧ l.length ≤ 1000000 ∧
    Bytes w w.heap.size A (8 * l.length) (Bit.spread l (8 * l.length)) := by
  obtain ⟨v, hW, hO, hne, hb, hq, hl⟩ := h
  obtain ⟨A, c, rfl, _, _, hbb⟩ := hO.form
  rw [Bit.spread_len] at hW hbb
  exact ⟨A, c, hW.at 0 rfl, hW.at 1 rfl, hW.frozen 1, hq, hl, hbb⟩
end
/-- One bit of it, as its cell. -/
theorem spread_cell {w : World} {A : Option Addr} {l : List UInt8} {i : Nat} (hb : Bytes w w.heap.size A (8 * l.length) (Bit.spread l (8 * l.length))) (hi : i < 8 * l.length) :
    ∃ b off, A = some ⟨b, off, none⟩ ∧ b < w.heap.size ∧ w.cell? ⟨b, off + i, none⟩ = some (.int .u8 ((Bit.at_ l i).toNat : Int)) := by
  rcases hb.2 with h0 | ⟨b, off, hA, hB, hc⟩
  · omega
  · refine ⟨b, off, hA, hB, ?_⟩
    rw [hc i hi, Bit.spread_get _ _ _ hi, bit8_int]

theorem refLeft_any {w : World} {base g q : Nat} {l : List UInt8} (h : RefR w base g l q) :
    Calls Try.prog 27 #[.pointer (some ⟨g, 0, none⟩)] w fun e w' => e = .returned (.int .i64 ((8 * l.length - q : Nat) : Int)) ∧ Qt w w' := by
  obtain ⟨A, c, c0, c1, _, hq, hl, _⟩ := h.cells
  go_enter Try.func27, Try.ntmps27
  go_wp2
  go_quiet (fail)
  go_wp2
  go_ret
  exact ⟨ret_i64 (by omega), ⟨_, rfl⟩⟩

/-- What is there of n bits, bits 0 behind it. -/
def Bit.upto (f : Nat → Bool) (left : Nat) : Nat → Bool := fun i => decide (i < left) && f i
theorem Bit.peek_upto (f : Nat → Bool) (left n : Nat) : Bit.val (Bit.upto f left) n = Bit.val f (min n left) * 2 ^ (n - min n left) := by
  have h := Bit.val_shift (Bit.upto f left) (min n left) (n - min n left) (fun i h1 h2 => by unfold Bit.upto; rw [decide_eq_false (by omega)]; rfl)
  rw [show min n left + (n - min n left) = n by omega] at h
  rw [h, Bit.val_congr (g := f) (min n left) (fun i hi => by unfold Bit.upto; rw [decide_eq_true (by omega), Bool.true_and])]

set_option maxHeartbeats 1000000 in
theorem refPeek_any {w : World} {base g q : Nat} {l : List UInt8} (h : RefR w base g l q) (n : Int) :
    Calls Try.prog 44 #[.pointer (some ⟨g, 0, none⟩), .int .i64 n] w fun e w' =>
      e = .returned (.tuple #[.int .u64 ((Bit.peekNum l q n : Nat) : Int), .int .i64 ((Bit.peekThere (8 * l.length - q) n : Nat) : Int)]) ∧ Qt w w' := by
  by_cases hbad : 0 ≤ n ∧ n ≤ 64
  · obtain ⟨h0, h1⟩ := hbad
    obtain ⟨k, rfl⟩ := Int.eq_ofNat_of_zero_le h0
    have hk : k ≤ 64 := by omega
    have HN := hide (show Bit.peekNum l q (k : Int) = Bit.val (Bit.upto (Bit.rest l q) (8 * l.length - q)) k by unfold Bit.peekNum; rw [if_pos ⟨h0, h1⟩, Bit.peek_upto]; simp)
    have HT := hide (show Bit.peekThere (8 * l.length - q) (k : Int) = min k (8 * l.length - q) by unfold Bit.peekThere; rw [if_pos ⟨h0, h1⟩]; simp)
    go_enter Try.func44, Try.ntmps44
    go_wp2
    go_loopw [6, 7, 8] (fun x t i wr => ∃ j : Nat, j ≤ k ∧ x = .int .u64 (Bit.val (Bit.upto (Bit.rest l q) (8 * l.length - q)) j : Nat) ∧ t = .int .i64 ((min j (8 * l.length - q) : Nat) : Int) ∧ i = .int .i64 (j : Int) ∧ Qt w wr) (fun _ _ i _ => k - (intOf i).toNat)
    case atStart => exact ⟨0, by omega, rfl, by simp, rfl, Qt.refl _⟩
    case round =>
      obtain ⟨j, hj, rfl, rfl, rfl, hQ⟩ := hrel
      by_cases hlt : j < k
      · have hv := Bit.val_lt (Bit.upto (Bit.rest l q) (8 * l.length - q)) j
        have hv2 : Bit.val (Bit.upto (Bit.rest l q) (8 * l.length - q)) j < 9223372036854775808 := Nat.lt_of_lt_of_le hv (show 2 ^ j ≤ 2 ^ 63 from Nat.pow_le_pow_right (by omega) (by omega))
        have HV := hide (show Bit.val (Bit.upto (Bit.rest l q) (8 * l.length - q)) (j + 1) = 2 * Bit.val (Bit.upto (Bit.rest l q) (8 * l.length - q)) j + (Bit.upto (Bit.rest l q) (8 * l.length - q) j).toNat from rfl)
        clear hv
        generalize Bit.val (Bit.upto (Bit.rest l q) (8 * l.length - q)) j = X at *
        have hR := h.ext hQ.ext
        by_cases hin : j < 8 * l.length - q
        · have HU := hide (show Bit.upto (Bit.rest l q) (8 * l.length - q) j = Bit.at_ l (q + j) by unfold Bit.upto; rw [decide_eq_true hin, Bool.true_and]; rfl)
          have hm1 : min j (8 * l.length - q) = j := by omega
          have hin' : (j : Int) < ((8 * l.length - q : Nat) : Int) := by omega
          rw [hm1]
          go_wp2_with fail
          refine (refLeft_any hR).mono ?_
          rintro e w2 ⟨rfl, hQ2⟩
          have hR2 := hR.ext hQ2.ext
          obtain ⟨A, c, c0, c1, _, hq, hl, hbb⟩ := hR2.cells
          obtain ⟨b, off, rfl, _, hc⟩ := spread_cell (i := q + j) hbb (by omega)
          have hix : (q : Int) + j < ((8 * l.length : Nat) : Int) := by omega
          have hbt : (Bit.at_ l (q + j)).toNat ≤ 1 := by cases Bit.at_ l (q + j) <;> simp
          generalize Bit.at_ l (q + j) = bt at *
          clear hR hR2 hbb h
          have hLb : ((8 * l.length : Nat) : Int) ≤ 8000000 := by omega
          generalize hLL : 8 * l.length = LL at *
          have HLL := hide hLL
          clear hLL
          have HQ := hide (hQ.trans hQ2)
          clear hQ hQ2 hm1
          go_wp2_with fail
          go_quiet (fail)
          go_wp2
          go_roundw
          case rel => exact ⟨j + 1, by omega, by rw [HLL.out, HV.out, HU.out]; go_num, by rw [HLL.out, show min (j + 1) (LL - q) = j + 1 by omega]; go_num, by go_num, HQ.out.drewN _⟩
          case measure => simp [intOf]; omega
        · have HU := hide (show Bit.upto (Bit.rest l q) (8 * l.length - q) j = false by unfold Bit.upto; rw [decide_eq_false hin]; rfl)
          have hm1 : min j (8 * l.length - q) = 8 * l.length - q := by omega
          have hm2 : min (j + 1) (8 * l.length - q) = 8 * l.length - q := by omega
          have hin' : ¬ ((j : Int) < ((8 * l.length - q : Nat) : Int)) := by omega
          have HM := hide hm2
          rw [hm1]
          go_wp2_with fail
          refine (refLeft_any hR).mono ?_
          rintro e w2 ⟨rfl, hQ2⟩
          clear hm1 hm2 hR h
          generalize hLQ : 8 * l.length - q = LQ at *
          have HLQ := hide hLQ
          clear hLQ
          go_wp2
          go_roundw
          case rel => exact ⟨j + 1, by omega, by rw [HLQ.out, HV.out, HU.out]; go_num, by rw [HLQ.out, HM.out], by go_num, hQ.trans hQ2⟩
          case measure => simp [intOf]; omega
      · obtain rfl : j = k := by omega
        go_wp2
        go_ret2
        exact ⟨ret_nverr (by rw [HN.out]) (by rw [HT.out]), hQ⟩
  · have HN := hide (show Bit.peekNum l q n = 0 by unfold Bit.peekNum; rw [if_neg hbad])
    have HT := hide (show Bit.peekThere (8 * l.length - q) n = 0 by unfold Bit.peekThere; rw [if_neg hbad])
    by_cases h0 : n < 0
    · clear hbad
      go_enter Try.func44, Try.ntmps44
      go_wp2
      go_ret2
      exact ⟨ret_nverr (by rw [HN.out]; rfl) (by rw [HT.out]; rfl), Qt.refl _⟩
    · have h1 : 64 < n := by omega
      clear hbad
      go_enter Try.func44, Try.ntmps44
      go_wp2
      go_ret2
      exact ⟨ret_nverr (by rw [HN.out]; rfl) (by rw [HT.out]; rfl), Qt.refl _⟩
end Go.Proofs.Ytjpmabdnaooglaa

namespace Go.Proofs.Ytjpmabdnaooglaa
open Go.RowKit

theorem Bit.getNum_peek (l : List UInt8) (q k : Nat) (hk : k ≤ 64) (hs : k ≤ 8 * l.length - q) : Bit.getNum l q (k : Int) = Bit.peekNum l q (k : Int) := by
  have h1 : Bit.getErr (8 * l.length - q) (k : Int) = 0 := by unfold Bit.getErr; rw [if_pos ⟨by omega, by omega⟩, if_pos (by omega)]
  unfold Bit.getNum Bit.peekNum
  rw [h1, if_pos rfl, if_pos ⟨by omega, by omega⟩, Int.toNat_natCast, Nat.min_eq_left hs, Nat.sub_self, Nat.pow_zero, Nat.mul_one]

set_option maxHeartbeats 1000000 in
theorem refSkip_any {w : World} {base g q : Nat} {l : List UInt8} (h : RefR w base g l q) (n : Int) :
    Calls Try.prog 23 #[.pointer (some ⟨g, 0, none⟩), .int .i64 n] w fun e w' =>
      e = .returned (.int .i64 (Bit.skipErr (8 * l.length - q) n)) ∧ RefR w' base g l (Bit.skipTo (8 * l.length - q) q n) ∧ Mod w w' g none := by
  by_cases h0 : 0 ≤ n
  · obtain ⟨k, rfl⟩ := Int.eq_ofNat_of_zero_le h0
    by_cases hs : k ≤ 8 * l.length - q
    · have HE := hide (show Bit.skipErr (8 * l.length - q) (k : Int) = 0 by unfold Bit.skipErr; rw [if_pos h0, if_pos (by omega)])
      have HT := hide (show Bit.skipTo (8 * l.length - q) q (k : Int) = q + k by unfold Bit.skipTo; rw [HE.out]; simp)
      go_enter Try.func23, Try.ntmps23
      go_wp2_with fail
      refine (refLeft_any h).mono ?_
      rintro e w2 ⟨rfl, hQ2⟩
      have hR := h.ext hQ2.ext
      obtain ⟨A, c, c0, c1, f1, hq, hl, _⟩ := hR.cells
      have HR := hide hR
      clear h hR c0
      go_wp2
      go_ret
      have hM := HR.out.moved (q' := q + k) (x := (q : Int) + k) (by omega) (by omega)
      refine ⟨ret_i64 HE.out.symm, by rw [HT.out]; exact hM.1, ?_⟩
      exact (Mod.ofExt hQ2.ext).trans hM.2 (.inl rfl)
    · have HE := hide (show Bit.skipErr (8 * l.length - q) (k : Int) = 1 by unfold Bit.skipErr; rw [if_pos h0, if_neg (by omega)])
      have HT := hide (show Bit.skipTo (8 * l.length - q) q (k : Int) = q by unfold Bit.skipTo; rw [HE.out]; simp)
      have HR := hide h
      have hs' : ¬ ((k : Int) ≤ ((8 * l.length - q : Nat) : Int)) := by omega
      go_enter Try.func23, Try.ntmps23
      go_wp2_with fail
      refine (refLeft_any h).mono ?_
      rintro e w2 ⟨rfl, hQ2⟩
      go_wp2
      go_ret
      exact ⟨ret_i64 HE.out.symm, by rw [HT.out]; exact HR.out.ext hQ2.ext, Mod.ofExt hQ2.ext⟩
  · have HE := hide (show Bit.skipErr (8 * l.length - q) n = 13 by unfold Bit.skipErr; rw [if_neg h0])
    have HT := hide (show Bit.skipTo (8 * l.length - q) q n = q by unfold Bit.skipTo; rw [HE.out]; simp)
    have HR := hide h
    go_enter Try.func23, Try.ntmps23
    go_wp2
    go_ret
    exact ⟨ret_i64 HE.out.symm, by rw [HT.out]; exact HR.out, Mod.refl _ _ _⟩

set_option maxHeartbeats 1000000 in
theorem refPad_any {w : World} {base g q : Nat} {l : List UInt8} (h : RefR w base g l q) :
    Calls Try.prog 40 #[.pointer (some ⟨g, 0, none⟩)] w fun e w' => e = .returned (.int .i64 (Bit.padErr l q)) ∧ Qt w w' := by
  by_cases h8 : 8 * l.length - q < 8
  · have h8' : ¬ (8 ≤ ((8 * l.length - q : Nat) : Int)) := by omega
    go_enter Try.func40, Try.ntmps40
    go_wp2_with fail
    refine (refLeft_any h).mono ?_
    rintro e w2 ⟨rfl, hQ2⟩
    have hR := h.ext hQ2.ext
    obtain ⟨A, c, c0, c1, f1, hq, hl, hbb⟩ := hR.cells
    go_wp2
    go_loop [3] (fun i => ∃ j : Nat, q + j ≤ 8 * l.length ∧ i = .int .i64 ((q + j : Nat) : Int) ∧ (∀ t, t < j → Bit.at_ l (q + t) = false)) (fun i => 8 * l.length - (intOf i).toNat)
    case atStart => exact ⟨0, by omega, rfl, fun t ht => by omega⟩
    case round =>
      obtain ⟨j, hj, rfl, hz⟩ := hrel
      have hLb : ((8 * l.length : Nat) : Int) ≤ 8000000 := by omega
      by_cases hlt : q + j < 8 * l.length
      · obtain ⟨b, off, rfl, _, hc⟩ := spread_cell (i := q + j) hbb hlt
        have hix : ((q + j : Nat) : Int) < ((8 * l.length : Nat) : Int) := by omega
        clear hbb hR h
        by_cases hbit : Bit.at_ l (q + j) = true
        · have hZ : Bit.zs l q = j := Bit.zeros_eq (by omega) hz (fun _ => hbit)
          have HE := hide (show Bit.padErr l q = 2 by unfold Bit.padErr; rw [if_neg (fun h => by omega)])
          rw [hbit] at hc
          clear hz hbit hZ
          generalize q + j = qj at *
          generalize hLL : 8 * l.length = LL at *
          clear hLL
          go_wp2
          go_ret
          exact ⟨ret_i64 HE.out.symm, hQ2⟩
        · have hbit' : Bit.at_ l (q + j) = false := by simpa using hbit
          rw [hbit'] at hc
          have HZ := hide (show ∀ t, t < j + 1 → Bit.at_ l (q + t) = false from fun t ht => by
            rcases Nat.lt_or_ge t j with h | h
            · exact hz t h
            · obtain rfl : t = j := by omega
              exact hbit')
          clear hz hbit hbit'
          generalize hLL : 8 * l.length = LL at *
          have HLL := hide hLL
          clear hLL
          go_wp2
          go_round
          case rel => exact ⟨j + 1, by have := HLL.out; omega, by go_num, HZ.out⟩
          case measure => have := HLL.out; simp [intOf]; omega
      · have hZ : Bit.zs l q = 8 * l.length - q := Bit.zeros_eq (by omega) (fun t ht => hz t (by omega)) (fun h => by omega)
        have HE := hide (show Bit.padErr l q = 0 by unfold Bit.padErr; rw [if_pos ⟨h8, hZ⟩])
        have hix : ¬ (((q + j : Nat) : Int) < ((8 * l.length : Nat) : Int)) := by omega
        clear hz hZ hbb hR h
        go_wp2
        go_ret
        exact ⟨ret_i64 HE.out.symm, hQ2⟩
  · have HE := hide (show Bit.padErr l q = 2 by unfold Bit.padErr; rw [if_neg (fun h => h8 h.1)])
    have h8' : 8 ≤ ((8 * l.length - q : Nat) : Int) := by omega
    clear h8
    go_enter Try.func40, Try.ntmps40
    go_wp2_with fail
    refine (refLeft_any h).mono ?_
    rintro e w2 ⟨rfl, hQ2⟩
    go_wp2
    go_ret
    exact ⟨ret_i64 HE.out.symm, hQ2⟩
end Go.Proofs.Ytjpmabdnaooglaa

namespace Go.Proofs.Ytjpmabdnaooglaa
open Go.RowKit Len Can

/-- RefR with the bits' slice named. -/
def RefRV (w : World) (base g : Nat) (v : Value) (l : List UInt8) (q : Nat) : Prop :=
  Whole w g 86 #[v, .int .i64 (q : Int)] ∧ OwnB w base v (Bit.spread l (8 * l.length)) ∧ v.ownBlock ≠ some g ∧ base ≤ g ∧ q ≤ 8 * l.length ∧ l.length ≤ 1000000
section
variable {w w' : World} {base g q : Nat} {v : Value} {l : List UInt8}
theorem RefRV.ref (h : RefRV w base g v l q) : RefR w base g l q := ⟨v, h⟩
theorem RefRV.ext (h : RefRV w base g v l q) (hE : Ext w w') : RefRV w' base g v l q := by
  obtain ⟨hW, hO, r⟩ := h
  exact ⟨hW.ext hE, hO.ext hE, r⟩
theorem RefRV.grown {ob : Option Nat} (h : RefRV w base g v l q) (hG : w.grownBy w' ob) (h1 : ob ≠ some g) (h2 : v.ownBlock = none ∨ v.ownBlock ≠ ob) : RefRV w' base g v l q := by
  obtain ⟨hW, hO, r⟩ := h
  exact ⟨hW.ownGrown hG h1, World.ownsRow.kept hO hG h2, r⟩
theorem RefRV.moved {q' : Nat} (h : RefRV w base g v l q) (hq' : q' ≤ 8 * l.length) {x : Int} (hx : x = (q' : Int)) : RefRV (w.setCell ⟨g, 1, none⟩ (.int .i64 x)) base g v l q' ∧ Mod w (w.setCell ⟨g, 1, none⟩ (.int .i64 x)) g none := by
  obtain ⟨hW, hO, hne, hb, _, hl⟩ := h
  subst hx
  exact ⟨⟨hW.set 1 _, hO.far hne 1 _, hne, hb, hq', hl⟩, Mod.ofRow (grown_setCell w g 1 _)⟩
end
/-- An append to a row that is newer than world a. -/
theorem Mod.fresh {a b c : World} {g : Nat} {ob : Option Nat} (h : Mod a b g none) (hG : b.grownBy c ob) (ho : ∀ k, ob = some k → a.heap.size ≤ k) : Mod a c g none :=
  ⟨hG.os.trans h.os, hG.tape.trans h.tape, hG.output.trans h.output, Nat.le_trans h.size hG.size, fun k hk hg hn => (hG.block k (Nat.lt_of_lt_of_le hk h.size) (fun e => by have := ho k e.symm; omega)).trans (h.block k hk hg hn)⟩
theorem Can.getErr_le {left : Nat} {n : Nat} (hn : n ≤ 64) (h : Bit.getErr left (n : Int) ≠ 0) : Bit.getErr left (n : Int) = 1 := by
  unfold Bit.getErr at h ⊢
  rw [if_pos ⟨by omega, by omega⟩] at h ⊢
  split at h
  · exact absurd rfl h
  · rename_i h2
    rw [if_neg h2]
theorem Can.getNum_lt (b : List UInt8) (q n : Nat) : Bit.getNum b q (n : Int) < 2 ^ n := by
  unfold Bit.getNum
  split
  · exact Bit.val_lt _ _
  · exact Nat.two_pow_pos _
end Go.Proofs.Ytjpmabdnaooglaa

namespace Go.Proofs.Ytjpmabdnaooglaa
open Go.RowKit Len Can Huf

theorem Huf.any_succ (f : Nat → Bool) (s : Nat) : (List.range (s + 1)).any f = ((List.range s).any f || f s) := by simp [List.range_succ]
theorem Huf.near_none {l b : List UInt8} {q s : Nat} (h : lenAt l s = 0) : near l b q s = false := decide_eq_false fun h2 => h2.1 h
theorem Huf.hit_none {l b : List UInt8} {q s : Nat} (h : lenAt l s = 0) : hit l b q s = false := decide_eq_false fun h2 => h2.1 h
theorem Huf.peek_full {b : List UInt8} {q y : Nat} (hy : y ≤ 15) (h : y ≤ 8 * b.length - q) : Bit.peekThere (8 * b.length - q) (y : Int) = y ∧ Bit.peekNum b q (y : Int) = Bit.val (Bit.rest b q) y := by
  unfold Bit.peekThere Bit.peekNum
  rw [if_pos (by omega), if_pos (by omega), Int.toNat_natCast, Nat.min_eq_left h, Nat.sub_self, Nat.pow_zero, Nat.mul_one]
  exact ⟨rfl, rfl⟩
theorem Huf.peek_part {b : List UInt8} {q y : Nat} (hy : y ≤ 15) (h : 8 * b.length - q < y) : Bit.peekThere (8 * b.length - q) (y : Int) = 8 * b.length - q ∧ Bit.peekNum b q (y : Int) = Bit.val (Bit.rest b q) (8 * b.length - q) * 2 ^ (y - (8 * b.length - q)) := by
  unfold Bit.peekThere Bit.peekNum
  rw [if_pos (by omega), if_pos (by omega), Int.toNat_natCast, Nat.min_eq_right (by omega)]
  exact ⟨rfl, rfl⟩
/-- What the document's Get tells; its reader's slice of bits is named. -/
def RefGotV (w : World) (base g : Nat) (rv : Value) (b : List UInt8) (r : Int × Int × Nat) (e : Ending) (w' : World) : Prop :=
  e = .returned (.tuple #[.int .i64 r.1, .int .i64 r.2.1]) ∧ RefRV w' base g rv b r.2.2 ∧ Mod w w' g none
def RefGot (w : World) (base g : Nat) (b : List UInt8) (r : Int × Int × Nat) (e : Ending) (w' : World) : Prop :=
  e = .returned (.tuple #[.int .i64 r.1, .int .i64 r.2.1]) ∧ RefR w' base g b r.2.2 ∧ Mod w w' g none

set_option maxHeartbeats 4000000 in
set_option maxRecDepth 100000 in
theorem refGet9VH_any {w : World} {base g q : Nat} {v rv : Value} {l b : List UInt8} (hv : RefCod w w.heap.size v l) (hr : right l = true) (h : RefRV w base g rv b q) :
    Calls Try.prog 25 #[v, .pointer (some ⟨g, 0, none⟩)] w (RefGotV w base g rv b (getE l b q)) := by
  obtain ⟨A1, c1, A2, c2, rfl, h1c, h1m, h1, h2⟩ := hv
  have hE1 := extNew w (.cells #[.slice A1 l.length c1, .slice A2 l.length c2] 30)
  have hW1 := Whole.new w 30 #[.slice A1 l.length c1, .slice A2 l.length c2]
  have hbase := Nat.le_trans h.ref.le (Nat.le_of_lt h.ref.lt)
  have h1' : Bytes (w.alloc (.cells #[.slice A1 l.length c1, .slice A2 l.length c2] 30)) w.heap.size A1 l.length l := h1.below hE1 (Nat.le_refl _)
  have h2' : H16At (w.alloc (.cells #[.slice A1 l.length c1, .slice A2 l.length c2] 30)) w.heap.size A2 l.length (codesL l) := h2.below hE1 (Nat.le_refl _)
  have hR1 := h.ext hE1
  obtain ⟨h300, h15, _⟩ := right_facts hr
  have hgl := h.ref.lt
  have H15 := hide h15
  have HWl := hide (show ∀ s, s < l.length → word l s < 2 ^ 15 from fun s hs => word_lt hr hs)
  have HHit := hide (show ∀ s, s < l.length → hit l b q s = true → getE l b q = ((s : Int), 0, q + lenAt l s) from fun s hs hh => getE_hit hr hs hh)
  have HNone := hide (show (∀ s, s < l.length → hit l b q s = false) → getE l b q = if (List.range l.length).any (near l b q) then (-1, 1, q) else (-1, 7, q) from getE_none)
  have HCod := hide (show ∀ s, s < l.length → (codesL l).getD s 0 = word l s from fun s hs => codesL_at hs)
  have hm1 : w.heap.size < (w.alloc (.cells #[.slice A1 l.length c1, .slice A2 l.length c2] 30)).heap.size := by simp
  generalize getE l b q = res at *
  obtain ⟨w1, hw1⟩ : ∃ W, W = w.alloc (.cells #[.slice A1 l.length c1, .slice A2 l.length c2] 30) := ⟨_, rfl⟩
  have Hw1 := hide hw1
  rw [← hw1] at hE1 hW1 h1' h2' hR1 hm1
  have HW := hide hW1
  have H1 := hide h1'
  have H2 := hide h2'
  have HR := hide hR1
  have HM1 := hide (show Mod w w1 g none from Mod.ofExt hE1)
  clear hw1 h h1 h2 h15 hW1 h1' h2' hR1 hr
  go_enter Try.func25, Try.ntmps25
  go_wp2
  rw [← Hw1.out]
  clear Hw1
  go_loopw [6, 7] (fun p x wr => ∃ s : Nat, s ≤ l.length ∧ p = .bool ((List.range s).any (near l b q)) ∧ x = .int .i64 (s : Int) ∧ (∀ t, t < s → hit l b q t = false) ∧ Qt w1 wr) (fun _ x _ => l.length - (intOf x).toNat)
  case atStart => exact ⟨0, by omega, rfl, rfl, fun t ht => absurd ht (by omega), Qt.refl _⟩
  case round =>
    obtain ⟨s, hs, rfl, rfl, hno, hQ⟩ := hrel
    have HNo := hide hno
    have hE := hQ.ext
    have hWr := HW.out.ext hE
    have d0 : wr.cell? ⟨w.heap.size, 0, none⟩ = some (.slice A1 l.length c1) := hWr.at 0 rfl
    have d1 : wr.cell? ⟨w.heap.size, 1, none⟩ = some (.slice A2 l.length c2) := hWr.at 1 rfl
    obtain ⟨part, hpart⟩ : ∃ part, part = (List.range s).any (near l b q) := ⟨_, rfl⟩
    rw [← hpart]
    have HPt := hide hpart
    clear hno hpart
    by_cases hlt : s < l.length
    · have hsI : (s : Int) < (l.length : Int) := by omega
      rcases H1.out.2 with hn | ⟨b1, o1, rfl, hb1, hc1⟩
      · omega
      rcases H2.out.2 with hn | ⟨b2, o2, rfl, hb2, hc2⟩
      · omega
      have e1 : wr.cell? ⟨b1, o1 + s, none⟩ = some (.int .u8 ((lenAt l s : Nat) : Int)) := (hE.cell (i := o1 + s) (by omega)).trans (hc1 s hlt)
      have e2 : wr.cell? ⟨b2, o2 + s, none⟩ = some (.int .u16 ((word l s : Nat) : Int)) := by
        rw [hE.cell (i := o2 + s) (by omega), hc2 s hlt, HCod.out s hlt]
      have hy15 := H15.out s hlt
      have hwl := HWl.out s hlt
      have hHit := HHit.out s hlt
      have HAny := hide (Huf.any_succ (near l b q) s)
      have HNear := hide (show near l b q s = decide (lenAt l s ≠ 0 ∧ 8 * b.length - q < lenAt l s ∧ Bit.val (Bit.rest b q) (8 * b.length - q) = word l s / 2 ^ (lenAt l s - (8 * b.length - q))) from rfl)
      have HHt := hide (show hit l b q s = decide (lenAt l s ≠ 0 ∧ lenAt l s ≤ 8 * b.length - q ∧ Bit.val (Bit.rest b q) (lenAt l s) = word l s) from rfl)
      clear hc1 hc2 hb1 hb2
      by_cases y0 : lenAt l s = 0
      · have HN2 := hide (show near l b q s = false from Huf.near_none y0)
        have HH2 := hide (show hit l b q s = false from Huf.hit_none y0)
        rw [y0] at e1
        change World.cell? _ ⟨b1, o1 + s, none⟩ = some (.int .u8 0) at e1
        clear hHit y0 hy15 HNear HHt
        go_wp2
        go_roundw
        case rel => exact ⟨s + 1, by omega, congrArg Value.bool (by rw [HAny.out, HN2.out, Bool.or_false]; exact HPt.out), by go_num, fun t ht => (by
          by_cases e : t = s
          · rw [e]; exact HH2.out
          · exact HNo.out t (by omega)), hQ⟩
        case measure => simp [intOf]; omega
      · have CP := refPeek_any (HR.out.ext hE).ref ((lenAt l s : Nat) : Int)
        have hRr := HR.out.ext hE
        have hyb : ((lenAt l s : Int) == 0) = false := by rw [beq_eq_false_iff_ne]; omega
        by_cases hfull : lenAt l s ≤ 8 * b.length - q
        · rw [(peek_full hy15 hfull).1, (peek_full hy15 hfull).2] at CP
          have HN2 := hide (show near l b q s = false by rw [HNear.out]; exact decide_eq_false (by omega))
          by_cases hx : Bit.val (Bit.rest b q) (lenAt l s) = word l s
          · have HRes := hide (hHit (by rw [HHt.out]; exact decide_eq_true ⟨y0, hfull, hx⟩))
            rw [hx] at CP
            clear HNear HHt hHit HHit HNone hx
            generalize word l s = x at *
            generalize lenAt l s = y at *
            go_wp2_with fail
            refine CP.mono ?_
            rintro e w2 ⟨rfl, hQ2⟩
            have hE2 := hE.trans hQ2.ext
            have d1' : w2.cell? ⟨w.heap.size, 1, none⟩ = some (.slice (some ⟨b2, o2, none⟩) l.length c2) := (HW.out.ext hE2).at 1 rfl
            have e2' : w2.cell? ⟨b2, o2 + s, none⟩ = some (.int .u16 (x : Int)) := (hQ2.ext.cell (by
              have := World.block_lt_of_cell? wr _ e2
              exact this)).trans e2
            have hR2 := hRr.ext hQ2.ext
            obtain ⟨A7, c7, k0, k1, k2, hq, hbl, _⟩ := hR2.ref.cells
            have HR2 := hide hR2
            clear CP hR2 hRr
            go_wp2
            go_ret2
            have hM := HR2.out.moved (q' := q + y) (x := (q : Int) + y) (by omega) (by omega)
            rw [HRes.out]
            exact ⟨rfl, hM.1, (HM1.out.trans (Mod.ofExt hE2) (.inl rfl)).trans hM.2 (.inl rfl)⟩
          · have HH2 := hide (show hit l b q s = false by rw [HHt.out]; exact decide_eq_false (by omega))
            clear HNear HHt hHit
            have hxb : ((Bit.val (Bit.rest b q) (lenAt l s) : Int) == (word l s : Int)) = false := by rw [beq_eq_false_iff_ne]; omega
            generalize Bit.val (Bit.rest b q) (lenAt l s) = z at *
            generalize word l s = x at *
            generalize lenAt l s = y at *
            go_wp2_with fail
            refine CP.mono ?_
            rintro e w2 ⟨rfl, hQ2⟩
            have hE2 := hE.trans hQ2.ext
            have d1' : w2.cell? ⟨w.heap.size, 1, none⟩ = some (.slice (some ⟨b2, o2, none⟩) l.length c2) := (HW.out.ext hE2).at 1 rfl
            have e2' : w2.cell? ⟨b2, o2 + s, none⟩ = some (.int .u16 (x : Int)) := (hQ2.ext.cell (by
              have := World.block_lt_of_cell? wr _ e2
              exact this)).trans e2
            clear CP hRr
            go_wp2
            go_roundw
            case rel => exact ⟨s + 1, by omega, congrArg Value.bool (by rw [HAny.out, HN2.out, Bool.or_false]; exact HPt.out), by go_num, fun t ht => (by
              by_cases e : t = s
              · rw [e]; exact HH2.out
              · exact HNo.out t (by omega)), hQ.trans hQ2⟩
            case measure => simp [intOf]; omega
        · have hpt : 8 * b.length - q < lenAt l s := by omega
          rw [(peek_part hy15 hpt).1, (peek_part hy15 hpt).2] at CP
          have HH2 := hide (show hit l b q s = false by rw [HHt.out]; exact decide_eq_false (by omega))
          have HN2 := hide (show near l b q s = decide (Bit.val (Bit.rest b q) (8 * b.length - q) = word l s / 2 ^ (lenAt l s - (8 * b.length - q))) by
            rw [HNear.out]
            exact decide_eq_decide.2 ⟨fun h => h.2.2, fun h => ⟨y0, hpt, h⟩⟩)
          have hz := Bit.val_lt (Bit.rest b q) (8 * b.length - q)
          clear HNear HHt hHit hfull
          generalize hleft : 8 * b.length - q = left at *
          generalize Bit.val (Bit.rest b q) left = z at *
          generalize word l s = x at *
          generalize lenAt l s = y at *
          have hzy : ∀ j, left ≤ j → j ≤ y → z * 2 ^ (y - j) ≤ 32768 := fun j h1 h2 => by
            have h3 : z * 2 ^ (y - j) ≤ 2 ^ left * 2 ^ (y - j) := Nat.mul_le_mul_right _ (by omega)
            rw [← Nat.pow_add] at h3
            have h4 : 2 ^ (left + (y - j)) ≤ 2 ^ 15 := Nat.pow_le_pow_right (by omega) (by omega)
            omega
          have HZy := hide hzy
          have HLeft := hide hleft
          clear hzy hz hleft
          have htb : ((left : Int) == (y : Int)) = false := by rw [beq_eq_false_iff_ne]; omega
          have hty : (left : Int) < (y : Int) := by omega
          obtain ⟨X, hX⟩ : ∃ X, X = z * 2 ^ (y - left) := ⟨_, rfl⟩
          have hXb : X ≤ 32768 := by rw [hX]; exact HZy.out left (by omega) (by omega)
          rw [← hX] at CP
          have HX := hide hX
          clear hX
          go_wp2_with fail
          refine CP.mono ?_
          rintro e w2 ⟨rfl, hQ2⟩
          have hE2 := hE.trans hQ2.ext
          have d1' : w2.cell? ⟨w.heap.size, 1, none⟩ = some (.slice (some ⟨b2, o2, none⟩) l.length c2) := (HW.out.ext hE2).at 1 rfl
          have e2' : w2.cell? ⟨b2, o2 + s, none⟩ = some (.int .u16 (x : Int)) := (hQ2.ext.cell (by
            have := World.block_lt_of_cell? wr _ e2
            exact this)).trans e2
          have HQ2 := hide (hQ.trans hQ2)
          clear CP hRr hQ hQ2 hE2 d0 d1 e1 e2
          go_wp2_with fail
          go_loopw [9, 11, 12] (fun a c d wq => ∃ j u v : Nat, left ≤ j ∧ j ≤ y ∧ d = .int .i64 (j : Int) ∧ a = .int .u64 (u : Int) ∧ c = .int .u64 (v : Int) ∧ u = z * 2 ^ (y - j) ∧ v = x / 2 ^ (j - left) ∧ wq = w2) (fun _ _ d _ => y - (intOf d).toNat)
          case atStart => exact ⟨left, X, x, Nat.le_refl _, by omega, rfl, rfl, rfl, HX.out, by simp, rfl⟩
          case round =>
            obtain ⟨j, u, v, hj1, hj2, rfl, rfl, rfl, hu, hv, rfl⟩ := hrel
            have hub := HZy.out j hj1 hj2
            rw [← hu] at hub
            have hvb : v ≤ x := by rw [hv]; exact Nat.div_le_self _ _
            by_cases hjy : j < y
            · have hjI : (j : Int) < (y : Int) := by omega
              have HU := hide (show u / 2 = z * 2 ^ (y - (j + 1)) by
                rw [hu, show y - j = y - (j + 1) + 1 by omega, Nat.pow_succ, ← Nat.mul_assoc, Nat.mul_div_cancel _ (by omega)])
              have HV := hide (show v / 2 = x / 2 ^ (j + 1 - left) by
                rw [hv, Nat.div_div_eq_div_mul, ← Nat.pow_succ, show j + 1 - left = j - left + 1 by omega])
              clear hu hv
              go_wp2
              go_roundw
              case rel => exact ⟨j + 1, u / 2, v / 2, by omega, by omega, by go_num, by go_num, by go_num, HU.out, HV.out, trivial⟩
              case measure => simp [intOf]; omega
            · obtain rfl : y = j := by omega
              rw [Nat.sub_self, Nat.pow_zero, Nat.mul_one] at hu
              have HN3 := hide (show near l b q s = decide (u = v) by rw [HN2.out, hu, hv])
              have HN4 := hide (show decide (u = v) = ((u : Int) == (v : Int)) by
                by_cases h : u = v
                · subst h; simp
                · rw [decide_eq_false h]; symm; rw [beq_eq_false_iff_ne]; omega)
              clear hu hv
              have HNo2 := hide (show ∀ t, t < s + 1 → hit l b q t = false from fun t ht => by
                by_cases e : t = s
                · rw [e]; exact HH2.out
                · exact HNo.out t (by omega))
              cases part with
              | true =>
                go_wp2
                go_roundw
                case rel => exact ⟨s + 1, by omega, congrArg Value.bool (by rw [HAny.out, ← HPt.out]; rfl), by go_num, HNo2.out, HQ2.out⟩
                case measure => simp [intOf]; omega
              | false =>
                go_wp2
                go_roundw
                case rel => exact ⟨s + 1, by omega, congrArg Value.bool (by rw [HAny.out, ← HPt.out, HN3.out, HN4.out]; rfl), by go_num, HNo2.out, HQ2.out⟩
                case measure => simp [intOf]; omega
    · obtain rfl : l.length = s := by omega
      have hRes := HNone.out HNo.out
      rw [← HPt.out] at hRes
      have HRes := hide hRes
      have HR2 := hide (HR.out.ext hE)
      have HM := hide (HM1.out.trans (Mod.ofExt (ob := none) hE) (.inl rfl))
      clear hRes HHit HNone
      cases part with
      | true =>
        go_wp2
        go_ret2
        rw [HRes.out]
        exact ⟨rfl, HR2.out, HM.out⟩
      | false =>
        go_wp2
        go_ret2
        rw [HRes.out]
        exact ⟨rfl, HR2.out, HM.out⟩
theorem refGet9V_any {w : World} {base g q : Nat} {v rv : Value} {l b : List UInt8} (hv : RefCod w base v l) (hr : right l = true) (h : RefRV w base g rv b q) :
    Calls Try.prog 25 #[v, .pointer (some ⟨g, 0, none⟩)] w (RefGotV w base g rv b (getE l b q)) :=
  refGet9VH_any (hv.mono (Nat.le_trans h.ref.le (Nat.le_of_lt h.ref.lt))) hr h
theorem refGet9H_any {w : World} {base g q : Nat} {v : Value} {l b : List UInt8} (hv : RefCod w w.heap.size v l) (hr : right l = true) (h : RefR w base g b q) :
    Calls Try.prog 25 #[v, .pointer (some ⟨g, 0, none⟩)] w (RefGot w base g b (getE l b q)) := by
  obtain ⟨rv, h⟩ := h
  exact (refGet9VH_any hv hr (show RefRV w base g rv b q from h)).mono fun e w' ⟨h1, h2, h3⟩ => ⟨h1, h2.ref, h3⟩
theorem refGet9_any {w : World} {base g q : Nat} {v : Value} {l b : List UInt8} (hv : RefCod w base v l) (hr : right l = true) (h : RefR w base g b q) :
    Calls Try.prog 25 #[v, .pointer (some ⟨g, 0, none⟩)] w (RefGot w base g b (getE l b q)) := by
  obtain ⟨rv, h⟩ := h
  exact (refGet9V_any hv hr (show RefRV w base g rv b q from h)).mono fun e w' ⟨h1, h2, h3⟩ => ⟨h1, h2.ref, h3⟩
end Go.Proofs.Ytjpmabdnaooglaa

namespace Go.Proofs.Ytjpmabdnaooglaa
open Go.RowKit

/-- While it is made: block g holds the first p bits. -/
def Making (w0 w : World) (g : Nat) (l : List UInt8) (p : Nat) : Prop :=
  ∃ v, Whole w g 86 #[v, .int .i64 0] ∧ OwnB w w0.heap.size v (Bit.spread l p) ∧ v.ownBlock ≠ some g ∧ w0.heap.size ≤ g ∧ Ext w0 w
theorem Bit.mask (d : Nat) (h : d < 8) : 128 / 2 ^ d = 2 ^ (7 - d) := by
  rcases (by omega : d = 0 ∨ d = 1 ∨ d = 2 ∨ d = 3 ∨ d = 4 ∨ d = 5 ∨ d = 6 ∨ d = 7) with rfl | rfl | rfl | rfl | rfl | rfl | rfl | rfl <;> decide

set_option maxHeartbeats 2000000 in
theorem refReader_any (A : Option Addr) (n c : Nat) (l : List UInt8) (w : World) (hn : n ≤ 1000000) (hb : Bytes w w.heap.size A n l) :
    Calls Try.prog 21 #[.slice A n c] w fun e w' => ∃ g, e = .returned (.pointer (some ⟨g, 0, none⟩)) ∧ RefR w' w.heap.size g l 0 ∧ Ext w w' := by
  have hll := hb.1
  subst hll
  have hM0 : Making w (w.alloc (.cells #[.slice none 0 0, .int .i64 0] 86)) w.heap.size l 0 :=
    ⟨.slice none 0 0, Whole.new w _ _, OwnB.nil _ _, by simp [Value.ownBlock], Nat.le_refl _, extNew w _⟩
  have HB := hide hb
  clear hb
  go_enter Try.func21, Try.ntmps21
  go_wp2
  go_loopw [4, 5, 6] (fun i _ _ wr => ∃ j : Nat, j ≤ l.length ∧ i = .int .i64 (j : Int) ∧ Making w wr w.heap.size l (8 * j)) (fun i _ _ _ => l.length - (intOf i).toNat)
  case atStart => exact ⟨0, by omega, rfl, hM0⟩
  case round =>
    obtain ⟨j, hj, rfl, hMk⟩ := hrel
    by_cases hlt : j < l.length
    · rcases HB.out.2 with h0 | ⟨b, off, rfl, hbl, hcells⟩
      · omega
      have hcell := hcells j hlt
      clear hcells
      go_wp2
      go_loopw [5, 6] (fun m k ww => ∃ d : Nat, d ≤ 8 ∧ m = .int .i64 ((128 / 2 ^ d : Nat) : Int) ∧ k = .int .i64 (d : Int) ∧ Making w ww w.heap.size l (8 * j + d)) (fun _ k _ => 8 - (intOf k).toNat)
      case atStart => exact ⟨0, by omega, rfl, rfl, hMk⟩
      case round =>
        obtain ⟨d, hd, rfl, rfl, v, hW, hO, hne, hge, hE⟩ := hrel
        by_cases hd8 : d < 8
        · have hc := (hE.cell hbl).trans hcell
          have hmask := Bit.mask d hd8
          have hbit := Bit.bit_int ((l.getD j 0).toNat / 2 ^ (7 - d)) ((l.getD j 0).toNat.testBit (7 - d)) (Bit.testBit_toNat _ _)
          have hat : Bit.at_ l (8 * j + d) = (l.getD j 0).toNat.testBit (7 - d) := by unfold Bit.at_; rw [show (8 * j + d) / 8 = j by omega, show (8 * j + d) % 8 = d by omega]
          have HS := hide (Bit.spread_succ l (8 * j + d))
          rw [hat] at HS
          have hnext : ((128 / 2 ^ d : Nat) : Int) / 2 = ((128 / 2 ^ (d + 1) : Nat) : Int) := by rw [Nat.pow_succ, ← Nat.div_div_eq_div_mul]; omega
          have Hnext := hide hnext
          have hpow : 0 < 2 ^ (7 - d) := Nat.two_pow_pos _
          rw [hmask] at Hnext
          have hdiv : ((l.getD j 0).toNat : Int) / ((2 ^ (7 - d) : Nat) : Int) = (((l.getD j 0).toNat / 2 ^ (7 - d) : Nat) : Int) := by rw [Int.natCast_ediv]
          rw [hmask]
          have hdivt : ((l.getD j 0).toNat : Int).tdiv ((2 ^ (7 - d) : Nat) : Int) = (((l.getD j 0).toNat / 2 ^ (7 - d) : Nat) : Int) := by rw [Int.tdiv_eq_ediv_of_nonneg (by omega)]; exact hdiv
          have hylt : (l.getD j 0).toNat / 2 ^ (7 - d) ≤ 255 := Nat.le_trans (Nat.div_le_self _ _) (by have := (l.getD j 0).toNat_lt; omega)
          have hcc : (l.getD j 0).toNat ≤ 255 := by have := (l.getD j 0).toNat_lt; omega
          have hM2 : 2 ^ (7 - d) ≤ 128 := Nat.le_trans (Nat.pow_le_pow_right (by omega) (show 7 - d ≤ 7 by omega)) (by decide)
          have hM1 : ¬ (2 ^ (7 - d) = 0) := Nat.ne_of_gt hpow
          have hlen : (Bit.spread l (8 * j + d)).length = 8 * j + d := Bit.spread_len _ _
          have hfit : (Bit.spread l (8 * j + d)).length + 1 ≤ 140737488355328 := by omega
          clear hat hnext hmask hlen
          generalize bit8 ((l.getD j 0).toNat.testBit (7 - d)) = bt at *
          generalize (l.getD j 0).toNat / 2 ^ (7 - d) = y at *
          generalize (l.getD j 0).toNat = cc at *
          generalize 2 ^ (7 - d) = M at *
          generalize Bit.spread l (8 * j + d) = Sp at *
          have hbt := bt.toNat_lt
          have a1 : IntKind.i64.wrap (cc : Int) = cc := by rw [IntKind.wrap_i64]; omega
          have a3 : IntKind.i64.wrap (y : Int) = y := by rw [IntKind.wrap_i64]; omega
          have a4 : (y : Int).tmod 2 = (bt.toNat : Int) := by rw [Int.tmod_eq_emod_of_nonneg (by omega)]; exact hbit
          have a5 : IntKind.u8.wrap (bt.toNat : Int) = (bt.toNat : Int) := by rw [IntKind.wrap_u8']; omega
          clear hdiv
          have d0 : wr.cell? ⟨w.heap.size, 0, none⟩ = some v := hW.at 0 rfl
          have hEa := extNew wr (.cells #[.int .u8 (bt.toNat : Int)] 5)
          have d0' : (wr.alloc (.cells #[.int .u8 (bt.toNat : Int)] 5)).cell? ⟨w.heap.size, 0, none⟩ = some v := (hW.ext hEa).at 0 rfl
          have hb1 := (Ext.refl (wr.alloc (.cells #[.int .u8 (bt.toNat : Int)] 5))).drew.bytes (bytesNew wr [bt] #[.int .u8 (bt.toNat : Int)] 5 (0, 0) rfl 1 rfl)
          have hEw : Ext wr (wr.alloc (.cells #[.int .u8 (bt.toNat : Int)] 5)).drew := hEa.drew
          have hOx := hO.ext hEw
          have hB1 : w.heap.size ≤ (wr.alloc (.cells #[.int .u8 (bt.toNat : Int)] 5)).drew.heap.size := (hE.trans hEw).le
          go_wp2
          go_region_law (refine step_appAt rfl (.tmp 23) (.tmp 33) rfl rfl hOx rfl hb1 hfit hB1 ?_; intro v2 w2 hO2 hG2' hN2'; have hG2 : (wr.alloc (.cells #[.int .u8 (bt.toNat : Int)] 5)).drew.grownBy w2 v.ownBlock := hG2'; have hN2 : NewOb (wr.alloc (.cells #[.int .u8 (bt.toNat : Int)] 5)).drew v.ownBlock v2.ownBlock := hN2'; clear hG2' hN2'; have hW2 := (hW.ext hEw).ownGrown hG2 hne; obtain ⟨A2, n2, c2, hv2, _, _, _⟩ := hO2.form'; subst hv2; have e0 := hW2.at 0 rfl; have f2 := hW2.frozen 0)
          all_goals (
            have hne2 : (Value.slice A2 n2 c2).ownBlock ≠ some w.heap.size := hN2.ne (Nat.lt_of_lt_of_le hW.lt hEw.le) hne
            have hMk2 : Making w (w2.setCell ⟨w.heap.size, 0, none⟩ (.slice A2 n2 c2)) w.heap.size l (8 * j + (d + 1)) := by
              refine ⟨.slice A2 n2 c2, hW2.set 0 _, ?_, hne2, Nat.le_refl _, ?_⟩
              · rw [← Nat.add_assoc, HS.out]
                exact hO2.far hne2 0 _
              · exact Ext.setCell (hOx.below (hE.trans hEw) hG2 hB1) (Nat.le_refl _) _
            have HMk := hide hMk2
            clear hMk2 hMk hM0
            go_wp2
            go_roundw
            case rel => exact ⟨d + 1, by omega, by rw [Hnext.out], by go_num, HMk.out⟩
            case measure => simp [intOf]; omega)
        · obtain rfl : d = 8 := by omega
          have HMk := hide (show Making w wr w.heap.size l (8 * (j + 1)) from ⟨v, hW, hO, hne, hge, hE⟩)
          clear hW hO hMk hM0
          go_wp2
          go_roundw
          case rel => exact ⟨j + 1, by omega, by go_num, HMk.out⟩
          case measure => simp [intOf]; omega
    · obtain rfl : j = l.length := by omega
      obtain ⟨v, hW, hO, hne, hge, hE⟩ := hMk
      go_wp2
      go_ret
      exact ⟨_, rfl, ⟨v, hW, hO, hne, hge, by omega, hn⟩, hE⟩
end Go.Proofs.Ytjpmabdnaooglaa

namespace Go.Proofs.Ytjpmabdnaooglaa
open Go.RowKit Len Can Huf

/-- Behind a call that tells numbers and an error. -/
def UnpackTo (w : World) (r : List Int × Int) (e : Ending) (w' : World) : Prop := ∃ v, e = .returned (.tuple #[v, .int .i64 r.2]) ∧ OwnI w' w.heap.size v r.1 ∧ Ext w w'

theorem OwnI.mono {w : World} {base b' : Nat} {v : Value} {L : List Int} (h : OwnI w base v L) (hb : b' ≤ base) : OwnI w b' v L := ⟨h.1, h.2.imp_right fun ⟨g, cap, cur, e, hg, r⟩ => ⟨g, cap, cur, e, Nat.le_trans hb hg, r⟩⟩
theorem ownI_mod {w w' : World} {g base : Nat} {v : Value} {L : List Int} (h : Mod w w' g none) (hv : OwnI w base v L) (hg : v.ownBlock ≠ some g) : OwnI w' base v L := by
  refine ⟨hv.1, ?_⟩
  rcases hv.2 with hn | ⟨x, cap, cur, rfl, hb, hgg, rest⟩
  · exact .inl hn
  · refine .inr ⟨x, cap, cur, rfl, hb, ?_, rest⟩
    rw [h.block x (Array.getElem?_eq_some_iff.1 hgg).1 (by intro e; subst e; simp [Value.ownBlock] at hg) (by simp)]
    exact hgg

set_option maxHeartbeats 2000000 in
set_option maxRecDepth 100000 in
theorem refUnpack9_any (A A2 : Option Addr) (n c n2 c2 : Nat) (l b : List UInt8) (x : Int) (w : World) (h : Bytes w w.heap.size A n l) (hb : Bytes w w.heap.size A2 n2 b) (hb3 : n2 ≤ 1000000) :
    Calls Try.prog 18 #[.slice A n c, .int .i64 x, .slice A2 n2 c2] w (UnpackTo w (unpackE l x b)) := by
  by_cases hneg : x < 0
  · have HN := hide (show unpackE l x b = ([], 13) by unfold unpackE; rw [if_pos (.inl hneg)])
    generalize unpackE l x b = res at *
    go_enter Try.func18, Try.ntmps18
    go_wp2
    go_ret2
    rw [HN.out]
    exact ⟨_, rfl, OwnI.nil _ _, Ext.refl _⟩
  by_cases hbig : 100000 < x
  · have HN := hide (show unpackE l x b = ([], 13) by unfold unpackE; rw [if_pos (.inr hbig)])
    generalize unpackE l x b = res at *
    go_enter Try.func18, Try.ntmps18
    go_wp2
    go_ret2
    rw [HN.out]
    exact ⟨_, rfl, OwnI.nil _ _, Ext.refl _⟩
  obtain ⟨N, rfl⟩ := Int.eq_ofNat_of_zero_le (show 0 ≤ x by omega)
  have hN : N ≤ 100000 := by omega
  have C1 := refNew9_any A n c l w h
  unfold RefNew at C1
  have hd : decide ((N : Int) < 0) = false := decide_eq_false (by omega)
  cases hr : right l with
  | false =>
    have HN := hide (show unpackE l (N : Int) b = ([], 7) by unfold unpackE; rw [if_neg (by omega), hr]; rfl)
    have HR := hide hr
    rw [check_wrong hr] at C1
    generalize unpackE l (N : Int) b = res at *
    clear hr h hb
    go_enter Try.func18, Try.ntmps18
    go_wp2_with fail
    refine C1.mono ?_
    rintro e w2 ⟨v, rfl, _, hv, hE2⟩
    obtain rfl := hv HR.out
    go_wp2
    go_ret2
    rw [HN.out]
    exact ⟨_, rfl, OwnI.nil _ _, hE2.alloc _⟩
  | true =>
    have HN := hide (show unpackE l (N : Int) b = unR l b N 0 [] by unfold unpackE; rw [if_neg (by omega), hr]; rfl)
    have HR := hide hr
    rw [check_right hr] at C1
    generalize unpackE l (N : Int) b = res at *
    have HB := hide hb
    clear hr h hb
    go_enter Try.func18, Try.ntmps18
    go_wp2_with fail
    refine C1.mono ?_
    rintro e w2 ⟨v, rfl, hv, _, hE2⟩
    have hv := hv HR.out
    obtain ⟨B1, d1, B2, d2, rfl, hd1, hd1m, hb1, hb2⟩ := hv
    have HCod := hide (show RefCod w2 w2.heap.size (.agg #[.slice B1 l.length d1, .slice B2 l.length d2]) l from ⟨B1, d1, B2, d2, rfl, hd1, hd1m, hb1, hb2⟩)
    clear hb1 hb2 hv C1
    have hES := hE2.alloc (.cells #[.slice B1 l.length d1, .slice B2 l.length d2] 30)
    have hWS := Whole.new w2 30 #[.slice B1 l.length d1, .slice B2 l.length d2]
    have hCS := HCod.out.ext (extNew w2 (.cells #[.slice B1 l.length d1, .slice B2 l.length d2] 30))
    have CR := refReader_any A2 n2 c2 b _ hb3 (hES.bytes HB.out)
    have hle2 := hE2.le
    clear HCod HB hE2
    go_wp2_with fail
    refine CR.mono ?_
    rintro e w3 ⟨g, rfl, hR3, hE3⟩
    clear CR
    obtain ⟨rv, hR3⟩ := hR3
    have hR3 : RefRV w3 _ g rv b 0 := hR3
    have hW3 := hWS.ext hE3
    have hC3 := hCS.below hE3 (Nat.le_refl _)
    have hF3 := hES.trans hE3
    have hlt6 : w2.heap.size < (w2.alloc (.cells #[.slice B1 l.length d1, .slice B2 l.length d2] 30)).heap.size := by simp
    clear hES hWS hCS hE3
    generalize (w2.alloc (.cells #[.slice B1 l.length d1, .slice B2 l.length d2] 30)).heap.size = base at *
    generalize w2.heap.size = k6 at *
    have hbg := hR3.ref.le
    have hgl := hR3.ref.lt
    have HV := hide (show ∀ k, rv.ownBlock = some k → k < w3.heap.size from fun k hk => (hR3.2.1.lt k hk).2)
    have HR3 := hide hR3
    have HW3 := hide hW3
    have HC3 := hide hC3
    clear hR3 hW3 hC3
    go_wp2_with fail
    go_loopw [11, 12] (fun o a wr => ∃ (i q : Nat) (out : List Int), i ≤ N ∧ a = .int .i64 (i : Int) ∧ out.length = i ∧ OwnI wr w3.heap.size o out ∧ RefRV wr base g rv b q ∧ Mod w3 wr g none ∧ res = unR l b (N - i) q out) (fun _ a _ => N - (intOf a).toNat)
    case atStart => exact ⟨0, 0, [], by omega, rfl, rfl, OwnI.nil _ _, HR3.out, Mod.refl _ _ _, HN.out⟩
    case round =>
      clear HN HR3
      obtain ⟨i, q, out, hi, rfl, hol, hO, hR, hM, hres⟩ := hrel
      have HRes := hide hres
      have HOl := hide hol
      have HO := hide hO
      have HRr := hide hR
      obtain ⟨Ao, co, rfl, hco, _⟩ := hO.form
      rw [hol] at hco ⊢
      have hsM := hM.size
      clear hres hol hR
      by_cases hlt : i < N
      · have hiI : (i : Int) < (N : Int) := by omega
        have hWr : Whole wr k6 30 #[.slice B1 l.length d1, .slice B2 l.length d2] := hM.whole HW3.out (by omega) (by simp)
        have e0 : wr.cell? ⟨k6, 0, none⟩ = some (.slice B1 l.length d1) := hWr.at 0 rfl
        have e1 : wr.cell? ⟨k6, 1, none⟩ = some (.slice B2 l.length d2) := hWr.at 1 rfl
        have hCr := HC3.out.below (hM.below (B := base) (by omega) hbg (fun k hk => by cases hk)) (Nat.le_refl _)
        have CG := refGet9V_any hCr HR.out HRr.out
        have HOk := hide (show (getE l b q).2.1 = 0 → res = unR l b (N - (i + 1)) (getE l b q).2.2 (out ++ [(getE l b q).1]) from fun h => by rw [HRes.out, show N - i = N - (i + 1) + 1 by omega, unR, if_pos h])
        have HNo := hide (show (getE l b q).2.1 ≠ 0 → res = ([], (getE l b q).2.1) from fun h => by rw [HRes.out, show N - i = N - (i + 1) + 1 by omega, unR, if_neg h])
        obtain ⟨⟨r1, r2, r3⟩, hr⟩ : ∃ r, r = getE l b q := ⟨_, rfl⟩
        rw [← hr] at CG HOk HNo
        unfold RefGotV at CG
        dsimp only at CG HOk HNo
        clear hr hCr hWr
        go_wp2_with fail
        refine CG.mono ?_
        rintro e w4 ⟨rfl, hR4, hM4⟩
        clear CG
        have hgo : g < w3.heap.size := hgl
        by_cases h2 : r2 = 0
        · subst h2
          have HS := hide (HOk.out rfl)
          clear HOk HNo
          have hlen : out.length ≤ 1000000 := by rw [HOl.out]; omega
          have hEa := extNew w4 (.cells #[.int .i64 r1] 3)
          have hO4 : OwnI w4 w3.heap.size (.slice Ao i co) out := by
            have hO' := HO.out
            rw [HOl.out] at hO'
            exact ownI_mod hM4 hO' (fun e => by have := (hO'.lt _ e).1; omega)
          have hOa := hO4.ext hEa
          have hMw := hM.trans hM4 (.inl rfl)
          have hbs : w3.heap.size ≤ w4.heap.size := hMw.size
          have hap : ∀ k, Value.ownBlock (.slice Ao i co) = some k → w3.heap.size ≤ k := fun k hk => (hO4.lt k hk).1
          have HAp := hide hap
          clear hO e0 e1 hap
          go_wp2_with (at_builtin; refine wpList_appIB rfl (.tmp 45) (.tmp 47) rfl rfl r1 hOa rfl hlen hbs ?_; intro v5 w5 hO5 hG5)
          have hG5' : (w4.alloc (.cells #[.int .i64 r1] 3)).grownBy w5 (Value.ownBlock (.slice Ao i co)) := hG5
          have hR5 := (hR4.ext hEa).grown hG5' (fun e => by have := HAp.out _ e; omega) (by
            cases hv : rv.ownBlock with
            | none => exact .inl rfl
            | some k => exact .inr (fun e => by have := HAp.out k e.symm; have := HV.out k hv; omega))
          have hM5 := (hMw.trans (Mod.ofExt (ob := none) hEa) (.inl rfl)).fresh hG5' HAp.out
          have hl5 : (out ++ [r1]).length = i + 1 := by rw [List.length_append, HOl.out]; rfl
          have HL5 := hide hl5
          clear hl5 hlen
          go_roundw
          case rel => exact ⟨i + 1, r3, out ++ [r1], by omega, by go_num, HL5.out, hO5, hR5, hM5, HS.out⟩
          case measure => simp [intOf]; omega
        · have h2b : ((r2 : Int) == 0) = false := by rw [beq_eq_false_iff_ne]; omega
          have HS := hide (HNo.out h2)
          clear HOk HNo
          go_wp2
          go_ret2
          rw [HS.out]
          exact ⟨_, rfl, OwnI.nil _ _, Below.trans hF3 (Below.mono ((hM.trans hM4 (.inl rfl)).below (B := w.heap.size) hF3.le (by omega) (fun k hk => by cases hk)) (Nat.le_refl _))⟩
      · obtain rfl : N = i := by omega
        have CPd := refPad_any HRr.out.ref
        have hres2 : res = if Bit.padErr b q = 0 then (out, 0) else ([], 2) := by rw [HRes.out, Nat.sub_self, unR]
        have HRes2 := hide hres2
        have hEw : Ext w wr := Below.trans hF3 (Below.mono (hM.below (B := w.heap.size) hF3.le (by omega) (fun k hk => by cases hk)) (Nat.le_refl _))
        clear hres2 HRes hO
        generalize Bit.padErr b q = pe at *
        by_cases hp : pe = 0
        · subst hp
          go_wp2_with fail
          refine CPd.mono ?_
          rintro e w4 ⟨rfl, hQ4⟩
          go_wp2
          go_ret2
          rw [HRes2.out, if_pos trivial]
          have hO' := HO.out
          rw [HOl.out] at hO'
          exact ⟨_, rfl, (hO'.ext hQ4.ext).mono hF3.le, hEw.trans hQ4.ext⟩
        · have hpb : ((pe : Int) == 0) = false := by rw [beq_eq_false_iff_ne]; omega
          go_wp2_with fail
          refine CPd.mono ?_
          rintro e w4 ⟨rfl, hQ4⟩
          go_wp2
          go_ret2
          rw [HRes2.out, if_neg hp]
          exact ⟨_, rfl, OwnI.nil _ _, hEw.trans hQ4.ext⟩

theorem Huf.list_ext {a b : List Int} (hl : a.length = b.length) (h : ∀ i, i < a.length → a.getD i 0 = b.getD i 0) : a = b := by
  refine List.ext_getElem hl fun i h1 h2 => ?_
  have := h i h1
  rwa [List.getD_eq_getElem?_getD, List.getD_eq_getElem?_getD, List.getElem?_eq_getElem h1, List.getElem?_eq_getElem h2] at this
set_option maxHeartbeats 1000000 in
set_option maxRecDepth 100000 in
theorem refSame9_any (A1 A2 : Option Addr) (c1 c2 : Nat) (a b : List Int) (w : World) (h1 : IntsAt w w.heap.size A1 a.length a) (h2 : IntsAt w w.heap.size A2 b.length b) (hn0 : a.length ≤ 140737488355328) :
    Calls Try.prog 19 #[.slice A1 a.length c1, .slice A2 b.length c2] w fun e w' => e = .returned (.bool (decide (a = b))) ∧ Ext w w' := by
  by_cases hl : a.length = b.length
  · have HEq := hide (show (∀ i, i < a.length → a.getD i 0 = b.getD i 0) → decide (a = b) = true from fun h => decide_eq_true (Huf.list_ext hl h))
    have HNe := hide (show ∀ i, a.getD i 0 ≠ b.getD i 0 → decide (a = b) = false from fun i h => decide_eq_false fun e => h (by rw [e]))
    have hlb : ((a.length : Int) != (b.length : Int)) = false := by simp; omega
    have HA := hide h1
    have HB := hide h2
    generalize decide (a = b) = res at *
    rw [← hl] at HB ⊢
    generalize a.length = n at *
    clear h1 h2 hl
    go_enter Try.func19, Try.ntmps19
    go_wp2
    go_loopw [5] (fun x wr => ∃ i : Nat, i ≤ n ∧ x = .int .i64 (i : Int) ∧ (∀ j, j < i → a.getD j 0 = b.getD j 0) ∧ Qt w wr) (fun x _ => n - (intOf x).toNat)
    case atStart => exact ⟨0, by omega, rfl, fun j hj => absurd hj (by omega), Qt.refl _⟩
    case round =>
      obtain ⟨i, hi, rfl, hall, hQ⟩ := hrel
      have HAll := hide hall
      clear hall
      by_cases hlt : i < n
      · have hiI : (i : Int) < (n : Int) := by omega
        rcases (HA.out.later hQ.ext).2 with hn | ⟨b1, o1, rfl, _, hc1⟩
        · omega
        rcases (HB.out.later hQ.ext).2 with hn | ⟨b2, o2, rfl, _, hc2⟩
        · omega
        have e1 := hc1 i hlt
        have e2 := hc2 i hlt
        have hNe := HNe.out i
        clear hc1 hc2
        by_cases he : a.getD i 0 = b.getD i 0
        · have HE := hide he
          obtain ⟨y, hy⟩ : ∃ y, y = b.getD i 0 := ⟨_, rfl⟩
          rw [he, ← hy] at e1
          rw [← hy] at e2
          clear he hNe hy
          go_wp2_with fail
          go_quiet (fail)
          go_wp2
          go_roundw
          case rel => exact ⟨i + 1, by omega, by go_num, fun j hj => (by
            by_cases e : j = i
            · rw [e]; exact HE.out
            · exact HAll.out j (by omega)), hQ.drewN _⟩
          case measure => simp [intOf]; omega
        · have HN := hide (hNe he)
          have heb : (a.getD i 0 != b.getD i 0) = true := by simpa using he
          generalize a.getD i 0 = y1 at *
          generalize b.getD i 0 = y2 at *
          clear hNe he
          go_wp2_with fail
          go_quiet (fail)
          go_wp2
          go_ret
          exact ⟨ret_bool HN.out.symm, (hQ.drewN _).ext⟩
      · obtain rfl : n = i := by omega
        have HN := hide (HEq.out HAll.out)
        go_wp2
        go_ret
        exact ⟨ret_bool HN.out.symm, hQ.ext⟩
  · have HN := hide (show decide (a = b) = false from decide_eq_false fun e => hl (by rw [e]))
    have hlb : ((a.length : Int) != (b.length : Int)) = true := by simp; omega
    generalize decide (a = b) = res at *
    clear h1 h2
    go_enter Try.func19, Try.ntmps19
    go_wp2
    go_ret
    exact ⟨ret_bool HN.out.symm, Ext.refl _⟩
end Go.Proofs.Ytjpmabdnaooglaa

namespace Go.Proofs.Ytjpmabdnaooglaa
open Go.RowKit

def sameB (a b : List UInt8) : Bool := decide (a = b)
theorem sameB_true {a b : List UInt8} (h : a = b) : sameB a b = true := decide_eq_true h
theorem sameB_false {a b : List UInt8} (h : a ≠ b) : sameB a b = false := decide_eq_false h
end Go.Proofs.Ytjpmabdnaooglaa

namespace Go.Proofs.Ytjpmabdnaooglaa
open Go.RowKit

theorem conv_bytes {w : World} {B : Nat} {A : Option Addr} {n : Nat} {l : List UInt8} (c : Nat) (h : Bytes w B A n l) (hA : A = none → n = 0) :
    (convert 22 9 (.slice A n c)).run Try.prog w = .ok (.string ⟨l.toArray⟩) w := by
  obtain ⟨hl, hb⟩ := h
  rcases A with _ | ad
  · obtain rfl := hA rfl
    obtain rfl := List.eq_nil_of_length_eq_zero hl
    exact run_convert_bytes_nil w 22 5 Try.underlying22 Try.underlying5 0 c 9 Try.underlying9
  · subst hl
    refine run_convert_bytes_back w 22 9 5 ad c l Try.underlying22 Try.underlying5 Try.underlying9 fun j hj => ?_
    rcases hb with h0 | ⟨b, off, hA, _, hc⟩
    · omega
    · obtain rfl : ad = ⟨b, off, none⟩ := by injection hA
      have hadd : (⟨b, off, none⟩ : Addr).add j = ⟨b, off + j, none⟩ := by unfold Addr.add; split <;> simp_all
      rw [hadd, hc j hj, List.getD_eq_getElem?_getD, List.getElem?_eq_getElem hj]
      rfl

theorem same_beq (a b : List UInt8) : sameB a b = (a == b) := by
  by_cases h : a = b
  · rw [sameB_true h]; simp [h]
  · rw [sameB_false h]; simp [h]
end Go.Proofs.Ytjpmabdnaooglaa

namespace Go.Proofs.Ytjpmabdnaooglaa
open Go.RowKit

set_option maxHeartbeats 1000000 in
theorem same_any (A1 A2 : Option Addr) (n m c d : Nat) (a b : List UInt8) (w : World) (ha : Bytes w w.heap.size A1 n a) (hb : Bytes w w.heap.size A2 m b) :
    Calls Try.prog 16 #[.slice A1 n c, .slice A2 m d] w fun e w' => e = .returned (.bool (sameB a b)) ∧ Ext w w' := by
  have h1 := conv_bytes c ha (fun h => by subst h; rcases ha.2 with h | ⟨_, _, h, _⟩; exact h; cases h)
  have h2 := conv_bytes d hb (fun h => by subst h; rcases hb.2 with h | ⟨_, _, h, _⟩; exact h; cases h)
  clear ha hb
  go_enter Try.func16, Try.ntmps16
  go_wp2
  go_ret
  exact ⟨ret_bool (same_beq a b).symm, Ext.refl _⟩
end Go.Proofs.Ytjpmabdnaooglaa

namespace Go.Proofs.Ytjpmabdnaooglaa
open Go.RowKit Len Can Huf

/-- From world w on, the program's Pack and Unpack tell what the document's tell. -/
def PackC (w : World) : Prop := ∀ (l : List UInt8) (L : List Int) (A A2 : Option Addr) (n c c2 : Nat) (W : World), Ext w W → n ≤ c → c ≤ maxLen → Bytes W W.heap.size A n l → IntsAt W W.heap.size A2 L.length L → L.length ≤ c2 → L.length ≤ 3000 →
  Calls Try.prog 14 #[.slice A n c, .slice A2 L.length c2] W (PackTo W (packE l L))
def UnpackC (w : World) : Prop := ∀ (l b : List UInt8) (x : Int) (A A2 : Option Addr) (n c n2 c2 : Nat) (W : World), Ext w W → n ≤ c → c ≤ maxLen → Bytes W W.heap.size A n l → n2 ≤ c2 → c2 ≤ maxLen → n2 ≤ 1000000 → Bytes W W.heap.size A2 n2 b → -9223372036854775808 ≤ x → x ≤ 9223372036854775807 →
  Calls Try.prog 17 #[.slice A n c, .int .i64 x, .slice A2 n2 c2] W (UnpackTo W (unpackE l x b))

theorem Huf.unR_len (l b : List UInt8) : ∀ (k q : Nat) (out : List Int), (unR l b k q out).1.length ≤ out.length + k
  | 0, q, out => by
    rw [unR]
    split <;> simp
  | k + 1, q, out => by
    rw [unR]
    split
    · have := unR_len l b k (getE l b q).2.2 (out ++ [(getE l b q).1])
      rw [List.length_append] at this
      simp at this
      omega
    · simp
theorem Huf.unpackE_len (l : List UInt8) (x : Int) (b : List UInt8) : (unpackE l x b).1.length ≤ 100000 := by
  unfold unpackE
  split
  · simp
  · split
    · have := unR_len l b x.toNat 0 []
      simp at this
      omega
    · simp
theorem Huf.pack_ok {l : List UInt8} {L : List Int} (h : (packE l L).2 = 0) : right l = true ∧ L.all (fine l) = true ∧ packE l L = (bitsOf l L, 0) := by
  unfold packE at *
  by_cases h1 : right l = true
  · rw [if_pos h1] at h ⊢
    by_cases h2 : L.all (fine l) = true
    · exact ⟨h1, h2, by rw [if_pos h2]⟩
    · rw [if_neg h2] at h
      simp at h
  · rw [if_neg h1] at h
    simp at h
theorem Huf.un_back_all {l : List UInt8} {L : List Int} (hr : right l = true) (h : L.all (fine l) = true) : ∀ b, Bit.Packs b (bitsOf l L) → L.length ≤ 100000 → unpackE l (L.length : Int) b = (L, 0) := fun b hb hL => by
  have := un_back hr L [] [] h (by simpa using hb)
  unfold unpackE
  rw [if_neg (by omega), if_pos hr, Int.toNat_natCast]
  simpa using this
theorem Huf.bits_len_le {l : List UInt8} (hr : right l = true) : ∀ {L : List Int}, L.all (fine l) = true → (bitsOf l L).length ≤ 15 * L.length
  | [], _ => by simp [bitsOf]
  | s :: r, h => by
    rw [List.all_cons, Bool.and_eq_true] at h
    have h1 := bits_len_le hr h.2
    have h2 := putB_le hr h.1
    rw [bitsOf_cons, List.length_append, List.length_cons]
    omega
theorem Huf.pack_example : packE [1, 3, 3, 2] [0, 3, 1] = ([false, true, false, true, true, false], 0) := by decide +kernel
theorem Huf.pack_bytes : Bit.Packs [88] [false, true, false, true, true, false] := by
  refine ⟨rfl, fun i hi => ?_⟩
  have : ∀ i : Fin 8, Bit.at_ [88] i.val = [false, true, false, true, true, false].getD i.val false := by decide +kernel
  exact this ⟨i, hi⟩
theorem intsNew (w : World) (L : List Int) (cs : Array Value) (t : TypeId) (fr : Nat × Nat) (h : cs = (L.map (Value.int .i64)).toArray) (n : Nat) (hn : L.length = n) :
    IntsAt (w.alloc (.cells cs t fr)) (w.alloc (.cells cs t fr)).heap.size (some ⟨w.heap.size, 0, none⟩) n L := by
  subst h
  subst hn
  refine ⟨rfl, .inr ⟨w.heap.size, 0, rfl, by simp, fun i hi => ?_⟩⟩
  rw [Nat.zero_add, World.cell?_alloc_mark]
  simp [hi]

set_option maxHeartbeats 2000000 in
set_option maxRecDepth 100000 in
theorem alive9_any {w W : World} (hP : PackC w) (hE : Ext w W) : Calls Try.prog 10 #[] W fun e W' => e = .returned (.bool true) ∧ Ext W W' := by
  have hE1 := extNew W (.cells #[.int .u8 1, .int .u8 3, .int .u8 3, .int .u8 2] 5)
  have hb1 := bytesNew W [1, 3, 3, 2] #[.int .u8 1, .int .u8 3, .int .u8 3, .int .u8 2] 5 (0, 0) rfl 4 rfl
  have hE2 := extNew (W.alloc (.cells #[.int .u8 1, .int .u8 3, .int .u8 3, .int .u8 2] 5)) (.cells #[.int .i64 0, .int .i64 3, .int .i64 1] 3)
  have hb2 := hE2.bytes hb1
  have hL2 := intsNew (W.alloc (.cells #[.int .u8 1, .int .u8 3, .int .u8 3, .int .u8 2] 5)) [0, 3, 1] #[.int .i64 0, .int .i64 3, .int .i64 1] 3 (0, 0) rfl 3 rfl
  have C := hP [1, 3, 3, 2] [0, 3, 1] _ _ 4 4 3 _ ((hE.trans hE1).trans hE2) (Nat.le_refl _) (by unfold maxLen; omega) hb2 hL2 (by simp) (by simp)
  rw [pack_example] at C
  rw [World.size_alloc] at C
  have hF := hE1.trans hE2
  clear hb1 hb2 hL2 hE1 hE2 hP
  go_enter Try.func10, Try.ntmps10
  go_wp2_with fail
  refine C.mono ?_
  rintro e w2 ⟨v, bs, rfl, hO, hbs, _, hE3⟩
  obtain rfl := (hbs rfl).uniq pack_bytes
  obtain ⟨A, c, rfl, _, _, hb⟩ := hO.form
  have hE4 := extNew w2 (.cells #[.int .u8 88] 5)
  have hb4 := hE4.bytes hb
  have hb5 := bytesNew w2 [88] #[.int .u8 88] 5 (0, 0) rfl 1 rfl
  have CS := same_any _ _ _ 1 c 1 [88] [88] _ hb4 hb5
  rw [sameB_true rfl] at CS
  have hE5 := (hF.trans hE3).trans hE4
  clear C hO hb hb4 hb5 hbs
  go_wp2_with fail
  refine CS.mono ?_
  rintro e w3 ⟨rfl, hE6⟩
  go_wp2
  go_ret
  exact ⟨rfl, hE5.trans hE6⟩

set_option maxHeartbeats 2000000 in
set_option maxRecDepth 100000 in
theorem huffPacks_walk0 (A1 A2 : Option Addr) (n1 c1 n2 c2 : Nat) (l : List UInt8) (L : List Int) (w : World) (hP : PackC w) (hn1 : n1 ≤ c1) (hc1 : c1 ≤ maxLen) (h1 : Bytes w w.heap.size A1 n1 l) (hn2 : n2 ≤ c2) (h2 : IntsAt w w.heap.size A2 n2 L) :
    Calls Try.prog 4 #[.slice A1 n1 c1, .slice A2 n2 c2] w fun e w' => e = .returned (.bool true) ∧ Ext w w' := by
  have hl2 := h2.1
  subst hl2
  have C0 := alive9_any hP (Ext.refl w)
  by_cases hb1 : 400 < n1
  · have hbI : (400 : Int) < (n1 : Int) := by omega
    go_enter Try.func4, Try.ntmps4
    go_wp2_with fail
    refine C0.mono ?_
    rintro e w1 ⟨rfl, hE1⟩
    go_wp2
    go_ret
    exact ⟨rfl, hE1⟩
  have hb1I : ¬ (400 : Int) < (n1 : Int) := by omega
  by_cases hb2 : 300 < L.length
  · have hbI : (300 : Int) < (L.length : Int) := by omega
    go_enter Try.func4, Try.ntmps4
    go_wp2_with fail
    refine C0.mono ?_
    rintro e w1 ⟨rfl, hE1⟩
    go_wp2
    go_ret
    exact ⟨rfl, hE1⟩
  have hb2I : ¬ (300 : Int) < (L.length : Int) := by omega
  have H1 := hide h1
  have H2 := hide h2
  have HP := hide hP
  clear h1 h2 hP
  go_enter Try.func4, Try.ntmps4
  go_wp2_with fail
  refine C0.mono ?_
  rintro e w1 ⟨rfl, hE1⟩
  have C1 := HP.out l L A1 A2 n1 c1 c2 w1 hE1 hn1 hc1 (hE1.bytes H1.out) (H2.out.later hE1) hn2 (by omega)
  clear C0
  go_wp2_with fail
  refine C1.mono ?_
  rintro e w2 ⟨v2, b2, rfl, hO2, hp2, hn2', hE2⟩
  have hF2 := hE1.trans hE2
  have C2 := refPack9_any A1 A2 n1 c1 c2 l L w2 (hF2.bytes H1.out) (H2.out.later hF2) (by omega)
  clear C1
  generalize packE l L = res at *
  go_wp2_with fail
  refine C2.mono ?_
  rintro e w3 ⟨v3, b3, rfl, hO3, hp3, hn3', hE3⟩
  have hF3 := hF2.trans hE3
  have hb : b2 = b3 := by
    by_cases he : res.2 = 0
    · exact (hp2 he).uniq (hp3 he)
    · rw [hn2' he, hn3' he]
  obtain ⟨A4, c4, rfl, _, _, h4⟩ := (hO2.ext hE3).form
  obtain ⟨A5, c5, rfl, _, _, h5⟩ := hO3.form
  have CS := same_any _ _ _ _ c4 c5 _ _ _ h4 h5
  rw [sameB_true hb] at CS
  have heb : (res.2 == res.2) = true := by simp
  clear hp2 hn2' hp3 hn3' C2 hO2 hO3 h4 h5
  generalize res.2 = er at *
  generalize b2.length = k2 at *
  generalize b3.length = k3 at *
  go_wp2_with fail
  refine CS.mono ?_
  rintro e w4 ⟨rfl, hE4⟩
  go_wp2
  go_ret
  exact ⟨rfl, hF3.trans hE4⟩

set_option maxHeartbeats 2000000 in
set_option maxRecDepth 100000 in
theorem huffUnpacks_walk0 (x : Int) (A1 A2 : Option Addr) (n1 c1 n2 c2 : Nat) (l b : List UInt8) (w : World) (hP : PackC w) (hU : UnpackC w) (hn1 : n1 ≤ c1) (hc1 : c1 ≤ maxLen) (h1 : Bytes w w.heap.size A1 n1 l) (hx0 : -9223372036854775808 ≤ x) (hx1 : x ≤ 9223372036854775807) (hn2 : n2 ≤ c2) (hc2 : c2 ≤ maxLen) (h2 : Bytes w w.heap.size A2 n2 b) :
    Calls Try.prog 5 #[.slice A1 n1 c1, .int .i64 x, .slice A2 n2 c2] w fun e w' => e = .returned (.bool true) ∧ Ext w w' := by
  have C0 := alive9_any hP (Ext.refl w)
  by_cases hb1 : 400 < n1
  · have hbI : (400 : Int) < (n1 : Int) := by omega
    go_enter Try.func5, Try.ntmps5
    go_wp2_with fail
    refine C0.mono ?_
    rintro e w1 ⟨rfl, hE1⟩
    go_wp2
    go_ret
    exact ⟨rfl, hE1⟩
  have hb1I : ¬ (400 : Int) < (n1 : Int) := by omega
  by_cases hb2 : 200 < n2
  · have hbI : (200 : Int) < (n2 : Int) := by omega
    go_enter Try.func5, Try.ntmps5
    go_wp2_with fail
    refine C0.mono ?_
    rintro e w1 ⟨rfl, hE1⟩
    go_wp2
    go_ret
    exact ⟨rfl, hE1⟩
  have hb2I : ¬ (200 : Int) < (n2 : Int) := by omega
  have H1 := hide h1
  have H2 := hide h2
  have HU := hide hU
  clear h1 h2 hU
  go_enter Try.func5, Try.ntmps5
  go_wp2_with fail
  refine C0.mono ?_
  rintro e w1 ⟨rfl, hE1⟩
  have C1 := HU.out l b x A1 A2 n1 c1 n2 c2 w1 hE1 hn1 hc1 (hE1.bytes H1.out) hn2 hc2 (by omega) (hE1.bytes H2.out) hx0 hx1
  clear C0
  go_wp2_with fail
  refine C1.mono ?_
  rintro e w2 ⟨v2, rfl, hO2, hE2⟩
  have hF2 := hE1.trans hE2
  have C2 := refUnpack9_any A1 A2 n1 c1 n2 c2 l b x w2 (hF2.bytes H1.out) (hF2.bytes H2.out) (by omega)
  clear C1
  have hul := unpackE_len l x b
  generalize unpackE l x b = res at *
  go_wp2_with fail
  refine C2.mono ?_
  rintro e w3 ⟨v3, rfl, hO3, hE3⟩
  have hF3 := hF2.trans hE3
  obtain ⟨A4, c4, rfl, _, h4⟩ := (hO2.ext hE3).form
  obtain ⟨A5, c5, rfl, _, h5⟩ := hO3.form
  have CS := refSame9_any A4 A5 c4 c5 _ _ _ h4 h5 (by omega)
  rw [decide_eq_true rfl] at CS
  have heb : (res.2 == res.2) = true := by simp
  clear C2 hO2 hO3 h4 h5 hul
  generalize res.2 = er at *
  generalize res.1.length = k2 at *
  go_wp2_with fail
  refine CS.mono ?_
  rintro e w4 ⟨rfl, hE4⟩
  go_wp2
  go_ret
  exact ⟨rfl, hF3.trans hE4⟩

set_option maxHeartbeats 2000000 in
set_option maxRecDepth 100000 in
theorem huffBack_walk0 (A1 A2 : Option Addr) (n1 c1 n2 c2 : Nat) (l : List UInt8) (L : List Int) (w : World) (hP : PackC w) (hU : UnpackC w) (hn1 : n1 ≤ c1) (hc1 : c1 ≤ maxLen) (h1 : Bytes w w.heap.size A1 n1 l) (hn2 : n2 ≤ c2) (h2 : IntsAt w w.heap.size A2 n2 L) :
    Calls Try.prog 7 #[.slice A1 n1 c1, .slice A2 n2 c2] w fun e w' => e = .returned (.bool true) ∧ Ext w w' := by
  have hl2 := h2.1
  subst hl2
  have C0 := alive9_any hP (Ext.refl w)
  by_cases hb2 : 3000 < L.length
  · have hbI : (3000 : Int) < (L.length : Int) := by omega
    go_enter Try.func7, Try.ntmps7
    go_wp2_with fail
    refine C0.mono ?_
    rintro e w1 ⟨rfl, hE1⟩
    go_wp2
    go_ret
    exact ⟨rfl, hE1⟩
  have hb2I : ¬ (3000 : Int) < (L.length : Int) := by omega
  have H1 := hide h1
  have H2 := hide h2
  have HP := hide hP
  have HU := hide hU
  clear h1 h2 hP hU
  go_enter Try.func7, Try.ntmps7
  go_wp2_with fail
  refine C0.mono ?_
  rintro e w1 ⟨rfl, hE1⟩
  have C1 := HP.out l L A1 A2 n1 c1 c2 w1 hE1 hn1 hc1 (hE1.bytes H1.out) (H2.out.later hE1) hn2 (by omega)
  clear C0
  by_cases he : (packE l L).2 = 0
  · obtain ⟨hr, hfine, hbits⟩ := pack_ok he
    have HBk := hide (un_back_all hr hfine)
    have hlen := bits_len_le hr hfine
    rw [hbits] at C1
    clear he hbits
    go_wp2_with fail
    refine C1.mono ?_
    rintro e w2 ⟨v2, b2, rfl, hO2, hp2, _, hE2⟩
    have hF2 := hE1.trans hE2
    have hpk : Bit.Packs b2 (bitsOf l L) := hp2 rfl
    obtain ⟨A4, c4, rfl, h4c, h4m, h4⟩ := hO2.form
    have hbl : b2.length ≤ 1000000 := by rw [hpk.1]; omega
    have C2 := HU.out l b2 (L.length : Int) A1 A4 n1 c1 b2.length c4 w2 hF2 hn1 hc1 (hF2.bytes H1.out) h4c h4m hbl h4 (by omega) (by omega)
    rw [HBk.out b2 hpk (by omega)] at C2
    clear C1 hO2 hp2 h4 hpk hlen
    go_wp2_with fail
    refine C2.mono ?_
    rintro e w3 ⟨v3, rfl, hO3, hE3⟩
    have hF3 := hF2.trans hE3
    obtain ⟨A5, c5, rfl, _, h5⟩ := hO3.form
    dsimp only at h5 ⊢
    have CS := refSame9_any A5 A2 c5 c2 _ _ _ h5 (H2.out.later hF3) (by omega)
    rw [decide_eq_true rfl] at CS
    clear C2 hO3 h5
    generalize L.length = k2 at *
    go_wp2_with fail
    refine CS.mono ?_
    rintro e w4 ⟨rfl, hE4⟩
    go_wp2
    go_ret
    exact ⟨rfl, hF3.trans hE4⟩
  · generalize packE l L = res at *
    have heb : (res.2 == 0) = false := by rw [beq_eq_false_iff_ne]; exact he
    go_wp2_with fail
    refine C1.mono ?_
    rintro e w2 ⟨v2, b2, rfl, hO2, _, hn2', hE2⟩
    obtain rfl := hn2' he
    obtain ⟨A4, c4, rfl, _⟩ := hO2.form
    have hnl : ([] : List UInt8).length = 0 := rfl
    rw [hnl]
    generalize res.2 = er at *
    clear hnl hO2 hn2' C1
    go_wp2
    go_ret
    exact ⟨rfl, hE1.trans hE2⟩
end Go.Proofs.Ytjpmabdnaooglaa

namespace Go.Proofs.Ytjpmabdnaooglaa
open Go.RowKit Len Can Huf

/-- A predicate 'block g is a coder of the lengths l, and its memory lies in the blocks from lo to hi'. -/
abbrev CodP := World → Nat → Nat → Nat → List UInt8 → Prop
structure CodKeep (CP : CodP) : Prop where
  le : ∀ {W lo hi g l}, CP W lo hi g l → hi ≤ W.heap.size ∧ g < hi
  keep : ∀ {W W' lo hi g l}, CP W lo hi g l → (∀ k, lo ≤ k → k < hi → W'.heap[k]? = W.heap[k]?) → W.heap.size ≤ W'.heap.size → CP W' lo hi g l
theorem CodKeep.below {CP : CodP} (h : CodKeep CP) {W W' : World} {lo hi g B : Nat} {l : List UInt8} (hc : CP W lo hi g l) (hb : Below B W W') (hB : hi ≤ B) : CP W' lo hi g l :=
  h.keep hc (fun k _ hk => hb.block k (by omega)) hb.size
theorem CodKeep.ext {CP : CodP} (h : CodKeep CP) {W W' : World} {lo hi g : Nat} {l : List UInt8} (hc : CP W lo hi g l) (hE : Ext W W') : CP W' lo hi g l := h.below hc hE (h.le hc).1
theorem CodKeep.mod {CP : CodP} (h : CodKeep CP) {W W' : World} {lo hi g gw : Nat} {ob : Option Nat} {l : List UInt8} (hc : CP W lo hi g l) (hM : Mod W W' gw ob) (hg : gw < lo ∨ hi ≤ gw) (ho : ∀ k, ob = some k → k < lo ∨ hi ≤ k) : CP W' lo hi g l :=
  h.keep hc (fun k h1 h2 => hM.block k (by have := (h.le hc).1; omega) (by omega) (fun e => by have := ho k e.symm; omega)) hM.size
/-- What New tells. -/
def NewTo (CP : CodP) (W : World) (l : List UInt8) (e : Ending) (w' : World) : Prop :=
  (right l = true → ∃ g, e = .returned (.tuple #[.pointer (some ⟨g, 0, none⟩), .int .i64 0]) ∧ CP w' W.heap.size w'.heap.size g l) ∧ (right l = false → e = .returned (.tuple #[.pointer none, .int .i64 7])) ∧ Ext W w'
/-- From world w on. -/
def NewC (CP : CodP) (w : World) : Prop := ∀ (l : List UInt8) (A : Option Addr) (n c : Nat) (W : World), Ext w W → n ≤ c → c ≤ maxLen → Bytes W W.heap.size A n l → Calls Try.prog 11 #[.slice A n c] W (NewTo CP W l)
def GetC (CP : CodP) (w : World) : Prop := ∀ (l b : List UInt8) (lo hi g gr base q : Nat) (W : World), Ext w W → CP W lo hi g l → right l = true → Rdr W base gr b q → hi ≤ gr →
  Calls Try.prog 24 #[.pointer (some ⟨g, 0, none⟩), .pointer (some ⟨gr, 0, none⟩)] W fun e w' => e = .returned (.tuple #[.int .i64 (getE l b q).1, .int .i64 (getE l b q).2.1]) ∧ Rdr w' base gr b (getE l b q).2.2 ∧ Mod W w' gr none
def PutC (CP : CodP) (w : World) : Prop := ∀ (l : List UInt8) (lo hi g gw base : Nat) (ob : Option Nat) (B : List Bool) (s : Int) (W : World), Ext w W → CP W lo hi g l → right l = true → Wrt W base gw ob B → (gw < lo ∨ hi ≤ gw) → (∀ k, ob = some k → k < lo ∨ hi ≤ k) → B.length ≤ 100000 → -9223372036854775808 ≤ s → s ≤ 9223372036854775807 →
  Calls Try.prog 30 #[.pointer (some ⟨g, 0, none⟩), .pointer (some ⟨gw, 0, none⟩), .int .i64 s] W (Puts W base gw ob (B ++ putX l s) (putE l s))
end Go.Proofs.Ytjpmabdnaooglaa

namespace Go.Proofs.Ytjpmabdnaooglaa
open Go.RowKit Len Can Huf

theorem coder_info : (Try.prog.info? 73).map (·.size) = some 4 := by kernel_rfl
/-- Block g is a coder of the lengths l; its memory lies in the blocks from lo to below hi. -/
def CodR (W : World) (lo hi g : Nat) (l : List UInt8) : Prop :=
  lo ≤ g ∧ g < hi ∧ hi ≤ W.heap.size ∧ ∃ A1 c1 A2 c2 A3 c3 A4 c4 O, Whole W g 73 #[.slice A1 l.length c1, .slice A2 l.length c2, .slice A3 O.length c3, .slice A4 O.length c4] ∧ Tabs W lo hi A1 A2 A3 A4 l O
theorem CodR.keeps : CodKeep CodR where
  le := fun h => ⟨h.2.2.1, h.2.1⟩
  keep := fun {W W' lo hi g l} ⟨h1, h2, h3, A1, c1, A2, c2, A3, c3, A4, c4, O, hW, hT⟩ hk hs => by
    have cell : ∀ {b i : Nat} {v : Value}, W.cell? ⟨b, i, none⟩ = some v → lo ≤ b → b < hi → W'.cell? ⟨b, i, none⟩ = some v := fun hc h1 h2 => (World.cell?_of_block (a := ⟨_, _, none⟩) (hk _ h1 h2)).trans hc
    refine ⟨h1, h2, Nat.le_trans h3 hs, A1, c1, A2, c2, A3, c3, A4, c4, O, (hk g h1 h2).trans hW, ⟨⟨hT.lens.1, ?_⟩, ⟨hT.words.1, ?_⟩, ⟨hT.syms.1, ?_⟩, ⟨hT.starts.1, ?_⟩, hT.ord, hT.low1, hT.low2, hT.low3, hT.low4⟩⟩
    · exact hT.lens.2.imp_right fun ⟨b, o, hA, hB, hc⟩ => ⟨b, o, hA, hB, fun i hi => cell (hc i hi) (hT.low1 b o hA) hB⟩
    · exact hT.words.2.imp_right fun ⟨b, o, hA, hB, hc⟩ => ⟨b, o, hA, hB, fun i hi => cell (hc i hi) (hT.low2 b o hA) hB⟩
    · exact hT.syms.2.imp_right fun ⟨b, o, hA, hB, hc⟩ => ⟨b, o, hA, hB, fun i hi => cell (hc i hi) (hT.low3 b o hA) hB⟩
    · exact hT.starts.2.imp_right fun ⟨b, o, hA, hB, hc⟩ => ⟨b, o, hA, hB, fun i hi => cell (hc i hi) (hT.low4 b o hA) hB⟩
theorem CodR.tab {W : World} {lo hi g : Nat} {l : List UInt8} (h : CodR W lo hi g l) : TabAt W hi g l := by
  obtain ⟨_, _, _, A1, c1, A2, c2, A3, c3, A4, c4, O, hW, hT⟩ := h
  exact ⟨A1, c1, A2, c2, A3, c3, A4, c4, O, hW.at 0 rfl, hW.at 1 rfl, hW.at 2 rfl, hW.at 3 rfl, hT.lens, hT.words, hT.syms, hT.starts, hT.ord⟩
theorem Tabs.ext {w w' : World} {lo hi : Nat} {A1 A2 A3 A4 : Option Addr} {l : List UInt8} {O : List Nat} (h : Tabs w lo hi A1 A2 A3 A4 l O) (hE : Below hi w w') {hi' : Nat} (hh : hi ≤ hi') : Tabs w' lo hi' A1 A2 A3 A4 l O :=
  ⟨(h.lens.below hE (Nat.le_refl _)).mono hh, (h.words.below hE (Nat.le_refl _)).mono hh, ints_mono (h.syms.below hE (Nat.le_refl _)) hh, (h.starts.below hE (Nat.le_refl _)).mono hh, h.ord, h.low1, h.low2, h.low3, h.low4⟩

set_option maxHeartbeats 1000000 in
set_option maxRecDepth 100000 in
theorem hufNew_any (A : Option Addr) (n c : Nat) (l : List UInt8) (w : World) (hc : n ≤ c) (h : Bytes w w.heap.size A n l) : Calls Try.prog 11 #[.slice A n c] w (NewTo CodR w l) := by
  have C := tableOf_any A n c l w hc h
  cases hr : right l with
  | false =>
    have HR := hide hr
    clear hr h
    go_enter Try.func11, Try.ntmps11
    go_wp2_with fail
    refine C.mono ?_
    rintro e w2 ⟨_, hno, hE⟩
    obtain rfl := hno HR.out
    have hW := Whole.new w2 69 #[.slice none 0 0, .slice none 0 0, .slice none 0 0, .slice none 0 0]
    have hE2 := hE.alloc (.cells #[.slice none 0 0, .slice none 0 0, .slice none 0 0, .slice none 0 0] 69)
    have hle := hE.le
    clear C hno
    go_wp2_with (refine wpList_storeW rfl 69 (.tmp 4) (.tmp 9) rfl rfl rfl hW rfl tab_info (four_slices ..) ?_; intro w5 hW5 hG5 hS5; clear hS5)
    go_ret2
    exact ⟨(fun h => by rw [HR.out] at h; cases h), fun _ => rfl, Below.grown hE2 hG5 hE2.le (fun k hk => by cases hk; exact hle)⟩
  | true =>
    have HR := hide hr
    clear hr h
    go_enter Try.func11, Try.ntmps11
    go_wp2_with fail
    refine C.mono ?_
    rintro e w2 ⟨hyes, _, hE⟩
    obtain ⟨A1, c1, A2, c2, A3, c3, A4, c4, O, rfl, hT⟩ := hyes HR.out
    have hW := Whole.new w2 69 #[.slice none 0 0, .slice none 0 0, .slice none 0 0, .slice none 0 0]
    have hE2 := hE.alloc (.cells #[.slice none 0 0, .slice none 0 0, .slice none 0 0, .slice none 0 0] 69)
    have hT2 := hT.ext (extNew w2 (.cells #[.slice none 0 0, .slice none 0 0, .slice none 0 0, .slice none 0 0] 69)) (Nat.le_refl _)
    have HT := hide hT2
    have hle := hE.le
    clear C hyes hT hT2
    go_wp2_with (first
      | (refine wpList_storeW rfl 69 (.tmp 4) (.tmp 9) rfl rfl rfl hW rfl tab_info (four_slices ..) ?_; intro w5 hW5 hG5 hS5; clear hS5)
      | (refine wpList_load_row rfl 69 (.tmp 4) rfl _ rfl _ _ _ _ hW5 Try.underlying69 rfl tab_info ?_))
    go_ret2
    have hB5 : Below w2.heap.size (w2.alloc (.cells #[.slice none 0 0, .slice none 0 0, .slice none 0 0, .slice none 0 0] 69)) w5 := Below.grown (Below.refl _ _) hG5 (by simp) (fun k hk => by cases hk; exact Nat.le_refl _)
    have hF5 : Ext w w5 := Below.grown hE2 hG5 hE2.le (fun k hk => by cases hk; exact hle)
    have hsz := hG5.size
    rw [World.size_alloc] at hsz
    have hT5 := HT.out.ext hB5 (hi' := w2.heap.size) (Nat.le_refl _)
    have hT6 := hT5.ext (Below.mono (extNew w5 (.cells #[.slice A1 l.length c1, .slice A2 l.length c2, .slice A3 O.length c3, .slice A4 O.length c4] 73)) (by omega)) (hi' := w5.heap.size + 1) (by omega)
    refine ⟨fun _ => ⟨w5.heap.size, rfl, by omega, by simp, Nat.le_refl _, A1, c1, A2, c2, A3, c3, A4, c4, O, Whole.new w5 _ _, ?_⟩, (fun h => by rw [HR.out] at h; cases h), hF5.alloc _⟩
    rw [World.size_alloc]
    exact hT6
theorem newC_any (w : World) : NewC CodR w := fun l A n c W _ hc _ hb => hufNew_any A n c l W hc hb

theorem hufLenNil_any (s : Int) (w : World) : Calls Try.prog 13 #[.pointer none, .int .i64 s] w fun e w' => e = .returned (.int .i64 0) ∧ w = w' := by
  go_enter Try.func13, Try.ntmps13
  go_wp2
  go_ret
  exact ⟨rfl, rfl⟩
theorem hufLen_any {w : World} {lo hi g : Nat} {l : List UInt8} (h : CodR w lo hi g l) (s : Int) : Calls Try.prog 13 #[.pointer (some ⟨g, 0, none⟩), .int .i64 s] w fun e w' => e = .returned (.int .i64 ((lenX l s : Nat) : Int)) ∧ w = w' := by
  obtain ⟨A1, c1, A2, c2, A3, c3, A4, c4, O, e1, _, _, _, h1, _⟩ := h.tab
  have CL := hlength_any e1 h1 s
  clear h h1 e1
  go_enter Try.func13, Try.ntmps13
  go_wp2_with fail
  refine CL.mono ?_
  rintro e w' ⟨rfl, rfl⟩
  go_wp2
  go_ret
  exact ⟨rfl, rfl⟩

theorem hufPutNil_any (p : Value) (s : Int) (w : World) : Calls Try.prog 30 #[.pointer none, p, .int .i64 s] w fun e w' => e = .returned (.int .i64 7) ∧ w = w' := by
  go_enter Try.func30, Try.ntmps30
  go_wp2
  go_ret
  exact ⟨rfl, rfl⟩
theorem hufPutNo_any (g : Nat) (s : Int) (w : World) : Calls Try.prog 30 #[.pointer (some ⟨g, 0, none⟩), .pointer none, .int .i64 s] w fun e w' => e = .returned (.int .i64 13) ∧ w = w' := by
  go_enter Try.func30, Try.ntmps30
  go_wp2
  go_ret
  exact ⟨rfl, rfl⟩

set_option maxHeartbeats 1000000 in
set_option maxRecDepth 100000 in
theorem hufPut_any {w : World} {lo hi g gw base : Nat} {ob : Option Nat} {B : List Bool} {l : List UInt8} (h : CodR w lo hi g l) (hr : right l = true) (hw : Wrt w base gw ob B) (hB : B.length ≤ 800000000) (s : Int) :
    Calls Try.prog 30 #[.pointer (some ⟨g, 0, none⟩), .pointer (some ⟨gw, 0, none⟩), .int .i64 s] w (Puts w base gw ob (B ++ putX l s) (putE l s)) := by
  obtain ⟨A1, c1, A2, c2, A3, c3, A4, c4, O, e1, e2, _, _, h1, h2, _⟩ := h.tab
  have CL := fun W (hE : Ext w W) => hlength_any (w := W) ((hE.cell (World.block_lt_of_cell? w _ e1)).trans e1) (h1.below hE h.2.2.1) s
  cases hf : fine l s with
  | false =>
    rw [(lenX_fine l s).2 hf] at CL
    have HX := hide (show putX l s = [] by unfold putX; rw [hf]; rfl)
    have HP := hide (put_bad hf)
    have HW := hide hw
    have CL0 := CL w (Ext.refl w)
    clear h hr hw h1 h2 CL hf
    go_enter Try.func30, Try.ntmps30
    go_wp2_with fail
    refine CL0.mono ?_
    rintro e w' ⟨rfl, rfl⟩
    go_wp2
    go_ret
    exact ⟨ret_i64 HP.out.symm, ob, by rw [HX.out, List.append_nil]; exact HW.out, .inl rfl, Mod.refl _ _ _⟩
  | true =>
    obtain ⟨k0, k1, k2⟩ := of_decide_eq_true hf
    obtain ⟨k, rfl⟩ := Int.eq_ofNat_of_zero_le k0
    rw [Int.toNat_natCast] at k2
    have hkl : k < l.length := by omega
    rw [lenX_at hkl] at CL
    obtain ⟨_, h15, _⟩ := right_facts hr
    have hy15 := h15 k hkl
    rcases h2.2 with hn | ⟨b2, o2, rfl, hb2, hc2⟩
    · omega
    have e3 := hc2 k hkl
    rw [codesL_at hkl] at e3
    have hwf := word_fits hr hkl k2
    have hwl := word_lt hr hkl
    have HX := hide (show putX l (k : Int) = Bit.num (word l k) (lenAt l k) by unfold putX; rw [if_pos hf]; unfold putB; rw [Int.toNat_natCast])
    have HP := hide (put_fine hf)
    have CP := fun W (hW : Wrt W base gw ob B) => put_any hW (word l k) ((lenAt l k : Nat) : Int) (by omega)
    have hg := Bit.put_good (x := word l k) (n := ((lenAt l k : Nat) : Int)) (decide_eq_true ⟨by omega, by omega, by rw [Int.toNat_natCast]; exact hwf⟩)
    simp only [hg.1, hg.2, Int.toNat_natCast] at CP
    have HW := hide hw
    have hyb : ((lenAt l k : Int) == 0) = false := by rw [beq_eq_false_iff_ne]; omega
    have CL0 := CL w (Ext.refl w)
    have CL1 := CL w.drew (Ext.refl w).drew
    clear h hr hw h1 h2 CL hf hg hwf hc2 h15
    generalize word l k = x at *
    generalize lenAt l k = y at *
    go_enter Try.func30, Try.ntmps30
    go_wp2_with fail
    refine CL0.mono ?_
    rintro e w' ⟨rfl, rfl⟩
    clear CL0
    go_wp2_with fail
    refine wp_region_still_tail 15 (by kernel_rfl) (by kernel_rfl) ?_
    simp only [List.take_succ_cons, List.take_zero, List.drop_succ_cons, List.drop_zero]
    repeat still_step
    still_call (CL1.mono fun _ _ ⟨h1, h2⟩ => ⟨h1, h2.symm⟩)
    repeat still_step
    try refine wpStill_nil ?_
    change wpList _ _ _ _ _ (World.drew _)
    go_wp2_with fail
    refine (CP _ (HW.out.ext (Ext.refl w).drew)).mono ?_
    rintro e w2 ⟨rfl, ob2, hW2, hN2, hM2⟩
    go_wp2
    go_ret
    exact ⟨ret_i64 HP.out.symm, ob2, by rw [HX.out]; exact hW2, hN2, (Mod.ofExt (Ext.refl w).drew).trans hM2 (.inl rfl)⟩
theorem putC_any (w : World) : PutC CodR w := fun _ _ _ _ _ _ _ _ s _ _ hC hr hw _ _ hB _ _ => hufPut_any hC hr hw (by omega) s

theorem Huf.getE_cases (l b : List UInt8) (q : Nat) : (∃ s, s < l.length ∧ (getE l b q).1 = (s : Int) ∧ (getE l b q).2.1 = 0 ∧ (getE l b q).2.2 = q + lenAt l s ∧ lenAt l s ≤ 8 * b.length - q) ∨ ((getE l b q).1 = -1 ∧ (getE l b q).2.1 ≠ 0 ∧ (getE l b q).2.2 = q) := by
  unfold getE
  cases hf : (List.range l.length).find? (hit l b q) with
  | some s =>
    have h1 := List.find?_some hf
    have h2 := List.mem_range.1 (List.mem_of_find?_eq_some hf)
    exact .inl ⟨s, h2, rfl, rfl, rfl, (of_decide_eq_true h1).2.1⟩
  | none =>
    right
    dsimp only
    split <;> simp

set_option maxHeartbeats 1000000 in
set_option maxRecDepth 100000 in
theorem hufGet_any {w : World} {lo hi g gr base q : Nat} {l b : List UInt8} (h : CodR w lo hi g l) (hr : right l = true) (hR : Rdr w base gr b q) :
    Calls Try.prog 24 #[.pointer (some ⟨g, 0, none⟩), .pointer (some ⟨gr, 0, none⟩)] w fun e w' => e = .returned (.tuple #[.int .i64 (getE l b q).1, .int .i64 (getE l b q).2.1]) ∧ Rdr w' base gr b (getE l b q).2.2 ∧ Mod w w' gr none := by
  have CF := fun n : Nat => Calls.quiet_of (hfind_any (h.tab.drewN n) hr b q)
  have CK : ∀ n : Nat, Calls Try.prog 43 #[.pointer (some ⟨gr, 0, none⟩), .int .i64 15] (w.drewN n) fun e w' => e = .returned (.tuple #[.int .u64 ((nextN b q : Nat) : Int), .int .i64 ((thereN b q : Nat) : Int)]) ∧ ∃ m, w' = w.drewN m := fun n => Calls.quiet_of (peek_any (hR.ext ((Ext.refl w).drewN n)) 15)
  obtain ⟨A1, c1, A2, c2, A3, c3, A4, c4, O, e1, _, _, _, h1, _⟩ := h.tab
  have CL := fun m (s : Int) => hlength_any (w := w.drewN m) (c := c1) (e1 : (w.drewN m).cell? ⟨g, 0, none⟩ = _) (h1.below ((Ext.refl w).drewN m) h.2.2.1) s
  have hRr := fun m => hR.ext ((Ext.refl w).drewN m)
  have HRr := hide hRr
  have hcs := Huf.getE_cases l b q
  have HSk := hide (fun m (n : Int) => skip_any (hRr m) n)
  have HLx := hide (show ∀ s, s < l.length → lenX l (s : Int) = lenAt l s from fun s hs => lenX_at hs)
  have HM := hide (show ∀ m, Mod w (w.drewN m) gr none from fun m => Mod.ofExt ((Ext.refl w).drewN m))
  clear h hR hr h1 e1 hRr
  generalize nextN b q = N at *
  generalize thereN b q = th at *
  generalize getE l b q = r at *
  obtain ⟨r1, r2, r3⟩ := r
  dsimp only at CF hcs ⊢
  rcases hcs with ⟨s, hs, rfl, rfl, rfl, hlt⟩ | ⟨rfl, hne, rfl⟩
  · have hls := HLx.out s hs
    have CL1 := fun m => CL m (s : Int)
    rw [hls] at CL1
    have HE := hide (show Bit.skipErr (8 * b.length - q) ((lenAt l s : Nat) : Int) = 0 by unfold Bit.skipErr; rw [if_pos (by omega), if_pos (by omega)])
    have HTo := hide (show Bit.skipTo (8 * b.length - q) q ((lenAt l s : Nat) : Int) = q + lenAt l s by unfold Bit.skipTo; rw [HE.out, if_pos rfl, Int.toNat_natCast])
    clear hls CL
    generalize lenAt l s = y at *
    go_enter Try.func24, Try.ntmps24
    go_wp2_with fail
    go_quiet (first | (go_at_call 43; exact CK _) | (go_at_call 42; exact CF _))
    have CL2 := CL1 nq
    have CS := HSk.out nq ((y : Nat) : Int)
    rw [HE.out, HTo.out] at CS
    clear HE HTo CL1 CF CK
    go_wp2_with fail
    refine CL2.mono ?_
    rintro e w' ⟨rfl, rfl⟩
    go_wp2_with fail
    refine CS.mono ?_
    rintro e w4 ⟨rfl, hR4, hM4⟩
    go_wp2
    go_ret2
    exact ⟨rfl, hR4, (HM.out nq).trans hM4 (.inl rfl)⟩
  · have hnb : ((r2 : Int) != 0) = true := by rw [bne_iff_ne]; exact hne
    go_enter Try.func24, Try.ntmps24
    go_wp2_with fail
    go_quiet (first | (go_at_call 43; exact CK _) | (go_at_call 42; exact CF _))
    go_wp2
    go_ret2
    exact ⟨rfl, HRr.out nq, HM.out nq⟩
theorem getC_any (w : World) : GetC CodR w := fun _ _ _ _ _ _ _ _ _ _ hC hr hR _ => hufGet_any hC hr hR
end Go.Proofs.Ytjpmabdnaooglaa

