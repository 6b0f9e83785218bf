/- The chapter's example is met: the first test of each law. What the calls of chapter 1 give in whatever later world: the form in which the laws use them. Contracts of the sum as bytes, and of what is put behind bytes. -/
import Derived.Test.YtkfipfhmbhmamaaDoorB02
import Derived.Lib.SlBytesConst
namespace Go.Proofs.YtkfipfhmbhmamaaDoor
open Go.RowKit

theorem Crc.sum_example : Crc.sum [49, 50, 51, 52, 53, 54, 55, 56, 57] = 3421780262 := by decide +kernel

end Go.Proofs.YtkfipfhmbhmamaaDoor

namespace Go.Proofs.YtkfipfhmbhmamaaDoor
open Go.RowKit

theorem Ext.tab {a b : World} (h : Ext a b) (ht : Tab a) (h0 : 0 < a.heap.size) : Tab b := ht.below h h0

/-- What a call answers, in whatever later world: v; and it leaves what there was. -/
def Gives (w : World) (f : Nat) (args : Array Value) (v : Value) : Prop := ∀ W, Ext w W → Calls Tryd.prog f args W fun e w' => e = .returned v ∧ Ext w w' ∧ Ext W w'

theorem sum_gives {w : World} {A : Option Addr} {n : Nat} {l : List UInt8} (c : Nat) (hn : n ≤ maxLen) (h0 : 0 < w.heap.size) (ht : Tab w) (hb : Bytes w w.heap.size A n l) :
    Gives w 46 #[.slice A n c] (.int .u32 (Crc.sum l : Nat)) := fun _ h =>
  (sum_any A n c l _ hn (Nat.lt_of_lt_of_le h0 h.size) (h.tab ht h0) (h.bytes hb)).mono fun _ _ ⟨he, hw⟩ => ⟨he, h.trans hw, hw⟩
theorem refSum_gives {w : World} {A : Option Addr} {n : Nat} {l : List UInt8} (c : Nat) (hn : n ≤ maxLen) (hb : Bytes w w.heap.size A n l) :
    Gives w 37 #[.slice A n c] (.int .u32 (Crc.sum l : Nat)) := fun W h =>
  (refSum_any A n c l _ hn (h.bytes hb)).mono fun _ _ ⟨he, hw⟩ => ⟨he, hw ▸ h, hw ▸ Ext.refl W⟩

/-- The sum of bytes that have this sum with others behind them. -/
def Crc.more (s : Nat) (ls : List (List UInt8)) : Nat := 4294967295 - Crc.folds (4294967295 - s) ls
theorem Crc.fold_le (x : Nat) (l : List UInt8) (h : x ≤ 4294967295) : Crc.fold x l ≤ 4294967295 := by
  have := Crc.fold_lt l x (by omega)
  omega
theorem Crc.sum_le (l : List UInt8) : Crc.sum l ≤ 4294967295 := by unfold Crc.sum; omega
theorem Crc.more_sum (l : List UInt8) (ls : List (List UInt8)) : Crc.more (Crc.sum l) ls = Crc.sum (l ++ ls.flatten) := by
  have h := Crc.fold_le 4294967295 l (by omega)
  unfold Crc.more Crc.sum Crc.folds
  rw [Crc.fold_append]
  congr 2
  omega
theorem Crc.more_nothing (l : List UInt8) : Crc.more (Crc.sum l) [] = Crc.sum l := by rw [Crc.more_sum]; simp
theorem Crc.more_zero (ls : List (List UInt8)) : Crc.more 0 ls = Crc.sum ls.flatten := rfl

/-- A part: a slice in a cell. -/
def Part (w : World) (v : Value) (l : List UInt8) : Prop := ∃ A n c, v = .slice A n c ∧ n ≤ maxLen ∧ Bytes w w.heap.size A n l
/-- A block that holds just these values. -/
def Laid (W : World) (g : Nat) (vs : List Value) : Prop := g < W.heap.size ∧ ∀ i, i < vs.length → W.cell? ⟨g, i, none⟩ = some (vs.getD i undef)
theorem Laid.new (w : World) (vs : List Value) (t : TypeId) : Laid (w.alloc (.cells vs.toArray t)) w.heap.size vs :=
  ⟨by simp, fun i hi => by rw [cellNew]; simp [hi]⟩
theorem Laid.ext {w W : World} {g : Nat} {vs : List Value} (h : Laid w g vs) (hE : Ext w W) : Laid W g vs :=
  ⟨Nat.lt_of_lt_of_le h.1 hE.le, fun i hi => by rw [hE.cell h.1]; exact h.2 i hi⟩
/-- Parts that were just laid in a block of their own, in an earlier world. -/
theorem parts_at {w W : World} {g n : Nat} {vs : List Value} {ls : List (List UInt8)} (h : Ext w W) (hn : vs.length = n) (hl : ls.length = n) (hg : Laid W g vs)
    (hp : ∀ i, i < n → Part w (vs.getD i undef) (ls.getD i [])) : Parts W W.heap.size (some ⟨g, 0, none⟩) n ls := by
  refine ⟨hl, .inr ⟨g, 0, rfl, hg.1, fun i hi => ?_⟩⟩
  obtain ⟨A, n', c', hv, hn', hb⟩ := hp i hi
  exact ⟨A, n', c', by rw [Nat.zero_add, hg.2 i (by omega), hv], hn', h.bytes hb⟩
theorem more_gives {w : World} {n : Nat} {vs : List Value} {ls : List (List UInt8)} {s : Nat} (hs : s < 4294967296) (h0 : 0 < w.heap.size) (ht : Tab w) (hn : vs.length = n) (hl : ls.length = n) (h63 : n ≤ 1000)
    (hp : ∀ i, i < n → Part w (vs.getD i undef) (ls.getD i [])) (W : World) (h : Ext w W) (g c : Nat) (hg : Laid W g vs) :
    Calls Tryd.prog 67 #[.int .u32 s, .slice (some ⟨g, 0, none⟩) n c] W fun e w' => e = .returned (.int .u32 (Crc.more s ls : Nat)) ∧ Ext w w' ∧ Ext W w' :=
  (more_any s _ n c ls W hs (by unfold maxLen; omega) (h.tab ht h0) (parts_at h hn hl hg hp)).mono fun _ _ ⟨he, hw⟩ => ⟨he, hw ▸ h, hw ▸ Ext.refl W⟩
theorem Parts.ext {w W : World} {A : Option Addr} {n : Nat} {ls : List (List UInt8)} (hp : Parts w w.heap.size A n ls) (h : Ext w W) : Parts W W.heap.size A n ls := by
  refine ⟨hp.1, ?_⟩
  rcases hp.2 with h0 | ⟨b, off, hA, hB, hc⟩
  · exact .inl h0
  · refine .inr ⟨b, off, hA, Nat.lt_of_lt_of_le hB h.le, fun i hi => ?_⟩
    obtain ⟨A', n', c', h1, h2, h3⟩ := hc i hi
    exact ⟨A', n', c', by rw [h.cell hB]; exact h1, h2, h.bytes h3⟩
theorem more_parts_gives {w : World} {A : Option Addr} {n : Nat} {ls : List (List UInt8)} {s : Nat} (c : Nat) (hs : s < 4294967296) (ht : Tab w) (h0 : 0 < w.heap.size) (hn : n ≤ maxLen) (hp : Parts w w.heap.size A n ls) :
    Gives w 67 #[.int .u32 s, .slice A n c] (.int .u32 (Crc.more s ls : Nat)) := fun W h =>
  (more_any s A n c ls W hs hn (h.tab ht h0) (hp.ext h)).mono fun _ _ ⟨he, hw⟩ => ⟨he, hw ▸ h, hw ▸ Ext.refl W⟩
theorem refMore_gives {w : World} {A : Option Addr} {n : Nat} {l : List UInt8} {s : Nat} (c : Nat) (hs : s < 4294967296) (hn : n ≤ maxLen) (hb : Bytes w w.heap.size A n l) :
    Gives w 60 #[.int .u32 s, .slice A n c] (.int .u32 (Crc.more s [l] : Nat)) := fun W h =>
  (refMore_any s A n c l W hs hn (h.bytes hb)).mono fun _ _ ⟨he, hw⟩ => ⟨by rw [he]; simp [Crc.more, Crc.folds], hw ▸ h, hw ▸ Ext.refl W⟩
theorem more_none_gives {w : World} {s : Nat} (hs : s < 4294967296) (h0 : 0 < w.heap.size) (ht : Tab w) :
    Gives w 67 #[.int .u32 s, .slice none 0 0] (.int .u32 (Crc.more s [] : Nat)) := fun W h =>
  (more_any s _ 0 0 [] W hs (by unfold maxLen; omega) (h.tab ht h0) ⟨rfl, .inl rfl⟩).mono fun _ _ ⟨he, hw⟩ => ⟨he, hw ▸ h, hw ▸ Ext.refl W⟩
end Go.Proofs.YtkfipfhmbhmamaaDoor

namespace Go.Proofs.YtkfipfhmbhmamaaDoor
open Go.RowKit

/-- The sum as four bytes, the lowest first. -/
def Crc.tail (s : Nat) : List UInt8 := [UInt8.ofNat s, UInt8.ofNat (s / 256), UInt8.ofNat (s / 65536), UInt8.ofNat (s / 16777216)]
def Crc.put (l : List UInt8) : List UInt8 := l ++ Crc.tail (Crc.sum l)
theorem byteV_of (x : Nat) : byteV (UInt8.ofNat x) = .int .u8 ((x : Int) % 256) := by
  unfold byteV
  rw [UInt8.toNat_ofNat']
  simp
theorem Crc.tail_cells (s : Nat) (h : s < 4294967296) : #[Value.int .u8 ((s : Int) % 256), Value.int .u8 ((s : Int) / 256 % 256), Value.int .u8 ((s : Int) / 65536 % 256), Value.int .u8 ((s : Int) / 16777216)] = ((Crc.tail s).map byteV).toArray := by
  have e : (s : Int) / 16777216 = (s : Int) / 16777216 % 256 := by omega
  rw [e]
  simp [Crc.tail, byteV_of]

set_option maxHeartbeats 400000 in
theorem sumAsBytes_any (s : Nat) (w : World) (h : s < 4294967296) :
    Calls Tryd.prog 45 #[.int .u32 s] w (MadeB w (Crc.tail s)) := by
  have ho := OwnB.lit w _ (Crc.tail s) 4 (Crc.tail_cells s h) rfl (by omega) (Nat.le_refl _)
  have HO := hide ho
  clear ho
  go_enter Tryd.func45, Tryd.ntmps45
  go_wp2
  go_ret
  exact ⟨_, rfl, HO.out, extNew _ _⟩

set_option maxHeartbeats 1000000 in
theorem crcPut_any (A : Option Addr) (n c : Nat) (l : List UInt8) (w : World) (hn : n ≤ 1000000) (ht : Tab w) (h0 : 0 < w.heap.size) (hb : Bytes w w.heap.size A n l) :
    Calls Tryd.prog 28 #[.slice A n c] w (MadeB w (Crc.put l)) := by
  obtain ⟨i, hi, hz, hs, hby⟩ := info_parts byte_info
  have hi4 : i.bytes * (n + 4) ≤ 281474976710656 := by rw [hby]; omega
  have hm4 : n + 4 ≤ maxLen := by unfold maxLen; omega
  have C1 := sum_gives c (by unfold maxLen; omega) h0 ht hb
  have hS := Crc.sum_le l
  have HP := hide (show Crc.put l = [] ++ l ++ Crc.tail (Crc.sum l) from rfl)
  have hll := hb.1
  generalize Crc.sum l = S at *
  go_enter Tryd.func28, Tryd.ntmps28
  go_wp2_with (first
    | (at_make; refine wpList_make_own _ rfl _ _ _ rfl w.heap.size 5 i _ 1 Tryd.underlying27 hi hz hs _ _ _ (n + 4) rfl rfl (by omega) hi4 hm4 (Nat.le_refl _) ?_; intro w1 hown1 hg1; have ho1 : OwnB w1 w.heap.size _ [] := hown1; have hE1 : Ext w w1 := (Ext.refl w).grown' hg1; have hb1 := hE1.bytes hb)
    | (at_builtin; refine wpList_app rfl (.tmp 8) (.tmp 9) rfl rfl ho1 rfl hb1 (by simp; omega) hE1.le ?_; intro v2 w2 hown2 hg2; have hE2 : Ext w w2 := ho1.below hE1 hg2 hE1.le)
    | (go_at_call 46; refine (C1 _ hE2).mono ?_; rintro e w3 ⟨rfl, hE3, hX3⟩)
    | (go_at_call 45; refine (sumAsBytes_any _ _ (by omega)).mono ?_; rintro e w4 ⟨v4, rfl, hown4, hX4⟩; obtain ⟨A4, c4, hv4, _, _, hb4⟩ := hown4.form; subst hv4; have ho4 := hown2.ext (hX3.trans hX4); have hE4 : Ext w w4 := hE3.trans hX4)
    | (at_builtin; refine wpList_app rfl (.tmp 11) (.tmp 14) rfl rfl ho4 rfl hb4 (by simp [Crc.tail]; omega) hE4.le ?_; intro v5 w5 hown5 hg5))
  go_ret
  exact ⟨v5, rfl, by rw [HP.out]; exact hown5, ho4.below hE4 hg5 hE4.le⟩

theorem Crc.step_byte (s : Nat) : ((s : Int) % 256 % 256) = (((UInt8.ofNat s).toNat : Nat) : Int) := by
  rw [UInt8.toNat_ofNat']
  simp
/-- The first k bytes of a sum, and what is left of it. -/
theorem Crc.tail_take (s k : Nat) (hk : k < 4) : (Crc.tail s).take (k + 1) = (Crc.tail s).take k ++ [UInt8.ofNat (s / 256 ^ k)] := by
  rcases (by omega : k = 0 ∨ k = 1 ∨ k = 2 ∨ k = 3) with rfl | rfl | rfl | rfl <;> simp [Crc.tail]

set_option maxHeartbeats 1000000 in
theorem refCrcPut_any (A : Option Addr) (n c : Nat) (l : List UInt8) (w : World) (hn : n ≤ 1000000) (hb : Bytes w w.heap.size A n l) :
    Calls Tryd.prog 20 #[.slice A n c] w (MadeB w (Crc.put l)) := by
  have C1 := refSum_gives c (by unfold maxLen; omega) hb
  have hS := Crc.sum_le l
  have HP := hide (show Crc.put l = l ++ (Crc.tail (Crc.sum l)).take 4 from rfl)
  have hll := hb.1
  generalize Crc.sum l = S at *
  go_enter Tryd.func20, Tryd.ntmps20
  go_wp2_with (first
    | (go_at_call 37; refine (C1 _ (Ext.refl _)).mono ?_; rintro e w1 ⟨rfl, hE1, _⟩; have ho1 := OwnB.empty w1 hE1.le; have hE2 := hE1.alloc (.cells #[] 5); have hb2 := hE2.bytes hb)
    | (at_builtin; refine wpList_app rfl (.tmp 8) (.tmp 9) rfl rfl ho1 rfl hb2 (by simp; omega) hE2.le ?_; intro v3 w3 hown3 hg3; have hE3 : Ext w w3 := ho1.below hE2 hg3 hE2.le))
  clear hg3 hb2 ho1
  simp only [List.nil_append] at hown3
  go_loopw [3, 4, 5] (fun x v i wr => ∃ k : Nat, k ≤ 4 ∧ i = .int .i64 k ∧ x = .int .u32 ((S / 256 ^ k : Nat) : Int) ∧ OwnB wr w.heap.size v (l ++ (Crc.tail S).take k) ∧ Ext w wr) (fun _ _ i _ => 4 - (intOf i).toNat)
  case atStart => exact ⟨0, by omega, rfl, by simp, by simpa using hown3, hE3⟩
  case round =>
    obtain ⟨k, hk, rfl, rfl, hown, hE⟩ := hrel
    by_cases hlt : k < 4
    · have HT := hide (Crc.tail_take S k hlt)
      have hq : S / 256 ^ k ≤ 4294967295 := Nat.le_trans (Nat.div_le_self _ _) hS
      have HQ := hide (show S / 256 ^ (k + 1) = S / 256 ^ k / 256 by rw [Nat.pow_succ, Nat.div_div_eq_div_mul])
      have hlk : (l ++ (Crc.tail S).take k).length ≤ n + 4 := by rw [List.length_append, List.length_take]; omega
      generalize S / 256 ^ k = q at *
      have hx := Crc.step_byte q
      have hoa := hown.ext (extNew wr (.cells #[.int .u8 ((UInt8.ofNat q).toNat : Int)] 5))
      have hba := bytesNew wr [UInt8.ofNat q] _ 5 (0, 0) rfl 1 rfl
      have hEa := hE.alloc (.cells #[.int .u8 ((UInt8.ofNat q).toNat : Int)] 5)
      go_wp2_with (at_builtin; refine wpList_app rfl (.tmp 15) (.tmp 19) rfl rfl hoa rfl hba (by omega) hEa.le ?_; intro v4 w4 hown4 hg4)
      have hE4 : Ext w w4 := hoa.below hEa hg4 hEa.le
      rw [List.append_assoc, ← HT.out] at hown4
      go_roundw
      case rel => exact ⟨k + 1, by omega, by go_num, by rw [HQ.out]; go_num, hown4, hE4⟩
      case measure => simp [intOf]; omega
    · obtain rfl : k = 4 := by omega
      go_wp2
      go_ret
      exact ⟨_, rfl, by rw [HP.out]; exact hown, hE⟩
end Go.Proofs.YtkfipfhmbhmamaaDoor

