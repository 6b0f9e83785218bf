/- What the calls of chapter 1 give in whatever later world: the form in which the laws use them. -/
import Derived.Test.YtcoegdkkogoaiaaDoorCrcAlive
namespace Go.Proofs.YtcoegdkkogoaiaaDoor
open Go.RowKit

theorem Ext.tab {a b : World} (h : Ext a b) (ht : Tab a) (h0 : 0 < a.heap.size) : Tab b := ht.below h h0

/-- What a call answers, in whatever later world: v; and it leaves what there was. -/
def Gives (w : World) (f : Nat) (args : Array Value) (v : Value) : Prop := ∀ W, Ext w W → Calls Tryd.prog f args W fun e w' => e = .returned v ∧ Ext w w' ∧ Ext W w'

theorem alive_gives {w : World} (h0 : 0 < w.heap.size) (ht : Tab w) : Gives w 10 #[] (.bool true) := fun _ h =>
  (alive_any _ (Nat.lt_of_lt_of_le h0 h.size) (h.tab ht h0)).mono fun _ _ ⟨he, hw⟩ => ⟨he, h.trans hw, hw⟩
theorem sum_gives {w : World} {A : Option Addr} {n : Nat} {l : List UInt8} (c : Nat) (hn : n ≤ maxLen) (h0 : 0 < w.heap.size) (ht : Tab w) (hb : Bytes w w.heap.size A n l) :
    Gives w 11 #[.slice A n c] (.int .u32 (Crc.sum l : Nat)) := fun _ h =>
  (sum_any A n c l _ hn (Nat.lt_of_lt_of_le h0 h.size) (h.tab ht h0) (h.bytes hb)).mono fun _ _ ⟨he, hw⟩ => ⟨he, h.trans hw, hw⟩
theorem refSum_gives {w : World} {A : Option Addr} {n : Nat} {l : List UInt8} (c : Nat) (hn : n ≤ maxLen) (hb : Bytes w w.heap.size A n l) :
    Gives w 12 #[.slice A n c] (.int .u32 (Crc.sum l : Nat)) := fun W h =>
  (refSum_any A n c l _ hn (h.bytes hb)).mono fun _ _ ⟨he, hw⟩ => ⟨he, hw ▸ h, hw ▸ Ext.refl W⟩

/-- The sum of bytes that have this sum with others behind them. -/
def Crc.more (s : Nat) (ls : List (List UInt8)) : Nat := 4294967295 - Crc.folds (4294967295 - s) ls
theorem Crc.fold_le (x : Nat) (l : List UInt8) (h : x ≤ 4294967295) : Crc.fold x l ≤ 4294967295 := by
  have := Crc.fold_lt l x (by omega)
  omega
theorem Crc.sum_le (l : List UInt8) : Crc.sum l ≤ 4294967295 := by unfold Crc.sum; omega
theorem Crc.more_sum (l : List UInt8) (ls : List (List UInt8)) : Crc.more (Crc.sum l) ls = Crc.sum (l ++ ls.flatten) := by
  have h := Crc.fold_le 4294967295 l (by omega)
  unfold Crc.more Crc.sum Crc.folds
  rw [Crc.fold_append]
  congr 2
  omega
theorem Crc.more_nothing (l : List UInt8) : Crc.more (Crc.sum l) [] = Crc.sum l := by rw [Crc.more_sum]; simp
theorem Crc.more_zero (ls : List (List UInt8)) : Crc.more 0 ls = Crc.sum ls.flatten := rfl

/-- A part: a slice in a cell. -/
def Part (w : World) (v : Value) (l : List UInt8) : Prop := ∃ A n c, v = .slice A n c ∧ n ≤ maxLen ∧ Bytes w w.heap.size A n l
/-- A block that holds just these values. -/
def Laid (W : World) (g : Nat) (vs : List Value) : Prop := g < W.heap.size ∧ ∀ i, i < vs.length → W.cell? ⟨g, i, none⟩ = some (vs.getD i undef)
theorem Laid.new (w : World) (vs : List Value) (t : TypeId) : Laid (w.alloc (.cells vs.toArray t)) w.heap.size vs :=
  ⟨by simp, fun i hi => by rw [cellNew]; simp [hi]⟩
theorem Laid.ext {w W : World} {g : Nat} {vs : List Value} (h : Laid w g vs) (hE : Ext w W) : Laid W g vs :=
  ⟨Nat.lt_of_lt_of_le h.1 hE.le, fun i hi => by rw [hE.cell h.1]; exact h.2 i hi⟩
/-- Parts that were just laid in a block of their own, in an earlier world. -/
theorem parts_at {w W : World} {g n : Nat} {vs : List Value} {ls : List (List UInt8)} (h : Ext w W) (hn : vs.length = n) (hl : ls.length = n) (hg : Laid W g vs)
    (hp : ∀ i, i < n → Part w (vs.getD i undef) (ls.getD i [])) : Parts W W.heap.size (some ⟨g, 0, none⟩) n ls := by
  refine ⟨hl, .inr ⟨g, 0, rfl, hg.1, fun i hi => ?_⟩⟩
  obtain ⟨A, n', c', hv, hn', hb⟩ := hp i hi
  exact ⟨A, n', c', by rw [Nat.zero_add, hg.2 i (by omega), hv], hn', h.bytes hb⟩
theorem more_gives {w : World} {n : Nat} {vs : List Value} {ls : List (List UInt8)} {s : Nat} (hs : s < 4294967296) (h0 : 0 < w.heap.size) (ht : Tab w) (hn : vs.length = n) (hl : ls.length = n) (h63 : n ≤ 1000)
    (hp : ∀ i, i < n → Part w (vs.getD i undef) (ls.getD i [])) (W : World) (h : Ext w W) (g c : Nat) (hg : Laid W g vs) :
    Calls Tryd.prog 13 #[.int .u32 s, .slice (some ⟨g, 0, none⟩) n c] W fun e w' => e = .returned (.int .u32 (Crc.more s ls : Nat)) ∧ Ext w w' ∧ Ext W w' :=
  (more_any s _ n c ls W hs (by unfold maxLen; omega) (h.tab ht h0) (parts_at h hn hl hg hp)).mono fun _ _ ⟨he, hw⟩ => ⟨he, hw ▸ h, hw ▸ Ext.refl W⟩
theorem Parts.ext {w W : World} {A : Option Addr} {n : Nat} {ls : List (List UInt8)} (hp : Parts w w.heap.size A n ls) (h : Ext w W) : Parts W W.heap.size A n ls := by
  refine ⟨hp.1, ?_⟩
  rcases hp.2 with h0 | ⟨b, off, hA, hB, hc⟩
  · exact .inl h0
  · refine .inr ⟨b, off, hA, Nat.lt_of_lt_of_le hB h.le, fun i hi => ?_⟩
    obtain ⟨A', n', c', h1, h2, h3⟩ := hc i hi
    exact ⟨A', n', c', by rw [h.cell hB]; exact h1, h2, h.bytes h3⟩
theorem more_parts_gives {w : World} {A : Option Addr} {n : Nat} {ls : List (List UInt8)} {s : Nat} (c : Nat) (hs : s < 4294967296) (ht : Tab w) (h0 : 0 < w.heap.size) (hn : n ≤ maxLen) (hp : Parts w w.heap.size A n ls) :
    Gives w 13 #[.int .u32 s, .slice A n c] (.int .u32 (Crc.more s ls : Nat)) := fun W h =>
  (more_any s A n c ls W hs hn (h.tab ht h0) (hp.ext h)).mono fun _ _ ⟨he, hw⟩ => ⟨he, hw ▸ h, hw ▸ Ext.refl W⟩
theorem refMore_gives {w : World} {A : Option Addr} {n : Nat} {l : List UInt8} {s : Nat} (c : Nat) (hs : s < 4294967296) (hn : n ≤ maxLen) (hb : Bytes w w.heap.size A n l) :
    Gives w 14 #[.int .u32 s, .slice A n c] (.int .u32 (Crc.more s [l] : Nat)) := fun W h =>
  (refMore_any s A n c l W hs hn (h.bytes hb)).mono fun _ _ ⟨he, hw⟩ => ⟨by rw [he]; simp [Crc.more, Crc.folds], hw ▸ h, hw ▸ Ext.refl W⟩
theorem more_none_gives {w : World} {s : Nat} (hs : s < 4294967296) (h0 : 0 < w.heap.size) (ht : Tab w) :
    Gives w 13 #[.int .u32 s, .slice none 0 0] (.int .u32 (Crc.more s [] : Nat)) := fun W h =>
  (more_any s _ 0 0 [] W hs (by unfold maxLen; omega) (h.tab ht h0) ⟨rfl, .inl rfl⟩).mono fun _ _ ⟨he, hw⟩ => ⟨he, hw ▸ h, hw ▸ Ext.refl W⟩
end Go.Proofs.YtcoegdkkogoaiaaDoor
