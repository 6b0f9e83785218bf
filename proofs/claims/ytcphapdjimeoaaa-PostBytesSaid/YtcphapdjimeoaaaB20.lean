/- The library's maps.Keys and slices.Sorted at the program's set of terms: their contracts laid at this program. The library's maps.Keys and slices.Sorted at the program's map of lists. The program's Terms: the words of two texts, put into a set, its keys sorted. -/
import Derived.Test.YtcphapdjimeoaaaB03
import Derived.Test.YtcphapdjimeoaaaB06
import Derived.Test.YtcphapdjimeoaaaB18
import Derived.Test.YtcphapdjimeoaaaB19
import Derived.Shelf.SlIter.Nil
import Derived.Shelf.SortM.Plain
import Derived.Shelf.SortM.SortNone
import Derived.Ground.GgzProg
import Derived.Ground.SlgmProg
namespace Go.Proofs.Ytcphapdjimeoaaa
open Go.RowKit Go.Maps Go.Sort Go.Shelf

def laysKeys_ren : Go.Shelf.Ren := ⟨fun | 7 => 35 | 10 => 51 | n => n, fun | 23 => 60 | 26 => 9 | 3 => 62 | 28 => 66 | 0 => 0 | 27 => 65 | 33 => 80 | 4 => 4 | n => n, fun | n => n⟩
theorem laysKeys : Go.Proofs.SlLaysZ.n7 Try.prog laysKeys_ren := {
  mixed := by kernel_rfl
  f7 := ⟨Try.f35.name, by decide, Try.func35.trans (congrArg some (by kernel_rfl))⟩
  f10 := ⟨Try.f51.name, by decide, Try.func51.trans (congrArg some (by kernel_rfl))⟩
  t0 := Try.underlying0
  a0 := Try.isAgg0
  z0 := Try.sizeOf0
  v0 := Try.zeroValue0
  t4 := Try.underlying4
  a4 := Try.isAgg4
  z4 := Try.sizeOf4
  v4 := Try.zeroValue4
  t23 := Try.underlying60
  a23 := Try.isAgg60
  z23 := Try.sizeOf60
  v23 := Try.zeroValue60
  t26 := Try.underlying9
  a26 := Try.isAgg9
  z26 := Try.sizeOf9
  v26 := Try.zeroValue9
  t27 := Try.underlying65
  a27 := Try.isAgg65
  z27 := Try.sizeOf65
  v27 := Try.zeroValue65
  t28 := Try.underlying66
  a28 := Try.isAgg66
  z28 := Try.sizeOf66
  v28 := Try.zeroValue66
  t33 := Try.underlying80
  a33 := Try.isAgg80
  z33 := Try.sizeOf80
  v33 := Try.zeroValue80 }
def laysSorted_ren : Go.Shelf.Ren := ⟨fun | 6 => 34 | 8 => 49 | 9 => 50 | 11 => 69 | 13 => 71 | 12 => 70 | 23 => 90 | 24 => 91 | 14 => 81 | 15 => 82 | 16 => 83 | 17 => 84 | 18 => 85 | 19 => 86 | 20 => 87 | 21 => 88 | 22 => 89 | 25 => 96 | 26 => 97 | 27 => 98 | 28 => 99 | 29 => 100 | 30 => 101 | 31 => 105 | n => n, fun | 26 => 9 | 28 => 66 | 24 => 26 | 0 => 0 | 3 => 3 | 37 => 103 | 48 => 119 | 50 => 39 | 4 => 4 | 40 => 112 | 39 => 111 | 45 => 116 | 5 => 5 | 9 => 9 | 51 => 126 | 55 => 130 | 57 => 136 | 58 => 90 | 33 => 80 | n => n, fun | n => n⟩
theorem laysSorted : Go.Proofs.SlLaysZ.n6 Try.prog laysSorted_ren := {
  mixed := by kernel_rfl
  f6 := ⟨Try.f34.name, by decide, Try.func34.trans (congrArg some (by kernel_rfl))⟩
  f8 := ⟨Try.f49.name, by decide, Try.func49.trans (congrArg some (by kernel_rfl))⟩
  f11 := ⟨Try.f69.name, by decide, Try.func69.trans (congrArg some (by kernel_rfl))⟩
  t0 := Try.underlying0
  a0 := Try.isAgg0
  z0 := Try.sizeOf0
  v0 := Try.zeroValue0
  t24 := Try.underlying26
  a24 := Try.isAgg26
  z24 := Try.sizeOf26
  v24 := Try.zeroValue26
  t26 := Try.underlying9
  a26 := Try.isAgg9
  z26 := Try.sizeOf9
  v26 := Try.zeroValue9
  t28 := Try.underlying66
  a28 := Try.isAgg66
  z28 := Try.sizeOf66
  v28 := Try.zeroValue66
  i26 := by kernel_rfl }
def laysSortS_ren : Go.Shelf.Ren := ⟨fun | 6 => 50 | 8 => 71 | 9 => 70 | 19 => 90 | 20 => 91 | 21 => 81 | 22 => 82 | 23 => 83 | 24 => 84 | 25 => 85 | 26 => 86 | 27 => 87 | 28 => 88 | 29 => 89 | 36 => 96 | 31 => 97 | 32 => 98 | 37 => 99 | 38 => 100 | 39 => 101 | 41 => 105 | n => n, fun | 27 => 26 | 29 => 9 | 3 => 3 | 32 => 103 | 26 => 26 | 0 => 0 | 44 => 119 | 46 => 39 | 4 => 4 | 36 => 112 | 35 => 111 | 41 => 116 | 5 => 5 | 9 => 9 | 53 => 126 | 57 => 130 | 63 => 136 | 64 => 90 | n => n, fun | n => n⟩
theorem laysSortS : Go.Proofs.SlLaysM.n6 Try.prog laysSortS_ren := {
  mixed := by kernel_rfl
  f6 := ⟨Try.f50.name, by decide, Try.func50.trans (congrArg some (by kernel_rfl))⟩
  f8 := Try.func71.trans (congrArg some (by kernel_rfl))
  f9 := ⟨Try.f70.name, by decide, Try.func70.trans (congrArg some (by kernel_rfl))⟩
  f19 := Try.func90.trans (congrArg some (by kernel_rfl))
  f20 := Try.func91.trans (congrArg some (by kernel_rfl))
  f21 := ⟨Try.f81.name, by decide, Try.func81.trans (congrArg some (by kernel_rfl))⟩
  f22 := ⟨Try.f82.name, by decide, Try.func82.trans (congrArg some (by kernel_rfl))⟩
  f23 := ⟨Try.f83.name, by decide, Try.func83.trans (congrArg some (by kernel_rfl))⟩
  f24 := ⟨Try.f84.name, by decide, Try.func84.trans (congrArg some (by kernel_rfl))⟩
  f25 := ⟨Try.f85.name, by decide, Try.func85.trans (congrArg some (by kernel_rfl))⟩
  f26 := ⟨Try.f86.name, by decide, Try.func86.trans (congrArg some (by kernel_rfl))⟩
  f27 := ⟨Try.f87.name, by decide, Try.func87.trans (congrArg some (by kernel_rfl))⟩
  f28 := ⟨Try.f88.name, by decide, Try.func88.trans (congrArg some (by kernel_rfl))⟩
  f29 := ⟨Try.f89.name, by decide, Try.func89.trans (congrArg some (by kernel_rfl))⟩
  f31 := Try.func97.trans (congrArg some (by kernel_rfl))
  f32 := Try.func98.trans (congrArg some (by kernel_rfl))
  f36 := ⟨Try.f96.name, by decide, Try.func96.trans (congrArg some (by kernel_rfl))⟩
  f37 := ⟨Try.f99.name, by decide, Try.func99.trans (congrArg some (by kernel_rfl))⟩
  f38 := ⟨Try.f100.name, by decide, Try.func100.trans (congrArg some (by kernel_rfl))⟩
  f39 := ⟨Try.f101.name, by decide, Try.func101.trans (congrArg some (by kernel_rfl))⟩
  f41 := ⟨Try.f105.name, by decide, Try.func105.trans (congrArg some (by kernel_rfl))⟩
  t0 := Try.underlying0
  a0 := Try.isAgg0
  z0 := Try.sizeOf0
  v0 := Try.zeroValue0
  t3 := Try.underlying3
  a3 := Try.isAgg3
  z3 := Try.sizeOf3
  v3 := Try.zeroValue3
  t4 := Try.underlying4
  a4 := Try.isAgg4
  z4 := Try.sizeOf4
  v4 := Try.zeroValue4
  t5 := Try.underlying5
  a5 := Try.isAgg5
  z5 := Try.sizeOf5
  v5 := Try.zeroValue5
  t9 := Try.underlying9
  a9 := Try.isAgg9
  z9 := Try.sizeOf9
  v9 := Try.zeroValue9
  t26 := Try.underlying26
  a26 := Try.isAgg26
  z26 := Try.sizeOf26
  v26 := Try.zeroValue26
  t27 := Try.underlying26
  a27 := Try.isAgg26
  z27 := Try.sizeOf26
  v27 := Try.zeroValue26
  t29 := Try.underlying9
  a29 := Try.isAgg9
  z29 := Try.sizeOf9
  v29 := Try.zeroValue9
  t32 := Try.underlying103
  a32 := Try.isAgg103
  z32 := Try.sizeOf103
  v32 := Try.zeroValue103
  t35 := Try.underlying111
  a35 := Try.isAgg111
  z35 := Try.sizeOf111
  v35 := Try.zeroValue111
  t36 := Try.underlying112
  a36 := Try.isAgg112
  z36 := Try.sizeOf112
  v36 := Try.zeroValue112
  t41 := Try.underlying116
  a41 := Try.isAgg116
  z41 := Try.sizeOf116
  v41 := Try.zeroValue116
  t44 := Try.underlying119
  a44 := Try.isAgg119
  z44 := Try.sizeOf119
  v44 := Try.zeroValue119
  t46 := Try.underlying39
  a46 := Try.isAgg39
  z46 := Try.sizeOf39
  v46 := Try.zeroValue39
  t53 := Try.underlying126
  a53 := Try.isAgg126
  z53 := Try.sizeOf126
  v53 := Try.zeroValue126
  t57 := Try.underlying130
  a57 := Try.isAgg130
  z57 := Try.sizeOf130
  v57 := Try.zeroValue130
  t63 := Try.underlying136
  a63 := Try.isAgg136
  z63 := Try.sizeOf136
  v63 := Try.zeroValue136
  t64 := Try.underlying90
  a64 := Try.isAgg90
  z64 := Try.sizeOf90
  v64 := Try.zeroValue90 }

/-- The library's contract at this program. -/
theorem sortsTx (m : Nat) : AnyZ.SortsIn Try.prog laysSorted_ren Fence.wide m :=
  ⟨fun blk off cap ss W hH hblk hsz => callsIn_wide.2 (AnyM.slices_Sort_string laysSortS blk off cap ss W hH hblk hsz),
   fun p cap W => callsIn_wide.2 (AnyM.slices_Sort_string_none laysSortS p cap W)⟩

/-- The library's contract at this program. -/
theorem mapsKeys_any (mb : Option Nat) (W : World) : CallsIn Fence.wide 5 Try.prog 35 #[.map mb] W fun e w' => e = .returned (.func (.func 51) #[] #[.pointer (some ⟨W.heap.size, 0, none⟩)]) ∧ w' = W.alloc (.cells #[.map mb] 60) :=
  AnyZ.keys_in laysKeys Fence.wide 5 trivial rfl mb W

set_option maxHeartbeats 1000000 in
/-- The library's contract at this program. -/
theorem sortedKeys_any {H : Type} (b nn : Nat) (D0 : DataW H) (R : Value → Option (DataW H × List MemPlace)) (w : World) (hown : w.ownsMap Try.prog 9 R b nn D0) (hmax : Maps.size D0 ≤ maxLen) (hbytes : Maps.size D0 * 16 ≤ 140737488355328) :
    CallsIn Fence.wide 5 Try.prog 34 #[.func (.func 51) #[] #[.pointer (some ⟨w.heap.size, 0, none⟩)]] (w.alloc (.cells #[.map (some b)] 60)) fun e w' => ∃ (v : Value) (ss : List (List UInt8)), e = .returned v ∧ ss.Perm (strKeys D0) ∧
      w'.ownsRow (w.alloc (.cells #[.map (some b)] 60)).heap.size 9 1 v ss.length ((ss.mergeSort (fun x y => decide (x ≤ y))).map encStr) ∧ (v = .slice none 0 0 ↔ ss = []) ∧ Below (w.alloc (.cells #[.map (some b)] 60)).heap.size (w.alloc (.cells #[.map (some b)] 60)) w' := by
  have hbl := hown.lt
  have hseq : SeqGives Fence.wide 2 Try.prog 51 #[.pointer (some ⟨w.heap.size, 0, none⟩)] encStr (fun ss => ss.Perm (strKeys D0)) (Maps.size D0) (w.alloc (.cells #[.map (some b)] 60)) :=
    AnyZ.keys_gives (ρ := laysKeys_ren) { laysKeys with } Fence.wide _ trivial rfl (by omega) w.heap.size b nn D0 _ (by simp) (by simp) (by
      obtain ⟨es, clock, hb, Ft, hs, hD⟩ := hown
      exact ⟨es, clock, (Below.heap_alloc _ _ b hbl).trans hb, Ft, hs, hD⟩)
  exact AnyZ.sorted_in laysSorted Fence.wide 5 trivial trivial trivial trivial rfl (by omega) (sortsTx _) (enters_of Try.func50 (by kernel_rfl) rfl) 51 #[.pointer (some ⟨w.heap.size, 0, none⟩)] trivial (enters_of Try.func51 (by kernel_rfl) rfl) _ _ hmax hbytes _ hseq
end Go.Proofs.Ytcphapdjimeoaaa

namespace Go.Proofs.Ytcphapdjimeoaaa
open Go.RowKit Go.Maps Go.Sort Go.Shelf

def laysKeysG_ren : Go.Shelf.Ren := ⟨fun | 7 => 45 | 10 => 66 | n => n, fun | 23 => 55 | 26 => 9 | 3 => 36 | 28 => 66 | 0 => 0 | 27 => 65 | 33 => 80 | 4 => 4 | n => n, fun | n => n⟩
theorem laysKeysG : Go.Proofs.SlLaysZ.n7 Try.prog laysKeysG_ren := {
  mixed := by kernel_rfl
  f7 := ⟨Try.f45.name, by decide, Try.func45.trans (congrArg some (by kernel_rfl))⟩
  f10 := ⟨Try.f66.name, by decide, Try.func66.trans (congrArg some (by kernel_rfl))⟩
  t0 := Try.underlying0
  a0 := Try.isAgg0
  z0 := Try.sizeOf0
  v0 := Try.zeroValue0
  t4 := Try.underlying4
  a4 := Try.isAgg4
  z4 := Try.sizeOf4
  v4 := Try.zeroValue4
  t23 := Try.underlying55
  a23 := Try.isAgg55
  z23 := Try.sizeOf55
  v23 := Try.zeroValue55
  t26 := Try.underlying9
  a26 := Try.isAgg9
  z26 := Try.sizeOf9
  v26 := Try.zeroValue9
  t27 := Try.underlying65
  a27 := Try.isAgg65
  z27 := Try.sizeOf65
  v27 := Try.zeroValue65
  t28 := Try.underlying66
  a28 := Try.isAgg66
  z28 := Try.sizeOf66
  v28 := Try.zeroValue66
  t33 := Try.underlying80
  a33 := Try.isAgg80
  z33 := Try.sizeOf80
  v33 := Try.zeroValue80 }
/-- The library's contract at this program. -/
theorem mapsKeysG_any (mb : Option Nat) (W : World) : CallsIn Fence.wide 5 Try.prog 45 #[.map mb] W fun e w' => e = .returned (.func (.func 66) #[] #[.pointer (some ⟨W.heap.size, 0, none⟩)]) ∧ w' = W.alloc (.cells #[.map mb] 55) :=
  AnyZ.keys_in laysKeysG Fence.wide 5 trivial rfl mb W

set_option maxHeartbeats 1000000 in
/-- The library's contract at this program. -/
theorem sortedKeysG_any {H : Type} (b nn : Nat) (D0 : DataW H) (R : Value → Option (DataW H × List MemPlace)) (w : World) (hown : w.ownsMap Try.prog 9 R b nn D0) (hmax : Maps.size D0 ≤ maxLen) (hbytes : Maps.size D0 * 16 ≤ 140737488355328) :
    CallsIn Fence.wide 5 Try.prog 34 #[.func (.func 66) #[] #[.pointer (some ⟨w.heap.size, 0, none⟩)]] (w.alloc (.cells #[.map (some b)] 55)) fun e w' => ∃ (v : Value) (ss : List (List UInt8)), e = .returned v ∧ ss.Perm (strKeys D0) ∧
      w'.ownsRow (w.alloc (.cells #[.map (some b)] 55)).heap.size 9 1 v ss.length ((ss.mergeSort (fun x y => decide (x ≤ y))).map encStr) ∧ (v = .slice none 0 0 ↔ ss = []) ∧ Below (w.alloc (.cells #[.map (some b)] 55)).heap.size (w.alloc (.cells #[.map (some b)] 55)) w' := by
  have hbl := hown.lt
  have hseq : SeqGives Fence.wide 2 Try.prog 66 #[.pointer (some ⟨w.heap.size, 0, none⟩)] encStr (fun ss => ss.Perm (strKeys D0)) (Maps.size D0) (w.alloc (.cells #[.map (some b)] 55)) :=
    AnyZ.keys_gives (ρ := laysKeysG_ren) { laysKeysG with } Fence.wide _ trivial rfl (by omega) w.heap.size b nn D0 _ (by simp) (by simp) (by
      obtain ⟨es, clock, hb, Ft, hs, hD⟩ := hown
      exact ⟨es, clock, (Below.heap_alloc _ _ b hbl).trans hb, Ft, hs, hD⟩)
  exact AnyZ.sorted_in laysSorted Fence.wide 5 trivial trivial trivial trivial rfl (by omega) (sortsTx _) (enters_of Try.func50 (by kernel_rfl) rfl) 66 #[.pointer (some ⟨w.heap.size, 0, none⟩)] trivial (enters_of Try.func66 (by kernel_rfl) rfl) _ _ hmax hbytes _ hseq
end Go.Proofs.Ytcphapdjimeoaaa

namespace Go.Proofs.Ytcphapdjimeoaaa
open Go.RowKit Wrd

/-- The variable in block b holds a set of these texts, which is the call's own; all that was there at w is as it was. -/
def HeldM (w W : World) (b : Nat) (L : List (List UInt8)) : Prop := ∃ m, Whole W b 60 #[.map (some m)] ∧ MapS W m L ∧ w.heap.size ≤ b ∧ w.heap.size ≤ m ∧ m ≠ b ∧ Ext w W
theorem HeldM.ext {w W W' : World} {b : Nat} {L : List (List UInt8)} (h : HeldM w W b L) (hE : Ext W W') : HeldM w W' b L := by
  obtain ⟨m, h1, h2, h3, h4, h5, h6⟩ := h
  exact ⟨m, h1.ext hE, h2.ext hE, h3, h4, h5, h6.trans hE⟩
theorem entered_terms1 : EnteredF 32 := enteredF_of Try.func32 (by kernel_rfl) rfl
theorem entered_terms2 : EnteredF 33 := enteredF_of Try.func33 (by kernel_rfl) rfl
theorem HeldM.put {w W W' : World} {b m : Nat} {L : List (List UInt8)} (h1 : Whole W b 60 #[.map (some m)]) (h3 : w.heap.size ≤ b) (h4 : w.heap.size ≤ m) (h5 : m ≠ b) (h6 : Ext w W) (hM : MapS W' m L) (hG : W.grownBy W' (some m)) : HeldM w W' b L :=
  ⟨m, h1.ownGrown hG (by simpa using h5), hM, h3, h4, h5, Below.grown h6 hG h6.le (fun k hk => by cases hk; exact h4)⟩

set_option maxHeartbeats 2000000 in
set_option maxRecDepth 10000 in
theorem terms2_any {w W : World} {b : Nat} {L : List (List UInt8)} (x : List UInt8) (h : HeldM w W b L) (hL : L.length ≤ 1000000) (hx : x.length ≤ 24) :
    Calls Try.prog 33 #[.string ⟨x.toArray⟩, .pointer (some ⟨b, 0, none⟩)] W fun e W' => (∃ v, e = .returned v) ∧ HeldM w W' b (L ++ [x]) := by
  obtain ⟨m, h1, h2, h3, h4, h5, h6⟩ := h
  have s0 := h1.at 0 (u := .map (some m)) rfl
  have H1 := hide h1
  have H2 := hide h2
  have H3 := hide h3
  have H4 := hide h4
  have H5 := hide h5
  have H6 := hide h6
  have HL := hide hL
  have HX := hide (show x.length ≤ 1000 by omega)
  clear h1 h2 h3 h4 h5 h6 hL hx
  go_enter Try.func33, Try.ntmps33
  go_wp2_with (at_mapUpdate; refine wpList_putS rfl (.tmp 3) (.tmp 4) (.tmp 5) rfl rfl H2.out HL.out HX.out rfl rfl ?_; intro w2 hM hG; have HM := hide hM; have HG := hide hG; clear hM hG)
  go_end0
  exact ⟨⟨_, rfl⟩, HeldM.put H1.out H3.out H4.out H5.out H6.out HM.out HG.out⟩

set_option maxHeartbeats 2000000 in
set_option maxRecDepth 10000 in
theorem terms1_any {w W : World} {b : Nat} {L : List (List UInt8)} (x : List UInt8) (h : HeldM w W b L) (hL : L.length ≤ 1000000) (hx : x.length ≤ 24) :
    Calls Try.prog 32 #[.string ⟨x.toArray⟩, .pointer (some ⟨b, 0, none⟩)] W fun e W' => (∃ v, e = .returned v) ∧ HeldM w W' b (L ++ [64 :: x]) := by
  obtain ⟨m, h1, h2, h3, h4, h5, h6⟩ := h
  have s0 := h1.at 0 (u := .map (some m)) rfl
  have hadd := fun W => run_atAdd W x (by omega)
  have H1 := hide h1
  have H2 := hide h2
  have H3 := hide h3
  have H4 := hide h4
  have H5 := hide h5
  have H6 := hide h6
  have HL := hide hL
  have HX := hide (show (64 :: x).length ≤ 1000 by rw [List.length_cons]; omega)
  clear h1 h2 h3 h4 h5 h6 hL hx
  go_enter Try.func32, Try.ntmps32
  go_wp2_with (at_mapUpdate; refine wpList_putS (k := 64 :: x) rfl (.tmp 3) (.tmp 5) (.tmp 6) rfl rfl H2.out HL.out HX.out rfl rfl ?_; intro w2 hM hG; have HM := hide hM; have HG := hide hG; clear hM hG)
  go_end0
  exact ⟨⟨_, rfl⟩, HeldM.put H1.out H3.out H4.out H5.out H6.out HM.out HG.out⟩

/-- The set's keys, sorted: the list with just its texts. -/
theorem MapS.sorted {w : World} {m : Nat} {L T : List (List UInt8)} {D : DataW Unit} (h1 : w.ownsMap Try.prog 9 unitElem m L.length D) (h2 : ∀ x : List UInt8, Maps.has D (.string x) = decide (x ∈ L)) (hT : Rising T) (hm : ∀ x, x ∈ T ↔ x ∈ L) {ss : List (List UInt8)} (hp : ss.Perm (strKeys D)) :
    ss.mergeSort (fun x y => decide (x ≤ y)) = T := by
  obtain ⟨es, hD, hko⟩ := h1.keysOf
  obtain ⟨es', hD', hpw⟩ := h1.tidy str_law
  subst hD
  injection hD' with hD'
  subst hD'
  have hk : ∀ p ∈ es, ∃ x, p.1 = .string x := fun p hp' => by
    obtain ⟨v, hv⟩ := hko p hp'
    obtain ⟨x, _, hx, _⟩ := Maps.keyOf_str Try.underlying9 hv
    exact ⟨x, hx⟩
  have hT2 := perm_strKeys hpw hk hT.nodup (fun x => by rw [h2 x, decide_eq_true_iff]; exact hm x)
  have hp2 := hp.trans hT2.symm
  exact sort_is (hp2.nodup_iff.2 hT.nodup) hT (fun x => hp2.mem_iff)

set_option maxHeartbeats 2000000 in
set_option maxRecDepth 10000 in
theorem pTermsO_any (t lv : Int) (src text : List UInt8) (w : World) (hs : src.length ≤ 20000) (ht : text.length ≤ 20000) : Calls Try.prog 17 #[recV t lv src text] w fun e w' => ∃ v, e = .returned v ∧ OwnTx w' w.heap.size v (termsE text src) ∧ Ext w w' := by
  obtain ⟨w1, hw1⟩ : ∃ w1, w1 = w.alloc (.cells #[.int .u64 t, .int .u8 lv, .string ⟨src.toArray⟩, .string ⟨text.toArray⟩] 41) := ⟨_, rfl⟩
  have hE1 : Ext w w1 := by rw [hw1]; exact extNew w _
  have hW1 : Whole w1 w.heap.size 41 #[.int .u64 t, .int .u8 lv, .string ⟨src.toArray⟩, .string ⟨text.toArray⟩] := by rw [hw1]; exact Whole.new w _ _
  obtain ⟨b, hb⟩ : ∃ b, b = w.heap.size + 1 + 1 := ⟨_, rfl⟩
  have hls := words_len src
  have hlt := words_len text
  have C1 : ∀ W, HeldM w1 W b [] → Calls Try.prog 31 #[.string ⟨src.toArray⟩, .func (.func 32) #[] #[.pointer (some ⟨b, 0, none⟩)]] W fun e w' => (∃ v, e = .returned v) ∧ HeldM w1 w' b ((wordsE src).map fun x => 64 :: x) := fun W h => by
    have := each_any entered_terms1 (St := fun L W => HeldM w1 W b (L.map fun x => 64 :: x)) 20000 (fun pre x W hS hp hx => by
      have h := terms1_any x hS (by rw [List.length_map]; omega) hx
      rw [List.map_append]
      exact h) (fun _ _ _ h hE => h.ext hE) src [] W (by omega) (by simpa using hs) h
    simpa using this
  have C2 : ∀ W, HeldM w1 W b ((wordsE src).map fun x => 64 :: x) → Calls Try.prog 31 #[.string ⟨text.toArray⟩, .func (.func 33) #[] #[.pointer (some ⟨b, 0, none⟩)]] W fun e w' => (∃ v, e = .returned v) ∧ HeldM w1 w' b (((wordsE src).map fun x => 64 :: x) ++ wordsE text) := fun W h => by
    have := each_any entered_terms2 (St := fun L W => HeldM w1 W b (((wordsE src).map fun x => 64 :: x) ++ L)) 20000 (fun pre x W hS hp hx => by
      have h := terms2_any x hS (by rw [List.length_append, List.length_map]; omega) hx
      rw [← List.append_assoc]
      exact h) (fun _ _ _ h hE => h.ext hE) text [] W (by omega) (by simpa using ht) (by simpa using h)
    simpa using this
  have hT := terms_rising text src
  have hm : ∀ x, x ∈ termsE text src ↔ x ∈ ((wordsE src).map fun x => 64 :: x) ++ wordsE text := fun x => by
    rw [mem_terms, List.mem_append, List.mem_map]
    constructor
    · rintro (h | ⟨w, h1, rfl⟩)
      · exact .inr h
      · exact .inl ⟨w, h1, rfl⟩
    · rintro (⟨w, h1, rfl⟩ | h)
      · exact .inr ⟨w, h1, rfl⟩
      · exact .inl h
  have hLl : (((wordsE src).map fun x => 64 :: x) ++ wordsE text).length ≤ 40000 := by rw [List.length_append, List.length_map]; omega
  have hsz : w1.heap.size = w.heap.size + 1 := by rw [hw1]; simp
  have H0 : HeldM w1 (((w.alloc (.cells #[.int .u64 t, .int .u8 lv, .string ⟨src.toArray⟩, .string ⟨text.toArray⟩] 41)).alloc (.map #[] 0)).alloc (.cells #[.map (some (w.heap.size + 1))] 60)) b [] := by
    rw [← hw1]
    refine ⟨w.heap.size + 1, ?_, ?_, by omega, by omega, by omega, (extNew w1 _).trans (extNew _ _)⟩
    · have := Whole.new (w1.alloc (.map #[] 0)) 60 #[.map (some (w.heap.size + 1))]
      rw [hb]
      rw [World.size_alloc, hsz] at this
      exact this
    · rw [← hsz]
      exact (MapS.made w1).ext (extNew _ _)
  generalize termsE text src = T at *
  generalize hL1 : (wordsE src).map (fun x => 64 :: x) = L1 at *
  generalize wordsE text = L2 at *
  have H0' := hide H0
  have C1' := hide C1
  have C2' := hide C2
  clear H0 C1 C2
  unfold recV
  clear hls hlt hs ht
  have HT := hide hT
  have HM := hide hm
  have HLl := hide hLl
  have HE1 := hide hE1
  have HW1 := hide hW1
  have HB := hide hb
  clear hT hm hLl hE1 hW1
  clear hw1 hb hsz
  go_enter Try.func17, Try.ntmps17
  have hmm := @run_makeMap Try.prog
  go_wp2_with fail
  rw [← HB.out]
  refine (C1'.out _ H0'.out).mono ?_
  rintro e w2 ⟨⟨v2, rfl⟩, hH2⟩
  have H2 := hide hH2
  have c3 : w2.cell? ⟨w.heap.size, 3, none⟩ = some (.string ⟨text.toArray⟩) := by
    obtain ⟨_, _, _, _, _, _, hE2⟩ := hH2
    exact (HW1.out.ext hE2).at 3 (u := .string ⟨text.toArray⟩) rfl
  clear hH2 H0' C1'
  go_wp2_with fail
  refine (C2'.out _ H2.out).mono ?_
  rintro e w3 ⟨⟨v3, rfl⟩, m, h1, ⟨D, h2, h2'⟩, h3, h4, h5, h6⟩
  have s0 := h1.at 0 (u := .map (some m)) rfl
  have hsl := h2.size_le
  have CK := callsIn_wide.1 (mapsKeys_any (some m) w3)
  have CS := callsIn_wide.1 (sortedKeys_any m (L1 ++ L2).length D unitElem w3 h2 (by have := HLl.out; unfold maxLen; omega) (by have := HLl.out; omega))
  have HSo := hide (fun ss => MapS.sorted h2 h2' HT.out HM.out (ss := ss))
  have HE3 := hide (HE1.out.trans h6)
  clear h1 h2 h2' h3 h4 h5 h6 hsl c3 C2'
  go_wp2_with fail
  refine CK.mono ?_
  rintro e w4 ⟨rfl, rfl⟩
  clear CK
  go_wp2_with fail
  refine CS.mono ?_
  rintro e w5 ⟨v, ss, rfl, hP, hR, hN, hB⟩
  have hTs := HSo.out ss hP
  have hl : ss.length = T.length := by rw [← hTs, List.length_mergeSort]
  rw [hTs, hl] at hR
  have hle := (HE3.out.trans (extNew w3 (.cells #[.map (some m)] 60))).le
  have hO : OwnTx w5 w.heap.size v T := ⟨hR.1, hR.2.imp_right fun ⟨g, cap, cur, e, hg, r⟩ => ⟨g, cap, cur, e, Nat.le_trans hle hg, r⟩⟩
  have HO := hide hO
  have HE5 := hide ((HE3.out.trans (extNew w3 _)).trans hB)
  clear hTs hl hR hN hB hP hO hle CS
  go_wp2
  go_ret
  exact ⟨v, rfl, HO.out, HE5.out⟩
theorem pTerms_any (t lv : Int) (src text : List UInt8) (w : World) (hs : src.length ≤ 20000) (ht : text.length ≤ 20000) : Calls Try.prog 17 #[recV t lv src text] w (MadeTx w (termsE text src)) :=
  (pTermsO_any t lv src text w hs ht).mono fun _ _ ⟨_, h1, h2, h3⟩ => by
    obtain ⟨A, c, rfl, q1, q2, q3⟩ := h2.form
    exact ⟨A, c, h1, q1, q2, q3, h3⟩
end Go.Proofs.Ytcphapdjimeoaaa

