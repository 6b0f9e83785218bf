/- The library's maps.Keys and slices.Sorted at the program's set of terms: their contracts laid at this program. The library's maps.Keys and slices.Sorted at the program's map of lists. The program's Terms: the words of two texts, put into a set, its keys sorted. -/
import Derived.Test.YtacgkefnlbnckaaGreatDoorB06
import Derived.Test.YtacgkefnlbnckaaGreatDoorB09
import Derived.Test.YtacgkefnlbnckaaGreatDoorB41
import Derived.Test.YtacgkefnlbnckaaGreatDoorB43
import Derived.Shelf.SlIter.Nil
import Derived.Shelf.SortM.Plain
import Derived.Shelf.SortM.SortNone
import Derived.Ground.GgzProg
import Derived.Ground.SlgmProg
namespace Go.Proofs.YtacgkefnlbnckaaGreatDoor
section
open Go.RowKit Go.Maps Go.Sort Go.Shelf
def laysKeys_ren:Go.Shelf.Ren:=⟨fun | 7=>99 | 10=>134 | n=>n,fun | 23=>125 | 26=>9 | 3=>127 | 28=>131 | 0=>0 | 27=>130 | 33=>178 | 4=>4 | n=>n,fun | n=>n⟩
theorem laysKeys:Go.Proofs.SlLaysZ.n7 Tryz.prog laysKeys_ren:={
 mixed:=by kernel_rfl
 f7:=⟨Tryz.f99.name,by decide,Tryz.func99.trans (congrArg some (by kernel_rfl))⟩
 f10:=⟨Tryz.f134.name,by decide,Tryz.func134.trans (congrArg some (by kernel_rfl))⟩
 t0:=Tryz.underlying0
 a0:=Tryz.isAgg0
 z0:=Tryz.sizeOf0
 v0:=Tryz.zeroValue0
 t4:=Tryz.underlying4
 a4:=Tryz.isAgg4
 z4:=Tryz.sizeOf4
 v4:=Tryz.zeroValue4
 t23:=Tryz.underlying125
 a23:=Tryz.isAgg125
 z23:=Tryz.sizeOf125
 v23:=Tryz.zeroValue125
 t26:=Tryz.underlying9
 a26:=Tryz.isAgg9
 z26:=Tryz.sizeOf9
 v26:=Tryz.zeroValue9
 t27:=Tryz.underlying130
 a27:=Tryz.isAgg130
 z27:=Tryz.sizeOf130
 v27:=Tryz.zeroValue130
 t28:=Tryz.underlying131
 a28:=Tryz.isAgg131
 z28:=Tryz.sizeOf131
 v28:=Tryz.zeroValue131
 t33:=Tryz.underlying178
 a33:=Tryz.isAgg178
 z33:=Tryz.sizeOf178
 v33:=Tryz.zeroValue178 }
def laysSorted_ren:Go.Shelf.Ren:=⟨fun | 6=>98 | 8=>132 | 9=>133 | 11=>156 | 13=>158 | 12=>157 | 23=>177 | 24=>178 | 14=>168 | 15=>169 | 16=>170 | 17=>171 | 18=>172 | 19=>173 | 20=>174 | 21=>175 | 22=>176 | 25=>190 | 26=>191 | 27=>192 | 28=>193 | 29=>194 | 30=>195 | 31=>205 | n=>n,fun | 26=>9 | 28=>131 | 24=>55 | 0=>0 | 3=>3 | 37=>119 | 48=>83 | 50=>36 | 4=>4 | 40=>217 | 39=>216 | 45=>196 | 5=>5 | 9=>9 | 51=>243 | 55=>247 | 57=>260 | 58=>109 | 33=>178 | n=>n,fun | n=>n⟩
theorem laysSorted:Go.Proofs.SlLaysZ.n6 Tryz.prog laysSorted_ren:={
 mixed:=by kernel_rfl
 f6:=⟨Tryz.f98.name,by decide,Tryz.func98.trans (congrArg some (by kernel_rfl))⟩
 f8:=⟨Tryz.f132.name,by decide,Tryz.func132.trans (congrArg some (by kernel_rfl))⟩
 f11:=⟨Tryz.f156.name,by decide,Tryz.func156.trans (congrArg some (by kernel_rfl))⟩
 t0:=Tryz.underlying0
 a0:=Tryz.isAgg0
 z0:=Tryz.sizeOf0
 v0:=Tryz.zeroValue0
 t24:=Tryz.underlying55
 a24:=Tryz.isAgg55
 z24:=Tryz.sizeOf55
 v24:=Tryz.zeroValue55
 t26:=Tryz.underlying9
 a26:=Tryz.isAgg9
 z26:=Tryz.sizeOf9
 v26:=Tryz.zeroValue9
 t28:=Tryz.underlying131
 a28:=Tryz.isAgg131
 z28:=Tryz.sizeOf131
 v28:=Tryz.zeroValue131
 i26:=by kernel_rfl }
def laysSortS_ren:Go.Shelf.Ren:=⟨fun | 6=>133 | 8=>158 | 9=>157 | 19=>177 | 20=>178 | 21=>168 | 22=>169 | 23=>170 | 24=>171 | 25=>172 | 26=>173 | 27=>174 | 28=>175 | 29=>176 | 36=>190 | 31=>191 | 32=>192 | 37=>193 | 38=>194 | 39=>195 | 41=>205 | n=>n,fun | 27=>55 | 29=>9 | 3=>3 | 32=>119 | 26=>55 | 0=>0 | 44=>83 | 46=>36 | 4=>4 | 36=>217 | 35=>216 | 41=>196 | 5=>5 | 9=>9 | 53=>243 | 57=>247 | 63=>260 | 64=>109 | n=>n,fun | n=>n⟩
theorem laysSortS:Go.Proofs.SlLaysM.n6 Tryz.prog laysSortS_ren:={
 mixed:=by kernel_rfl
 f6:=⟨Tryz.f133.name,by decide,Tryz.func133.trans (congrArg some (by kernel_rfl))⟩
 f8:=Tryz.func158.trans (congrArg some (by kernel_rfl))
 f9:=⟨Tryz.f157.name,by decide,Tryz.func157.trans (congrArg some (by kernel_rfl))⟩
 f19:=Tryz.func177.trans (congrArg some (by kernel_rfl))
 f20:=Tryz.func178.trans (congrArg some (by kernel_rfl))
 f21:=⟨Tryz.f168.name,by decide,Tryz.func168.trans (congrArg some (by kernel_rfl))⟩
 f22:=⟨Tryz.f169.name,by decide,Tryz.func169.trans (congrArg some (by kernel_rfl))⟩
 f23:=⟨Tryz.f170.name,by decide,Tryz.func170.trans (congrArg some (by kernel_rfl))⟩
 f24:=⟨Tryz.f171.name,by decide,Tryz.func171.trans (congrArg some (by kernel_rfl))⟩
 f25:=⟨Tryz.f172.name,by decide,Tryz.func172.trans (congrArg some (by kernel_rfl))⟩
 f26:=⟨Tryz.f173.name,by decide,Tryz.func173.trans (congrArg some (by kernel_rfl))⟩
 f27:=⟨Tryz.f174.name,by decide,Tryz.func174.trans (congrArg some (by kernel_rfl))⟩
 f28:=⟨Tryz.f175.name,by decide,Tryz.func175.trans (congrArg some (by kernel_rfl))⟩
 f29:=⟨Tryz.f176.name,by decide,Tryz.func176.trans (congrArg some (by kernel_rfl))⟩
 f31:=Tryz.func191.trans (congrArg some (by kernel_rfl))
 f32:=Tryz.func192.trans (congrArg some (by kernel_rfl))
 f36:=⟨Tryz.f190.name,by decide,Tryz.func190.trans (congrArg some (by kernel_rfl))⟩
 f37:=⟨Tryz.f193.name,by decide,Tryz.func193.trans (congrArg some (by kernel_rfl))⟩
 f38:=⟨Tryz.f194.name,by decide,Tryz.func194.trans (congrArg some (by kernel_rfl))⟩
 f39:=⟨Tryz.f195.name,by decide,Tryz.func195.trans (congrArg some (by kernel_rfl))⟩
 f41:=⟨Tryz.f205.name,by decide,Tryz.func205.trans (congrArg some (by kernel_rfl))⟩
 t0:=Tryz.underlying0
 a0:=Tryz.isAgg0
 z0:=Tryz.sizeOf0
 v0:=Tryz.zeroValue0
 t3:=Tryz.underlying3
 a3:=Tryz.isAgg3
 z3:=Tryz.sizeOf3
 v3:=Tryz.zeroValue3
 t4:=Tryz.underlying4
 a4:=Tryz.isAgg4
 z4:=Tryz.sizeOf4
 v4:=Tryz.zeroValue4
 t5:=Tryz.underlying5
 a5:=Tryz.isAgg5
 z5:=Tryz.sizeOf5
 v5:=Tryz.zeroValue5
 t9:=Tryz.underlying9
 a9:=Tryz.isAgg9
 z9:=Tryz.sizeOf9
 v9:=Tryz.zeroValue9
 t26:=Tryz.underlying55
 a26:=Tryz.isAgg55
 z26:=Tryz.sizeOf55
 v26:=Tryz.zeroValue55
 t27:=Tryz.underlying55
 a27:=Tryz.isAgg55
 z27:=Tryz.sizeOf55
 v27:=Tryz.zeroValue55
 t29:=Tryz.underlying9
 a29:=Tryz.isAgg9
 z29:=Tryz.sizeOf9
 v29:=Tryz.zeroValue9
 t32:=Tryz.underlying119
 a32:=Tryz.isAgg119
 z32:=Tryz.sizeOf119
 v32:=Tryz.zeroValue119
 t35:=Tryz.underlying216
 a35:=Tryz.isAgg216
 z35:=Tryz.sizeOf216
 v35:=Tryz.zeroValue216
 t36:=Tryz.underlying217
 a36:=Tryz.isAgg217
 z36:=Tryz.sizeOf217
 v36:=Tryz.zeroValue217
 t41:=Tryz.underlying196
 a41:=Tryz.isAgg196
 z41:=Tryz.sizeOf196
 v41:=Tryz.zeroValue196
 t44:=Tryz.underlying83
 a44:=Tryz.isAgg83
 z44:=Tryz.sizeOf83
 v44:=Tryz.zeroValue83
 t46:=Tryz.underlying36
 a46:=Tryz.isAgg36
 z46:=Tryz.sizeOf36
 v46:=Tryz.zeroValue36
 t53:=Tryz.underlying243
 a53:=Tryz.isAgg243
 z53:=Tryz.sizeOf243
 v53:=Tryz.zeroValue243
 t57:=Tryz.underlying247
 a57:=Tryz.isAgg247
 z57:=Tryz.sizeOf247
 v57:=Tryz.zeroValue247
 t63:=Tryz.underlying260
 a63:=Tryz.isAgg260
 z63:=Tryz.sizeOf260
 v63:=Tryz.zeroValue260
 t64:=Tryz.underlying109
 a64:=Tryz.isAgg109
 z64:=Tryz.sizeOf109
 v64:=Tryz.zeroValue109 }
theorem sortsTx (m:Nat):AnyZ.SortsIn Tryz.prog laysSorted_ren Fence.wide m :=
 ⟨fun blk off cap ss W hH hblk hsz=>callsIn_wide.2 (AnyM.slices_Sort_string laysSortS blk off cap ss W hH hblk hsz),
 fun p cap W=>callsIn_wide.2 (AnyM.slices_Sort_string_none laysSortS p cap W)⟩
theorem mapsKeys_any (mb:Option Nat)(W:World):CallsIn Fence.wide 5 Tryz.prog 99 #[.map mb] W fun e w'=>e=.returned (.func (.func 134) #[] #[.pointer (some ⟨W.heap.size,0,none⟩)])∧w'=W.alloc (.cells #[.map mb] 125) :=
 AnyZ.keys_in laysKeys Fence.wide 5 trivial rfl mb W
set_option maxHeartbeats 1000000 in
theorem sortedKeys_any {H:Type}(b nn:Nat)(D0:DataW H)(R:Value→Option (DataW H×List MemPlace))(w:World)(hown:w.ownsMap Tryz.prog 9 R b nn D0)(hmax:Maps.size D0≤maxLen)(hbytes:Maps.size D0*16≤140737488355328) :
  CallsIn Fence.wide 5 Tryz.prog 98 #[.func (.func 134) #[] #[.pointer (some ⟨w.heap.size,0,none⟩)]] (w.alloc (.cells #[.map (some b)] 125)) fun e w'=>∃ (v:Value) (ss:List (List UInt8)),e=.returned v∧ss.Perm (strKeys D0) ∧
   w'.ownsRow (w.alloc (.cells #[.map (some b)] 125)).heap.size 9 1 v ss.length ((ss.mergeSort (fun x y=>decide (x≤y))).map encStr)∧(v=.slice none 0 0↔ss=[])∧Below (w.alloc (.cells #[.map (some b)] 125)).heap.size (w.alloc (.cells #[.map (some b)] 125)) w':=by
 have hbl:=hown.lt
 have hseq:SeqGives Fence.wide 2 Tryz.prog 134 #[.pointer (some ⟨w.heap.size,0,none⟩)] encStr (fun ss=>ss.Perm (strKeys D0)) (Maps.size D0) (w.alloc (.cells #[.map (some b)] 125)) :=
  AnyZ.keys_gives (ρ:=laysKeys_ren) { laysKeys with } Fence.wide _ trivial rfl (by omega) w.heap.size b nn D0 _ (by simp) (by simp) (by
   obtain ⟨es,clock,hb,Ft,hs,hD⟩:=hown
   exact ⟨es,clock,(Below.heap_alloc _ _ b hbl).trans hb,Ft,hs,hD⟩)
 exact AnyZ.sorted_in laysSorted Fence.wide 5 trivial trivial trivial trivial rfl (by omega) (sortsTx _) (enters_of Tryz.func133 (by kernel_rfl) rfl) 134 #[.pointer (some ⟨w.heap.size,0,none⟩)] trivial (enters_of Tryz.func134 (by kernel_rfl) rfl) _ _ hmax hbytes _ hseq
end
section
open Go.RowKit Go.Maps Go.Sort Go.Shelf
def laysKeysG_ren:Go.Shelf.Ren:=⟨fun | 7=>100 | 10=>135 | n=>n,fun | 23=>94 | 26=>9 | 3=>42 | 28=>131 | 0=>0 | 27=>130 | 33=>178 | 4=>4 | n=>n,fun | n=>n⟩
theorem laysKeysG:Go.Proofs.SlLaysZ.n7 Tryz.prog laysKeysG_ren:={
 mixed:=by kernel_rfl
 f7:=⟨Tryz.f100.name,by decide,Tryz.func100.trans (congrArg some (by kernel_rfl))⟩
 f10:=⟨Tryz.f135.name,by decide,Tryz.func135.trans (congrArg some (by kernel_rfl))⟩
 t0:=Tryz.underlying0
 a0:=Tryz.isAgg0
 z0:=Tryz.sizeOf0
 v0:=Tryz.zeroValue0
 t4:=Tryz.underlying4
 a4:=Tryz.isAgg4
 z4:=Tryz.sizeOf4
 v4:=Tryz.zeroValue4
 t23:=Tryz.underlying94
 a23:=Tryz.isAgg94
 z23:=Tryz.sizeOf94
 v23:=Tryz.zeroValue94
 t26:=Tryz.underlying9
 a26:=Tryz.isAgg9
 z26:=Tryz.sizeOf9
 v26:=Tryz.zeroValue9
 t27:=Tryz.underlying130
 a27:=Tryz.isAgg130
 z27:=Tryz.sizeOf130
 v27:=Tryz.zeroValue130
 t28:=Tryz.underlying131
 a28:=Tryz.isAgg131
 z28:=Tryz.sizeOf131
 v28:=Tryz.zeroValue131
 t33:=Tryz.underlying178
 a33:=Tryz.isAgg178
 z33:=Tryz.sizeOf178
 v33:=Tryz.zeroValue178 }
theorem mapsKeysG_any (mb:Option Nat)(W:World):CallsIn Fence.wide 5 Tryz.prog 100 #[.map mb] W fun e w'=>e=.returned (.func (.func 135) #[] #[.pointer (some ⟨W.heap.size,0,none⟩)])∧w'=W.alloc (.cells #[.map mb] 94) :=
 AnyZ.keys_in laysKeysG Fence.wide 5 trivial rfl mb W
set_option maxHeartbeats 1000000 in
theorem sortedKeysG_any {H:Type}(b nn:Nat)(D0:DataW H)(R:Value→Option (DataW H×List MemPlace))(w:World)(hown:w.ownsMap Tryz.prog 9 R b nn D0)(hmax:Maps.size D0≤maxLen)(hbytes:Maps.size D0*16≤140737488355328) :
  CallsIn Fence.wide 5 Tryz.prog 98 #[.func (.func 135) #[] #[.pointer (some ⟨w.heap.size,0,none⟩)]] (w.alloc (.cells #[.map (some b)] 94)) fun e w'=>∃ (v:Value) (ss:List (List UInt8)),e=.returned v∧ss.Perm (strKeys D0) ∧
   w'.ownsRow (w.alloc (.cells #[.map (some b)] 94)).heap.size 9 1 v ss.length ((ss.mergeSort (fun x y=>decide (x≤y))).map encStr)∧(v=.slice none 0 0↔ss=[])∧Below (w.alloc (.cells #[.map (some b)] 94)).heap.size (w.alloc (.cells #[.map (some b)] 94)) w':=by
 have hbl:=hown.lt
 have hseq:SeqGives Fence.wide 2 Tryz.prog 135 #[.pointer (some ⟨w.heap.size,0,none⟩)] encStr (fun ss=>ss.Perm (strKeys D0)) (Maps.size D0) (w.alloc (.cells #[.map (some b)] 94)) :=
  AnyZ.keys_gives (ρ:=laysKeysG_ren) { laysKeysG with } Fence.wide _ trivial rfl (by omega) w.heap.size b nn D0 _ (by simp) (by simp) (by
   obtain ⟨es,clock,hb,Ft,hs,hD⟩:=hown
   exact ⟨es,clock,(Below.heap_alloc _ _ b hbl).trans hb,Ft,hs,hD⟩)
 exact AnyZ.sorted_in laysSorted Fence.wide 5 trivial trivial trivial trivial rfl (by omega) (sortsTx _) (enters_of Tryz.func133 (by kernel_rfl) rfl) 135 #[.pointer (some ⟨w.heap.size,0,none⟩)] trivial (enters_of Tryz.func135 (by kernel_rfl) rfl) _ _ hmax hbytes _ hseq
end
section
open Go.RowKit Wrd
def HeldM (w W:World)(b:Nat)(L:List (List UInt8)):Prop:=∃ m,Whole W b 125 #[.map (some m)]∧MapS W m L∧w.heap.size≤b∧w.heap.size≤m∧m≠b∧Ext w W
theorem HeldM.ext {w W W':World}{b:Nat}{L:List (List UInt8)}(h:HeldM w W b L)(hE:Ext W W'):HeldM w W' b L:=by
 obtain ⟨m,h1,h2,h3,h4,h5,h6⟩:=h
 exact ⟨m,h1.ext hE,h2.ext hE,h3,h4,h5,h6.trans hE⟩
theorem entered_terms1:EnteredF 96:=enteredF_of Tryz.func96 (by kernel_rfl) rfl
theorem entered_terms2:EnteredF 97:=enteredF_of Tryz.func97 (by kernel_rfl) rfl
theorem HeldM.put {w W W':World}{b m:Nat}{L:List (List UInt8)}(h1:Whole W b 125 #[.map (some m)])(h3:w.heap.size≤b)(h4:w.heap.size≤m)(h5:m≠b)(h6:Ext w W)(hM:MapS W' m L)(hG:W.grownBy W' (some m)):HeldM w W' b L :=
 ⟨m,h1.ownGrown hG (by simpa using h5),hM,h3,h4,h5,Below.grown h6 hG h6.le (fun k hk=>by cases hk;exact h4)⟩
set_option maxHeartbeats 2000000 in
set_option maxRecDepth 10000 in
theorem terms2_any {w W:World}{b:Nat}{L:List (List UInt8)}(x:List UInt8)(h:HeldM w W b L)(hL:L.length≤1000000)(hx:x.length≤24) :
  Calls Tryz.prog 97 #[.string ⟨x.toArray⟩,.pointer (some ⟨b,0,none⟩)] W fun e W'=>(∃ v,e=.returned v)∧HeldM w W' b (L++[x]):=by
 obtain ⟨m,h1,h2,h3,h4,h5,h6⟩:=h
 have s0:=h1.at 0 (u:=.map (some m)) rfl
 have H1:=hide h1
 have H2:=hide h2
 have H3:=hide h3
 have H4:=hide h4
 have H5:=hide h5
 have H6:=hide h6
 have HL:=hide hL
 have HX:=hide (show x.length≤1000 by omega)
 clear h1 h2 h3 h4 h5 h6 hL hx
 go_enter Tryz.func97,Tryz.ntmps97
 go_wp2_with (at_mapUpdate;refine wpList_putS rfl (.tmp 3) (.tmp 4) (.tmp 5) rfl rfl H2.out HL.out HX.out rfl rfl ?_;intro w2 hM hG;have HM:=hide hM;have HG:=hide hG;clear hM hG)
 go_end0
 exact ⟨⟨_,rfl⟩,HeldM.put H1.out H3.out H4.out H5.out H6.out HM.out HG.out⟩
set_option maxHeartbeats 2000000 in
set_option maxRecDepth 10000 in
theorem terms1_any {w W:World}{b:Nat}{L:List (List UInt8)}(x:List UInt8)(h:HeldM w W b L)(hL:L.length≤1000000)(hx:x.length≤24) :
  Calls Tryz.prog 96 #[.string ⟨x.toArray⟩,.pointer (some ⟨b,0,none⟩)] W fun e W'=>(∃ v,e=.returned v)∧HeldM w W' b (L++[64 :: x]):=by
 obtain ⟨m,h1,h2,h3,h4,h5,h6⟩:=h
 have s0:=h1.at 0 (u:=.map (some m)) rfl
 have hadd:=fun W=>run_atAdd W x (by omega)
 have H1:=hide h1
 have H2:=hide h2
 have H3:=hide h3
 have H4:=hide h4
 have H5:=hide h5
 have H6:=hide h6
 have HL:=hide hL
 have HX:=hide (show (64 :: x).length≤1000 by rw [List.length_cons];omega)
 clear h1 h2 h3 h4 h5 h6 hL hx
 go_enter Tryz.func96,Tryz.ntmps96
 go_wp2_with (at_mapUpdate;refine wpList_putS (k:=64 :: x) rfl (.tmp 3) (.tmp 5) (.tmp 6) rfl rfl H2.out HL.out HX.out rfl rfl ?_;intro w2 hM hG;have HM:=hide hM;have HG:=hide hG;clear hM hG)
 go_end0
 exact ⟨⟨_,rfl⟩,HeldM.put H1.out H3.out H4.out H5.out H6.out HM.out HG.out⟩
theorem MapS.sorted {w:World}{m:Nat}{L T:List (List UInt8)}{D:DataW Unit}(h1:w.ownsMap Tryz.prog 9 unitElem m L.length D)(h2:∀ x:List UInt8,Maps.has D (.string x)=decide (x∈L))(hT:Rising T)(hm:∀ x,x∈T↔x∈L){ss:List (List UInt8)}(hp:ss.Perm (strKeys D)) :
  ss.mergeSort (fun x y=>decide (x≤y))=T:=by
 obtain ⟨es,hD,hko⟩:=h1.keysOf
 obtain ⟨es',hD',hpw⟩:=h1.tidy str_law
 subst hD
 injection hD' with hD'
 subst hD'
 have hk:∀ p∈es,∃ x,p.1=.string x:=fun p hp'=>by
  obtain ⟨v,hv⟩:=hko p hp'
  obtain ⟨x,_,hx,_⟩:=Maps.keyOf_str Tryz.underlying9 hv
  exact ⟨x,hx⟩
 have hT2:=perm_strKeys hpw hk hT.nodup (fun x=>by rw [h2 x,decide_eq_true_iff];exact hm x)
 have hp2:=hp.trans hT2.symm
 exact sort_is (hp2.nodup_iff.2 hT.nodup) hT (fun x=>hp2.mem_iff)
set_option maxHeartbeats 2000000 in
set_option maxRecDepth 10000 in
theorem pTermsO_any (t lv:Int)(src text:List UInt8)(w:World)(hs:src.length≤20000)(ht:text.length≤20000):Calls Tryz.prog 63 #[recV t lv src text] w fun e w'=>∃ v,e=.returned v∧OwnTx w' w.heap.size v (termsE text src)∧Ext w w':=by
 obtain ⟨w1,hw1⟩:∃ w1,w1=w.alloc (.cells #[.int .u64 t,.int .u8 lv,.string ⟨src.toArray⟩,.string ⟨text.toArray⟩] 38):=⟨_,rfl⟩
 have hE1:Ext w w1:=by rw [hw1];exact extNew w _
 have hW1:Whole w1 w.heap.size 38 #[.int .u64 t,.int .u8 lv,.string ⟨src.toArray⟩,.string ⟨text.toArray⟩]:=by rw [hw1];exact Whole.new w _ _
 obtain ⟨b,hb⟩:∃ b,b=w.heap.size+1+1:=⟨_,rfl⟩
 have hls:=words_len src
 have hlt:=words_len text
 have C1:∀ W,HeldM w1 W b []→Calls Tryz.prog 95 #[.string ⟨src.toArray⟩,.func (.func 96) #[] #[.pointer (some ⟨b,0,none⟩)]] W fun e w'=>(∃ v,e=.returned v)∧HeldM w1 w' b ((wordsE src).map fun x=>64 :: x):=fun W h=>by
  have:=each_any entered_terms1 (St:=fun L W=>HeldM w1 W b (L.map fun x=>64 :: x)) 20000 (fun pre x W hS hp hx=>by
   have h:=terms1_any x hS (by rw [List.length_map];omega) hx
   rw [List.map_append]
   exact h) (fun _ _ _ h hE=>h.ext hE) src [] W (by omega) (by simpa using hs) h
  simpa using this
 have C2:∀ W,HeldM w1 W b ((wordsE src).map fun x=>64 :: x)→Calls Tryz.prog 95 #[.string ⟨text.toArray⟩,.func (.func 97) #[] #[.pointer (some ⟨b,0,none⟩)]] W fun e w'=>(∃ v,e=.returned v)∧HeldM w1 w' b (((wordsE src).map fun x=>64 :: x)++wordsE text):=fun W h=>by
  have:=each_any entered_terms2 (St:=fun L W=>HeldM w1 W b (((wordsE src).map fun x=>64 :: x)++L)) 20000 (fun pre x W hS hp hx=>by
   have h:=terms2_any x hS (by rw [List.length_append,List.length_map];omega) hx
   rw [← List.append_assoc]
   exact h) (fun _ _ _ h hE=>h.ext hE) text [] W (by omega) (by simpa using ht) (by simpa using h)
  simpa using this
 have hT:=terms_rising text src
 have hm:∀ x,x∈termsE text src↔x∈((wordsE src).map fun x=>64 :: x)++wordsE text:=fun x=>by
  rw [mem_terms,List.mem_append,List.mem_map]
  constructor
  ·rintro (h | ⟨w,h1,rfl⟩)
   ·exact .inr h
   ·exact .inl ⟨w,h1,rfl⟩
  ·rintro (⟨w,h1,rfl⟩ | h)
   ·exact .inr ⟨w,h1,rfl⟩
   ·exact .inl h
 have hLl:(((wordsE src).map fun x=>64 :: x)++wordsE text).length≤40000:=by rw [List.length_append,List.length_map];omega
 have hsz:w1.heap.size=w.heap.size+1:=by rw [hw1];simp
 have H0:HeldM w1 (((w.alloc (.cells #[.int .u64 t,.int .u8 lv,.string ⟨src.toArray⟩,.string ⟨text.toArray⟩] 38)).alloc (.map #[] 0)).alloc (.cells #[.map (some (w.heap.size+1))] 125)) b []:=by
  rw [← hw1]
  refine ⟨w.heap.size+1,?_,?_,by omega,by omega,by omega,(extNew w1 _).trans (extNew _ _)⟩
  ·have:=Whole.new (w1.alloc (.map #[] 0)) 125 #[.map (some (w.heap.size+1))]
   rw [hb]
   rw [World.size_alloc,hsz] at this
   exact this
  ·rw [← hsz]
   exact (MapS.made w1).ext (extNew _ _)
 generalize termsE text src=T at *
 generalize hL1:(wordsE src).map (fun x=>64 :: x)=L1 at *
 generalize wordsE text=L2 at *
 have H0':=hide H0
 have C1':=hide C1
 have C2':=hide C2
 clear H0 C1 C2
 unfold recV
 clear hls hlt hs ht
 have HT:=hide hT
 have HM:=hide hm
 have HLl:=hide hLl
 have HE1:=hide hE1
 have HW1:=hide hW1
 have HB:=hide hb
 clear hT hm hLl hE1 hW1
 clear hw1 hb hsz
 go_enter Tryz.func63,Tryz.ntmps63
 have hmm:=@run_makeMap Tryz.prog
 go_wp2_with fail
 rw [← HB.out]
 refine (C1'.out _ H0'.out).mono ?_
 rintro e w2 ⟨⟨v2,rfl⟩,hH2⟩
 have H2:=hide hH2
 have c3:w2.cell? ⟨w.heap.size,3,none⟩=some (.string ⟨text.toArray⟩):=by
  obtain ⟨_,_,_,_,_,_,hE2⟩:=hH2
  exact (HW1.out.ext hE2).at 3 (u:=.string ⟨text.toArray⟩) rfl
 clear hH2 H0' C1'
 go_wp2_with fail
 refine (C2'.out _ H2.out).mono ?_
 rintro e w3 ⟨⟨v3,rfl⟩,m,h1,⟨D,h2,h2'⟩,h3,h4,h5,h6⟩
 have s0:=h1.at 0 (u:=.map (some m)) rfl
 have hsl:=h2.size_le
 have CK:=callsIn_wide.1 (mapsKeys_any (some m) w3)
 have CS:=callsIn_wide.1 (sortedKeys_any m (L1++L2).length D unitElem w3 h2 (by have:=HLl.out;unfold maxLen;omega) (by have:=HLl.out;omega))
 have HSo:=hide (fun ss=>MapS.sorted h2 h2' HT.out HM.out (ss:=ss))
 have HE3:=hide (HE1.out.trans h6)
 clear h1 h2 h2' h3 h4 h5 h6 hsl c3 C2'
 go_wp2_with fail
 refine CK.mono ?_
 rintro e w4 ⟨rfl,rfl⟩
 clear CK
 go_wp2_with fail
 refine CS.mono ?_
 rintro e w5 ⟨v,ss,rfl,hP,hR,hN,hB⟩
 have hTs:=HSo.out ss hP
 have hl:ss.length=T.length:=by rw [← hTs,List.length_mergeSort]
 rw [hTs,hl] at hR
 have hle:=(HE3.out.trans (extNew w3 (.cells #[.map (some m)] 125))).le
 have hO:OwnTx w5 w.heap.size v T:=⟨hR.1,hR.2.imp_right fun ⟨g,cap,cur,e,hg,r⟩=>⟨g,cap,cur,e,Nat.le_trans hle hg,r⟩⟩
 have HO:=hide hO
 have HE5:=hide ((HE3.out.trans (extNew w3 _)).trans hB)
 clear hTs hl hR hN hB hP hO hle CS
 go_wp2
 go_ret
 exact ⟨v,rfl,HO.out,HE5.out⟩
end
end Go.Proofs.YtacgkefnlbnckaaGreatDoor
