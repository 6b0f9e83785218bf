/- The library's maps.Keys and slices.Sorted at the program's set of terms: their contracts laid at this program. The library's maps.Keys and slices.Sorted at the program's map of lists. The program's Terms: the words of two texts, put into a set, its keys sorted. -/
import Derived.Test.YtpmedpdjglcdpaaGreatDoorB06
import Derived.Test.YtpmedpdjglcdpaaGreatDoorB09
import Derived.Test.YtpmedpdjglcdpaaGreatDoorB41
import Derived.Test.YtpmedpdjglcdpaaGreatDoorB43
import Derived.Shelf.SlIter.Nil
import Derived.Shelf.SortM.Plain
import Derived.Shelf.SortM.SortNone
import Derived.Ground.GgzProg
import Derived.Ground.SlgmProg
namespace Go.Proofs.YtpmedpdjglcdpaaGreatDoor
section
open Go.RowKit Go.Maps Go.Sort Go.Shelf
def Zc:Go.Shelf.Ren:=⟨fun | 7=>109 | 10=>143 | n=>n,fun | 23=>131 | 26=>9 | 3=>133 | 28=>137 | 0=>0 | 27=>136 | 33=>182 | 4=>4 | n=>n,fun | n=>n⟩
theorem Qi:Go.Proofs.SlLaysZ.n7 Tryz.prog Zc:={
 mixed:=by kernel_rfl
 f7:=⟨Tryz.f109.name,by decide,Tryz.func109.trans (congrArg some (by kernel_rfl))⟩
 f10:=⟨Tryz.f143.name,by decide,Tryz.func143.trans (congrArg some (by kernel_rfl))⟩
 t0:=Tryz.underlying0
 a0:=Tryz.isAgg0
 z0:=Tryz.sizeOf0
 v0:=Tryz.zeroValue0
 t4:=Tryz.underlying4
 a4:=Tryz.isAgg4
 z4:=Tryz.sizeOf4
 v4:=Tryz.zeroValue4
 t23:=Tryz.underlying131
 a23:=Tryz.isAgg131
 z23:=Tryz.sizeOf131
 v23:=Tryz.zeroValue131
 t26:=Tryz.underlying9
 a26:=Tryz.isAgg9
 z26:=Tryz.sizeOf9
 v26:=Tryz.zeroValue9
 t27:=Tryz.underlying136
 a27:=Tryz.isAgg136
 z27:=Tryz.sizeOf136
 v27:=Tryz.zeroValue136
 t28:=Tryz.underlying137
 a28:=Tryz.isAgg137
 z28:=Tryz.sizeOf137
 v28:=Tryz.zeroValue137
 t33:=Tryz.underlying182
 a33:=Tryz.isAgg182
 z33:=Tryz.sizeOf182
 v33:=Tryz.zeroValue182 }
def je:Go.Shelf.Ren:=⟨fun | 6=>108 | 8=>141 | 9=>142 | 11=>165 | 13=>167 | 12=>166 | 23=>185 | 24=>186 | 14=>176 | 15=>177 | 16=>178 | 17=>179 | 18=>180 | 19=>181 | 20=>182 | 21=>183 | 22=>184 | 25=>198 | 26=>199 | 27=>200 | 28=>201 | 29=>202 | 30=>203 | 31=>213 | n=>n,fun | 26=>9 | 28=>137 | 24=>66 | 0=>0 | 3=>3 | 37=>109 | 48=>72 | 50=>37 | 4=>4 | 40=>222 | 39=>221 | 45=>200 | 5=>5 | 9=>9 | 51=>247 | 55=>251 | 57=>264 | 58=>118 | 33=>182 | n=>n,fun | n=>n⟩
theorem XL:Go.Proofs.SlLaysZ.n6 Tryz.prog je:={
 mixed:=by kernel_rfl
 f6:=⟨Tryz.f108.name,by decide,Tryz.func108.trans (congrArg some (by kernel_rfl))⟩
 f8:=⟨Tryz.f141.name,by decide,Tryz.func141.trans (congrArg some (by kernel_rfl))⟩
 f11:=⟨Tryz.f165.name,by decide,Tryz.func165.trans (congrArg some (by kernel_rfl))⟩
 t0:=Tryz.underlying0
 a0:=Tryz.isAgg0
 z0:=Tryz.sizeOf0
 v0:=Tryz.zeroValue0
 t24:=Tryz.underlying66
 a24:=Tryz.isAgg66
 z24:=Tryz.sizeOf66
 v24:=Tryz.zeroValue66
 t26:=Tryz.underlying9
 a26:=Tryz.isAgg9
 z26:=Tryz.sizeOf9
 v26:=Tryz.zeroValue9
 t28:=Tryz.underlying137
 a28:=Tryz.isAgg137
 z28:=Tryz.sizeOf137
 v28:=Tryz.zeroValue137
 i26:=by kernel_rfl }
def Vi:Go.Shelf.Ren:=⟨fun | 6=>142 | 8=>167 | 9=>166 | 19=>185 | 20=>186 | 21=>176 | 22=>177 | 23=>178 | 24=>179 | 25=>180 | 26=>181 | 27=>182 | 28=>183 | 29=>184 | 36=>198 | 31=>199 | 32=>200 | 37=>201 | 38=>202 | 39=>203 | 41=>213 | n=>n,fun | 27=>66 | 29=>9 | 3=>3 | 32=>109 | 26=>66 | 0=>0 | 44=>72 | 46=>37 | 4=>4 | 36=>222 | 35=>221 | 41=>200 | 5=>5 | 9=>9 | 53=>247 | 57=>251 | 63=>264 | 64=>118 | n=>n,fun | n=>n⟩
theorem VZ:Go.Proofs.SlLaysM.n6 Tryz.prog Vi:={
 mixed:=by kernel_rfl
 f6:=⟨Tryz.f142.name,by decide,Tryz.func142.trans (congrArg some (by kernel_rfl))⟩
 f8:=Tryz.func167.trans (congrArg some (by kernel_rfl))
 f9:=⟨Tryz.f166.name,by decide,Tryz.func166.trans (congrArg some (by kernel_rfl))⟩
 f19:=Tryz.func185.trans (congrArg some (by kernel_rfl))
 f20:=Tryz.func186.trans (congrArg some (by kernel_rfl))
 f21:=⟨Tryz.f176.name,by decide,Tryz.func176.trans (congrArg some (by kernel_rfl))⟩
 f22:=⟨Tryz.f177.name,by decide,Tryz.func177.trans (congrArg some (by kernel_rfl))⟩
 f23:=⟨Tryz.f178.name,by decide,Tryz.func178.trans (congrArg some (by kernel_rfl))⟩
 f24:=⟨Tryz.f179.name,by decide,Tryz.func179.trans (congrArg some (by kernel_rfl))⟩
 f25:=⟨Tryz.f180.name,by decide,Tryz.func180.trans (congrArg some (by kernel_rfl))⟩
 f26:=⟨Tryz.f181.name,by decide,Tryz.func181.trans (congrArg some (by kernel_rfl))⟩
 f27:=⟨Tryz.f182.name,by decide,Tryz.func182.trans (congrArg some (by kernel_rfl))⟩
 f28:=⟨Tryz.f183.name,by decide,Tryz.func183.trans (congrArg some (by kernel_rfl))⟩
 f29:=⟨Tryz.f184.name,by decide,Tryz.func184.trans (congrArg some (by kernel_rfl))⟩
 f31:=Tryz.func199.trans (congrArg some (by kernel_rfl))
 f32:=Tryz.func200.trans (congrArg some (by kernel_rfl))
 f36:=⟨Tryz.f198.name,by decide,Tryz.func198.trans (congrArg some (by kernel_rfl))⟩
 f37:=⟨Tryz.f201.name,by decide,Tryz.func201.trans (congrArg some (by kernel_rfl))⟩
 f38:=⟨Tryz.f202.name,by decide,Tryz.func202.trans (congrArg some (by kernel_rfl))⟩
 f39:=⟨Tryz.f203.name,by decide,Tryz.func203.trans (congrArg some (by kernel_rfl))⟩
 f41:=⟨Tryz.f213.name,by decide,Tryz.func213.trans (congrArg some (by kernel_rfl))⟩
 t0:=Tryz.underlying0
 a0:=Tryz.isAgg0
 z0:=Tryz.sizeOf0
 v0:=Tryz.zeroValue0
 t3:=Tryz.underlying3
 a3:=Tryz.isAgg3
 z3:=Tryz.sizeOf3
 v3:=Tryz.zeroValue3
 t4:=Tryz.underlying4
 a4:=Tryz.isAgg4
 z4:=Tryz.sizeOf4
 v4:=Tryz.zeroValue4
 t5:=Tryz.underlying5
 a5:=Tryz.isAgg5
 z5:=Tryz.sizeOf5
 v5:=Tryz.zeroValue5
 t9:=Tryz.underlying9
 a9:=Tryz.isAgg9
 z9:=Tryz.sizeOf9
 v9:=Tryz.zeroValue9
 t26:=Tryz.underlying66
 a26:=Tryz.isAgg66
 z26:=Tryz.sizeOf66
 v26:=Tryz.zeroValue66
 t27:=Tryz.underlying66
 a27:=Tryz.isAgg66
 z27:=Tryz.sizeOf66
 v27:=Tryz.zeroValue66
 t29:=Tryz.underlying9
 a29:=Tryz.isAgg9
 z29:=Tryz.sizeOf9
 v29:=Tryz.zeroValue9
 t32:=Tryz.underlying109
 a32:=Tryz.isAgg109
 z32:=Tryz.sizeOf109
 v32:=Tryz.zeroValue109
 t35:=Tryz.underlying221
 a35:=Tryz.isAgg221
 z35:=Tryz.sizeOf221
 v35:=Tryz.zeroValue221
 t36:=Tryz.underlying222
 a36:=Tryz.isAgg222
 z36:=Tryz.sizeOf222
 v36:=Tryz.zeroValue222
 t41:=Tryz.underlying200
 a41:=Tryz.isAgg200
 z41:=Tryz.sizeOf200
 v41:=Tryz.zeroValue200
 t44:=Tryz.underlying72
 a44:=Tryz.isAgg72
 z44:=Tryz.sizeOf72
 v44:=Tryz.zeroValue72
 t46:=Tryz.underlying37
 a46:=Tryz.isAgg37
 z46:=Tryz.sizeOf37
 v46:=Tryz.zeroValue37
 t53:=Tryz.underlying247
 a53:=Tryz.isAgg247
 z53:=Tryz.sizeOf247
 v53:=Tryz.zeroValue247
 t57:=Tryz.underlying251
 a57:=Tryz.isAgg251
 z57:=Tryz.sizeOf251
 v57:=Tryz.zeroValue251
 t63:=Tryz.underlying264
 a63:=Tryz.isAgg264
 z63:=Tryz.sizeOf264
 v63:=Tryz.zeroValue264
 t64:=Tryz.underlying118
 a64:=Tryz.isAgg118
 z64:=Tryz.sizeOf118
 v64:=Tryz.zeroValue118 }
theorem aaV (m:Nat):AnyZ.SortsIn Tryz.prog je Fence.wide m :=
 ⟨fun blk off cap ss W hH hblk hsz=>callsIn_wide.2 (AnyM.slices_Sort_string VZ blk off cap ss W hH hblk hsz),
 fun p cap W=>callsIn_wide.2 (AnyM.slices_Sort_string_none VZ p cap W)⟩
theorem U2 (mb:Option Nat)(W:World):CallsIn Fence.wide 5 Tryz.prog 109 #[.map mb] W fun e w'=>e=.returned (.func (.func 143) #[] #[.pointer (some ⟨W.heap.size,0,none⟩)])∧w'=W.alloc (.cells #[.map mb] 131) :=
 AnyZ.keys_in Qi Fence.wide 5 trivial rfl mb W
set_option maxHeartbeats 1000000 in
theorem XM {H:Type}(b nn:Nat)(D0:DataW H)(R:Value→Option (DataW H×List MemPlace))(w:World)(hown:w.ownsMap Tryz.prog 9 R b nn D0)(hmax:Maps.size D0≤maxLen)(hbytes:Maps.size D0*16≤140737488355328) :
  CallsIn Fence.wide 5 Tryz.prog 108 #[.func (.func 143) #[] #[.pointer (some ⟨w.heap.size,0,none⟩)]] (w.alloc (.cells #[.map (some b)] 131)) fun e w'=>∃ (v:Value) (ss:List (List UInt8)),e=.returned v∧ss.Perm (strKeys D0) ∧
   w'.ownsRow (w.alloc (.cells #[.map (some b)] 131)).heap.size 9 1 v ss.length ((ss.mergeSort (fun x y=>decide (x≤y))).map encStr)∧(v=.slice none 0 0↔ss=[])∧Below (w.alloc (.cells #[.map (some b)] 131)).heap.size (w.alloc (.cells #[.map (some b)] 131)) w':=by
 have hbl:=hown.lt
 have hseq:SeqGives Fence.wide 2 Tryz.prog 143 #[.pointer (some ⟨w.heap.size,0,none⟩)] encStr (fun ss=>ss.Perm (strKeys D0)) (Maps.size D0) (w.alloc (.cells #[.map (some b)] 131)) :=
  AnyZ.keys_gives (ρ:=Zc) { Qi with } Fence.wide _ trivial rfl (by omega) w.heap.size b nn D0 _ (by simp) (by simp) (by
   obtain⟨es,clock,hb,Ft,hs,hD⟩:=hown
   exact⟨es,clock,(Below.heap_alloc _ _ b hbl).trans hb,Ft,hs,hD⟩)
 exact AnyZ.sorted_in XL Fence.wide 5 trivial trivial trivial trivial rfl (by omega) (aaV _) (enters_of Tryz.func142 (by kernel_rfl) rfl) 143 #[.pointer (some ⟨w.heap.size,0,none⟩)] trivial (enters_of Tryz.func143 (by kernel_rfl) rfl) _ _ hmax hbytes _ hseq
end
section
open Go.RowKit Go.Maps Go.Sort Go.Shelf
def jL:Go.Shelf.Ren:=⟨fun | 7=>110 | 10=>144 | n=>n,fun | 23=>104 | 26=>9 | 3=>48 | 28=>137 | 0=>0 | 27=>136 | 33=>182 | 4=>4 | n=>n,fun | n=>n⟩
theorem V0:Go.Proofs.SlLaysZ.n7 Tryz.prog jL:={
 mixed:=by kernel_rfl
 f7:=⟨Tryz.f110.name,by decide,Tryz.func110.trans (congrArg some (by kernel_rfl))⟩
 f10:=⟨Tryz.f144.name,by decide,Tryz.func144.trans (congrArg some (by kernel_rfl))⟩
 t0:=Tryz.underlying0
 a0:=Tryz.isAgg0
 z0:=Tryz.sizeOf0
 v0:=Tryz.zeroValue0
 t4:=Tryz.underlying4
 a4:=Tryz.isAgg4
 z4:=Tryz.sizeOf4
 v4:=Tryz.zeroValue4
 t23:=Tryz.underlying104
 a23:=Tryz.isAgg104
 z23:=Tryz.sizeOf104
 v23:=Tryz.zeroValue104
 t26:=Tryz.underlying9
 a26:=Tryz.isAgg9
 z26:=Tryz.sizeOf9
 v26:=Tryz.zeroValue9
 t27:=Tryz.underlying136
 a27:=Tryz.isAgg136
 z27:=Tryz.sizeOf136
 v27:=Tryz.zeroValue136
 t28:=Tryz.underlying137
 a28:=Tryz.isAgg137
 z28:=Tryz.sizeOf137
 v28:=Tryz.zeroValue137
 t33:=Tryz.underlying182
 a33:=Tryz.isAgg182
 z33:=Tryz.sizeOf182
 v33:=Tryz.zeroValue182 }
theorem Vj (mb:Option Nat)(W:World):CallsIn Fence.wide 5 Tryz.prog 110 #[.map mb] W fun e w'=>e=.returned (.func (.func 144) #[] #[.pointer (some ⟨W.heap.size,0,none⟩)])∧w'=W.alloc (.cells #[.map mb] 104) :=
 AnyZ.keys_in V0 Fence.wide 5 trivial rfl mb W
set_option maxHeartbeats 1000000 in
theorem Yk {H:Type}(b nn:Nat)(D0:DataW H)(R:Value→Option (DataW H×List MemPlace))(w:World)(hown:w.ownsMap Tryz.prog 9 R b nn D0)(hmax:Maps.size D0≤maxLen)(hbytes:Maps.size D0*16≤140737488355328) :
  CallsIn Fence.wide 5 Tryz.prog 108 #[.func (.func 144) #[] #[.pointer (some ⟨w.heap.size,0,none⟩)]] (w.alloc (.cells #[.map (some b)] 104)) fun e w'=>∃ (v:Value) (ss:List (List UInt8)),e=.returned v∧ss.Perm (strKeys D0) ∧
   w'.ownsRow (w.alloc (.cells #[.map (some b)] 104)).heap.size 9 1 v ss.length ((ss.mergeSort (fun x y=>decide (x≤y))).map encStr)∧(v=.slice none 0 0↔ss=[])∧Below (w.alloc (.cells #[.map (some b)] 104)).heap.size (w.alloc (.cells #[.map (some b)] 104)) w':=by
 have hbl:=hown.lt
 have hseq:SeqGives Fence.wide 2 Tryz.prog 144 #[.pointer (some ⟨w.heap.size,0,none⟩)] encStr (fun ss=>ss.Perm (strKeys D0)) (Maps.size D0) (w.alloc (.cells #[.map (some b)] 104)) :=
  AnyZ.keys_gives (ρ:=jL) { V0 with } Fence.wide _ trivial rfl (by omega) w.heap.size b nn D0 _ (by simp) (by simp) (by
   obtain⟨es,clock,hb,Ft,hs,hD⟩:=hown
   exact⟨es,clock,(Below.heap_alloc _ _ b hbl).trans hb,Ft,hs,hD⟩)
 exact AnyZ.sorted_in XL Fence.wide 5 trivial trivial trivial trivial rfl (by omega) (aaV _) (enters_of Tryz.func142 (by kernel_rfl) rfl) 144 #[.pointer (some ⟨w.heap.size,0,none⟩)] trivial (enters_of Tryz.func144 (by kernel_rfl) rfl) _ _ hmax hbytes _ hseq
end
section
open Go.RowKit Wrd
def HeldM (w W:World)(b:Nat)(L:List (List UInt8)):Prop:=∃ m,Whole W b 131 #[.map (some m)]∧MapS W m L∧w.heap.size≤b∧w.heap.size≤m∧m≠b∧Ext w W
theorem HeldM.ext {w W W':World}{b:Nat}{L:List (List UInt8)}(h:HeldM w W b L)(hE:Ext W W'):HeldM w W' b L:=by
 obtain⟨m,h1,h2,h3,h4,h5,h6⟩:=h
 exact⟨m,h1.ext hE,h2.ext hE,h3,h4,h5,h6.trans hE⟩
theorem XN:Zb 106:=Z9 Tryz.func106 (by kernel_rfl) rfl
theorem XO:Zb 107:=Z9 Tryz.func107 (by kernel_rfl) rfl
theorem HeldM.put {w W W':World}{b m:Nat}{L:List (List UInt8)}(h1:Whole W b 131 #[.map (some m)])(h3:w.heap.size≤b)(h4:w.heap.size≤m)(h5:m≠b)(h6:Ext w W)(hM:MapS W' m L)(hG:W.grownBy W' (some m)):HeldM w W' b L :=
 ⟨m,h1.ownGrown hG (by simpa using h5),hM,h3,h4,h5,Below.grown h6 hG h6.le (fun k hk=>by cases hk;exact h4)⟩
set_option maxHeartbeats 2000000 in
set_option maxRecDepth 10000 in
theorem aan {w W:World}{b:Nat}{L:List (List UInt8)}(x:List UInt8)(h:HeldM w W b L)(hL:L.length≤1000000)(hx:x.length≤24) :
  Calls Tryz.prog 107 #[.string ⟨x.toArray⟩,.pointer (some ⟨b,0,none⟩)] W fun e W'=>(∃ v,e=.returned v)∧HeldM w W' b (L++[x]):=by
 obtain⟨m,h1,h2,h3,h4,h5,h6⟩:=h
 have s0:=h1.at 0 (u:=.map (some m)) rfl
 have H1:=hide h1
 have H2:=hide h2
 have H3:=hide h3
 have H4:=hide h4
 have H5:=hide h5
 have H6:=hide h6
 have HL:=hide hL
 have HX:=hide (show x.length≤1000 by omega)
 clear h1 h2 h3 h4 h5 h6 hL hx
 go_enter Tryz.func107,Tryz.ntmps107
 go_wp2_with (at_mapUpdate;refine Z8 rfl (.tmp 3) (.tmp 4) (.tmp 5) rfl rfl H2.out HL.out HX.out rfl rfl ?_;intro w2 hM hG;have HM:=hide hM;have HG:=hide hG;clear hM hG)
 go_end0
 exact⟨⟨_,rfl⟩,HeldM.put H1.out H3.out H4.out H5.out H6.out HM.out HG.out⟩
set_option maxHeartbeats 2000000 in
set_option maxRecDepth 10000 in
theorem aao {w W:World}{b:Nat}{L:List (List UInt8)}(x:List UInt8)(h:HeldM w W b L)(hL:L.length≤1000000)(hx:x.length≤24) :
  Calls Tryz.prog 106 #[.string ⟨x.toArray⟩,.pointer (some ⟨b,0,none⟩)] W fun e W'=>(∃ v,e=.returned v)∧HeldM w W' b (L++[64::x]):=by
 obtain⟨m,h1,h2,h3,h4,h5,h6⟩:=h
 have s0:=h1.at 0 (u:=.map (some m)) rfl
 have hadd:=fun W=>VF W x (by omega)
 have H1:=hide h1
 have H2:=hide h2
 have H3:=hide h3
 have H4:=hide h4
 have H5:=hide h5
 have H6:=hide h6
 have HL:=hide hL
 have HX:=hide (show (64::x).length≤1000 by rw[List.length_cons];omega)
 clear h1 h2 h3 h4 h5 h6 hL hx
 go_enter Tryz.func106,Tryz.ntmps106
 go_wp2_with (at_mapUpdate;refine Z8 (k:=64::x) rfl (.tmp 3) (.tmp 5) (.tmp 6) rfl rfl H2.out HL.out HX.out rfl rfl ?_;intro w2 hM hG;have HM:=hide hM;have HG:=hide hG;clear hM hG)
 go_end0
 exact⟨⟨_,rfl⟩,HeldM.put H1.out H3.out H4.out H5.out H6.out HM.out HG.out⟩
theorem MapS.sorted {w:World}{m:Nat}{L T:List (List UInt8)}{D:DataW Unit}(h1:w.ownsMap Tryz.prog 9 unitElem m L.length D)(h2:∀ x:List UInt8,Maps.has D (.string x)=decide (x∈L))(hT:Rising T)(hm:∀ x,x∈T↔x∈L){ss:List (List UInt8)}(hp:ss.Perm (strKeys D)) :
  ss.mergeSort (fun x y=>decide (x≤y))=T:=by
 obtain⟨es,hD,hko⟩:=h1.keysOf
 obtain⟨es',hD',hpw⟩:=h1.tidy str_law
 subst hD
 injection hD' with hD'
 subst hD'
 have hk:∀ p∈es,∃ x,p.1=.string x:=fun p hp'=>by
  obtain⟨v,hv⟩:=hko p hp'
  obtain⟨x,_,hx,_⟩:=Maps.keyOf_str Tryz.underlying9 hv
  exact⟨x,hx⟩
 have hT2:=perm_strKeys hpw hk hT.nodup (fun x=>by rw[h2 x,decide_eq_true_iff];exact hm x)
 have hp2:=hp.trans hT2.symm
 exact aaT (hp2.nodup_iff.2 hT.nodup) hT (fun x=>hp2.mem_iff)
set_option maxHeartbeats 2000000 in
set_option maxRecDepth 10000 in
theorem Qj (t lv:Int)(src text:List UInt8)(w:World)(hs:src.length≤20000)(ht:text.length≤20000):Calls Tryz.prog 77 #[QN t lv src text] w fun e w'=>∃ v,e=.returned v∧OwnTx w' w.heap.size v (xh text src)∧Ext w w':=by
 obtain⟨w1,hw1⟩:∃ w1,w1=w.alloc (.cells #[.int .u64 t,.int .u8 lv,.string ⟨src.toArray⟩,.string ⟨text.toArray⟩] 39):=⟨_,rfl⟩
 have hE1:Ext w w1:=by rw[hw1];exact zb w _
 have hW1:Whole w1 w.heap.size 39 #[.int .u64 t,.int .u8 lv,.string ⟨src.toArray⟩,.string ⟨text.toArray⟩]:=by rw[hw1];exact Whole.new w _ _
 obtain⟨b,hb⟩:∃ b,b=w.heap.size+1+1:=⟨_,rfl⟩
 have hls:=xm src
 have hlt:=xm text
 have C1:∀ W,HeldM w1 W b []→Calls Tryz.prog 105 #[.string ⟨src.toArray⟩,.func (.func 106) #[] #[.pointer (some ⟨b,0,none⟩)]] W fun e w'=>(∃ v,e=.returned v)∧HeldM w1 w' b ((zv src).map fun x=>64::x):=fun W h=>by
  have:=Qh XN (St:=fun L W=>HeldM w1 W b (L.map fun x=>64::x)) 20000 (fun pre x W hS hp hx=>by
   have h:=aao x hS (by rw[List.length_map];omega) hx
   rw[List.map_append]
   exact h) (fun _ _ _ h hE=>h.ext hE) src [] W (by omega) (by simpa using hs) h
  simpa using this
 have C2:∀ W,HeldM w1 W b ((zv src).map fun x=>64::x)→Calls Tryz.prog 105 #[.string ⟨text.toArray⟩,.func (.func 107) #[] #[.pointer (some ⟨b,0,none⟩)]] W fun e w'=>(∃ v,e=.returned v)∧HeldM w1 w' b (((zv src).map fun x=>64::x)++zv text):=fun W h=>by
  have:=Qh XO (St:=fun L W=>HeldM w1 W b (((zv src).map fun x=>64::x)++L)) 20000 (fun pre x W hS hp hx=>by
   have h:=aan x hS (by rw[List.length_append,List.length_map];omega) hx
   rw[← List.append_assoc]
   exact h) (fun _ _ _ h hE=>h.ext hE) text [] W (by omega) (by simpa using ht) (by simpa using h)
  simpa using this
 have hT:=qk text src
 have hm:∀ x,x∈xh text src↔x∈((zv src).map fun x=>64::x)++zv text:=fun x=>by
  rw[Vq,List.mem_append,List.mem_map]
  constructor
  ·rintro (h | ⟨w,h1,rfl⟩)
   ·exact .inr h
   ·exact .inl ⟨w,h1,rfl⟩
  ·rintro (⟨w,h1,rfl⟩ | h)
   ·exact .inr ⟨w,h1,rfl⟩
   ·exact .inl h
 have hLl:(((zv src).map fun x=>64::x)++zv text).length≤40000:=by rw[List.length_append,List.length_map];omega
 have hsz:w1.heap.size=w.heap.size+1:=by rw[hw1];simp
 have H0:HeldM w1 (((w.alloc (.cells #[.int .u64 t,.int .u8 lv,.string ⟨src.toArray⟩,.string ⟨text.toArray⟩] 39)).alloc (.map #[] 0)).alloc (.cells #[.map (some (w.heap.size+1))] 131)) b []:=by
  rw[← hw1]
  refine⟨w.heap.size+1,?_,?_,by omega,by omega,by omega,(zb w1 _).trans (zb _ _)⟩
  ·have:=Whole.new (w1.alloc (.map #[] 0)) 131 #[.map (some (w.heap.size+1))]
   rw[hb]
   rw[World.size_alloc,hsz]at this
   exact this
  ·rw[← hsz]
   exact (MapS.made w1).ext (zb _ _)
 generalize xh text src=T at *
 generalize hL1:(zv src).map (fun x=>64::x)=L1 at *
 generalize zv text=L2 at *
 have H0':=hide H0
 have C1':=hide C1
 have C2':=hide C2
 clear H0 C1 C2
 unfold QN
 clear hls hlt hs ht
 have HT:=hide hT
 have HM:=hide hm
 have HLl:=hide hLl
 have HE1:=hide hE1
 have HW1:=hide hW1
 have HB:=hide hb
 clear hT hm hLl hE1 hW1
 clear hw1 hb hsz
 go_enter Tryz.func77,Tryz.ntmps77
 have hmm:=@run_makeMap Tryz.prog
 go_wp2_with fail
 rw[← HB.out]
 refine (C1'.out _ H0'.out).mono ?_
 rintro e w2 ⟨⟨v2,rfl⟩,hH2⟩
 have H2:=hide hH2
 have c3:w2.cell? ⟨w.heap.size,3,none⟩=some (.string ⟨text.toArray⟩):=by
  obtain⟨_,_,_,_,_,_,hE2⟩:=hH2
  exact (HW1.out.ext hE2).at 3 (u:=.string ⟨text.toArray⟩) rfl
 clear hH2 H0' C1'
 go_wp2_with fail
 refine (C2'.out _ H2.out).mono ?_
 rintro e w3 ⟨⟨v3,rfl⟩,m,h1,⟨D,h2,h2'⟩,h3,h4,h5,h6⟩
 have s0:=h1.at 0 (u:=.map (some m)) rfl
 have hsl:=h2.size_le
 have CK:=callsIn_wide.1 (U2 (some m) w3)
 have CS:=callsIn_wide.1 (XM m (L1++L2).length D unitElem w3 h2 (by have:=HLl.out;unfold maxLen;omega) (by have:=HLl.out;omega))
 have HSo:=hide (fun ss=>MapS.sorted h2 h2' HT.out HM.out (ss:=ss))
 have HE3:=hide (HE1.out.trans h6)
 clear h1 h2 h2' h3 h4 h5 h6 hsl c3 C2'
 go_wp2_with fail
 refine CK.mono ?_
 rintro e w4 ⟨rfl,rfl⟩
 clear CK
 go_wp2_with fail
 refine CS.mono ?_
 rintro e w5 ⟨v,ss,rfl,hP,hR,hN,hB⟩
 have hTs:=HSo.out ss hP
 have hl:ss.length=T.length:=by rw[← hTs,List.length_mergeSort]
 rw[hTs,hl]at hR
 have hle:=(HE3.out.trans (zb w3 (.cells #[.map (some m)] 131))).le
 have hO:OwnTx w5 w.heap.size v T:=⟨hR.1,hR.2.imp_right fun ⟨g,cap,cur,e,hg,r⟩=>⟨g,cap,cur,e,Nat.le_trans hle hg,r⟩⟩
 have HO:=hide hO
 have HE5:=hide ((HE3.out.trans (zb w3 _)).trans hB)
 clear hTs hl hR hN hB hP hO hle CS
 go_wp2
 go_ret
 exact⟨v,rfl,HO.out,HE5.out⟩
end
end Go.Proofs.YtpmedpdjglcdpaaGreatDoor
