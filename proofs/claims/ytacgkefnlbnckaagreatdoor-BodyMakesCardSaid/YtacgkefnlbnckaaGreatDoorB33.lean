/- The library's sort at the program's items: its contract laid at this program, and what it leaves of a row of the call's own. -/
import Derived.Test.YtacgkefnlbnckaaGreatDoorB32
import Derived.Shelf.SlSortCmp.NoneTotal
import Derived.Ground.SlsfProg
namespace Go.Proofs.YtacgkefnlbnckaaGreatDoor
section
open Go.Shelf Go.RowKit Go.Sort Len
def laysSort_ren:Go.Shelf.Ren:=⟨fun | 6=>198 | 15=>158 | 14=>206 | 28=>177 | 29=>178 | 20=>211 | 21=>212 | 22=>213 | 23=>214 | 24=>215 | 25=>216 | 26=>217 | 27=>218 | 46=>220 | 47=>191 | 48=>192 | 49=>221 | 50=>222 | 57=>223 | n=>n,fun | 22=>230 | 24=>226 | 25=>229 | 3=>3 | 39=>119 | 0=>0 | 53=>83 | 55=>36 | 4=>4 | 46=>217 | 45=>216 | 50=>196 | 5=>5 | 9=>9 | 66=>243 | 70=>247 | 76=>260 | 77=>109 | n=>n,fun | n=>n⟩
theorem laysSort:Go.Proofs.SlLaysF0.n6 Tryz.prog laysSort_ren:={
 mixed:=by kernel_rfl
 f6:=⟨Tryz.f198.name,by decide,Tryz.func198.trans (congrArg some (by kernel_rfl))⟩
 f14:=⟨Tryz.f206.name,by decide,Tryz.func206.trans (congrArg some (by kernel_rfl))⟩
 f15:=Tryz.func158.trans (congrArg some (by kernel_rfl))
 f20:=⟨Tryz.f211.name,by decide,Tryz.func211.trans (congrArg some (by kernel_rfl))⟩
 f21:=⟨Tryz.f212.name,by decide,Tryz.func212.trans (congrArg some (by kernel_rfl))⟩
 f22:=⟨Tryz.f213.name,by decide,Tryz.func213.trans (congrArg some (by kernel_rfl))⟩
 f23:=⟨Tryz.f214.name,by decide,Tryz.func214.trans (congrArg some (by kernel_rfl))⟩
 f24:=⟨Tryz.f215.name,by decide,Tryz.func215.trans (congrArg some (by kernel_rfl))⟩
 f25:=⟨Tryz.f216.name,by decide,Tryz.func216.trans (congrArg some (by kernel_rfl))⟩
 f26:=⟨Tryz.f217.name,by decide,Tryz.func217.trans (congrArg some (by kernel_rfl))⟩
 f27:=⟨Tryz.f218.name,by decide,Tryz.func218.trans (congrArg some (by kernel_rfl))⟩
 f28:=Tryz.func177.trans (congrArg some (by kernel_rfl))
 f29:=Tryz.func178.trans (congrArg some (by kernel_rfl))
 f46:=⟨Tryz.f220.name,by decide,Tryz.func220.trans (congrArg some (by kernel_rfl))⟩
 f47:=Tryz.func191.trans (congrArg some (by kernel_rfl))
 f48:=Tryz.func192.trans (congrArg some (by kernel_rfl))
 f49:=⟨Tryz.f221.name,by decide,Tryz.func221.trans (congrArg some (by kernel_rfl))⟩
 f50:=⟨Tryz.f222.name,by decide,Tryz.func222.trans (congrArg some (by kernel_rfl))⟩
 f57:=⟨Tryz.f223.name,by decide,Tryz.func223.trans (congrArg some (by kernel_rfl))⟩
 t0:=Tryz.underlying0
 a0:=Tryz.isAgg0
 z0:=Tryz.sizeOf0
 v0:=Tryz.zeroValue0
 t3:=Tryz.underlying3
 a3:=Tryz.isAgg3
 z3:=Tryz.sizeOf3
 v3:=Tryz.zeroValue3
 t4:=Tryz.underlying4
 a4:=Tryz.isAgg4
 z4:=Tryz.sizeOf4
 v4:=Tryz.zeroValue4
 t5:=Tryz.underlying5
 a5:=Tryz.isAgg5
 z5:=Tryz.sizeOf5
 v5:=Tryz.zeroValue5
 t9:=Tryz.underlying9
 a9:=Tryz.isAgg9
 z9:=Tryz.sizeOf9
 v9:=Tryz.zeroValue9
 t22:=Tryz.underlying230
 a22:=Tryz.isAgg230
 z22:=Tryz.sizeOf230
 v22:=Tryz.zeroValue230
 t25:=Tryz.underlying229
 a25:=Tryz.isAgg229
 z25:=Tryz.sizeOf229
 v25:=Tryz.zeroValue229
 t39:=Tryz.underlying119
 a39:=Tryz.isAgg119
 z39:=Tryz.sizeOf119
 v39:=Tryz.zeroValue119
 t45:=Tryz.underlying216
 a45:=Tryz.isAgg216
 z45:=Tryz.sizeOf216
 v45:=Tryz.zeroValue216
 t46:=Tryz.underlying217
 a46:=Tryz.isAgg217
 z46:=Tryz.sizeOf217
 v46:=Tryz.zeroValue217
 t50:=Tryz.underlying196
 a50:=Tryz.isAgg196
 z50:=Tryz.sizeOf196
 v50:=Tryz.zeroValue196
 t53:=Tryz.underlying83
 a53:=Tryz.isAgg83
 z53:=Tryz.sizeOf83
 v53:=Tryz.zeroValue83
 t55:=Tryz.underlying36
 a55:=Tryz.isAgg36
 z55:=Tryz.sizeOf36
 v55:=Tryz.zeroValue36
 t66:=Tryz.underlying243
 a66:=Tryz.isAgg243
 z66:=Tryz.sizeOf243
 v66:=Tryz.zeroValue243
 t70:=Tryz.underlying247
 a70:=Tryz.isAgg247
 z70:=Tryz.sizeOf247
 v70:=Tryz.zeroValue247
 t76:=Tryz.underlying260
 a76:=Tryz.isAgg260
 z76:=Tryz.sizeOf260
 v76:=Tryz.zeroValue260
 t77:=Tryz.underlying109
 a77:=Tryz.isAgg109
 z77:=Tryz.sizeOf109
 v77:=Tryz.zeroValue109 }
theorem flat_pC (L:List PI):flatK pC 2 L.toArray=(L.flatMap pC).toArray:=by
 apply Array.ext
 ·rw [size_flatK,List.size_toArray,List.size_toArray,pC_len]
 ·intro i h1 h2
  rw [size_flatK,List.size_toArray] at h1
  have h3:=get_flatK pC 2 L.toArray i (by simpa using h1)
  rw [getElem!_pos _ i (by rw [size_flatK,List.size_toArray];exact h1)] at h3
  rw [h3]
  have hi:i / 2 < L.length:=by omega
  have hd:i=i / 2*2+i % 2:=by omega
  have h4:=pC_get L (i / 2) (i % 2) hi (by omega)
  rw [← hd,List.getElem?_eq_getElem (by rw [pC_len];exact h1)] at h4
  rw [List.getElem_toArray]
  rw [getElem!_pos L.toArray (i / 2) (by simpa using hi),List.getElem_toArray]
  rw [List.getD_eq_getElem?_getD,List.getElem?_eq_getElem hi,Option.getD_some] at h4
  have hm:i % 2 < (pC L[i / 2]).length:=by simp [pC];omega
  rw [List.getElem?_eq_getElem hm] at h4
  rw [getElem!_pos (pC L[i / 2]) (i % 2) hm]
  exact (Option.some.inj h4).symm
section
variable {w:World}{g cap n m:Nat}{os:Array Obj}{cur:Array Value}{e:TypeId}{L:List PI}
theorem holds_row (hb:w.heap[g]?=some (.cells cur e (0,0)))(ht:cur.toList.take (L.length*2)=L.flatMap pC):HoldsK pC 2 w g 0 L.toArray:=by
 unfold HoldsK
 rw [flat_pC]
 intro j hj
 have hj':j < L.length*2:=by rw [List.size_toArray,pC_len] at hj;exact hj
 rw [Nat.zero_add]
 refine ⟨?_,frozen_of_row w g j cur e hb⟩
 rw [cell_of_row w g j cur e (0,0) hb]
 have h1:(cur.toList.take (L.length*2))[j]?=(L.flatMap pC)[j]?:=by rw [ht]
 rw [List.getElem?_take_of_lt hj',Array.getElem?_toList] at h1
 rw [h1,getElem!_pos _ j hj,List.getElem_toArray,List.getElem?_eq_getElem (by rw [pC_len];exact hj')]
 rfl
theorem heap_row (F:Array Value)(hb:w.heap[g]?=some (.cells cur e (0,0))):(grow (putRow id (Go.Sort.ahead w n) g 0 F) os).heap[g]?=some (.cells (putCells id 0 F cur) e (0,0)):=by
 have hg:g < w.heap.size:=(Array.getElem?_eq_some_iff.1 hb).1
 rw [heap_grow_old _ _ (by simpa using hg)]
 simp [putRow,mapBlock,Go.Sort.ahead,Array.getElem?_modify,hb,onCells]
theorem grown_row (F:Array Value):w.grownBy (grow (putRow id (Go.Sort.ahead w n) g 0 F) os) (some g):=by
 refine ⟨rfl,rfl,rfl,by simp,fun k hk hne=>?_⟩
 rw [heap_grow_old _ _ (by simpa using hk)]
 have:g≠k:=fun e=>hne (by rw [e])
 simp [putRow,mapBlock,Go.Sort.ahead,Array.getElem?_modify,this]
theorem take_row (F:Array Value)(h:F.size≤cur.size):(putCells id 0 F cur).toList.take F.size=F.toList:=by
 apply List.ext_getElem?
 intro j
 by_cases hj:j < F.size
 ·rw [List.getElem?_take_of_lt hj,Array.getElem?_toList]
  simp [putCells,hj,show j < cur.size by omega]
 ·rw [List.getElem?_take_eq_none (by omega),List.getElem?_eq_none (by simp;omega)]
end
theorem swo_ltP:SWO (ltOf cmpPI) where
 irrefl x:=by
  rw [← Bool.not_eq_true]
  intro h
  have:=(ltP_iff (x:=x) (y:=x)).1 h
  unfold LexP at this
  omega
 trans x y z h1 h2:=by
  have k1:=(ltP_iff (x:=x) (y:=y)).1 h1
  have k2:=(ltP_iff (x:=y) (y:=z)).1 h2
  refine (ltP_iff (x:=x) (y:=z)).2 ?_
  unfold LexP at *
  omega
 ntrans x y z h1 h2:=by
  rw [← Bool.not_eq_true] at *
  intro h
  have k:=(ltP_iff (x:=x) (y:=z)).1 h
  have k1:¬ LexP x y:=fun h=>h1 ((ltP_iff (x:=x) (y:=y)).2 h)
  have k2:¬ LexP y z:=fun h=>h2 ((ltP_iff (x:=y) (y:=z)).2 h)
  unfold LexP at *
  omega
theorem sortC_holds:SortC:=by
 intro w base v L hO hL
 have hone:∀ x:PI,∀ u∈pC x,u.oneCell'=true:=fun x u hu=>by
  simp only [pC,List.mem_cons,List.not_mem_nil,or_false] at hu
  rcases hu with rfl | rfl <;> rfl
 rcases hO.2 with ⟨rfl,h0⟩ | ⟨g,cap,cur,rfl,hb,hgg,hn,hc,hs,ht⟩
 ·obtain rfl:=List.eq_nil_of_length_eq_zero h0
  refine (AnyF.slices_SortFunc_none laysSort none 0 (.func (.func 179) #[] #[]) w).mono ?_
  rintro e w' ⟨rfl,rfl⟩
  exact ⟨rfl,by unfold sortP;rw [List.mergeSort_nil];exact hO,World.grownBy.refl _ _⟩
 ·have hcon:=AnyQ.slices_SortFunc_total laysSort 2 Tryz.isAgg226 Tryz.sizeOf226 pC (fun _=>rfl) hone cmpPI swo_ltP 179 #[] g 0 cap L.toArray w (enters_of Tryz.func179 (by kernel_rfl) rfl)
   (fun _ _ _ _ x y=>(order_any x y _).mono fun e w' ⟨he,q,os,hw⟩=>⟨he,q,os,hw⟩) (holds_row hgg ht) (Array.getElem?_eq_some_iff.1 hgg).1 (by rw [List.size_toArray];omega) (fun x y h1 h2=>by
    have k1:¬ LexP x y:=fun h=>by rw [show ltOf cmpPI x y=true from (ltP_iff (x:=x) (y:=y)).2 h] at h1;cases h1
    have k2:¬ LexP y x:=fun h=>by rw [show ltOf cmpPI y x=true from (ltP_iff (x:=y) (y:=x)).2 h] at h2;cases h2
    unfold LexP at k1 k2
    exact Prod.ext (by omega) (by omega))
  rw [List.size_toArray] at hcon
  refine hcon.mono ?_
  rintro e w' ⟨rfl,n,os,rfl⟩
  have hsl:(sortP L).length=L.length:=List.length_mergeSort _
  refine ⟨rfl,⟨by rw [pC_len],.inr ⟨g,cap,_,by rw [hsl],hb,heap_row _ hgg,by rw [hsl];exact hn,hc,by simp [putCells,hs],?_⟩⟩,grown_row _⟩
  rw [show (L.toArray.toList.mergeSort fun x y=>!ltOf cmpPI y x).toArray=(sortP L).toArray from rfl,flat_pC]
  have h3:=take_row (cur:=cur) ((sortP L).flatMap pC).toArray (by rw [List.size_toArray,pC_len,hs,hsl];omega)
  rw [List.size_toArray,pC_len] at h3
  exact h3
end
end Go.Proofs.YtacgkefnlbnckaaGreatDoor
