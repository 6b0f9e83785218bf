/- The library's sort at the program's items: its contract laid at this program, and what it leaves of a row of the call's own. -/
import Derived.Test.YtaogpmombefmmaaGreatDoorB42
import Derived.Shelf.SlSortCmp.NoneTotal
import Derived.Ground.SlsfProg
namespace Go.Proofs.YtaogpmombefmmaaGreatDoor
section
open Go.Shelf Go.RowKit Go.Sort Len
def laysSort_ren:Go.Shelf.Ren:=⟨fun | 6=>116 | 15=>96 | 14=>123 | 28=>111 | 29=>112 | 20=>128 | 21=>129 | 22=>130 | 23=>131 | 24=>132 | 25=>133 | 26=>134 | 27=>135 | 46=>137 | 47=>138 | 48=>139 | 49=>140 | 50=>141 | 57=>142 | n=>n,fun | 22=>162 | 24=>157 | 25=>161 | 3=>3 | 39=>77 | 0=>0 | 53=>53 | 55=>36 | 4=>4 | 46=>198 | 45=>197 | 50=>140 | 5=>5 | 9=>9 | 66=>204 | 70=>208 | 76=>210 | 77=>129 | n=>n,fun | n=>n⟩
theorem laysSort:Go.Proofs.SlLaysF0.n6 Tryz.prog laysSort_ren:={
 mixed:=by kernel_rfl
 f6:=⟨Tryz.f116.name,by decide,Tryz.func116.trans (congrArg some (by kernel_rfl))⟩
 f14:=⟨Tryz.f123.name,by decide,Tryz.func123.trans (congrArg some (by kernel_rfl))⟩
 f15:=Tryz.func96.trans (congrArg some (by kernel_rfl))
 f20:=⟨Tryz.f128.name,by decide,Tryz.func128.trans (congrArg some (by kernel_rfl))⟩
 f21:=⟨Tryz.f129.name,by decide,Tryz.func129.trans (congrArg some (by kernel_rfl))⟩
 f22:=⟨Tryz.f130.name,by decide,Tryz.func130.trans (congrArg some (by kernel_rfl))⟩
 f23:=⟨Tryz.f131.name,by decide,Tryz.func131.trans (congrArg some (by kernel_rfl))⟩
 f24:=⟨Tryz.f132.name,by decide,Tryz.func132.trans (congrArg some (by kernel_rfl))⟩
 f25:=⟨Tryz.f133.name,by decide,Tryz.func133.trans (congrArg some (by kernel_rfl))⟩
 f26:=⟨Tryz.f134.name,by decide,Tryz.func134.trans (congrArg some (by kernel_rfl))⟩
 f27:=⟨Tryz.f135.name,by decide,Tryz.func135.trans (congrArg some (by kernel_rfl))⟩
 f28:=Tryz.func111.trans (congrArg some (by kernel_rfl))
 f29:=Tryz.func112.trans (congrArg some (by kernel_rfl))
 f46:=⟨Tryz.f137.name,by decide,Tryz.func137.trans (congrArg some (by kernel_rfl))⟩
 f47:=Tryz.func138.trans (congrArg some (by kernel_rfl))
 f48:=Tryz.func139.trans (congrArg some (by kernel_rfl))
 f49:=⟨Tryz.f140.name,by decide,Tryz.func140.trans (congrArg some (by kernel_rfl))⟩
 f50:=⟨Tryz.f141.name,by decide,Tryz.func141.trans (congrArg some (by kernel_rfl))⟩
 f57:=⟨Tryz.f142.name,by decide,Tryz.func142.trans (congrArg some (by kernel_rfl))⟩
 t0:=Tryz.underlying0
 a0:=Tryz.isAgg0
 z0:=Tryz.sizeOf0
 v0:=Tryz.zeroValue0
 t3:=Tryz.underlying3
 a3:=Tryz.isAgg3
 z3:=Tryz.sizeOf3
 v3:=Tryz.zeroValue3
 t4:=Tryz.underlying4
 a4:=Tryz.isAgg4
 z4:=Tryz.sizeOf4
 v4:=Tryz.zeroValue4
 t5:=Tryz.underlying5
 a5:=Tryz.isAgg5
 z5:=Tryz.sizeOf5
 v5:=Tryz.zeroValue5
 t9:=Tryz.underlying9
 a9:=Tryz.isAgg9
 z9:=Tryz.sizeOf9
 v9:=Tryz.zeroValue9
 t22:=Tryz.underlying162
 a22:=Tryz.isAgg162
 z22:=Tryz.sizeOf162
 v22:=Tryz.zeroValue162
 t25:=Tryz.underlying161
 a25:=Tryz.isAgg161
 z25:=Tryz.sizeOf161
 v25:=Tryz.zeroValue161
 t39:=Tryz.underlying77
 a39:=Tryz.isAgg77
 z39:=Tryz.sizeOf77
 v39:=Tryz.zeroValue77
 t45:=Tryz.underlying197
 a45:=Tryz.isAgg197
 z45:=Tryz.sizeOf197
 v45:=Tryz.zeroValue197
 t46:=Tryz.underlying198
 a46:=Tryz.isAgg198
 z46:=Tryz.sizeOf198
 v46:=Tryz.zeroValue198
 t50:=Tryz.underlying140
 a50:=Tryz.isAgg140
 z50:=Tryz.sizeOf140
 v50:=Tryz.zeroValue140
 t53:=Tryz.underlying53
 a53:=Tryz.isAgg53
 z53:=Tryz.sizeOf53
 v53:=Tryz.zeroValue53
 t55:=Tryz.underlying36
 a55:=Tryz.isAgg36
 z55:=Tryz.sizeOf36
 v55:=Tryz.zeroValue36
 t66:=Tryz.underlying204
 a66:=Tryz.isAgg204
 z66:=Tryz.sizeOf204
 v66:=Tryz.zeroValue204
 t70:=Tryz.underlying208
 a70:=Tryz.isAgg208
 z70:=Tryz.sizeOf208
 v70:=Tryz.zeroValue208
 t76:=Tryz.underlying210
 a76:=Tryz.isAgg210
 z76:=Tryz.sizeOf210
 v76:=Tryz.zeroValue210
 t77:=Tryz.underlying129
 a77:=Tryz.isAgg129
 z77:=Tryz.sizeOf129
 v77:=Tryz.zeroValue129 }
theorem flat_pC (L:List PI):flatK pC 2 L.toArray=(L.flatMap pC).toArray:=by
 apply Array.ext
 ·rw [size_flatK,List.size_toArray,List.size_toArray,pC_len]
 ·intro i h1 h2
  rw [size_flatK,List.size_toArray] at h1
  have h3:=get_flatK pC 2 L.toArray i (by simpa using h1)
  rw [getElem!_pos _ i (by rw [size_flatK,List.size_toArray];exact h1)] at h3
  rw [h3]
  have hi:i / 2 < L.length:=by omega
  have hd:i=i / 2*2+i % 2:=by omega
  have h4:=pC_get L (i / 2) (i % 2) hi (by omega)
  rw [← hd,List.getElem?_eq_getElem (by rw [pC_len];exact h1)] at h4
  rw [List.getElem_toArray]
  rw [getElem!_pos L.toArray (i / 2) (by simpa using hi),List.getElem_toArray]
  rw [List.getD_eq_getElem?_getD,List.getElem?_eq_getElem hi,Option.getD_some] at h4
  have hm:i % 2 < (pC L[i / 2]).length:=by simp [pC];omega
  rw [List.getElem?_eq_getElem hm] at h4
  rw [getElem!_pos (pC L[i / 2]) (i % 2) hm]
  exact (Option.some.inj h4).symm
section
variable {w:World}{g cap n m:Nat}{os:Array Obj}{cur:Array Value}{e:TypeId}{L:List PI}
theorem holds_row (hb:w.heap[g]?=some (.cells cur e (0,0)))(ht:cur.toList.take (L.length*2)=L.flatMap pC):HoldsK pC 2 w g 0 L.toArray:=by
 unfold HoldsK
 rw [flat_pC]
 intro j hj
 have hj':j < L.length*2:=by rw [List.size_toArray,pC_len] at hj;exact hj
 rw [Nat.zero_add]
 refine ⟨?_,frozen_of_row w g j cur e hb⟩
 rw [cell_of_row w g j cur e (0,0) hb]
 have h1:(cur.toList.take (L.length*2))[j]?=(L.flatMap pC)[j]?:=by rw [ht]
 rw [List.getElem?_take_of_lt hj',Array.getElem?_toList] at h1
 rw [h1,getElem!_pos _ j hj,List.getElem_toArray,List.getElem?_eq_getElem (by rw [pC_len];exact hj')]
 rfl
theorem heap_row (F:Array Value)(hb:w.heap[g]?=some (.cells cur e (0,0))):(grow (putRow id (Go.Sort.ahead w n) g 0 F) os).heap[g]?=some (.cells (putCells id 0 F cur) e (0,0)):=by
 have hg:g < w.heap.size:=(Array.getElem?_eq_some_iff.1 hb).1
 rw [heap_grow_old _ _ (by simpa using hg)]
 simp [putRow,mapBlock,Go.Sort.ahead,Array.getElem?_modify,hb,onCells]
theorem grown_row (F:Array Value):w.grownBy (grow (putRow id (Go.Sort.ahead w n) g 0 F) os) (some g):=by
 refine ⟨rfl,rfl,rfl,by simp,fun k hk hne=>?_⟩
 rw [heap_grow_old _ _ (by simpa using hk)]
 have:g≠k:=fun e=>hne (by rw [e])
 simp [putRow,mapBlock,Go.Sort.ahead,Array.getElem?_modify,this]
theorem take_row (F:Array Value)(h:F.size≤cur.size):(putCells id 0 F cur).toList.take F.size=F.toList:=by
 apply List.ext_getElem?
 intro j
 by_cases hj:j < F.size
 ·rw [List.getElem?_take_of_lt hj,Array.getElem?_toList]
  simp [putCells,hj,show j < cur.size by omega]
 ·rw [List.getElem?_take_eq_none (by omega),List.getElem?_eq_none (by simp;omega)]
end
theorem swo_ltP:SWO (ltOf cmpPI) where
 irrefl x:=by
  rw [← Bool.not_eq_true]
  intro h
  have:=(ltP_iff (x:=x) (y:=x)).1 h
  unfold LexP at this
  omega
 trans x y z h1 h2:=by
  have k1:=(ltP_iff (x:=x) (y:=y)).1 h1
  have k2:=(ltP_iff (x:=y) (y:=z)).1 h2
  refine (ltP_iff (x:=x) (y:=z)).2 ?_
  unfold LexP at *
  omega
 ntrans x y z h1 h2:=by
  rw [← Bool.not_eq_true] at *
  intro h
  have k:=(ltP_iff (x:=x) (y:=z)).1 h
  have k1:¬ LexP x y:=fun h=>h1 ((ltP_iff (x:=x) (y:=y)).2 h)
  have k2:¬ LexP y z:=fun h=>h2 ((ltP_iff (x:=y) (y:=z)).2 h)
  unfold LexP at *
  omega
theorem sortC_holds:SortC:=by
 intro w base v L hO hL
 have hone:∀ x:PI,∀ u∈pC x,u.oneCell'=true:=fun x u hu=>by
  simp only [pC,List.mem_cons,List.not_mem_nil,or_false] at hu
  rcases hu with rfl | rfl <;> rfl
 rcases hO.2 with ⟨rfl,h0⟩ | ⟨g,cap,cur,rfl,hb,hgg,hn,hc,hs,ht⟩
 ·obtain rfl:=List.eq_nil_of_length_eq_zero h0
  refine (AnyF.slices_SortFunc_none laysSort none 0 (.func (.func 100) #[] #[]) w).mono ?_
  rintro e w' ⟨rfl,rfl⟩
  exact ⟨rfl,by unfold sortP;rw [List.mergeSort_nil];exact hO,World.grownBy.refl _ _⟩
 ·have hcon:=AnyQ.slices_SortFunc_total laysSort 2 Tryz.isAgg157 Tryz.sizeOf157 pC (fun _=>rfl) hone cmpPI swo_ltP 100 #[] g 0 cap L.toArray w (enters_of Tryz.func100 (by kernel_rfl) rfl)
   (fun _ _ _ _ x y=>(order_any x y _).mono fun e w' ⟨he,q,os,hw⟩=>⟨he,q,os,hw⟩) (holds_row hgg ht) (Array.getElem?_eq_some_iff.1 hgg).1 (by rw [List.size_toArray];omega) (fun x y h1 h2=>by
    have k1:¬ LexP x y:=fun h=>by rw [show ltOf cmpPI x y=true from (ltP_iff (x:=x) (y:=y)).2 h] at h1;cases h1
    have k2:¬ LexP y x:=fun h=>by rw [show ltOf cmpPI y x=true from (ltP_iff (x:=y) (y:=x)).2 h] at h2;cases h2
    unfold LexP at k1 k2
    exact Prod.ext (by omega) (by omega))
  rw [List.size_toArray] at hcon
  refine hcon.mono ?_
  rintro e w' ⟨rfl,n,os,rfl⟩
  have hsl:(sortP L).length=L.length:=List.length_mergeSort _
  refine ⟨rfl,⟨by rw [pC_len],.inr ⟨g,cap,_,by rw [hsl],hb,heap_row _ hgg,by rw [hsl];exact hn,hc,by simp [putCells,hs],?_⟩⟩,grown_row _⟩
  rw [show (L.toArray.toList.mergeSort fun x y=>!ltOf cmpPI y x).toArray=(sortP L).toArray from rfl,flat_pC]
  have h3:=take_row (cur:=cur) ((sortP L).flatMap pC).toArray (by rw [List.size_toArray,pC_len,hs,hsl];omega)
  rw [List.size_toArray,pC_len] at h3
  exact h3
end
end Go.Proofs.YtaogpmombefmmaaGreatDoor
