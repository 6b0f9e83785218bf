/- The library's sort at the program's items: its contract laid at this program, and what it leaves of a row of the call's own. -/
import Derived.Test.YtpmedpdjglcdpaaGreatDoorB32
import Derived.Shelf.SlSortCmp.NoneTotal
import Derived.Ground.SlsfProg
namespace Go.Proofs.YtpmedpdjglcdpaaGreatDoor
section
open Go.Shelf Go.RowKit Go.Sort Len
def UT:Go.Shelf.Ren:=⟨fun | 6=>206 | 15=>167 | 14=>214 | 28=>185 | 29=>186 | 20=>219 | 21=>220 | 22=>221 | 23=>222 | 24=>223 | 25=>224 | 26=>225 | 27=>226 | 46=>228 | 47=>199 | 48=>200 | 49=>229 | 50=>230 | 57=>231 | n=>n,fun | 22=>234 | 24=>230 | 25=>233 | 3=>3 | 39=>109 | 0=>0 | 53=>72 | 55=>37 | 4=>4 | 46=>222 | 45=>221 | 50=>200 | 5=>5 | 9=>9 | 66=>247 | 70=>251 | 76=>264 | 77=>118 | n=>n,fun | n=>n⟩
theorem J7:Go.Proofs.SlLaysF0.n6 Tryz.prog UT:={
 mixed:=by kernel_rfl
 f6:=⟨Tryz.f206.name,by decide,Tryz.func206.trans (congrArg some (by kernel_rfl))⟩
 f14:=⟨Tryz.f214.name,by decide,Tryz.func214.trans (congrArg some (by kernel_rfl))⟩
 f15:=Tryz.func167.trans (congrArg some (by kernel_rfl))
 f20:=⟨Tryz.f219.name,by decide,Tryz.func219.trans (congrArg some (by kernel_rfl))⟩
 f21:=⟨Tryz.f220.name,by decide,Tryz.func220.trans (congrArg some (by kernel_rfl))⟩
 f22:=⟨Tryz.f221.name,by decide,Tryz.func221.trans (congrArg some (by kernel_rfl))⟩
 f23:=⟨Tryz.f222.name,by decide,Tryz.func222.trans (congrArg some (by kernel_rfl))⟩
 f24:=⟨Tryz.f223.name,by decide,Tryz.func223.trans (congrArg some (by kernel_rfl))⟩
 f25:=⟨Tryz.f224.name,by decide,Tryz.func224.trans (congrArg some (by kernel_rfl))⟩
 f26:=⟨Tryz.f225.name,by decide,Tryz.func225.trans (congrArg some (by kernel_rfl))⟩
 f27:=⟨Tryz.f226.name,by decide,Tryz.func226.trans (congrArg some (by kernel_rfl))⟩
 f28:=Tryz.func185.trans (congrArg some (by kernel_rfl))
 f29:=Tryz.func186.trans (congrArg some (by kernel_rfl))
 f46:=⟨Tryz.f228.name,by decide,Tryz.func228.trans (congrArg some (by kernel_rfl))⟩
 f47:=Tryz.func199.trans (congrArg some (by kernel_rfl))
 f48:=Tryz.func200.trans (congrArg some (by kernel_rfl))
 f49:=⟨Tryz.f229.name,by decide,Tryz.func229.trans (congrArg some (by kernel_rfl))⟩
 f50:=⟨Tryz.f230.name,by decide,Tryz.func230.trans (congrArg some (by kernel_rfl))⟩
 f57:=⟨Tryz.f231.name,by decide,Tryz.func231.trans (congrArg some (by kernel_rfl))⟩
 t0:=Tryz.underlying0
 a0:=Tryz.isAgg0
 z0:=Tryz.sizeOf0
 v0:=Tryz.zeroValue0
 t3:=Tryz.underlying3
 a3:=Tryz.isAgg3
 z3:=Tryz.sizeOf3
 v3:=Tryz.zeroValue3
 t4:=Tryz.underlying4
 a4:=Tryz.isAgg4
 z4:=Tryz.sizeOf4
 v4:=Tryz.zeroValue4
 t5:=Tryz.underlying5
 a5:=Tryz.isAgg5
 z5:=Tryz.sizeOf5
 v5:=Tryz.zeroValue5
 t9:=Tryz.underlying9
 a9:=Tryz.isAgg9
 z9:=Tryz.sizeOf9
 v9:=Tryz.zeroValue9
 t22:=Tryz.underlying234
 a22:=Tryz.isAgg234
 z22:=Tryz.sizeOf234
 v22:=Tryz.zeroValue234
 t25:=Tryz.underlying233
 a25:=Tryz.isAgg233
 z25:=Tryz.sizeOf233
 v25:=Tryz.zeroValue233
 t39:=Tryz.underlying109
 a39:=Tryz.isAgg109
 z39:=Tryz.sizeOf109
 v39:=Tryz.zeroValue109
 t45:=Tryz.underlying221
 a45:=Tryz.isAgg221
 z45:=Tryz.sizeOf221
 v45:=Tryz.zeroValue221
 t46:=Tryz.underlying222
 a46:=Tryz.isAgg222
 z46:=Tryz.sizeOf222
 v46:=Tryz.zeroValue222
 t50:=Tryz.underlying200
 a50:=Tryz.isAgg200
 z50:=Tryz.sizeOf200
 v50:=Tryz.zeroValue200
 t53:=Tryz.underlying72
 a53:=Tryz.isAgg72
 z53:=Tryz.sizeOf72
 v53:=Tryz.zeroValue72
 t55:=Tryz.underlying37
 a55:=Tryz.isAgg37
 z55:=Tryz.sizeOf37
 v55:=Tryz.zeroValue37
 t66:=Tryz.underlying247
 a66:=Tryz.isAgg247
 z66:=Tryz.sizeOf247
 v66:=Tryz.zeroValue247
 t70:=Tryz.underlying251
 a70:=Tryz.isAgg251
 z70:=Tryz.sizeOf251
 v70:=Tryz.zeroValue251
 t76:=Tryz.underlying264
 a76:=Tryz.isAgg264
 z76:=Tryz.sizeOf264
 v76:=Tryz.zeroValue264
 t77:=Tryz.underlying118
 a77:=Tryz.isAgg118
 z77:=Tryz.sizeOf118
 v77:=Tryz.zeroValue118 }
theorem aaO (L:List PI):flatK pC 2 L.toArray=(L.flatMap pC).toArray:=by
 apply Array.ext
 ·rw[size_flatK,List.size_toArray,List.size_toArray,vQ]
 ·intro i h1 h2
  rw[size_flatK,List.size_toArray]at h1
  have h3:=get_flatK pC 2 L.toArray i (by simpa using h1)
  rw[getElem!_pos _ i (by rw[size_flatK,List.size_toArray];exact h1)]at h3
  rw[h3]
  have hi:i / 2<L.length:=by omega
  have hd:i=i / 2*2+i % 2:=by omega
  have h4:=UI L (i / 2) (i % 2) hi (by omega)
  rw[← hd,List.getElem?_eq_getElem (by rw[vQ];exact h1)]at h4
  rw[List.getElem_toArray]
  rw[getElem!_pos L.toArray (i / 2) (by simpa using hi),List.getElem_toArray]
  rw[List.getD_eq_getElem?_getD,List.getElem?_eq_getElem hi,Option.getD_some]at h4
  have hm:i % 2<(pC L[i / 2]).length:=by simp[pC];omega
  rw[List.getElem?_eq_getElem hm]at h4
  rw[getElem!_pos (pC L[i / 2]) (i % 2) hm]
  exact (Option.some.inj h4).symm
section
variable {w:World}{g cap n m:Nat}{os:Array Obj}{cur:Array Value}{e:TypeId}{L:List PI}
theorem abM (hb:w.heap[g]?=some (.cells cur e (0,0)))(ht:cur.toList.take (L.length*2)=L.flatMap pC):HoldsK pC 2 w g 0 L.toArray:=by
 unfold HoldsK
 rw[aaO]
 intro j hj
 have hj':j<L.length*2:=by rw[List.size_toArray,vQ]at hj;exact hj
 rw[Nat.zero_add]
 refine⟨?_,frozen_of_row w g j cur e hb⟩
 rw[cell_of_row w g j cur e (0,0) hb]
 have h1:(cur.toList.take (L.length*2))[j]?=(L.flatMap pC)[j]?:=by rw[ht]
 rw[List.getElem?_take_of_lt hj',Array.getElem?_toList]at h1
 rw[h1,getElem!_pos _ j hj,List.getElem_toArray,List.getElem?_eq_getElem (by rw[vQ];exact hj')]
 rfl
theorem ac8 (F:Array Value)(hb:w.heap[g]?=some (.cells cur e (0,0))):(grow (putRow id (Go.Sort.ahead w n) g 0 F) os).heap[g]?=some (.cells (putCells id 0 F cur) e (0,0)):=by
 have hg:g<w.heap.size:=(Array.getElem?_eq_some_iff.1 hb).1
 rw[heap_grow_old _ _ (by simpa using hg)]
 simp[putRow,mapBlock,Go.Sort.ahead,Array.getElem?_modify,hb,onCells]
theorem abN (F:Array Value):w.grownBy (grow (putRow id (Go.Sort.ahead w n) g 0 F) os) (some g):=by
 refine⟨rfl,rfl,rfl,by simp,fun k hk hne=>?_⟩
 rw[heap_grow_old _ _ (by simpa using hk)]
 have:g≠k:=fun e=>hne (by rw[e])
 simp[putRow,mapBlock,Go.Sort.ahead,Array.getElem?_modify,this]
theorem ac9 (F:Array Value)(h:F.size≤cur.size):(putCells id 0 F cur).toList.take F.size=F.toList:=by
 apply List.ext_getElem?
 intro j
 by_cases hj:j<F.size
 ·rw[List.getElem?_take_of_lt hj,Array.getElem?_toList]
  simp[putCells,hj,show j<cur.size by omega]
 ·rw[List.getElem?_take_eq_none (by omega),List.getElem?_eq_none (by simp;omega)]
end
theorem adP:SWO (ltOf uG) where
 irrefl x:=by
  rw[← Bool.not_eq_true]
  intro h
  have:=(xO (x:=x) (y:=x)).1 h
  unfold uI at this
  omega
 trans x y z h1 h2:=by
  have k1:=(xO (x:=x) (y:=y)).1 h1
  have k2:=(xO (x:=y) (y:=z)).1 h2
  refine (xO (x:=x) (y:=z)).2 ?_
  unfold uI at *
  omega
 ntrans x y z h1 h2:=by
  rw[← Bool.not_eq_true]at *
  intro h
  have k:=(xO (x:=x) (y:=z)).1 h
  have k1:¬ uI x y:=fun h=>h1 ((xO (x:=x) (y:=y)).2 h)
  have k2:¬ uI y z:=fun h=>h2 ((xO (x:=y) (y:=z)).2 h)
  unfold uI at *
  omega
theorem J8:adW:=by
 intro w base v L hO hL
 have hone:∀ x:PI,∀ u∈pC x,u.oneCell'=true:=fun x u hu=>by
  simp only[pC,List.mem_cons,List.not_mem_nil,or_false]at hu
  rcases hu with rfl|rfl<;>rfl
 rcases hO.2 with ⟨rfl,h0⟩ | ⟨g,cap,cur,rfl,hb,hgg,hn,hc,hs,ht⟩
 ·obtain rfl:=List.eq_nil_of_length_eq_zero h0
  refine (AnyF.slices_SortFunc_none J7 none 0 (.func (.func 187) #[] #[]) w).mono ?_
  rintro e w' ⟨rfl,rfl⟩
  exact⟨rfl,by unfold VV;rw[List.mergeSort_nil];exact hO,World.grownBy.refl _ _⟩
 ·have hcon:=AnyQ.slices_SortFunc_total J7 2 Tryz.isAgg230 Tryz.sizeOf230 pC (fun _=>rfl) hone uG adP 187 #[] g 0 cap L.toArray w (enters_of Tryz.func187 (by kernel_rfl) rfl)
   (fun _ _ _ _ x y=>(VU x y _).mono fun e w' ⟨he,q,os,hw⟩=>⟨he,q,os,hw⟩) (abM hgg ht) (Array.getElem?_eq_some_iff.1 hgg).1 (by rw[List.size_toArray];omega) (fun x y h1 h2=>by
    have k1:¬ uI x y:=fun h=>by rw[show ltOf uG x y=true from (xO (x:=x) (y:=y)).2 h]at h1;cases h1
    have k2:¬ uI y x:=fun h=>by rw[show ltOf uG y x=true from (xO (x:=y) (y:=x)).2 h]at h2;cases h2
    unfold uI at k1 k2
    exact Prod.ext (by omega) (by omega))
  rw[List.size_toArray]at hcon
  refine hcon.mono ?_
  rintro e w' ⟨rfl,n,os,rfl⟩
  have hsl:(VV L).length=L.length:=List.length_mergeSort _
  refine⟨rfl,⟨by rw[vQ],.inr ⟨g,cap,_,by rw[hsl],hb,ac8 _ hgg,by rw[hsl];exact hn,hc,by simp[putCells,hs],?_⟩⟩,abN _⟩
  rw[show (L.toArray.toList.mergeSort fun x y=>!ltOf uG y x).toArray=(VV L).toArray from rfl,aaO]
  have h3:=ac9 (cur:=cur) ((VV L).flatMap pC).toArray (by rw[List.size_toArray,vQ,hs,hsl];omega)
  rw[List.size_toArray,vQ]at h3
  exact h3
end
end Go.Proofs.YtpmedpdjglcdpaaGreatDoor
