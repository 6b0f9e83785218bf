/- A block that is known whole. Worlds that differ in one block and one row at most; append and stores, told with where what they make lies. Texts as values: a text, lists of texts that came in or are the call's own. Contracts of the document' -/
import Derived.Test.YtpmedpdjglcdpaaGreatDoorB02
import Derived.Test.YtpmedpdjglcdpaaGreatDoorB05
import Derived.Deep.MidRow
import Derived.Laws.Rows
import Derived.Maps.AppendAt
import Derived.Laws.OwnMore
import Derived.Lib.AppendStr
import Derived.Laws.ResultCell
import Derived.Lib.SliceRun
namespace Go.Proofs.YtpmedpdjglcdpaaGreatDoor
open Go.RowKit
def Whole (w:World)(g:Nat)(t:TypeId)(cs:Array Value):Prop:=w.heap[g]?=some (.cells cs t (0,0))
section
variable {w W:World}{g:Nat}{t:TypeId}{cs:Array Value}
theorem Whole.lt (h:Whole w g t cs):g<w.heap.size:=(Array.getElem?_eq_some_iff.1 h).1
theorem Whole.cell (h:Whole w g t cs)(i:Nat):w.cell? ⟨g,i,none⟩=cs[i]?:=cell_of_row w g i cs t (0,0) h
theorem Whole.frozen (h:Whole w g t cs)(i:Nat):w.frozen? ⟨g,i,none⟩=false:=frozen_of_row w g i cs t h
theorem Whole.new (w:World)(t:TypeId)(cs:Array Value):Whole (w.alloc (.cells cs t)) w.heap.size t cs:=heap_alloc_new w _
theorem Whole.alloc (h:Whole w g t cs)(o:Obj):Whole (w.alloc o) g t cs:=(Below.heap_alloc w o g h.lt).trans h
theorem Whole.set (h:Whole w g t cs)(i:Nat)(u:Value):Whole (w.setCell ⟨g,i,none⟩ u) g t (cs.setIfInBounds i u):=heap_setCell_same w g i cs t u h
theorem Whole.far (h:Whole w g t cs){b:Nat}(hb:g≠b)(i:Nat)(u:Value):Whole (w.setCell ⟨b,i,none⟩ u) g t cs:=(Below.heap_setCell w ⟨b,i,none⟩ u g hb).trans h
theorem Whole.ext (h:Whole w g t cs)(hE:Ext w W):Whole W g t cs:=(hE.block g h.lt).trans h
theorem Whole.below {B:Nat}(h:Whole w g t cs)(hE:Below B w W)(hg:g<B):Whole W g t cs:=(hE.block g hg).trans h
theorem Whole.grown (h:Whole w g t cs){b:Nat}(hE:w.grownBy W (some b))(hb:g≠b):Whole W g t cs:=(hE.block g h.lt (by simpa using hb)).trans h
end
theorem vp (g:Nat):∀ (vs:List Value) (o:Nat) (w:World),w.grownBy (w.setCells g o vs) (some g)∧(w.setCells g o vs).heap.size=w.heap.size
 | [],_,w=>⟨World.grownBy.refl w _,rfl⟩
 | v::r,o,w=>by
  have h1:w.grownBy (w.setCell ⟨g,o,none⟩ v) (some g):=⟨rfl,rfl,rfl,by simp,fun k _ hk=>Below.heap_setCell w ⟨g,o,none⟩ v k (fun e=>hk (by rw[e]))⟩
  obtain⟨h2,h3⟩:=vp g r (o+1) (w.setCell ⟨g,o,none⟩ v)
  exact⟨h1.trans h2,by show ((w.setCell ⟨g,o,none⟩ v).setCells g (o+1) r).heap.size=_;rw[h3];simp⟩
theorem Whole.setCells {g:Nat}{t:TypeId}:∀ (vs:List Value) (o:Nat) (w:World) (cs:Array Value),Whole w g t cs→o+vs.length≤cs.size →
  ∃ cs',Whole (w.setCells g o vs) g t cs'∧cs'.size=cs.size∧(∀ i,i<o→cs'[i]?=cs[i]?)∧∀ j,j<vs.length→cs'[o+j]?=vs[j]?
 | [],_,_,cs,h,_=>⟨cs,h,rfl,fun _ _=>rfl,fun j hj=>by simp at hj⟩
 | v::r,o,w,cs,h,hl=>by
  simp only[List.length_cons]at hl
  obtain⟨cs',h1,h2,h3,h4⟩:=Whole.setCells r (o+1) (w.setCell ⟨g,o,none⟩ v) _ (h.set o v) (by simp;omega)
  refine⟨cs',h1,by simpa using h2,fun i hi=>by rw[h3 i (by omega),Array.getElem?_setIfInBounds_ne (by omega)],fun j hj=>?_⟩
  rcases j with _|j
  ·rw[Nat.add_zero,h3 o (by omega),Array.getElem?_setIfInBounds_self_of_lt (by omega)]
   rfl
  ·rw[show o+(j+1)=o+1+j by omega,h4 j (by simpa using hj)]
   rfl
theorem Whole.storeAll {w:World}{g:Nat}{t:TypeId}{cs cells:Array Value}(h:Whole w g t cs)(hs:cells.size=cs.size):Whole (w.setCells g 0 cells.toList) g t cells:=by
 obtain⟨cs',h1,h2,_,h4⟩:=Whole.setCells cells.toList 0 w cs h (by simp[hs])
 have:cs'=cells:=by
  apply Array.ext_getElem?
  intro i
  by_cases hi:i<cells.size
  ·have:=h4 i (by simpa using hi)
   rw[Nat.zero_add]at this
   rw[this];simp
  ·rw[Array.getElem?_eq_none (by omega),Array.getElem?_eq_none (by omega)]
 rwa [this]at h1
theorem zh {P:Program}{ops:Array Oper}{rest:List Oper}{op:Oper}{a:Act}{w:World}{Q:Exit→Act→World→Prop}(hgd:op.guard=none)(ty:TypeId)(x y:Operand)(ho:op.op=.store ty x y)
  {g:Nat} {t:TypeId} {cs cells:Array Value} (hx:a.eval x=.pointer (some ⟨g,0,none⟩)) (hy:a.eval y=.agg cells) (hw:Whole w g t cs) (hs:cells.size=cs.size)
  (hi:(P.info? ty).map (·.size)=some cells.size) (h1:cells.all (·.oneCell')=true)
  (h:∀ w',Whole w' g t cells→w.grownBy w' (some g)→w'.heap.size=w.heap.size→wpList P ops Q rest (a.put op.dst undef) w'):wpList P ops Q (op::rest) a w:=by
 refine wpList_store_mid hgd ty x y ho g 0 cells hx hy (fun j hj=>?_) hi h1 (h _ (hw.storeAll hs) (vp g _ _ _).1 (vp g _ _ _).2)
 rw[Nat.zero_add]
 refine⟨?_,hw.frozen j⟩
 rw[hw.cell j,Array.getElem?_eq_getElem (by omega)]
 rfl
end Go.Proofs.YtpmedpdjglcdpaaGreatDoor
namespace Go.Proofs.YtpmedpdjglcdpaaGreatDoor
open Go.RowKit
theorem zi {a b:Int}(h:a=b):Ending.returned (.int .i64 a)=.returned (.int .i64 b):=by rw[h]
structure Mod (w w':World)(g:Nat)(ob:Option Nat):Prop where
 os:w'.os=w.os
 tape:w'.tape=w.tape
 output:w'.output=w.output
 size:w.heap.size≤w'.heap.size
 block:∀ k,k<w.heap.size→k≠g→some k≠ob→w'.heap[k]?=w.heap[k]?
def NewOb (w:World)(ob ob':Option Nat):Prop:=ob'=ob∨∃ n,ob'=some n∧w.heap.size≤n
theorem NewOb.same (w:World)(ob:Option Nat):NewOb w ob ob:=.inl rfl
theorem NewOb.trans {a b:World}{o1 o2 o3:Option Nat}(h:NewOb a o1 o2)(hs:a.heap.size≤b.heap.size)(k:NewOb b o2 o3):NewOb a o1 o3:=by
 rcases k with rfl | ⟨n,rfl,hn⟩
 ·exact h
 ·exact .inr ⟨n,rfl,by omega⟩
theorem NewOb.ne {w:World}{ob ob':Option Nat}(h:NewOb w ob ob'){g:Nat}(hg:g<w.heap.size)(ho:ob≠some g):ob'≠some g:=by
 rcases h with rfl | ⟨n,rfl,hn⟩
 ·exact ho
 ·intro e
  injection e with e
  omega
theorem NewOb.le {w:World}{ob ob':Option Nat}(h:NewOb w ob ob'){b:Nat}(hb:b≤w.heap.size)(ho:∀ k,ob=some k→b≤k):∀ k,ob'=some k→b≤k:=by
 rcases h with rfl | ⟨n,rfl,hn⟩
 ·exact ho
 ·intro k e
  injection e with e
  omega
section
variable {a b c w w':World}{g:Nat}{ob ob':Option Nat}
theorem Mod.refl (w:World)(g:Nat)(ob:Option Nat):Mod w w g ob:=⟨rfl,rfl,rfl,Nat.le_refl _,fun _ _ _ _=>rfl⟩
theorem Mod.trans (h:Mod a b g ob)(k:Mod b c g ob')(ho:NewOb a ob ob'):Mod a c g ob :=
 ⟨k.os.trans h.os,k.tape.trans h.tape,k.output.trans h.output,Nat.le_trans h.size k.size,fun i hi hg hb =>
  (k.block i (Nat.lt_of_lt_of_le hi h.size) hg (fun e=>ho.ne hi (fun e'=>hb e'.symm) e.symm)).trans (h.block i hi hg hb)⟩
theorem Mod.ofRow (h:w.grownBy w' (some g)):Mod w w' g ob:=⟨h.os,h.tape,h.output,h.size,fun k hk hg _=>h.block k hk (fun e=>hg (by injection e))⟩
theorem Mod.ofOwn (h:w.grownBy w' ob):Mod w w' g ob:=⟨h.os,h.tape,h.output,h.size,fun k hk _ ho=>h.block k hk ho⟩
theorem Mod.ofExt (h:Ext w w'):Mod w w' g ob:=⟨h.os,h.tape,h.output,h.size,fun k hk _ _=>h.block k hk⟩
theorem Mod.drew (w:World):Mod w w.drew g ob:=Mod.ofExt (Ext.refl w).drew
theorem Mod.below (h:Mod a b g ob){B:Nat}(hB:B≤a.heap.size)(hg:B≤g)(ho:∀ k,ob=some k→B≤k):Below B a b :=
 ⟨h.os,h.tape,h.output,h.size,fun k hk=>h.block k (by omega) (by omega) (fun e=>by have:=ho k e.symm;omega)⟩
theorem Mod.whole (h:Mod w w' g ob){x:Nat}{t:TypeId}{cs:Array Value}(hw:Whole w x t cs)(hg:x≠g)(ho:ob≠some x):Whole w' x t cs:=(h.block x hw.lt hg (fun e=>ho e.symm)).trans hw
theorem Mod.own (h:Mod w w' g ob){base:Nat}{v:Value}{l:List UInt8}(hv:OwnB w base v l)(hg:v.ownBlock≠some g)(ho:v.ownBlock=none∨v.ownBlock≠ob):OwnB w' base v l:=by
 refine⟨hv.1,?_⟩
 rcases hv.2 with hn | ⟨x,cap,cur,rfl,hb,hgg,rest⟩
 ·exact .inl hn
 ·refine .inr ⟨x,cap,cur,rfl,hb,?_,rest⟩
  rw[h.block x (Array.getElem?_eq_some_iff.1 hgg).1 (by intro e;subst e;simp[Value.ownBlock]at hg) (by
   intro e
   rcases ho with ho|ho
   ·simp[Value.ownBlock]at ho
   ·exact ho (by simpa[Value.ownBlock] using e))]
  exact hgg
end
theorem OwnB.far {w:World}{base g:Nat}{v:Value}{l:List UInt8}(h:OwnB w base v l)(hg:v.ownBlock≠some g)(i:Nat)(u:Value):OwnB (w.setCell ⟨g,i,none⟩ u) base v l :=
 (Mod.ofRow (ob:=none) (show w.grownBy (w.setCell ⟨g,i,none⟩ u) (some g) from ⟨rfl,rfl,rfl,by simp,fun k _ hk=>Below.heap_setCell w ⟨g,i,none⟩ u k (fun e=>hk (by rw[e]))⟩)).own h hg (by cases v.ownBlock<;>simp)
theorem zk (w:World)(g i:Nat)(u:Value):w.grownBy (w.setCell ⟨g,i,none⟩ u) (some g):=⟨rfl,rfl,rfl,by simp,fun k _ hk=>Below.heap_setCell w ⟨g,i,none⟩ u k (fun e=>hk (by rw[e]))⟩
theorem QC {w:World}(ty:TypeId){base:Nat}{v:Value}{l:List UInt8}(hown:OwnB w base v l){A:Option Addr}{m:Nat}{k:List UInt8}(c:Nat)(hb:Bytes w w.heap.size A m k)
  (hlen:l.length+m≤140737488355328) (hbase:base≤w.heap.size) :
  ∃ v' w',(Builtin.append_ #[29,29] ty #[v,.slice A m c]).run Tryz.prog w=.ok v' w'∧OwnB w' base v' (l++k)∧w.grownBy w' v.ownBlock∧NewOb w v.ownBlock v'.ownBlock:=by
 obtain⟨hk,hb⟩:=hb
 rcases hb with rfl | ⟨b,off,rfl,hB,hc⟩
 ·obtain rfl:=List.eq_nil_of_length_eq_zero hk
  exact⟨v,w,uE w ty base v l hown A c,by simpa using hown,World.grownBy.refl w _,.inl rfl⟩
 ·obtain⟨i,hi,hz,hs,hby⟩:=info_parts yY
  obtain⟨v',w',hr,h2,h3,_,h5⟩:=run_append_own_at (P:=Tryz.prog) w base 29 ty 5 i _ 1 1 Tryz.underlying29 hi hz hs hby rfl (by omega) v l.length (l.map zY) hown
   ⟨b,off,none⟩ m c (k.map zY) (by simpa using hk) (by
    intro j u hu
    have hj:j<m:=by
     rcases Nat.lt_or_ge j m with h|h
     ·exact h
     ·rw[List.getElem?_eq_none (by simp;omega)]at hu;cases hu
    have hadd:(⟨b,off,none⟩:Addr).add j=⟨b,off+j,none⟩:=by unfold Addr.add;split<;>simp_all
    rw[hadd,hc j hj]
    rw[List.getElem?_map,List.getElem?_eq_getElem (by omega)]at hu
    rw[List.getD_eq_getElem?_getD,List.getElem?_eq_getElem (by omega)]
    simpa[zY] using hu) (by
    intro u hu
    obtain⟨x,_,rfl⟩:=List.mem_map.1 hu
    rfl) (by unfold maxLen;omega) (by omega) hbase
  refine⟨v',w',hr,?_,h3,h5.imp id fun h=>⟨_,h,Nat.le_refl _⟩⟩
  unfold OwnB
  rw[List.length_append,hk,List.map_append]
  exact h2
theorem uS (n:Nat):Builtin.zeroCells (Value.int .u8 0).cells n=((List.replicate n (0:UInt8)).map zY).toArray:=by
 apply Array.ext
 ·rw[size_zeroCells];simp[Value.cells]
 ·intro i h1 h2
  simp[Builtin.zeroCells,Value.cells,zY,Nat.mod_one]
theorem Uf {w:World}(ty:TypeId){base:Nat}{v:Value}{l:List UInt8}(hown:OwnB w base v l)(n:Nat)(hlen:l.length+n≤140737488355328)(hbase:base≤w.heap.size) :
  ∃ v' w',(Builtin.append_ #[29,3] ty #[v,.int .i64 n]).run Tryz.prog w=.ok v' w'∧OwnB w' base v' (l++List.replicate n 0)∧w.grownBy w' v.ownBlock∧NewOb w v.ownBlock v'.ownBlock:=by
 obtain⟨i,hi,hz,hs,hby⟩:=info_parts yY
 have hw:IntKind.i64.wrap (n:Int)=n:=by rw[IntKind.wrap_i64];omega
 have hneg:¬ ((n:Int)<0):=by omega
 have hw0:IntKind.i64.wrap 0=0:=by rw[IntKind.wrap_i64];omega
 have h48i:¬ (281474976710656<(n:Int)):=by omega
 have hsz:Tryz.prog.info? 5=some i:=hi
 have grown:∀ (old:Nat),old<l.length+n→∀ (row:Option Nat),
   OwnB (w.drew.alloc (.cells ((l.map zY).toArray++Builtin.zeroCells (Value.int .u8 0).cells n++Builtin.zeroCells (Value.int .u8 0).cells (grownCap w (l.length+n) old 5-(l.length+n))) 5)) base
    (.slice (some ⟨w.heap.size,0,none⟩) (l.length+n) (grownCap w (l.length+n) old 5)) (l++List.replicate n 0) ∧
   w.grownBy (w.drew.alloc (.cells ((l.map zY).toArray++Builtin.zeroCells (Value.int .u8 0).cells n++Builtin.zeroCells (Value.int .u8 0).cells (grownCap w (l.length+n) old 5-(l.length+n))) 5)) row:=by
  intro old ho row
  have hge:=grownCap_ge w (l.length+n) old 5
  have hcm:grownCap w (l.length+n) old 5≤maxLen:=grownCap_le_maxLen w (l.length+n) old 5 (by unfold maxLen;omega)
  refine⟨?_,⟨rfl,rfl,rfl,by simp,fun k hk _=>Below.heap_alloc w.drew _ k hk⟩⟩
  unfold OwnB
  rw[List.length_append,List.length_replicate]
  refine⟨by simp,.inr ⟨w.heap.size,_,_,rfl,hbase,heap_alloc_new w.drew _,hge,hcm,?_,?_⟩⟩
  ·simp only[Array.size_append,size_zeroCells]
   simp[Value.cells]
   omega
  ·rw[uS n,List.map_append]
   simp only[Array.toList_append,Nat.mul_one]
   rw[List.take_append_of_le_length (by simp),List.take_of_length_le (by simp)]
 rcases hown.2 with ⟨rfl,h0⟩ | ⟨g,cap,cur,rfl,hbg,hg,hnc,hcm,hcs,htake⟩
 ·have hl:l=[]:=List.eq_nil_of_length_eq_zero h0
  subst hl
  by_cases hn:n=0
  ·subst hn
   refine⟨.slice none 0 0,w,?_,by simpa using hown,World.grownBy.refl w _,.inl rfl⟩
   simp[Builtin.append_,run_underlying Tryz.underlying29,run_underlying Tryz.underlying3,sizeOf,typeInfo,hsz,asInt,asIntOf,hby,hw0]
  ·have h48':¬ (281474976710656<Builtin.nextslicecap n 0):=by rw[nextslicecap_zero (by omega)];omega
   have h63':¬ (9223372036854775807<(n:Int)):=by omega
   have hgr:=grown 0 (by simp;omega) (Value.ownBlock (.slice none 0 0))
   simp only[List.length_nil,Nat.zero_add,List.map_nil,List.nil_append,Array.empty_append]at hgr ⊢
   refine⟨_,_,?_,hgr.1,hgr.2,.inr ⟨_,rfl,Nat.le_refl _⟩⟩
   simp[Builtin.append_,run_underlying Tryz.underlying29,run_underlying Tryz.underlying3,sizeOf,typeInfo,zeroValue,hsz,hz,asInt,asIntOf,hs,hby,hw,hneg,h48i,hn,h48',h63',Question.forced,run_firstCells_none,newRow,grownCap]
 ·by_cases hroom:l.length+n≤cap
  ·by_cases hn:n=0
   ·subst hn
    refine⟨_,w,?_,by simpa using hown,World.grownBy.refl w _,.inl rfl⟩
    simp[Builtin.append_,run_underlying Tryz.underlying29,run_underlying Tryz.underlying3,sizeOf,typeInfo,hsz,asInt,asIntOf,hw0,hnc,storeCells]
   have hst:=run_storeCells_at Tryz.prog g l.length 5 ((List.replicate n (0:UInt8)).map zY) 0 cur w hg (by simp;omega) (by
    intro u hu
    obtain⟨x,_,rfl⟩:=List.mem_map.1 hu
    rfl)
   have hsr:=setRow_heap w g cur ((cur.toList.take (l.length+0)++(List.replicate n (0:UInt8)).map zY++cur.toList.drop (l.length+0+((List.replicate n (0:UInt8)).map zY).length)).toArray) _ _ hg
   have hzc:(Builtin.zeroCells (Value.int .u8 0).cells n).toList=(List.replicate n (0:UInt8)).map zY:=by rw[uS]
   refine⟨.slice (some ⟨g,0,none⟩) (l.length+n) cap,w.setRow g ((cur.toList.take (l.length+0)++(List.replicate n (0:UInt8)).map zY++cur.toList.drop (l.length+0+((List.replicate n (0:UInt8)).map zY).length)).toArray),?_,?_,
    ⟨rfl,rfl,rfl,by simp,fun k _ hk=>setRow_other w g k _ (fun e=>hk (by simp[Value.ownBlock,e]))⟩,.inl rfl⟩
   ·simp[Builtin.append_,run_underlying Tryz.underlying29,run_underlying Tryz.underlying3,sizeOf,typeInfo,zeroValue,hsz,hz,asInt,asIntOf,hs,hby,hw,hneg,h48i,hn,hroom,Addr.add_lit,hzc,-List.map_replicate]
    rw[hst]
    simp[-List.map_replicate]
   ·unfold OwnB
    rw[List.length_append,List.length_replicate]
    refine⟨by simp,.inr ⟨g,cap,_,rfl,hbg,hsr,hroom,hcm,?_,?_⟩⟩
    ·simp;omega
    ·rw[Nat.mul_one]at htake
     rw[Nat.add_zero,htake,List.map_append,Nat.mul_one]
     rw[List.take_append_of_le_length (by simp),List.take_of_length_le (by simp)]
  ·have hlo:(l.map zY).length=l.length*i.size:=by rw[hs];simp
   have hfo:=run_firstCells_some (P:=Tryz.prog) w.drew i.size l.length ⟨g,0,none⟩ l.length cap (l.map zY) hlo (by simpa using hown.cells (g:=g) rfl)
   have hgr:=grown cap (by omega) (Value.ownBlock (.slice (some ⟨g,0,none⟩) l.length cap))
   have hn:n≠0:=by omega
   have h63':¬ (9223372036854775807<((l.length:Int)+(n:Int))):=by omega
   have h48':¬ (281474976710656<Builtin.nextslicecap (l.length+n) cap):=by
    have:=growslice_fits (need:=l.length+n) (old:=cap) (bytes:=1) (by omega) (by omega)
    omega
   refine⟨_,_,?_,hgr.1,hgr.2,.inr ⟨_,rfl,Nat.le_refl _⟩⟩
   simp[Builtin.append_,run_underlying Tryz.underlying29,run_underlying Tryz.underlying3,sizeOf,typeInfo,zeroValue,hsz,hz,asInt,asIntOf,hs,hby,hw,hneg,h48i,hn,hroom,h63',h48',Question.forced,newRow,grownCap]
   rw[hs]at hfo
   simp[hfo]
section
variable {o:Oper}{a:Act}{K:Act→World→Prop}{Q:Exit→Act→World→Prop}{w:World}{base:Nat}{v:Value}{l:List UInt8}
theorem qx (s x:Operand)(ho:o.op=.call { callee:=.builtin .append,args:=#[s,x],argTypes:=#[29,29] })(hs:a.eval s=v)(hown:OwnB w base v l)
  {A:Option Addr} {m c:Nat} {k:List UInt8} (hx:a.eval x=.slice A m c) (hb:Bytes w w.heap.size A m k) (hlen:l.length+m≤140737488355328) (hbase:base≤w.heap.size)
  (h:∀ v' w',OwnB w' base v' (l++k)→w.grownBy w' v.ownBlock→NewOb w v.ownBlock v'.ownBlock→K (a.put o.dst v') w'):o.wp Tryz.prog a w K Q:=by
 obtain⟨v',w',hr,h2,h3,h4⟩:=QC o.type hown c hb hlen hbase
 unfold Oper.wp execOp
 simp only[ho,resolve,invoke,builtin,Sem.run_bind,Sem.run_pure,Result.andThen_ok,List.map_toArray,List.map_cons,List.map_nil,hs,hx,hr]
 exact h v' w' h2 h3 h4
theorem YS (s x:Operand)(ho:o.op=.call { callee:=.builtin .append,args:=#[s,x],argTypes:=#[29,3] })(hs:a.eval s=v)(hown:OwnB w base v l)
  (n:Nat) (hx:a.eval x=.int .i64 n) (hlen:l.length+n≤140737488355328) (hbase:base≤w.heap.size)
  (h:∀ v' w',OwnB w' base v' (l++List.replicate n 0)→w.grownBy w' v.ownBlock→NewOb w v.ownBlock v'.ownBlock→K (a.put o.dst v') w'):o.wp Tryz.prog a w K Q:=by
 obtain⟨v',w',hr,h2,h3,h4⟩:=Uf o.type hown n hlen hbase
 unfold Oper.wp execOp
 simp only[ho,resolve,invoke,builtin,Sem.run_bind,Sem.run_pure,Result.andThen_ok,List.map_toArray,List.map_cons,List.map_nil,hs,hx,hr]
 exact h v' w' h2 h3 h4
theorem ze {ops:Array Oper}{rest:List Oper}(hgd:o.guard=none)(s x:Operand)(ho:o.op=.call { callee:=.builtin .append,args:=#[s,x],argTypes:=#[29,29] })(hs:a.eval s=v)(hown:OwnB w base v l)
  {A:Option Addr} {m c:Nat} {k:List UInt8} (hx:a.eval x=.slice A m c) (hb:Bytes w w.heap.size A m k) (hlen:l.length+m≤140737488355328) (hbase:base≤w.heap.size)
  (h:∀ v' w',OwnB w' base v' (l++k)→w.grownBy w' v.ownBlock→NewOb w v.ownBlock v'.ownBlock→wpList Tryz.prog ops Q rest (a.put o.dst v') w'):wpList Tryz.prog ops Q (o::rest) a w :=
 wpList_plain hgd fun _ hK=>qx s x ho hs hown hx hb hlen hbase fun v' w' h2 h3 h4=>hK _ _ (h v' w' h2 h3 h4)
theorem QD {ops:Array Oper}{E:Prop}(hgd:o.guard=none)(s x:Operand)(ho:o.op=.call { callee:=.builtin .append,args:=#[s,x],argTypes:=#[29,29] })(hs:a.eval s=v)(hown:OwnB w base v l)
  {A:Option Addr} {m c:Nat} {k:List UInt8} (hx:a.eval x=.slice A m c) (hb:Bytes w w.heap.size A m k) (hlen:l.length+m≤140737488355328) (hbase:base≤w.heap.size)
  (h:∀ v' w',OwnB w' base v' (l++k)→w.grownBy w' v.ownBlock→NewOb w v.ownBlock v'.ownBlock→K (a.put o.dst v') w') :
  if Region.wanted o (yielded ops a.tmps)=true then Oper.wp Tryz.prog o a w K Q else E:=by
 have hw:Region.wanted o (yielded ops a.tmps)=true:=by simp[Region.wanted,hgd]
 rw[if_pos hw]
 exact qx s x ho hs hown hx hb hlen hbase h
theorem Ug {ops:Array Oper}{E:Prop}(hgd:o.guard=none)(s x:Operand)(ho:o.op=.call { callee:=.builtin .append,args:=#[s,x],argTypes:=#[29,3] })(hs:a.eval s=v)(hown:OwnB w base v l)
  (n:Nat) (hx:a.eval x=.int .i64 n) (hlen:l.length+n≤140737488355328) (hbase:base≤w.heap.size)
  (h:∀ v' w',OwnB w' base v' (l++List.replicate n 0)→w.grownBy w' v.ownBlock→NewOb w v.ownBlock v'.ownBlock→K (a.put o.dst v') w') :
  if Region.wanted o (yielded ops a.tmps)=true then Oper.wp Tryz.prog o a w K Q else E:=by
 have hw:Region.wanted o (yielded ops a.tmps)=true:=by simp[Region.wanted,hgd]
 rw[if_pos hw]
 exact YS s x ho hs hown n hx hlen hbase h
end
theorem Whole.at {w:World}{g:Nat}{t:TypeId}{cs:Array Value}(h:Whole w g t cs)(i:Nat){u:Value}(hu:cs[i]?=some u):w.cell? ⟨g,i,none⟩=some u:=(h.cell i).trans hu
theorem Whole.ownGrown {w w':World}{g:Nat}{t:TypeId}{cs:Array Value}{ob:Option Nat}(h:Whole w g t cs)(hG:w.grownBy w' ob)(ho:ob≠some g):Whole w' g t cs:=(hG.block g h.lt (fun e=>ho e.symm)).trans h
theorem yb {ops:Array Oper}{rest:List Oper}{o:Oper}{a:Act}{w:World}{Q:Exit→Act→World→Prop}(hgd:o.guard=none)(ty:TypeId)(x y:Operand)(ho:o.op=.store ty x y)
  {g i:Nat} {t:TypeId} {cs:Array Value} (cs':Array Value) {u:Value} (hx:a.eval x=.pointer (some ⟨g,i,none⟩)) (hy:a.eval y=u) (hw:Whole w g t cs) (hi:i<cs.size)
  (hs:(Tryz.prog.info? ty).map (·.size)=some 1) (h1:u.oneCell'=true) (hcells:u.cells=#[u]) (hcs:cs.setIfInBounds i u=cs')
  (h:∀ w',Whole w' g t cs'→w.grownBy w' (some g)→wpList Tryz.prog ops Q rest (a.put o.dst undef) w'):wpList Tryz.prog ops Q (o::rest) a w:=by
 subst hcs
 refine wpList_plain hgd fun _ hK=>?_
 have hst:=run_storeCells_at Tryz.prog g i t [u] 0 cs w hw (by simp;omega) (fun x hx=>by simp at hx;subst hx;exact h1)
 unfold Oper.wp execOp
 cases hq:Tryz.prog.info? ty with
 | none=>simp[hq]at hs
 | some d =>
  have hs':d.size=1:=by simpa[hq] using hs
  have hr:(storeVar ty ⟨g,i,none⟩ u).run Tryz.prog w=.ok () (w.setRow g (cs.toList.take (i+0)++[u]++cs.toList.drop (i+0+[u].length)).toArray):=by
   simp only[storeVar,sizeOf,typeInfo,hcells]
   simpa[hq,hs'] using hst
  simp only[ho,hx,hy,Instr.storeAt,Instr.sureAddr,Sem.run_bind,Sem.run_pure,Result.andThen_ok,hr]
  refine hK _ _ (h _ ?_ ⟨rfl,rfl,rfl,by simp,fun k _ hk=>setRow_other w g k _ (fun e=>hk (by simp[e]))⟩)
  have e:(cs.toList.take (i+0)++[u]++cs.toList.drop (i+0+[u].length)).toArray=cs.setIfInBounds i u:=by
   apply Array.ext'
   rw[Array.toList_setIfInBounds,List.set_eq_take_append_cons_drop,if_pos (by simpa using hi)]
   simp
  rw[e]
  exact setRow_heap w g cs _ _ _ hw
theorem vq {ops:Array Oper}{rest:List Oper}{o:Oper}{a:Act}{w:World}{Q:Exit→Act→World→Prop}(hgd:o.guard=none)(x y:Operand){ts:Array TypeId}(ho:o.op=.call { callee:=.builtin .min,args:=#[x,y],argTypes:=ts })
  {p q r:Int} {k:IntKind} (hx:a.eval x=.int k p) (hy:a.eval y=.int k q) (hr:(if q<p then q else p)=r) (h:wpList Tryz.prog ops Q rest (a.put o.dst (.int k r)) w):wpList Tryz.prog ops Q (o::rest) a w:=by
 subst hr
 refine wpList_plain hgd fun _ hK=>?_
 unfold Oper.wp execOp
 simp only[ho,resolve,invoke,builtin,Sem.run_bind,Sem.run_pure,Result.andThen_ok,List.map_toArray,List.map_cons,List.map_nil,hx,hy,run_min_int2]
 exact hK _ _ h
def Qt (w w':World):Prop:=∃ m,w'=w.drewN m
theorem Qt.refl (w:World):Qt w w:=⟨0,rfl⟩
theorem Qt.drewN {a b:World}(h:Qt a b)(n:Nat):Qt a (b.drewN n):=by
 obtain⟨m,rfl⟩:=h
 exact⟨m+n,World.drewN_drewN a m n⟩
theorem Qt.ext {a b:World}(h:Qt a b):Ext a b:=by
 obtain⟨m,rfl⟩:=h
 exact (Ext.refl a).drewN m
theorem Uh (W:World)(a:Option Addr)(n c:Nat)(k k':IntKind)(l h:Int)(h0:0≤l)(h1:l≤h)(h2:h≤c) :
  (Instr.slice 29 (.slice a n c) (some (.int k l)) (some (.int k' h)) none).run Tryz.prog W=.ok (.slice (zQ a c l.toNat) (h.toNat-l.toNat) (c-l.toNat)) W:=by
 rw[run_slice_lh (P:=Tryz.prog) (w:=W) 29 a n c (by kernel_rfl) k k' l h h0 h1 h2]
 have hs:(sizeOf (Tryz.prog.elem 29)).run Tryz.prog W=.ok 1 W:=by kernel_rfl
 rw[hs]
 simp[Result.andThen,sliced,zQ]
end Go.Proofs.YtpmedpdjglcdpaaGreatDoor
namespace Go.Proofs.YtpmedpdjglcdpaaGreatDoor
open Go.RowKit
def txt (l:List UInt8):Value:=.string ⟨l.toArray⟩
theorem acs (b:ByteArray):∃ l:List UInt8,b=⟨l.toArray⟩:=⟨b.data.toList,by cases b;simp⟩
theorem ye (l:List UInt8):(ByteArray.mk l.toArray).size=l.length:=by simp[ByteArray.size]
theorem yn (W:World)(l:List UInt8)(k:IntKind)(i:Int)(h0:0≤i)(h1:i<l.length):(Instr.index 9 (.string ⟨l.toArray⟩) (.int k i)).run Tryz.prog W=.ok (.int .u8 ((l.getD i.toNat 0).toNat:Int)) W:=by
 rw[run_index_string (P:=Tryz.prog) W 9 _ k i Tryz.underlying9,dif_pos ⟨h0,by rw[ye];exact h1⟩]
 have h:i.toNat<l.length:=by omega
 simp[List.getD_eq_getElem?_getD,h]
 rfl
theorem z7 (W:World)(l:List UInt8)(ty:TypeId):(Builtin.len_ #[9] ty #[.string ⟨l.toArray⟩]).run Tryz.prog W=.ok (.int .i64 (l.length:Int)) W:=by
 rw[run_len_string (P:=Tryz.prog) W 9 ty _ Tryz.underlying9,ye]
 rfl
theorem z8 (W:World)(l:List UInt8)(k:IntKind)(i:Int)(h0:0≤i)(h1:i≤l.length):(Instr.slice 9 (.string ⟨l.toArray⟩) (some (.int k i)) none none).run Tryz.prog W=.ok (.string ⟨(l.drop i.toNat).toArray⟩) W:=by
 rw[run_slice_string_l (P:=Tryz.prog) W 9 _ Tryz.underlying9 k i h0 (by rw[ye];exact h1)]
 congr 2
 apply ByteArray.ext
 rw[ByteArray.data_extract,ye]
 show l.toArray.extract i.toNat l.length=(l.drop i.toNat).toArray
 rw[List.extract_toArray,List.extract_eq_take_drop,List.take_of_length_le (by simp)]
def TextsAt (w:World)(B:Nat)(A:Option Addr)(n:Nat)(L:List (List UInt8)):Prop :=
 L.length=n∧(n=0∨∃ b off,A=some ⟨b,off,none⟩∧b<B∧∀ i,i<n→w.cell? ⟨b,off+i,none⟩=some (.string ⟨(L.getD i []).toArray⟩))
theorem TextsAt.below {w w':World}{B C:Nat}{A:Option Addr}{n:Nat}{L:List (List UInt8)}(h:TextsAt w B A n L)(hb:Below C w w')(hC:B≤C):TextsAt w' B A n L:=by
 refine⟨h.1,?_⟩
 rcases h.2 with h0 | ⟨b,off,hA,hB,hc⟩
 ·exact .inl h0
 ·exact .inr ⟨b,off,hA,hB,fun i hi=>by rw[hb.cell (p:=⟨b,off+i,none⟩) (Nat.lt_of_lt_of_le hB hC)];exact hc i hi⟩
theorem TextsAt.later {w w':World}{A:Option Addr}{n:Nat}{L:List (List UInt8)}(h:TextsAt w w.heap.size A n L)(hE:Ext w w'):TextsAt w' w'.heap.size A n L:=by
 refine⟨h.1,?_⟩
 rcases h.2 with h0 | ⟨b,off,hA,hB,hc⟩
 ·exact .inl h0
 ·exact .inr ⟨b,off,hA,Nat.lt_of_lt_of_le hB hE.le,fun i hi=>by rw[hE.cell hB];exact hc i hi⟩
theorem TextsAt.cut {w:World}{B n:Nat}{A:Option Addr}{r:List (List UInt8)}(h:TextsAt w B A n r){k c:Nat}(hk:k≤n)(hc:n≤c):TextsAt w B (zQ A c k) (n-k) (r.drop k):=by
 refine⟨by rw[List.length_drop,h.1],?_⟩
 by_cases hkn:k=n
 ·exact .inl (by omega)
 rcases h.2 with h0 | ⟨b,off,rfl,hB,hcell⟩
 ·exact .inl (by omega)
 ·refine .inr ⟨b,off+k,?_,hB,fun i hi=>?_⟩
  ·simp[zQ,show ¬ c=k by omega,Addr.add]
  ·rw[Nat.add_assoc,hcell (k+i) (by omega)]
   simp[List.getD_eq_getElem?_getD]
theorem TextsAt.top {w:World}{B n:Nat}{A:Option Addr}{r:List (List UInt8)}(h:TextsAt w B A n r){k:Nat}(hk:k≤n):TextsAt w B A k (r.take k):=by
 refine⟨by rw[List.length_take,h.1];omega,?_⟩
 rcases h.2 with h0 | ⟨b,off,hA,hB,hc⟩
 ·exact .inl (by omega)
 ·refine .inr ⟨b,off,hA,hB,fun i hi=>?_⟩
  rw[hc i (by omega)]
  simp[List.getD_eq_getElem?_getD,hi]
theorem act (w:World)(L:List (List UInt8))(cs:Array Value)(t:TypeId)(fr:Nat×Nat)(h:cs=(L.map txt).toArray)(n:Nat)(hn:L.length=n) :
  TextsAt (w.alloc (.cells cs t fr)) (w.alloc (.cells cs t fr)).heap.size (some ⟨w.heap.size,0,none⟩) n L:=by
 subst h
 subst hn
 refine⟨rfl,.inr ⟨w.heap.size,0,rfl,by simp,fun i hi=>?_⟩⟩
 rw[Nat.zero_add,World.cell?_alloc_mark]
 simp[hi,txt]
theorem jl (W:World)(a:Option Addr)(n c:Nat)(k:IntKind)(l:Int)(h0:0≤l)(h1:l≤n) :
  (Instr.slice 66 (.slice a n c) (some (.int k l)) none none).run Tryz.prog W=.ok (.slice (zQ a c l.toNat) (n-l.toNat) (c-l.toNat)) W:=by
 rw[run_slice_l (P:=Tryz.prog) (w:=W) 66 a n c (by kernel_rfl) k l h0 h1]
 have hs:(sizeOf (Tryz.prog.elem 66)).run Tryz.prog W=.ok 1 W:=by kernel_rfl
 rw[hs]
 simp[Result.andThen,sliced,zQ]
theorem aa6 (W:World)(a:Option Addr)(n c:Nat)(k:IntKind)(h:Int)(h0:0≤h)(h2:h≤c) :
  (Instr.slice 66 (.slice a n c) none (some (.int k h)) none).run Tryz.prog W=.ok (.slice a h.toNat c) W:=by
 rw[run_slice_h (P:=Tryz.prog) (w:=W) 66 a n c (by kernel_rfl) k h h0 h2]
 have hs:(sizeOf (Tryz.prog.elem 66)).run Tryz.prog W=.ok 1 W:=by kernel_rfl
 rw[hs]
 rcases a with _ | ⟨b,o,s⟩<;>simp[Result.andThen,sliced,Addr.add]
def OwnTx (w:World)(base:Nat)(v:Value)(L:List (List UInt8)):Prop:=w.ownsRow base 9 1 v L.length (L.map txt)
theorem aa7:(Tryz.prog.info? 9).map (fun i=>(i.zero,i.size,i.bytes))=some (some (.string ⟨#[]⟩),1,16):=by kernel_rfl
theorem OwnTx.nil (w:World)(base:Nat):OwnTx w base (.slice none 0 0) []:=World.ownsRow_nil w base _ _
theorem OwnTx.ext {w w':World}{base:Nat}{v:Value}{L:List (List UInt8)}(h:OwnTx w base v L)(hE:Ext w w'):OwnTx w' base v L :=
 World.ownsRow.kept h (hE.grown none) (by cases hv:v.ownBlock<;>simp)
theorem OwnTx.lt {w:World}{base:Nat}{v:Value}{L:List (List UInt8)}(h:OwnTx w base v L):∀ k,v.ownBlock=some k→base≤k∧k<w.heap.size:=World.ownsRow.lt h
theorem OwnTx.form {w:World}{base:Nat}{v:Value}{L:List (List UInt8)}(h:OwnTx w base v L):∃ A c,v=.slice A L.length c∧L.length≤c∧c≤maxLen∧TextsAt w w.heap.size A L.length L:=by
 have hl:=h.lt
 rcases h.2 with ⟨rfl,h0⟩ | ⟨g,cap,cur,rfl,hb,hg,hn,hc,hs,ht⟩
 ·exact⟨none,0,by rw[h0],by omega,by unfold maxLen;omega,rfl,.inl h0⟩
 ·refine⟨_,cap,rfl,hn,hc,rfl,.inr ⟨g,0,rfl,(hl g rfl).2,fun i hi=>?_⟩⟩
  have hk:=World.ownsRow.cellAt h i (by omega)
  rw[Nat.zero_add,hk]
  simp[hi,txt]
theorem aa8 {w:World}(ty:TypeId){base:Nat}{v:Value}{L:List (List UInt8)}(hown:OwnTx w base v L){A:Option Addr}{m:Nat}(c:Nat){k:List (List UInt8)}(hI:TextsAt w w.heap.size A m k)(hlen:L.length+m≤2000000)(hbase:base≤w.heap.size) :
  ∃ v' w',(Builtin.append_ #[66,66] ty #[v,.slice A m c]).run Tryz.prog w=.ok v' w'∧OwnTx w' base v' (L++k)∧w.grownBy w' v.ownBlock∧NewOb w v.ownBlock v'.ownBlock:=by
 obtain⟨i,hi,hz,hs,hby⟩:=info_parts aa7
 rcases hI.2 with h0 | ⟨b,off,rfl,hb,hc⟩
 ·subst h0
  have hk:k=[]:=List.eq_nil_of_length_eq_zero hI.1
  subst hk
  refine⟨v,w,?_,by simpa using hown,World.grownBy.refl w _,.inl rfl⟩
  rcases hown.2 with ⟨rfl,_⟩ | ⟨g,cap,cur,rfl,_,_,hnc,_⟩
  ·cases A<;>simp[Builtin.append_,run_underlying Tryz.underlying66,sizeOf,typeInfo,hi,Builtin.lenOf,Builtin.firstCells,loadCells,loadCellsFrom]
  ·cases A<;>simp[Builtin.append_,run_underlying Tryz.underlying66,sizeOf,typeInfo,hi,Builtin.lenOf,Builtin.firstCells,loadCells,loadCellsFrom,hnc,storeCells]
 ·have hkl:=hI.1
  obtain⟨v',w',hr,h2,h3,_,h5⟩:=run_append_own_at (P:=Tryz.prog) w base 66 ty 9 i _ 1 16 Tryz.underlying66 hi hz hs hby rfl (by omega) v L.length (L.map txt) hown
   ⟨b,off,none⟩ m c (k.map txt) (by simp[hkl]) (by
    intro j u hu
    have hj:j<m:=by
     rcases Nat.lt_or_ge j m with h|h
     ·exact h
     ·rw[List.getElem?_eq_none (by rw[List.length_map];omega)]at hu;cases hu
    have e:(⟨b,off,none⟩:Addr).add j=⟨b,off+j,none⟩:=by unfold Addr.add;split<;>simp_all
    rw[e,hc j hj]
    rw[List.getElem?_map,List.getElem?_eq_getElem (by omega)]at hu
    simp[List.getD_eq_getElem?_getD,show j<k.length by omega,txt]at hu ⊢
    exact hu) (by
    intro u hu
    obtain⟨z,_,rfl⟩:=List.mem_map.1 hu
    rfl) (by unfold maxLen;omega) (by omega) hbase
  refine⟨v',w',hr,?_,h3,h5.imp id fun h=>⟨_,h,Nat.le_refl _⟩⟩
  unfold OwnTx
  rw[List.length_append,List.map_append,hkl]
  exact h2
theorem xw {ops:Array Oper}{rest:List Oper}{o:Oper}{a:Act}{Q:Exit→Act→World→Prop}{w:World}{base:Nat}{v:Value}{L:List (List UInt8)}(hgd:o.guard=none)(s x:Operand)(ho:o.op=.call { callee:=.builtin .append,args:=#[s,x],argTypes:=#[66,66] })(hs:a.eval s=v)
  (hown:OwnTx w base v L) {A:Option Addr} {m c:Nat} {k:List (List UInt8)} (hx:a.eval x=.slice A m c) (hI:TextsAt w w.heap.size A m k) (hlen:L.length+m≤2000000) (hbase:base≤w.heap.size)
  (h:∀ v' w',OwnTx w' base v' (L++k)→w.grownBy w' v.ownBlock→NewOb w v.ownBlock v'.ownBlock→wpList Tryz.prog ops Q rest (a.put o.dst v') w'):wpList Tryz.prog ops Q (o::rest) a w:=by
 refine wpList_plain hgd fun _ hK=>?_
 obtain⟨v',w',hr,h2,h3,h4⟩:=aa8 o.type hown c hI hlen hbase
 unfold Oper.wp execOp
 simp only[ho,resolve,invoke,builtin,Sem.run_bind,Sem.run_pure,Result.andThen_ok,List.map_toArray,List.map_cons,List.map_nil,hs,hx,hr]
 exact hK _ _ (h v' w' h2 h3 h4)
theorem yx {ops:Array Oper}{rest:List Oper}{o:Oper}{a:Act}{Q:Exit→Act→World→Prop}(hgd:o.guard=none)(s x:Operand)(ho:o.op=.call { callee:=.builtin .append,args:=#[s,x],argTypes:=#[66,66] }){w0 w:World}{v:Value}{L:List (List UInt8)}
  (hE:Ext w0 w) (hO:OwnTx w w0.heap.size v L) (hs:a.eval s=v) (p:List UInt8) {c:Nat} (hx:a.eval x=.slice (some ⟨w.heap.size,0,none⟩) 1 c) (hlen:L.length≤1000000)
  (h:∀ v' w',OwnTx w' w0.heap.size v' (L++[p])→Ext w0 w'→wpList Tryz.prog ops Q rest (a.put o.dst v') w'):wpList Tryz.prog ops Q (o::rest) a (w.alloc (.cells #[.string ⟨p.toArray⟩] 9)) :=
 xw hgd s x ho hs (hO.ext (zb w _)) hx (act w [p] _ _ (0,0) rfl 1 rfl) (by omega) (Nat.le_trans hE.le (zb w _).le) fun v' w' h1 h2 _=>h v' w' h1 (Below.grown (hE.alloc _) h2 (by rw[World.size_alloc];have:=hE.le;omega) (fun k hk=>(hO.lt k hk).1))
def vN (w:World)(l:List (List UInt8))(e:Ending)(w':World):Prop:=∃ A c,e=.returned (.slice A l.length c)∧l.length≤c∧c≤maxLen∧TextsAt w' w'.heap.size A l.length l∧Ext w w'
end Go.Proofs.YtpmedpdjglcdpaaGreatDoor
namespace Go.Proofs.YtpmedpdjglcdpaaGreatDoor
open Go.RowKit
theorem adA {z:Int}{y:Nat}(h:z=(y:Int))(hy:y<256):z=((UInt8.ofNat y).toNat:Int):=by rw[h,Num.ofNat_low y hy]
set_option maxHeartbeats 1000000 in
set_option maxRecDepth 100000 in
theorem zx (x:Nat)(w:World)(hx:x<18446744073709551616):Calls Tryz.prog 20 #[.int .u64 x] w (zt w (Num.enc x)):=by
 go_enter Tryz.func20,Tryz.ntmps20
 go_wp2
 go_loopw [0,3] (fun y v wr=>∃ (k z:Nat) (pre:List UInt8),y=.int .u64 (z:Int)∧z<18446744073709551616∧z<128 ^ (10-k)∧k≤9∧pre.length=k∧pre++Num.encF (10-k) z=Num.enc x∧OwnB wr w.heap.size v pre∧Ext w wr) (fun y _ _=>(intOf y).toNat)
 case atStart=>exact⟨0,x,[],rfl,hx,Nat.lt_of_lt_of_le hx (by decide),by omega,rfl,rfl,OwnB.nil _ _,Ext.refl _⟩
 case round =>
  obtain⟨k,z,pre,rfl,hz,hzk,hk,hlen,henc,hO,hE⟩:=hrel
  obtain⟨f,hf⟩:∃ f,10-k=f+1:=⟨9-k,by omega⟩
  rw[hf]at henc hzk
  have hfit:pre.length+1≤140737488355328:=by omega
  by_cases hs:z<128
  ·rw[Num.encF_small hs]at henc
   have HE:=hide henc
   have hbyte:((z:Int) % 256)=((UInt8.ofNat z).toNat:Int):=adA (by omega) (by omega)
   obtain⟨bt,rfl⟩:∃ bt:UInt8,z=bt.toNat:=⟨UInt8.ofNat z,by rw[Num.ofNat_low z (by omega)]⟩
   rw[UInt8.ofNat_toNat]at HE
   have hb1:=zr wr [bt] #[.int .u8 (bt.toNat:Int)] 5 (0,0) rfl 1 rfl
   have hO1:=hO.ext (zb wr (.cells #[.int .u8 (bt.toNat:Int)] 5))
   have hE1:=hE.trans (zb wr (.cells #[.int .u8 (bt.toNat:Int)] 5))
   have hB1:=hE1.le
   clear henc hlen hbyte hf
   go_wp2_with (at_builtin;refine ze rfl (.tmp 15) (.tmp 18) rfl rfl hO1 rfl hb1 hfit hB1 ?_;intro v2 w2 hO2 hG2 hN2)
   go_ret
   exact⟨v2,rfl,by rw[← HE.out];exact hO2,hO1.below hE1 hG2 hB1⟩
  ·rw[Num.encF_big hs]at henc
   have HE:=hide henc
   have hk9:k≤8:=by
    rcases Nat.lt_or_ge k 9 with h|h
    ·omega
    ·obtain rfl:k=9:=by omega
     obtain rfl:f=0:=by omega
     simp at hzk
     omega
   have HF:=hide (show 10-(k+1)=f by omega)
   have HZ:=hide (show z / 128<128 ^ f by rw[Nat.pow_succ]at hzk;exact Nat.div_lt_of_lt_mul (by rw[Nat.mul_comm];exact hzk))
   obtain⟨bt,hbt⟩:∃ bt:UInt8,bt=UInt8.ofNat (128+z % 128):=⟨_,rfl⟩
   have hbn:bt.toNat=128+z % 128:=by rw[hbt];exact Num.ofNat_low _ (by omega)
   rw[← hbt]at HE
   have hbyte:(128+(z:Int) % 128)=(bt.toNat:Int):=by omega
   have hbl:=bt.toNat_lt
   have hb1:=zr wr [bt] #[.int .u8 (bt.toNat:Int)] 5 (0,0) rfl 1 rfl
   have hO1:=hO.ext (zb wr (.cells #[.int .u8 (bt.toNat:Int)] 5))
   have hE1:=hE.trans (zb wr (.cells #[.int .u8 (bt.toNat:Int)] 5))
   have hB1:=hE1.le
   have HLen:=hide hlen
   clear henc hlen hf hbt hbn hzk
   go_wp2_with (at_builtin;refine ze rfl (.tmp 6) (.tmp 11) rfl rfl hO1 rfl hb1 hfit hB1 ?_;intro v2 w2 hO2 hG2 hN2)
   go_roundw
   case rel =>
    refine⟨k+1,z / 128,pre++[bt],?_,by omega,by rw[HF.out];exact HZ.out,by omega,by simp[HLen.out],by rw[HF.out,List.append_assoc];exact HE.out,hO2,hO1.below hE1 hG2 hB1⟩
    rw[show ((z:Int) / 128)=((z / 128:Nat):Int) by omega]
   case measure=>simp[intOf];omega
theorem Ui {a b:Int}(h:a=b):Ending.returned (.int .u64 a)=.returned (.int .u64 b):=by rw[h]
set_option maxRecDepth 100000 in
theorem QE (d:Nat)(w:World)(hd:d<18446744073709551616):Calls Tryz.prog 68 #[.int .u64 d] w fun e w'=>e=.returned (.int .u64 (Num.zig d:Nat))∧w=w':=by
 by_cases h:(9223372036854775808:Int)≤(d:Int)
 ·have HZ:=hide (show 2*(18446744073709551615-(d:Int))+1=((Num.zig d:Nat):Int) by unfold Num.zig;rw[if_pos (by omega)];omega)
  have HD:=hide hd
  clear hd
  have hd':(d:Int)≤18446744073709551615:=by have:=HD.out;omega
  go_enter Tryz.func68,Tryz.ntmps68
  go_wp2
  go_ret
  exact⟨Ui HZ.out,rfl⟩
 ·have HZ:=hide (show 2*(d:Int)=((Num.zig d:Nat):Int) by unfold Num.zig;rw[if_neg (by omega)];omega)
  clear hd
  have h':(d:Int)≤9223372036854775807:=by omega
  have hge:decide ((9223372036854775808:Int)≤(d:Int))=false:=by simp;omega
  clear h
  go_enter Tryz.func68,Tryz.ntmps68
  go_wp2
  go_ret
  exact⟨Ui HZ.out,rfl⟩
end Go.Proofs.YtpmedpdjglcdpaaGreatDoor
namespace Go.Proofs.YtpmedpdjglcdpaaGreatDoor
open Go.RowKit
namespace Num
def fixErr (x:Nat)(n:Int):Int:=if 1≤n∧n≤8∧x<256 ^ n.toNat then 0 else 13
def fixBytes (x:Nat)(n:Int):List UInt8:=if 1≤n∧n≤8∧x<256 ^ n.toNat then fix n.toNat x else []
end Num
theorem xp {v:Value}{a b:Int}(h:a=b):Ending.returned (.tuple #[v,.int .i64 a])=.returned (.tuple #[v,.int .i64 b]):=by rw[h]
def zB (w:World)(l:List UInt8)(err:Int)(e:Ending)(w':World):Prop:=∃ v,e=.returned (.tuple #[v,.int .i64 err])∧OwnB w' w.heap.size v l∧Ext w w'
set_option maxHeartbeats 1000000 in
set_option maxRecDepth 100000 in
theorem Uj (x:Nat)(n:Int)(w:World)(hx:x<18446744073709551616):Calls Tryz.prog 22 #[.int .u64 x,.int .i64 n] w (zB w (Num.fixBytes x n) (Num.fixErr x n)):=by
 by_cases hr:1≤n∧n≤8
 ·obtain⟨h1,h8⟩:=hr
  obtain⟨k,rfl⟩:=Int.eq_ofNat_of_zero_le (show 0≤n by omega)
  go_enter Tryz.func22,Tryz.ntmps22
  go_wp2
  go_loopw [0,6,7] (fun y v i wr=>∃ j:Nat,j≤k∧i=.int .i64 (j:Int)∧y=.int .u64 ((x / 256 ^ j:Nat):Int)∧OwnB wr w.heap.size v (Num.fix j x)∧Ext w wr) (fun _ _ i _=>k-(intOf i).toNat)
  case atStart=>exact⟨0,by omega,rfl,by simp,OwnB.nil _ _,Ext.refl _⟩
  case round =>
   obtain⟨j,hj,rfl,rfl,hO,hE⟩:=hrel
   have hy:x / 256 ^ j≤18446744073709551615:=Nat.le_trans (Nat.div_le_self _ _) (by omega)
   by_cases hlt:j<k
   ·have HS:=hide (Num.fix_snoc j x)
    have HD:=hide (show ((x / 256 ^ j:Nat):Int) / 256=((x / 256 ^ (j+1):Nat):Int) by rw[Nat.pow_succ,← Nat.div_div_eq_div_mul];omega)
    have hlen:=Num.fix_len j x
    have hfit:(Num.fix j x).length+1≤140737488355328:=by omega
    generalize Num.fix j x=Fx at *
    generalize x / 256 ^ j=y at *
    obtain⟨bt,hbt⟩:∃ bt:UInt8,bt=UInt8.ofNat (y % 256):=⟨_,rfl⟩
    have hbn:bt.toNat=y % 256:=by rw[hbt];exact Num.ofNat_low _ (by omega)
    rw[← hbt]at HS
    have hbyte:((y:Int) % 256)=(bt.toNat:Int):=by omega
    have hbl:=bt.toNat_lt
    have hb1:=zr wr [bt] #[.int .u8 (bt.toNat:Int)] 5 (0,0) rfl 1 rfl
    have hO1:=hO.ext (zb wr (.cells #[.int .u8 (bt.toNat:Int)] 5))
    have hE1:=hE.trans (zb wr (.cells #[.int .u8 (bt.toNat:Int)] 5))
    have hB1:=hE1.le
    clear hlen hbt hbn
    go_wp2_with (at_builtin;refine ze rfl (.tmp 19) (.tmp 23) rfl rfl hO1 rfl hb1 hfit hB1 ?_;intro v2 w2 hO2 hG2 hN2)
    go_roundw
    case rel=>exact⟨j+1,by omega,by go_num,by rw[← HD.out],by rw[HS.out];exact hO2,hO1.below hE1 hG2 hB1⟩
    case measure=>simp[intOf];omega
   ·obtain rfl:j=k:=by omega
    have hpow:0<256 ^ j:=Nat.pow_pos (by decide)
    by_cases hz:x / 256 ^ j=0
    ·have hxl:x<256 ^ j:=by
      rcases Nat.div_eq_zero_iff.1 hz with h|h
      ·omega
      ·exact h
     have HB:=hide (show Num.fixErr x (j:Int)=0∧Num.fixBytes x (j:Int)=Num.fix j x by unfold Num.fixErr Num.fixBytes;rw[if_pos ⟨h1,h8,by simpa using hxl⟩,if_pos ⟨h1,h8,by simpa using hxl⟩];simp)
     have hz':(((x / 256 ^ j:Nat):Int) != 0)=false:=by rw[hz];rfl
     clear hz hxl hpow
     generalize x / 256 ^ j=y at *
     go_wp2
     go_ret2
     exact⟨_,xp HB.out.1.symm,by rw[HB.out.2];exact hO,hE⟩
    ·have hxl:¬ x<256 ^ j:=fun h=>hz (Nat.div_eq_of_lt h)
     have HB:=hide (show Num.fixErr x (j:Int)=13∧Num.fixBytes x (j:Int)=[] by unfold Num.fixErr Num.fixBytes;rw[if_neg (fun h=>hxl (by simpa using h.2.2)),if_neg (fun h=>hxl (by simpa using h.2.2))];simp)
     have hz':(((x / 256 ^ j:Nat):Int) != 0)=true:=by simpa using fun h=>hz (by exact_mod_cast h)
     clear hz hxl hpow
     generalize x / 256 ^ j=y at *
     go_wp2
     go_ret2
     exact⟨_,xp HB.out.1.symm,by rw[HB.out.2];exact OwnB.nil _ _,hE⟩
 ·have HB:=hide (show Num.fixErr x n=13∧Num.fixBytes x n=[] by unfold Num.fixErr Num.fixBytes;rw[if_neg (fun h=>hr ⟨h.1,h.2.1⟩),if_neg (fun h=>hr ⟨h.1,h.2.1⟩)];simp)
  by_cases h1:n<1
  ·clear hr
   go_enter Tryz.func22,Tryz.ntmps22
   go_wp2
   go_ret2
   exact⟨_,xp HB.out.1.symm,by rw[HB.out.2];exact OwnB.nil _ _,Ext.refl _⟩
  ·have h8:8<n:=by omega
   clear hr
   go_enter Tryz.func22,Tryz.ntmps22
   go_wp2
   go_ret2
   exact⟨_,xp HB.out.1.symm,by rw[HB.out.2];exact OwnB.nil _ _,Ext.refl _⟩
end Go.Proofs.YtpmedpdjglcdpaaGreatDoor
namespace Go.Proofs.YtpmedpdjglcdpaaGreatDoor
open Go.RowKit
theorem ZO {ops:Array Oper}{rest:List Oper}{o:Oper}{a:Act}{Q:Exit→Act→World→Prop}{w:World}(hgd:o.guard=none)(s x:Operand)(ho:o.op=.call { callee:=.builtin .append,args:=#[s,x],argTypes:=#[29,9] })
  {base:Nat} {v:Value} {l:List UInt8} (hs:a.eval s=v) (hown:OwnB w base v l) {b:ByteArray} (hx:a.eval x=.string b) (hlen:l.length+b.size≤140737488355328) (hbase:base≤w.heap.size)
  (h:∀ v' w',OwnB w' base v' (l++b.data.toList)→w.grownBy w' v.ownBlock→wpList Tryz.prog ops Q rest (a.put o.dst v') w'):wpList Tryz.prog ops Q (o::rest) a w:=by
 obtain⟨i,hi,hz,hsz,hby⟩:=info_parts yY
 refine Lib.wpList_append_own_string _ hgd s x 29 9 ho base 5 i Tryz.underlying29 Tryz.underlying9 hi hz hsz hby v l.length (l.map zY) hs hown b hx (by unfold maxLen;omega) (by omega) hbase ?_
 intro v' w' h2 h3 _
 refine h v' w' ?_ h3
 unfold OwnB
 rw[List.length_append,List.map_append]
 exact h2
theorem ZP (s:ByteArray)(w:World)(hs:s.size≤1000000):Calls Tryz.prog 90 #[.string s] w (zt w (Num.enc s.size++s.data.toList)):=by
 have hw:IntKind.u64.wrap (s.size:Int)=(s.size:Int):=by rw[IntKind.wrap_u64];omega
 have hl:=Num.enc_len s.size
 have hfit:(Num.enc s.size).length+s.size≤140737488355328:=by omega
 have CN:=zx s.size w (by omega)
 generalize Num.enc s.size=E at *
 go_enter Tryz.func90,Tryz.ntmps90
 go_wp2_with (first
  | (go_at_call 20;refine CN.mono ?_;rintro e w2 ⟨v2,rfl,hO2,hE2⟩)
  | (at_builtin;refine ZO rfl (.tmp 6) (.tmp 7) rfl rfl hO2 rfl hfit hE2.le ?_;intro v3 w3 hO3 hG3))
 go_ret
 exact⟨v3,rfl,hO3,hO2.below hE2 hG3 hE2.le⟩
end Go.Proofs.YtpmedpdjglcdpaaGreatDoor
namespace Go.Proofs.YtpmedpdjglcdpaaGreatDoor
open Go.RowKit
def Ap (x y:Value):Prop:=∀ k,x.ownBlock=some k→y.ownBlock≠some k
theorem Ap.symm {x y:Value}(h:Ap x y):Ap y x:=fun k hk e=>h k e hk
theorem Ap.nil (y:Value):Ap y (.slice none 0 0):=fun k _ e=>by simp[Value.ownBlock]at e
theorem OwnB.grown {w w':World}{base:Nat}{v u:Value}{l:List UInt8}(h:OwnB w base v l)(hg:w.grownBy w' u.ownBlock)(ha:Ap v u):OwnB w' base v l :=
 World.ownsRow.kept h hg (by
  cases hv:v.ownBlock with
  | none=>exact .inl rfl
  | some k=>exact .inr (fun e=>ha k hv e.symm))
def Three (w:World)(base:Nat)(u:Value)(U:List UInt8)(v:Value)(V:List UInt8)(x:Value)(X:List UInt8):Prop :=
 OwnB w base u U∧OwnB w base v V∧OwnB w base x X∧Ap u v∧Ap u x∧Ap v x
theorem Three.ext {w w':World}{base:Nat}{u v x:Value}{U V X:List UInt8}(h:Three w base u U v V x X)(hE:Ext w w'):Three w' base u U v V x X :=
 ⟨h.1.ext hE,h.2.1.ext hE,h.2.2.1.ext hE,h.2.2.2⟩
theorem Three.flip {w:World}{base:Nat}{u v x:Value}{U V X:List UInt8}(h:Three w base u U v V x X):Three w base v V u U x X :=
 ⟨h.2.1,h.1,h.2.2.1,h.2.2.2.1.symm,h.2.2.2.2.2,h.2.2.2.2.1⟩
theorem Three.turn {w:World}{base:Nat}{u v x:Value}{U V X:List UInt8}(h:Three w base u U v V x X):Three w base x X u U v V :=
 ⟨h.2.2.1,h.1,h.2.1,h.2.2.2.2.1.symm,h.2.2.2.2.2.symm,h.2.2.2.1⟩
theorem Three.grow {w w':World}{base:Nat}{u u' v x:Value}{U U' V X:List UInt8}(h:Three w base u U v V x X)(h1:OwnB w' base u' U')(hG:w.grownBy w' u.ownBlock)(hN:NewOb w u.ownBlock u'.ownBlock):Three w' base u' U' v V x X:=by
 have new:∀ {y:Value} {Y:List UInt8},OwnB w base y Y→Ap u y→Ap u' y:=fun {y Y} hy ha k hk e=>by
  rcases hN with h | ⟨g,h,hg⟩
  ·exact ha k (h ▸ hk) e
  ·rw[hk]at h
   injection h with h
   have:=(hy.lt k e).2
   omega
 exact⟨h1,h.2.1.grown hG h.2.2.2.1.symm,h.2.2.1.grown hG h.2.2.2.2.1.symm,new h.2.1 h.2.2.2.1,new h.2.2.1 h.2.2.2.2.1,h.2.2.2.2.2⟩
theorem Three.fresh {w w':World}{base:Nat}{u v y x:Value}{U V Y X:List UInt8}(h:Three w base u U v V y Y)(hE:Ext w w')(hx:OwnB w' w.heap.size x X)(hb:base≤w.heap.size):Three w' base u U v V x X:=by
 have new:∀ {y:Value} {Y:List UInt8},OwnB w base y Y→Ap y x:=fun {y Y} hy k hk e=>by
  have h1:=(hy.lt k hk).2
  have h2:=(hx.lt k e).1
  omega
 exact⟨h.1.ext hE,h.2.1.ext hE,hx.mono hb,h.2.2.2.1,new h.1,new h.2.1⟩
theorem Three.drop {w:World}{base:Nat}{u v y:Value}{U V Y:List UInt8}(h:Three w base u U v V y Y):Three w base u U v V (.slice none 0 0) [] :=
 ⟨h.1,h.2.1,OwnB.nil _ _,h.2.2.2.1,Ap.nil _,Ap.nil _⟩
theorem OwnB.bytesOf {w:World}{base n c:Nat}{A:Option Addr}{l:List UInt8}(h:OwnB w base (.slice A n c) l):Bytes w w.heap.size A n l:=by
 obtain⟨A1,c1,hv,_,_,hb⟩:=h.form
 simp only[Value.slice.injEq]at hv
 obtain⟨rfl,rfl,rfl⟩:=hv
 exact hb
end Go.Proofs.YtpmedpdjglcdpaaGreatDoor
namespace Go.Proofs.YtpmedpdjglcdpaaGreatDoor
open Go.RowKit
theorem zH {fn:Func}{p u:Tmp}{ty:TypeId}(h:fn.results=#[.cell p ty,.tmp u])(tmps:Array Value){w:World}{g:Nat}{cs:Array Value}{x:Value}(hp:tmps.getD p undef=.pointer (some ⟨g,0,none⟩))(hx:tmps.getD u undef=x)
  (hl:(loadVar ty ⟨g,0,none⟩).run Tryz.prog w=.ok (.agg cs) w):(results fn tmps).run Tryz.prog w=.ok (.tuple #[.agg cs,x]) w:=by
 rw[results_cell_tmp h,hp,hx]
 simp[asAddr,Result.andThen,hl]
end Go.Proofs.YtpmedpdjglcdpaaGreatDoor
namespace Go.Proofs.YtpmedpdjglcdpaaGreatDoor
open Go.RowKit
theorem acu {w:World}(ty:TypeId){base:Nat}{v:Value}{L:List Int}(hown:OwnI w base v L){gx c:Nat}{p:Int}(hc:w.cell? ⟨gx,0,none⟩=some (.int .i64 p))(hlen:L.length≤1000000)(hbase:base≤w.heap.size) :
  ∃ v' w',(Builtin.append_ #[48,48] ty #[v,.slice (some ⟨gx,0,none⟩) 1 c]).run Tryz.prog w=.ok v' w'∧OwnI w' base v' (L++[p])∧w.grownBy w' v.ownBlock∧NewOb w v.ownBlock v'.ownBlock:=by
 obtain⟨i,hi,hz,hs,hby⟩:=info_parts Yz
 obtain⟨v',w',hr,h2,h3,_,h5⟩:=run_append_own_at (P:=Tryz.prog) w base 48 ty 3 i _ 1 8 Tryz.underlying48 hi hz hs hby rfl (by omega) v L.length (L.map (Value.int .i64)) hown
  ⟨gx,0,none⟩ 1 c [.int .i64 p] rfl (by
   intro j u hu
   match j,hu with
   | 0,hu =>
    have:(⟨gx,0,none⟩:Addr).add 0=⟨gx,0,none⟩:=rfl
    rw[this,hc]
    simpa using hu
   | j+1,hu=>simp at hu) (by
   intro u hu
   simp at hu
   subst hu
   rfl) (by unfold maxLen;omega) (by omega) hbase
 refine⟨v',w',hr,?_,h3,h5.imp id fun h=>⟨_,h,Nat.le_refl _⟩⟩
 unfold OwnI
 rw[List.length_append,List.map_append]
 exact h2
theorem vG {o:Oper}{a:Act}{K:Act→World→Prop}{Q:Exit→Act→World→Prop}{w:World}{base:Nat}{v:Value}{L:List Int}(s x:Operand)(ho:o.op=.call { callee:=.builtin .append,args:=#[s,x],argTypes:=#[48,48] })(hs:a.eval s=v)
  (hown:OwnI w base v L) {gx c:Nat} (hx:a.eval x=.slice (some ⟨gx,0,none⟩) 1 c) {p:Int} (hc:w.cell? ⟨gx,0,none⟩=some (.int .i64 p)) (hlen:L.length≤1000000) (hbase:base≤w.heap.size)
  (h:∀ v' w',OwnI w' base v' (L++[p])→w.grownBy w' v.ownBlock→NewOb w v.ownBlock v'.ownBlock→K (a.put o.dst v') w'):Oper.wp Tryz.prog o a w K Q:=by
 obtain⟨v',w',hr,h2,h3,h4⟩:=acu (c:=c) o.type hown hc hlen hbase
 unfold Oper.wp execOp
 simp only[ho,resolve,invoke,builtin,Sem.run_bind,Sem.run_pure,Result.andThen_ok,List.map_toArray,List.map_cons,List.map_nil,hs,hx,hr]
 exact h v' w' h2 h3 h4
theorem qy {ops:Array Oper}{rest:List Oper}{o:Oper}{a:Act}{Q:Exit→Act→World→Prop}{w:World}{base:Nat}{v:Value}{L:List Int}(hgd:o.guard=none)(s x:Operand)(ho:o.op=.call { callee:=.builtin .append,args:=#[s,x],argTypes:=#[48,48] })(hs:a.eval s=v)
  (hown:OwnI w base v L) {gx c:Nat} (hx:a.eval x=.slice (some ⟨gx,0,none⟩) 1 c) {p:Int} (hc:w.cell? ⟨gx,0,none⟩=some (.int .i64 p)) (hlen:L.length≤1000000) (hbase:base≤w.heap.size)
  (h:∀ v' w',OwnI w' base v' (L++[p])→w.grownBy w' v.ownBlock→NewOb w v.ownBlock v'.ownBlock→wpList Tryz.prog ops Q rest (a.put o.dst v') w'):wpList Tryz.prog ops Q (o::rest) a w :=
 wpList_plain hgd fun _ hK=>vG s x ho hs hown hx hc hlen hbase fun v' w' h1 h2 h3=>hK _ _ (h v' w' h1 h2 h3)
theorem OwnI.at {w:World}{base n c:Nat}{A:Option Addr}{L:List Int}(h:OwnI w base (.slice A n c) L):IntsAt w w.heap.size A L.length L:=by
 obtain⟨B,d,e,_,h1⟩:=h.form
 injection e with e1 e2 e3
 rw[e1]
 exact h1
structure TwoI (w:World)(base:Nat)(v1 v2:Value)(L H:List Int):Prop where
 one:OwnI w base v1 L
 two:OwnI w base v2 H
 apart:v1.ownBlock=none∨v1.ownBlock≠v2.ownBlock
section
variable {w w':World}{base:Nat}{v1 v2 v':Value}{L H L' H':List Int}
theorem TwoI.nil (w:World)(base:Nat):TwoI w base (.slice none 0 0) (.slice none 0 0) [] []:=⟨OwnI.nil _ _,OwnI.nil _ _,.inl rfl⟩
theorem TwoI.ext (h:TwoI w base v1 v2 L H)(hE:Ext w w'):TwoI w' base v1 v2 L H:=⟨h.one.ext hE,h.two.ext hE,h.apart⟩
theorem TwoI.flip (h:TwoI w base v1 v2 L H):TwoI w base v2 v1 H L:=by
 refine⟨h.two,h.one,?_⟩
 cases hv:v2.ownBlock with
 | none=>exact .inl rfl
 | some k =>
  refine .inr fun e=>?_
  rcases h.apart with h1|h1
  ·rw[h1]at e;cases e
  ·exact h1 (by rw[hv];exact e.symm)
theorem TwoI.grow (h:TwoI w base v1 v2 L H)(hO:OwnI w' base v' L')(hG:w.grownBy w' v1.ownBlock)(hN:NewOb w v1.ownBlock v'.ownBlock):TwoI w' base v' v2 L' H:=by
 have hf:=h.flip
 refine⟨hO,World.ownsRow.kept h.two hG ?_,?_⟩
 ·exact hf.apart
 ·rcases hN with e | ⟨n,e,hn⟩
  ·rw[e];exact h.apart
  ·refine .inr fun e2=>?_
   rw[e]at e2
   have:=h.two.lt n e2.symm
   omega
theorem TwoI.below {g:Nat}(h:TwoI w base v1 v2 L H)(hG:w.grownBy w' (some g))(hg:g<base):TwoI w' base v1 v2 L H:=by
 refine⟨World.ownsRow.kept h.one hG ?_,World.ownsRow.kept h.two hG ?_,h.apart⟩
 ·cases hv:v1.ownBlock with
  | none=>simp
  | some k=>have:=h.one.lt k hv;simp;omega
 ·cases hv:v2.ownBlock with
  | none=>simp
  | some k=>have:=h.two.lt k hv;simp;omega
theorem TwoI.ne1 (h:TwoI w base v1 v2 L H){g:Nat}(hg:g<base):v1.ownBlock≠some g:=fun e=>by have:=h.one.lt g e;omega
theorem TwoI.ne2 (h:TwoI w base v1 v2 L H){g:Nat}(hg:g<base):v2.ownBlock≠some g:=fun e=>by have:=h.two.lt g e;omega
end
end Go.Proofs.YtpmedpdjglcdpaaGreatDoor
namespace Go.Proofs.YtpmedpdjglcdpaaGreatDoor
open Go.RowKit
theorem xH (W:World)(l:List UInt8)(k:IntKind)(i:Int)(h0:0≤i)(h1:i≤l.length):(Instr.slice 9 (.string ⟨l.toArray⟩) none (some (.int k i)) none).run Tryz.prog W=.ok (.string ⟨(l.take i.toNat).toArray⟩) W:=by
 rw[run_slice_string_h (P:=Tryz.prog) W 9 _ Tryz.underlying9 k i h0 (by rw[ye];exact h1)]
 congr 2
 apply ByteArray.ext
 rw[ByteArray.data_extract]
 show l.toArray.extract 0 i.toNat=(l.take i.toNat).toArray
 rw[List.extract_toArray,List.extract_eq_take_drop]
 simp
end Go.Proofs.YtpmedpdjglcdpaaGreatDoor
namespace Go.Proofs.YtpmedpdjglcdpaaGreatDoor
open Go.RowKit
theorem YT {o:Oper}{a:Act}{Q:Exit→Act→World→Prop}{w:World}{base:Nat}{v:Value}{l:List UInt8}{ops:Array Oper}{rest:List Oper}(hgd:o.guard=none)(s x:Operand)(ho:o.op=.call { callee:=.builtin .append,args:=#[s,x],argTypes:=#[29,3] })(hs:a.eval s=v)(hown:OwnB w base v l)
  (n:Nat) (hx:a.eval x=.int .i64 n) (hlen:l.length+n≤140737488355328) (hbase:base≤w.heap.size)
  (h:∀ v' w',OwnB w' base v' (l++List.replicate n 0)→w.grownBy w' v.ownBlock→NewOb w v.ownBlock v'.ownBlock→wpList Tryz.prog ops Q rest (a.put o.dst v') w'):wpList Tryz.prog ops Q (o::rest) a w :=
 wpList_plain hgd fun _ hK=>YS s x ho hs hown n hx hlen hbase fun v' w' h2 h3 h4=>hK _ _ (h v' w' h2 h3 h4)
theorem OwnB.cut0 {w:World}{base g n c:Nat}{l:List UInt8}(h:OwnB w base (.slice (some ⟨g,0,none⟩) n c) l):OwnB w base (.slice (some ⟨g,0,none⟩) 0 c) []:=by
 refine⟨rfl,?_⟩
 rcases h.2 with ⟨h0,_⟩ | ⟨x,cap,cur,hv,hb,hx,hn,hm,hs,_⟩
 ·cases h0
 ·simp only[Value.slice.injEq,Option.some.injEq,Addr.mk.injEq,and_true]at hv
  obtain⟨rfl,_,rfl⟩:=hv
  exact .inr ⟨g,c,cur,rfl,hb,hx,by simp,hm,hs,by simp⟩
set_option maxHeartbeats 1000000 in
set_option maxRecDepth 100000 in
theorem ZQ (n:Nat)(w:World)(hn:n≤1000000000):Calls Tryz.prog 58 #[.slice none 0 0,.int .i64 (n:Int)] w (zt w []):=by
 have hnil:=OwnB.nil w w.heap.size
 have hfit:([]:List UInt8).length+n≤140737488355328:=by simp;omega
 by_cases h0:n=0
 ·subst h0
  go_enter Tryz.func58,Tryz.ntmps58
  go_wp2
  go_ret
  exact⟨_,rfl,hnil,Ext.refl _⟩
 ·have h1:(0:Int)<(n:Int):=by omega
  have h2:¬ ((n:Int)<0):=by omega
  clear h0
  go_enter Tryz.func58,Tryz.ntmps58
  go_wp2_with (at_builtin;refine YT rfl (.tmp 20) (.tmp 21) rfl rfl hnil n rfl hfit (Nat.le_refl _) ?_;intro v2 w2 hO2 hG2 hN2;rw[List.nil_append]at hO2;obtain⟨g,c,hv2,hg,hc⟩:=hO2.formG (by simp;omega);rw[List.length_replicate]at hv2 hc;subst hv2;have i1:(0:Int)≤(c:Int):=by omega)
  go_ret
  exact⟨_,rfl,hO2.cut0,(Ext.refl w).grown' hG2⟩
theorem Zo (ls:List (List UInt8))(i:Nat)(h:i<ls.length):(ls.take (i+1)).flatten=(ls.take i).flatten++ls.getD i []:=by
 rw[List.take_succ_eq_append_getElem h,List.flatten_append,List.getD_eq_getElem?_getD,List.getElem?_eq_getElem h]
 simp
theorem uq (ls:List (List UInt8))(i:Nat):(ls.take i).flatten.length≤ls.flatten.length:=by
 conv=>rhs;rw[← List.take_append_drop i ls,List.flatten_append,List.length_append]
 omega
set_option maxHeartbeats 2000000 in
set_option maxRecDepth 100000 in
theorem QF (A:Option Addr)(c:Nat)(ls:List (List UInt8))(w:World)(hb:Parts w w.heap.size A ls.length ls)(hm:ls.length≤1000000000)(htot:ls.flatten.length≤1000000000) :
  Calls Tryz.prog 35 #[.slice A ls.length c] w (zt w ls.flatten):=by
 obtain⟨_,hb⟩:=hb
 rcases hb with h0 | ⟨blk,off,rfl,hB,hcs⟩
 ·obtain rfl:=List.eq_nil_of_length_eq_zero h0
  have C:=ZQ 0 w (by omega)
  go_enter Tryz.func35,Tryz.ntmps35
  go_wp2
  go_loop [3,11] (fun s i=>s=.int .i64 0∧i=.int .i64 0) (fun _ _=>0)
  case atStart=>exact⟨rfl,rfl⟩
  case round =>
   obtain⟨rfl,rfl⟩:=hrel
   go_wp2_with fail
   refine C.mono ?_
   rintro e w2 ⟨v2,rfl,hO2,hE2⟩
   go_wp2
   go_loopw [6,27] (fun v i wr=>i=.int .i64 0∧OwnB wr w.heap.size v []∧Ext w wr) (fun _ _ _=>0)
   case atStart=>exact⟨rfl,hO2,hE2⟩
   case round =>
    obtain⟨rfl,hO3,hE3⟩:=hrel
    go_wp2
    go_ret
    exact⟨_,rfl,hO3,hE3⟩
 ·obtain⟨T,hT⟩:∃ T,T=ls.flatten.length:=⟨_,rfl⟩
  have CG:=fun W=>ZQ T W (by omega)
  have HC:=hide hcs
  have HT:=hide htot
  have HTe:=hide hT
  clear hT htot
  clear hcs
  go_enter Tryz.func35,Tryz.ntmps35
  go_wp2
  go_loop [3,11] (fun s i=>∃ j:Nat,j≤ls.length∧i=.int .i64 (j:Int)∧s=.int .i64 (((ls.take j).flatten.length:Nat):Int)) (fun _ i=>ls.length-(intOf i).toNat)
  case atStart=>exact⟨0,by omega,rfl,by simp⟩
  case round =>
   obtain⟨j,hj,rfl,rfl⟩:=hrel
   by_cases hlt:j<ls.length
   ·obtain⟨A',n',c',hc1,_,hb1⟩:=HC.out j hlt
    have hf:=Zo ls j hlt
    have hle:=uq ls (j+1)
    have hn':=hb1.1
    rw[hf,List.length_append,hn']at hle
    have ht:=HT.out
    have HF:=hide hf
    obtain⟨s,hs⟩:∃ s,s=(ls.take j).flatten.length:=⟨_,rfl⟩
    rw[← hs]at hle ⊢
    have hw:IntKind.i64.wrap ((s:Int)+(n':Int))=((s+n':Nat):Int):=by rw[IntKind.wrap_i64];omega
    have hpos:¬ (((s+n':Nat):Int)<0):=by omega
    have HS:=hide hs
    have HN:=hide hn'
    clear hf hb1 hs hn' ht
    go_wp2
    go_round
    case rel=>exact⟨j+1,by omega,by go_num,by rw[HF.out,List.length_append,HN.out,← HS.out];go_num⟩
    case measure=>simp[intOf];omega
   ·obtain rfl:j=ls.length:=by omega
    rw[List.take_length,← HTe.out]
    go_wp2_with fail
    refine (CG _).mono ?_
    rintro e w2 ⟨v2,rfl,hO2,hE2⟩
    go_wp2
    go_loopw [6,27] (fun v i wr=>∃ j:Nat,j≤ls.length∧i=.int .i64 (j:Int)∧OwnB wr w.heap.size v (ls.take j).flatten∧Ext w wr) (fun _ i _=>ls.length-(intOf i).toNat)
    case atStart=>exact⟨0,by omega,rfl,by simpa using hO2,hE2⟩
    case round =>
     obtain⟨j,hj,rfl,hO3,hE3⟩:=hrel
     by_cases hlt:j<ls.length
     ·obtain⟨A',n',c',hc1,_,hb1⟩:=HC.out j hlt
      have hc2:=(hE3.cell (i:=off+j) hB).trans hc1
      have hb2:=hE3.bytes hb1
      have hf:=Zo ls j hlt
      have hle:=uq ls (j+1)
      rw[hf,List.length_append,hb1.1]at hle
      have HF:=hide hf
      have hfit:(ls.take j).flatten.length+n'≤140737488355328:=by have:=HT.out;omega
      have hB3:=hE3.le
      clear hf hb1 hle hc1
      go_wp2_with (at_builtin;refine ze rfl (.tmp 31) (.tmp 32) rfl rfl hO3 rfl hb2 hfit hB3 ?_;intro v4 w4 hO4 hG4 _)
      go_roundw
      case rel=>exact⟨j+1,by omega,by go_num,by rw[HF.out];exact hO4,hO3.below hE3 hG4 hB3⟩
      case measure=>simp[intOf];omega
     ·obtain rfl:j=ls.length:=by omega
      rw[List.take_length]at hO3
      go_wp2
      go_ret
      exact⟨_,rfl,hO3,hE3⟩
theorem yS (A:Option Addr)(c:Nat)(ls:List (List UInt8))(w:World)(hb:Parts w w.heap.size A ls.length ls)(hm:ls.length≤1000000000)(htot:ls.flatten.length≤1000000000) :
  Calls Tryz.prog 16 #[.slice A ls.length c] w (zt w ls.flatten):=by
 have C:=QF A c ls w hb hm htot
 clear hb
 go_enter Tryz.func16,Tryz.ntmps16
 go_wp2_with fail
 refine C.mono ?_
 rintro e w2 ⟨v2,rfl,hO2,hE2⟩
 go_wp2
 go_ret
 exact⟨_,rfl,hO2,hE2⟩
end Go.Proofs.YtpmedpdjglcdpaaGreatDoor
namespace Go.Proofs.YtpmedpdjglcdpaaGreatDoor.Can
open Len
def done (l:List UInt8)(k s t:Nat):Prop:=zg l t≠0∧(zg l t<k∨zg l t=k∧t<s)
structure Words (l:List UInt8)(k s nx was:Nat)(any:Bool)(O:List Nat):Prop where
 len:O.length=l.length
 told:∀ t,t<l.length→done l k s t→O.getD t 0=word l t
 none:∀ t,t<l.length→¬ done l k s t→O.getD t 0=0
 no:any=false→acc l k s=0∧nx=0
 yes:any=true→(nx+1)*2 ^ (15-was)=acc l k s∧1≤was∧was≤k
section
variable {l:List UInt8}{k s nx was:Nat}{any:Bool}{O:List Nat}
theorem Words.start:Words l 1 0 0 0 false (List.replicate l.length 0) where
 len:=by simp
 told:=fun t _ h=>by unfold done at h;omega
 none:=fun t ht _=>by simp[List.getD_eq_getElem?_getD,ht]
 no:=fun _=>⟨Zk l,rfl⟩
 yes:=fun h=>by cases h
theorem Words.turn (h:Words l k l.length nx was any O):Words l (k+1) 0 nx was any O where
 len:=h.len
 told:=fun t ht hd=>h.told t ht (by unfold done at *;omega)
 none:=fun t ht hd=>h.none t ht (by unfold done at *;omega)
 no:=fun e=>by rw[qq];exact h.no e
 yes:=fun e=>by rw[qq];have:=h.yes e;exact⟨this.1,this.2.1,by omega⟩
theorem Words.pass (h:Words l k s nx was any O)(hk:1≤k)(hs:s<l.length)(hne:zg l s≠k):Words l k (s+1) nx was any O where
 len:=h.len
 told:=fun t ht hd=>h.told t ht (by
  unfold done at *
  refine⟨hd.1,?_⟩
  rcases hd.2 with e|e
  ·exact .inl e
  ·by_cases e2:t=s
   ·subst e2;omega
   ·exact .inr ⟨e.1,by omega⟩)
 none:=fun t ht hd=>h.none t ht (by unfold done at *;omega)
 no:=fun e=>by rw[xu l hk hs,if_neg hne];exact h.no e
 yes:=fun e=>by rw[xu l hk hs,if_neg hne];exact h.yes e
def jD (any:Bool)(nx was k:Nat):Nat:=if any then (nx+1)*2 ^ (k-was) else nx
theorem Words.next (h:Words l k s nx was any O)(hk:1≤k)(hk15:k≤15)(hs:zg l s=k):jD any nx was k=word l s∧jD any nx was k*2 ^ (15-k)=acc l k s:=by
 have h1:jD any nx was k*2 ^ (15-k)=acc l k s:=by
  unfold jD
  cases any with
  | false =>
   obtain⟨h2,h3⟩:=h.no rfl
   rw[h2,h3]
   simp
  | true =>
   obtain⟨h2,h3,h4⟩:=h.yes rfl
   rw[if_pos rfl,← h2,Nat.mul_assoc,← Nat.pow_add,show k-was+(15-k)=15-was by omega]
 refine⟨?_,h1⟩
 unfold word
 rw[if_neg (by omega),hs,← h1,Nat.mul_div_cancel _ (Nat.pow_pos (by omega))]
theorem Words.put (h:Words l k s nx was any O)(hk:1≤k)(hk15:k≤15)(hls:s<l.length)(hs:zg l s=k):Words l k (s+1) (jD any nx was k) k true (O.set s (jD any nx was k)):=by
 obtain⟨h1,h2⟩:=h.next hk hk15 hs
 refine⟨by rw[List.length_set,h.len],fun t ht hd=>?_,fun t ht hd=>?_,(fun e=>by cases e),fun _=>⟨?_,hk,Nat.le_refl _⟩⟩
 ·by_cases e:s=t
  ·subst e
   rw[List.getD_eq_getElem?_getD,List.getElem?_set_self (by rw[h.len];exact ht),Option.getD_some,h1]
  ·rw[List.getD_eq_getElem?_getD,List.getElem?_set_ne e,← List.getD_eq_getElem?_getD]
   exact h.told t ht (by unfold done at *;omega)
 ·have e:s≠t:=fun e=>hd (by subst e;unfold done;omega)
  rw[List.getD_eq_getElem?_getD,List.getElem?_set_ne e,← List.getD_eq_getElem?_getD]
  exact h.none t ht (by unfold done at *;omega)
 ·rw[xu l hk hls,if_pos hs,Nat.add_mul,h2,Nat.one_mul]
theorem Words.small (h:Words l k s nx was any O)(hr:right l=true):nx<32768:=by
 cases any with
 | false=>rw[(h.no rfl).2];decide
 | true =>
  have h1:=(h.yes rfl).1
  have h2:=Zl l k s
  have h3:=(zD hr).2.2
  have h4:0<2 ^ (15-was):=Nat.pow_pos (by omega)
  have h5:(nx+1)*1≤(nx+1)*2 ^ (15-was):=Nat.mul_le_mul_left _ h4
  omega
theorem Words.all (h:Words l 16 0 nx was any O)(hr:right l=true):O=zW l:=by
 have h15:=(zD hr).2.1
 refine List.ext_getElem (by rw[h.len];simp[zW]) fun t h1 h2=>?_
 have ht:t<l.length:=by rw[← h.len];exact h1
 have e1:(zW l)[t]=word l t:=by simp[zW]
 rw[e1]
 have e2:O[t]=O.getD t 0:=by rw[List.getD_eq_getElem?_getD,List.getElem?_eq_getElem h1];rfl
 rw[e2]
 by_cases h0:zg l t=0
 ·rw[h.none t ht (by unfold done;omega)]
  unfold word
  rw[if_pos h0]
 ·exact h.told t ht (by have:=h15 t ht;unfold done;omega)
end
end Go.Proofs.YtpmedpdjglcdpaaGreatDoor.Can
namespace Go.Proofs.YtpmedpdjglcdpaaGreatDoor
open Go.RowKit
def Yc (x:Nat):Value:=.int .u16 (x:Int)
def OwnH (w:World)(base:Nat)(v:Value)(L:List Nat):Prop:=w.ownsRow base 191 1 v L.length (L.map Yc)
theorem YU:(Tryz.prog.info? 191).map (fun i=>(i.zero,i.size,i.bytes))=some (some (.int .u16 0),1,2):=by kernel_rfl
section
variable {w w':World}{base g n c:Nat}{v:Value}{L:List Nat}
theorem OwnH.nil (w:World)(base:Nat):OwnH w base (.slice none 0 0) []:=World.ownsRow_nil w base _ _
theorem OwnH.ext (h:OwnH w base v L)(hE:Ext w w'):OwnH w' base v L:=World.ownsRow.kept h (hE.grown none) (by cases hv:v.ownBlock<;>simp)
theorem OwnH.lt (h:OwnH w base v L):∀ k,v.ownBlock=some k→base≤k∧k<w.heap.size:=World.ownsRow.lt h
theorem OwnH.mono {b':Nat}(h:OwnH w base v L)(hb:b'≤base):OwnH w b' v L:=⟨h.1,h.2.imp_right fun ⟨g,cap,cur,e,hg,r⟩=>⟨g,cap,cur,e,Nat.le_trans hb hg,r⟩⟩
theorem OwnH.form (h:OwnH w base v L):∃ A c,v=.slice A L.length c∧L.length≤c∧c≤maxLen∧(L.length=0∨∃ g,A=some ⟨g,0,none⟩∧base≤g∧g<w.heap.size):=by
 rcases h.2 with ⟨rfl,h0⟩ | ⟨g,cap,cur,rfl,hb,hg,hn,hc,hs,ht⟩
 ·exact⟨none,0,by rw[h0],by omega,by unfold maxLen;omega,.inl h0⟩
 ·exact⟨_,cap,rfl,hn,hc,.inr ⟨g,rfl,hb,(Array.getElem?_eq_some_iff.1 hg).1⟩⟩
theorem OwnH.cell (h:OwnH w base (.slice (some ⟨g,0,none⟩) L.length c) L){i:Nat}(hi:i<L.length) :
  w.cell? ⟨g,i,none⟩=some (.int .u16 ((L.getD i 0:Nat):Int))∧w.frozen? ⟨g,i,none⟩=false:=by
 refine⟨?_,World.ownsRow.frozenAt h i⟩
 rw[World.ownsRow.cellAt h i (by omega)]
 simp[Yc,hi]
theorem OwnH.set (h:OwnH w base (.slice (some ⟨g,0,none⟩) L.length c) L)(i x:Nat) :
  OwnH (w.setCell ⟨g,i,none⟩ (.int .u16 (x:Int))) base (.slice (some ⟨g,0,none⟩) L.length c) (L.set i x):=by
 have:=(World.ownsRow.stored h i (.int .u16 (x:Int))).1
 unfold OwnH
 rw[List.length_set,List.map_set]
 exact this
end
section
variable {o:Oper}{a:Act}{Q:Exit→Act→World→Prop}{w:World}{base:Nat}{v:Value}{L:List Nat}
theorem Jq {ops:Array Oper}{rest:List Oper}(hgd:o.guard=none)(s x:Operand)(ho:o.op=.call { callee:=.builtin .append,args:=#[s,x],argTypes:=#[147,147] })(hs:a.eval s=v)(p:Nat)
  (hown:OwnH (w.alloc (.cells #[.int .u16 (p:Int)] 191)) base v L) {c:Nat} (hx:a.eval x=.slice (some ⟨w.heap.size,0,none⟩) 1 c) (hlen:L.length≤1000) (hbase:base≤w.heap.size)
  (h:∀ v' w',OwnH w' base v' (L++[p])→(w.alloc (.cells #[.int .u16 (p:Int)] 191)).grownBy w' v.ownBlock→wpList Tryz.prog ops Q rest (a.put o.dst v') w') :
  wpList Tryz.prog ops Q (o::rest) a (w.alloc (.cells #[.int .u16 (p:Int)] 191)):=by
 obtain⟨i,hi,hz,hsz,hby⟩:=info_parts YU
 refine wpList_append_own_at _ hgd s x 147 ho base 191 i _ 1 2 Tryz.underlying147 hi hz hsz hby rfl (by omega) v L.length (L.map Yc) hs hown ⟨w.heap.size,0,none⟩ 1 c [.int .u16 (p:Int)] hx rfl (by
  intro j u hu
  match j,hu with
  | 0,hu =>
   have:(⟨w.heap.size,0,none⟩:Addr).add 0=⟨w.heap.size,0,none⟩:=rfl
   rw[this,zA]
   simpa using hu
  | j+1,hu=>simp at hu) (by
  intro u hu
  simp at hu
  subst hu
  rfl) (by unfold maxLen;omega) (by omega) (by simp;omega) ?_
 intro v' w' h2 h3 _ h5
 refine h v' w' ?_ h3
 unfold OwnH
 rw[List.length_append,List.map_append]
 exact h2
end
end Go.Proofs.YtpmedpdjglcdpaaGreatDoor
namespace Go.Proofs.YtpmedpdjglcdpaaGreatDoor
open Go.RowKit
def aee (w:World)(B:Nat)(A:Option Addr)(n:Nat)(L:List Int):Prop :=
 L.length=n∧(n=0∨∃ b off,A=some ⟨b,off,none⟩∧b<B∧∀ i,i<n→w.cell? ⟨b,off+i,none⟩=some (.int .i64 (L.getD i 0)))
def OwnL (w:World)(base:Nat)(v:Value)(L:List Int):Prop:=w.ownsRow base 3 1 v L.length (L.map (Value.int .i64))
theorem aa9:(Tryz.prog.info? 3).map (fun i=>(i.zero,i.size,i.bytes))=some (some (.int .i64 0),1,8):=by kernel_rfl
theorem OwnL.nil (w:World)(base:Nat):OwnL w base (.slice none 0 0) []:=World.ownsRow_nil w base _ _
theorem OwnL.ext {w w':World}{base:Nat}{v:Value}{L:List Int}(h:OwnL w base v L)(hE:Ext w w'):OwnL w' base v L :=
 World.ownsRow.kept h (hE.grown none) (by cases hv:v.ownBlock<;>simp)
theorem OwnL.lt {w:World}{base:Nat}{v:Value}{L:List Int}(h:OwnL w base v L):∀ k,v.ownBlock=some k→base≤k∧k<w.heap.size:=World.ownsRow.lt h
theorem OwnL.form {w:World}{base:Nat}{v:Value}{L:List Int}(h:OwnL w base v L):∃ A c,v=.slice A L.length c∧L.length≤c∧aee w w.heap.size A L.length L:=by
 have hl:=h.lt
 rcases h.2 with ⟨rfl,h0⟩ | ⟨g,cap,cur,rfl,hb,hg,hn,hc,hs,ht⟩
 ·exact⟨none,0,by rw[h0],by omega,rfl,.inl h0⟩
 ·refine⟨_,cap,rfl,hn,rfl,.inr ⟨g,0,rfl,(hl g rfl).2,fun i hi=>?_⟩⟩
  have hk:=World.ownsRow.cellAt h i (by omega)
  rw[Nat.zero_add,hk]
  simp[hi]
end Go.Proofs.YtpmedpdjglcdpaaGreatDoor
namespace Go.Proofs.YtpmedpdjglcdpaaGreatDoor
open Go.RowKit
theorem OwnB.notKind {w:World}{base b:Nat}{v:Value}{l:List UInt8}{t:TypeId}{cs:Array Value}(h:OwnB w base v l)(hb:Whole w b t cs)(ht:t≠5):v.ownBlock≠some b:=by
 intro e
 rcases h.2 with ⟨rfl,_⟩ | ⟨g',cap,cur,rfl,_,hg,_⟩
 ·simp[Value.ownBlock]at e
 ·simp only[Value.ownBlock,Option.some.injEq]at e
  subst e
  unfold Whole at hb
  rw[hb]at hg
  simp only[Option.some.injEq,Obj.cells.injEq]at hg
  exact ht hg.2.1
end Go.Proofs.YtpmedpdjglcdpaaGreatDoor
namespace Go.Proofs.YtpmedpdjglcdpaaGreatDoor
open Go.RowKit
theorem Uk {ops:Array Oper}{rest:List Oper}{o:Oper}{a:Act}{Q:Exit→Act→World→Prop}{w:World}(hgd:o.guard=none)(x y:Operand)(ho:o.op=.makeSlice 48 x y){n:Nat}(hx:a.eval x=.int .i64 (n:Int))(hy:a.eval y=.int .i64 (n:Int))(hn:n≤1000000)
  (h:∀ w',OwnI w' w.heap.size (.slice (some ⟨w.heap.size,0,none⟩) n n) (List.replicate n 0)→Ext w w'→wpList Tryz.prog ops Q rest (a.put o.dst (.slice (some ⟨w.heap.size,0,none⟩) n n)) w'):wpList Tryz.prog ops Q (o::rest) a w:=by
 obtain⟨i,hi,hz,hsz,hby⟩:=info_parts Yz
 refine wpList_make_full w hgd x y 48 ho w.heap.size 3 i _ 1 Tryz.underlying48 hi hz hsz .i64 .i64 _ _ n hx hy rfl rfl (by rw[hby];omega) (by unfold maxLen;omega) (Nat.le_refl _) ?_
 intro w' h1 h2
 refine h w' ?_ (Below.grown (Ext.refl w) h2 (Nat.le_refl _) fun k hk=>by cases hk)
 unfold OwnI
 have e:(madeCells (Value.int .i64 0).cells (n*1)).toList=(List.replicate n (0:Int)).map (Value.int .i64):=by
  have:madeCells (Value.int .i64 0).cells n=((List.replicate n (0:Int)).map (Value.int .i64)).toArray:=by
   apply Array.ext
   ·simp[size_madeCells]
   ·intro i h1 h2
    simp[madeCells,Value.cells,Nat.mod_one]
  rw[Nat.mul_one,this]
 rw[e]at h1
 simpa using h1
theorem OwnI.formG {w:World}{base:Nat}{v:Value}{L:List Int}(h:OwnI w base v L)(hl:0<L.length):∃ g c,v=.slice (some ⟨g,0,none⟩) L.length c∧base≤g∧L.length≤c:=by
 have hlt:=h.lt
 rcases h.2 with ⟨rfl,h0⟩ | ⟨g,cap,cur,rfl,hb,hg,hn,hc,hs,ht⟩
 ·omega
 ·exact⟨g,cap,rfl,(hlt g rfl).1,hn⟩
theorem OwnI.cell {w:World}{base g n c:Nat}{L:List Int}(h:OwnI w base (.slice (some ⟨g,0,none⟩) n c) L){i:Nat}(hi:i<L.length):w.cell? ⟨g,i,none⟩=some (.int .i64 (L.getD i 0))∧w.frozen? ⟨g,i,none⟩=false:=by
 have hn:n=L.length:=by
  rcases h.2 with ⟨h',_⟩ | ⟨_,_,_,h',_⟩
  ·simp at h'
  ·simp only[Value.slice.injEq]at h';exact h'.2.1
 subst hn
 refine⟨?_,World.ownsRow.frozenAt h i⟩
 rw[World.ownsRow.cellAt h i (by omega)]
 simp[hi]
theorem OwnI.put {w:World}{base g n c:Nat}{L:List Int}(h:OwnI w base (.slice (some ⟨g,0,none⟩) n c) L)(i:Nat)(x:Int):OwnI (w.setCell ⟨g,i,none⟩ (.int .i64 x)) base (.slice (some ⟨g,0,none⟩) n c) (L.set i x):=by
 have hn:n=L.length:=by
  rcases h.2 with ⟨h',_⟩ | ⟨_,_,_,h',_⟩
  ·simp at h'
  ·simp only[Value.slice.injEq]at h';exact h'.2.1
 subst hn
 have:=(World.ownsRow.stored h i (.int .i64 x)).1
 unfold OwnI
 rw[List.length_set,List.map_set]
 exact this
end Go.Proofs.YtpmedpdjglcdpaaGreatDoor
namespace Go.Proofs.YtpmedpdjglcdpaaGreatDoor
open Go.RowKit
theorem Num.ones_xor (s:Nat)(h:s<2 ^ 64):(18446744073709551615:Nat) ^^^ s=18446744073709551615-s:=by
 have h1:=congrArg BitVec.toNat (BitVec.allOnes_xor (x:=BitVec.ofNat 64 s))
 rw[BitVec.toNat_xor,BitVec.toNat_not,BitVec.toNat_ofNat,BitVec.toNat_allOnes,Nat.mod_eq_of_lt h]at h1
 exact h1
theorem Num.zig_bits (d:Nat)(h:d<18446744073709551616):bits .xor .u64 (IntKind.u64.wrap ((d:Int)*2)) (IntKind.u64.wrap (-((d:Int) / 9223372036854775808)))=((Num.zig d:Nat):Int):=by
 unfold Num.zig
 by_cases hd:2 ^ 63≤d
 ·have e1:IntKind.u64.wrap ((d:Int)*2)=((2*d-18446744073709551616:Nat):Int):=by rw[IntKind.wrap_u64];omega
  have e2:IntKind.u64.wrap (-((d:Int) / 9223372036854775808))=((18446744073709551615:Nat):Int):=by rw[IntKind.wrap_u64];omega
  rw[if_pos hd,e1,e2,u64_xor_nat _ _ (by omega) (by decide),Nat.xor_comm,Num.ones_xor _ (by omega)]
  omega
 ·have e1:IntKind.u64.wrap ((d:Int)*2)=((2*d:Nat):Int):=by rw[IntKind.wrap_u64];omega
  have e2:IntKind.u64.wrap (-((d:Int) / 9223372036854775808))=((0:Nat):Int):=by rw[IntKind.wrap_u64];omega
  rw[if_neg hd,e1,e2,u64_xor_nat _ _ (by omega) (by decide),Nat.xor_zero]
set_option maxHeartbeats 1000000 in
set_option maxRecDepth 100000 in
theorem QG (d:Nat)(w:World)(hd:d<18446744073709551616):Calls Tryz.prog 111 #[.int .u64 d] w fun e w'=>e=.returned (.int .u64 (Num.zig d:Nat))∧w=w':=by
 have H:=hide (Num.zig_bits d hd)
 clear hd
 go_enter Tryz.func111,Tryz.ntmps111
 go_wp2
 go_ret
 exact⟨Ui H.out,rfl⟩
theorem Num.or128 (z:Nat):bits .or .u8 ((z:Int) % 256) 128=((128+z % 128:Nat):Int):=by
 have e:(z:Int) % 256=((z % 256:Nat):Int):=by omega
 rw[e,show (128:Int)=((128:Nat):Int) from rfl,u8_or_nat _ _ (Nat.mod_lt _ (by decide)) (by decide)]
 have H:∀ y,y<256→y ||| 128=128+y % 128:=by decide +kernel
 rw[H _ (Nat.mod_lt z (by decide)),show z % 256 % 128=z % 128 by omega]
set_option maxHeartbeats 1000000 in
set_option maxRecDepth 100000 in
theorem zS (x:Nat)(w:World)(hx:x<18446744073709551616):Calls Tryz.prog 57 #[.int .u64 x] w (zt w (Num.enc x)):=by
 go_enter Tryz.func57,Tryz.ntmps57
 go_wp2
 go_loopw [0,3] (fun y v wr=>∃ (k z:Nat) (pre:List UInt8),y=.int .u64 (z:Int)∧z<18446744073709551616∧z<128 ^ (10-k)∧k≤9∧pre.length=k∧pre++Num.encF (10-k) z=Num.enc x∧OwnB wr w.heap.size v pre∧Ext w wr) (fun y _ _=>(intOf y).toNat)
 case atStart=>exact⟨0,x,[],rfl,hx,Nat.lt_of_lt_of_le hx (by decide),by omega,rfl,rfl,OwnB.nil _ _,Ext.refl _⟩
 case round =>
  obtain⟨k,z,pre,rfl,hz,hzk,hk,hlen,henc,hO,hE⟩:=hrel
  obtain⟨f,hf⟩:∃ f,10-k=f+1:=⟨9-k,by omega⟩
  rw[hf]at henc hzk
  have hfit:pre.length+1≤140737488355328:=by omega
  by_cases hs:z<128
  ·rw[Num.encF_small hs]at henc
   have HE:=hide henc
   obtain⟨bt,rfl⟩:∃ bt:UInt8,z=bt.toNat:=⟨UInt8.ofNat z,by rw[Num.ofNat_low z (by omega)]⟩
   rw[UInt8.ofNat_toNat]at HE
   have hs':¬ (128≤(bt.toNat:Int)):=by omega
   have hb1:=zr wr [bt] #[.int .u8 (bt.toNat:Int)] 5 (0,0) rfl 1 rfl
   have hO1:=hO.ext (zb wr (.cells #[.int .u8 (bt.toNat:Int)] 5))
   have hE1:=hE.trans (zb wr (.cells #[.int .u8 (bt.toNat:Int)] 5))
   have hB1:=hE1.le
   clear henc hlen hf
   go_wp2_with (at_builtin;refine ze rfl (.tmp 14) (.tmp 17) rfl rfl hO1 rfl hb1 hfit hB1 ?_;intro v2 w2 hO2 hG2 hN2)
   go_ret
   exact⟨v2,rfl,by rw[← HE.out];exact hO2,hO1.below hE1 hG2 hB1⟩
  ·rw[Num.encF_big hs]at henc
   have HE:=hide henc
   have hk9:k≤8:=by
    rcases Nat.lt_or_ge k 9 with h|h
    ·omega
    ·obtain rfl:k=9:=by omega
     obtain rfl:f=0:=by omega
     simp at hzk
     omega
   have HF:=hide (show 10-(k+1)=f by omega)
   have HZ:=hide (show z / 128<128 ^ f by rw[Nat.pow_succ]at hzk;exact Nat.div_lt_of_lt_mul (by rw[Nat.mul_comm];exact hzk))
   obtain⟨bt,hbt⟩:∃ bt:UInt8,bt=UInt8.ofNat (128+z % 128):=⟨_,rfl⟩
   have hbn:bt.toNat=128+z % 128:=by rw[hbt];exact Num.ofNat_low _ (by omega)
   rw[← hbt]at HE
   have hor:=Num.or128 z
   rw[← hbn]at hor
   have hs':128≤(z:Int):=by omega
   have hb1:=zr wr [bt] #[.int .u8 (bt.toNat:Int)] 5 (0,0) rfl 1 rfl
   have hO1:=hO.ext (zb wr (.cells #[.int .u8 (bt.toNat:Int)] 5))
   have hE1:=hE.trans (zb wr (.cells #[.int .u8 (bt.toNat:Int)] 5))
   have hB1:=hE1.le
   have HLen:=hide hlen
   clear henc hlen hf hbt hbn hzk
   go_wp2_with (at_builtin;refine ze rfl (.tmp 8) (.tmp 12) rfl rfl hO1 rfl hb1 hfit hB1 ?_;intro v2 w2 hO2 hG2 hN2)
   go_roundw
   case rel =>
    refine⟨k+1,z / 128,pre++[bt],?_,by omega,by rw[HF.out];exact HZ.out,by omega,by simp[HLen.out],by rw[HF.out,List.append_assoc];exact HE.out,hO2,hO1.below hE1 hG2 hB1⟩
    rw[show ((z:Int) / 128)=((z / 128:Nat):Int) by omega]
   case measure=>simp[intOf];omega
theorem ZR (s:ByteArray)(w:World)(hs:s.size≤1000000):Calls Tryz.prog 71 #[.string s] w (zt w (Num.enc s.size++s.data.toList)):=by
 have hw:IntKind.u64.wrap (s.size:Int)=(s.size:Int):=by rw[IntKind.wrap_u64];omega
 have hl:=Num.enc_len s.size
 have hfit:(Num.enc s.size).length+s.size≤140737488355328:=by omega
 have CN:=zS s.size w (by omega)
 generalize Num.enc s.size=E at *
 go_enter Tryz.func71,Tryz.ntmps71
 go_wp2_with (first
  | (go_at_call 57;refine CN.mono ?_;rintro e w2 ⟨v2,rfl,hO2,hE2⟩)
  | (at_builtin;refine ZO rfl (.tmp 6) (.tmp 7) rfl rfl hO2 rfl hfit hE2.le ?_;intro v3 w3 hO3 hG3))
 go_ret
 exact⟨v3,rfl,hO3,hO2.below hE2 hG3 hE2.le⟩
end Go.Proofs.YtpmedpdjglcdpaaGreatDoor
namespace Go.Proofs.YtpmedpdjglcdpaaGreatDoor
open Go.RowKit
theorem aba (n:Nat):(madeCells (Value.int .u8 0).cells n).toList=(List.replicate n (0:UInt8)).map zY:=by
 have:madeCells (Value.int .u8 0).cells n=((List.replicate n (0:UInt8)).map zY).toArray:=by
  apply Array.ext
  ·simp[size_madeCells]
  ·intro i h1 h2
   simp[madeCells,Value.cells,zY,Nat.mod_one]
 rw[this]
theorem acv (j k x:Nat)(h:j<k):(Num.fix j x++List.replicate (k-j) (0:UInt8)).set j (UInt8.ofNat (x / 256 ^ j % 256))=Num.fix (j+1) x++List.replicate (k-(j+1)) 0:=by
 rw[Num.fix_snoc,List.set_append,if_neg (by rw[Num.fix_len];omega),Num.fix_len,Nat.sub_self,show k-j=(k-(j+1))+1 by omega,List.replicate_succ,List.set_cons_zero,List.append_assoc]
 rfl
set_option maxHeartbeats 1000000 in
set_option maxRecDepth 100000 in
theorem Ul (x:Nat)(n:Int)(w:World)(_hx:x<18446744073709551616):Calls Tryz.prog 53 #[.int .u64 x,.int .i64 n] w (zB w (Num.fixBytes x n) (Num.fixErr x n)):=by
 by_cases hr:1≤n∧n≤8
 ·obtain⟨h1,h8⟩:=hr
  obtain⟨k,rfl⟩:=Int.eq_ofNat_of_zero_le (show 0≤n by omega)
  have hw8:IntKind.i64.wrap (8*(k:Int))=((8*k:Nat):Int):=by rw[IntKind.wrap_i64];omega
  have hpw:(256:Nat) ^ k=2 ^ (8*k):=by rw[Nat.pow_mul]
  by_cases hxl:x<256 ^ k
  ·have HB:=hide (show Num.fixErr x (k:Int)=0∧Num.fixBytes x (k:Int)=Num.fix k x by unfold Num.fixErr Num.fixBytes;rw[if_pos ⟨h1,h8,by simpa using hxl⟩,if_pos ⟨h1,h8,by simpa using hxl⟩];simp)
   have hz':((x:Int) / 2 ^ (8*k) != 0)=false:=by
    have:(x:Int) / 2 ^ (8*k)=((x / 2 ^ (8*k):Nat):Int):=by simp only[Int.natCast_ediv,Int.natCast_pow];rfl
    rw[this,Nat.div_eq_of_lt (by rw[← hpw];exact hxl)];rfl
   obtain⟨i,hi,hz,hs,hby⟩:=info_parts yY
   have hi4:k≤maxLen:=by unfold maxLen;omega
   have hi5:i.bytes*k≤281474976710656:=by rw[hby];omega
   clear hxl hpw
   go_enter Tryz.func53,Tryz.ntmps53
   go_wp2_with (at_make;refine wpList_make_full _ rfl _ _ _ rfl w.heap.size 5 i _ 1 Tryz.underlying29 hi hz hs _ _ _ _ k rfl rfl rfl rfl hi5 hi4 (Nat.le_refl _) ?_;intro w1 hO1 hG1)
   have hO:OwnB w1 w.heap.size (.slice (some ⟨w.heap.size,0,none⟩) k k) (List.replicate k 0):=by
    unfold OwnB
    rw[Nat.mul_one,aba]at hO1
    rw[List.length_replicate]
    exact hO1
   have hE1:Ext w w1:=⟨hG1.os,hG1.tape,hG1.output,hG1.size,fun b hb=>hG1.block b hb (by simp)⟩
   clear hO1 hi hz hs hby hi4 hi5 hG1 hz'
   go_loopw [25] (fun i wr=>∃ j:Nat,j≤k∧i=.int .i64 (j:Int)∧OwnB wr w.heap.size (.slice (some ⟨w.heap.size,0,none⟩) k k) (Num.fix j x++List.replicate (k-j) 0)∧Ext w wr) (fun i _=>k-(intOf i).toNat)
   case atStart=>exact⟨0,by omega,rfl,by simpa[Num.fix] using hO,hE1⟩
   case round =>
    obtain⟨j,hj,rfl,hO2,hE2⟩:=hrel
    by_cases hlt:j<k
    ·have HS:=hide (acv j k x hlt)
     have hlen:(Num.fix j x++List.replicate (k-j) (0:UInt8)).length=k:=by rw[List.length_append,Num.fix_len,List.length_replicate];omega
     obtain⟨hc,hf⟩:=hO2.cell (i:=j) (by omega)
     have hw8j:IntKind.i64.wrap (8*(j:Int))=((8*j:Nat):Int):=by rw[IntKind.wrap_i64];omega
     obtain⟨bt,hbt⟩:∃ bt:UInt8,bt=UInt8.ofNat (x / 256 ^ j % 256):=⟨_,rfl⟩
     have hbn:bt.toNat=x / 256 ^ j % 256:=by rw[hbt];exact Num.ofNat_low _ (by omega)
     rw[← hbt]at HS
     have hbyte:(x:Int) / 2 ^ (8*j) % 256=(bt.toNat:Int):=by
      rw[hbn,show (256:Nat) ^ j=2 ^ (8*j) by rw[Nat.pow_mul]]
      simp only[Int.natCast_emod,Int.natCast_ediv,Int.natCast_pow]
      rfl
     have hO3:=hO2.set j bt
     rw[HS.out]at hO3
     have hE3:Ext w (wr.setCell ⟨w.heap.size,j,none⟩ (.int .u8 (bt.toNat:Int))):=hE2.setCell (Nat.le_refl _) _
     clear hbt hbn hO2 hlen
     go_wp2
     go_roundw
     case rel=>exact⟨j+1,by omega,by go_num,hO3,hE3⟩
     case measure=>simp[intOf];omega
    ·obtain rfl:j=k:=by omega
     rw[Nat.sub_self,List.replicate_zero,List.append_nil]at hO2
     go_wp2
     go_ret2
     exact⟨_,xp HB.out.1.symm,by rw[HB.out.2];exact hO2,hE2⟩
  ·have HB:=hide (show Num.fixErr x (k:Int)=13∧Num.fixBytes x (k:Int)=[] by unfold Num.fixErr Num.fixBytes;rw[if_neg (fun h=>hxl (by simpa using h.2.2)),if_neg (fun h=>hxl (by simpa using h.2.2))];simp)
   have hz':((x:Int) / 2 ^ (8*k) != 0)=true:=by
    have:(x:Int) / 2 ^ (8*k)=((x / 2 ^ (8*k):Nat):Int):=by simp only[Int.natCast_ediv,Int.natCast_pow];rfl
    rw[this]
    have h0:x / 2 ^ (8*k)≠0:=by
     rw[← hpw]
     intro h
     rcases Nat.div_eq_zero_iff.1 h with h|h
     ·have:0<256 ^ k:=Nat.pow_pos (by decide)
      omega
     ·exact hxl h
    simpa using fun h=>h0 (by exact_mod_cast h)
   clear hxl hpw
   go_enter Tryz.func53,Tryz.ntmps53
   go_wp2
   go_ret2
   exact⟨_,xp HB.out.1.symm,by rw[HB.out.2];exact OwnB.nil _ _,Ext.refl _⟩
 ·have HB:=hide (show Num.fixErr x n=13∧Num.fixBytes x n=[] by unfold Num.fixErr Num.fixBytes;rw[if_neg (fun h=>hr ⟨h.1,h.2.1⟩),if_neg (fun h=>hr ⟨h.1,h.2.1⟩)];simp)
  by_cases h1:n<1
  ·clear hr
   go_enter Tryz.func53,Tryz.ntmps53
   go_wp2
   go_ret2
   exact⟨_,xp HB.out.1.symm,by rw[HB.out.2];exact OwnB.nil _ _,Ext.refl _⟩
  ·have h8:8<n:=by omega
   clear hr
   go_enter Tryz.func53,Tryz.ntmps53
   go_wp2
   go_ret2
   exact⟨_,xp HB.out.1.symm,by rw[HB.out.2];exact OwnB.nil _ _,Ext.refl _⟩
end Go.Proofs.YtpmedpdjglcdpaaGreatDoor
namespace Go.Proofs.YtpmedpdjglcdpaaGreatDoor
open Go.RowKit
def Entered (K:Nat):Prop:=∀ (args:Array Value) (W:World),(callFunc K args).run Tryz.prog W=.ok (.enter K args) W
theorem jT {K : Nat} {fn : Func} {c : Code} (hf : Tryz.prog.funcs[K]? = some fn) (hname : (fn.name == "runtime.NumGoroutine") = false) (hb : fn.body = some c) : Entered K := by
 intro args W
 have h1 : fn.name ≠ "runtime.NumGoroutine" := by simpa using hname
 simp[callFunc,hf,h1,hb]
end Go.Proofs.YtpmedpdjglcdpaaGreatDoor
namespace Go.Proofs.YtpmedpdjglcdpaaGreatDoor
open Go.RowKit
theorem OwnTx.notKind {w:World}{base b:Nat}{v:Value}{l:List (List UInt8)}{t:TypeId}{cs:Array Value}(h:OwnTx w base v l)(hb:Whole w b t cs)(ht:t≠9):v.ownBlock≠some b:=by
 intro e
 rcases h.2 with ⟨rfl,_⟩ | ⟨g',cap,cur,rfl,_,hg,_⟩
 ·simp[Value.ownBlock]at e
 ·simp only[Value.ownBlock,Option.some.injEq]at e
  subst e
  unfold Whole at hb
  rw[hb]at hg
  simp only[Option.some.injEq,Obj.cells.injEq]at hg
  exact ht hg.2.1
end Go.Proofs.YtpmedpdjglcdpaaGreatDoor
namespace Go.Proofs.YtpmedpdjglcdpaaGreatDoor
open Go.RowKit
theorem vH {op:Oper}{a:Act}{w:World}{K:Act→World→Prop}{Q:Exit→Act→World→Prop}(ty:TypeId)(x y:Operand)(ho:op.op=.store ty x y)
  {g i:Nat} {t:TypeId} {cs:Array Value} (cs':Array Value) {u:Value} (hx:a.eval x=.pointer (some ⟨g,i,none⟩)) (hy:a.eval y=u) (hw:Whole w g t cs) (hi:i<cs.size)
  (hs:(Tryz.prog.info? ty).map (·.size)=some 1) (h1:u.oneCell'=true) (hcells:u.cells=#[u]) (hcs:cs.setIfInBounds i u=cs')
  (h:∀ w',Whole w' g t cs'→w.grownBy w' (some g)→K (a.put op.dst undef) w'):Oper.wp Tryz.prog op a w K Q:=by
 subst hcs
 have hf:=hw.frozen i
 have hc:w.cell? ⟨g,i,none⟩=some (cs[i]):=hw.at i (Array.getElem?_eq_getElem hi)
 unfold Oper.wp execOp
 cases hq:Tryz.prog.info? ty with
 | none=>simp[hq]at hs
 | some d =>
  have hs':d.size=1:=by simpa[hq] using hs
  have ht:w.there g i 1:=fun j hj=>by
   obtain rfl:j=0:=by omega
   exact⟨by rw[Nat.add_zero,hc];rfl,by rw[Nat.add_zero];exact hf⟩
  have hr:(storeVar ty ⟨g,i,none⟩ u).run Tryz.prog w=.ok () (w.setCells g i [u]):=by
   have:=run_storeCells_cells (P:=Tryz.prog) g i [u] 0 w (fun j hj=>by simpa using (ht j (by simpa using hj)).1) (fun j hj=>by simpa using (ht j (by simpa using hj)).2) (fun v hv=>by simp at hv;subst hv;exact h1)
   simp only[storeVar,sizeOf,typeInfo,hcells]
   simpa[hq,hs'] using this
  simp only[ho,hx,hy,Instr.storeAt,Instr.sureAddr,Sem.run_bind,Sem.run_pure,Result.andThen_ok,hr]
  exact h _ (hw.set i u) (zk w g i u)
end Go.Proofs.YtpmedpdjglcdpaaGreatDoor
