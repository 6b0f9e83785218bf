/- A block that is known whole. Worlds that differ in one block and one row at most; append and stores, told with where what they make lies. Texts as values: a text, lists of texts that came in or are the call's own. Contracts of the document' -/
import Derived.Test.YtaogpmombefmmaaGreatDoorB02
import Derived.Test.YtaogpmombefmmaaGreatDoorB06
import Derived.Deep.MidRow
import Derived.Laws.Rows
import Derived.Maps.AppendAt
import Derived.Laws.OwnMore
import Derived.Lib.AppendStr
import Derived.Laws.ResultCell
import Derived.Lib.SliceRun
namespace Go.Proofs.YtaogpmombefmmaaGreatDoor
open Go.RowKit
def Whole (w:World)(g:Nat)(t:TypeId)(cs:Array Value):Prop:=w.heap[g]?=some (.cells cs t (0,0))
section
variable {w W:World}{g:Nat}{t:TypeId}{cs:Array Value}
theorem Whole.lt (h:Whole w g t cs):g < w.heap.size:=(Array.getElem?_eq_some_iff.1 h).1
theorem Whole.cell (h:Whole w g t cs)(i:Nat):w.cell? ⟨g,i,none⟩=cs[i]?:=cell_of_row w g i cs t (0,0) h
theorem Whole.frozen (h:Whole w g t cs)(i:Nat):w.frozen? ⟨g,i,none⟩=false:=frozen_of_row w g i cs t h
theorem Whole.new (w:World)(t:TypeId)(cs:Array Value):Whole (w.alloc (.cells cs t)) w.heap.size t cs:=heap_alloc_new w _
theorem Whole.alloc (h:Whole w g t cs)(o:Obj):Whole (w.alloc o) g t cs:=(Below.heap_alloc w o g h.lt).trans h
theorem Whole.set (h:Whole w g t cs)(i:Nat)(u:Value):Whole (w.setCell ⟨g,i,none⟩ u) g t (cs.setIfInBounds i u):=heap_setCell_same w g i cs t u h
theorem Whole.far (h:Whole w g t cs){b:Nat}(hb:g≠b)(i:Nat)(u:Value):Whole (w.setCell ⟨b,i,none⟩ u) g t cs:=(Below.heap_setCell w ⟨b,i,none⟩ u g hb).trans h
theorem Whole.ext (h:Whole w g t cs)(hE:Ext w W):Whole W g t cs:=(hE.block g h.lt).trans h
theorem Whole.below {B:Nat}(h:Whole w g t cs)(hE:Below B w W)(hg:g < B):Whole W g t cs:=(hE.block g hg).trans h
theorem Whole.grown (h:Whole w g t cs){b:Nat}(hE:w.grownBy W (some b))(hb:g≠b):Whole W g t cs:=(hE.block g h.lt (by simpa using hb)).trans h
end
theorem setCells_grown (g:Nat):∀ (vs:List Value) (o:Nat) (w:World),w.grownBy (w.setCells g o vs) (some g)∧(w.setCells g o vs).heap.size=w.heap.size
 | [],_,w=>⟨World.grownBy.refl w _,rfl⟩
 | v :: r,o,w=>by
  have h1:w.grownBy (w.setCell ⟨g,o,none⟩ v) (some g):=⟨rfl,rfl,rfl,by simp,fun k _ hk=>Below.heap_setCell w ⟨g,o,none⟩ v k (fun e=>hk (by rw [e]))⟩
  obtain ⟨h2,h3⟩:=setCells_grown g r (o+1) (w.setCell ⟨g,o,none⟩ v)
  exact ⟨h1.trans h2,by show ((w.setCell ⟨g,o,none⟩ v).setCells g (o+1) r).heap.size=_;rw [h3];simp⟩
theorem Whole.setCells {g:Nat}{t:TypeId}:∀ (vs:List Value) (o:Nat) (w:World) (cs:Array Value),Whole w g t cs→o+vs.length≤cs.size →
  ∃ cs',Whole (w.setCells g o vs) g t cs'∧cs'.size=cs.size∧(∀ i,i < o→cs'[i]?=cs[i]?)∧∀ j,j < vs.length→cs'[o+j]?=vs[j]?
 | [],_,_,cs,h,_=>⟨cs,h,rfl,fun _ _=>rfl,fun j hj=>by simp at hj⟩
 | v :: r,o,w,cs,h,hl=>by
  simp only [List.length_cons] at hl
  obtain ⟨cs',h1,h2,h3,h4⟩:=Whole.setCells r (o+1) (w.setCell ⟨g,o,none⟩ v) _ (h.set o v) (by simp;omega)
  refine ⟨cs',h1,by simpa using h2,fun i hi=>by rw [h3 i (by omega),Array.getElem?_setIfInBounds_ne (by omega)],fun j hj=>?_⟩
  rcases j with _ | j
  ·rw [Nat.add_zero,h3 o (by omega),Array.getElem?_setIfInBounds_self_of_lt (by omega)]
   rfl
  ·rw [show o+(j+1)=o+1+j by omega,h4 j (by simpa using hj)]
   rfl
theorem Whole.storeAll {w:World}{g:Nat}{t:TypeId}{cs cells:Array Value}(h:Whole w g t cs)(hs:cells.size=cs.size):Whole (w.setCells g 0 cells.toList) g t cells:=by
 obtain ⟨cs',h1,h2,_,h4⟩:=Whole.setCells cells.toList 0 w cs h (by simp [hs])
 have:cs'=cells:=by
  apply Array.ext_getElem?
  intro i
  by_cases hi:i < cells.size
  ·have:=h4 i (by simpa using hi)
   rw [Nat.zero_add] at this
   rw [this];simp
  ·rw [Array.getElem?_eq_none (by omega),Array.getElem?_eq_none (by omega)]
 rwa [this] at h1
theorem wpList_storeW {P:Program}{ops:Array Oper}{rest:List Oper}{op:Oper}{a:Act}{w:World}{Q:Exit→Act→World→Prop}(hgd:op.guard=none)(ty:TypeId)(x y:Operand)(ho:op.op=.store ty x y)
  {g:Nat} {t:TypeId} {cs cells:Array Value} (hx:a.eval x=.pointer (some ⟨g,0,none⟩)) (hy:a.eval y=.agg cells) (hw:Whole w g t cs) (hs:cells.size=cs.size)
  (hi:(P.info? ty).map (·.size)=some cells.size) (h1:cells.all (·.oneCell')=true)
  (h:∀ w',Whole w' g t cells→w.grownBy w' (some g)→w'.heap.size=w.heap.size→wpList P ops Q rest (a.put op.dst undef) w'):wpList P ops Q (op :: rest) a w:=by
 refine wpList_store_mid hgd ty x y ho g 0 cells hx hy (fun j hj=>?_) hi h1 (h _ (hw.storeAll hs) (setCells_grown g _ _ _).1 (setCells_grown g _ _ _).2)
 rw [Nat.zero_add]
 refine ⟨?_,hw.frozen j⟩
 rw [hw.cell j,Array.getElem?_eq_getElem (by omega)]
 rfl
end Go.Proofs.YtaogpmombefmmaaGreatDoor
namespace Go.Proofs.YtaogpmombefmmaaGreatDoor
open Go.RowKit
theorem ret_i64 {a b:Int}(h:a=b):Ending.returned (.int .i64 a)=.returned (.int .i64 b):=by rw [h]
structure Mod (w w':World)(g:Nat)(ob:Option Nat):Prop where
 os:w'.os=w.os
 tape:w'.tape=w.tape
 output:w'.output=w.output
 size:w.heap.size≤w'.heap.size
 block:∀ k,k < w.heap.size→k≠g→some k≠ob→w'.heap[k]?=w.heap[k]?
def NewOb (w:World)(ob ob':Option Nat):Prop:=ob'=ob∨∃ n,ob'=some n∧w.heap.size≤n
theorem NewOb.same (w:World)(ob:Option Nat):NewOb w ob ob:=.inl rfl
theorem NewOb.trans {a b:World}{o1 o2 o3:Option Nat}(h:NewOb a o1 o2)(hs:a.heap.size≤b.heap.size)(k:NewOb b o2 o3):NewOb a o1 o3:=by
 rcases k with rfl | ⟨n,rfl,hn⟩
 ·exact h
 ·exact .inr ⟨n,rfl,by omega⟩
theorem NewOb.ne {w:World}{ob ob':Option Nat}(h:NewOb w ob ob'){g:Nat}(hg:g < w.heap.size)(ho:ob≠some g):ob'≠some g:=by
 rcases h with rfl | ⟨n,rfl,hn⟩
 ·exact ho
 ·intro e
  injection e with e
  omega
theorem NewOb.le {w:World}{ob ob':Option Nat}(h:NewOb w ob ob'){b:Nat}(hb:b≤w.heap.size)(ho:∀ k,ob=some k→b≤k):∀ k,ob'=some k→b≤k:=by
 rcases h with rfl | ⟨n,rfl,hn⟩
 ·exact ho
 ·intro k e
  injection e with e
  omega
section
variable {a b c w w':World}{g:Nat}{ob ob':Option Nat}
theorem Mod.refl (w:World)(g:Nat)(ob:Option Nat):Mod w w g ob:=⟨rfl,rfl,rfl,Nat.le_refl _,fun _ _ _ _=>rfl⟩
theorem Mod.trans (h:Mod a b g ob)(k:Mod b c g ob')(ho:NewOb a ob ob'):Mod a c g ob :=
 ⟨k.os.trans h.os,k.tape.trans h.tape,k.output.trans h.output,Nat.le_trans h.size k.size,fun i hi hg hb =>
  (k.block i (Nat.lt_of_lt_of_le hi h.size) hg (fun e=>ho.ne hi (fun e'=>hb e'.symm) e.symm)).trans (h.block i hi hg hb)⟩
theorem Mod.ofRow (h:w.grownBy w' (some g)):Mod w w' g ob:=⟨h.os,h.tape,h.output,h.size,fun k hk hg _=>h.block k hk (fun e=>hg (by injection e))⟩
theorem Mod.ofOwn (h:w.grownBy w' ob):Mod w w' g ob:=⟨h.os,h.tape,h.output,h.size,fun k hk _ ho=>h.block k hk ho⟩
theorem Mod.ofExt (h:Ext w w'):Mod w w' g ob:=⟨h.os,h.tape,h.output,h.size,fun k hk _ _=>h.block k hk⟩
theorem Mod.drew (w:World):Mod w w.drew g ob:=Mod.ofExt (Ext.refl w).drew
theorem Mod.below (h:Mod a b g ob){B:Nat}(hB:B≤a.heap.size)(hg:B≤g)(ho:∀ k,ob=some k→B≤k):Below B a b :=
 ⟨h.os,h.tape,h.output,h.size,fun k hk=>h.block k (by omega) (by omega) (fun e=>by have:=ho k e.symm;omega)⟩
theorem Mod.whole (h:Mod w w' g ob){x:Nat}{t:TypeId}{cs:Array Value}(hw:Whole w x t cs)(hg:x≠g)(ho:ob≠some x):Whole w' x t cs:=(h.block x hw.lt hg (fun e=>ho e.symm)).trans hw
theorem Mod.own (h:Mod w w' g ob){base:Nat}{v:Value}{l:List UInt8}(hv:OwnB w base v l)(hg:v.ownBlock≠some g)(ho:v.ownBlock=none∨v.ownBlock≠ob):OwnB w' base v l:=by
 refine ⟨hv.1,?_⟩
 rcases hv.2 with hn | ⟨x,cap,cur,rfl,hb,hgg,rest⟩
 ·exact .inl hn
 ·refine .inr ⟨x,cap,cur,rfl,hb,?_,rest⟩
  rw [h.block x (Array.getElem?_eq_some_iff.1 hgg).1 (by intro e;subst e;simp [Value.ownBlock] at hg) (by
   intro e
   rcases ho with ho | ho
   ·simp [Value.ownBlock] at ho
   ·exact ho (by simpa [Value.ownBlock] using e))]
  exact hgg
end
theorem OwnB.far {w:World}{base g:Nat}{v:Value}{l:List UInt8}(h:OwnB w base v l)(hg:v.ownBlock≠some g)(i:Nat)(u:Value):OwnB (w.setCell ⟨g,i,none⟩ u) base v l :=
 (Mod.ofRow (ob:=none) (show w.grownBy (w.setCell ⟨g,i,none⟩ u) (some g) from ⟨rfl,rfl,rfl,by simp,fun k _ hk=>Below.heap_setCell w ⟨g,i,none⟩ u k (fun e=>hk (by rw [e]))⟩)).own h hg (by cases v.ownBlock <;> simp)
theorem grown_setCell (w:World)(g i:Nat)(u:Value):w.grownBy (w.setCell ⟨g,i,none⟩ u) (some g):=⟨rfl,rfl,rfl,by simp,fun k _ hk=>Below.heap_setCell w ⟨g,i,none⟩ u k (fun e=>hk (by rw [e]))⟩
theorem app_run_at {w:World}(ty:TypeId){base:Nat}{v:Value}{l:List UInt8}(hown:OwnB w base v l){A:Option Addr}{m:Nat}{k:List UInt8}(c:Nat)(hb:Bytes w w.heap.size A m k)
  (hlen:l.length+m≤140737488355328) (hbase:base≤w.heap.size) :
  ∃ v' w',(Builtin.append_ #[29,29] ty #[v,.slice A m c]).run Tryz.prog w=.ok v' w'∧OwnB w' base v' (l++k)∧w.grownBy w' v.ownBlock∧NewOb w v.ownBlock v'.ownBlock:=by
 obtain ⟨hk,hb⟩:=hb
 rcases hb with rfl | ⟨b,off,rfl,hB,hc⟩
 ·obtain rfl:=List.eq_nil_of_length_eq_zero hk
  exact ⟨v,w,run_append_zero w ty base v l hown A c,by simpa using hown,World.grownBy.refl w _,.inl rfl⟩
 ·obtain ⟨i,hi,hz,hs,hby⟩:=info_parts byte_info
  obtain ⟨v',w',hr,h2,h3,_,h5⟩:=run_append_own_at (P:=Tryz.prog) w base 29 ty 5 i _ 1 1 Tryz.underlying29 hi hz hs hby rfl (by omega) v l.length (l.map byteV) hown
   ⟨b,off,none⟩ m c (k.map byteV) (by simpa using hk) (by
    intro j u hu
    have hj:j < m:=by
     rcases Nat.lt_or_ge j m with h | h
     ·exact h
     ·rw [List.getElem?_eq_none (by simp;omega)] at hu;cases hu
    have hadd:(⟨b,off,none⟩:Addr).add j=⟨b,off+j,none⟩:=by unfold Addr.add;split <;> simp_all
    rw [hadd,hc j hj]
    rw [List.getElem?_map,List.getElem?_eq_getElem (by omega)] at hu
    rw [List.getD_eq_getElem?_getD,List.getElem?_eq_getElem (by omega)]
    simpa [byteV] using hu) (by
    intro u hu
    obtain ⟨x,_,rfl⟩:=List.mem_map.1 hu
    rfl) (by unfold maxLen;omega) (by omega) hbase
  refine ⟨v',w',hr,?_,h3,h5.imp id fun h=>⟨_,h,Nat.le_refl _⟩⟩
  unfold OwnB
  rw [List.length_append,hk,List.map_append]
  exact h2
theorem zeroCells_byte (n:Nat):Builtin.zeroCells (Value.int .u8 0).cells n=((List.replicate n (0:UInt8)).map byteV).toArray:=by
 apply Array.ext
 ·rw [size_zeroCells];simp [Value.cells]
 ·intro i h1 h2
  simp [Builtin.zeroCells,Value.cells,byteV,Nat.mod_one]
theorem app_zero_run {w:World}(ty:TypeId){base:Nat}{v:Value}{l:List UInt8}(hown:OwnB w base v l)(n:Nat)(hlen:l.length+n≤140737488355328)(hbase:base≤w.heap.size) :
  ∃ v' w',(Builtin.append_ #[29,3] ty #[v,.int .i64 n]).run Tryz.prog w=.ok v' w'∧OwnB w' base v' (l++List.replicate n 0)∧w.grownBy w' v.ownBlock∧NewOb w v.ownBlock v'.ownBlock:=by
 obtain ⟨i,hi,hz,hs,hby⟩:=info_parts byte_info
 have hw:IntKind.i64.wrap (n:Int)=n:=by rw [IntKind.wrap_i64];omega
 have hneg:¬ ((n:Int) < 0):=by omega
 have hw0:IntKind.i64.wrap 0=0:=by rw [IntKind.wrap_i64];omega
 have h48i:¬ (281474976710656 < (n:Int)):=by omega
 have hsz:Tryz.prog.info? 5=some i:=hi
 have grown:∀ (old:Nat),old < l.length+n→∀ (row:Option Nat),
   OwnB (w.drew.alloc (.cells ((l.map byteV).toArray++Builtin.zeroCells (Value.int .u8 0).cells n++Builtin.zeroCells (Value.int .u8 0).cells (grownCap w (l.length+n) old 5-(l.length+n))) 5)) base
    (.slice (some ⟨w.heap.size,0,none⟩) (l.length+n) (grownCap w (l.length+n) old 5)) (l++List.replicate n 0) ∧
   w.grownBy (w.drew.alloc (.cells ((l.map byteV).toArray++Builtin.zeroCells (Value.int .u8 0).cells n++Builtin.zeroCells (Value.int .u8 0).cells (grownCap w (l.length+n) old 5-(l.length+n))) 5)) row:=by
  intro old ho row
  have hge:=grownCap_ge w (l.length+n) old 5
  have hcm:grownCap w (l.length+n) old 5≤maxLen:=grownCap_le_maxLen w (l.length+n) old 5 (by unfold maxLen;omega)
  refine ⟨?_,⟨rfl,rfl,rfl,by simp,fun k hk _=>Below.heap_alloc w.drew _ k hk⟩⟩
  unfold OwnB
  rw [List.length_append,List.length_replicate]
  refine ⟨by simp,.inr ⟨w.heap.size,_,_,rfl,hbase,heap_alloc_new w.drew _,hge,hcm,?_,?_⟩⟩
  ·simp only [Array.size_append,size_zeroCells]
   simp [Value.cells]
   omega
  ·rw [zeroCells_byte n,List.map_append]
   simp only [Array.toList_append,Nat.mul_one]
   rw [List.take_append_of_le_length (by simp),List.take_of_length_le (by simp)]
 rcases hown.2 with ⟨rfl,h0⟩ | ⟨g,cap,cur,rfl,hbg,hg,hnc,hcm,hcs,htake⟩
 ·have hl:l=[]:=List.eq_nil_of_length_eq_zero h0
  subst hl
  by_cases hn:n=0
  ·subst hn
   refine ⟨.slice none 0 0,w,?_,by simpa using hown,World.grownBy.refl w _,.inl rfl⟩
   simp [Builtin.append_,run_underlying Tryz.underlying29,run_underlying Tryz.underlying3,sizeOf,typeInfo,hsz,asInt,asIntOf,hby,hw0]
  ·have h48':¬ (281474976710656 < Builtin.nextslicecap n 0):=by rw [nextslicecap_zero (by omega)];omega
   have h63':¬ (9223372036854775807 < (n:Int)):=by omega
   have hgr:=grown 0 (by simp;omega) (Value.ownBlock (.slice none 0 0))
   simp only [List.length_nil,Nat.zero_add,List.map_nil,List.nil_append,Array.empty_append] at hgr ⊢
   refine ⟨_,_,?_,hgr.1,hgr.2,.inr ⟨_,rfl,Nat.le_refl _⟩⟩
   simp [Builtin.append_,run_underlying Tryz.underlying29,run_underlying Tryz.underlying3,sizeOf,typeInfo,zeroValue,hsz,hz,asInt,asIntOf,hs,hby,hw,hneg,h48i,hn,h48',h63',Question.forced,run_firstCells_none,newRow,grownCap]
 ·by_cases hroom:l.length+n≤cap
  ·by_cases hn:n=0
   ·subst hn
    refine ⟨_,w,?_,by simpa using hown,World.grownBy.refl w _,.inl rfl⟩
    simp [Builtin.append_,run_underlying Tryz.underlying29,run_underlying Tryz.underlying3,sizeOf,typeInfo,hsz,asInt,asIntOf,hw0,hnc,storeCells]
   have hst:=run_storeCells_at Tryz.prog g l.length 5 ((List.replicate n (0:UInt8)).map byteV) 0 cur w hg (by simp;omega) (by
    intro u hu
    obtain ⟨x,_,rfl⟩:=List.mem_map.1 hu
    rfl)
   have hsr:=setRow_heap w g cur ((cur.toList.take (l.length+0)++(List.replicate n (0:UInt8)).map byteV++cur.toList.drop (l.length+0+((List.replicate n (0:UInt8)).map byteV).length)).toArray) _ _ hg
   have hzc:(Builtin.zeroCells (Value.int .u8 0).cells n).toList=(List.replicate n (0:UInt8)).map byteV:=by rw [zeroCells_byte]
   refine ⟨.slice (some ⟨g,0,none⟩) (l.length+n) cap,w.setRow g ((cur.toList.take (l.length+0)++(List.replicate n (0:UInt8)).map byteV++cur.toList.drop (l.length+0+((List.replicate n (0:UInt8)).map byteV).length)).toArray),?_,?_,
    ⟨rfl,rfl,rfl,by simp,fun k _ hk=>setRow_other w g k _ (fun e=>hk (by simp [Value.ownBlock,e]))⟩,.inl rfl⟩
   ·simp [Builtin.append_,run_underlying Tryz.underlying29,run_underlying Tryz.underlying3,sizeOf,typeInfo,zeroValue,hsz,hz,asInt,asIntOf,hs,hby,hw,hneg,h48i,hn,hroom,Addr.add_lit,hzc,-List.map_replicate]
    rw [hst]
    simp [-List.map_replicate]
   ·unfold OwnB
    rw [List.length_append,List.length_replicate]
    refine ⟨by simp,.inr ⟨g,cap,_,rfl,hbg,hsr,hroom,hcm,?_,?_⟩⟩
    ·simp;omega
    ·rw [Nat.mul_one] at htake
     rw [Nat.add_zero,htake,List.map_append,Nat.mul_one]
     rw [List.take_append_of_le_length (by simp),List.take_of_length_le (by simp)]
  ·have hlo:(l.map byteV).length=l.length*i.size:=by rw [hs];simp
   have hfo:=run_firstCells_some (P:=Tryz.prog) w.drew i.size l.length ⟨g,0,none⟩ l.length cap (l.map byteV) hlo (by simpa using hown.cells (g:=g) rfl)
   have hgr:=grown cap (by omega) (Value.ownBlock (.slice (some ⟨g,0,none⟩) l.length cap))
   have hn:n≠0:=by omega
   have h63':¬ (9223372036854775807 < ((l.length:Int)+(n:Int))):=by omega
   have h48':¬ (281474976710656 < Builtin.nextslicecap (l.length+n) cap):=by
    have:=growslice_fits (need:=l.length+n) (old:=cap) (bytes:=1) (by omega) (by omega)
    omega
   refine ⟨_,_,?_,hgr.1,hgr.2,.inr ⟨_,rfl,Nat.le_refl _⟩⟩
   simp [Builtin.append_,run_underlying Tryz.underlying29,run_underlying Tryz.underlying3,sizeOf,typeInfo,zeroValue,hsz,hz,asInt,asIntOf,hs,hby,hw,hneg,h48i,hn,hroom,h63',h48',Question.forced,newRow,grownCap]
   rw [hs] at hfo
   simp [hfo]
section
variable {o:Oper}{a:Act}{K:Act→World→Prop}{Q:Exit→Act→World→Prop}{w:World}{base:Nat}{v:Value}{l:List UInt8}
theorem wp_appAt (s x:Operand)(ho:o.op=.call { callee:=.builtin .append,args:=#[s,x],argTypes:=#[29,29] })(hs:a.eval s=v)(hown:OwnB w base v l)
  {A:Option Addr} {m c:Nat} {k:List UInt8} (hx:a.eval x=.slice A m c) (hb:Bytes w w.heap.size A m k) (hlen:l.length+m≤140737488355328) (hbase:base≤w.heap.size)
  (h:∀ v' w',OwnB w' base v' (l++k)→w.grownBy w' v.ownBlock→NewOb w v.ownBlock v'.ownBlock→K (a.put o.dst v') w'):o.wp Tryz.prog a w K Q:=by
 obtain ⟨v',w',hr,h2,h3,h4⟩:=app_run_at o.type hown c hb hlen hbase
 unfold Oper.wp execOp
 simp only [ho,resolve,invoke,builtin,Sem.run_bind,Sem.run_pure,Result.andThen_ok,List.map_toArray,List.map_cons,List.map_nil,hs,hx,hr]
 exact h v' w' h2 h3 h4
theorem wp_zerosAt (s x:Operand)(ho:o.op=.call { callee:=.builtin .append,args:=#[s,x],argTypes:=#[29,3] })(hs:a.eval s=v)(hown:OwnB w base v l)
  (n:Nat) (hx:a.eval x=.int .i64 n) (hlen:l.length+n≤140737488355328) (hbase:base≤w.heap.size)
  (h:∀ v' w',OwnB w' base v' (l++List.replicate n 0)→w.grownBy w' v.ownBlock→NewOb w v.ownBlock v'.ownBlock→K (a.put o.dst v') w'):o.wp Tryz.prog a w K Q:=by
 obtain ⟨v',w',hr,h2,h3,h4⟩:=app_zero_run o.type hown n hlen hbase
 unfold Oper.wp execOp
 simp only [ho,resolve,invoke,builtin,Sem.run_bind,Sem.run_pure,Result.andThen_ok,List.map_toArray,List.map_cons,List.map_nil,hs,hx,hr]
 exact h v' w' h2 h3 h4
theorem wpList_appAt {ops:Array Oper}{rest:List Oper}(hgd:o.guard=none)(s x:Operand)(ho:o.op=.call { callee:=.builtin .append,args:=#[s,x],argTypes:=#[29,29] })(hs:a.eval s=v)(hown:OwnB w base v l)
  {A:Option Addr} {m c:Nat} {k:List UInt8} (hx:a.eval x=.slice A m c) (hb:Bytes w w.heap.size A m k) (hlen:l.length+m≤140737488355328) (hbase:base≤w.heap.size)
  (h:∀ v' w',OwnB w' base v' (l++k)→w.grownBy w' v.ownBlock→NewOb w v.ownBlock v'.ownBlock→wpList Tryz.prog ops Q rest (a.put o.dst v') w'):wpList Tryz.prog ops Q (o :: rest) a w :=
 wpList_plain hgd fun _ hK=>wp_appAt s x ho hs hown hx hb hlen hbase fun v' w' h2 h3 h4=>hK _ _ (h v' w' h2 h3 h4)
theorem step_appAt {ops:Array Oper}{E:Prop}(hgd:o.guard=none)(s x:Operand)(ho:o.op=.call { callee:=.builtin .append,args:=#[s,x],argTypes:=#[29,29] })(hs:a.eval s=v)(hown:OwnB w base v l)
  {A:Option Addr} {m c:Nat} {k:List UInt8} (hx:a.eval x=.slice A m c) (hb:Bytes w w.heap.size A m k) (hlen:l.length+m≤140737488355328) (hbase:base≤w.heap.size)
  (h:∀ v' w',OwnB w' base v' (l++k)→w.grownBy w' v.ownBlock→NewOb w v.ownBlock v'.ownBlock→K (a.put o.dst v') w') :
  if Region.wanted o (yielded ops a.tmps)=true then Oper.wp Tryz.prog o a w K Q else E:=by
 have hw:Region.wanted o (yielded ops a.tmps)=true:=by simp [Region.wanted,hgd]
 rw [if_pos hw]
 exact wp_appAt s x ho hs hown hx hb hlen hbase h
theorem step_zerosAt {ops:Array Oper}{E:Prop}(hgd:o.guard=none)(s x:Operand)(ho:o.op=.call { callee:=.builtin .append,args:=#[s,x],argTypes:=#[29,3] })(hs:a.eval s=v)(hown:OwnB w base v l)
  (n:Nat) (hx:a.eval x=.int .i64 n) (hlen:l.length+n≤140737488355328) (hbase:base≤w.heap.size)
  (h:∀ v' w',OwnB w' base v' (l++List.replicate n 0)→w.grownBy w' v.ownBlock→NewOb w v.ownBlock v'.ownBlock→K (a.put o.dst v') w') :
  if Region.wanted o (yielded ops a.tmps)=true then Oper.wp Tryz.prog o a w K Q else E:=by
 have hw:Region.wanted o (yielded ops a.tmps)=true:=by simp [Region.wanted,hgd]
 rw [if_pos hw]
 exact wp_zerosAt s x ho hs hown n hx hlen hbase h
end
theorem Whole.at {w:World}{g:Nat}{t:TypeId}{cs:Array Value}(h:Whole w g t cs)(i:Nat){u:Value}(hu:cs[i]?=some u):w.cell? ⟨g,i,none⟩=some u:=(h.cell i).trans hu
theorem Whole.ownGrown {w w':World}{g:Nat}{t:TypeId}{cs:Array Value}{ob:Option Nat}(h:Whole w g t cs)(hG:w.grownBy w' ob)(ho:ob≠some g):Whole w' g t cs:=(hG.block g h.lt (fun e=>ho e.symm)).trans h
theorem wpList_storeC {ops:Array Oper}{rest:List Oper}{o:Oper}{a:Act}{w:World}{Q:Exit→Act→World→Prop}(hgd:o.guard=none)(ty:TypeId)(x y:Operand)(ho:o.op=.store ty x y)
  {g i:Nat} {t:TypeId} {cs:Array Value} (cs':Array Value) {u:Value} (hx:a.eval x=.pointer (some ⟨g,i,none⟩)) (hy:a.eval y=u) (hw:Whole w g t cs) (hi:i < cs.size)
  (hs:(Tryz.prog.info? ty).map (·.size)=some 1) (h1:u.oneCell'=true) (hcells:u.cells=#[u]) (hcs:cs.setIfInBounds i u=cs')
  (h:∀ w',Whole w' g t cs'→w.grownBy w' (some g)→wpList Tryz.prog ops Q rest (a.put o.dst undef) w'):wpList Tryz.prog ops Q (o :: rest) a w:=by
 subst hcs
 refine wpList_plain hgd fun _ hK=>?_
 have hst:=run_storeCells_at Tryz.prog g i t [u] 0 cs w hw (by simp;omega) (fun x hx=>by simp at hx;subst hx;exact h1)
 unfold Oper.wp execOp
 cases hq:Tryz.prog.info? ty with
 | none=>simp [hq] at hs
 | some d =>
  have hs':d.size=1:=by simpa [hq] using hs
  have hr:(storeVar ty ⟨g,i,none⟩ u).run Tryz.prog w=.ok () (w.setRow g (cs.toList.take (i+0)++[u]++cs.toList.drop (i+0+[u].length)).toArray):=by
   simp only [storeVar,sizeOf,typeInfo,hcells]
   simpa [hq,hs'] using hst
  simp only [ho,hx,hy,Instr.storeAt,Instr.sureAddr,Sem.run_bind,Sem.run_pure,Result.andThen_ok,hr]
  refine hK _ _ (h _ ?_ ⟨rfl,rfl,rfl,by simp,fun k _ hk=>setRow_other w g k _ (fun e=>hk (by simp [e]))⟩)
  have e:(cs.toList.take (i+0)++[u]++cs.toList.drop (i+0+[u].length)).toArray=cs.setIfInBounds i u:=by
   apply Array.ext'
   rw [Array.toList_setIfInBounds,List.set_eq_take_append_cons_drop,if_pos (by simpa using hi)]
   simp
  rw [e]
  exact setRow_heap w g cs _ _ _ hw
theorem wpList_min {ops:Array Oper}{rest:List Oper}{o:Oper}{a:Act}{w:World}{Q:Exit→Act→World→Prop}(hgd:o.guard=none)(x y:Operand){ts:Array TypeId}(ho:o.op=.call { callee:=.builtin .min,args:=#[x,y],argTypes:=ts })
  {p q r:Int} {k:IntKind} (hx:a.eval x=.int k p) (hy:a.eval y=.int k q) (hr:(if q < p then q else p)=r) (h:wpList Tryz.prog ops Q rest (a.put o.dst (.int k r)) w):wpList Tryz.prog ops Q (o :: rest) a w:=by
 subst hr
 refine wpList_plain hgd fun _ hK=>?_
 unfold Oper.wp execOp
 simp only [ho,resolve,invoke,builtin,Sem.run_bind,Sem.run_pure,Result.andThen_ok,List.map_toArray,List.map_cons,List.map_nil,hx,hy,run_min_int2]
 exact hK _ _ h
def Qt (w w':World):Prop:=∃ m,w'=w.drewN m
theorem Qt.refl (w:World):Qt w w:=⟨0,rfl⟩
theorem Qt.drewN {a b:World}(h:Qt a b)(n:Nat):Qt a (b.drewN n):=by
 obtain ⟨m,rfl⟩:=h
 exact ⟨m+n,World.drewN_drewN a m n⟩
theorem Qt.ext {a b:World}(h:Qt a b):Ext a b:=by
 obtain ⟨m,rfl⟩:=h
 exact (Ext.refl a).drewN m
theorem run_mid (W:World)(a:Option Addr)(n c:Nat)(k k':IntKind)(l h:Int)(h0:0≤l)(h1:l≤h)(h2:h≤c) :
  (Instr.slice 29 (.slice a n c) (some (.int k l)) (some (.int k' h)) none).run Tryz.prog W=.ok (.slice (cutAt a c l.toNat) (h.toNat-l.toNat) (c-l.toNat)) W:=by
 rw [run_slice_lh (P:=Tryz.prog) (w:=W) 29 a n c (by kernel_rfl) k k' l h h0 h1 h2]
 have hs:(sizeOf (Tryz.prog.elem 29)).run Tryz.prog W=.ok 1 W:=by kernel_rfl
 rw [hs]
 simp [Result.andThen,sliced,cutAt]
end Go.Proofs.YtaogpmombefmmaaGreatDoor
namespace Go.Proofs.YtaogpmombefmmaaGreatDoor
open Go.RowKit
theorem txt_of (b:ByteArray):∃ l:List UInt8,b=⟨l.toArray⟩:=⟨b.data.toList,by cases b;simp⟩
theorem txt_size (l:List UInt8):(ByteArray.mk l.toArray).size=l.length:=by simp [ByteArray.size]
theorem run_txtLen (W:World)(l:List UInt8)(ty:TypeId):(Builtin.len_ #[9] ty #[.string ⟨l.toArray⟩]).run Tryz.prog W=.ok (.int .i64 (l.length:Int)) W:=by
 rw [run_len_string (P:=Tryz.prog) W 9 ty _ Tryz.underlying9,txt_size]
 rfl
end Go.Proofs.YtaogpmombefmmaaGreatDoor
namespace Go.Proofs.YtaogpmombefmmaaGreatDoor
open Go.RowKit
theorem byte_of {z:Int}{y:Nat}(h:z=(y:Int))(hy:y < 256):z=((UInt8.ofNat y).toNat:Int):=by rw [h,Num.ofNat_low y hy]
set_option maxHeartbeats 1000000 in
set_option maxRecDepth 100000 in
theorem refNum_any (x:Nat)(w:World)(hx:x < 18446744073709551616):Calls Tryz.prog 40 #[.int .u64 x] w (MadeB w (Num.enc x)):=by
 go_enter Tryz.func40,Tryz.ntmps40
 go_wp2
 go_loopw [0,3] (fun y v wr=>∃ (k z:Nat) (pre:List UInt8),y=.int .u64 (z:Int)∧z < 18446744073709551616∧z < 128 ^ (10-k)∧k≤9∧pre.length=k∧pre++Num.encF (10-k) z=Num.enc x∧OwnB wr w.heap.size v pre∧Ext w wr) (fun y _ _=>(intOf y).toNat)
 case atStart=>exact ⟨0,x,[],rfl,hx,Nat.lt_of_lt_of_le hx (by decide),by omega,rfl,rfl,OwnB.nil _ _,Ext.refl _⟩
 case round =>
  obtain ⟨k,z,pre,rfl,hz,hzk,hk,hlen,henc,hO,hE⟩:=hrel
  obtain ⟨f,hf⟩:∃ f,10-k=f+1:=⟨9-k,by omega⟩
  rw [hf] at henc hzk
  have hfit:pre.length+1≤140737488355328:=by omega
  by_cases hs:z < 128
  ·rw [Num.encF_small hs] at henc
   have HE:=hide henc
   have hbyte:((z:Int) % 256)=((UInt8.ofNat z).toNat:Int):=byte_of (by omega) (by omega)
   obtain ⟨bt,rfl⟩:∃ bt:UInt8,z=bt.toNat:=⟨UInt8.ofNat z,by rw [Num.ofNat_low z (by omega)]⟩
   rw [UInt8.ofNat_toNat] at HE
   have hb1:=bytesNew wr [bt] #[.int .u8 (bt.toNat:Int)] 5 (0,0) rfl 1 rfl
   have hO1:=hO.ext (extNew wr (.cells #[.int .u8 (bt.toNat:Int)] 5))
   have hE1:=hE.trans (extNew wr (.cells #[.int .u8 (bt.toNat:Int)] 5))
   have hB1:=hE1.le
   clear henc hlen hbyte hf
   go_wp2_with (at_builtin;refine wpList_appAt rfl (.tmp 15) (.tmp 18) rfl rfl hO1 rfl hb1 hfit hB1 ?_;intro v2 w2 hO2 hG2 hN2)
   go_ret
   exact ⟨v2,rfl,by rw [← HE.out];exact hO2,hO1.below hE1 hG2 hB1⟩
  ·rw [Num.encF_big hs] at henc
   have HE:=hide henc
   have hk9:k≤8:=by
    rcases Nat.lt_or_ge k 9 with h | h
    ·omega
    ·obtain rfl:k=9:=by omega
     obtain rfl:f=0:=by omega
     simp at hzk
     omega
   have HF:=hide (show 10-(k+1)=f by omega)
   have HZ:=hide (show z / 128 < 128 ^ f by rw [Nat.pow_succ] at hzk;exact Nat.div_lt_of_lt_mul (by rw [Nat.mul_comm];exact hzk))
   obtain ⟨bt,hbt⟩:∃ bt:UInt8,bt=UInt8.ofNat (128+z % 128):=⟨_,rfl⟩
   have hbn:bt.toNat=128+z % 128:=by rw [hbt];exact Num.ofNat_low _ (by omega)
   rw [← hbt] at HE
   have hbyte:(128+(z:Int) % 128)=(bt.toNat:Int):=by omega
   have hbl:=bt.toNat_lt
   have hb1:=bytesNew wr [bt] #[.int .u8 (bt.toNat:Int)] 5 (0,0) rfl 1 rfl
   have hO1:=hO.ext (extNew wr (.cells #[.int .u8 (bt.toNat:Int)] 5))
   have hE1:=hE.trans (extNew wr (.cells #[.int .u8 (bt.toNat:Int)] 5))
   have hB1:=hE1.le
   have HLen:=hide hlen
   clear henc hlen hf hbt hbn hzk
   go_wp2_with (at_builtin;refine wpList_appAt rfl (.tmp 6) (.tmp 11) rfl rfl hO1 rfl hb1 hfit hB1 ?_;intro v2 w2 hO2 hG2 hN2)
   go_roundw
   case rel =>
    refine ⟨k+1,z / 128,pre++[bt],?_,by omega,by rw [HF.out];exact HZ.out,by omega,by simp [HLen.out],by rw [HF.out,List.append_assoc];exact HE.out,hO2,hO1.below hE1 hG2 hB1⟩
    rw [show ((z:Int) / 128)=((z / 128:Nat):Int) by omega]
   case measure=>simp [intOf];omega
end Go.Proofs.YtaogpmombefmmaaGreatDoor
namespace Go.Proofs.YtaogpmombefmmaaGreatDoor
open Go.RowKit
def MadeE (w:World)(l:List UInt8)(err:Int)(e:Ending)(w':World):Prop:=∃ v,e=.returned (.tuple #[v,.int .i64 err])∧OwnB w' w.heap.size v l∧Ext w w'
end Go.Proofs.YtaogpmombefmmaaGreatDoor
namespace Go.Proofs.YtaogpmombefmmaaGreatDoor
open Go.RowKit
theorem wpList_appS {ops:Array Oper}{rest:List Oper}{o:Oper}{a:Act}{Q:Exit→Act→World→Prop}{w:World}(hgd:o.guard=none)(s x:Operand)(ho:o.op=.call { callee:=.builtin .append,args:=#[s,x],argTypes:=#[29,9] })
  {base:Nat} {v:Value} {l:List UInt8} (hs:a.eval s=v) (hown:OwnB w base v l) {b:ByteArray} (hx:a.eval x=.string b) (hlen:l.length+b.size≤140737488355328) (hbase:base≤w.heap.size)
  (h:∀ v' w',OwnB w' base v' (l++b.data.toList)→w.grownBy w' v.ownBlock→wpList Tryz.prog ops Q rest (a.put o.dst v') w'):wpList Tryz.prog ops Q (o :: rest) a w:=by
 obtain ⟨i,hi,hz,hsz,hby⟩:=info_parts byte_info
 refine Lib.wpList_append_own_string _ hgd s x 29 9 ho base 5 i Tryz.underlying29 Tryz.underlying9 hi hz hsz hby v l.length (l.map byteV) hs hown b hx (by unfold maxLen;omega) (by omega) hbase ?_
 intro v' w' h2 h3 _
 refine h v' w' ?_ h3
 unfold OwnB
 rw [List.length_append,List.map_append]
 exact h2
theorem refText_any (s:ByteArray)(w:World)(hs:s.size≤1000000):Calls Tryz.prog 58 #[.string s] w (MadeB w (Num.enc s.size++s.data.toList)):=by
 have hw:IntKind.u64.wrap (s.size:Int)=(s.size:Int):=by rw [IntKind.wrap_u64];omega
 have hl:=Num.enc_len s.size
 have hfit:(Num.enc s.size).length+s.size≤140737488355328:=by omega
 have CN:=refNum_any s.size w (by omega)
 generalize Num.enc s.size=E at *
 go_enter Tryz.func58,Tryz.ntmps58
 go_wp2_with (first
  | (go_at_call 40;refine CN.mono ?_;rintro e w2 ⟨v2,rfl,hO2,hE2⟩)
  | (at_builtin;refine wpList_appS rfl (.tmp 6) (.tmp 7) rfl rfl hO2 rfl hfit hE2.le ?_;intro v3 w3 hO3 hG3))
 go_ret
 exact ⟨v3,rfl,hO3,hO2.below hE2 hG3 hE2.le⟩
end Go.Proofs.YtaogpmombefmmaaGreatDoor
namespace Go.Proofs.YtaogpmombefmmaaGreatDoor
open Go.RowKit
theorem results_row2 {fn:Func}{p u:Tmp}{ty:TypeId}(h:fn.results=#[.cell p ty,.tmp u])(tmps:Array Value){w:World}{g:Nat}{cs:Array Value}{x:Value}(hp:tmps.getD p undef=.pointer (some ⟨g,0,none⟩))(hx:tmps.getD u undef=x)
  (hl:(loadVar ty ⟨g,0,none⟩).run Tryz.prog w=.ok (.agg cs) w):(results fn tmps).run Tryz.prog w=.ok (.tuple #[.agg cs,x]) w:=by
 rw [results_cell_tmp h,hp,hx]
 simp [asAddr,Result.andThen,hl]
end Go.Proofs.YtaogpmombefmmaaGreatDoor
namespace Go.Proofs.YtaogpmombefmmaaGreatDoor.Can
open Len
def done (l:List UInt8)(k s t:Nat):Prop:=lenAt l t≠0∧(lenAt l t < k∨lenAt l t=k∧t < s)
structure Words (l:List UInt8)(k s nx was:Nat)(any:Bool)(O:List Nat):Prop where
 len:O.length=l.length
 told:∀ t,t < l.length→done l k s t→O.getD t 0=word l t
 none:∀ t,t < l.length→¬ done l k s t→O.getD t 0=0
 no:any=false→acc l k s=0∧nx=0
 yes:any=true→(nx+1)*2 ^ (15-was)=acc l k s∧1≤was∧was≤k
section
variable {l:List UInt8}{k s nx was:Nat}{any:Bool}{O:List Nat}
theorem Words.start:Words l 1 0 0 0 false (List.replicate l.length 0) where
 len:=by simp
 told:=fun t _ h=>by unfold done at h;omega
 none:=fun t ht _=>by simp [List.getD_eq_getElem?_getD,ht]
 no:=fun _=>⟨acc_start l,rfl⟩
 yes:=fun h=>by cases h
theorem Words.turn (h:Words l k l.length nx was any O):Words l (k+1) 0 nx was any O where
 len:=h.len
 told:=fun t ht hd=>h.told t ht (by unfold done at *;omega)
 none:=fun t ht hd=>h.none t ht (by unfold done at *;omega)
 no:=fun e=>by rw [acc_turn];exact h.no e
 yes:=fun e=>by rw [acc_turn];have:=h.yes e;exact ⟨this.1,this.2.1,by omega⟩
theorem Words.pass (h:Words l k s nx was any O)(hk:1≤k)(hs:s < l.length)(hne:lenAt l s≠k):Words l k (s+1) nx was any O where
 len:=h.len
 told:=fun t ht hd=>h.told t ht (by
  unfold done at *
  refine ⟨hd.1,?_⟩
  rcases hd.2 with e | e
  ·exact .inl e
  ·by_cases e2:t=s
   ·subst e2;omega
   ·exact .inr ⟨e.1,by omega⟩)
 none:=fun t ht hd=>h.none t ht (by unfold done at *;omega)
 no:=fun e=>by rw [acc_step l hk hs,if_neg hne];exact h.no e
 yes:=fun e=>by rw [acc_step l hk hs,if_neg hne];exact h.yes e
def nextW (any:Bool)(nx was k:Nat):Nat:=if any then (nx+1)*2 ^ (k-was) else nx
theorem Words.next (h:Words l k s nx was any O)(hk:1≤k)(hk15:k≤15)(hs:lenAt l s=k):nextW any nx was k=word l s∧nextW any nx was k*2 ^ (15-k)=acc l k s:=by
 have h1:nextW any nx was k*2 ^ (15-k)=acc l k s:=by
  unfold nextW
  cases any with
  | false =>
   obtain ⟨h2,h3⟩:=h.no rfl
   rw [h2,h3]
   simp
  | true =>
   obtain ⟨h2,h3,h4⟩:=h.yes rfl
   rw [if_pos rfl,← h2,Nat.mul_assoc,← Nat.pow_add,show k-was+(15-k)=15-was by omega]
 refine ⟨?_,h1⟩
 unfold word
 rw [if_neg (by omega),hs,← h1,Nat.mul_div_cancel _ (Nat.pow_pos (by omega))]
theorem Words.put (h:Words l k s nx was any O)(hk:1≤k)(hk15:k≤15)(hls:s < l.length)(hs:lenAt l s=k):Words l k (s+1) (nextW any nx was k) k true (O.set s (nextW any nx was k)):=by
 obtain ⟨h1,h2⟩:=h.next hk hk15 hs
 refine ⟨by rw [List.length_set,h.len],fun t ht hd=>?_,fun t ht hd=>?_,(fun e=>by cases e),fun _=>⟨?_,hk,Nat.le_refl _⟩⟩
 ·by_cases e:s=t
  ·subst e
   rw [List.getD_eq_getElem?_getD,List.getElem?_set_self (by rw [h.len];exact ht),Option.getD_some,h1]
  ·rw [List.getD_eq_getElem?_getD,List.getElem?_set_ne e,← List.getD_eq_getElem?_getD]
   exact h.told t ht (by unfold done at *;omega)
 ·have e:s≠t:=fun e=>hd (by subst e;unfold done;omega)
  rw [List.getD_eq_getElem?_getD,List.getElem?_set_ne e,← List.getD_eq_getElem?_getD]
  exact h.none t ht (by unfold done at *;omega)
 ·rw [acc_step l hk hls,if_pos hs,Nat.add_mul,h2,Nat.one_mul]
theorem Words.small (h:Words l k s nx was any O)(hr:right l=true):nx < 32768:=by
 cases any with
 | false=>rw [(h.no rfl).2];decide
 | true =>
  have h1:=(h.yes rfl).1
  have h2:=acc_le l k s
  have h3:=(right_facts hr).2.2
  have h4:0 < 2 ^ (15-was):=Nat.pow_pos (by omega)
  have h5:(nx+1)*1≤(nx+1)*2 ^ (15-was):=Nat.mul_le_mul_left _ h4
  omega
theorem Words.all (h:Words l 16 0 nx was any O)(hr:right l=true):O=codesL l:=by
 have h15:=(right_facts hr).2.1
 refine List.ext_getElem (by rw [h.len];simp [codesL]) fun t h1 h2=>?_
 have ht:t < l.length:=by rw [← h.len];exact h1
 have e1:(codesL l)[t]=word l t:=by simp [codesL]
 rw [e1]
 have e2:O[t]=O.getD t 0:=by rw [List.getD_eq_getElem?_getD,List.getElem?_eq_getElem h1];rfl
 rw [e2]
 by_cases h0:lenAt l t=0
 ·rw [h.none t ht (by unfold done;omega)]
  unfold word
  rw [if_pos h0]
 ·exact h.told t ht (by have:=h15 t ht;unfold done;omega)
end
end Go.Proofs.YtaogpmombefmmaaGreatDoor.Can
namespace Go.Proofs.YtaogpmombefmmaaGreatDoor
open Go.RowKit
def h16V (x:Nat):Value:=.int .u16 (x:Int)
def OwnH (w:World)(base:Nat)(v:Value)(L:List Nat):Prop:=w.ownsRow base 131 1 v L.length (L.map h16V)
theorem h16_info:(Tryz.prog.info? 131).map (fun i=>(i.zero,i.size,i.bytes))=some (some (.int .u16 0),1,2):=by kernel_rfl
section
variable {w w':World}{base g n c:Nat}{v:Value}{L:List Nat}
theorem OwnH.nil (w:World)(base:Nat):OwnH w base (.slice none 0 0) []:=World.ownsRow_nil w base _ _
theorem OwnH.ext (h:OwnH w base v L)(hE:Ext w w'):OwnH w' base v L:=World.ownsRow.kept h (hE.grown none) (by cases hv:v.ownBlock <;> simp)
theorem OwnH.lt (h:OwnH w base v L):∀ k,v.ownBlock=some k→base≤k∧k < w.heap.size:=World.ownsRow.lt h
theorem OwnH.mono {b':Nat}(h:OwnH w base v L)(hb:b'≤base):OwnH w b' v L:=⟨h.1,h.2.imp_right fun ⟨g,cap,cur,e,hg,r⟩=>⟨g,cap,cur,e,Nat.le_trans hb hg,r⟩⟩
theorem OwnH.form (h:OwnH w base v L):∃ A c,v=.slice A L.length c∧L.length≤c∧c≤maxLen∧(L.length=0∨∃ g,A=some ⟨g,0,none⟩∧base≤g∧g < w.heap.size):=by
 rcases h.2 with ⟨rfl,h0⟩ | ⟨g,cap,cur,rfl,hb,hg,hn,hc,hs,ht⟩
 ·exact ⟨none,0,by rw [h0],by omega,by unfold maxLen;omega,.inl h0⟩
 ·exact ⟨_,cap,rfl,hn,hc,.inr ⟨g,rfl,hb,(Array.getElem?_eq_some_iff.1 hg).1⟩⟩
theorem OwnH.cell (h:OwnH w base (.slice (some ⟨g,0,none⟩) L.length c) L){i:Nat}(hi:i < L.length) :
  w.cell? ⟨g,i,none⟩=some (.int .u16 ((L.getD i 0:Nat):Int))∧w.frozen? ⟨g,i,none⟩=false:=by
 refine ⟨?_,World.ownsRow.frozenAt h i⟩
 rw [World.ownsRow.cellAt h i (by omega)]
 simp [h16V,hi]
theorem OwnH.set (h:OwnH w base (.slice (some ⟨g,0,none⟩) L.length c) L)(i x:Nat) :
  OwnH (w.setCell ⟨g,i,none⟩ (.int .u16 (x:Int))) base (.slice (some ⟨g,0,none⟩) L.length c) (L.set i x):=by
 have:=(World.ownsRow.stored h i (.int .u16 (x:Int))).1
 unfold OwnH
 rw [List.length_set,List.map_set]
 exact this
end
section
variable {o:Oper}{a:Act}{Q:Exit→Act→World→Prop}{w:World}{base:Nat}{v:Value}{L:List Nat}
theorem wpList_appH {ops:Array Oper}{rest:List Oper}(hgd:o.guard=none)(s x:Operand)(ho:o.op=.call { callee:=.builtin .append,args:=#[s,x],argTypes:=#[93,93] })(hs:a.eval s=v)(p:Nat)
  (hown:OwnH (w.alloc (.cells #[.int .u16 (p:Int)] 131)) base v L) {c:Nat} (hx:a.eval x=.slice (some ⟨w.heap.size,0,none⟩) 1 c) (hlen:L.length≤1000) (hbase:base≤w.heap.size)
  (h:∀ v' w',OwnH w' base v' (L++[p])→(w.alloc (.cells #[.int .u16 (p:Int)] 131)).grownBy w' v.ownBlock→wpList Tryz.prog ops Q rest (a.put o.dst v') w') :
  wpList Tryz.prog ops Q (o :: rest) a (w.alloc (.cells #[.int .u16 (p:Int)] 131)):=by
 obtain ⟨i,hi,hz,hsz,hby⟩:=info_parts h16_info
 refine wpList_append_own_at _ hgd s x 93 ho base 131 i _ 1 2 Tryz.underlying93 hi hz hsz hby rfl (by omega) v L.length (L.map h16V) hs hown ⟨w.heap.size,0,none⟩ 1 c [.int .u16 (p:Int)] hx rfl (by
  intro j u hu
  match j,hu with
  | 0,hu =>
   have:(⟨w.heap.size,0,none⟩:Addr).add 0=⟨w.heap.size,0,none⟩:=rfl
   rw [this,cellNew]
   simpa using hu
  | j+1,hu=>simp at hu) (by
  intro u hu
  simp at hu
  subst hu
  rfl) (by unfold maxLen;omega) (by omega) (by simp;omega) ?_
 intro v' w' h2 h3 _ h5
 refine h v' w' ?_ h3
 unfold OwnH
 rw [List.length_append,List.map_append]
 exact h2
end
end Go.Proofs.YtaogpmombefmmaaGreatDoor
namespace Go.Proofs.YtaogpmombefmmaaGreatDoor
open Go.RowKit
def IntsL (w:World)(B:Nat)(A:Option Addr)(n:Nat)(L:List Int):Prop :=
 L.length=n∧(n=0∨∃ b off,A=some ⟨b,off,none⟩∧b < B∧∀ i,i < n→w.cell? ⟨b,off+i,none⟩=some (.int .i64 (L.getD i 0)))
def OwnL (w:World)(base:Nat)(v:Value)(L:List Int):Prop:=w.ownsRow base 3 1 v L.length (L.map (Value.int .i64))
theorem intL_info:(Tryz.prog.info? 3).map (fun i=>(i.zero,i.size,i.bytes))=some (some (.int .i64 0),1,8):=by kernel_rfl
theorem OwnL.nil (w:World)(base:Nat):OwnL w base (.slice none 0 0) []:=World.ownsRow_nil w base _ _
theorem OwnL.ext {w w':World}{base:Nat}{v:Value}{L:List Int}(h:OwnL w base v L)(hE:Ext w w'):OwnL w' base v L :=
 World.ownsRow.kept h (hE.grown none) (by cases hv:v.ownBlock <;> simp)
theorem OwnL.lt {w:World}{base:Nat}{v:Value}{L:List Int}(h:OwnL w base v L):∀ k,v.ownBlock=some k→base≤k∧k < w.heap.size:=World.ownsRow.lt h
theorem OwnL.form {w:World}{base:Nat}{v:Value}{L:List Int}(h:OwnL w base v L):∃ A c,v=.slice A L.length c∧L.length≤c∧IntsL w w.heap.size A L.length L:=by
 have hl:=h.lt
 rcases h.2 with ⟨rfl,h0⟩ | ⟨g,cap,cur,rfl,hb,hg,hn,hc,hs,ht⟩
 ·exact ⟨none,0,by rw [h0],by omega,rfl,.inl h0⟩
 ·refine ⟨_,cap,rfl,hn,rfl,.inr ⟨g,0,rfl,(hl g rfl).2,fun i hi=>?_⟩⟩
  have hk:=World.ownsRow.cellAt h i (by omega)
  rw [Nat.zero_add,hk]
  simp [hi]
end Go.Proofs.YtaogpmombefmmaaGreatDoor
namespace Go.Proofs.YtaogpmombefmmaaGreatDoor
open Go.RowKit
theorem wpList_zerosAt {o:Oper}{a:Act}{Q:Exit→Act→World→Prop}{w:World}{base:Nat}{v:Value}{l:List UInt8}{ops:Array Oper}{rest:List Oper}(hgd:o.guard=none)(s x:Operand)(ho:o.op=.call { callee:=.builtin .append,args:=#[s,x],argTypes:=#[29,3] })(hs:a.eval s=v)(hown:OwnB w base v l)
  (n:Nat) (hx:a.eval x=.int .i64 n) (hlen:l.length+n≤140737488355328) (hbase:base≤w.heap.size)
  (h:∀ v' w',OwnB w' base v' (l++List.replicate n 0)→w.grownBy w' v.ownBlock→NewOb w v.ownBlock v'.ownBlock→wpList Tryz.prog ops Q rest (a.put o.dst v') w'):wpList Tryz.prog ops Q (o :: rest) a w :=
 wpList_plain hgd fun _ hK=>wp_zerosAt s x ho hs hown n hx hlen hbase fun v' w' h2 h3 h4=>hK _ _ (h v' w' h2 h3 h4)
theorem OwnB.cut0 {w:World}{base g n c:Nat}{l:List UInt8}(h:OwnB w base (.slice (some ⟨g,0,none⟩) n c) l):OwnB w base (.slice (some ⟨g,0,none⟩) 0 c) []:=by
 refine ⟨rfl,?_⟩
 rcases h.2 with ⟨h0,_⟩ | ⟨x,cap,cur,hv,hb,hx,hn,hm,hs,_⟩
 ·cases h0
 ·simp only [Value.slice.injEq,Option.some.injEq,Addr.mk.injEq,and_true] at hv
  obtain ⟨rfl,_,rfl⟩:=hv
  exact .inr ⟨g,c,cur,rfl,hb,hx,by simp,hm,hs,by simp⟩
set_option maxHeartbeats 1000000 in
set_option maxRecDepth 100000 in
theorem growNil_any (n:Nat)(w:World)(hn:n≤1000000000):Calls Tryz.prog 50 #[.slice none 0 0,.int .i64 (n:Int)] w (MadeB w []):=by
 have hnil:=OwnB.nil w w.heap.size
 have hfit:([]:List UInt8).length+n≤140737488355328:=by simp;omega
 by_cases h0:n=0
 ·subst h0
  go_enter Tryz.func50,Tryz.ntmps50
  go_wp2
  go_ret
  exact ⟨_,rfl,hnil,Ext.refl _⟩
 ·have h1:(0:Int) < (n:Int):=by omega
  have h2:¬ ((n:Int) < 0):=by omega
  clear h0
  go_enter Tryz.func50,Tryz.ntmps50
  go_wp2_with (at_builtin;refine wpList_zerosAt rfl (.tmp 20) (.tmp 21) rfl rfl hnil n rfl hfit (Nat.le_refl _) ?_;intro v2 w2 hO2 hG2 hN2;rw [List.nil_append] at hO2;obtain ⟨g,c,hv2,hg,hc⟩:=hO2.formG (by simp;omega);rw [List.length_replicate] at hv2 hc;subst hv2;have i1:(0:Int)≤(c:Int):=by omega)
  go_ret
  exact ⟨_,rfl,hO2.cut0,(Ext.refl w).grown' hG2⟩
theorem flat_take (ls:List (List UInt8))(i:Nat)(h:i < ls.length):(ls.take (i+1)).flatten=(ls.take i).flatten++ls.getD i []:=by
 rw [List.take_succ_eq_append_getElem h,List.flatten_append,List.getD_eq_getElem?_getD,List.getElem?_eq_getElem h]
 simp
theorem flat_take_le (ls:List (List UInt8))(i:Nat):(ls.take i).flatten.length≤ls.flatten.length:=by
 conv=>rhs;rw [← List.take_append_drop i ls,List.flatten_append,List.length_append]
 omega
set_option maxHeartbeats 2000000 in
set_option maxRecDepth 100000 in
theorem concat_any (A:Option Addr)(c:Nat)(ls:List (List UInt8))(w:World)(hb:Parts w w.heap.size A ls.length ls)(hm:ls.length≤1000000000)(htot:ls.flatten.length≤1000000000) :
  Calls Tryz.prog 36 #[.slice A ls.length c] w (MadeB w ls.flatten):=by
 obtain ⟨_,hb⟩:=hb
 rcases hb with h0 | ⟨blk,off,rfl,hB,hcs⟩
 ·obtain rfl:=List.eq_nil_of_length_eq_zero h0
  have C:=growNil_any 0 w (by omega)
  go_enter Tryz.func36,Tryz.ntmps36
  go_wp2
  go_loop [3,11] (fun s i=>s=.int .i64 0∧i=.int .i64 0) (fun _ _=>0)
  case atStart=>exact ⟨rfl,rfl⟩
  case round =>
   obtain ⟨rfl,rfl⟩:=hrel
   go_wp2_with fail
   refine C.mono ?_
   rintro e w2 ⟨v2,rfl,hO2,hE2⟩
   go_wp2
   go_loopw [6,27] (fun v i wr=>i=.int .i64 0∧OwnB wr w.heap.size v []∧Ext w wr) (fun _ _ _=>0)
   case atStart=>exact ⟨rfl,hO2,hE2⟩
   case round =>
    obtain ⟨rfl,hO3,hE3⟩:=hrel
    go_wp2
    go_ret
    exact ⟨_,rfl,hO3,hE3⟩
 ·obtain ⟨T,hT⟩:∃ T,T=ls.flatten.length:=⟨_,rfl⟩
  have CG:=fun W=>growNil_any T W (by omega)
  have HC:=hide hcs
  have HT:=hide htot
  have HTe:=hide hT
  clear hT htot
  clear hcs
  go_enter Tryz.func36,Tryz.ntmps36
  go_wp2
  go_loop [3,11] (fun s i=>∃ j:Nat,j≤ls.length∧i=.int .i64 (j:Int)∧s=.int .i64 (((ls.take j).flatten.length:Nat):Int)) (fun _ i=>ls.length-(intOf i).toNat)
  case atStart=>exact ⟨0,by omega,rfl,by simp⟩
  case round =>
   obtain ⟨j,hj,rfl,rfl⟩:=hrel
   by_cases hlt:j < ls.length
   ·obtain ⟨A',n',c',hc1,_,hb1⟩:=HC.out j hlt
    have hf:=flat_take ls j hlt
    have hle:=flat_take_le ls (j+1)
    have hn':=hb1.1
    rw [hf,List.length_append,hn'] at hle
    have ht:=HT.out
    have HF:=hide hf
    obtain ⟨s,hs⟩:∃ s,s=(ls.take j).flatten.length:=⟨_,rfl⟩
    rw [← hs] at hle ⊢
    have hw:IntKind.i64.wrap ((s:Int)+(n':Int))=((s+n':Nat):Int):=by rw [IntKind.wrap_i64];omega
    have hpos:¬ (((s+n':Nat):Int) < 0):=by omega
    have HS:=hide hs
    have HN:=hide hn'
    clear hf hb1 hs hn' ht
    go_wp2
    go_round
    case rel=>exact ⟨j+1,by omega,by go_num,by rw [HF.out,List.length_append,HN.out,← HS.out];go_num⟩
    case measure=>simp [intOf];omega
   ·obtain rfl:j=ls.length:=by omega
    rw [List.take_length,← HTe.out]
    go_wp2_with fail
    refine (CG _).mono ?_
    rintro e w2 ⟨v2,rfl,hO2,hE2⟩
    go_wp2
    go_loopw [6,27] (fun v i wr=>∃ j:Nat,j≤ls.length∧i=.int .i64 (j:Int)∧OwnB wr w.heap.size v (ls.take j).flatten∧Ext w wr) (fun _ i _=>ls.length-(intOf i).toNat)
    case atStart=>exact ⟨0,by omega,rfl,by simpa using hO2,hE2⟩
    case round =>
     obtain ⟨j,hj,rfl,hO3,hE3⟩:=hrel
     by_cases hlt:j < ls.length
     ·obtain ⟨A',n',c',hc1,_,hb1⟩:=HC.out j hlt
      have hc2:=(hE3.cell (i:=off+j) hB).trans hc1
      have hb2:=hE3.bytes hb1
      have hf:=flat_take ls j hlt
      have hle:=flat_take_le ls (j+1)
      rw [hf,List.length_append,hb1.1] at hle
      have HF:=hide hf
      have hfit:(ls.take j).flatten.length+n'≤140737488355328:=by have:=HT.out;omega
      have hB3:=hE3.le
      clear hf hb1 hle hc1
      go_wp2_with (at_builtin;refine wpList_appAt rfl (.tmp 31) (.tmp 32) rfl rfl hO3 rfl hb2 hfit hB3 ?_;intro v4 w4 hO4 hG4 _)
      go_roundw
      case rel=>exact ⟨j+1,by omega,by go_num,by rw [HF.out];exact hO4,hO3.below hE3 hG4 hB3⟩
      case measure=>simp [intOf];omega
     ·obtain rfl:j=ls.length:=by omega
      rw [List.take_length] at hO3
      go_wp2
      go_ret
      exact ⟨_,rfl,hO3,hE3⟩
theorem all_any (A:Option Addr)(c:Nat)(ls:List (List UInt8))(w:World)(hb:Parts w w.heap.size A ls.length ls)(hm:ls.length≤1000000000)(htot:ls.flatten.length≤1000000000) :
  Calls Tryz.prog 18 #[.slice A ls.length c] w (MadeB w ls.flatten):=by
 have C:=concat_any A c ls w hb hm htot
 clear hb
 go_enter Tryz.func18,Tryz.ntmps18
 go_wp2_with fail
 refine C.mono ?_
 rintro e w2 ⟨v2,rfl,hO2,hE2⟩
 go_wp2
 go_ret
 exact ⟨_,rfl,hO2,hE2⟩
end Go.Proofs.YtaogpmombefmmaaGreatDoor
namespace Go.Proofs.YtaogpmombefmmaaGreatDoor
open Go.RowKit
theorem Num.or128 (z:Nat):bits .or .u8 ((z:Int) % 256) 128=((128+z % 128:Nat):Int):=by
 have e:(z:Int) % 256=((z % 256:Nat):Int):=by omega
 rw [e,show (128:Int)=((128:Nat):Int) from rfl,u8_or_nat _ _ (Nat.mod_lt _ (by decide)) (by decide)]
 have H:∀ y,y < 256→y ||| 128=128+y % 128:=by decide +kernel
 rw [H _ (Nat.mod_lt z (by decide)),show z % 256 % 128=z % 128 by omega]
set_option maxHeartbeats 1000000 in
set_option maxRecDepth 100000 in
theorem ownNum_any (x:Nat)(w:World)(hx:x < 18446744073709551616):Calls Tryz.prog 45 #[.int .u64 x] w (MadeB w (Num.enc x)):=by
 go_enter Tryz.func45,Tryz.ntmps45
 go_wp2
 go_loopw [0,3] (fun y v wr=>∃ (k z:Nat) (pre:List UInt8),y=.int .u64 (z:Int)∧z < 18446744073709551616∧z < 128 ^ (10-k)∧k≤9∧pre.length=k∧pre++Num.encF (10-k) z=Num.enc x∧OwnB wr w.heap.size v pre∧Ext w wr) (fun y _ _=>(intOf y).toNat)
 case atStart=>exact ⟨0,x,[],rfl,hx,Nat.lt_of_lt_of_le hx (by decide),by omega,rfl,rfl,OwnB.nil _ _,Ext.refl _⟩
 case round =>
  obtain ⟨k,z,pre,rfl,hz,hzk,hk,hlen,henc,hO,hE⟩:=hrel
  obtain ⟨f,hf⟩:∃ f,10-k=f+1:=⟨9-k,by omega⟩
  rw [hf] at henc hzk
  have hfit:pre.length+1≤140737488355328:=by omega
  by_cases hs:z < 128
  ·rw [Num.encF_small hs] at henc
   have HE:=hide henc
   obtain ⟨bt,rfl⟩:∃ bt:UInt8,z=bt.toNat:=⟨UInt8.ofNat z,by rw [Num.ofNat_low z (by omega)]⟩
   rw [UInt8.ofNat_toNat] at HE
   have hs':¬ (128≤(bt.toNat:Int)):=by omega
   have hb1:=bytesNew wr [bt] #[.int .u8 (bt.toNat:Int)] 5 (0,0) rfl 1 rfl
   have hO1:=hO.ext (extNew wr (.cells #[.int .u8 (bt.toNat:Int)] 5))
   have hE1:=hE.trans (extNew wr (.cells #[.int .u8 (bt.toNat:Int)] 5))
   have hB1:=hE1.le
   clear henc hlen hf
   go_wp2_with (at_builtin;refine wpList_appAt rfl (.tmp 14) (.tmp 17) rfl rfl hO1 rfl hb1 hfit hB1 ?_;intro v2 w2 hO2 hG2 hN2)
   go_ret
   exact ⟨v2,rfl,by rw [← HE.out];exact hO2,hO1.below hE1 hG2 hB1⟩
  ·rw [Num.encF_big hs] at henc
   have HE:=hide henc
   have hk9:k≤8:=by
    rcases Nat.lt_or_ge k 9 with h | h
    ·omega
    ·obtain rfl:k=9:=by omega
     obtain rfl:f=0:=by omega
     simp at hzk
     omega
   have HF:=hide (show 10-(k+1)=f by omega)
   have HZ:=hide (show z / 128 < 128 ^ f by rw [Nat.pow_succ] at hzk;exact Nat.div_lt_of_lt_mul (by rw [Nat.mul_comm];exact hzk))
   obtain ⟨bt,hbt⟩:∃ bt:UInt8,bt=UInt8.ofNat (128+z % 128):=⟨_,rfl⟩
   have hbn:bt.toNat=128+z % 128:=by rw [hbt];exact Num.ofNat_low _ (by omega)
   rw [← hbt] at HE
   have hor:=Num.or128 z
   rw [← hbn] at hor
   have hs':128≤(z:Int):=by omega
   have hb1:=bytesNew wr [bt] #[.int .u8 (bt.toNat:Int)] 5 (0,0) rfl 1 rfl
   have hO1:=hO.ext (extNew wr (.cells #[.int .u8 (bt.toNat:Int)] 5))
   have hE1:=hE.trans (extNew wr (.cells #[.int .u8 (bt.toNat:Int)] 5))
   have hB1:=hE1.le
   have HLen:=hide hlen
   clear henc hlen hf hbt hbn hzk
   go_wp2_with (at_builtin;refine wpList_appAt rfl (.tmp 8) (.tmp 12) rfl rfl hO1 rfl hb1 hfit hB1 ?_;intro v2 w2 hO2 hG2 hN2)
   go_roundw
   case rel =>
    refine ⟨k+1,z / 128,pre++[bt],?_,by omega,by rw [HF.out];exact HZ.out,by omega,by simp [HLen.out],by rw [HF.out,List.append_assoc];exact HE.out,hO2,hO1.below hE1 hG2 hB1⟩
    rw [show ((z:Int) / 128)=((z / 128:Nat):Int) by omega]
   case measure=>simp [intOf];omega
theorem ownText_any (s:ByteArray)(w:World)(hs:s.size≤1000000):Calls Tryz.prog 46 #[.string s] w (MadeB w (Num.enc s.size++s.data.toList)):=by
 have hw:IntKind.u64.wrap (s.size:Int)=(s.size:Int):=by rw [IntKind.wrap_u64];omega
 have hl:=Num.enc_len s.size
 have hfit:(Num.enc s.size).length+s.size≤140737488355328:=by omega
 have CN:=ownNum_any s.size w (by omega)
 generalize Num.enc s.size=E at *
 go_enter Tryz.func46,Tryz.ntmps46
 go_wp2_with (first
  | (go_at_call 45;refine CN.mono ?_;rintro e w2 ⟨v2,rfl,hO2,hE2⟩)
  | (at_builtin;refine wpList_appS rfl (.tmp 6) (.tmp 7) rfl rfl hO2 rfl hfit hE2.le ?_;intro v3 w3 hO3 hG3))
 go_ret
 exact ⟨v3,rfl,hO3,hO2.below hE2 hG3 hE2.le⟩
end Go.Proofs.YtaogpmombefmmaaGreatDoor
namespace Go.Proofs.YtaogpmombefmmaaGreatDoor
open Go.RowKit
theorem OwnI.formG {w:World}{base:Nat}{v:Value}{L:List Int}(h:OwnI w base v L)(hl:0 < L.length):∃ g c,v=.slice (some ⟨g,0,none⟩) L.length c∧base≤g∧L.length≤c:=by
 have hlt:=h.lt
 rcases h.2 with ⟨rfl,h0⟩ | ⟨g,cap,cur,rfl,hb,hg,hn,hc,hs,ht⟩
 ·omega
 ·exact ⟨g,cap,rfl,(hlt g rfl).1,hn⟩
theorem OwnI.cell {w:World}{base g n c:Nat}{L:List Int}(h:OwnI w base (.slice (some ⟨g,0,none⟩) n c) L){i:Nat}(hi:i < L.length):w.cell? ⟨g,i,none⟩=some (.int .i64 (L.getD i 0))∧w.frozen? ⟨g,i,none⟩=false:=by
 have hn:n=L.length:=by
  rcases h.2 with ⟨h',_⟩ | ⟨_,_,_,h',_⟩
  ·simp at h'
  ·simp only [Value.slice.injEq] at h';exact h'.2.1
 subst hn
 refine ⟨?_,World.ownsRow.frozenAt h i⟩
 rw [World.ownsRow.cellAt h i (by omega)]
 simp [hi]
theorem OwnI.put {w:World}{base g n c:Nat}{L:List Int}(h:OwnI w base (.slice (some ⟨g,0,none⟩) n c) L)(i:Nat)(x:Int):OwnI (w.setCell ⟨g,i,none⟩ (.int .i64 x)) base (.slice (some ⟨g,0,none⟩) n c) (L.set i x):=by
 have hn:n=L.length:=by
  rcases h.2 with ⟨h',_⟩ | ⟨_,_,_,h',_⟩
  ·simp at h'
  ·simp only [Value.slice.injEq] at h';exact h'.2.1
 subst hn
 have:=(World.ownsRow.stored h i (.int .i64 x)).1
 unfold OwnI
 rw [List.length_set,List.map_set]
 exact this
end Go.Proofs.YtaogpmombefmmaaGreatDoor
namespace Go.Proofs.YtaogpmombefmmaaGreatDoor
open Go.RowKit
def Entered (K:Nat):Prop:=∀ (args:Array Value) (W:World),(callFunc K args).run Tryz.prog W=.ok (.enter K args) W
theorem entered_of {K : Nat} {fn : Func} {c : Code} (hf : Tryz.prog.funcs[K]? = some fn) (hname : (fn.name == "runtime.NumGoroutine") = false) (hb : fn.body = some c) : Entered K := by
 intro args W
 have h1 : fn.name ≠ "runtime.NumGoroutine" := by simpa using hname
 simp [callFunc,hf,h1,hb]
end Go.Proofs.YtaogpmombefmmaaGreatDoor
