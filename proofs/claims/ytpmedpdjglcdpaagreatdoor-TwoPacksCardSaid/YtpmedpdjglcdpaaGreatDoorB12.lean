/- Slices of uint32 that came in, as numbers. Options as values; which ones may be for which version; what options that came in read as. Slices of texts that came in. Slices of slices of numbers: as values; what those that came in read as; a l -/
import Derived.Test.YtpmedpdjglcdpaaGreatDoorB02
import Derived.Test.YtpmedpdjglcdpaaGreatDoorB05
import Derived.Test.YtpmedpdjglcdpaaGreatDoorB06
import Derived.Test.YtpmedpdjglcdpaaGreatDoorB08
import Derived.Deep.Slices
import Derived.Laws.StructEq
import Derived.Laws.OwnMore
import Derived.Maps.AppendAt
namespace Go.Proofs.YtpmedpdjglcdpaaGreatDoor
section
open Go.ChangeShapes Go.WideShapes Go.ChangeAt Go.WideMaps Go.WideElems Go.RowKit
def U32At (w:World)(B:Nat)(A:Option Addr)(n:Nat)(L:List Nat):Prop :=
 L.length=n∧(∀ i,L.getD i 0<4294967296)∧(n=0∨∃ b off,A=some ⟨b,off,none⟩∧b<B∧∀ i,i<n→w.cell? ⟨b,off+i,none⟩=some (.int .u32 ((L.getD i 0:Nat):Int)))
theorem U32At.ext {w w':World}{A:Option Addr}{n:Nat}{L:List Nat}(h:U32At w w.heap.size A n L)(hE:Ext w w'):U32At w' w'.heap.size A n L:=by
 refine⟨h.1,h.2.1,h.2.2.imp_right ?_⟩
 rintro⟨b,off,e,hb,hc⟩
 exact⟨b,off,e,Nat.lt_of_lt_of_le hb hE.le,fun i hi=>(hE.cell (i:=off+i) hb).trans (hc i hi)⟩
end
section
open Go.ChangeShapes Go.WideShapes Go.ChangeAt Go.WideMaps Go.WideElems Go.RowKit
structure OptV where
 block:Int
 plain:Bool
 bucket:Int
 data:Int
 parity:Int
 chunk:Int
def JC (x:Int):Prop:=-9223372036854775808≤x∧x≤9223372036854775807
def OptV.ok (o:OptV):Prop:=JC o.block∧JC o.bucket∧JC o.data∧JC o.parity∧JC o.chunk
def zJ (b:Int)(p:Bool)(k d y c:Int):Array Value:=#[.int .i64 b,.bool p,.int .i64 k,.int .i64 d,.int .i64 y,.int .i64 c]
def aef (o:OptV):Value:=.agg (zJ o.block o.plain o.bucket o.data o.parity o.chunk)
theorem vU:(Tryz.prog.info? 23).map (·.size)=some 6:=by kernel_rfl
namespace Opt
def MayE (v b k d y c:Int):Prop :=
 (16≤b∧b≤32768)∧((v=1∧k=0∧d=0∧y=0∧c=0)∨(v=2∧1≤k∧k≤64∧d=0∧y=0∧c=0) ∨
  (v=3∧1≤k∧k≤64∧1≤d∧0≤y∧d+y≤255∧1≤c∧c≤4096))
instance (v b k d y c:Int):Decidable (MayE v b k d y c):=by unfold MayE;infer_instance
def chk (v b k d y c:Int):Int:=if 1≤v∧v≤3 then (if MayE v b k d y c then 0 else 9) else 4
theorem acH {v b k d y c:Int}(h:¬ (1≤v∧v≤3)):chk v b k d y c=4:=if_neg h
theorem yT {v b k d y c:Int}(h1:1≤v)(h3:v≤3)(h:¬ MayE v b k d y c):chk v b k d y c=9:=by unfold chk;rw[if_pos ⟨h1,h3⟩,if_neg h]
theorem aaI {v b k d y c:Int}(h1:1≤v)(h3:v≤3)(h:MayE v b k d y c):chk v b k d y c=0:=by unfold chk;rw[if_pos ⟨h1,h3⟩,if_pos h]
end Opt
theorem abn:Tryz.prog.cellsOf 23=6:=by kernel_rfl
set_option maxRecDepth 1000000 in
theorem acI {H:Type}{enc:TypeId×Value→H}{W:World}{cs:Array Value}{d:DataW H}{p:List MemPlace}(hs:cs.size=Tryz.prog.cellsOf 23)(h:DataW.Trod enc Tryz.prog W 0 (fun _=>true) true 23 (.agg cs) d p) :
  ∃ t:OptV,cs=zJ t.block t.plain t.bucket t.data t.parity t.chunk∧t.ok:=by
 obtain⟨fuel,hf⟩:=h
 have hl:cs.toList.length=6:=by rw[Array.length_toList,hs,abn]
 rw[← Array.toArray_toList (xs:=cs)]
 change DataW.trod enc Tryz.prog W 0 (fun _=>true) true fuel 23 cs.toList=some _ at hf
 generalize cs.toList=l at *
 obtain⟨xs,q,_,_,_,hlen,hx⟩:=DataW.trod_struct Tryz.underlying23 hf
 have c1:Tryz.prog.cellsOf 3=1:=by kernel_rfl
 have c2:Tryz.prog.cellsOf 4=1:=by kernel_rfl
 match l,hl,xs,hlen with
 | [v0,v1,v2,v3,v4,v5],_,[y0,y1,y2,y3,y4,y5],_ =>
  have g0:=hx 0 _ rfl
  have g1:=hx 1 _ rfl
  have g2:=hx 2 _ rfl
  have g3:=hx 3 _ rfl
  have g4:=hx 4 _ rfl
  have g5:=hx 5 _ rfl
  simp[c1,c2]at g0 g1 g2 g3 g4 g5
  obtain⟨z0,e0,_,w0⟩:=DataW.trod_int Tryz.underlying3 g0
  obtain⟨z1,e1,_⟩:=DataW.trod_bool Tryz.underlying4 g1
  obtain⟨z2,e2,_,w2⟩:=DataW.trod_int Tryz.underlying3 g2
  obtain⟨z3,e3,_,w3⟩:=DataW.trod_int Tryz.underlying3 g3
  obtain⟨z4,e4,_,w4⟩:=DataW.trod_int Tryz.underlying3 g4
  obtain⟨z5,e5,_,w5⟩:=DataW.trod_int Tryz.underlying3 g5
  simp only[List.cons.injEq,and_true]at e0 e1 e2 e3 e4 e5
  subst e0 e1 e2 e3 e4 e5
  exact⟨⟨z0,z1,z2,z3,z4,z5⟩,rfl,⟨bounds_i64 w0,bounds_i64 w2,bounds_i64 w3,bounds_i64 w4,bounds_i64 w5⟩⟩
end
section
open Go.ChangeShapes Go.WideShapes Go.ChangeAt Go.WideMaps Go.WideElems Go.RowKit
def IRow (w:World)(B:Nat)(v:Value)(l:List Int):Prop:=∃ a c,v=.slice a l.length c∧l.length≤c∧c≤maxLen∧IntsAt w B a l.length l
theorem IRow.ext {w w':World}{v:Value}{l:List Int}(h:IRow w w.heap.size v l)(hE:Ext w w'):IRow w' w'.heap.size v l:=by
 obtain⟨a,c,e,h1,h2,h3⟩:=h
 exact⟨a,c,e,h1,h2,h3.later hE⟩
def ILists (w:World)(B:Nat)(A:Option Addr)(n:Nat)(ls:List (List Int)):Prop :=
 ls.length=n∧(n=0∨∃ b off,A=some ⟨b,off,none⟩∧b<B∧∀ i,i<n→∃ v,w.cell? ⟨b,off+i,none⟩=some v∧IRow w B v (ls.getD i []))
theorem ILists.ext {w w':World}{A:Option Addr}{n:Nat}{ls:List (List Int)}(h:ILists w w.heap.size A n ls)(hE:Ext w w'):ILists w' w'.heap.size A n ls:=by
 refine⟨h.1,h.2.imp_right fun ⟨b,off,hA,hB,hc⟩=>⟨b,off,hA,Nat.lt_of_lt_of_le hB hE.le,fun i hi=>?_⟩⟩
 obtain⟨v,h1,h2⟩:=hc i hi
 exact⟨v,by rw[hE.cell hB];exact h1,h2.ext hE⟩
theorem ILists.at {w:World}{A:Option Addr}{n:Nat}{ls:List (List Int)}(h:ILists w w.heap.size A n ls){i:Nat}(hi:i<n) :
  ∃ b off a c,A=some ⟨b,off,none⟩∧w.cell? ⟨b,off+i,none⟩=some (.slice a (ls.getD i []).length c)∧(ls.getD i []).length≤c∧c≤maxLen∧IntsAt w w.heap.size a (ls.getD i []).length (ls.getD i []):=by
 rcases h.2 with h0 | ⟨b,off,rfl,_,hc⟩
 ·omega
 obtain⟨v,h1,a,c,rfl,h2,h3,h4⟩:=hc i hi
 exact⟨b,off,a,c,rfl,h1,h2,h3,h4⟩
end
section
open Go.ChangeShapes Go.WideShapes Go.ChangeAt Go.WideMaps Go.WideElems Go.RowKit
def acJ (x:Nat):Value:=.int .u32 (x:Int)
def OwnU (w:World)(base:Nat)(v:Value)(L:List Nat):Prop:=w.ownsRow base 72 1 v L.length (L.map acJ)
theorem acK:(Tryz.prog.info? 72).map (fun i=>(i.zero,i.size,i.bytes))=some (some (.int .u32 0),1,4):=by kernel_rfl
section
variable {w w':World}{base g c:Nat}{v:Value}{L:List Nat}
theorem OwnU.ext (h:OwnU w base v L)(hE:Ext w w'):OwnU w' base v L:=World.ownsRow.kept h (hE.grown none) (by cases hv:v.ownBlock<;>simp)
theorem OwnU.lt (h:OwnU w base v L):∀ k,v.ownBlock=some k→base≤k∧k<w.heap.size:=World.ownsRow.lt h
theorem OwnU.cell {n:Nat}(h:OwnU w base (.slice (some ⟨g,0,none⟩) n c) L){i:Nat}(hi:i<L.length)(hn:n=L.length) :
  w.cell? ⟨g,i,none⟩=some (.int .u32 ((L.getD i 0:Nat):Int))∧w.frozen? ⟨g,i,none⟩=false:=by
 subst hn
 refine⟨?_,World.ownsRow.frozenAt h i⟩
 rw[World.ownsRow.cellAt h i (by omega)]
 simp[acJ,hi]
theorem OwnU.set {n:Nat}(h:OwnU w base (.slice (some ⟨g,0,none⟩) n c) L)(i x:Nat)(hn:n=L.length) :
  OwnU (w.setCell ⟨g,i,none⟩ (.int .u32 (x:Int))) base (.slice (some ⟨g,0,none⟩) n c) (L.set i x):=by
 subst hn
 have:=(World.ownsRow.stored h i (.int .u32 (x:Int))).1
 unfold OwnU
 rw[List.length_set,List.map_set]
 exact this
theorem OwnU.at {n:Nat}(h:OwnU w base (.slice (some ⟨g,0,none⟩) n c) L)(hn:n=L.length)(hb:∀ i,L.getD i 0<4294967296):U32At w w.heap.size (some ⟨g,0,none⟩) n L:=by
 refine⟨hn.symm,hb,.inr ⟨g,0,rfl,(h.lt g rfl).2,fun i hi=>?_⟩⟩
 rw[Nat.zero_add]
 exact (h.cell (by omega) hn).1
end
end
section
open Go.RowKit Len
abbrev qM:=Nat×Value
def xy (y:qM):List Value:=[.int .u64 ((y.1:Nat):Int),y.2]
theorem js:(Tryz.prog.info? 185).map (fun i=>(i.zero,i.size,i.bytes))=some (some (.agg #[.int .u64 0,.slice none 0 0]),2,32):=by kernel_rfl
theorem Y6:∀ (Y:List qM) (i j:Nat),i<Y.length→j<2→(Y.flatMap xy)[i*2+j]?=(xy (Y.getD i (0,undef)))[j]?
 | y::Y,0,j,_,hj=>by
  rw[List.flatMap_cons,Nat.zero_mul,Nat.zero_add,List.getElem?_append_left (by simp[xy];omega)]
  rfl
 | y::Y,i+1,j,h,hj=>by
  rw[List.flatMap_cons,List.getElem?_append_right (by simp[xy];omega)]
  have:=Y6 Y i j (by simpa using h) hj
  rw[show (i+1)*2+j-(xy y).length=i*2+j by simp[xy];omega,this]
  simp
theorem Y7:∀ Y:List qM,(Y.flatMap xy).length=Y.length*2
 | []=>rfl
 | y::Y=>by rw[List.flatMap_cons,List.length_append,Y7 Y];simp[xy];omega
def OwnY (w:World)(base:Nat)(v:Value)(Y:List qM):Prop:=w.ownsRow base 185 2 v Y.length (Y.flatMap xy)
def SaysY (w:World)(B:Nat)(Y:List qM)(X:List Len.Item):Prop:=Y.length=X.length∧∀ i,i<X.length→(Y.getD i (0,undef)).1=(X.getD i (0,[])).1∧OwnL w 0 (Y.getD i (0,undef)).2 ((X.getD i (0,[])).2.map Int.ofNat)∧∀ k,(Y.getD i (0,undef)).2.ownBlock=some k→k<B
def ItL (w:World)(base:Nat)(v:Value)(X:List Len.Item):Prop:=∃ Y,OwnY w base v Y∧SaysY w w.heap.size Y X
section
variable {w w':World}{base g:Nat}{v u:Value}{Y:List qM}{X:List Len.Item}{L:List Int}
theorem OwnY.lt (h:OwnY w base v Y):∀ k,v.ownBlock=some k→base≤k∧k<w.heap.size:=World.ownsRow.lt h
theorem OwnL.notY (h:OwnL w 0 u L)(hY:OwnY w base v Y)(hg:v.ownBlock=some g):u.ownBlock≠some g:=by
 intro e
 rcases h.2 with ⟨rfl,_⟩ | ⟨g1,c1,cur1,rfl,_,h1,_⟩
 ·cases e
 rcases hY.2 with ⟨rfl,_⟩ | ⟨g2,c2,cur2,rfl,_,h2,_⟩
 ·cases hg
 simp only[Value.ownBlock,Option.some.injEq]at e hg
 subst e
 subst hg
 rw[h1]at h2
 simp only[Option.some.injEq,Obj.cells.injEq]at h2
 exact absurd h2.2.1 (by decide)
theorem SaysY.ext {B:Nat}(h:SaysY w B Y X)(hE:Ext w w'):SaysY w' B Y X:=⟨h.1,fun i hi=>⟨(h.2 i hi).1,(h.2 i hi).2.1.ext hE,(h.2 i hi).2.2⟩⟩
theorem SaysY.up {B C:Nat}(h:SaysY w B Y X)(hB:B≤C):SaysY w C Y X:=⟨h.1,fun i hi=>⟨(h.2 i hi).1,(h.2 i hi).2.1,fun k hk=>Nat.lt_of_lt_of_le ((h.2 i hi).2.2 k hk) hB⟩⟩
theorem SaysY.grownY {B:Nat}{Y2:List qM}(h:SaysY w B Y X)(hY:OwnY w base v Y2)(hG:w.grownBy w' v.ownBlock):SaysY w' B Y X:=⟨h.1,fun i hi=>⟨(h.2 i hi).1,World.ownsRow.kept (h.2 i hi).2.1 hG (by
 cases hb:v.ownBlock with
 | none=>cases (Y.getD i (0,undef)).2.ownBlock<;>simp
 | some g=>exact .inr ((h.2 i hi).2.1.notY hY hb)),(h.2 i hi).2.2⟩⟩
theorem OwnY.ext (h:OwnY w base v Y)(hE:Ext w w'):OwnY w' base v Y:=World.ownsRow.kept h (hE.grown none) (by cases hv:v.ownBlock<;>simp)
theorem OwnY.mono {b':Nat}(h:OwnY w base v Y)(hb:b'≤base):OwnY w b' v Y:=⟨h.1,h.2.elim Or.inl fun ⟨g,cap,cur,hv,hg,r⟩=>Or.inr ⟨g,cap,cur,hv,Nat.le_trans hb hg,r⟩⟩
theorem ItL.ext (h:ItL w base v X)(hE:Ext w w'):ItL w' base v X:=by
 obtain⟨Y,h1,h2⟩:=h
 exact⟨Y,h1.ext hE,(h2.ext hE).up hE.le⟩
theorem ItL.mono {b':Nat}(h:ItL w base v X)(hb:b'≤base):ItL w b' v X:=by
 obtain⟨Y,h1,h2⟩:=h
 exact⟨Y,h1.mono hb,h2⟩
theorem ItL.nil (w:World)(base:Nat):ItL w base (.slice none 0 0) []:=⟨[],World.ownsRow_nil w base _ _,rfl,fun i hi=>absurd hi (by simp)⟩
theorem ItL.lt (h:ItL w base v X):∀ k,v.ownBlock=some k→base≤k∧k<w.heap.size:=by
 obtain⟨Y,h1,_⟩:=h
 exact h1.lt
theorem OwnY.form (h:OwnY w base v Y):∃ A c,v=.slice A Y.length c∧Y.length≤c∧c≤maxLen∧(Y.length=0∨∃ g,A=some ⟨g,0,none⟩∧∀ i,i<Y.length→w.cell? ⟨g,i*2,none⟩=some (.int .u64 (((Y.getD i (0,undef)).1:Nat):Int))∧w.cell? ⟨g,i*2+1,none⟩=some (Y.getD i (0,undef)).2):=by
 rcases h.2 with ⟨rfl,h0⟩ | ⟨g,cap,cur,rfl,hb,hgg,hn,hc,hs,ht⟩
 ·exact⟨none,0,by rw[h0],by omega,by unfold maxLen;omega,.inl h0⟩
 ·refine⟨_,cap,rfl,hn,hc,.inr ⟨g,rfl,fun i hi=>?_⟩⟩
  have hcell:∀ j,j<2→w.cell? ⟨g,i*2+j,none⟩=(xy (Y.getD i (0,undef)))[j]?:=fun j hj=>by
   rw[cell_of_row w g (i*2+j) cur _ _ hgg,← Y6 Y i j hi hj,← ht,List.getElem?_take,if_pos (by omega)]
   simp
  exact⟨(hcell 0 (by omega)).trans (by simp[xy]),(hcell 1 (by omega)).trans (by simp[xy])⟩
structure AtI (w:World)(B:Nat)(A:Option Addr)(i:Nat)(x:Len.Item):Prop where
 ex:∃ g q C,A=some ⟨g,0,none⟩∧w.cell? ⟨g,i*2,none⟩=some (.int .u64 ((x.1:Nat):Int))∧w.cell? ⟨g,i*2+1,none⟩=some (.slice q x.2.length C)∧OwnL w 0 (.slice q x.2.length C) (x.2.map Int.ofNat)∧∀ k,(Value.slice q x.2.length C).ownBlock=some k→k<B
theorem ItL.form (h:ItL w base v X):∃ A c,v=.slice A X.length c∧X.length≤c∧c≤maxLen∧∀ i,i<X.length→AtI w w.heap.size A i (X.getD i (0,[])):=by
 obtain⟨Y,h1,h2,h3⟩:=h
 obtain⟨A,c,rfl,hc,hm,hA⟩:=h1.form
 rw[h2]at hc hA ⊢
 refine⟨A,c,rfl,hc,hm,fun i hi=>?_⟩
 rcases hA with h0 | ⟨g,rfl,hg⟩
 ·omega
 obtain⟨k1,k2⟩:=hg i hi
 obtain⟨e1,e2,e3⟩:=h3 i hi
 obtain⟨q,C,hq,_,_⟩:=e2.form
 rw[List.length_map]at hq
 rw[hq]at k2 e2 e3
 rw[e1]at k1
 exact⟨g,q,C,rfl,k1,k2,e2,e3⟩
end
section
variable {o:Oper}{a:Act}{Q:Exit→Act→World→Prop}{w:World}{base:Nat}{v:Value}{X:List Len.Item}
set_option maxRecDepth 100000 in
theorem xR {ops:Array Oper}{rest:List Oper}(hgd:o.guard=none)(s x:Operand)(ho:o.op=.call { callee:=.builtin .append,args:=#[s,x],argTypes:=#[183,183] })(hs:a.eval s=v){q:Option Addr}{C:Nat}{it:Len.Item}
  (hown:ItL w base v X) (hit:OwnL w 0 (.slice q it.2.length C) (it.2.map Int.ofNat)) {c:Nat} (hx:a.eval x=.slice (some ⟨w.heap.size,0,none⟩) 1 c) (hlen:X.length≤1000) (hbase:base≤w.heap.size)
  (h:∀ v' w',ItL w' base v' (X++[it])→(w.alloc (.cells #[.int .u64 ((it.1:Nat):Int),.slice q it.2.length C] 185)).grownBy w' v.ownBlock→(v'.ownBlock=v.ownBlock∨v'.ownBlock=some (w.heap.size+1))→wpList Tryz.prog ops Q rest (a.put o.dst v') w') :
  wpList Tryz.prog ops Q (o::rest) a (w.alloc (.cells #[.int .u64 ((it.1:Nat):Int),.slice q it.2.length C] 185)):=by
 obtain⟨Y,h1,h2⟩:=hown
 obtain⟨i,hi,hz,hsz,hby⟩:=info_parts js
 have hE:=zb w (.cells #[.int .u64 ((it.1:Nat):Int),.slice q it.2.length C] 185)
 have h1E:=h1.ext hE
 refine wpList_append_own_at _ hgd s x 183 ho base 185 i _ 2 32 Tryz.underlying183 hi hz hsz hby rfl (by omega) v Y.length (Y.flatMap xy) hs h1E ⟨w.heap.size,0,none⟩ 1 c (xy (it.1,.slice q it.2.length C)) hx rfl (by
  intro j u hu
  rw[show (⟨w.heap.size,0,none⟩:Addr).add j=⟨w.heap.size,j,none⟩ by unfold Addr.add;split<;>simp_all,zA]
  match j,hu with
  | 0,hu=>simpa[xy] using hu
  | 1,hu=>simpa[xy] using hu
  | j+2,hu=>simp[xy]at hu) (by
  intro u hu
  simp[xy]at hu
  rcases hu with rfl|rfl<;>rfl) (by unfold maxLen;have:=h2.1;omega) (by have:=h2.1;omega) (by simp;omega) ?_
 intro v' w' h4 h5 _ h6
 rw[World.size_alloc]at h6
 have hS:=h5.size
 rw[World.size_alloc]at hS
 refine h v' w' ⟨Y++[(it.1,.slice q it.2.length C)],?_,?_⟩ h5 h6
 ·unfold OwnY
  rw[List.length_append,List.flatMap_append]
  simpa using h4
 ·have k1:=((h2.ext hE).grownY h1E h5).up (C:=w'.heap.size) (by omega)
  have k2:OwnL w' 0 (.slice q it.2.length C) (it.2.map Int.ofNat):=World.ownsRow.kept (hit.ext hE) h5 (by
   cases hb:v.ownBlock with
   | none=>cases (Value.slice q it.2.length C).ownBlock<;>simp
   | some g=>exact .inr ((hit.ext hE).notY h1E hb))
  refine⟨by simp[h2.1],fun j hj=>?_⟩
  have hl:=h2.1
  by_cases hjl:j<X.length
  ·have e1:(X++[it]).getD j (0,[])=X.getD j (0,[]):=by simp[List.getD_eq_getElem?_getD,List.getElem?_append_left hjl]
   have e2:(Y++[(it.1,Value.slice q it.2.length C)]).getD j (0,undef)=Y.getD j (0,undef):=by simp[List.getD_eq_getElem?_getD,List.getElem?_append_left (by omega:j<Y.length)]
   rw[e1,e2]
   exact k1.2 j hjl
  ·have hjx:j=X.length:=by simp at hj;omega
   subst hjx
   have e1:(X++[it]).getD X.length (0,[])=it:=by simp[List.getD_eq_getElem?_getD]
   have e2:(Y++[(it.1,Value.slice q it.2.length C)]).getD X.length (0,undef)=(it.1,.slice q it.2.length C):=by rw[← hl];simp[List.getD_eq_getElem?_getD]
   rw[e1,e2]
   exact⟨rfl,k2,fun k hk=>(k2.lt k hk).2⟩
end
end
end Go.Proofs.YtpmedpdjglcdpaaGreatDoor
