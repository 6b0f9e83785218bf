/- What the laws of chapter 10 ask of the program; the example; LzFinds, LzBack, LzPlays, LzMay. LzLongest, under what the program tells; the document's Size. A map from three bytes, of a call's own. The program's lz.trail: of each place how f -/
import Derived.Test.YtpmedpdjglcdpaaGreatDoorB02
import Derived.Test.YtpmedpdjglcdpaaGreatDoorB06
import Derived.Test.YtpmedpdjglcdpaaGreatDoorB08
import Derived.Test.YtpmedpdjglcdpaaGreatDoorB19
import Derived.Deep.QuietTactic
import Derived.Lib.SlBytesConst
import Derived.WideKeyArr2
import Derived.WideKeyPair
import Derived.DeepKeys4
import Derived.Maps.OwnSet
import Derived.Maps.Views
import Derived.Carry
import Derived.BigQuiet
namespace Go.Proofs.YtpmedpdjglcdpaaGreatDoor
section
open Go.RowKit Lz
theorem Lz.tok_ok (b:List UInt8)(p:Nat):(xc b p).ok:=by
 have h:=Uo b p (min 4095 p)
 unfold xc TokV.ok
 split
 ·unfold yE at *
  dsimp only
  omega
 ·dsimp only
  omega
theorem Lz.toks_ok (b:List UInt8)(p:Nat):∀ t,t∈toks b p→t.ok:=by
 intro t ht
 by_cases h:p<b.length
 ·rw[vS h]at ht
  rcases List.mem_cons.1 ht with rfl|ht
  ·exact tok_ok b p
  ·exact toks_ok b (p+yM b p) t ht
 ·rw[uT h]at ht
  cases ht
termination_by b.length-p
decreasing_by have:=vt b p;omega
theorem OwnTk.at {w:World}{base:Nat}{v:Value}{L:List TokV}(h:OwnTk w base v L)(hok:∀ t,t∈L→t.ok):∃ A c,v=.slice A L.length c∧L.length≤c∧c≤maxLen∧ToksAt w w.heap.size A L.length L:=by
 have hl:=h.lt
 obtain⟨A,c,rfl,hA⟩:=h.form
 have hc:L.length≤c∧c≤maxLen:=by
  rcases h.2 with ⟨e,h0⟩ | ⟨g,cap,cur,e,hb,hgg,hn,hc,_⟩
  ·simp only[Value.slice.injEq]at e
   unfold maxLen
   omega
  ·simp only[Value.slice.injEq]at e
   obtain⟨_,_,rfl⟩:=e
   exact⟨hn,hc⟩
 refine⟨A,c,rfl,hc.1,hc.2,rfl,?_⟩
 rcases hA with h0 | ⟨g,rfl,hi⟩
 ·exact .inl h0
 ·refine .inr ⟨g,0,rfl,(hl g rfl).2,fun i hi2=>⟨hi i hi2,hok _ ?_⟩⟩
  rw[List.getD_eq_getElem?_getD,List.getElem?_eq_getElem hi2]
  exact List.getElem_mem hi2
end
section
open Go.RowKit Lz
open Go.WideMaps (ArrKey)
def abE (k:UInt8×UInt8×UInt8):Value:=.agg #[.int .u8 (k.1.toNat:Int),.int .u8 (k.2.1.toNat:Int),.int .u8 (k.2.2.toNat:Int)]
def X9 (k:UInt8×UInt8×UInt8):Lit:=.string (keyBytes [.int .u8 (k.1.toNat:Int),.int .u8 (k.2.1.toNat:Int),.int .u8 (k.2.2.toNat:Int)])
theorem abF:ArrKey Tryz.prog 199 5 3:=⟨Tryz.underlying199,by kernel_rfl,by kernel_rfl,by kernel_rfl⟩
theorem three_law:Maps.Keyed Tryz.prog 199:=Maps.Keyed.of_law (deep_law_laid Um (m:=2) (by omega) (of_decide_eq_true (by kernel_rfl)) (by kernel_rfl) (by rw[Tryz.underlying199]))
theorem JW {P:Program}{k e:TypeId}{q:IntKind}(A:ArrKey P k e 3)(he:P.underlying e=some (.int q))(hsz:∃ m,P.types.size=m+1){a b c:Int}(wa:(Lit.int q a).wf=true)(wb:(Lit.int q b).wf=true)(wc:(Lit.int q c).wf=true) :
  keyOf P k (.agg #[.int q a,.int q b,.int q c])=some (.string (keyBytes [.int q a,.int q b,.int q c])):=by
 have hkt:=A.keyType hsz
 obtain⟨m,hm⟩:=hsz
 unfold keyOf
 simp only[A.hu]
 rw[if_pos (by simp[hkt,Value.formed,A.hu,A.size]),hm]
 unfold Program.keyLits
 simp only[A.hu,Value.cells]
 rw[if_pos (by rw[A.size];rfl),show List.range 3=[0,1,2] from rfl,List.mapM_cons,List.mapM_cons,List.mapM_cons,List.mapM_nil]
 simp[A.one,Program.keyLits,he,wa,wb,wc]
theorem ac0 (x:UInt8):(Lit.int .u8 (x.toNat:Int)).wf=true:=by
 have:=UInt8.toNat_lt x
 have e1:IntKind.u8.min=0:=rfl
 have e2:IntKind.u8.max=255:=rfl
 simp[Lit.wf,e1,e2]
 omega
theorem ZA (k:UInt8×UInt8×UInt8):keyOf Tryz.prog 199 (abE k)=some (X9 k) :=
 JW abF Tryz.underlying5 ⟨Tryz.prog.types.size-1,by kernel_rfl⟩ (ac0 _) (ac0 _) (ac0 _)
theorem ac1 {a b:UInt8×UInt8×UInt8}(h:X9 a=X9 b):a=b:=by
 have h1:=ZA a
 rw[h]at h1
 have:=three_law.inj h1 (ZA b)
 unfold abE at this
 simp only[Value.agg.injEq,Array.mk.injEq,List.cons.injEq,Value.int.injEq,true_and,and_true]at this
 obtain⟨x1,x2,x3⟩:=a
 obtain⟨y1,y2,y3⟩:=b
 dsimp only at this
 obtain⟨e1,e2,e3⟩:=this
 rw[UInt8.toNat_inj.1 (Int.ofNat.inj e1),UInt8.toNat_inj.1 (Int.ofNat.inj e2),UInt8.toNat_inj.1 (Int.ofNat.inj e3)]
def MapF (w:World)(m n:Nat)(f:UInt8×UInt8×UInt8→Option Nat):Prop :=
 ∃ D:DataW Unit,w.ownsMap Tryz.prog 199 (plainElem Tryz.prog 3) m n D∧∀ k,Maps.has D (X9 k)=(f k).isSome∧∀ p,f k=some p→∀ z,D.atKey (X9 k) z=.lit (.int .i64 (p:Int))
theorem MapF.made (w:World):MapF (w.alloc (.map #[] 0)) w.heap.size 0 (fun _=>none) :=
 ⟨_,World.ownsMap_made w _ _ _,fun _=>⟨rfl,fun _ h=>by cases h⟩⟩
theorem MapF.kept {w w':World}{m n:Nat}{f:UInt8×UInt8×UInt8→Option Nat}{row:Option Nat}(h:MapF w m n f)(hg:w.grownBy w' row)(hr:some m≠row):MapF w' m n f:=by
 obtain⟨D,h1,h2⟩:=h
 exact⟨D,h1.kept hg hr,h2⟩
theorem MapF.ext {w w':World}{m n:Nat}{f:UInt8×UInt8×UInt8→Option Nat}(h:MapF w m n f)(hE:Ext w w'):MapF w' m n f:=h.kept (hE.grown none) (by simp)
theorem MapF.lt {w:World}{m n:Nat}{f:UInt8×UInt8×UInt8→Option Nat}(h:MapF w m n f):m<w.heap.size:=by
 obtain⟨D,h1,_⟩:=h
 exact h1.lt
section
variable {w:World}{ops:Array Oper}{rest:List Oper}{o:Oper}{a:Act}{Q:Exit→Act→World→Prop}{b n:Nat}{f:UInt8×UInt8×UInt8→Option Nat}
theorem uz (hg:o.guard=none)(m x:Operand)(hop:o.op=Op.lookup 197 m x true)(hm:a.eval m=.map (some b))(hown:MapF w b n f)(k:UInt8×UInt8×UInt8)(hx:a.eval x=abE k)
  (hK:∀ c:Nat,(f k=none→c=0)→(∀ p,f k=some p→c=p)→wpList Tryz.prog ops Q rest (a.put o.dst (.tuple #[.int .i64 (c:Int),.bool (f k).isSome])) w):wpList Tryz.prog ops Q (o::rest) a w:=by
 obtain⟨D,h1,h2⟩:=hown
 refine wpList_lookup_own_ok_int w hg m x 197 hop 199 3 .i64 three_law Tryz.underlying197 Tryz.underlying3 (by kernel_rfl) b n D hm h1 (abE k) (X9 k) hx (ZA k) ?_
 intro c hc _
 obtain⟨e1,e2⟩:=h2 k
 rw[e1]
 cases hf:f k with
 | none =>
  rw[hf]at e1
  have hz:=Maps.atKey_of_not_has (D:=D) (k:=X9 k) e1 (.lit (.int .i64 0))
  rw[hz]at hc
  simp only[DataW.lit.injEq,Lit.int.injEq,true_and]at hc
  subst hc
  have:=hK 0 (fun _=>rfl) (fun p hp=>by rw[hf]at hp;cases hp)
  rw[hf]at this
  exact this
 | some p =>
  have hz:=e2 p hf (.lit (.int .i64 0))
  rw[hz]at hc
  simp only[DataW.lit.injEq,Lit.int.injEq,true_and]at hc
  subst hc
  have:=hK p (fun h=>by rw[hf]at h;cases h) (fun p' hp=>by rw[hf]at hp;injection hp)
  rw[hf]at this
  exact this
theorem u9 (hg:o.guard=none)(m x v:Operand)(hop:o.op=Op.mapUpdate 197 m x v)(hm:a.eval m=.map (some b))(hown:MapF w b n f)(hn:n≤1000000)(k:UInt8×UInt8×UInt8)(hx:a.eval x=abE k)(p:Nat)(hp:p≤1000000)(hv:a.eval v=.int .i64 (p:Int))
  (hK:∀ w',MapF w' b (n+1) (fun k'=>if k=k' then some p else f k')→w.grownBy w' (some b)→wpList Tryz.prog ops Q rest (a.put o.dst undef) w'):wpList Tryz.prog ops Q (o::rest) a w:=by
 obtain⟨D,h1,h2⟩:=hown
 have hwf:(Lit.int .i64 (p:Int)).wf=true:=by
  have e1:IntKind.i64.min=-9223372036854775808:=rfl
  have e2:IntKind.i64.max=9223372036854775807:=rfl
  simp[Lit.wf,e1,e2]
  omega
 refine wpList_mapUpdate_own w hg m x v 197 hop 199 3 three_law Tryz.underlying197 _ b n D hm h1 (by unfold maxLen;omega) (abE k) _ (X9 k) hx hv (ZA k) _ [] (plainElem_int Tryz.underlying3 hwf) ?_
 intro w' h3 hg3
 refine hK w' ⟨_,h3,fun k'=>?_⟩ hg3
 have hm1:=h1.isMap
 dsimp only
 by_cases e:k=k'
 ·subst e
  rw[if_pos rfl]
  exact⟨Maps.has_put_same hm1 (three_law.key (ZA k)) _,fun p' hp' z=>by injection hp' with hp';rw[← hp'];exact Maps.atKey_put_same hm1 (three_law.key (ZA k)) _ z⟩
 ·rw[if_neg e]
  have hne:X9 k'≠X9 k:=fun h=>e (ac1 h).symm
  obtain⟨e1,e2⟩:=h2 k'
  exact⟨by rw[Maps.has_put_other hne];exact e1,fun p' hp' z=>by rw[Maps.atKey_put_other hne];exact e2 p' hp' z⟩
theorem uA (hg:o.guard=none)(arr:TypeId)(x:Operand)(ho:o.op=.sliceToArrayPointer arr x){N:Nat}{e:TypeId}(hu:Tryz.prog.underlying arr=some (.array N e)){A:Option Addr}{m c:Nat}(hx:a.eval x=.slice A m c)(hn:N≤m)
  (h:wpList Tryz.prog ops Q rest (a.put o.dst (.pointer A)) w):wpList Tryz.prog ops Q (o::rest) a w:=by
 refine wpList_plain hg fun _ hK=>?_
 unfold Oper.wp execOp
 simp only[ho,hx,Instr.arrayAt,run_underlying hu,Sem.run_bind,Sem.run_pure,Result.andThen_ok,if_neg (show ¬ m<N by omega)]
 exact hK _ _ h
end
end
section
open Go.RowKit Lz
def ac2 (x:Nat):Value:=.int .u16 (x:Int)
def OwnR (w:World)(base:Nat)(v:Value)(L:List Nat):Prop:=w.ownsRow base 191 1 v L.length (L.map ac2)
theorem ac3:(Tryz.prog.info? 191).map (fun i=>(i.zero,i.size,i.bytes))=some (some (.int .u16 0),1,2):=by kernel_rfl
section
variable {w w':World}{base g n c:Nat}{v:Value}{L:List Nat}
theorem OwnR.ext (h:OwnR w base v L)(hE:Ext w w'):OwnR w' base v L:=World.ownsRow.kept h (hE.grown none) (by cases hv:v.ownBlock<;>simp)
theorem OwnR.len (h:OwnR w base (.slice (some ⟨g,0,none⟩) n c) L):n=L.length:=by
 rcases h.2 with ⟨h',_⟩ | ⟨_,_,_,h',_⟩
 ·simp at h'
 ·simp only[Value.slice.injEq]at h';exact h'.2.1
theorem OwnR.lt (h:OwnR w base (.slice (some ⟨g,0,none⟩) n c) L):base≤g∧g<w.heap.size:=World.ownsRow.lt h g rfl
theorem OwnR.grown (h:OwnR w base (.slice (some ⟨g,0,none⟩) n c) L){m:Nat}(hg:w.grownBy w' (some m))(hne:g≠m):OwnR w' base (.slice (some ⟨g,0,none⟩) n c) L :=
 World.ownsRow.kept h hg (.inr (by simp[Value.ownBlock,hne]))
theorem OwnR.cell (h:OwnR w base (.slice (some ⟨g,0,none⟩) n c) L){i:Nat}(hi:i<L.length) :
  w.cell? ⟨g,i,none⟩=some (.int .u16 ((L.getD i 0:Nat):Int))∧w.frozen? ⟨g,i,none⟩=false:=by
 have hn:=h.len
 subst hn
 refine⟨?_,World.ownsRow.frozenAt h i⟩
 rw[World.ownsRow.cellAt h i (by omega)]
 simp[ac2,hi]
theorem OwnR.set (h:OwnR w base (.slice (some ⟨g,0,none⟩) n c) L)(i x:Nat) :
  OwnR (w.setCell ⟨g,i,none⟩ (.int .u16 (x:Int))) base (.slice (some ⟨g,0,none⟩) n c) (L.set i x):=by
 have hn:=h.len
 subst hn
 have:=(World.ownsRow.stored h i (.int .u16 (x:Int))).1
 unfold OwnR
 rw[List.length_set,List.map_set]
 exact this
end
theorem UM {ops:Array Oper}{rest:List Oper}{o:Oper}{a:Act}{Q:Exit→Act→World→Prop}{w:World}(hgd:o.guard=none)(x y:Operand)(ho:o.op=.makeSlice 147 x y){n:Nat}(hx:a.eval x=.int .i64 (n:Int))(hy:a.eval y=.int .i64 (n:Int))(hn:n≤1000000)
  (h:∀ w',OwnR w' w.heap.size (.slice (some ⟨w.heap.size,0,none⟩) n n) (List.replicate n 0)→Ext w w'→wpList Tryz.prog ops Q rest (a.put o.dst (.slice (some ⟨w.heap.size,0,none⟩) n n)) w'):wpList Tryz.prog ops Q (o::rest) a w:=by
 obtain⟨i,hi,hz,hsz,hby⟩:=info_parts ac3
 refine wpList_make_full w hgd x y 147 ho w.heap.size 191 i _ 1 Tryz.underlying147 hi hz hsz .i64 .i64 _ _ n hx hy rfl rfl (by rw[hby];omega) (by unfold maxLen;omega) (Nat.le_refl _) ?_
 intro w' h1 h2
 refine h w' ?_ (Below.grown (Ext.refl w) h2 (Nat.le_refl _) fun k hk=>by cases hk)
 unfold OwnR
 have e:(madeCells (Value.int .u16 0).cells (n*1)).toList=(List.replicate n (0:Nat)).map ac2:=by
  have:madeCells (Value.int .u16 0).cells n=((List.replicate n (0:Nat)).map ac2).toArray:=by
   apply Array.ext
   ·simp[size_madeCells]
   ·intro i h1 h2
    simp[madeCells,Value.cells,ac2,Nat.mod_one]
  rw[Nat.mul_one,this]
 rw[e]at h1
 simpa using h1
theorem UN {ops:Array Oper}{rest:List Oper}{o:Oper}{a:Act}{Q:Exit→Act→World→Prop}{w:World}(hgd:o.guard=none){t:TypeId}(ho:o.op=.makeMap t none)
  (h:wpList Tryz.prog ops Q rest (a.put o.dst (.map (some w.heap.size))) (w.alloc (.map #[] 0))):wpList Tryz.prog ops Q (o::rest) a w:=by
 refine wpList_plain hgd fun _ hK=>?_
 unfold Oper.wp execOp
 simp only[ho,Instr.makeMap]
 exact hK _ _ h
theorem xL:(Tryz.prog.info? 199).map (·.size)=some 3:=by kernel_rfl
def aaM (w:World)(b:List UInt8)(e:Ending)(w':World):Prop:=∃ g c2,e=.returned (.slice (some ⟨g,0,none⟩) b.length c2)∧w.heap.size≤g∧g<w'.heap.size∧TrailAt w' g b∧Ext w w'
set_option maxHeartbeats 4000000 in
set_option maxRecDepth 100000 in
theorem JX (A:Option Addr)(n c:Nat)(b:List UInt8)(w:World)(hn:n≤100000)(hnc:n≤c)(h:Bytes w w.heap.size A n b):Calls Tryz.prog 129 #[.slice A n c] w (aaM w b):=by
 have hl:=h.1
 subst hl
 have hn1:b.length≤1000000:=by omega
 have HB:=hide h
 go_enter Tryz.func129,Tryz.ntmps129
 go_wp2_with (first
  | (at_make;refine UM rfl (.tmp 10) (.tmp 10) rfl rfl rfl hn1 ?_;intro w1 hO1 hE1;have hO1':=hide hO1;have hE1':=hide hE1)
  | (refine UN rfl rfl ?_;have hM2:=hide (MapF.made w1);have hE2:=hide (zb w1 (.map #[] 0))))
 have hE3:=hide (hE1'.out.trans hE2.out)
 have hO3:=hide (hO1'.out.ext hE2.out)
 have hg1:w.heap.size<w1.heap.size:=(hO1'.out.lt).2
 clear hO1 hE1 hO1' hE1' hE2
 go_loopw [17] (fun x wr=>∃ i:Nat,(i+2≤b.length∨i=0)∧x=.int .i64 (i:Int)∧OwnR wr w.heap.size (.slice (some ⟨w.heap.size,0,none⟩) b.length b.length) (yQ b i)∧MapF wr w1.heap.size i (fun k=>yW b k i)∧Ext w wr) (fun x _=>b.length-(intOf x).toNat)
 case atStart=>exact⟨0,.inr rfl,rfl,by rw[QI];exact hO3.out,hM2.out,hE3.out⟩
 case round =>
  clear hE3 hO3 hM2
  obtain⟨i,hi,rfl,hO,hM,hE⟩:=hrel
  by_cases hlt:i+3≤b.length
  ·have hltI:(i:Int)<(b.length:Int)-3+1:=by omega
   have hi1:i≤1000000:=by omega
   rcases (hE.bytes HB.out).2 with h0 | ⟨b1,o1,rfl,_,hc⟩
   ·omega
   have hcs:wr.rangeAt b1 (o1+i) [.int .u8 ((three b i).1.toNat:Int),.int .u8 ((three b i).2.1.toNat:Int),.int .u8 ((three b i).2.2.toNat:Int)]:=by
    intro j v hv
    match j,hv with
    | 0,hv=>rw[← hv];exact hc i (by omega)
    | 1,hv=>rw[← hv];exact hc (i+1) (by omega)
    | 2,hv=>rw[← hv];exact hc (i+2) (by omega)
    | j+3,hv=>simp at hv
   have r1:=fun W=>Uh W (some ⟨b1,o1,none⟩) b.length c .i64 .i64 (i:Int) ((i:Int)+3) (by omega) (by omega) (by omega)
   rw[show ((i:Int)+3).toNat-(i:Int).toNat=3 by omega,Int.toNat_natCast,show zQ (some ⟨b1,o1,none⟩) c i=some ⟨b1,o1+i,none⟩ by unfold zQ;rw[if_neg (by omega)];simp[Addr.add]]at r1
   have hBn:=hide (show yW b (three b i) i=none→zp b i=0 from VB hlt)
   have hBs:=hide (show ∀ p,yW b (three b i) i=some p→p<i∧zp b i=if i-p≤4095 then i-p else 0 from fun p hp=>⟨(vJ hp).1,Zp hlt hp⟩)
   have hLst:=hide (show (fun k=>yW b k (i+1))=fun k=>if three b i=k then some i else yW b k i from rfl)
   have hSet:=hide (abd b i)
   have hSame:=hide (fun h=>QJ (b:=b) (i:=i) h)
   have hTl:=VD b i
   obtain⟨f,hf⟩:∃ f,f=fun k=>yW b k i:=⟨_,rfl⟩
   have hBn2:=hide (show f (three b i)=none→zp b i=0 from fun h=>hBn.out (by rw[hf]at h;exact h))
   have hBs2:=hide (show ∀ p,f (three b i)=some p→p<i∧zp b i=if i-p≤4095 then i-p else 0 from fun p h=>hBs.out p (by rw[hf]at h;exact h))
   have hLst2:=hide (show (fun k=>yW b k (i+1))=fun k=>if three b i=k then some i else f k from by rw[hf];exact hLst.out)
   rw[← hf]at hM
   clear hf hBn hBs hLst hc
   generalize three b i=k at *
   generalize zp b i=bk at *
   generalize yQ b i=L at *
   obtain⟨x,hx⟩:∃ x,x=k.1.toNat:=⟨_,rfl⟩
   obtain⟨y,hy⟩:∃ y,y=k.2.1.toNat:=⟨_,rfl⟩
   obtain⟨z,hz⟩:∃ z,z=k.2.2.toNat:=⟨_,rfl⟩
   have hE4:=zb wr (.cells #[.int .u8 (k.1.toNat:Int),.int .u8 (k.2.1.toNat:Int),.int .u8 (k.2.2.toNat:Int)] 199)
   have hK:=Whole.new wr 199 #[.int .u8 (k.1.toNat:Int),.int .u8 (k.2.1.toNat:Int),.int .u8 (k.2.2.toNat:Int)]
   have hMk:=hM.ext hE4
   have hOk:=hO.ext hE4
   have hEk:=hE.trans hE4
   have hgm:w.heap.size≠w1.heap.size:=by omega
   have hs1:w.heap.size≤w1.heap.size:=by omega
   have hlm:=hM.lt
   clear hM hO hE hE4 hx hy hz x y z
   cases hfk:f k with
   | none =>
    have hbk:=hide (Eq.symm (hSame.out (hBn2.out hfk)))
    clear hBn2 hBs2 hSame hSet
    go_wp2_with (first
     | (refine uA rfl 199 (.tmp 24) rfl Tryz.underlying199 rfl (Nat.le_refl _) ?_)
     | (refine wpList_load_mid rfl 199 (.tmp 25) rfl b1 (o1+i) rfl _ _ hcs Tryz.underlying199 rfl xL ?_)
     | (at_lookup;refine uz rfl (.tmp 28) (.tmp 29) rfl rfl hMk k rfl ?_;intro cc hc0 hc1;have hcc:=hc0 hfk;subst hcc;clear hc0 hc1)
     | (at_mapUpdate;refine u9 rfl (.tmp 47) (.tmp 48) (.tmp 49) rfl rfl hMk hi1 k rfl i hi1 rfl ?_;intro w5 hM5 hG5)
     | (refine wpList_load_row rfl 199 (.tmp 6) rfl _ rfl _ _ _ _ hK Tryz.underlying199 rfl xL ?_))
    have hO5:=hOk.grown hG5 hgm
    have hE5:Ext w w5:=Below.grown hEk hG5 hEk.size (fun k hk=>by cases hk;omega)
    clear hG5
    go_roundw
    case rel=>exact⟨i+1,.inl (by omega),by go_num,by rw[hbk.out];exact hO5,by rw[hLst2.out];exact hM5,hE5⟩
    case measure=>simp[intOf];omega
   | some p =>
    obtain⟨hpi,hbp⟩:=hBs2.out p hfk
    by_cases h4:i-p≤4095
    ·rw[if_pos h4]at hbp
     have hipI:(i:Int)-(p:Int)=(bk:Int):=by omega
     have hbI:(bk:Int)≤4095:=by omega
     have hbk:=hide (Eq.symm hSet.out)
     obtain⟨hcell,hfro⟩:=hOk.cell (i:=i) (by omega)
     have hOs:=hOk.set i bk
     have hgs:=zk (wr.alloc (.cells #[.int .u8 (k.1.toNat:Int),.int .u8 (k.2.1.toNat:Int),.int .u8 (k.2.2.toNat:Int)] 199)) w.heap.size i (.int .u16 (bk:Int))
     have hMs:=hMk.kept hgs (by simp;omega)
     have hEs:=Below.grown hEk hgs hEk.le (fun k hk=>by cases hk;omega)
     have hiL:i<b.length:=by omega
     clear hBn2 hBs2 hSame hSet hbp hgs
     go_wp2_with (first
      | (refine uA rfl 199 (.tmp 24) rfl Tryz.underlying199 rfl (Nat.le_refl _) ?_)
      | (refine wpList_load_mid rfl 199 (.tmp 25) rfl b1 (o1+i) rfl _ _ hcs Tryz.underlying199 rfl xL ?_)
      | (at_lookup;refine uz rfl (.tmp 28) (.tmp 29) rfl rfl hMk k rfl ?_;intro cc hc0 hc1;have hcc:=hc1 p hfk;subst hcc;clear hc0 hc1)
      | (at_mapUpdate;refine u9 rfl (.tmp 47) (.tmp 48) (.tmp 49) rfl rfl hMs hi1 k rfl i hi1 rfl ?_;intro w5 hM5 hG5)
      | (refine wpList_load_row rfl 199 (.tmp 6) rfl _ rfl _ _ _ _ hK Tryz.underlying199 rfl xL ?_))
     have hO5:=hOs.grown hG5 hgm
     have hE5:Ext w w5:=Below.grown hEs hG5 hEs.size (fun k hk=>by cases hk;omega)
     clear hG5
     go_roundw
     case rel=>exact⟨i+1,.inl (by omega),by go_num,by rw[hbk.out];exact hO5,by rw[hLst2.out];exact hM5,hE5⟩
     case measure=>simp[intOf];omega
    ·rw[if_neg h4]at hbp
     have hipI:¬ (i:Int)-(p:Int)≤4095:=by omega
     have hbk:=hide (Eq.symm (hSame.out hbp))
     clear hBn2 hBs2 hSame hSet hbp
     go_wp2_with (first
      | (refine uA rfl 199 (.tmp 24) rfl Tryz.underlying199 rfl (Nat.le_refl _) ?_)
      | (refine wpList_load_mid rfl 199 (.tmp 25) rfl b1 (o1+i) rfl _ _ hcs Tryz.underlying199 rfl xL ?_)
      | (at_lookup;refine uz rfl (.tmp 28) (.tmp 29) rfl rfl hMk k rfl ?_;intro cc hc0 hc1;have hcc:=hc1 p hfk;subst hcc;clear hc0 hc1)
      | (at_mapUpdate;refine u9 rfl (.tmp 47) (.tmp 48) (.tmp 49) rfl rfl hMk hi1 k rfl i hi1 rfl ?_;intro w5 hM5 hG5)
      | (refine wpList_load_row rfl 199 (.tmp 6) rfl _ rfl _ _ _ _ hK Tryz.underlying199 rfl xL ?_))
     have hO5:=hOk.grown hG5 hgm
     have hE5:Ext w w5:=Below.grown hEk hG5 hEk.size (fun k hk=>by cases hk;omega)
     clear hG5
     go_roundw
     case rel=>exact⟨i+1,.inl (by omega),by go_num,by rw[hbk.out];exact hO5,by rw[hLst2.out];exact hM5,hE5⟩
     case measure=>simp[intOf];omega
  ·have hltI:¬ (i:Int)<(b.length:Int)-3+1:=by omega
   have hAll:=hide (abe (b:=b) (i:=i) (by omega))
   have hlt2:=hO.lt.2
   have HO:=hide hO
   go_wp2
   go_ret
   refine⟨_,_,rfl,Nat.le_refl _,hlt2,fun p hp=>?_,hE⟩
   have h1:=(HO.out.cell (i:=p) (by rw[VD];exact hp)).1
   rw[h1,hAll.out,List.getD_eq_getElem?_getD,List.getElem?_map,List.getElem?_range hp]
   rfl
end
section
open Go.RowKit Lz
set_option maxHeartbeats 2000000 in
set_option maxRecDepth 100000 in
theorem abG (t:TokV)(w:World):Calls Tryz.prog 154 #[jA t] w fun e w'=>e=.returned (.bool (may t))∧Ext w w':=by
 have hE1:=zb w (.cells #[.int .u8 (t.lit.toNat:Int),.int .i64 t.len,.int .i64 t.dist] 157)
 have hW1:=Whole.new w 157 #[.int .u8 (t.lit.toNat:Int),.int .i64 t.len,.int .i64 t.dist]
 have c0:=hW1.at 0 rfl
 have c1:=hW1.at 1 rfl
 have c2:=hW1.at 2 rfl
 have hl8:=UInt8.toNat_lt t.lit
 have HLit:=hide (show t.lit.toNat=0↔t.lit=0 from ⟨fun h=>UInt8.toNat_inj.1 h,fun h=>by rw[h];rfl⟩)
 unfold jA
 by_cases h0:t.len=0
 ·have HM:=hide (may_lit h0)
  generalize may t=res at *
  obtain⟨tl,tn,td⟩:=t
  dsimp only at *
  subst h0
  by_cases hd:td=0
  ·have HR:=hide (show res=true by rw[HM.out];exact decide_eq_true hd)
   subst hd
   clear HM HLit
   go_enter Tryz.func154,Tryz.ntmps154
   go_wp2
   go_ret
   exact⟨zf HR.out.symm,hE1⟩
  ·have HR:=hide (show res=false by rw[HM.out];exact decide_eq_false hd)
   have hdb:(td==0)=false:=by rw[beq_eq_false_iff_ne];exact hd
   clear HM HLit
   go_enter Tryz.func154,Tryz.ntmps154
   go_wp2
   go_ret
   exact⟨zf HR.out.symm,hE1⟩
 ·have HM:=hide (may_match h0)
  generalize may t=res at *
  obtain⟨tl,tn,td⟩:=t
  dsimp only at *
  have h0b:(tn==0)=false:=by rw[beq_eq_false_iff_ne];exact h0
  have HNo:=hide (show ¬ (tl=0∧3≤tn∧tn≤257∧1≤td∧td≤4095)→res=false from fun h=>by rw[HM.out];exact decide_eq_false h)
  have HYes:=hide (show (tl=0∧3≤tn∧tn≤257∧1≤td∧td≤4095)→res=true from fun h=>by rw[HM.out];exact decide_eq_true h)
  obtain⟨y,hy⟩:∃ y,y=tl.toNat:=⟨_,rfl⟩
  rw[← hy]at c0 c1 c2 hE1 hl8 HLit ⊢
  clear HM hy hW1
  by_cases g1:y=0
  ·have hl0:=HLit.out.1 g1
   subst g1
   by_cases g2:3≤tn
   ·by_cases g3:tn≤257
    ·by_cases g4:1≤td
     ·by_cases g5:td≤4095
      ·have HR:=hide (HYes.out ⟨hl0,g2,g3,g4,g5⟩)
       clear HYes HNo HLit hl0
       go_enter Tryz.func154,Tryz.ntmps154
       go_wp2
       go_ret
       exact⟨zf HR.out.symm,hE1⟩
      ·have HR:=hide (HNo.out fun h=>g5 h.2.2.2.2)
       clear HYes HNo HLit hl0
       go_enter Tryz.func154,Tryz.ntmps154
       go_wp2
       go_ret
       exact⟨zf HR.out.symm,hE1⟩
     ·have HR:=hide (HNo.out fun h=>g4 h.2.2.2.1)
      clear HYes HNo HLit hl0
      go_enter Tryz.func154,Tryz.ntmps154
      go_wp2
      go_ret
      exact⟨zf HR.out.symm,hE1⟩
    ·have HR:=hide (HNo.out fun h=>g3 h.2.2.1)
     clear HYes HNo HLit hl0
     go_enter Tryz.func154,Tryz.ntmps154
     go_wp2
     go_ret
     exact⟨zf HR.out.symm,hE1⟩
   ·have HR:=hide (HNo.out fun h=>g2 h.2.1)
    clear HYes HNo HLit hl0
    go_enter Tryz.func154,Tryz.ntmps154
    go_wp2
    go_ret
    exact⟨zf HR.out.symm,hE1⟩
  ·have HR:=hide (HNo.out fun h=>g1 (HLit.out.2 h.1))
   have hyb:((y:Int)==0)=false:=by rw[beq_eq_false_iff_ne];omega
   clear HYes HNo HLit
   go_enter Tryz.func154,Tryz.ntmps154
   go_wp2
   go_ret
   exact⟨zf HR.out.symm,hE1⟩
theorem Lz.may_len {t:TokV}(h:may t=true):(t.len=0∧t.dist=0)∨(3≤t.len∧t.len≤257∧1≤t.dist∧t.dist≤4095):=by
 by_cases h0:t.len=0
 ·rw[may_lit h0]at h
  exact .inl ⟨h0,of_decide_eq_true h⟩
 ·rw[may_match h0]at h
  have:=of_decide_eq_true h
  exact .inr this.2
set_option maxHeartbeats 2000000 in
set_option maxRecDepth 100000 in
theorem Q6 (t:TokV)(w:World)(hm:may t=true):Calls Tryz.prog 131 #[jA t] w fun e w'=>e=.returned (.int .i64 (ZS t:Int))∧Ext w w':=by
 have hE1:=zb w (.cells #[.int .u8 (t.lit.toNat:Int),.int .i64 t.len,.int .i64 t.dist] 157)
 have hW1:=Whole.new w 157 #[.int .u8 (t.lit.toNat:Int),.int .i64 t.len,.int .i64 t.dist]
 have c1:=hW1.at 1 rfl
 have HL:=hide (may_len hm)
 unfold jA
 have HS:=hide (show (ZS t:Int)=max t.len 1 by
  unfold ZS
  rcases HL.out with h|h
  ·rw[if_pos h.1,h.1];rfl
  ·rw[if_neg (by omega)];omega)
 generalize ZS t=res at *
 obtain⟨tl,tn,td⟩:=t
 dsimp only at *
 generalize (tl.toNat:Int)=y at *
 clear hW1 hm
 rcases HL.out with h|h
 ·obtain⟨rfl,rfl⟩:=h
  have HR:=hide (show (res:Int)=1 by rw[HS.out];rfl)
  clear HL HS
  go_enter Tryz.func131,Tryz.ntmps131
  go_wp2
  go_ret
  exact⟨zi HR.out.symm,hE1⟩
 ·have HR:=hide (show (res:Int)=tn by rw[HS.out];omega)
  have h1:1≤tn:=by omega
  clear HL HS h
  go_enter Tryz.func131,Tryz.ntmps131
  go_wp2
  ·go_ret
   exact⟨zi HR.out.symm,hE1⟩
  all_goals omega
end
section
open Go.RowKit Lz
theorem OwnTk.mono {w:World}{base b':Nat}{v:Value}{L:List TokV}(h:OwnTk w base v L)(hb:b'≤base):OwnTk w b' v L:=⟨h.1,h.2.imp_right fun ⟨g,cap,cur,e,hg,r⟩=>⟨g,cap,cur,e,Nat.le_trans hb hg,r⟩⟩
set_option maxHeartbeats 4000000 in
set_option maxRecDepth 100000 in
theorem Q7 (A:Option Addr)(n c:Nat)(b:List UInt8)(w:World)(hn:n≤100000)(hnc:n≤c)(h:Bytes w w.heap.size A n b):Calls Tryz.prog 99 #[.slice A n c] w (acX w (toks b 0)):=by
 have hl:=h.1
 subst hl
 have HB:=hide h
 have HEnd:=hide (show ∀ p,¬ p<b.length→toks b p=[] from fun p hp=>uT hp)
 have HNext:=hide (show ∀ p,p<b.length→toks b p=xc b p::toks b (p+yM b p) from fun p hp=>vS hp)
 have HIn:=hide (show ∀ p,p<b.length→p+yM b p≤b.length from fun p hp=>Up hp)
 have HPos:=hide (vt b)
 have HSz:=hide (show ∀ p,p<b.length→ZS (xc b p)=yM b p from fun p hp=>(acy hp).2.1)
 have CT:=JX A b.length c b w hn hnc h
 have CL:=hide (fun q W g c2 (hq:q<b.length) hB hg hT=>X7 A b.length c b g c2 q W hn hnc hq hB hg hT)
 have CS:=hide (fun q W=>Q6 (xc b q) W (aaD b q))
 unfold aaM at CT
 unfold jA at CL CS
 clear h
 go_enter Tryz.func99,Tryz.ntmps99
 go_wp2_with fail
 refine CT.mono ?_
 rintro e w1 ⟨g,c2,rfl,hg0,hg1,hT1,hE1⟩
 have HT:=hide (fun W (hE:Ext w1 W)=>hT1.ext hE hg1)
 have HE1:=hide hE1
 clear CT hT1 hE1
 go_wp2_with fail
 go_loopw [3,5] (fun o a wr=>∃ (p:Nat) (L:List TokV),p≤b.length∧L.length≤p∧a=.int .i64 (p:Int)∧OwnTk wr w1.heap.size o L∧L++toks b p=toks b 0∧Ext w1 wr) (fun _ a _=>b.length-(intOf a).toNat)
 case atStart=>exact⟨0,[],by omega,by simp,rfl,OwnTk.nil _ _,rfl,Ext.refl _⟩
 case round =>
  obtain⟨p,L,hp,hLp,rfl,hO,hL,hE⟩:=hrel
  by_cases hlt:p<b.length
  ·have hpI:(p:Int)<(b.length:Int):=by omega
   have HL:=hide hL
   have hnx:=hide (HNext.out p hlt)
   have hst:=HPos.out p
   have hin:=HIn.out p hlt
   have hsz:=hide (HSz.out p hlt)
   have hbm:=hide ((HE1.out.trans hE).bytes HB.out)
   have C1:=CL.out p wr g c2 hlt ((HE1.out.trans hE).bytes HB.out) (Nat.lt_of_lt_of_le hg1 hE.le) (HT.out wr hE)
   have C2:=hide (CS.out p)
   have HO:=hide hO
   clear hL hO
   generalize yM b p=st at *
   generalize xc b p=t at *
   obtain⟨tl,tn,td⟩:=t
   dsimp only at C1
   go_wp2_with fail
   refine C1.mono ?_
   rintro e w2 ⟨rfl,hE2⟩
   have hF2:=hE.trans hE2
   have hO2:=HO.out.ext hE2
   have hW3:=Whole.new w2 157 #[.int .u8 (tl.toNat:Int),.int .i64 tn,.int .i64 td]
   have hE3:=zb w2 (.cells #[.int .u8 (tl.toNat:Int),.int .i64 tn,.int .i64 td] 157)
   have hF3:=hF2.trans hE3
   have hO3:=hO2.ext hE3
   have hlt2:=hO2.lt
   have k0:=hW3.at 0 rfl
   have k1:=hW3.at 1 rfl
   have k2:=hW3.at 2 rfl
   clear C1 HO hE hE2 hF2 hO2
   generalize hw3:w2.alloc (.cells #[.int .u8 (tl.toNat:Int),.int .i64 tn,.int .i64 td] 157)=w3 at *
   have hEa:=zb w3 (.cells #[.int .u8 (tl.toNat:Int),.int .i64 tn,.int .i64 td] 157)
   have hOa:=hO3.ext hEa
   have hWa:=hW3.ext hEa
   have hbs:w1.heap.size≤w3.heap.size:=hF3.le
   have hLn:L.length≤1000000:=by omega
   have hFa:=hF3.trans hEa
   have hne:∀ v:Value,(∀ k,v.ownBlock=some k→w1.heap.size≤k∧k<w2.heap.size)→v.ownBlock≠some w2.heap.size:=fun v hv e=>by have:=(hv _ e).2;omega
   subst hw3
   have hw2:=hide (show w2.heap.size+1=(w2.alloc (.cells #[.int .u8 (tl.toNat:Int),.int .i64 tn,.int .i64 td] 157)).heap.size by simp)
   clear hO3 hF3
   obtain⟨Ao,co,rfl,_⟩:=hOa.form
   go_wp2_with (at_builtin;refine xb rfl (.tmp 17) (.tmp 19) rfl rfl ⟨tl,tn,td⟩ hOa (congrArg (fun k=>Value.slice (some ⟨k,0,none⟩) 1 1) hw2.out) hLn hbs ?_;intro v5 w5 hO5 hG5 _;have hE5:Ext w1 w5:=Below.grown hFa hG5 hFa.le (fun k hk=>(hlt2 k hk).1);have hW5:=hWa.ownGrown hG5 (hne _ hlt2);have d0:=hW5.at 0 rfl;have d1:=hW5.at 1 rfl;have d2:=hW5.at 2 rfl)
   refine (C2.out _).mono ?_
   rintro e w6 ⟨rfl,hE6⟩
   rw[hsz.out]
   have hF6:=hE5.trans hE6
   have hO6:=hO5.ext hE6
   clear hO5 hE5 hW5 hE6 hOa hWa hFa hEa hE3 hW3 hw2 hG5 C2 hne d0 d1 d2 k0 k1 k2
   go_wp2
   go_roundw
   case rel=>exact⟨p+st,L++[⟨tl,tn,td⟩],hin,by rw[List.length_append];simp;omega,by go_num,hO6,by rw[List.append_assoc,← HL.out,hnx.out];rfl,hF6⟩
   case measure=>simp[intOf];omega
  ·have HLe:=hide (HEnd.out p hlt)
   have HO:=hide hO
   clear hO
   go_wp2
   go_ret
   refine⟨_,rfl,?_,HE1.out.trans hE⟩
   rw[← hL,HLe.out,List.append_nil]
   exact HO.out.mono HE1.out.le
end
end Go.Proofs.YtpmedpdjglcdpaaGreatDoor
