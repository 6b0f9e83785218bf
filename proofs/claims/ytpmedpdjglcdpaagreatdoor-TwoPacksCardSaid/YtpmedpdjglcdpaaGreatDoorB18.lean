/- Regions that draw their order, where one call stands behind all that is read: what is asked of the world holds till that call, not behind it. Regions that draw their order: an operation that asks nothing of the world may be taken at any tim -/
import Derived.Test.YtpmedpdjglcdpaaGreatDoorB02
import Derived.Test.YtpmedpdjglcdpaaGreatDoorB05
import Derived.Test.YtpmedpdjglcdpaaGreatDoorB06
import Derived.OrdersHeld
import Derived.StillTail
import Derived.RegionTactic
import Derived.Maps.AppendAt
import Derived.OwnWalkIn
namespace Go.Proofs.YtpmedpdjglcdpaaGreatDoor
section
open Go.RowKit
def ShutUp (md:Region.Mode)(ops:Array Oper)(listed:Array Bool):Prop:=∀ j oj,ops[j]?=some oj→listed.getD j false=true→∀ e∈oj.after,Region.binds md e=true→listed.getD e.on false=true
def UG (md:Region.Mode)(ops:Array Oper)(listed:Array Bool):Bool :=
 (List.range ops.size).all fun j=>!listed.getD j false || match ops[j]? with
  | some oj=>oj.after.all fun e=>!Region.binds md e || listed.getD e.on false
  | none=>true
theorem abz {md:Region.Mode}{ops:Array Oper}{listed:Array Bool}(h:UG md ops listed=true):ShutUp md ops listed:=by
 intro j oj hj hl e he hb
 have hlt:=(Array.getElem?_eq_some_iff.1 hj).1
 unfold UG at h
 rw[List.all_eq_true]at h
 have h1:=h j (List.mem_range.2 hlt)
 rw[hl,hj]at h1
 simp only[Bool.not_true,Bool.false_or,Array.all_eq_true_iff_forall_mem]at h1
 have h2:=h1 e he
 rw[hb]at h2
 simpa using h2
theorem ShutUp.set {md:Region.Mode}{ops:Array Oper}{listed:Array Bool}(h:ShutUp md ops listed){j:Nat}(hj:j∈Region.ready md ops listed):ShutUp md ops (listed.setIfInBounds j true):=by
 intro k ok hk hl e he hb
 by_cases hkj:j=k
 ·subst hkj
  obtain⟨_,o,ho,hall⟩:=mem_ready.1 hj
  obtain rfl:ok=o:=Option.some.inj (hk.symm.trans ho)
  exact getD_set_true (hall e he hb)
 ·rw[getD_set_ne false hkj]at hl
  exact getD_set_true (h k ok hk hl e he hb)
def Xl (md:Region.Mode)(ops:Array Oper)(n:Nat):Nat→Nat→Bool
 | 0,i=>Region.waitsFor md ops n i
 | f+1,i=>Region.waitsFor md ops n i || (List.range ops.size).any fun k=>Region.waitsFor md ops k i && Xl md ops n f k
theorem ShutUp.waits {md:Region.Mode}{ops:Array Oper}{listed:Array Bool}(h:ShutUp md ops listed){j i:Nat}(hw:Region.waitsFor md ops j i=true)(hj:listed.getD j false=true):listed.getD i false=true:=by
 obtain⟨oj,hoj,e,he,hb,rfl⟩:=Region.waitsFor_spec hw
 exact h j oj hoj hj e he hb
theorem ShutUp.ahead {md:Region.Mode}{ops:Array Oper}{listed:Array Bool}(h:ShutUp md ops listed){n:Nat}(hn:listed.getD n false=true):∀ (f i:Nat),Xl md ops n f i=true→listed.getD i false=true
 | 0,i,ha=>h.waits ha hn
 | f+1,i,ha=>by
  unfold Xl at ha
  rw[Bool.or_eq_true,List.any_eq_true]at ha
  rcases ha with ha | ⟨k,_,ha⟩
  ·exact h.waits ha hn
  ·rw[Bool.and_eq_true]at ha
   exact h.waits ha.1 (h.ahead hn f k ha.2)
section
variable {P:Program}{ops:Array Oper}{Q:Exit→Act→World→Prop}{md:Region.Mode}{S:World→Prop}{n:Nat}
def yR (P:Program)(md:Region.Mode)(ops:Array Oper)(Q:Exit→Act→World→Prop)(S:World→Prop)(n:Nat):Nat→Array Bool→Act→World→Prop
 | 0,listed,a,w=>Region.ready md ops listed=[]∧Q .normal a w
 | fuel+1,listed,a,w =>
  (Region.ready md ops listed=[]→Q .normal a w) ∧
  ∀ i∈Region.ready md ops listed,wpOp P ops Q i (fun a' w'=>((listed.setIfInBounds i true).getD n false=false→S w')∧yR P md ops Q S n fuel (listed.setIfInBounds i true) a' w') a w
theorem qb:∀ (fuel:Nat) (listed:Array Bool) (a:Act) (w:World),yR P md ops Q S n fuel listed a w→wpAny P md ops Q fuel listed a w
 | 0,_,_,_,h=>h
 | fuel+1,_,_,_,h=>⟨h.1,fun i hi=>wpOp_mono (fun a' w' h'=>qb fuel _ a' w' h'.2) (h.2 i hi)⟩
theorem UH {i:Nat}{oi:Oper}{v:Value}(hi:ops[i]?=some oi)(hsel:∀ (j:Nat) (o:Oper) cs b,ops[j]?=some o→o.op≠.select cs b)
  (hQ:∀ c a w,Q (.panic c) (a.put oi.dst v) w→Q (.panic c) a w) (hni:i≠n) {f:Nat} (hah:Xl md ops n f i=true) :
  ∀ (fuel:Nat) (listed:Array Bool) (a:Act) (w:World),
   (∀ j oj,ops[j]?=some oj→j≠i→listed.getD j true=false→(∀ e∈oj.after,Region.binds md e=true→e.on≠i)→oi.apart ops oj=true) →
   i∈Region.ready md ops listed→ShutUp md ops listed→YieldsIf P ops S oi v a→S w →
   yR P md ops Q S n fuel (listed.setIfInBounds i true) (a.put oi.dst v) w→yR P md ops Q S n (fuel+1) listed a w:=by
 intro fuel
 induction fuel with
 | zero =>
  intro listed a w _ hr _ hy hS H
  refine⟨fun h=>(by rw[h]at hr;cases hr),fun j hj=>?_⟩
  by_cases hji:j=i
  ·subst hji;exact hy.wpOp hi hS ⟨fun _=>hS,H⟩
  ·have:=ready_mono hj hji
   rw[H.1]at this
   cases this
 | succ fuel ih =>
  intro listed a w hfree hr hsh hy hS H
  refine⟨fun h=>(by rw[h]at hr;cases hr),fun j hj=>?_⟩
  by_cases hji:j=i
  ·subst hji;exact hy.wpOp hi hS ⟨fun _=>hS,H⟩
  ·have h1:=H.2 j (ready_mono hj hji)
   obtain⟨hjun,oj,hoj,hall⟩:=mem_ready.1 hj
   have hiun:=(mem_ready.1 hr).1
   have hiun':listed.getD i false=false:=getD_both hiun
   have hnot:∀ e∈oj.after,Region.binds md e=true→e.on≠i:=fun e he hb heq=>by
    have h1:=hall e he hb
    rw[heq,hiun']at h1
    cases h1
   have h2:=wpOp_putIf hoj (hfree j oj hoj hji hjun hnot) (fun cs b=>hsel i oi cs b hi) (fun cs b=>hsel j oj cs b hoj) hQ hy h1
   have hfree':∀ k ok,ops[k]?=some ok→k≠i→(listed.setIfInBounds j true).getD k true=false →
     (∀ e∈ok.after,Region.binds md e=true→e.on≠i)→oi.apart ops ok=true:=fun k ok hk hki hun hno=>by
    refine hfree k ok hk hki ?_ hno
    by_cases hjk:j=k
    ·subst hjk;exact hjun
    ·rw[getD_set_ne true hjk]at hun;exact hun
   have hsh':=hsh.set hj
   have hnun:(listed.setIfInBounds j true).getD n false=false:=by
    cases hl:(listed.setIfInBounds j true).getD n false with
    | false=>rfl
    | true =>
     have:=hsh'.ahead hl f i hah
     rw[getD_set_ne false hji,hiun']at this
     cases this
   refine wpOp_mono (fun a' w' h3=>?_) h2
   have hS':S w':=h3.2.1 (by rw[Array.setIfInBounds_comm _ _ (Ne.symm hji),getD_set_ne false hni];exact hnun)
   refine⟨fun _=>hS',ih (listed.setIfInBounds j true) a' w' hfree' (ready_mono hr (Ne.symm hji)) hsh' h3.1 hS' ?_⟩
   rw[Array.setIfInBounds_comm _ _ hji]
   exact h3.2.2
theorem za (i:Nat)(d:Option Tmp)(v:Value)(listed':Array Bool){oi:Oper}{fuel:Nat}{listed:Array Bool}{a:Act}{w:World}(hi:ops[i]?=some oi)(hd:oi.dst=d)(hl:listed.setIfInBounds i true=listed')
  (hb:(Region.noSelect ops && Region.free md ops listed i && (Region.ready md ops listed).contains i && UG md ops listed && Xl md ops n ops.size i && !(i==n))=true)
  (hQ:∀ c a w,Q (.panic c) (a.put oi.dst v) w→Q (.panic c) a w) (hS:S w) (hw:Region.wanted oi (yielded ops a.tmps)=true) (hy:∀ W,S W→(execOp a.eval oi).run P W=.ok (.value v) W)
  (h:yR P md ops Q S n fuel listed' (a.put d v) w):yR P md ops Q S n (fuel+1) listed a w:=by
 subst hd
 subst hl
 simp only[Bool.and_eq_true,Bool.not_eq_true',beq_eq_false_iff_ne,ne_eq]at hb
 obtain⟨⟨⟨⟨⟨hs,hf⟩,hr⟩,hc⟩,ha⟩,hn⟩:=hb
 exact UH hi (Region.noSelect_spec hs) hQ hn ha fuel listed a w (Region.free_spec hi hf) (by simpa using hr) (abz hc) (.inl ⟨hw,hy⟩) hS h
theorem zc (i:Nat)(listed':Array Bool){o:Oper}{fuel:Nat}{listed:Array Bool}{a:Act}{w:World}(hr:Region.ready md ops listed=[i])(ho:ops[i]?=some o)(hl:listed.setIfInBounds i true=listed')(hw:Region.wanted o (yielded ops a.tmps)=true)
  (h:∀ K':Act→World→Prop,(∀ a w,(listed'.getD n false=false→S w)→yR P md ops Q S n fuel listed' a w→K' a w)→Oper.wp P o a w K' Q) :
  yR P md ops Q S n (fuel+1) listed a w:=by
 subst hl
 refine⟨fun h0=>by rw[h0]at hr;simp at hr,fun j hj=>?_⟩
 rw[hr]at hj
 obtain rfl:j=i:=by simpa using hj
 exact wpOp_step ho (fun K' hK=>by rw[if_pos hw];exact h K' (fun a w hS hW=>hK a w ⟨hS,hW⟩))
theorem zj {listed:Array Bool}{a:Act}{w:World}(hr:Region.ready md ops listed=[])(h:Q .normal a w):∀ fuel,yR P md ops Q S n fuel listed a w
 | 0=>⟨hr,h⟩
 | _+1=>⟨fun _=>h,by rw[hr];simp⟩
theorem zq {id:Nat}{a:Act}{w:World}(S:World→Prop)(n m:Nat)(listed:Array Bool)(hm:P.follows .mixedOrders=true)(hm':ops.size=m)(hl:Array.replicate m false=listed)(hS:S w.drew)
  (h:S w.drew→yR P .any ops Q S n m listed a w.drew):(Code.region id ops true).wp P Q a w :=
 wp_region_any hm (by rw[hm',hl];exact qb _ _ _ _ (h hS))
end
end
section
open Go.RowKit
section
variable {P:Program}{ops:Array Oper}{Q:Exit→Act→World→Prop}{md:Region.Mode}{S:World→Prop}{n:Nat}
theorem X6 {i:Nat}{oi:Oper}{v:Value}(hi:ops[i]?=some oi)(hsel:∀ (j:Nat) (o:Oper) cs b,ops[j]?=some o→o.op≠.select cs b)
  (hQ:∀ c a w,Q (.panic c) (a.put oi.dst v) w→Q (.panic c) a w) (hni:i≠n) :
  ∀ (fuel:Nat) (listed:Array Bool) (a:Act) (w:World),
   (∀ j oj,ops[j]?=some oj→j≠i→listed.getD j true=false→(∀ e∈oj.after,Region.binds md e=true→e.on≠i)→oi.apart ops oj=true) →
   i∈Region.ready md ops listed→YieldsIf P ops (fun _=>True) oi v a→(listed.getD n false=false→S w) →
   yR P md ops Q S n fuel (listed.setIfInBounds i true) (a.put oi.dst v) w→yR P md ops Q S n (fuel+1) listed a w:=by
 intro fuel
 induction fuel with
 | zero =>
  intro listed a w _ hr hy hS H
  refine⟨fun h=>(by rw[h]at hr;cases hr),fun j hj=>?_⟩
  by_cases hji:j=i
  ·subst hji;exact hy.wpOp hi trivial ⟨fun h=>hS (by rwa [getD_set_ne false hni]at h),H⟩
  ·have:=ready_mono hj hji
   rw[H.1]at this
   cases this
 | succ fuel ih =>
  intro listed a w hfree hr hy hS H
  refine⟨fun h=>(by rw[h]at hr;cases hr),fun j hj=>?_⟩
  by_cases hji:j=i
  ·subst hji;exact hy.wpOp hi trivial ⟨fun h=>hS (by rwa [getD_set_ne false hni]at h),H⟩
  ·have h1:=H.2 j (ready_mono hj hji)
   obtain⟨hjun,oj,hoj,hall⟩:=mem_ready.1 hj
   have hiun:=(mem_ready.1 hr).1
   have hiun':listed.getD i false=false:=getD_both hiun
   have hnot:∀ e∈oj.after,Region.binds md e=true→e.on≠i:=fun e he hb heq=>by
    have h1:=hall e he hb
    rw[heq,hiun']at h1
    cases h1
   have h2:=wpOp_putIf hoj (hfree j oj hoj hji hjun hnot) (fun cs b=>hsel i oi cs b hi) (fun cs b=>hsel j oj cs b hoj) hQ hy h1
   have hfree':∀ k ok,ops[k]?=some ok→k≠i→(listed.setIfInBounds j true).getD k true=false →
     (∀ e∈ok.after,Region.binds md e=true→e.on≠i)→oi.apart ops ok=true:=fun k ok hk hki hun hno=>by
    refine hfree k ok hk hki ?_ hno
    by_cases hjk:j=k
    ·subst hjk;exact hjun
    ·rw[getD_set_ne true hjk]at hun;exact hun
   refine wpOp_mono (fun a' w' h3=>?_) h2
   have hS':(listed.setIfInBounds j true).getD n false=false→S w':=fun h=>h3.2.1 (by rw[Array.setIfInBounds_comm _ _ (Ne.symm hji),getD_set_ne false hni];exact h)
   refine⟨hS',ih (listed.setIfInBounds j true) a' w' hfree' (ready_mono hr (Ne.symm hji)) h3.1 hS' ?_⟩
   rw[Array.setIfInBounds_comm _ _ hji]
   exact h3.2.2
theorem yk (i:Nat)(d:Option Tmp)(v:Value)(listed':Array Bool){oi:Oper}{fuel:Nat}{listed:Array Bool}{a:Act}{w:World}(hi:ops[i]?=some oi)(hd:oi.dst=d)(hl:listed.setIfInBounds i true=listed')
  (hb:(Region.noSelect ops && Region.free md ops listed i && (Region.ready md ops listed).contains i && !(i==n))=true)
  (hQ:∀ c a w,Q (.panic c) (a.put oi.dst v) w→Q (.panic c) a w) (hS:listed.getD n false=false→S w) (hw:Region.wanted oi (yielded ops a.tmps)=true) (hy:∀ W,(execOp a.eval oi).run P W=.ok (.value v) W)
  (h:yR P md ops Q S n fuel listed' (a.put d v) w):yR P md ops Q S n (fuel+1) listed a w:=by
 subst hd
 subst hl
 simp only[Bool.and_eq_true,Bool.not_eq_true',beq_eq_false_iff_ne,ne_eq]at hb
 obtain⟨⟨⟨hs,hf⟩,hr⟩,hn⟩:=hb
 exact X6 hi (Region.noSelect_spec hs) hQ hn fuel listed a w (Region.free_spec hi hf) (by simpa using hr) (.inl ⟨hw,fun W _=>hy W⟩) hS h
theorem qc (i j:Nat)(li lj:Array Bool){oi oj:Oper}{fuel:Nat}{listed:Array Bool}{a:Act}{w:World}(hr:Region.ready md ops listed=[i,j])(hoi:ops[i]?=some oi)(hoj:ops[j]?=some oj)(hli:listed.setIfInBounds i true=li)(hlj:listed.setIfInBounds j true=lj)
  (hwi:Region.wanted oi (yielded ops a.tmps)=true) (hwj:Region.wanted oj (yielded ops a.tmps)=true)
  (hi:∀ K':Act→World→Prop,(∀ a w,(li.getD n false=false→S w)→yR P md ops Q S n fuel li a w→K' a w)→Oper.wp P oi a w K' Q)
  (hj:∀ K':Act→World→Prop,(∀ a w,(lj.getD n false=false→S w)→yR P md ops Q S n fuel lj a w→K' a w)→Oper.wp P oj a w K' Q) :
  yR P md ops Q S n (fuel+1) listed a w:=by
 subst hli
 subst hlj
 refine⟨fun h0=>by rw[h0]at hr;simp at hr,fun k hk=>?_⟩
 rw[hr]at hk
 simp only[List.mem_cons,List.not_mem_nil,or_false]at hk
 rcases hk with rfl|rfl
 ·exact wpOp_step hoi (fun K' hK=>by rw[if_pos hwi];exact hi K' (fun a w hS hW=>hK a w ⟨hS,hW⟩))
 ·exact wpOp_step hoj (fun K' hK=>by rw[if_pos hwj];exact hj K' (fun a w hS hW=>hK a w ⟨hS,hW⟩))
end
theorem sP:(∀ (t:Array Value) (ds) (i:Tmp) (v:Value),Act.put ⟨t,ds⟩ (some i) v=⟨t.setIfInBounds i v,ds⟩)∧(∀ (a:Act) (v:Value),a.put none v=a)∧(∀ (l:List Value) (i:Nat) (v:Value),l.toArray.setIfInBounds i v=(l.set i v).toArray)∧(∀ (x y:Value) (l:List Value),(x::l).set 0 y=y::l)∧∀ (x y:Value) (l:List Value) (i:Nat),(x::l).set (i+1) y=x::l.set i y :=
 ⟨fun _ _ _ _=>rfl,fun _ _=>rfl,fun _ _ _=>List.setIfInBounds_toArray ..,fun _ _ _=>rfl,fun _ _ _ _=>rfl⟩
end
section
open Go.RowKit Len
def pC (x:PI):List Value:=[.int .u64 (x.1:Int),.int .i64 (x.2:Int)]
theorem ux:(Tryz.prog.info? 230).map (fun i=>(i.zero,i.size,i.bytes))=some (some (.agg #[.int .u64 0,.int .i64 0]),2,16):=by kernel_rfl
theorem vQ:∀ L:List PI,(L.flatMap pC).length=L.length*2
 | []=>rfl
 | y::Y=>by rw[List.flatMap_cons,List.length_append,vQ Y];simp[pC];omega
theorem UI:∀ (Y:List PI) (i j:Nat),i<Y.length→j<2→(Y.flatMap pC)[i*2+j]?=(pC (Y.getD i (0,0)))[j]?
 | y::Y,0,j,_,hj=>by
  rw[List.flatMap_cons,Nat.zero_mul,Nat.zero_add,List.getElem?_append_left (by simp[pC];omega)]
  rfl
 | y::Y,i+1,j,h,hj=>by
  rw[List.flatMap_cons,List.getElem?_append_right (by simp[pC];omega)]
  have:=UI Y i j (by simpa using h) hj
  rw[show (i+1)*2+j-(pC y).length=i*2+j by simp[pC];omega,this]
  simp
def OwnPI (w:World)(base:Nat)(v:Value)(L:List PI):Prop:=w.ownsRow base 230 2 v L.length (L.flatMap pC)
def PIAt (w:World)(B:Nat)(A:Option Addr)(n:Nat)(L:List PI):Prop :=
 L.length=n∧(n=0∨∃ b off,A=some ⟨b,off,none⟩∧b<B∧∀ i,i<n→w.cell? ⟨b,off+i*2,none⟩=some (.int .u64 ((L.getD i (0,0)).1:Int))∧w.cell? ⟨b,off+i*2+1,none⟩=some (.int .i64 ((L.getD i (0,0)).2:Int)))
section
variable {w w':World}{base B:Nat}{v:Value}{L M:List PI}{A:Option Addr}{n:Nat}
theorem PIAt.ext (h:PIAt w w.heap.size A n L)(hE:Ext w w'):PIAt w' w'.heap.size A n L:=by
 refine⟨h.1,h.2.imp_right fun ⟨b,off,e,hb,hc⟩=>⟨b,off,e,Nat.lt_of_lt_of_le hb hE.le,fun i hi=>?_⟩⟩
 obtain⟨k1,k2⟩:=hc i hi
 exact⟨(hE.cell hb).trans k1,(hE.cell hb).trans k2⟩
theorem PIAt.take {k:Nat}(h:PIAt w B A n L)(hk:k≤n):PIAt w B A k (L.take k):=by
 refine⟨by rw[List.length_take,h.1];omega,?_⟩
 rcases h.2 with h0 | ⟨b,off,e,hb,hc⟩
 ·exact .inl (by omega)
 ·refine .inr ⟨b,off,e,hb,fun i hi=>?_⟩
  have e2:(L.take k).getD i (0,0)=L.getD i (0,0):=by simp[List.getD_eq_getElem?_getD,hi]
  rw[e2]
  exact hc i (by omega)
theorem PIAt.drop {k c:Nat}(h:PIAt w B A n L)(hk:k≤n)(hc:n≤c):PIAt w B (zQ A (c*2) (k*2)) (n-k) (L.drop k):=by
 refine⟨by rw[List.length_drop,h.1],?_⟩
 by_cases hkn:k=n
 ·exact .inl (by omega)
 rcases h.2 with h0 | ⟨b,off,rfl,hb,hcell⟩
 ·exact .inl (by omega)
 ·refine .inr ⟨b,off+k*2,by simp[zQ,show ¬ c*2=k*2 by omega,Addr.add],hb,fun i hi=>?_⟩
  have e2:(L.drop k).getD i (0,0)=L.getD (k+i) (0,0):=by simp[List.getD_eq_getElem?_getD]
  rw[e2,show off+k*2+i*2=off+(k+i)*2 by omega]
  exact hcell (k+i) (by omega)
theorem OwnPI.nil (w:World)(base:Nat):OwnPI w base (.slice none 0 0) []:=World.ownsRow_nil w base _ _
theorem OwnPI.ext (h:OwnPI w base v L)(hE:Ext w w'):OwnPI w' base v L:=World.ownsRow.kept h (hE.grown none) (by cases hv:v.ownBlock<;>simp)
theorem OwnPI.kept {row:Option Nat}(h:OwnPI w base v L)(hg:w.grownBy w' row)(hne:v.ownBlock=none∨v.ownBlock≠row):OwnPI w' base v L:=World.ownsRow.kept h hg hne
theorem OwnPI.mono {b':Nat}(h:OwnPI w base v L)(hb:b'≤base):OwnPI w b' v L:=⟨h.1,h.2.elim Or.inl fun ⟨g,cap,cur,hv,hg,r⟩=>Or.inr ⟨g,cap,cur,hv,Nat.le_trans hb hg,r⟩⟩
theorem OwnPI.lt (h:OwnPI w base v L):∀ k,v.ownBlock=some k→base≤k∧k<w.heap.size:=World.ownsRow.lt h
theorem OwnPI.form (h:OwnPI w base v L):∃ A c,v=.slice A L.length c∧L.length≤c∧c≤maxLen∧PIAt w w.heap.size A L.length L:=by
 rcases h.2 with ⟨rfl,h0⟩ | ⟨g,cap,cur,rfl,hb,hgg,hn,hc,hs,ht⟩
 ·exact⟨none,0,by rw[h0],by omega,by unfold maxLen;omega,rfl,.inl h0⟩
 ·refine⟨_,cap,rfl,hn,hc,rfl,.inr ⟨g,0,rfl,(Array.getElem?_eq_some_iff.1 hgg).1,fun i hi=>?_⟩⟩
  have hcell:∀ j,j<2→w.cell? ⟨g,i*2+j,none⟩=(pC (L.getD i (0,0)))[j]?:=fun j hj=>by
   rw[cell_of_row w g (i*2+j) cur _ _ hgg,← UI L i j hi hj,← ht,List.getElem?_take,if_pos (by omega)]
   simp
  rw[Nat.zero_add]
  exact⟨(hcell 0 (by omega)).trans (by simp[pC]),(hcell 1 (by omega)).trans (by simp[pC])⟩
theorem PIAt.one (w:World)(x:PI):PIAt (w.alloc (.cells #[.int .u64 (x.1:Int),.int .i64 (x.2:Int)] 230)) (w.alloc (.cells #[.int .u64 (x.1:Int),.int .i64 (x.2:Int)] 230)).heap.size (some ⟨w.heap.size,0,none⟩) 1 [x]:=by
 refine⟨rfl,.inr ⟨w.heap.size,0,rfl,by simp,fun i hi=>?_⟩⟩
 obtain rfl:i=0:=by omega
 exact⟨zA w _ _ _ 0,zA w _ _ _ 1⟩
end
theorem Xm (w:World)(ty:TypeId)(base:Nat)(v:Value)(L:List PI)(hown:OwnPI w base v L)(A:Option Addr)(c:Nat) :
  (Builtin.append_ #[234,234] ty #[v,.slice A 0 c]).run Tryz.prog w=.ok v w:=by
 obtain⟨i,hi,_,_,_⟩:=info_parts ux
 rcases hown.2 with ⟨rfl,_⟩ | ⟨g,cap,cur,rfl,_,_,hnc,_⟩
 ·cases A<;>simp[Builtin.append_,run_underlying Tryz.underlying234,sizeOf,typeInfo,hi,Builtin.lenOf,Builtin.firstCells,loadCells,loadCellsFrom]
 ·cases A<;>simp[Builtin.append_,run_underlying Tryz.underlying234,sizeOf,typeInfo,hi,Builtin.lenOf,Builtin.firstCells,loadCells,loadCellsFrom,hnc,storeCells]
theorem abA {w:World}(ty:TypeId){base:Nat}{v:Value}{L M:List PI}(hown:OwnPI w base v L){S:Option Addr}{m:Nat}(c:Nat){B:Nat}(hsrc:PIAt w B S m M)(hlen:L.length≤100000)(hm:m≤100000)(hbase:base≤w.heap.size) :
  ∃ v' w',(Builtin.append_ #[234,234] ty #[v,.slice S m c]).run Tryz.prog w=.ok v' w'∧OwnPI w' base v' (L++M)∧w.grownBy w' v.ownBlock∧(v'.ownBlock=v.ownBlock∨v'.ownBlock=some w.heap.size):=by
 obtain⟨hl2,hcs⟩:=hsrc
 rcases hcs with rfl | ⟨g,off,rfl,_,hc⟩
 ·obtain rfl:=List.eq_nil_of_length_eq_zero hl2
  exact⟨v,w,Xm w ty base v L hown S c,by rw[List.append_nil];exact hown,World.grownBy.refl w _,.inl rfl⟩
 ·obtain⟨i,hi,hz,hsz,hby⟩:=info_parts ux
  obtain⟨v',w',hr,h2,h3,_,h5⟩:=run_append_own_at (P:=Tryz.prog) w base 234 ty 230 i _ 2 16 Tryz.underlying234 hi hz hsz hby rfl (by omega) v L.length (L.flatMap pC) hown ⟨g,off,none⟩ m c (M.flatMap pC) (by rw[vQ,hl2]) (by
   intro j u hu
   have hj:j<m*2:=by
    have:=(List.getElem?_eq_some_iff.1 hu).1
    rw[vQ,hl2]at this
    exact this
   rw[show (⟨g,off,none⟩:Addr).add j=⟨g,off+j,none⟩ by unfold Addr.add;split<;>simp_all]
   obtain⟨k1,k2⟩:=hc (j / 2) (by omega)
   have hd:j=j / 2*2+j % 2:=by omega
   rw[hd,UI M (j / 2) (j % 2) (by omega) (by omega)]at hu
   rcases (show j % 2=0∨j % 2=1 by omega) with e|e
   ·rw[e]at hu
    rw[show off+j=off+j / 2*2 by omega,k1]
    simpa[pC] using hu
   ·rw[e]at hu
    rw[show off+j=off+j / 2*2+1 by omega,k2]
    simpa[pC] using hu) (by
   intro u hu
   obtain⟨y,hy,hu2⟩:=List.mem_flatMap.1 hu
   simp only[pC,List.mem_cons,List.not_mem_nil,or_false]at hu2
   rcases hu2 with rfl|rfl<;>rfl) (by unfold maxLen;omega) (by omega) hbase
  refine⟨v',w',hr,?_,h3,h5⟩
  unfold OwnPI
  rw[List.length_append,List.flatMap_append,hl2]
  exact h2
section
variable {o:Oper}{a:Act}{Q:Exit→Act→World→Prop}{w:World}{base B:Nat}{v:Value}{L M:List PI}
theorem JO {K:Act→World→Prop}(s x:Operand)(ho:o.op=.call { callee:=.builtin .append,args:=#[s,x],argTypes:=#[234,234] })(hs:a.eval s=v)
  (hown:OwnPI w base v L) {S:Option Addr} {m c:Nat} (hx:a.eval x=.slice S m c) (hsrc:PIAt w B S m M) (hlen:L.length≤100000) (hm:m≤100000) (hbase:base≤w.heap.size)
  (h:∀ v' w',OwnPI w' base v' (L++M)→w.grownBy w' v.ownBlock→(v'.ownBlock=v.ownBlock∨v'.ownBlock=some w.heap.size)→K (a.put o.dst v') w'):o.wp Tryz.prog a w K Q:=by
 obtain⟨v',w',hr,h2,h3,h4⟩:=abA o.type hown c hsrc hlen hm hbase
 unfold Oper.wp execOp
 simp only[ho,resolve,invoke,builtin,Sem.run_bind,Sem.run_pure,Result.andThen_ok,List.map_toArray,List.map_cons,List.map_nil,hs,hx,hr]
 exact h v' w' h2 h3 h4
theorem xA {ops:Array Oper}{rest:List Oper}(hgd:o.guard=none)(s x:Operand)(ho:o.op=.call { callee:=.builtin .append,args:=#[s,x],argTypes:=#[234,234] })(hs:a.eval s=v)
  (hown:OwnPI w base v L) {S:Option Addr} {m c:Nat} (hx:a.eval x=.slice S m c) (hsrc:PIAt w B S m M) (hlen:L.length≤100000) (hm:m≤100000) (hbase:base≤w.heap.size)
  (h:∀ v' w',OwnPI w' base v' (L++M)→w.grownBy w' v.ownBlock→(v'.ownBlock=v.ownBlock∨v'.ownBlock=some w.heap.size)→wpList Tryz.prog ops Q rest (a.put o.dst v') w'):wpList Tryz.prog ops Q (o::rest) a w :=
 wpList_plain hgd fun _ hK=>JO s x ho hs hown hx hsrc hlen hm hbase fun v' w' h2 h3 h4=>hK _ _ (h v' w' h2 h3 h4)
end
theorem abB (W:World)(a:Option Addr)(n c:Nat)(k:IntKind)(h:Int)(h0:0≤h)(h1:h≤c) :
  (Instr.slice 234 (.slice a n c) none (some (.int k h)) none).run Tryz.prog W=.ok (.slice (zQ a (c*2) (0*2)) h.toNat c) W:=by
 rw[run_slice_h (P:=Tryz.prog) (w:=W) 234 a n c (by kernel_rfl) k h h0 h1]
 have hs:(sizeOf (Tryz.prog.elem 234)).run Tryz.prog W=.ok 2 W:=by kernel_rfl
 rw[hs]
 have e:(c*2=0*2)=(c=0):=propext ⟨fun h=>by omega,fun h=>by omega⟩
 simp only[Result.andThen,sliced,zQ,e,Nat.sub_zero]
theorem JP (W:World)(a:Option Addr)(n c:Nat)(k:IntKind)(l:Int)(h0:0≤l)(h1:l≤n) :
  (Instr.slice 234 (.slice a n c) (some (.int k l)) none none).run Tryz.prog W=.ok (.slice (zQ a (c*2) (l.toNat*2)) (n-l.toNat) (c-l.toNat)) W:=by
 rw[run_slice_l (P:=Tryz.prog) (w:=W) 234 a n c (by kernel_rfl) k l h0 h1]
 have hs:(sizeOf (Tryz.prog.elem 234)).run Tryz.prog W=.ok 2 W:=by kernel_rfl
 rw[hs]
 have e:(c*2=l.toNat*2)=(c=l.toNat):=propext ⟨fun h=>by omega,fun h=>by omega⟩
 simp only[Result.andThen,sliced,zQ,e]
theorem PIAt.head {w:World}{B:Nat}{A:Option Addr}{n c k:Nat}{L:List PI}(h:PIAt w B A n L)(hk:k≤n)(hc:n≤c):PIAt w B (zQ A (c*2) (0*2)) k (L.take k):=by
 have:=(h.drop (k:=0) (Nat.zero_le n) hc).take (k:=k) (by omega)
 simpa using this
end
end Go.Proofs.YtpmedpdjglcdpaaGreatDoor
