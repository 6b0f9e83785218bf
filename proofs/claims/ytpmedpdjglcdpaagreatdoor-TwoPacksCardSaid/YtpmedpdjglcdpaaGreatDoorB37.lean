/- Rows of rows of the program's items in the call's own memory; contract of the program's rowsOf. Contract of the program's count: from the last row back, what is taken of each row. -/
import Derived.Test.YtpmedpdjglcdpaaGreatDoorB34
import Derived.Test.YtpmedpdjglcdpaaGreatDoorB36
namespace Go.Proofs.YtpmedpdjglcdpaaGreatDoor
section
open Go.RowKit Len
namespace Len
theorem uB {ls ps:List PI}{x:PI}:x∈yd ls ps→x∈ls∨x∈ps:=by
 match ls,ps with
 | [],ps=>rw[vo];exact .inr
 | a::ls,[]=>rw[ul];exact .inl
 | a::ls,b::ps =>
  rw[xP]
  split
  ·intro h
   rcases List.mem_cons.1 h with e|e
   ·exact .inl (by rw[e];exact List.mem_cons_self)
   ·rcases uB e with h | h
    ·exact .inl (List.mem_cons_of_mem _ h)
    ·exact .inr h
  ·intro h
   rcases List.mem_cons.1 h with e|e
   ·exact .inr (by rw[e];exact List.mem_cons_self)
   ·rcases uB e with h | h
    ·exact .inl h
    ·exact .inr (List.mem_cons_of_mem _ h)
termination_by ls.length+ps.length
theorem uC:∀ {l:List PI} {x:PI},x∈zX l→x.2=300∧∃ a b,a∈l∧b∈l∧x.1=a.1+b.1
 | [],_,h=>by simp[zX]at h
 | [_],_,h=>by simp[zX]at h
 | a::b::r,x,h=>by
  rw[zX]at h
  rcases List.mem_cons.1 h with e|e
  ·rw[e]
   exact⟨rfl,a,b,by simp,by simp,rfl⟩
  ·obtain⟨h1,c,d,hc,hd,e⟩:=uC e
   exact⟨h1,c,d,by simp[hc],by simp[hd],e⟩
theorem qg {lv:List PI}(h:∀ x∈lv,x.1<4294967296):∀ r,∀ x∈zO lv r,x.1<4294967296*2 ^ r
 | 0,x,hx=>by simpa[zO] using h x hx
 | r+1,x,hx=>by
  rw[zO]at hx
  have h2:4294967296*2 ^ (r+1)=4294967296*2 ^ r+4294967296*2 ^ r:=by rw[Nat.pow_succ];omega
  rcases uB hx with e|e
  ·have:=h x e
   have:=Nat.pow_pos (a:=2) (n:=r+1) (by omega)
   have:4294967296*1≤4294967296*2 ^ (r+1):=Nat.mul_le_mul_left _ this
   omega
  ·obtain⟨_,a,b,ha,hb,e⟩:=uC e
   have:=qg h r a ha
   have:=qg h r b hb
   omega
theorem aai {lv:List PI}(h:∀ x∈lv,x.1<4294967296){r:Nat}(hr:r≤15):∀ x∈zO lv r,x.1<9223372036854775808:=fun x hx=>by
 have h1:=qg h r x hx
 have h2:2 ^ r≤2 ^ 15:=Nat.pow_le_pow_right (by omega) hr
 have:4294967296*2 ^ r≤4294967296*2 ^ 15:=Nat.mul_le_mul_left _ h2
 omega
theorem adf (lv:List PI)(r:Nat):(zO lv (r+1)).length=lv.length+(zO lv r).length / 2:=by rw[zO,um,xk]
theorem UX (lv:List PI):∀ r,(zO lv r).length≤2*lv.length∧lv.length≤(zO lv r).length
 | 0=>by rw[zO];omega
 | r+1=>by
  have:=UX lv r
  rw[adf]
  omega
end Len
def RowsP (w:World)(base:Nat)(v:Value)(R:List (List PI)):Prop:=∃ Vs:List Value,w.ownsRow base 234 1 v R.length Vs∧∀ i,i<R.length→OwnPI w 0 (Vs.getD i undef) (R.getD i [])
theorem abQ:(Tryz.prog.info? 234).map (fun i=>(i.zero,i.size,i.bytes))=some (some (.slice none 0 0),1,24):=by kernel_rfl
section
variable {w w':World}{base g:Nat}{v u:Value}{R:List (List PI)}{L:List PI}{Vs:List Value}
theorem OwnPI.notRows (h:OwnPI w base u L){b2 n:Nat}(hY:w.ownsRow b2 234 1 v n Vs)(hg:v.ownBlock=some g):u.ownBlock≠some g:=by
 intro e
 rcases h.2 with ⟨rfl,_⟩ | ⟨g1,c1,cur1,rfl,_,h1,_⟩
 ·cases e
 rcases hY.2 with ⟨rfl,_⟩ | ⟨g2,c2,cur2,rfl,_,h2,_⟩
 ·cases hg
 simp only[Value.ownBlock,Option.some.injEq]at e hg
 subst e
 subst hg
 rw[h1]at h2
 simp only[Option.some.injEq,Obj.cells.injEq]at h2
 exact absurd h2.2.1 (by decide)
theorem RowsP.ext (h:RowsP w base v R)(hE:Ext w w'):RowsP w' base v R:=by
 obtain⟨Vs,h1,h2⟩:=h
 exact⟨Vs,World.ownsRow.kept h1 (hE.grown none) (by cases hv:v.ownBlock<;>simp),fun i hi=>(h2 i hi).ext hE⟩
theorem RowsP.lt (h:RowsP w base v R):∀ k,v.ownBlock=some k→base≤k∧k<w.heap.size:=by
 obtain⟨Vs,h1,_⟩:=h
 exact World.ownsRow.lt h1
theorem RowsP.form (h:RowsP w base v R):∃ A c,v=.slice A R.length c∧R.length≤c∧c≤maxLen∧(R.length=0∨∃ g,A=some ⟨g,0,none⟩∧base≤g∧g<w.heap.size∧∀ i,i<R.length→∃ u,w.cell? ⟨g,i,none⟩=some u∧OwnPI w 0 u (R.getD i [])):=by
 obtain⟨Vs,h1,h2⟩:=h
 rcases h1.2 with ⟨rfl,h0⟩ | ⟨g,cap,cur,rfl,hb,hgg,hn,hc,hs,ht⟩
 ·exact⟨none,0,by rw[h0],by omega,by unfold maxLen;omega,.inl h0⟩
 ·refine⟨_,cap,rfl,hn,hc,.inr ⟨g,rfl,hb,(Array.getElem?_eq_some_iff.1 hgg).1,fun i hi=>⟨_,?_,h2 i hi⟩⟩⟩
  have:=World.ownsRow.cellAt h1 i (by omega)
  have hl:i<Vs.length:=by rw[h1.1];omega
  rw[this,List.getD_eq_getElem?_getD,List.getElem?_eq_getElem hl]
  rfl
theorem RowsP.one (w:World)(u:Value)(L:List PI)(h:OwnPI w base u L){b2:Nat}(hb:b2≤w.heap.size):RowsP (w.alloc (.cells #[u] 234)) b2 (.slice (some ⟨w.heap.size,0,none⟩) 1 1) [L]:=by
 refine⟨[u],World.ownsRow_lit (e:=234) (size:=1) w #[u] 1 hb (by unfold maxLen;omega) (by simp),fun i hi=>?_⟩
 obtain rfl:i=0:=by simp at hi;exact hi
 exact (h.ext (zb w _)).mono (Nat.zero_le _)
end
section
variable {o:Oper}{a:Act}{Q:Exit→Act→World→Prop}{w:World}{base b2:Nat}{v u:Value}{R:List (List PI)}{L:List PI}
theorem Vd {ops:Array Oper}{rest:List Oper}(hgd:o.guard=none)(s x:Operand)(ho:o.op=.call { callee:=.builtin .append,args:=#[s,x],argTypes:=#[237,237] })(hs:a.eval s=v)(hown:RowsP w base v R)(hu:OwnPI w b2 u L)
  {c:Nat} (hx:a.eval x=.slice (some ⟨w.heap.size,0,none⟩) 1 c) (hlen:R.length≤1000) (hbase:base≤w.heap.size)
  (h:∀ v' w',RowsP w' base v' (R++[L])→(w.alloc (.cells #[u] 234)).grownBy w' v.ownBlock→wpList Tryz.prog ops Q rest (a.put o.dst v') w') :
  wpList Tryz.prog ops Q (o::rest) a (w.alloc (.cells #[u] 234)):=by
 obtain⟨i,hi,hz,hsz,hby⟩:=info_parts abQ
 obtain⟨Vs,h1,h2⟩:=hown
 have hE:=zb w (.cells #[u] 234)
 have h1E:(w.alloc (.cells #[u] 234)).ownsRow base 234 1 v R.length Vs:=World.ownsRow.kept h1 (hE.grown none) (by cases hv:v.ownBlock<;>simp)
 obtain⟨Au,cu,hue,_,_,_⟩:=hu.form
 refine wpList_append_own_at _ hgd s x 237 ho base 234 i _ 1 24 Tryz.underlying237 hi hz hsz hby rfl (by omega) v R.length Vs hs h1E ⟨w.heap.size,0,none⟩ 1 c [u] hx rfl (by
  intro j x hu
  match j,hu with
  | 0,hu =>
   have:(⟨w.heap.size,0,none⟩:Addr).add 0=⟨w.heap.size,0,none⟩:=rfl
   rw[this,zA]
   simpa using hu
  | j+1,hu=>simp at hu) (by
  intro x hx
  simp at hx
  rw[hx,hue]
  rfl) (by unfold maxLen;omega) (by omega) (by simp;omega) ?_
 intro v' w' h4 h5 _ _
 have kept:∀ {b:Nat} {x:Value} {M:List PI},OwnPI w b x M→OwnPI w' 0 x M:=fun {b x M} hM=>((hM.ext hE).kept h5 (by
  cases hb:v.ownBlock with
  | none=>cases hx:x.ownBlock<;>simp
  | some g=>exact .inr ((hM.ext hE).notRows h1E hb))).mono (Nat.zero_le _)
 refine h v' w' ⟨Vs++[u],?_,fun j hj=>?_⟩ h5
 ·rw[List.length_append]
  exact h4
 ·have hvl:Vs.length=R.length:=by have:=h1.1;omega
  by_cases hjl:j<R.length
  ·have e1:(R++[L]).getD j []=R.getD j []:=by simp[List.getD_eq_getElem?_getD,List.getElem?_append_left hjl]
   have e2:(Vs++[u]).getD j undef=Vs.getD j undef:=by simp[List.getD_eq_getElem?_getD,List.getElem?_append_left (by omega:j<Vs.length)]
   rw[e1,e2]
   exact kept (h2 j hjl)
  ·obtain rfl:j=R.length:=by simp at hj;omega
   have e1:(R++[L]).getD R.length []=L:=by simp[List.getD_eq_getElem?_getD]
   have e2:(Vs++[u]).getD R.length undef=u:=by rw[← hvl];simp[List.getD_eq_getElem?_getD]
   rw[e1,e2]
   exact kept hu
end
theorem Ve (f:Nat→List PI)(r:Nat):(List.range (r+1)).map f=(List.range r).map f++[f r]:=by rw[List.range_succ,List.map_append];rfl
theorem q6 (f:Nat→List PI){r i:Nat}(h:i<r):((List.range r).map f).getD i []=f i:=by simp[List.getD_eq_getElem?_getD,h]
set_option maxHeartbeats 2000000 in
set_option maxRecDepth 100000 in
theorem aaj {lv:List PI}{A:Option Addr}{n c L base:Nat}{w:World}(hn:lv.length=n)(hn1:1≤n)(hn3:n≤300)(hL1:1≤L)(hL:L≤15)(h:OwnPI w base (.slice A n c) lv)(hw:∀ x∈lv,x.1<4294967296)(hs:∀ x∈lv,x.2<300) :
  Calls Tryz.prog 193 #[.slice A n c,.int .i64 (L:Int),.func (.func 187) #[] #[]] w fun e w'=>∃ v,e=.returned v∧RowsP w' w.heap.size v ((List.range L).map (zO lv))∧Ext w w':=by
 obtain⟨Ax,cx,e,hnc,hcm,hP⟩:=h.form
 rw[hn]at e hP hnc
 simp only[Value.slice.injEq,true_and]at e
 obtain⟨rfl,rfl⟩:=e
 have HSm:=hide (fun r hr i hi=>aai (r:=r) hw hr ((zO lv r).getD i (0,0)) (by rw[List.getD_eq_getElem?_getD,List.getElem?_eq_getElem hi];exact List.getElem_mem hi))
 have HLe:=hide (fun r=>hn ▸ UX lv r)
 have HS:=hide (show ∀ i,i<n→(lv.getD i (0,0)).2<300 from fun i hi=>hs _ (by rw[List.getD_eq_getElem?_getD,List.getElem?_eq_getElem (by omega)];exact List.getElem_mem _))
 have HT:=hide (fun r i hi=>(uC (l:=zO lv r) (x:=(zX (zO lv r)).getD i (0,0)) (by rw[List.getD_eq_getElem?_getD,List.getElem?_eq_getElem hi];exact List.getElem_mem hi)).1)
 have HO:=hide h
 have HP:=hide hP
 have HM:=hide hcm
 have HR:=hide (Ve (zO lv))
 have HG:=hide (fun r i hi=>q6 (zO lv) (r:=r) (i:=i) hi)
 have H0:=hide (show (List.range 1).map (zO lv)=[lv] from rfl)
 have HN:=hide hn
 have HRr:=hide (fun r=>show zO lv (r+1)=yd lv (zX (zO lv r)) from rfl)
 have HPl:=hide (fun r=>xk (zO lv r))
 have h1:=RowsP.one w (.slice A n c) lv h (Nat.le_refl w.heap.size)
 rw[← H0.out]at h1
 have hEa:=zb w (.cells #[.slice A n c] 234)
 have HW:=hide hw
 clear hw hs hn h hP hcm
 generalize hrp:zO lv=rp at *
 clear hrp
 go_enter Tryz.func193,Tryz.ntmps193
 go_wp2
 go_loopw [7] (fun a wr=>∃ r:Nat,1≤r∧r≤L∧RowsP wr w.heap.size a ((List.range r).map rp)∧Ext w wr) (fun a _=>L-UU a)
 case atStart=>exact⟨1,Nat.le_refl _,hL1,h1,hEa⟩
 case round =>
  clear h1 hEa
  obtain⟨r,hr1,hrL,hR,hE⟩:=hrel
  obtain⟨Ar,cr,rfl,hrc,hrm,hcell⟩:=hR.form
  have hlen:((List.range r).map rp).length=r:=by simp
  rw[hlen]at hrc hcell ⊢
  have HR1:=hide hR
  by_cases hrl:r<L
  ·rcases hcell with h0 | ⟨g,rfl,hgb,hgl,hcell⟩
   ·omega
   obtain⟨u,hu,hOu⟩:=hcell (r-1) (by omega)
   rw[HG.out r (r-1) (by omega)]at hOu
   have hlr:=HLe.out (r-1)
   have hsm:=HSm.out (r-1) (by omega)
   have htm:=HT.out (r-1)
   have hpl:=HPl.out (r-1)
   have hrr:=HRr.out (r-1)
   rw[show r-1+1=r by omega]at hrr
   generalize rp (r-1)=X at *
   obtain⟨Ax,cx,rfl,hxc,hxm,hPx⟩:=hOu.form
   rcases hPx.2 with h0 | ⟨gx,ox,rfl,_,_⟩
   ·omega
   have C1:=Qa (L:=X) (by omega) hxc hxm hPx hsm
   have hri:((r:Int)-1)=((r-1:Nat):Int):=by omega
   have HX:=hide hsm
   have HRr2:=hide hrr
   have HTm:=hide htm
   have HPl2:=hide hpl
   clear hsm hcell hPx hOu htm hrr hpl hlen
   obtain⟨m,hm⟩:∃ m,m=X.length:=⟨_,rfl⟩
   rw[← hm]at C1 hu hxc hlr
   have HMm:=hide hm
   clear hm
   go_wp2_with fail
   refine C1.mono ?_
   rintro e w2 ⟨v2,rfl,hO2,hE2⟩
   have hE02:=hE.trans hE2
   obtain⟨A2,c2,rfl,h2c,_,hP2⟩:=hO2.form
   have C2:=aaf (ls:=lv) (ps:=zX X) (A1:=A) (A2:=A2) (n1:=n) (n2:=(zX X).length) (c1:=c) (c2:=c2) (w:=w2) hn3 (by rw[HPl2.out,← HMm.out];omega) hnc HM.out (HP.out.ext hE02) hP2 HS.out HTm.out
   rw[← HRr2.out]at C2
   have hR2:=hR.ext hE2
   have HR2:=hide hR2
   clear hR2 hP2 hR
   generalize (zX X).length=n2 at *
   go_wp2_with fail
   refine C2.mono ?_
   rintro e w3 ⟨v3,rfl,hO3,hE3⟩
   have hE03:=hE02.trans hE3
   have hR3:=HR2.out.ext hE3
   obtain⟨A3,c3,rfl,_,_,_⟩:=hO3.form
   have hbb:=hE03.le
   have hl1:((List.range r).map rp).length≤1000:=by simp;omega
   go_wp2_with (at_builtin;refine Vd (R:=(List.range r).map rp) rfl (.tmp 22) (.tmp 27) rfl (by rw[List.length_map,List.length_range];rfl) hR3 hO3 rfl hl1 hbb ?_;intro v5 w5 hR5 hG5)
   have hE5:Ext w w5:=Below.grown (hE03.trans (zb w3 _)) hG5 (hE03.trans (zb w3 _)).le (fun k hk=>(HR1.out.lt k (by simpa[Value.ownBlock] using hk)).1)
   rw[← HR.out r]at hR5
   obtain⟨A5,c5,rfl,_,_,_⟩:=hR5.form
   go_roundw
   case rel=>exact⟨r+1,by omega,by omega,hR5,hE5⟩
   case measure=>simp[UU];omega
  ·obtain rfl:r=L:=by omega
   clear hcell hlen
   go_wp2
   go_ret
   refine⟨_,rfl,?_,hE⟩
   have:=HR1.out
   rwa [List.length_map,List.length_range]at this
end
section
open Go.RowKit Go.Shelf Len
attribute [local go_sem] Oper.semAt_some
namespace Len
def vX (lv:List PI)(q:Nat):Nat→Nat→Nat
 | 0,_=>0
 | r+1,m=>XW lv q r m
theorem abR (lv:List PI)(q r m:Nat):XW lv q r m=(((zO lv r).take m).countP fun x=>x.2==q)+vX lv q r (2*packs ((zO lv r).take m)):=by
 cases r with
 | zero=>rw[XW,vX];rfl
 | succ r=>rw[XW,vX]
theorem Vf {X:List PI}{m j:Nat}(hj:j<m)(hm:m≤X.length):(X.take m).drop j=X.getD j (0,0)::(X.take m).drop (j+1):=by
 have hl:j<(X.take m).length:=by rw[List.length_take];omega
 rw[List.drop_eq_getElem_cons hl]
 congr 1
 simp[List.getD_eq_getElem?_getD,show j<X.length by omega]
end Len
def jd:Value→Option Addr
 | .slice A _ _=>A
 | _=>none
def uD:Value→Nat
 | .slice _ _ c=>c
 | _=>0
theorem qh {w W W':World}{g B:Nat}{row:Option Nat}(h:w.grownBy W (some g))(hg:W.grownBy W' row)(hB:w.heap.size≤B)(hr:∀ r,row=some r→B≤r):w.grownBy W' (some g) :=
 ⟨hg.os.trans h.os,hg.tape.trans h.tape,hg.output.trans h.output,Nat.le_trans h.size hg.size,fun k hk hne=>(hg.block k (Nat.lt_of_lt_of_le hk h.size) fun e=>by have:=hr k e.symm;omega).trans (h.block k hk hne)⟩
theorem OwnB.cells {w:World}{base g n c:Nat}{l:List UInt8}(h:OwnB w base (.slice (some ⟨g,0,none⟩) n c) l):∃ cur,w.heap[g]?=some (.cells cur 5 (0,0)):=by
 rcases h.2 with ⟨h',_⟩ | ⟨g1,c1,cur,h',_,hg,_⟩
 ·cases h'
 ·simp only[Value.slice.injEq,Option.some.injEq,Addr.mk.injEq,and_true]at h'
  obtain⟨rfl,_⟩:=h'
  exact⟨cur,hg⟩
theorem OwnB.turnFar {w:World}{base gl n c g i:Nat}{l:List UInt8}{u:Value}(h:OwnB w base (.slice (some ⟨gl,0,none⟩) n c) l)(hne:gl≠g):OwnB (w.setCell ⟨g,i,none⟩ u) base (.slice (some ⟨gl,0,none⟩) n c) l :=
 World.ownsRow.kept h (zk w g i u) (.inr (by simpa[Value.ownBlock] using hne))
structure CountI (w:World)(gl cl base N L gr cr:Nat)(lv:List PI)(tot:Nat→Nat)(k:Nat)(W:World):Prop where
 ex:∃ (O:List UInt8) (m:Nat),OwnB W base (.slice (some ⟨gl,0,none⟩) N cl) O∧O.length=N∧Whole W (w.heap.size+1) 3 #[.int .i64 (m:Int)]∧(∀ q,q<N→(O.getD q 0).toNat+vX lv q (L-k) m=tot q)∧(k<L→m≤(zO lv (L-1-k)).length)
 b0:Whole W w.heap.size 29 #[.slice (some ⟨gl,0,none⟩) N cl]
 b2:Whole W (w.heap.size+1+1) 237 #[.slice (some ⟨gr,0,none⟩) L cr]
 gb:w.grownBy W (some gl)
theorem CountI.own {w:World}{gl cl base N L gr cr B:Nat}{lv:List PI}{tot:Nat→Nat}(hB:w.heap.size≤B):OwnFrom B (CountI w gl cl base N L gr cr lv tot):=fun k W W' row h hg hr=>by
 have hr2:=fun r e=>(hr r e).2
 obtain⟨O,m,h1,h2,h3,h4,h5⟩:=h.ex
 exact⟨⟨O,m,h1.turn hg hr2,h2,h3.turn hg hr2,h4,h5⟩,h.b0.turn hg hr2,h.b2.turn hg hr2,qh h.gb hg hB fun r e=>(hr r e).1⟩
set_option maxHeartbeats 1000000 in
theorem Qb (n:Nat)(A:Option Addr)(m c:Nat)(w:World) :
  CallsIn Fence.wide n Tryz.prog 207 #[.slice A m c] w fun e w'=>e=.returned (.func (.func 215) #[] #[.pointer (some ⟨w.heap.size,0,none⟩)])∧w'=w.alloc (.cells #[.slice A m c] 237):=by
 refine callsIn_of_wp Tryz.func207 rfl trivial ?_ rfl
 simp only[Tryz.ntmps207,List.size_toArray,List.length_cons,List.length_nil,Nat.reduceAdd,Nat.reduceSub,Array.replicate_succ,Array.replicate_zero,List.push_toArray,List.append_toArray,List.nil_append,List.cons_append]
 gi_wp2
 go_ret
 exact⟨rfl,rfl⟩
set_option maxHeartbeats 4000000 in
set_option maxRecDepth 100000 in
theorem UY {lv:List PI}{gl cl base N L F b3:Nat}{v:Value}{O:List UInt8}{tot:Nat→Nat}{w:World}(hL1:1≤L)(hL:L≤15)(hN:N≤300)(hO:OwnB w base (.slice (some ⟨gl,0,none⟩) N cl) O)(hOl:O.length=N)(hR:RowsP w b3 v ((List.range L).map (zO lv)))
  (hF:F≤(zO lv (L-1)).length) (hlen:∀ r,(zO lv r).length≤1000) (hsym:∀ r,∀ x∈zO lv r,x.2=300∨x.2<N) (hpk:∀ r m,m≤(zO lv (r+1)).length→2*packs ((zO lv (r+1)).take m)≤(zO lv r).length)
  (htot:∀ q,q<N→(O.getD q 0).toNat+XW lv q (L-1) F=tot q) (ht:∀ q,q<N→tot q<256) :
  Calls Tryz.prog 192 #[.slice (some ⟨gl,0,none⟩) N cl,v,.int .i64 (F:Int)] w fun e w'=>e=.returned (.tuple #[])∧w.grownBy w' (some gl)∧∃ O',OwnB w' base (.slice (some ⟨gl,0,none⟩) N cl) O'∧O'.length=N∧∀ q,q<N→(O'.getD q 0).toNat=tot q:=by
 obtain⟨curl,hgl⟩:=hO.cells
 obtain⟨Vs,hV,hVs⟩:=hR
 rw[List.length_map,List.length_range]at hV hVs
 have hV2:=hV
 obtain⟨gr,cr,rfl,hgr0⟩:∃ gr cr,v=.slice (some ⟨gr,0,none⟩) L cr∧∃ cur,w.heap[gr]?=some (.cells cur 234 (0,0)):=by
  rcases hV.2 with ⟨_,h0⟩ | ⟨g,cap,cur,e,_,hg,_⟩
  ·omega
  ·exact⟨g,cap,e,cur,hg⟩
 obtain⟨curr,hgr⟩:=hgr0
 have hne:gr≠gl:=fun e=>by
  rw[e,hgl]at hgr
  simp only[Option.some.injEq,Obj.cells.injEq]at hgr
  exact absurd hgr.2.1 (by decide)
 have hrow:∀ W,w.grownBy W (some gl)→∀ i,i<L→W.cell? ⟨gr,i,none⟩=some (.slice (jd (Vs.getD i undef)) (zO lv i).length (uD (Vs.getD i undef)))∧(zO lv i).length≤uD (Vs.getD i undef)∧uD (Vs.getD i undef)≤maxLen∧PIAt W W.heap.size (jd (Vs.getD i undef)) (zO lv i).length (zO lv i):=fun W hW i hi=>by
  have h1:=hVs i hi
  rw[q6 _ hi]at h1
  have hno:(Vs.getD i undef).ownBlock=none∨(Vs.getD i undef).ownBlock≠some gl:=by
   rcases h1.2 with ⟨e,_⟩ | ⟨g,cap,cur,e,_,hg,_⟩
   ·rw[e];exact .inl rfl
   ·rw[e]
    refine .inr fun h=>?_
    simp only[Value.ownBlock,Option.some.injEq]at h
    rw[h,hgl]at hg
    simp only[Option.some.injEq,Obj.cells.injEq]at hg
    exact absurd hg.2.1 (by decide)
  have h2:=h1.kept hW hno
  obtain⟨A,c,e,hc,hm,hP⟩:=h2.form
  have hcl:=World.ownsRow.cellAt hV i (by omega)
  have hl:i<Vs.length:=by rw[hV.1];omega
  have hblk:W.heap[gr]?=w.heap[gr]?:=hW.block gr (Array.getElem?_eq_some_iff.1 hgr).1 (by simpa using hne)
  have hu:Vs[i]?=some (Vs.getD i undef):=by rw[List.getD_eq_getElem?_getD,List.getElem?_eq_getElem hl];rfl
  rw[hu]at hcl
  rw[e]at hcl ⊢
  exact⟨(World.cell?_of_block (by exact hblk)).trans hcl,hc,hm,hP⟩
 have HRow:=hide hrow
 have HSym:=hide hsym
 have HPk:=hide hpk
 have HLen:=hide hlen
 have HT:=hide ht
 have hI00:=hide (show ∀ q,q<N→(O.getD q 0).toNat+vX lv q (L-0) F=tot q from fun q hq=>by
  rw[← htot q hq,show L-0=L-1+1 by omega]
  rfl)
 have HF:=hide (show 0<L→F≤(zO lv (L-1-0)).length from fun _=>hF)
 have hglw:gl<w.heap.size:=(Array.getElem?_eq_some_iff.1 hgl).1
 have HOl:=hide hOl
 have HO:=hide hO
 clear hrow hsym hpk hlen ht htot hF hV hVs hV2 hgr hOl hO hgl
 refine (callsIn_wide (n:=10)).1 ?_
 refine callsIn_of_wp_marks Tryz.func192 rfl trivial ?_ rfl
 simp only[Tryz.ntmps192,List.size_toArray,List.length_cons,List.length_nil,Nat.reduceAdd,Nat.reduceSub,Array.replicate_succ,Array.replicate_zero,List.push_toArray,List.append_toArray,List.nil_append,List.cons_append]
 gi_wp2
 refine⟨trivial,(Qb _ _ _ _ _).mono ?_⟩
 rintro e w' ⟨rfl,rfl⟩
 gi_wp2
 have hI0:CountI w gl cl base N L gr cr lv tot 0 (((w.alloc (.cells #[.slice (some ⟨gl,0,none⟩) N cl] 29)).alloc (.cells #[.int .i64 (F:Int)] 3)).alloc (.cells #[.slice (some ⟨gr,0,none⟩) L cr] 237)):=by
  refine⟨⟨O,F,((HO.out.ext (zb _ _)).ext (zb _ _)).ext (zb _ _),HOl.out,?_,hI00.out,HF.out⟩,((Whole.new w _ _).alloc _).alloc _,?_,(((zb w _).alloc _).alloc _).grown _⟩
  ·have:=(Whole.new (w.alloc (.cells #[.slice (some ⟨gl,0,none⟩) N cl] 29)) 3 #[.int .i64 (F:Int)]).alloc (.cells #[.slice (some ⟨gr,0,none⟩) L cr] 237)
   rwa [World.size_alloc]at this
  ·have:=Whole.new ((w.alloc (.cells #[.slice (some ⟨gl,0,none⟩) N cl] 29)).alloc (.cells #[.int .i64 (F:Int)] 3)) 237 #[.slice (some ⟨gr,0,none⟩) L cr]
   rwa [World.size_alloc,World.size_alloc]at this
 have hs3:w.heap.size+3≤(((w.alloc (.cells #[.slice (some ⟨gl,0,none⟩) N cl] 29)).alloc (.cells #[.int .i64 (F:Int)] 3)).alloc (.cells #[.slice (some ⟨gr,0,none⟩) L cr] 237)).heap.size:=by simp
 generalize ((w.alloc (.cells #[.slice (some ⟨gl,0,none⟩) N cl] 29)).alloc (.cells #[.int .i64 (F:Int)] 3)).alloc (.cells #[.slice (some ⟨gr,0,none⟩) L cr] 237)=w3 at hI0 hs3 ⊢
 clear hI00
 refine vR (gf:=215) (lb:=#[.pointer (some ⟨w.heap.size+1+1,0,none⟩)]) rfl (enters_of Tryz.func215 (by kernel_rfl) rfl) L
  (fun k=>#[.int .i64 ((L-1-k:Nat):Int),.slice (jd (Vs.getD (L-1-k) undef)) (zO lv (L-1-k)).length (uD (Vs.getD (L-1-k) undef))]) (fun _=>rfl) (CountI w gl cl base N L gr cr lv tot) (CountI.own (by omega)) hI0
  (XF (VA:=fun i=>jd (Vs.getD i undef)) (VN:=fun i=>(zO lv i).length) (VC:=fun i=>uD (Vs.getD i undef)) (by omega) (by omega) fun k W h=>⟨h.b2.at 0 (u:=.slice (some ⟨gr,0,none⟩) L cr) rfl,fun i hi=>(HRow.out W h.gb i hi).1⟩)
  (fun k=>{ tmps:=#[.slice (some ⟨gl,0,none⟩) N cl,.slice (some ⟨gr,0,none⟩) L cr,.int .i64 (F:Int),.pointer (some ⟨w.heap.size,0,none⟩),undef,.pointer (some ⟨w.heap.size+1,0,none⟩),undef,.slice (jd (Vs.getD (L-1-k) undef)) (zO lv (L-1-k)).length (uD (Vs.getD (L-1-k) undef)),undef,undef,undef,.slice (some ⟨gr,0,none⟩) L cr,
   .func (.func 215) #[] #[.pointer (some ⟨w.heap.size+1+1,0,none⟩)],.int .i64 ((L-1-k:Nat):Int),.slice (jd (Vs.getD (L-1-k) undef)) (zO lv (L-1-k)).length (uD (Vs.getD (L-1-k) undef)),undef,undef,undef,undef,undef,undef,undef,undef,undef,undef,undef,undef,undef,undef,undef,undef,undef,undef,undef,undef,undef,undef,undef],defers:=[] }) ?assign ?body ?done
 case assign =>
  intro l k W K hK
  dsimp only at hK ⊢
  generalize jd (Vs.getD (L-1-k) undef)=a1 at *
  generalize (zO lv (L-1-k)).length=a2 at *
  generalize uD (Vs.getD (L-1-k) undef)=a3 at *
  generalize ((L-1-k:Nat):Int)=a4 at *
  gi_wp2
  exact hK
 case body =>
  intro l k W hI hk
  obtain⟨O1,m,hO1,hOl1,hm1,hrem,hml⟩:=hI.ex
  obtain⟨_,hrc,hrm,_⟩:=HRow.out W hI.gb (L-1-k) (by omega)
  have hml:=hml hk
  have hlen:=HLen.out (L-1-k)
  have hPr:=fun W hW=>(HRow.out W hW (L-1-k) (by omega)).2.2.2
  obtain⟨r,hr⟩:∃ r,r=L-1-k:=⟨_,rfl⟩
  have hLk:L-k=r+1:=by omega
  rw[← hr]at hrc hrm hml hlen ⊢
  simp only[← hr]at hPr
  rw[hLk]at hrem
  have hrem2:∀ q,q<N→(O1.getD q 0).toNat+(((zO lv r).take m).countP fun x=>x.2==q)+vX lv q r (2*packs ((zO lv r).take m))=tot q:=fun q hq=>by
   rw[← hrem q hq,vX,abR]
   omega
  have hsy:=HSym.out r
  have HNext:=hide (show k+1<L→2*packs ((zO lv r).take m)≤(zO lv (L-1-(k+1))).length from fun h=>by
   have e:r=L-1-(k+1)+1:=by omega
   have:=HPk.out (L-1-(k+1)) m (by rw[← e];exact hml)
   rwa [← e]at this)
  have HRst:=hide (show ∀ q x,vX lv q (L-(k+1)) x=vX lv q r x from fun q x=>by rw[show L-(k+1)=r by omega])
  generalize zO lv r=X at *
  generalize jd (Vs.getD r undef)=a1 at *
  generalize uD (Vs.getD r undef)=a3 at *
  have hmN:m≤1000:=by omega
  have c1:=hm1.at 0 (u:=.int .i64 (m:Int)) rfl
  have hmc:(m:Int)≤(a3:Int):=by omega
  have hPh:=fun W hW=>(hPr W hW).head hml hrc
  have hRH:=fun W=>abB W a1 X.length a3 .i64 (m:Int) (by omega) hmc
  simp only[Int.toNat_natCast]at hRH
  generalize zQ a1 (a3*2) (0*2)=A3 at hPh hRH
  have HI:=hide hI
  have HRem:=hide hrem2
  have HSy:=hide hsy
  have HPh:=hide hPh
  have HO1:=hide hO1
  have HOl1:=hide hOl1
  have HM1:=hide hm1
  have HLr:=hide hr
  have HXl:=hide hml
  clear hPr hrem hrem2 hsy hLk hPh hO1 hOl1 hm1 hI hr hml
  obtain⟨nX,hnX⟩:∃ nX,nX=X.length:=⟨_,rfl⟩
  rw[← hnX]at hRH hrc hlen ⊢
  have HnX:=hide hnX
  clear hnX
  unfold maxLen at hrm
  gi_wp2
  have HKF:=hide (KeepsFrom.refl w3.heap.size W)
  have HS3:=hide hs3
  have HGl:=hide hglw
  clear hI0 hs3 hglw
  gi_loopw [8,19] (fun a b wq=>∃ (j p:Nat) (O2:List UInt8),j≤m∧p≤j∧b=.int .i64 (j:Int)∧a=.int .i64 (p:Int)∧OwnB wq base (.slice (some ⟨gl,0,none⟩) N cl) O2∧O2.length=N∧Whole wq (w.heap.size+1) 3 #[.int .i64 (m:Int)]∧Whole wq w.heap.size 29 #[.slice (some ⟨gl,0,none⟩) N cl]∧Whole wq (w.heap.size+1+1) 237 #[.slice (some ⟨gr,0,none⟩) L cr]∧w.grownBy wq (some gl)∧KeepsFrom w3.heap.size W wq ∧
   p+packs ((X.take m).drop j)=packs (X.take m)∧∀ q,q<N→(O2.getD q 0).toNat+(((X.take m).drop j).countP fun x=>x.2==q)+vX lv q r (2*packs (X.take m))=tot q) (fun _ b _=>m-(intOf b).toNat)
  case atStart=>exact⟨0,0,O1,Nat.zero_le _,Nat.le_refl _,rfl,rfl,HO1.out,HOl1.out,HM1.out,HI.out.b0,HI.out.b2,HI.out.gb,HKF.out,by rw[List.drop_zero,Nat.zero_add],by rw[List.drop_zero];exact HRem.out⟩
  case round =>
   obtain⟨j,p,O2,hj,hpj,rfl,rfl,hO2,hOl2,hm2,hb0,hb2,hgb,hKF,hpk,hcnt⟩:=hrel
   by_cases hjm:j<m
   ·have hd:=Vf (X:=X) hjm HXl.out
    have hcell:∃ b o,A3=some ⟨b,o,none⟩∧wr.cell? ⟨b,o+j*2,none⟩=some (.int .u64 ((X.getD j (0,0)).1:Int))∧wr.cell? ⟨b,o+j*2+1,none⟩=some (.int .i64 ((X.getD j (0,0)).2:Int)):=by
     rcases (HPh.out wr hgb).2 with h0 | ⟨b,o,e,_,hc⟩
     ·omega
     ·have:=hc j hjm
      rw[show (X.take m).getD j (0,0)=X.getD j (0,0) by simp[List.getD_eq_getElem?_getD,hjm]]at this
      exact⟨b,o,e,this⟩
    have hmem:X.getD j (0,0)∈X:=by
     rw[List.getD_eq_getElem?_getD,List.getElem?_eq_getElem (by have:=HXl.out;omega)]
     exact List.getElem_mem _
    have hsx:=HSy.out _ hmem
    generalize X.getD j (0,0)=it at *
    obtain⟨x,y⟩:=it
    obtain⟨b,o,rfl,i0,i1⟩:=hcell
    dsimp only at i0 i1 hsx
    rw[hd]at hpk hcnt
    have hE4:=zb wr (.cells #[.int .u64 (x:Int),.int .i64 (y:Int)] 230)
    have hO4:=hO2.ext hE4
    have hm4:=hm2.ext hE4
    have hb04:=hb0.ext hE4
    have hb24:=hb2.ext hE4
    have hgb4:=hgb.trans (World.grownBy_alloc wr (.cells #[.int .u64 (x:Int),.int .i64 (y:Int)] 230) (some gl))
    have hKF4:=hKF.trans ((KeepsOthers.alloc wr (.cells #[.int .u64 (x:Int),.int .i64 (y:Int)] 230)).from w3.heap.size)
    have c4:=hb04.at 0 (u:=.slice (some ⟨gl,0,none⟩) N cl) rfl
    by_cases hy:y=300
    ·subst hy
     have hpk2:(p+1)+packs ((X.take m).drop (j+1))=packs (X.take m):=by
      rw[← hpk]
      unfold packs
      rw[List.countP_cons]
      simp
      omega
     have HC:=hide (show ∀ q,q<N→(O2.getD q 0).toNat+(((X.take m).drop (j+1)).countP fun x=>x.2==q)+vX lv q r (2*packs (X.take m))=tot q from fun q hq=>by
      rw[← hcnt q hq,List.countP_cons]
      have:((300:Nat)==q)=false:=by
       rw[beq_eq_false_iff_ne]
       rcases hsx with h|h<;>omega
      simp[this])
     have HPk2:=hide hpk2
     have HF2:=hide (And.intro hO4 (And.intro hOl2 (And.intro hm4 (And.intro hb04 (And.intro hb24 (And.intro hgb4 hKF4))))))
     clear hpk hpk2 hcnt hd hO2 hOl2 hm2 hb0 hb2 hgb hKF hO4 hm4 hb04 hb24 hgb4 hKF4 hE4 hsx hmem
     gi_wp2
     go_roundw
     case rel =>
      obtain⟨f1,f2,f3,f4,f5,f6,f7⟩:=HF2.out
      exact⟨j+1,p+1,O2,by omega,by omega,by go_num,by go_num,f1,f2,f3,f4,f5,f6,f7,HPk2.out,HC.out⟩
     case measure=>simp[intOf];omega
    ·have hyN:y<N:=by
      rcases hsx with h|h
      ·exact absurd h hy
      ·exact h
     have hyf:((y:Int)==300)=false:=by
      rw[beq_eq_false_iff_ne]
      omega
     have hyI:(y:Int)<(N:Int):=by omega
     obtain⟨k1,k2⟩:=hO4.cell (i:=y) (by rw[hOl2];exact hyN)
     have hty:=HT.out y hyN
     have hcy:=hcnt y hyN
     rw[List.countP_cons]at hcy
     simp only[beq_self_eq_true,if_true]at hcy
     have HCv:=hide (show ∀ z,z=(O2.getD y 0).toNat→z=(O2.getD y 0).toNat from fun _ h=>h)
     obtain⟨cv,hcv⟩:∃ cv,cv=(O2.getD y 0).toNat:=⟨_,rfl⟩
     rw[← hcv]at k1 hcy
     have hcv2:cv+1≤255:=by omega
     have hu8:(UInt8.ofNat (cv+1)).toNat=cv+1:=by rw[UInt8.toNat_ofNat',Nat.mod_eq_of_lt (by omega)]
     have hO5:=hO4.set y (UInt8.ofNat (cv+1))
     rw[hu8]at hO5
     have hpk2:p+packs ((X.take m).drop (j+1))=packs (X.take m):=by
      rw[← hpk]
      unfold packs
      rw[List.countP_cons]
      simp[hy]
     have HC:=hide (show ∀ q,q<N→((O2.set y (UInt8.ofNat (cv+1))).getD q 0).toNat+(((X.take m).drop (j+1)).countP fun x=>x.2==q)+vX lv q r (2*packs (X.take m))=tot q from fun q hq=>by
      have h0:=hcnt q hq
      rw[List.countP_cons]at h0
      by_cases e:y=q
      ·subst e
       simp only[beq_self_eq_true,if_true]at h0
       have:((O2.set y (UInt8.ofNat (cv+1))).getD y 0).toNat=cv+1:=by
        rw[List.getD_eq_getElem?_getD,List.getElem?_set_self (by rw[hOl2];exact hyN),Option.getD_some,hu8]
       omega
      ·have hb:(y==q)=false:=beq_eq_false_iff_ne.2 e
       rw[hb]at h0
       have:(O2.set y (UInt8.ofNat (cv+1))).getD q 0=O2.getD q 0:=by
        rw[List.getD_eq_getElem?_getD,List.getElem?_set_ne e,← List.getD_eq_getElem?_getD]
       rw[this]
       simpa using h0)
     have HPk2:=hide hpk2
     have hne0:∀ s,w.heap.size≤s→s≠gl:=fun s h=>by have:=HGl.out;omega
     have hl2:(O2.set y (UInt8.ofNat (cv+1))).length=N:=by rw[List.length_set,hOl2]
     have HF2:=hide (And.intro hO5 (And.intro hl2 (And.intro (hm4.far (hne0 _ (by omega)) y (.int .u8 ((cv+1:Nat):Int))) (And.intro (hb04.far (hne0 _ (by omega)) y (.int .u8 ((cv+1:Nat):Int))) (And.intro (hb24.far (hne0 _ (by omega)) y (.int .u8 ((cv+1:Nat):Int))) (And.intro (hgb4.trans (zk _ gl y (.int .u8 ((cv+1:Nat):Int)))) (hKF4.trans ((KeepsOthers.setCell _ ⟨gl,y,none⟩ (.int .u8 ((cv+1:Nat):Int))).from w3.heap.size))))))))
     clear hpk hpk2 hcnt hd hO2 hOl2 hm2 hb0 hb2 hgb hKF hO4 hm4 hb04 hb24 hgb4 hKF4 hE4 hsx hmem hO5 hu8 hcy hcv hl2 hne0
     gi_wp2
     go_roundw
     case rel =>
      obtain⟨f1,f2,f3,f4,f5,f6,f7⟩:=HF2.out
      exact⟨j+1,p,_,by omega,by omega,by go_num,by go_num,f1,f2,f3,f4,f5,f6,f7,HPk2.out,HC.out⟩
     case measure=>simp[intOf];omega
   ·obtain rfl:m=j:=by omega
    have hdr:(X.take m).drop m=[]:=List.drop_eq_nil_of_le (by rw[List.length_take];omega)
    rw[hdr]at hpk hcnt
    have hpe:p=packs (X.take m):=by
     rw[← hpk]
     unfold packs
     simp
    have HPe:=hide hpe
    have HC:=hide hcnt
    have c5:=hm2.at 0 (u:=.int .i64 (m:Int)) rfl
    have f5:=hm2.frozen 0
    have hne0:∀ s,w.heap.size≤s→s≠gl:=fun s h=>by have:=HGl.out;omega
    have hcast:(2*(p:Int))=((2*p:Nat):Int):=by omega
    have HF2:=hide (And.intro (hO2.turnFar (g:=w.heap.size+1) (u:=.int .i64 ((2*p:Nat):Int)) (i:=0) (fun h=>hne0 _ (by omega) h.symm)) (And.intro hOl2 (And.intro (hm2.set 0 (.int .i64 ((2*p:Nat):Int))) (And.intro (hb0.far (b:=w.heap.size+1) (by omega) 0 (.int .i64 ((2*p:Nat):Int))) (And.intro (hb2.far (b:=w.heap.size+1) (by omega) 0 (.int .i64 ((2*p:Nat):Int)))
     (And.intro (qh hgb (zk wr (w.heap.size+1) 0 (.int .i64 ((2*p:Nat):Int))) (Nat.le_refl _) (fun r e=>by cases e;omega)) (hKF.trans ((KeepsOthers.setCell _ ⟨w.heap.size+1,0,none⟩ (.int .i64 ((2*p:Nat):Int))).from w3.heap.size))))))))
    have HCast:=hide hcast
    clear hpk hpe hcnt hdr hO2 hOl2 hm2 hb0 hb2 hgb hKF hne0 hcast
    gi_wp2
    obtain⟨f1,f2,f3,f4,f6,f7,f8⟩:=HF2.out
    rw[← HCast.out]at f1 f3 f4 f6 f7 f8
    refine⟨f8,⟨_,2*p,f1,f2,by rw[← HCast.out];exact f3,fun q hq=>?_,fun h=>?_⟩,f4,f6,f7⟩
    ·have:=HC.out q hq
     rw[HRst.out,HPe.out]
     simpa using this
    ·rw[HPe.out]
     exact HNext.out h
 case done =>
  intro D W hD hI hK
  obtain⟨O1,m,hO1,hOl1,hm1,hrem,_⟩:=hI.ex
  gi_wp2
  refine⟨by simp,.inl ⟨_,_,rfl,run_takeDeferred hK,?_⟩⟩
  have hG:=grownBy_putObj' W D (.deferred none)
  refine⟨_,results_none rfl _ _ _,rfl,qh hI.gb hG (Nat.le_refl _) (fun r e=>by cases e;omega),O1,hO1.turn hG (fun r e=>by cases e;exact⟨_,hK,rfl⟩),hOl1,fun q hq=>?_⟩
  have:=hrem q hq
  rw[Nat.sub_self,vX,Nat.add_zero]at this
  exact this
end
end Go.Proofs.YtpmedpdjglcdpaaGreatDoor
