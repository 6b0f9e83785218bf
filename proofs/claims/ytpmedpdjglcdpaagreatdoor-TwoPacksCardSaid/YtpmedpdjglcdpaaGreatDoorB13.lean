/- The document's Cost of chapter 7. What the laws of chapter 7 ask of the program's parts; the example; the laws without loops: LensFinds, LensWeighs, LensMore. The laws LensFinds, LensWeighs, LensMore, LensRare. The law LensFull. The law Len -/
import Derived.Test.YtpmedpdjglcdpaaGreatDoorB02
import Derived.Test.YtpmedpdjglcdpaaGreatDoorB09
import Derived.Test.YtpmedpdjglcdpaaGreatDoorB12
import Derived.Deep.QuietTactic
import Derived.BigQuiet
import Derived.OwnWalk
namespace Go.Proofs.YtpmedpdjglcdpaaGreatDoor.Len
theorem acL (lv:List Item):∀ r,(row lv r).length≤2*lv.length
 | 0=>by rw[row];omega
 | r+1=>by
  have:=acL lv r
  rw[ui]
  omega
end Go.Proofs.YtpmedpdjglcdpaaGreatDoor.Len
namespace Go.Proofs.YtpmedpdjglcdpaaGreatDoor
open Go.RowKit Len
def Zq (w:World)(r:List UInt8×Int)(e:Ending)(w':World):Prop:=∃ v,e=.returned (.tuple #[v,.int .i64 r.2])∧OwnB w' w.heap.size v r.1∧Ext w w'
def aeg (w:World):Prop:=∀ (often:List Nat) (limit:Int) (A:Option Addr) (n c:Nat) (W:World),Ext w W→n≤c→c≤maxLen→U32At W W.heap.size A n often→-9223372036854775808≤limit→limit≤9223372036854775807 →
 Calls Tryz.prog 169 #[.slice A n c,.int .i64 limit] W (Zq W (yV often limit))
def Y8 (w:World):Prop:=∀ (often:List Nat) (limit:Int) (A:Option Addr) (n c:Nat) (W:World),Ext w W→n≤c→U32At W W.heap.size A n often→-9223372036854775808≤limit→limit≤9223372036854775807 →
 Calls Tryz.prog 117 #[.slice A n c,.int .i64 limit] W (Zq W (yV often limit))
end Go.Proofs.YtpmedpdjglcdpaaGreatDoor
namespace Go.Proofs.YtpmedpdjglcdpaaGreatDoor
open Go.RowKit Len
def VH (often:List Nat)(i:Nat):Nat:=zm i fun q=>if often.getD q 0=0 then 0 else 1
theorem QP {often:List Nat}{L:Nat}(h300:often.length≤300)(hL:1≤L)(hL15:L≤15)(hu:(zd often often.length).length≤2 ^ L) :
  yL (yr often L)=((if 2≤VH often often.length then 32768 else if VH often often.length=1 then 16384 else 0),0):=by
 have hf:=aa2 hL hL15 hu
 rw[YM]at hf
 have hk:yg (yr often L) (yr often L).length=zm often.length fun q=>if often.getD q 0=0 then 0 else 2 ^ (15-xr often L q):=by
  unfold yg
  rw[ys]
  refine zK fun q hq=>?_
  rw[qp hq hL hL15 hu]
  by_cases h0:often.getD q 0=0
  ·rw[if_pos h0,if_pos (Zj h0 hL hu)]
  ·have:=(jk hq h0 hL hu).1
   rw[if_neg h0,if_neg (by omega)]
 unfold yL
 rw[if_pos ⟨by rw[ys];exact h300,fun q hq=>by
  rw[ys]at hq
  rw[qp hq hL hL15 hu]
  have:=uk hq hL hL15 hu
  omega⟩,hk,hf]
 rfl
end Go.Proofs.YtpmedpdjglcdpaaGreatDoor
namespace Go.Proofs.YtpmedpdjglcdpaaGreatDoor
open Go.RowKit Len
theorem AtI.ext {w w':World}{A:Option Addr}{i:Nat}{x:Len.Item}(h:AtI w w.heap.size A i x)(hE:Ext w w'):AtI w' w'.heap.size A i x:=by
 obtain⟨g,q,C,rfl,k1,k2,k3,k4⟩:=h.ex
 have hg:g<w.heap.size:=World.block_lt_of_cell? w _ k1
 exact⟨g,q,C,rfl,(hE.cell hg).trans k1,(hE.cell hg).trans k2,k3.ext hE,fun k hk=>Nat.lt_of_lt_of_le (k4 k hk) hE.le⟩
theorem drop_at {X:List Len.Item}{i:Nat}(h:i<X.length):X.drop i=X.getD i (0,[])::X.drop (i+1):=by
 rw[List.drop_eq_getElem_cons h,List.getD_eq_getElem?_getD,List.getElem?_eq_getElem h]
 rfl
theorem JD {X1 X2 P:List Len.Item}{i k:Nat}(hi:i<X1.length)(h:k=X2.length∨k<X2.length∧(X1.getD i (0,[])).1≤(X2.getD k (0,[])).1)(hP:P++zI (X1.drop i) (X2.drop k)=zI X1 X2) :
  (P++[X1.getD i (0,[])])++zI (X1.drop (i+1)) (X2.drop k)=zI X1 X2:=by
 rw[← hP,List.append_assoc]
 congr 1
 rw[drop_at hi]
 rcases h with rfl | ⟨hk,hle⟩
 ·rw[List.drop_length,yD,yD]
  rfl
 ·rw[drop_at hk,yu,if_pos hle]
  rfl
theorem Uz {X1 X2 P:List Len.Item}{i k:Nat}(hk:k<X2.length)(h:i=X1.length∨i<X1.length∧¬ (X1.getD i (0,[])).1≤(X2.getD k (0,[])).1)(hP:P++zI (X1.drop i) (X2.drop k)=zI X1 X2) :
  (P++[X2.getD k (0,[])])++zI (X1.drop i) (X2.drop (k+1))=zI X1 X2:=by
 rw[← hP,List.append_assoc]
 congr 1
 rw[drop_at hk]
 rcases h with rfl | ⟨hi,hle⟩
 ·rw[List.drop_length,yo,yo]
  rfl
 ·rw[drop_at hi,yu,if_neg hle]
  rfl
set_option maxHeartbeats 4000000 in
set_option maxRecDepth 100000 in
theorem UA (v1 v2:Value)(b1 b2:Nat)(X1 X2:List Len.Item)(w:World)(h1:ItL w b1 v1 X1)(h2:ItL w b2 v2 X2)(l1:X1.length≤400)(l2:X2.length≤400) :
  Calls Tryz.prog 147 #[v1,v2] w fun e w'=>∃ v,e=.returned v∧ItL w' w.heap.size v (zI X1 X2)∧Ext w w':=by
 obtain⟨A1,c1,rfl,_,_,f1⟩:=h1.form
 obtain⟨A2,c2,rfl,_,_,f2⟩:=h2.form
 have F1:=hide f1
 have F2:=hide f2
 have HM:=hide (fun (i k:Nat) (P:List Len.Item) a b c=>JD (X1:=X1) (X2:=X2) (P:=P) (i:=i) (k:=k) a b c)
 have HS:=hide (fun (i k:Nat) (P:List Len.Item) a b c=>Uz (X1:=X1) (X2:=X2) (P:=P) (i:=i) (k:=k) a b c)
 have H0:=hide (show []++zI (X1.drop 0) (X2.drop 0)=zI X1 X2 by simp)
 have HE:=hide (show ∀ P:List Len.Item,P++zI (X1.drop X1.length) (X2.drop X2.length)=zI X1 X2→P=zI X1 X2 from fun P h=>by rw[List.drop_length,List.drop_length,yo,List.append_nil]at h;exact h)
 obtain⟨n1,hn1⟩:∃ n,n=X1.length:=⟨_,rfl⟩
 obtain⟨n2,hn2⟩:∃ n,n=X2.length:=⟨_,rfl⟩
 rw[← hn1]at l1 ⊢
 rw[← hn2]at l2 ⊢
 have HN1:=hide hn1
 have HN2:=hide hn2
 clear f1 f2 h1 h2 hn1 hn2
 generalize zI X1 X2=res at *
 go_enter Tryz.func147,Tryz.ntmps147
 go_wp2_with fail
 go_loopw [5,6,7] (fun u a b wr=>∃ (i k:Nat) (P:List Len.Item),i≤n1∧k≤n2∧a=.int .i64 (i:Int)∧b=.int .i64 (k:Int)∧P.length=i+k∧P++zI (X1.drop i) (X2.drop k)=res∧ItL wr w.heap.size u P∧Ext w wr) (fun _ a b _=>n1+n2-((intOf a).toNat+(intOf b).toNat))
 case atStart=>exact⟨0,0,[],by omega,by omega,rfl,rfl,rfl,H0.out,ItL.nil _ _,Ext.refl _⟩
 case round =>
  obtain⟨i,k,P,hi,hk,rfl,rfl,hPl,hP,hI,hE⟩:=hrel
  have HP:=hide hP
  have hPl10:P.length≤1000:=by omega
  have HPl:=hide hPl
  clear hP hPl
  by_cases hk2:k=n2
  ·subst hk2
   by_cases hi1:i=n1
   ·subst hi1
    have HR:=hide (show P=res by
     have:=HP.out
     have e1:=HN1.out
     have e2:=HN2.out
     rw[e1,e2]at this
     exact HE.out P this)
    have hx1:¬ ((i:Int)<(i:Int)):=by omega
    have hx2:¬ ((k:Int)<(k:Int)):=by omega
    go_wp2
    go_ret
    exact⟨_,rfl,by rw[← HR.out];exact hI,hE⟩
   ·have hi2:i<n1:=by omega
    obtain⟨g,q,C,rfl,j1,j2,j3,j4⟩:=((F1.out i (by rw[← HN1.out];exact hi2)).ext hE).ex
    have HP2:=hide (HM.out i k P (by rw[← HN1.out];exact hi2) (.inl HN2.out) HP.out)
    generalize X1.getD i (0,[])=it at *
    have hd1:(i:Int)<(n1:Int):=by omega
    have hq2:((k:Int)==(k:Int))=true:=by simp
    clear hi1
    go_wp2_with fail
    go_quiet (fail)
    have hEq:Ext wr (wr.drewN nq):=(Ext.refl wr).drewN nq
    generalize wr.drewN nq=w3 at hEq ⊢
    have hg:g<wr.heap.size:=World.block_lt_of_cell? wr _ j1
    have j1':=(hEq.cell hg).trans j1
    have j2':=(hEq.cell hg).trans j2
    have hI3:=hI.ext hEq
    have hE3:=hE.trans hEq
    have hb3:=hE3.le
    clear j1 j2 hI
    go_wp2_with (at_builtin;refine xR rfl (.tmp 41) (.tmp 46) rfl rfl hI3 (j3.ext hEq) rfl hPl10 hb3 ?_;intro v5 w5 hI5 hG5 hN5)
    have hEa:=zb w3 (.cells #[.int .u64 ((it.1:Nat):Int),.slice q it.2.length C] 185)
    have hE5:Ext w w5:=Below.grown (hE3.trans hEa) hG5 (hE3.trans hEa).le (fun k hk=>(hI3.lt k hk).1)
    go_roundw
    case rel=>exact⟨i+1,k,_,by omega,by omega,by go_num,rfl,by rw[List.length_append,HPl.out,List.length_singleton];omega,HP2.out,hI5,hE5⟩
    case measure=>simp[intOf];omega
  ·have hk3:k<n2:=by omega
   have hkI:(k:Int)<(n2:Int):=by omega
   have hq2:((k:Int)==(n2:Int))=false:=by simp;omega
   obtain⟨g2,q2,C2,rfl,m1,m2,m3,m4⟩:=((F2.out k (by rw[← HN2.out];exact hk3)).ext hE).ex
   by_cases hi1:i=n1
   ·subst hi1
    have HP2:=hide (HS.out i k P (by rw[← HN2.out];exact hk3) (.inl HN1.out) HP.out)
    generalize X2.getD k (0,[])=it at *
    have hx1:¬ ((i:Int)<(i:Int)):=by omega
    have hd1:decide ((i:Int)<(i:Int))=false:=decide_eq_false (by omega)
    clear hk2
    go_wp2_with fail
    go_quiet (fail)
    have hEq:Ext wr (wr.drewN nq):=(Ext.refl wr).drewN nq
    generalize wr.drewN nq=w3 at hEq ⊢
    have hg:g2<wr.heap.size:=World.block_lt_of_cell? wr _ m1
    have j1':=(hEq.cell hg).trans m1
    have j2':=(hEq.cell hg).trans m2
    have hI3:=hI.ext hEq
    have hE3:=hE.trans hEq
    have hb3:=hE3.le
    clear m1 m2 hI
    go_wp2_with (at_builtin;refine xR rfl (.tmp 50) (.tmp 55) rfl rfl hI3 (m3.ext hEq) rfl hPl10 hb3 ?_;intro v5 w5 hI5 hG5 hN5)
    have hEa:=zb w3 (.cells #[.int .u64 ((it.1:Nat):Int),.slice q2 it.2.length C2] 185)
    have hE5:Ext w w5:=Below.grown (hE3.trans hEa) hG5 (hE3.trans hEa).le (fun k hk=>(hI3.lt k hk).1)
    go_roundw
    case rel=>exact⟨i,k+1,_,by omega,by omega,rfl,by go_num,by rw[List.length_append,HPl.out,List.length_singleton];omega,HP2.out,hI5,hE5⟩
    case measure=>simp[intOf];omega
   ·have hi2:i<n1:=by omega
    have hd1:(i:Int)<(n1:Int):=by omega
    have hd1b:decide ((i:Int)<(n1:Int))=true:=decide_eq_true hd1
    obtain⟨g,q,C,rfl,j1,j2,j3,j4⟩:=((F1.out i (by rw[← HN1.out];exact hi2)).ext hE).ex
    by_cases hle:(X1.getD i (0,[])).1≤(X2.getD k (0,[])).1
    ·have HP2:=hide (HM.out i k P (by rw[← HN1.out];exact hi2) (.inr ⟨by rw[← HN2.out];exact hk3,hle⟩) HP.out)
     generalize X1.getD i (0,[])=it at *
     generalize X2.getD k (0,[])=it2 at *
     have hleI:((it.1:Nat):Int)≤((it2.1:Nat):Int):=by omega
     have hled:decide (((it.1:Nat):Int)≤((it2.1:Nat):Int))=true:=decide_eq_true hleI
     clear hk2 hi1 hle
     go_wp2_with fail
     go_quiet (fail)
     have hEq:Ext wr (wr.drewN nq):=(Ext.refl wr).drewN nq
     generalize wr.drewN nq=w3 at hEq ⊢
     have hg:g<wr.heap.size:=World.block_lt_of_cell? wr _ j1
     have j1':=(hEq.cell hg).trans j1
     have j2':=(hEq.cell hg).trans j2
     have hI3:=hI.ext hEq
     have hE3:=hE.trans hEq
     have hb3:=hE3.le
     clear j1 j2 hI m1 m2
     go_wp2_with (at_builtin;refine xR rfl (.tmp 41) (.tmp 46) rfl rfl hI3 (j3.ext hEq) rfl hPl10 hb3 ?_;intro v5 w5 hI5 hG5 hN5)
     have hEa:=zb w3 (.cells #[.int .u64 ((it.1:Nat):Int),.slice q it.2.length C] 185)
     have hE5:Ext w w5:=Below.grown (hE3.trans hEa) hG5 (hE3.trans hEa).le (fun k hk=>(hI3.lt k hk).1)
     go_roundw
     case rel=>exact⟨i+1,k,_,by omega,by omega,by go_num,rfl,by rw[List.length_append,HPl.out,List.length_singleton];omega,HP2.out,hI5,hE5⟩
     case measure=>simp[intOf];omega
    ·have HP2:=hide (HS.out i k P (by rw[← HN2.out];exact hk3) (.inr ⟨by rw[← HN1.out];exact hi2,hle⟩) HP.out)
     generalize X1.getD i (0,[])=it1 at *
     generalize X2.getD k (0,[])=it at *
     have hled:decide (((it1.1:Nat):Int)≤((it.1:Nat):Int))=false:=decide_eq_false (by omega)
     have hleN:decide (it1.1≤it.1)=false:=decide_eq_false hle
     clear hk2 hi1
     go_wp2_with fail
     go_quiet (fail)
     have hEq:Ext wr (wr.drewN nq):=(Ext.refl wr).drewN nq
     generalize wr.drewN nq=w3 at hEq ⊢
     have hg:g2<wr.heap.size:=World.block_lt_of_cell? wr _ m1
     have j1':=(hEq.cell hg).trans m1
     have j2':=(hEq.cell hg).trans m2
     have hI3:=hI.ext hEq
     have hE3:=hE.trans hEq
     have hb3:=hE3.le
     clear j1 j2 hI m1 m2
     go_wp2_with (at_builtin;refine xR rfl (.tmp 50) (.tmp 55) rfl rfl hI3 (m3.ext hEq) rfl hPl10 hb3 ?_;intro v5 w5 hI5 hG5 hN5)
     have hEa:=zb w3 (.cells #[.int .u64 ((it.1:Nat):Int),.slice q2 it.2.length C2] 185)
     have hE5:Ext w w5:=Below.grown (hE3.trans hEa) hG5 (hE3.trans hEa).le (fun k hk=>(hI3.lt k hk).1)
     go_roundw
     case rel=>exact⟨i,k+1,_,by omega,by omega,rfl,by go_num,by rw[List.length_append,HPl.out,List.length_singleton];omega,HP2.out,hI5,hE5⟩
     case measure=>simp[intOf];omega
end Go.Proofs.YtpmedpdjglcdpaaGreatDoor
namespace Go.Proofs.YtpmedpdjglcdpaaGreatDoor
open Go.RowKit Len
def SrcY (w:World)(S:Option Addr)(m:Nat)(Y:List qM):Prop:=Y.length=m∧(m=0∨∃ g off,S=some ⟨g,off,none⟩∧∀ i,i<m→w.cell? ⟨g,off+i*2,none⟩=some (.int .u64 (((Y.getD i (0,undef)).1:Nat):Int))∧w.cell? ⟨g,off+(i*2+1),none⟩=some (Y.getD i (0,undef)).2)
section
variable {w w':World}{base:Nat}{v:Value}{Y:List qM}{X:List Len.Item}{A:Option Addr}
theorem SrcY.take {n k:Nat}(h:SrcY w A n Y)(hk:k≤n):SrcY w A k (Y.take k):=by
 refine⟨by rw[List.length_take,h.1];omega,?_⟩
 rcases h.2 with h0 | ⟨g,off,e,hc⟩
 ·exact .inl (by omega)
 ·refine .inr ⟨g,off,e,fun i hi=>?_⟩
  have e2:(Y.take k).getD i (0,undef)=Y.getD i (0,undef):=by simp[List.getD_eq_getElem?_getD,hi]
  rw[e2]
  exact hc i (by omega)
theorem SrcY.drop {n k c:Nat}(h:SrcY w A n Y)(hk:k≤n)(hc:n≤c):SrcY w (zQ A (c*2) (k*2)) (n-k) (Y.drop k):=by
 refine⟨by rw[List.length_drop,h.1],?_⟩
 by_cases hkn:k=n
 ·exact .inl (by omega)
 rcases h.2 with h0 | ⟨g,off,rfl,hcell⟩
 ·exact .inl (by omega)
 ·refine .inr ⟨g,off+k*2,by simp[zQ,show ¬ c*2=k*2 by omega,Addr.add],fun i hi=>?_⟩
  have e2:(Y.drop k).getD i (0,undef)=Y.getD (k+i) (0,undef):=by simp[List.getD_eq_getElem?_getD]
  rw[e2,show off+k*2+i*2=off+(k+i)*2 by omega,show off+k*2+(i*2+1)=off+((k+i)*2+1) by omega]
  exact hcell (k+i) (by omega)
theorem SaysY.take {B k:Nat}(h:SaysY w B Y X):SaysY w B (Y.take k) (X.take k):=by
 refine⟨by rw[List.length_take,List.length_take,h.1],fun i hi=>?_⟩
 rw[List.length_take]at hi
 have e1:(Y.take k).getD i (0,undef)=Y.getD i (0,undef):=by simp[List.getD_eq_getElem?_getD,show i<k by omega]
 have e2:(X.take k).getD i (0,[])=X.getD i (0,[]):=by simp[List.getD_eq_getElem?_getD,show i<k by omega]
 rw[e1,e2]
 exact h.2 i (by omega)
theorem SaysY.drop {B k:Nat}(h:SaysY w B Y X):SaysY w B (Y.drop k) (X.drop k):=by
 refine⟨by rw[List.length_drop,List.length_drop,h.1],fun i hi=>?_⟩
 rw[List.length_drop]at hi
 have e1:(Y.drop k).getD i (0,undef)=Y.getD (k+i) (0,undef):=by simp[List.getD_eq_getElem?_getD]
 have e2:(X.drop k).getD i (0,[])=X.getD (k+i) (0,[]):=by simp[List.getD_eq_getElem?_getD]
 rw[e1,e2]
 exact h.2 (k+i) (by omega)
theorem ItL.src (h:ItL w base v X):∃ A c Y,v=.slice A X.length c∧X.length≤c∧c≤maxLen∧SrcY w A X.length Y∧SaysY w w.heap.size Y X:=by
 obtain⟨Y,h1,h2⟩:=h
 obtain⟨A,c,rfl,hc,hm,hA⟩:=h1.form
 have hl:=h2.1
 rw[hl]at hc hA ⊢
 refine⟨A,c,Y,rfl,hc,hm,⟨hl,hA.imp_right fun ⟨g,e,hg⟩=>⟨g,0,e,fun i hi=>?_⟩⟩,h2⟩
 rw[Nat.zero_add,Nat.zero_add]
 exact hg i hi
end
theorem XY (w:World)(ty:TypeId)(base:Nat)(v:Value)(Y:List qM)(hown:OwnY w base v Y)(A:Option Addr)(c:Nat) :
  (Builtin.append_ #[183,183] ty #[v,.slice A 0 c]).run Tryz.prog w=.ok v w:=by
 obtain⟨i,hi,_,_,_⟩:=info_parts js
 rcases hown.2 with ⟨rfl,_⟩ | ⟨g,cap,cur,rfl,_,_,hnc,_⟩
 ·cases A<;>simp[Builtin.append_,run_underlying Tryz.underlying183,sizeOf,typeInfo,hi,Builtin.lenOf,Builtin.firstCells,loadCells,loadCellsFrom]
 ·cases A<;>simp[Builtin.append_,run_underlying Tryz.underlying183,sizeOf,typeInfo,hi,Builtin.lenOf,Builtin.firstCells,loadCells,loadCellsFrom,hnc,storeCells]
theorem acM {w w':World}{B C:Nat}{Y Y2:List qM}{X Z:List Len.Item}(h1:SaysY w B Y X)(h2:SaysY w' C Y2 Z)(h1':SaysY w' C Y X):SaysY w' C (Y++Y2) (X++Z):=by
 have hl:=h1.1
 have hl2:=h2.1
 refine⟨by simp[hl,hl2],fun j hj=>?_⟩
 by_cases hjl:j<X.length
 ·have e1:(X++Z).getD j (0,[])=X.getD j (0,[]):=by simp[List.getD_eq_getElem?_getD,List.getElem?_append_left hjl]
  have e2:(Y++Y2).getD j (0,undef)=Y.getD j (0,undef):=by simp[List.getD_eq_getElem?_getD,List.getElem?_append_left (by omega:j<Y.length)]
  rw[e1,e2]
  exact h1'.2 j hjl
 ·have e1:(X++Z).getD j (0,[])=Z.getD (j-X.length) (0,[]):=by simp[List.getD_eq_getElem?_getD,List.getElem?_append_right (Nat.le_of_not_lt hjl)]
  have e2:(Y++Y2).getD j (0,undef)=Y2.getD (j-X.length) (0,undef):=by rw[← hl];simp[List.getD_eq_getElem?_getD,List.getElem?_append_right (by omega:Y.length≤j)]
  rw[e1,e2]
  rw[List.length_append]at hj
  exact h2.2 _ (by omega)
section
variable {o:Oper}{a:Act}{Q:Exit→Act→World→Prop}{w:World}{base:Nat}{v:Value}{X Z:List Len.Item}{Y2:List qM}
set_option maxRecDepth 100000 in
theorem x7 {ops:Array Oper}{rest:List Oper}(hgd:o.guard=none)(s x:Operand)(ho:o.op=.call { callee:=.builtin .append,args:=#[s,x],argTypes:=#[183,183] })(hs:a.eval s=v)
  (hown:ItL w base v X) {S:Option Addr} {m c:Nat} (hx:a.eval x=.slice S m c) (hsrc:SrcY w S m Y2) (hsay:SaysY w w.heap.size Y2 Z) (hlen:X.length≤1000) (hm:m≤1000) (hbase:base≤w.heap.size)
  (h:∀ v' w',ItL w' base v' (X++Z)→w.grownBy w' v.ownBlock→(v'.ownBlock=v.ownBlock∨v'.ownBlock=some w.heap.size)→wpList Tryz.prog ops Q rest (a.put o.dst v') w') :
  wpList Tryz.prog ops Q (o::rest) a w:=by
 obtain⟨Y,h1,h2⟩:=hown
 obtain⟨hl2,hcs⟩:=hsrc
 rcases hcs with rfl | ⟨g,off,rfl,hc⟩
 ·obtain rfl:=List.eq_nil_of_length_eq_zero hl2
  have hz:Z=[]:=List.eq_nil_of_length_eq_zero hsay.1.symm
  subst hz
  have hr:=XY w o.type base v Y h1 S c
  refine wpList_plain hgd fun K hK=>?_
  unfold Oper.wp execOp
  simp only[ho,resolve,invoke,builtin,Sem.run_bind,Sem.run_pure,Result.andThen_ok,List.map_toArray,List.map_cons,List.map_nil,hs,hx,hr]
  exact hK _ _ (h v w (by rw[List.append_nil];exact⟨Y,h1,h2⟩) (World.grownBy.refl w _) (.inl rfl))
 ·obtain⟨i,hi,hz,hsz,hby⟩:=info_parts js
  refine wpList_append_own_at _ hgd s x 183 ho base 185 i _ 2 32 Tryz.underlying183 hi hz hsz hby rfl (by omega) v Y.length (Y.flatMap xy) hs h1 ⟨g,off,none⟩ m c (Y2.flatMap xy) hx (by rw[Y7,hl2]) (by
   intro j u hu
   have hj:j<m*2:=by
    have:=(List.getElem?_eq_some_iff.1 hu).1
    rw[Y7,hl2]at this
    exact this
   rw[show (⟨g,off,none⟩:Addr).add j=⟨g,off+j,none⟩ by unfold Addr.add;split<;>simp_all]
   obtain⟨k1,k2⟩:=hc (j / 2) (by omega)
   have hd:j=j / 2*2+j % 2:=by omega
   rw[hd,Y6 Y2 (j / 2) (j % 2) (by omega) (by omega)]at hu
   rcases (show j % 2=0∨j % 2=1 by omega) with e|e
   ·rw[e]at hu
    rw[show off+j=off+j / 2*2 by omega,k1]
    simpa[xy] using hu
   ·rw[e]at hu
    rw[show off+j=off+(j / 2*2+1) by omega,k2]
    simpa[xy] using hu) (by
   intro u hu
   obtain⟨y,hy,hu2⟩:=List.mem_flatMap.1 hu
   obtain⟨p,hp,rfl⟩:=List.mem_iff_getElem.1 hy
   have hs2:=(hsay.2 p (by have:=hsay.1;omega)).2.1
   rw[List.getD_eq_getElem?_getD,List.getElem?_eq_getElem hp]at hs2
   obtain⟨q,C,hq,_,_⟩:=hs2.form
   simp only[xy,List.mem_cons,List.not_mem_nil,or_false]at hu2
   rcases hu2 with rfl|rfl
   ·rfl
   ·have e3:(Y2[p]'hp).2=.slice q _ C:=hq
    rw[e3]
    rfl) (by have:=h2.1;unfold maxLen;omega) (by have:=h2.1;omega) hbase ?_
  intro v' w' h4 h5 _ h6
  have hS:=h5.size
  refine h v' w' ⟨Y++Y2,?_,?_⟩ h5 h6
  ·unfold OwnY
   rw[List.length_append,List.flatMap_append,hl2]
   exact h4
  ·exact acM h2 ((hsay.grownY h1 h5).up hS) ((h2.grownY h1 h5).up hS)
theorem jF {u:Value}{L M:List Int}{b2:Nat}{ops:Array Oper}{rest:List Oper}(hgd:o.guard=none)(s x:Operand)(ho:o.op=.call { callee:=.builtin .append,args:=#[s,x],argTypes:=#[48,48] })(hs:a.eval s=v)
  (hown:OwnL w base v L) {n:Nat} {S:Option Addr} {c:Nat} (hu:u=.slice S n c) (hx:a.eval x=.slice S n c) (hM:OwnL w b2 u M) (hn:M.length=n) (hlen:L.length≤10000000) (hm:n≤10000000) (hbase:base≤w.heap.size)
  (h:∀ v' w',OwnL w' base v' (L++M)→w.grownBy w' v.ownBlock→(v'.ownBlock=v.ownBlock∨v'.ownBlock=some w.heap.size)→wpList Tryz.prog ops Q rest (a.put o.dst v') w') :
  wpList Tryz.prog ops Q (o::rest) a w:=by
 subst hu
 subst hn
 obtain⟨i,hi,hz,hsz,hby⟩:=info_parts aa9
 obtain⟨S',c',e,_,hI⟩:=hM.form
 simp only[Value.slice.injEq]at e
 obtain⟨rfl,_,rfl⟩:=e
 rcases hI.2 with h0 | ⟨g,off,rfl,_,hc⟩
 ·obtain rfl:=List.eq_nil_of_length_eq_zero h0
  have hr:(Builtin.append_ #[48,48] o.type #[v,.slice S 0 c]).run Tryz.prog w=.ok v w:=by
   rcases hown.2 with ⟨rfl,_⟩ | ⟨g,cap,cur,rfl,_,_,hnc,_⟩
   ·cases S<;>simp[Builtin.append_,run_underlying Tryz.underlying48,sizeOf,typeInfo,hi,Builtin.lenOf,Builtin.firstCells,loadCells,loadCellsFrom]
   ·cases S<;>simp[Builtin.append_,run_underlying Tryz.underlying48,sizeOf,typeInfo,hi,Builtin.lenOf,Builtin.firstCells,loadCells,loadCellsFrom,hnc,storeCells]
  refine wpList_plain hgd fun K hK=>?_
  unfold Oper.wp execOp
  simp only[ho,resolve,invoke,builtin,Sem.run_bind,Sem.run_pure,Result.andThen_ok,List.map_toArray,List.map_cons,List.map_nil,hs,hx,List.length_nil,hr]
  exact hK _ _ (h v w (by rw[List.append_nil];exact hown) (World.grownBy.refl w _) (.inl rfl))
 ·refine wpList_append_own_at _ hgd s x 48 ho base 3 i _ 1 8 Tryz.underlying48 hi hz hsz hby rfl (by omega) v L.length (L.map (Value.int .i64)) hs hown ⟨g,off,none⟩ M.length c (M.map (Value.int .i64)) hx (by simp) (by
   intro j u hu
   have hj:j<M.length:=by
    have:=(List.getElem?_eq_some_iff.1 hu).1
    simpa using this
   rw[show (⟨g,off,none⟩:Addr).add j=⟨g,off+j,none⟩ by unfold Addr.add;split<;>simp_all,hc j hj]
   rw[List.getElem?_map,List.getElem?_eq_getElem hj]at hu
   rw[List.getD_eq_getElem?_getD,List.getElem?_eq_getElem hj]
   simpa using hu) (by
   intro u hu
   obtain⟨x,_,rfl⟩:=List.mem_map.1 hu
   rfl) (by unfold maxLen;omega) (by omega) hbase ?_
  intro v' w' h2 h3 _ h5
  refine h v' w' ?_ h3 h5
  unfold OwnL
  rw[List.length_append,List.map_append]
  exact h2
end
theorem jV (x:Len.Item):∀ (l:List Len.Item) (k:Nat),k≤l.length→(∀ t,t<k→(l.getD t (0,[])).1≤x.1)→(k<l.length→x.1<(l.getD k (0,[])).1)→uj x l=(l.take k++[x])++l.drop k
 | [],k,hk,_,_=>by
  obtain rfl:k=0:=by simpa using hk
  rfl
 | a::l,0,_,_,h2=>by
  have:=h2 (by simp)
  rw[uj,if_neg (by simpa using this)]
  rfl
 | a::l,k+1,hk,h1,h2=>by
  have ha:=h1 0 (by omega)
  rw[uj,if_pos (by simpa using ha),jV x l k (by simpa using hk) (fun t ht=>by simpa using h1 (t+1) (by omega)) (fun h=>by simpa using h2 (by simpa using h))]
  rfl
end Go.Proofs.YtpmedpdjglcdpaaGreatDoor
namespace Go.Proofs.YtpmedpdjglcdpaaGreatDoor
open Go.RowKit Len
theorem abo (W:World)(a:Option Addr)(n c:Nat)(k:IntKind)(h:Int)(h0:0≤h)(h1:h≤c) :
  (Instr.slice 183 (.slice a n c) none (some (.int k h)) none).run Tryz.prog W=.ok (.slice (zQ a (c*2) (0*2)) h.toNat c) W:=by
 rw[run_slice_h (P:=Tryz.prog) (w:=W) 183 a n c (by kernel_rfl) k h h0 h1]
 have hs:(sizeOf (Tryz.prog.elem 183)).run Tryz.prog W=.ok 2 W:=by kernel_rfl
 rw[hs]
 have e:(c*2=0*2)=(c=0):=propext ⟨fun h=>by omega,fun h=>by omega⟩
 simp only[Result.andThen,sliced,zQ,e,Nat.sub_zero]
theorem acN (W:World)(a:Option Addr)(n c:Nat)(k:IntKind)(l:Int)(h0:0≤l)(h1:l≤n) :
  (Instr.slice 183 (.slice a n c) (some (.int k l)) none none).run Tryz.prog W=.ok (.slice (zQ a (c*2) (l.toNat*2)) (n-l.toNat) (c-l.toNat)) W:=by
 rw[run_slice_l (P:=Tryz.prog) (w:=W) 183 a n c (by kernel_rfl) k l h0 h1]
 have hs:(sizeOf (Tryz.prog.elem 183)).run Tryz.prog W=.ok 2 W:=by kernel_rfl
 rw[hs]
 have e:(c*2=l.toNat*2)=(c=l.toNat):=propext ⟨fun h=>by omega,fun h=>by omega⟩
 simp only[Result.andThen,sliced,zQ,e]
theorem SrcY.head {w:World}{A:Option Addr}{n c k:Nat}{Y:List qM}(h:SrcY w A n Y)(hk:k≤n)(hc:n≤c):SrcY w (zQ A (c*2) (0*2)) k (Y.take k):=by
 have:=(h.drop (k:=0) (Nat.zero_le n) hc).take (k:=k) (by omega)
 simpa using this
theorem SrcY.extN {w w':World}{A:Option Addr}{n:Nat}{Y:List qM}(h:SrcY w A n Y)(hE:Ext w w'):SrcY w' A n Y:=by
 refine⟨h.1,h.2.imp_right fun ⟨g,off,e,hc⟩=>⟨g,off,e,fun i hi=>?_⟩⟩
 obtain⟨k1,k2⟩:=hc i hi
 have hg:g<w.heap.size:=World.block_lt_of_cell? w _ k1
 exact⟨(hE.cell hg).trans k1,(hE.cell hg).trans k2⟩
theorem OwnL.one (w:World)(p:Int){base:Nat}(h:base≤w.heap.size):OwnL (w.alloc (.cells #[.int .i64 p] 3)) base (.slice (some ⟨w.heap.size,0,none⟩) 1 1) [p]:=by
 have:=World.ownsRow_lit (e:=3) (size:=1) w #[.int .i64 p] 1 h (by unfold maxLen;omega) (by simp)
 simpa[OwnL] using this
theorem OwnL.mono {w:World}{base base':Nat}{v:Value}{L:List Int}(h:OwnL w base v L)(hb:base'≤base):OwnL w base' v L :=
 ⟨h.1,h.2.imp_right fun ⟨g,cap,cur,e,hg,r⟩=>⟨g,cap,cur,e,Nat.le_trans hb hg,r⟩⟩
theorem qN {o:Oper}{a:Act}{Q:Exit→Act→World→Prop}{w:World}{base g:Nat}{v:Value}{X:List Len.Item}{ops:Array Oper}{rest:List Oper}(hgd:o.guard=none)(s x:Operand)(ho:o.op=.call { callee:=.builtin .append,args:=#[s,x],argTypes:=#[183,183] })(hs:a.eval s=v){q:Option Addr}{C:Nat}{it:Len.Item}
  (hg:g=w.heap.size) (hown:ItL w base v X) (hit:OwnL w 0 (.slice q it.2.length C) (it.2.map Int.ofNat)) {c:Nat} (hx:a.eval x=.slice (some ⟨g,0,none⟩) 1 c) (hlen:X.length≤1000) (hbase:base≤w.heap.size)
  (h:∀ v' w',ItL w' base v' (X++[it])→(w.alloc (.cells #[.int .u64 ((it.1:Nat):Int),.slice q it.2.length C] 185)).grownBy w' v.ownBlock→(v'.ownBlock=v.ownBlock∨v'.ownBlock=some (w.heap.size+1))→wpList Tryz.prog ops Q rest (a.put o.dst v') w') :
  wpList Tryz.prog ops Q (o::rest) a (w.alloc (.cells #[.int .u64 ((it.1:Nat):Int),.slice q it.2.length C] 185)):=by
 subst hg
 exact xR hgd s x ho hs hown hit hx hlen hbase h
theorem ItL.byte {w w':World}{base b2 g n c:Nat}{v:Value}{X:List Len.Item}{O:List UInt8}(h:ItL w base v X)(hO:OwnB w b2 (.slice (some ⟨g,0,none⟩) n c) O)(hG:w.grownBy w' (some g)):ItL w' base v X:=by
 obtain⟨Y,h1,h2⟩:=h
 have hg:∃ x,w.heap[g]?=some (.cells x 5):=by
  rcases hO.2 with ⟨e,_⟩ | ⟨g1,c1,cur1,e,_,hh,_⟩
  ·cases e
  ·simp only[Value.slice.injEq,Option.some.injEq,Addr.mk.injEq,and_true]at e
   obtain⟨rfl,_⟩:=e
   exact⟨_,hh⟩
 obtain⟨x,hx⟩:=hg
 refine⟨Y,World.ownsRow.kept h1 hG (.inr fun e=>?_),h2.1,fun i hi=>⟨(h2.2 i hi).1,World.ownsRow.kept (h2.2 i hi).2.1 hG (.inr fun e=>?_),fun k hk=>Nat.lt_of_lt_of_le ((h2.2 i hi).2.2 k hk) hG.size⟩⟩
 ·rcases h1.2 with ⟨rfl,_⟩ | ⟨g2,c2,cur2,rfl,_,hh,_⟩
  ·cases e
  ·simp only[Value.ownBlock,Option.some.injEq]at e
   subst e
   rw[hx]at hh
   simp only[Option.some.injEq,Obj.cells.injEq]at hh
   exact absurd hh.2.1 (by decide)
 ·rcases (h2.2 i hi).2.1.2 with ⟨e2,_⟩ | ⟨g2,c2,cur2,e2,_,hh,_⟩
  ·rw[e2]at e
   cases e
  ·rw[e2]at e
   simp only[Value.ownBlock,Option.some.injEq]at e
   subst e
   rw[hx]at hh
   simp only[Option.some.injEq,Obj.cells.injEq]at hh
   exact absurd hh.2.1 (by decide)
set_option maxRecDepth 100000 in
theorem adJ {o:Oper}{a:Act}{K:Act→World→Prop}{Q:Exit→Act→World→Prop}{w:World}{base:Nat}{v:Value}{X:List Len.Item}(s x:Operand)(ho:o.op=.call { callee:=.builtin .append,args:=#[s,x],argTypes:=#[183,183] })(hs:a.eval s=v){q:Option Addr}{C:Nat}{it:Len.Item}
  (hown:ItL w base v X) (hit:OwnL w 0 (.slice q it.2.length C) (it.2.map Int.ofNat)) {c:Nat} (hx:a.eval x=.slice (some ⟨w.heap.size,0,none⟩) 1 c) (hlen:X.length≤1000) (hbase:base≤w.heap.size)
  (h:∀ v' w',ItL w' base v' (X++[it])→(w.alloc (.cells #[.int .u64 ((it.1:Nat):Int),.slice q it.2.length C] 185)).grownBy w' v.ownBlock→K (a.put o.dst v') w') :
  o.wp Tryz.prog a (w.alloc (.cells #[.int .u64 ((it.1:Nat):Int),.slice q it.2.length C] 185)) K Q:=by
 obtain⟨Y,h1,h2⟩:=hown
 obtain⟨i,hi,hz,hsz,hby⟩:=info_parts js
 have hE:=zb w (.cells #[.int .u64 ((it.1:Nat):Int),.slice q it.2.length C] 185)
 have h1E:=h1.ext hE
 obtain⟨v',w',hr,h4,h5,_,_⟩:=run_append_own_at (P:=Tryz.prog) _ base 183 o.type 185 i _ 2 32 Tryz.underlying183 hi hz hsz hby rfl (by omega) v Y.length (Y.flatMap xy) h1E ⟨w.heap.size,0,none⟩ 1 c (xy (it.1,.slice q it.2.length C)) rfl (by
  intro j u hu
  rw[show (⟨w.heap.size,0,none⟩:Addr).add j=⟨w.heap.size,j,none⟩ by unfold Addr.add;split<;>simp_all,zA]
  match j,hu with
  | 0,hu=>simpa[xy] using hu
  | 1,hu=>simpa[xy] using hu
  | j+2,hu=>simp[xy]at hu) (by
  intro u hu
  simp[xy]at hu
  rcases hu with rfl|rfl<;>rfl) (by unfold maxLen;have:=h2.1;omega) (by have:=h2.1;omega) (by simp;omega)
 unfold Oper.wp execOp
 simp only[ho,resolve,invoke,builtin,Sem.run_bind,Sem.run_pure,Result.andThen_ok,List.map_toArray,List.map_cons,List.map_nil,hs,hx,hr]
 have hS:=h5.size
 rw[World.size_alloc]at hS
 refine h v' w' ⟨Y++[(it.1,.slice q it.2.length C)],?_,?_⟩ h5
 ·unfold OwnY
  rw[List.length_append,List.flatMap_append]
  simpa using h4
 ·have k1:=((h2.ext hE).grownY h1E h5).up (C:=w'.heap.size) (by omega)
  have k2:OwnL w' 0 (.slice q it.2.length C) (it.2.map Int.ofNat):=World.ownsRow.kept (hit.ext hE) h5 (by
   cases hb:v.ownBlock with
   | none=>cases (Value.slice q it.2.length C).ownBlock<;>simp
   | some g=>exact .inr ((hit.ext hE).notY h1E hb))
  refine⟨by simp[h2.1],fun j hj=>?_⟩
  have hl:=h2.1
  by_cases hjl:j<X.length
  ·have e1:(X++[it]).getD j (0,[])=X.getD j (0,[]):=by simp[List.getD_eq_getElem?_getD,List.getElem?_append_left hjl]
   have e2:(Y++[(it.1,Value.slice q it.2.length C)]).getD j (0,undef)=Y.getD j (0,undef):=by simp[List.getD_eq_getElem?_getD,List.getElem?_append_left (by omega:j<Y.length)]
   rw[e1,e2]
   exact k1.2 j hjl
  ·have hjx:j=X.length:=by simp at hj;omega
   subst hjx
   have e1:(X++[it]).getD X.length (0,[])=it:=by simp[List.getD_eq_getElem?_getD]
   have e2:(Y++[(it.1,Value.slice q it.2.length C)]).getD X.length (0,undef)=(it.1,.slice q it.2.length C):=by rw[← hl];simp[List.getD_eq_getElem?_getD]
   rw[e1,e2]
   exact⟨rfl,k2,fun k hk=>(k2.lt k hk).2⟩
end Go.Proofs.YtpmedpdjglcdpaaGreatDoor
namespace Go.Proofs.YtpmedpdjglcdpaaGreatDoor.Len
theorem VI:∀ {l:List Item} {x:Item},x∈zo l→∃ a b,a∈l∧b∈l∧x=(a.1+b.1,a.2++b.2)
 | [],x,h=>by simp[zo]at h
 | [_],x,h=>by simp[zo]at h
 | a::b::r,x,h=>by
  rw[zo]at h
  rcases List.mem_cons.1 h with e|e
  ·exact⟨a,b,by simp,by simp,e⟩
  ·obtain⟨c,d,hc,hd,e⟩:=VI e
   exact⟨c,d,by simp[hc],by simp[hd],e⟩
theorem UB {lv:List Item}{P:Nat→Item→Prop}(h0:∀ r x,x∈lv→P r x)(hs:∀ r a b,P r a→P r b→P (r+1) (a.1+b.1,a.2++b.2)):∀ (r:Nat) (x:Item),x∈row lv r→P r x
 | 0,x,h=>h0 0 x h
 | r+1,x,h=>by
  rw[row]at h
  rcases ve h with h|h
  ·exact h0 _ x h
  ·obtain⟨a,b,ha,hb,rfl⟩:=VI h
   exact hs r a b (UB h0 hs r a ha) (UB h0 hs r b hb)
theorem acO {often:List Nat}(hb:∀ i,often.getD i 0<4294967296)(j r:Nat)(x:Item)(h:x∈row (zd often j) r):x.1≤2 ^ r*4294967296∧x.2.length≤2 ^ r∧∀ s∈x.2,s<j:=by
 refine UB (P:=fun r x=>x.1≤2 ^ r*4294967296∧x.2.length≤2 ^ r∧∀ s∈x.2,s<j) ?_ ?_ r x h
 ·intro r x hx
  obtain⟨q,hq,_,rfl⟩:=yZ hx
  have:=hb q
  have hp:1≤2 ^ r:=Nat.pow_pos (by omega)
  refine⟨?_,by simpa using hp,fun s hs=>?_⟩
  ·show often.getD q 0≤_
   have:=Nat.mul_le_mul_right 4294967296 hp
   omega
  ·simp at hs
   omega
 ·rintro r a b ⟨a1,a2,a3⟩ ⟨b1,b2,b3⟩
  refine⟨?_,?_,fun s hs=>?_⟩
  ·show a.1+b.1≤_
   rw[Nat.pow_succ,Nat.mul_right_comm]
   omega
  ·show (a.2++b.2).length≤_
   rw[List.length_append,Nat.pow_succ]
   omega
  ·rcases List.mem_append.1 hs with h | h
   ·exact a3 s h
   ·exact b3 s h
theorem JE:∀ {l:List Item} {t:Nat},2*t+1<l.length→(zo l)[t]?=some ((l.getD (2*t) (0,[])).1+(l.getD (2*t+1) (0,[])).1,(l.getD (2*t) (0,[])).2++(l.getD (2*t+1) (0,[])).2)
 | [],t,h=>by simp at h
 | [_],t,h=>by simp at h
 | a::b::r,0,_=>by rw[zo];rfl
 | a::b::r,t+1,h=>by
  have:=JE (l:=r) (t:=t) (by simp at h;omega)
  rw[zo,List.getElem?_cons_succ,this,show 2*(t+1)=2*t+1+1 by omega,show 2*t+1+1+1=(2*t+1)+1+1 by omega]
  simp only[List.getD_cons_succ]
theorem pairs_next {l:List Item}{t:Nat}(h:2*t+1<l.length) :
  (zo l).take (t+1)=(zo l).take t++[((l.getD (2*t) (0,[])).1+(l.getD (2*t+1) (0,[])).1,(l.getD (2*t) (0,[])).2++(l.getD (2*t+1) (0,[])).2)]:=by
 rw[List.take_add_one,JE h]
 rfl
theorem abp {l:List Item}{t:Nat}(h:¬ 2*t+1<l.length):(zo l).take t=zo l:=List.take_of_length_le (by rw[yi];omega)
theorem jW (lv:List Item):∀ (r k:Nat),lv.length≤k*2 ^ r→2*lv.length≤(row lv r).length+k
 | 0,k,h=>by rw[row];simp at h;omega
 | r+1,k,h=>by
  have:=jW lv r (2*k) (by rw[Nat.pow_succ]at h;rw[Nat.mul_comm 2 k,Nat.mul_assoc,Nat.mul_comm 2];exact h)
  rw[ui]
  omega
theorem VJ {l:List Item}{i:Nat}(h:i<l.length):syms (l.take (i+1))=syms (l.take i)++(l.getD i (0,[])).2:=by
 have e:l.take (i+1)=l.take i++[l.getD i (0,[])]:=by
  rw[List.take_add_one,List.getElem?_eq_getElem h,List.getD_eq_getElem?_getD,List.getElem?_eq_getElem h]
  rfl
 rw[e]
 simp[syms]
theorem QQ {l:List Item}{i k m s:Nat}(hi:i<m)(hm:m≤l.length):((syms (l.take i)++(l.getD i (0,[])).2.take k).count s)≤(syms (l.take m)).count s:=by
 have h1:(syms (l.take i)++(l.getD i (0,[])).2.take k).count s≤(syms (l.take (i+1))).count s:=by
  rw[VJ (by omega),List.count_append,List.count_append]
  have:=List.Sublist.count_le s (List.take_sublist k (l.getD i (0,[])).2)
  omega
 have h2:(syms (l.take (i+1))).count s≤(syms (l.take m)).count s:=by
  refine List.Sublist.count_le s ?_
  obtain⟨d,rfl⟩:∃ d,m=i+1+d:=⟨m-(i+1),by omega⟩
  rw[List.take_add (l:=l) (i:=i+1) (j:=d),show syms (l.take (i+1)++(l.drop (i+1)).take d)=syms (l.take (i+1))++syms ((l.drop (i+1)).take d) by simp[syms]]
  exact List.sublist_append_left _ _
 omega
theorem take_next {L:List Nat}{k:Nat}(h:k<L.length):L.take (k+1)=L.take k++[L.getD k 0]:=by
 rw[List.take_add_one,List.getElem?_eq_getElem h]
 simp[List.getD_eq_getElem?_getD,h]
theorem aaJ {often:List Nat}{L:Nat}{O:List UInt8}(hO:O.length=often.length)(hL:1≤L)(hL15:L≤15)(hn:(zd often often.length).length≤2 ^ L)
  (h:∀ q,q<often.length→(O.getD q 0).toNat=xr often L q):O=yr often L:=by
 refine List.ext_getElem (by rw[ys,hO]) fun q h1 h2=>?_
 have e1:=h q (by omega)
 have e2:=qp (q:=q) (by omega) hL hL15 hn
 rw[List.getD_eq_getElem?_getD,List.getElem?_eq_getElem h1]at e1
 rw[List.getD_eq_getElem?_getD,List.getElem?_eq_getElem h2]at e2
 exact UInt8.toNat_inj.1 (e1.trans e2.symm)
end Go.Proofs.YtpmedpdjglcdpaaGreatDoor.Len
namespace Go.Proofs.YtpmedpdjglcdpaaGreatDoor
open Go.RowKit Opt
set_option maxHeartbeats 4000000 in
set_option maxRecDepth 100000 in
theorem QR (v b:Int)(p:Bool)(k d y c:Int)(hv:v=1)(w:World):Calls Tryz.prog 17 #[.int .i64 v,.agg (zJ b p k d y c)] w fun e w'=>e=.returned (.int .i64 (chk v b k d y c))∧Ext w w':=by
 unfold zJ
 have hE1:=zb w (.cells #[.int .i64 b,.bool p,.int .i64 k,.int .i64 d,.int .i64 y,.int .i64 c] 23)
 have hW1:=Whole.new w 23 #[.int .i64 b,.bool p,.int .i64 k,.int .i64 d,.int .i64 y,.int .i64 c]
 have c0:=hW1.at 0 rfl
 have c2:=hW1.at 2 rfl
 have c3:=hW1.at 3 rfl
 have c4:=hW1.at 4 rfl
 have c5:=hW1.at 5 rfl
 obtain⟨res,hres⟩:∃ res,res=chk v b k d y c:=⟨_,rfl⟩
 rw[← hres]
 have HC:=hide hres
 clear hres hW1
 subst hv
 by_cases g:b<16
 ·skip
  have HR:=hide (show res=_ from HC.out.trans (yT (by omega) (by omega) (by unfold MayE;omega)))
  clear HC
  go_enter Tryz.func17,Tryz.ntmps17
  go_wp2
  go_ret
  exact⟨zi HR.out.symm,hE1⟩
 rw[Int.not_lt]at g
 by_cases g:32768<b
 ·skip
  have HR:=hide (show res=_ from HC.out.trans (yT (by omega) (by omega) (by unfold MayE;omega)))
  clear HC
  go_enter Tryz.func17,Tryz.ntmps17
  go_wp2
  go_ret
  exact⟨zi HR.out.symm,hE1⟩
 rw[Int.not_lt]at g
 by_cases g:k=0
 rotate_left
 ·have gb:(k==0)=false:=by rw[beq_eq_false_iff_ne];exact g
  have HR:=hide (show res=_ from HC.out.trans (yT (by omega) (by omega) (by unfold MayE;omega)))
  clear HC
  go_enter Tryz.func17,Tryz.ntmps17
  go_wp2
  go_ret
  exact⟨zi HR.out.symm,hE1⟩
 subst g
 by_cases g:d=0
 rotate_left
 ·have gb:(d==0)=false:=by rw[beq_eq_false_iff_ne];exact g
  have HR:=hide (show res=_ from HC.out.trans (yT (by omega) (by omega) (by unfold MayE;omega)))
  clear HC
  go_enter Tryz.func17,Tryz.ntmps17
  go_wp2
  go_ret
  exact⟨zi HR.out.symm,hE1⟩
 subst g
 by_cases g:y=0
 rotate_left
 ·have gb:(y==0)=false:=by rw[beq_eq_false_iff_ne];exact g
  have HR:=hide (show res=_ from HC.out.trans (yT (by omega) (by omega) (by unfold MayE;omega)))
  clear HC
  go_enter Tryz.func17,Tryz.ntmps17
  go_wp2
  go_ret
  exact⟨zi HR.out.symm,hE1⟩
 subst g
 by_cases g:c=0
 rotate_left
 ·have gb:(c==0)=false:=by rw[beq_eq_false_iff_ne];exact g
  have HR:=hide (show res=_ from HC.out.trans (yT (by omega) (by omega) (by unfold MayE;omega)))
  clear HC
  go_enter Tryz.func17,Tryz.ntmps17
  go_wp2
  go_ret
  exact⟨zi HR.out.symm,hE1⟩
 subst g
 have HR:=hide (show res=_ from HC.out.trans (aaI (by omega) (by omega) (by unfold MayE;omega)))
 clear HC
 go_enter Tryz.func17,Tryz.ntmps17
 go_wp2
 go_ret
 exact⟨zi HR.out.symm,hE1⟩
set_option maxHeartbeats 4000000 in
set_option maxRecDepth 100000 in
theorem QS (v b:Int)(p:Bool)(k d y c:Int)(hv:v=2)(w:World):Calls Tryz.prog 17 #[.int .i64 v,.agg (zJ b p k d y c)] w fun e w'=>e=.returned (.int .i64 (chk v b k d y c))∧Ext w w':=by
 unfold zJ
 have hE1:=zb w (.cells #[.int .i64 b,.bool p,.int .i64 k,.int .i64 d,.int .i64 y,.int .i64 c] 23)
 have hW1:=Whole.new w 23 #[.int .i64 b,.bool p,.int .i64 k,.int .i64 d,.int .i64 y,.int .i64 c]
 have c0:=hW1.at 0 rfl
 have c2:=hW1.at 2 rfl
 have c3:=hW1.at 3 rfl
 have c4:=hW1.at 4 rfl
 have c5:=hW1.at 5 rfl
 obtain⟨res,hres⟩:∃ res,res=chk v b k d y c:=⟨_,rfl⟩
 rw[← hres]
 have HC:=hide hres
 clear hres hW1
 subst hv
 by_cases g:b<16
 ·skip
  have HR:=hide (show res=_ from HC.out.trans (yT (by omega) (by omega) (by unfold MayE;omega)))
  clear HC
  go_enter Tryz.func17,Tryz.ntmps17
  go_wp2
  go_ret
  exact⟨zi HR.out.symm,hE1⟩
 rw[Int.not_lt]at g
 by_cases g:32768<b
 ·skip
  have HR:=hide (show res=_ from HC.out.trans (yT (by omega) (by omega) (by unfold MayE;omega)))
  clear HC
  go_enter Tryz.func17,Tryz.ntmps17
  go_wp2
  go_ret
  exact⟨zi HR.out.symm,hE1⟩
 rw[Int.not_lt]at g
 by_cases g:k<1
 ·skip
  have HR:=hide (show res=_ from HC.out.trans (yT (by omega) (by omega) (by unfold MayE;omega)))
  clear HC
  go_enter Tryz.func17,Tryz.ntmps17
  go_wp2
  go_ret
  exact⟨zi HR.out.symm,hE1⟩
 rw[Int.not_lt]at g
 by_cases g:64<k
 ·skip
  have HR:=hide (show res=_ from HC.out.trans (yT (by omega) (by omega) (by unfold MayE;omega)))
  clear HC
  go_enter Tryz.func17,Tryz.ntmps17
  go_wp2
  go_ret
  exact⟨zi HR.out.symm,hE1⟩
 rw[Int.not_lt]at g
 by_cases g:d=0
 rotate_left
 ·have gb:(d==0)=false:=by rw[beq_eq_false_iff_ne];exact g
  have HR:=hide (show res=_ from HC.out.trans (yT (by omega) (by omega) (by unfold MayE;omega)))
  clear HC
  go_enter Tryz.func17,Tryz.ntmps17
  go_wp2
  go_ret
  exact⟨zi HR.out.symm,hE1⟩
 subst g
 by_cases g:y=0
 rotate_left
 ·have gb:(y==0)=false:=by rw[beq_eq_false_iff_ne];exact g
  have HR:=hide (show res=_ from HC.out.trans (yT (by omega) (by omega) (by unfold MayE;omega)))
  clear HC
  go_enter Tryz.func17,Tryz.ntmps17
  go_wp2
  go_ret
  exact⟨zi HR.out.symm,hE1⟩
 subst g
 by_cases g:c=0
 rotate_left
 ·have gb:(c==0)=false:=by rw[beq_eq_false_iff_ne];exact g
  have HR:=hide (show res=_ from HC.out.trans (yT (by omega) (by omega) (by unfold MayE;omega)))
  clear HC
  go_enter Tryz.func17,Tryz.ntmps17
  go_wp2
  go_ret
  exact⟨zi HR.out.symm,hE1⟩
 subst g
 have HR:=hide (show res=_ from HC.out.trans (aaI (by omega) (by omega) (by unfold MayE;omega)))
 clear HC
 go_enter Tryz.func17,Tryz.ntmps17
 go_wp2
 go_ret
 exact⟨zi HR.out.symm,hE1⟩
set_option maxHeartbeats 4000000 in
set_option maxRecDepth 100000 in
theorem QT (v b:Int)(p:Bool)(k d y c:Int)(hv:v=3)(w:World):Calls Tryz.prog 17 #[.int .i64 v,.agg (zJ b p k d y c)] w fun e w'=>e=.returned (.int .i64 (chk v b k d y c))∧Ext w w':=by
 unfold zJ
 have hE1:=zb w (.cells #[.int .i64 b,.bool p,.int .i64 k,.int .i64 d,.int .i64 y,.int .i64 c] 23)
 have hW1:=Whole.new w 23 #[.int .i64 b,.bool p,.int .i64 k,.int .i64 d,.int .i64 y,.int .i64 c]
 have c0:=hW1.at 0 rfl
 have c2:=hW1.at 2 rfl
 have c3:=hW1.at 3 rfl
 have c4:=hW1.at 4 rfl
 have c5:=hW1.at 5 rfl
 obtain⟨res,hres⟩:∃ res,res=chk v b k d y c:=⟨_,rfl⟩
 rw[← hres]
 have HC:=hide hres
 clear hres hW1
 subst hv
 by_cases g:b<16
 ·skip
  have HR:=hide (show res=_ from HC.out.trans (yT (by omega) (by omega) (by unfold MayE;omega)))
  clear HC
  go_enter Tryz.func17,Tryz.ntmps17
  go_wp2
  go_ret
  exact⟨zi HR.out.symm,hE1⟩
 rw[Int.not_lt]at g
 by_cases g:32768<b
 ·skip
  have HR:=hide (show res=_ from HC.out.trans (yT (by omega) (by omega) (by unfold MayE;omega)))
  clear HC
  go_enter Tryz.func17,Tryz.ntmps17
  go_wp2
  go_ret
  exact⟨zi HR.out.symm,hE1⟩
 rw[Int.not_lt]at g
 by_cases g:k<1
 ·skip
  have HR:=hide (show res=_ from HC.out.trans (yT (by omega) (by omega) (by unfold MayE;omega)))
  clear HC
  go_enter Tryz.func17,Tryz.ntmps17
  go_wp2
  go_ret
  exact⟨zi HR.out.symm,hE1⟩
 rw[Int.not_lt]at g
 by_cases g:64<k
 ·skip
  have HR:=hide (show res=_ from HC.out.trans (yT (by omega) (by omega) (by unfold MayE;omega)))
  clear HC
  go_enter Tryz.func17,Tryz.ntmps17
  go_wp2
  go_ret
  exact⟨zi HR.out.symm,hE1⟩
 rw[Int.not_lt]at g
 by_cases g:d<1
 ·skip
  have HR:=hide (show res=_ from HC.out.trans (yT (by omega) (by omega) (by unfold MayE;omega)))
  clear HC
  go_enter Tryz.func17,Tryz.ntmps17
  go_wp2
  go_ret
  exact⟨zi HR.out.symm,hE1⟩
 rw[Int.not_lt]at g
 by_cases g:255<d
 ·skip
  have HR:=hide (show res=_ from HC.out.trans (yT (by omega) (by omega) (by unfold MayE;omega)))
  clear HC
  go_enter Tryz.func17,Tryz.ntmps17
  go_wp2
  go_ret
  exact⟨zi HR.out.symm,hE1⟩
 rw[Int.not_lt]at g
 by_cases g:y<0
 ·skip
  have HR:=hide (show res=_ from HC.out.trans (yT (by omega) (by omega) (by unfold MayE;omega)))
  clear HC
  go_enter Tryz.func17,Tryz.ntmps17
  go_wp2
  go_ret
  exact⟨zi HR.out.symm,hE1⟩
 rw[Int.not_lt]at g
 by_cases g:255-d<y
 ·skip
  have HR:=hide (show res=_ from HC.out.trans (yT (by omega) (by omega) (by unfold MayE;omega)))
  clear HC
  go_enter Tryz.func17,Tryz.ntmps17
  go_wp2
  go_ret
  exact⟨zi HR.out.symm,hE1⟩
 rw[Int.not_lt]at g
 by_cases g:c<1
 ·skip
  have HR:=hide (show res=_ from HC.out.trans (yT (by omega) (by omega) (by unfold MayE;omega)))
  clear HC
  go_enter Tryz.func17,Tryz.ntmps17
  go_wp2
  go_ret
  exact⟨zi HR.out.symm,hE1⟩
 rw[Int.not_lt]at g
 by_cases g:4096<c
 ·skip
  have HR:=hide (show res=_ from HC.out.trans (yT (by omega) (by omega) (by unfold MayE;omega)))
  clear HC
  go_enter Tryz.func17,Tryz.ntmps17
  go_wp2
  go_ret
  exact⟨zi HR.out.symm,hE1⟩
 rw[Int.not_lt]at g
 have HR:=hide (show res=_ from HC.out.trans (aaI (by omega) (by omega) (by unfold MayE;omega)))
 clear HC
 go_enter Tryz.func17,Tryz.ntmps17
 go_wp2
 go_ret
 exact⟨zi HR.out.symm,hE1⟩
set_option maxHeartbeats 4000000 in
set_option maxRecDepth 100000 in
theorem QU (v b:Int)(p:Bool)(k d y c:Int)(hv:¬ (1≤v∧v≤3))(w:World):Calls Tryz.prog 17 #[.int .i64 v,.agg (zJ b p k d y c)] w fun e w'=>e=.returned (.int .i64 (chk v b k d y c))∧Ext w w':=by
 unfold zJ
 have hE1:=zb w (.cells #[.int .i64 b,.bool p,.int .i64 k,.int .i64 d,.int .i64 y,.int .i64 c] 23)
 have hW1:=Whole.new w 23 #[.int .i64 b,.bool p,.int .i64 k,.int .i64 d,.int .i64 y,.int .i64 c]
 have c0:=hW1.at 0 rfl
 have c2:=hW1.at 2 rfl
 have c3:=hW1.at 3 rfl
 have c4:=hW1.at 4 rfl
 have c5:=hW1.at 5 rfl
 obtain⟨res,hres⟩:∃ res,res=chk v b k d y c:=⟨_,rfl⟩
 rw[← hres]
 have HC:=hide hres
 clear hres hW1
 have HV:=hide hv
 by_cases g:v<1
 ·clear hv
  have HR:=hide (show res=_ from HC.out.trans (acH HV.out))
  clear HC
  go_enter Tryz.func17,Tryz.ntmps17
  go_wp2
  go_ret
  exact⟨zi HR.out.symm,hE1⟩
 ·have g3:3<v:=by omega
  clear hv
  have HR:=hide (show res=_ from HC.out.trans (acH HV.out))
  clear HC
  go_enter Tryz.func17,Tryz.ntmps17
  go_wp2
  go_ret
  exact⟨zi HR.out.symm,hE1⟩
theorem uW (v b:Int)(p:Bool)(k d y c:Int)(w:World):Calls Tryz.prog 17 #[.int .i64 v,.agg (zJ b p k d y c)] w fun e w'=>e=.returned (.int .i64 (chk v b k d y c))∧Ext w w':=by
 by_cases h1:v=1
 ·exact QR v b p k d y c h1 w
 by_cases h2:v=2
 ·exact QS v b p k d y c h2 w
 by_cases h3:v=3
 ·exact QT v b p k d y c h3 w
 exact QU v b p k d y c (by omega) w
end Go.Proofs.YtpmedpdjglcdpaaGreatDoor
namespace Go.Proofs.YtpmedpdjglcdpaaGreatDoor
open Go.RowKit Len
theorem acP (k:Nat)(hk:k≤15):wrap64 ((2:Int) ^ k)=((2 ^ k:Nat):Int):=by
 have h1:2 ^ k≤32768:=Nat.le_trans (Nat.pow_le_pow_right (by omega) hk) (by decide)
 rw[show (2:Int) ^ k=((2 ^ k:Nat):Int) by simp]
 generalize 2 ^ k=v at *
 unfold wrap64
 omega
end Go.Proofs.YtpmedpdjglcdpaaGreatDoor
namespace Go.Proofs.YtpmedpdjglcdpaaGreatDoor
open Go.RowKit Opt
set_option maxHeartbeats 1000000 in
theorem Y9 (v:Int)(w:World):Calls Tryz.prog 23 #[.int .i64 v] w fun e w'=>e=.returned (.bool (decide (1≤v∧v≤3)))∧Ext w w':=by
 obtain⟨res,hres⟩:∃ res,res=decide (1≤v∧v≤3):=⟨_,rfl⟩
 rw[← hres]
 have HC:=hide hres
 clear hres
 by_cases h1:1≤v
 ·by_cases h3:v≤3
  ·have HR:=hide (show res=true from HC.out.trans (decide_eq_true ⟨h1,h3⟩))
   clear HC
   go_enter Tryz.func23,Tryz.ntmps23
   go_wp2
   go_ret
   exact⟨zf HR.out.symm,Ext.refl _⟩
  ·have HR:=hide (show res=false from HC.out.trans (decide_eq_false fun h=>h3 h.2))
   clear HC
   go_enter Tryz.func23,Tryz.ntmps23
   go_wp2
   go_ret
   exact⟨zf HR.out.symm,Ext.refl _⟩
 ·have HR:=hide (show res=false from HC.out.trans (decide_eq_false fun h=>h1 h.1))
  clear HC
  go_enter Tryz.func23,Tryz.ntmps23
  go_wp2
  go_ret
  exact⟨zf HR.out.symm,Ext.refl _⟩
set_option maxHeartbeats 1000000 in
theorem xJ (a z x:Int)(w:World):Calls Tryz.prog 43 #[.int .i64 a,.int .i64 z,.int .i64 x] w fun e w'=>e=.returned (.bool (decide (a≤x∧x≤z)))∧Ext w w':=by
 obtain⟨res,hres⟩:∃ res,res=decide (a≤x∧x≤z):=⟨_,rfl⟩
 rw[← hres]
 have HC:=hide hres
 clear hres
 by_cases h1:a≤x
 ·by_cases h3:x≤z
  ·have HR:=hide (show res=true from HC.out.trans (decide_eq_true ⟨h1,h3⟩))
   clear HC
   go_enter Tryz.func43,Tryz.ntmps43
   go_wp2
   go_ret
   exact⟨zf HR.out.symm,Ext.refl _⟩
  ·have HR:=hide (show res=false from HC.out.trans (decide_eq_false fun h=>h3 h.2))
   clear HC
   go_enter Tryz.func43,Tryz.ntmps43
   go_wp2
   go_ret
   exact⟨zf HR.out.symm,Ext.refl _⟩
 ·have HR:=hide (show res=false from HC.out.trans (decide_eq_false fun h=>h1 h.1))
  clear HC
  go_enter Tryz.func43,Tryz.ntmps43
  go_wp2
  go_ret
  exact⟨zf HR.out.symm,Ext.refl _⟩
def uu (d y c:Int):Prop:=0≤y∧(1≤d∧d≤255-y)∧1≤c∧c≤4096
instance (d y c:Int):Decidable (uu d y c):=by unfold uu;infer_instance
set_option maxHeartbeats 2000000 in
set_option maxRecDepth 100000 in
theorem JF (b:Int)(p:Bool)(k d y c:Int)(hy:y≤9223372036854775807)(w:World):Calls Tryz.prog 42 #[.agg (zJ b p k d y c)] w fun e w'=>e=.returned (.bool (decide (uu d y c)))∧Ext w w':=by
 unfold zJ
 have hE1:=zb w (.cells #[.int .i64 b,.bool p,.int .i64 k,.int .i64 d,.int .i64 y,.int .i64 c] 23)
 have hW1:=Whole.new w 23 #[.int .i64 b,.bool p,.int .i64 k,.int .i64 d,.int .i64 y,.int .i64 c]
 have c3:=hW1.at 3 rfl
 have c4:=hW1.at 4 rfl
 have c5:=hW1.at 5 rfl
 have F1:=fun W=>xJ 1 (255-y) d W
 have F2:=fun W=>xJ 1 4096 c W
 obtain⟨res,hres⟩:∃ res,res=decide (uu d y c):=⟨_,rfl⟩
 rw[← hres]
 have HC:=hide hres
 clear hres
 by_cases g:0≤y
 ·by_cases g1:1≤d∧d≤255-y
  ·by_cases g2:1≤c∧c≤4096
   ·have HR:=hide (show res=true from HC.out.trans (decide_eq_true ⟨g,g1,g2⟩))
    rw[decide_eq_true g1]at F1
    rw[decide_eq_true g2]at F2
    clear HC g1 g2
    go_enter Tryz.func42,Tryz.ntmps42
    go_wp2_with fail
    refine (F1 _).mono ?_
    rintro e w2 ⟨rfl,hE2⟩
    have c5':=(hW1.ext hE2).at 5 rfl
    go_wp2_with fail
    refine (F2 _).mono ?_
    rintro e w3 ⟨rfl,hE3⟩
    go_wp2
    go_ret
    exact⟨zf HR.out.symm,(hE1.trans hE2).trans hE3⟩
   ·have HR:=hide (show res=false from HC.out.trans (decide_eq_false fun h=>g2 h.2.2))
    rw[decide_eq_true g1]at F1
    rw[decide_eq_false g2]at F2
    clear HC g1 g2
    go_enter Tryz.func42,Tryz.ntmps42
    go_wp2_with fail
    refine (F1 _).mono ?_
    rintro e w2 ⟨rfl,hE2⟩
    have c5':=(hW1.ext hE2).at 5 rfl
    go_wp2_with fail
    refine (F2 _).mono ?_
    rintro e w3 ⟨rfl,hE3⟩
    go_wp2
    go_ret
    exact⟨zf HR.out.symm,(hE1.trans hE2).trans hE3⟩
  ·have HR:=hide (show res=false from HC.out.trans (decide_eq_false fun h=>g1 h.2.1))
   rw[decide_eq_false g1]at F1
   clear HC g1 F2
   go_enter Tryz.func42,Tryz.ntmps42
   go_wp2_with fail
   refine (F1 _).mono ?_
   rintro e w2 ⟨rfl,hE2⟩
   go_wp2
   go_ret
   exact⟨zf HR.out.symm,hE1.trans hE2⟩
 ·have HR:=hide (show res=false from HC.out.trans (decide_eq_false fun h=>g h.1))
  clear HC F1 F2
  go_enter Tryz.func42,Tryz.ntmps42
  go_wp2
  go_ret
  exact⟨zf HR.out.symm,hE1⟩
end Go.Proofs.YtpmedpdjglcdpaaGreatDoor
namespace Go.Proofs.YtpmedpdjglcdpaaGreatDoor
open Go.RowKit Opt
set_option maxHeartbeats 4000000 in
set_option maxRecDepth 100000 in
theorem ad4 (b:Int)(p:Bool)(k d y c:Int)(w:World):Calls Tryz.prog 24 #[.int .i64 1,.agg (zJ b p k d y c)] w fun e w'=>e=.returned (.bool (decide (MayE 1 b k d y c)))∧Ext w w':=by
 unfold zJ
 have hE1:=zb w (.cells #[.int .i64 b,.bool p,.int .i64 k,.int .i64 d,.int .i64 y,.int .i64 c] 23)
 have hW1:=Whole.new w 23 #[.int .i64 b,.bool p,.int .i64 k,.int .i64 d,.int .i64 y,.int .i64 c]
 have FB:=fun W=>xJ 16 32768 b W
 obtain⟨res,hres⟩:∃ res,res=decide (MayE 1 b k d y c):=⟨_,rfl⟩
 rw[← hres]
 have HC:=hide hres
 clear hres
 by_cases gB:16≤b∧b≤32768
 rotate_left
 ·rw[decide_eq_false gB]at FB
  have HR:=hide (show res=false from HC.out.trans (decide_eq_false (by unfold MayE;omega)))
  clear HC
  go_enter Tryz.func24,Tryz.ntmps24
  have c0:=hW1.at 0 rfl
  go_wp2_with fail
  refine (FB _).mono ?_
  rintro e w4 ⟨rfl,hE4⟩
  have hW4:=hW1.ext hE4
  have hF4:=hE1.trans hE4
  clear FB c0 hE1 hE4 hW1
  go_wp2
  go_ret
  exact⟨zf HR.out.symm,hF4⟩
 rw[decide_eq_true gB]at FB
 by_cases gk:k=0
 rotate_left
 ·have gb:(k==0)=false:=by rw[beq_eq_false_iff_ne];exact gk
  have HR:=hide (show res=false from HC.out.trans (decide_eq_false (by unfold MayE;omega)))
  clear HC
  go_enter Tryz.func24,Tryz.ntmps24
  have c0:=hW1.at 0 rfl
  go_wp2_with fail
  refine (FB _).mono ?_
  rintro e w4 ⟨rfl,hE4⟩
  have hW4:=hW1.ext hE4
  have hF4:=hE1.trans hE4
  clear FB c0 hE1 hE4 hW1
  have c0:=hW4.at 0 rfl
  have c1:=hW4.at 1 rfl
  have c2:=hW4.at 2 rfl
  have c3:=hW4.at 3 rfl
  have c4:=hW4.at 4 rfl
  have c5:=hW4.at 5 rfl
  go_wp2
  go_ret
  exact⟨zf HR.out.symm,hF4⟩
 subst gk
 by_cases gd:d=0
 rotate_left
 ·have gb:(d==0)=false:=by rw[beq_eq_false_iff_ne];exact gd
  have HR:=hide (show res=false from HC.out.trans (decide_eq_false (by unfold MayE;omega)))
  clear HC
  go_enter Tryz.func24,Tryz.ntmps24
  have c0:=hW1.at 0 rfl
  go_wp2_with fail
  refine (FB _).mono ?_
  rintro e w4 ⟨rfl,hE4⟩
  have hW4:=hW1.ext hE4
  have hF4:=hE1.trans hE4
  clear FB c0 hE1 hE4 hW1
  have c0:=hW4.at 0 rfl
  have c1:=hW4.at 1 rfl
  have c2:=hW4.at 2 rfl
  have c3:=hW4.at 3 rfl
  have c4:=hW4.at 4 rfl
  have c5:=hW4.at 5 rfl
  go_wp2
  go_ret
  exact⟨zf HR.out.symm,hF4⟩
 subst gd
 by_cases gy:y=0
 rotate_left
 ·have gb:(y==0)=false:=by rw[beq_eq_false_iff_ne];exact gy
  have HR:=hide (show res=false from HC.out.trans (decide_eq_false (by unfold MayE;omega)))
  clear HC
  go_enter Tryz.func24,Tryz.ntmps24
  have c0:=hW1.at 0 rfl
  go_wp2_with fail
  refine (FB _).mono ?_
  rintro e w4 ⟨rfl,hE4⟩
  have hW4:=hW1.ext hE4
  have hF4:=hE1.trans hE4
  clear FB c0 hE1 hE4 hW1
  have c0:=hW4.at 0 rfl
  have c1:=hW4.at 1 rfl
  have c2:=hW4.at 2 rfl
  have c3:=hW4.at 3 rfl
  have c4:=hW4.at 4 rfl
  have c5:=hW4.at 5 rfl
  go_wp2
  go_ret
  exact⟨zf HR.out.symm,hF4⟩
 subst gy
 by_cases gc:c=0
 rotate_left
 ·have gb:(c==0)=false:=by rw[beq_eq_false_iff_ne];exact gc
  have HR:=hide (show res=false from HC.out.trans (decide_eq_false (by unfold MayE;omega)))
  clear HC
  go_enter Tryz.func24,Tryz.ntmps24
  have c0:=hW1.at 0 rfl
  go_wp2_with fail
  refine (FB _).mono ?_
  rintro e w4 ⟨rfl,hE4⟩
  have hW4:=hW1.ext hE4
  have hF4:=hE1.trans hE4
  clear FB c0 hE1 hE4 hW1
  have c0:=hW4.at 0 rfl
  have c1:=hW4.at 1 rfl
  have c2:=hW4.at 2 rfl
  have c3:=hW4.at 3 rfl
  have c4:=hW4.at 4 rfl
  have c5:=hW4.at 5 rfl
  go_wp2
  go_ret
  exact⟨zf HR.out.symm,hF4⟩
 subst gc
 have HR:=hide (show res=true from HC.out.trans (decide_eq_true (by unfold MayE;omega)))
 clear HC
 go_enter Tryz.func24,Tryz.ntmps24
 have c0:=hW1.at 0 rfl
 go_wp2_with fail
 refine (FB _).mono ?_
 rintro e w4 ⟨rfl,hE4⟩
 have hW4:=hW1.ext hE4
 have hF4:=hE1.trans hE4
 clear FB c0 hE1 hE4 hW1
 have c0:=hW4.at 0 rfl
 have c1:=hW4.at 1 rfl
 have c2:=hW4.at 2 rfl
 have c3:=hW4.at 3 rfl
 have c4:=hW4.at 4 rfl
 have c5:=hW4.at 5 rfl
 go_wp2
 go_ret
 exact⟨zf HR.out.symm,hF4⟩
set_option maxHeartbeats 4000000 in
set_option maxRecDepth 100000 in
theorem ad5 (b:Int)(p:Bool)(k d y c:Int)(w:World):Calls Tryz.prog 24 #[.int .i64 2,.agg (zJ b p k d y c)] w fun e w'=>e=.returned (.bool (decide (MayE 2 b k d y c)))∧Ext w w':=by
 unfold zJ
 have hE1:=zb w (.cells #[.int .i64 b,.bool p,.int .i64 k,.int .i64 d,.int .i64 y,.int .i64 c] 23)
 have hW1:=Whole.new w 23 #[.int .i64 b,.bool p,.int .i64 k,.int .i64 d,.int .i64 y,.int .i64 c]
 have FK:=fun W=>xJ 1 64 k W
 have FB:=fun W=>xJ 16 32768 b W
 obtain⟨res,hres⟩:∃ res,res=decide (MayE 2 b k d y c):=⟨_,rfl⟩
 rw[← hres]
 have HC:=hide hres
 clear hres
 by_cases gK:1≤k∧k≤64
 rotate_left
 ·rw[decide_eq_false gK]at FK
  have HR:=hide (show res=false from HC.out.trans (decide_eq_false (by unfold MayE;omega)))
  clear HC
  go_enter Tryz.func24,Tryz.ntmps24
  have c2:=hW1.at 2 rfl
  go_wp2_with fail
  refine (FK _).mono ?_
  rintro e w3 ⟨rfl,hE3⟩
  have hW3:=hW1.ext hE3
  have hF3:=hE1.trans hE3
  clear FK c2 hE1 hE3 hW1
  go_wp2
  go_ret
  exact⟨zf HR.out.symm,hF3⟩
 rw[decide_eq_true gK]at FK
 by_cases gB:16≤b∧b≤32768
 rotate_left
 ·rw[decide_eq_false gB]at FB
  have HR:=hide (show res=false from HC.out.trans (decide_eq_false (by unfold MayE;omega)))
  clear HC
  go_enter Tryz.func24,Tryz.ntmps24
  have c2:=hW1.at 2 rfl
  go_wp2_with fail
  refine (FK _).mono ?_
  rintro e w3 ⟨rfl,hE3⟩
  have hW3:=hW1.ext hE3
  have hF3:=hE1.trans hE3
  clear FK c2 hE1 hE3 hW1
  have c0:=hW3.at 0 rfl
  have c2:=hW3.at 2 rfl
  have z2:=hW3.frozen 2
  go_wp2_with fail
  refine (FB _).mono ?_
  rintro e w4 ⟨rfl,hE4⟩
  have hW4:Whole w4 w.heap.size 23 #[.int .i64 b,.bool p,.int .i64 0,.int .i64 d,.int .i64 y,.int .i64 c]:=(hW3.set 2 (.int .i64 0)).ext hE4
  have hF4:Ext w w4:=(hF3.setCell (Nat.le_refl _) (.int .i64 0)).trans hE4
  clear FB c0 c2 z2 hE4 hF3 hW3
  go_wp2
  go_ret
  exact⟨zf HR.out.symm,hF4⟩
 rw[decide_eq_true gB]at FB
 by_cases gd:d=0
 rotate_left
 ·have gb:(d==0)=false:=by rw[beq_eq_false_iff_ne];exact gd
  have HR:=hide (show res=false from HC.out.trans (decide_eq_false (by unfold MayE;omega)))
  clear HC
  go_enter Tryz.func24,Tryz.ntmps24
  have c2:=hW1.at 2 rfl
  go_wp2_with fail
  refine (FK _).mono ?_
  rintro e w3 ⟨rfl,hE3⟩
  have hW3:=hW1.ext hE3
  have hF3:=hE1.trans hE3
  clear FK c2 hE1 hE3 hW1
  have c0:=hW3.at 0 rfl
  have c2:=hW3.at 2 rfl
  have z2:=hW3.frozen 2
  go_wp2_with fail
  refine (FB _).mono ?_
  rintro e w4 ⟨rfl,hE4⟩
  have hW4:Whole w4 w.heap.size 23 #[.int .i64 b,.bool p,.int .i64 0,.int .i64 d,.int .i64 y,.int .i64 c]:=(hW3.set 2 (.int .i64 0)).ext hE4
  have hF4:Ext w w4:=(hF3.setCell (Nat.le_refl _) (.int .i64 0)).trans hE4
  clear FB c0 c2 z2 hE4 hF3 hW3
  have c0:=hW4.at 0 rfl
  have c1:=hW4.at 1 rfl
  have c2:=hW4.at 2 rfl
  have c3:=hW4.at 3 rfl
  have c4:=hW4.at 4 rfl
  have c5:=hW4.at 5 rfl
  go_wp2
  go_ret
  exact⟨zf HR.out.symm,hF4⟩
 subst gd
 by_cases gy:y=0
 rotate_left
 ·have gb:(y==0)=false:=by rw[beq_eq_false_iff_ne];exact gy
  have HR:=hide (show res=false from HC.out.trans (decide_eq_false (by unfold MayE;omega)))
  clear HC
  go_enter Tryz.func24,Tryz.ntmps24
  have c2:=hW1.at 2 rfl
  go_wp2_with fail
  refine (FK _).mono ?_
  rintro e w3 ⟨rfl,hE3⟩
  have hW3:=hW1.ext hE3
  have hF3:=hE1.trans hE3
  clear FK c2 hE1 hE3 hW1
  have c0:=hW3.at 0 rfl
  have c2:=hW3.at 2 rfl
  have z2:=hW3.frozen 2
  go_wp2_with fail
  refine (FB _).mono ?_
  rintro e w4 ⟨rfl,hE4⟩
  have hW4:Whole w4 w.heap.size 23 #[.int .i64 b,.bool p,.int .i64 0,.int .i64 0,.int .i64 y,.int .i64 c]:=(hW3.set 2 (.int .i64 0)).ext hE4
  have hF4:Ext w w4:=(hF3.setCell (Nat.le_refl _) (.int .i64 0)).trans hE4
  clear FB c0 c2 z2 hE4 hF3 hW3
  have c0:=hW4.at 0 rfl
  have c1:=hW4.at 1 rfl
  have c2:=hW4.at 2 rfl
  have c3:=hW4.at 3 rfl
  have c4:=hW4.at 4 rfl
  have c5:=hW4.at 5 rfl
  go_wp2
  go_ret
  exact⟨zf HR.out.symm,hF4⟩
 subst gy
 by_cases gc:c=0
 rotate_left
 ·have gb:(c==0)=false:=by rw[beq_eq_false_iff_ne];exact gc
  have HR:=hide (show res=false from HC.out.trans (decide_eq_false (by unfold MayE;omega)))
  clear HC
  go_enter Tryz.func24,Tryz.ntmps24
  have c2:=hW1.at 2 rfl
  go_wp2_with fail
  refine (FK _).mono ?_
  rintro e w3 ⟨rfl,hE3⟩
  have hW3:=hW1.ext hE3
  have hF3:=hE1.trans hE3
  clear FK c2 hE1 hE3 hW1
  have c0:=hW3.at 0 rfl
  have c2:=hW3.at 2 rfl
  have z2:=hW3.frozen 2
  go_wp2_with fail
  refine (FB _).mono ?_
  rintro e w4 ⟨rfl,hE4⟩
  have hW4:Whole w4 w.heap.size 23 #[.int .i64 b,.bool p,.int .i64 0,.int .i64 0,.int .i64 0,.int .i64 c]:=(hW3.set 2 (.int .i64 0)).ext hE4
  have hF4:Ext w w4:=(hF3.setCell (Nat.le_refl _) (.int .i64 0)).trans hE4
  clear FB c0 c2 z2 hE4 hF3 hW3
  have c0:=hW4.at 0 rfl
  have c1:=hW4.at 1 rfl
  have c2:=hW4.at 2 rfl
  have c3:=hW4.at 3 rfl
  have c4:=hW4.at 4 rfl
  have c5:=hW4.at 5 rfl
  go_wp2
  go_ret
  exact⟨zf HR.out.symm,hF4⟩
 subst gc
 have HR:=hide (show res=true from HC.out.trans (decide_eq_true (by unfold MayE;omega)))
 clear HC
 go_enter Tryz.func24,Tryz.ntmps24
 have c2:=hW1.at 2 rfl
 go_wp2_with fail
 refine (FK _).mono ?_
 rintro e w3 ⟨rfl,hE3⟩
 have hW3:=hW1.ext hE3
 have hF3:=hE1.trans hE3
 clear FK c2 hE1 hE3 hW1
 have c0:=hW3.at 0 rfl
 have c2:=hW3.at 2 rfl
 have z2:=hW3.frozen 2
 go_wp2_with fail
 refine (FB _).mono ?_
 rintro e w4 ⟨rfl,hE4⟩
 have hW4:Whole w4 w.heap.size 23 #[.int .i64 b,.bool p,.int .i64 0,.int .i64 0,.int .i64 0,.int .i64 0]:=(hW3.set 2 (.int .i64 0)).ext hE4
 have hF4:Ext w w4:=(hF3.setCell (Nat.le_refl _) (.int .i64 0)).trans hE4
 clear FB c0 c2 z2 hE4 hF3 hW3
 have c0:=hW4.at 0 rfl
 have c1:=hW4.at 1 rfl
 have c2:=hW4.at 2 rfl
 have c3:=hW4.at 3 rfl
 have c4:=hW4.at 4 rfl
 have c5:=hW4.at 5 rfl
 go_wp2
 go_ret
 exact⟨zf HR.out.symm,hF4⟩
set_option maxHeartbeats 4000000 in
set_option maxRecDepth 100000 in
theorem ad6 (b:Int)(p:Bool)(k d y c:Int)(hy:y≤9223372036854775807)(w:World):Calls Tryz.prog 24 #[.int .i64 3,.agg (zJ b p k d y c)] w fun e w'=>e=.returned (.bool (decide (MayE 3 b k d y c)))∧Ext w w':=by
 have FS:=fun W=>JF b p k d y c hy W
 unfold zJ at FS ⊢
 have hE1:=zb w (.cells #[.int .i64 b,.bool p,.int .i64 k,.int .i64 d,.int .i64 y,.int .i64 c] 23)
 have hW1:=Whole.new w 23 #[.int .i64 b,.bool p,.int .i64 k,.int .i64 d,.int .i64 y,.int .i64 c]
 have FK:=fun W=>xJ 1 64 k W
 have FB:=fun W=>xJ 16 32768 b W
 obtain⟨res,hres⟩:∃ res,res=decide (MayE 3 b k d y c):=⟨_,rfl⟩
 rw[← hres]
 have HC:=hide hres
 clear hres hy
 by_cases gS:uu d y c
 rotate_left
 ·rw[decide_eq_false gS]at FS
  unfold uu at gS
  have HR:=hide (show res=false from HC.out.trans (decide_eq_false (by unfold MayE;omega)))
  clear HC
  go_enter Tryz.func24,Tryz.ntmps24
  go_wp2_with (refine wpList_load_row rfl 23 (.tmp 3) rfl _ rfl _ _ _ _ hW1 Tryz.underlying23 rfl vU ?_)
  refine (FS _).mono ?_
  rintro e w2 ⟨rfl,hE2⟩
  have hW2:=hW1.ext hE2
  have hF2:=hE1.trans hE2
  clear FS
  go_wp2
  go_ret
  exact⟨zf HR.out.symm,hF2⟩
 rw[decide_eq_true gS]at FS
 unfold uu at gS
 by_cases gK:1≤k∧k≤64
 rotate_left
 ·rw[decide_eq_false gK]at FK
  have HR:=hide (show res=false from HC.out.trans (decide_eq_false (by unfold MayE;omega)))
  clear HC
  go_enter Tryz.func24,Tryz.ntmps24
  go_wp2_with (refine wpList_load_row rfl 23 (.tmp 3) rfl _ rfl _ _ _ _ hW1 Tryz.underlying23 rfl vU ?_)
  refine (FS _).mono ?_
  rintro e w2 ⟨rfl,hE2⟩
  have hW2:=hW1.ext hE2
  have hF2:=hE1.trans hE2
  clear FS
  have c2:=hW2.at 2 rfl
  have c3:=hW2.at 3 rfl
  have c4:=hW2.at 4 rfl
  have c5:=hW2.at 5 rfl
  have z3:=hW2.frozen 3
  have z4:=hW2.frozen 4
  have z5:=hW2.frozen 5
  go_wp2_with fail
  refine (FK _).mono ?_
  rintro e w3 ⟨rfl,hE3⟩
  have hW3:Whole w3 w.heap.size 23 #[.int .i64 b,.bool p,.int .i64 k,.int .i64 0,.int .i64 0,.int .i64 0]:=(((hW2.set 3 (.int .i64 0)).set 4 (.int .i64 0)).set 5 (.int .i64 0)).ext hE3
  have hF3:Ext w w3:=(((hF2.setCell (Nat.le_refl _) (.int .i64 0)).setCell (Nat.le_refl _) (.int .i64 0)).setCell (Nat.le_refl _) (.int .i64 0)).trans hE3
  clear FK c2 c3 c4 c5 z3 z4 z5 hE1 hE2 hE3 hW1 hW2 hF2
  go_wp2
  go_ret
  exact⟨zf HR.out.symm,hF3⟩
 rw[decide_eq_true gK]at FK
 by_cases gB:16≤b∧b≤32768
 rotate_left
 ·rw[decide_eq_false gB]at FB
  have HR:=hide (show res=false from HC.out.trans (decide_eq_false (by unfold MayE;omega)))
  clear HC
  go_enter Tryz.func24,Tryz.ntmps24
  go_wp2_with (refine wpList_load_row rfl 23 (.tmp 3) rfl _ rfl _ _ _ _ hW1 Tryz.underlying23 rfl vU ?_)
  refine (FS _).mono ?_
  rintro e w2 ⟨rfl,hE2⟩
  have hW2:=hW1.ext hE2
  have hF2:=hE1.trans hE2
  clear FS
  have c2:=hW2.at 2 rfl
  have c3:=hW2.at 3 rfl
  have c4:=hW2.at 4 rfl
  have c5:=hW2.at 5 rfl
  have z3:=hW2.frozen 3
  have z4:=hW2.frozen 4
  have z5:=hW2.frozen 5
  go_wp2_with fail
  refine (FK _).mono ?_
  rintro e w3 ⟨rfl,hE3⟩
  have hW3:Whole w3 w.heap.size 23 #[.int .i64 b,.bool p,.int .i64 k,.int .i64 0,.int .i64 0,.int .i64 0]:=(((hW2.set 3 (.int .i64 0)).set 4 (.int .i64 0)).set 5 (.int .i64 0)).ext hE3
  have hF3:Ext w w3:=(((hF2.setCell (Nat.le_refl _) (.int .i64 0)).setCell (Nat.le_refl _) (.int .i64 0)).setCell (Nat.le_refl _) (.int .i64 0)).trans hE3
  clear FK c2 c3 c4 c5 z3 z4 z5 hE1 hE2 hE3 hW1 hW2 hF2
  have c0:=hW3.at 0 rfl
  have c2:=hW3.at 2 rfl
  have z2:=hW3.frozen 2
  go_wp2_with fail
  refine (FB _).mono ?_
  rintro e w4 ⟨rfl,hE4⟩
  have hW4:Whole w4 w.heap.size 23 #[.int .i64 b,.bool p,.int .i64 0,.int .i64 0,.int .i64 0,.int .i64 0]:=(hW3.set 2 (.int .i64 0)).ext hE4
  have hF4:Ext w w4:=(hF3.setCell (Nat.le_refl _) (.int .i64 0)).trans hE4
  clear FB c0 c2 z2 hE4 hF3 hW3
  go_wp2
  go_ret
  exact⟨zf HR.out.symm,hF4⟩
 rw[decide_eq_true gB]at FB
 have HR:=hide (show res=true from HC.out.trans (decide_eq_true (by unfold MayE;omega)))
 clear HC
 go_enter Tryz.func24,Tryz.ntmps24
 go_wp2_with (refine wpList_load_row rfl 23 (.tmp 3) rfl _ rfl _ _ _ _ hW1 Tryz.underlying23 rfl vU ?_)
 refine (FS _).mono ?_
 rintro e w2 ⟨rfl,hE2⟩
 have hW2:=hW1.ext hE2
 have hF2:=hE1.trans hE2
 clear FS
 have c2:=hW2.at 2 rfl
 have c3:=hW2.at 3 rfl
 have c4:=hW2.at 4 rfl
 have c5:=hW2.at 5 rfl
 have z3:=hW2.frozen 3
 have z4:=hW2.frozen 4
 have z5:=hW2.frozen 5
 go_wp2_with fail
 refine (FK _).mono ?_
 rintro e w3 ⟨rfl,hE3⟩
 have hW3:Whole w3 w.heap.size 23 #[.int .i64 b,.bool p,.int .i64 k,.int .i64 0,.int .i64 0,.int .i64 0]:=(((hW2.set 3 (.int .i64 0)).set 4 (.int .i64 0)).set 5 (.int .i64 0)).ext hE3
 have hF3:Ext w w3:=(((hF2.setCell (Nat.le_refl _) (.int .i64 0)).setCell (Nat.le_refl _) (.int .i64 0)).setCell (Nat.le_refl _) (.int .i64 0)).trans hE3
 clear FK c2 c3 c4 c5 z3 z4 z5 hE1 hE2 hE3 hW1 hW2 hF2
 have c0:=hW3.at 0 rfl
 have c2:=hW3.at 2 rfl
 have z2:=hW3.frozen 2
 go_wp2_with fail
 refine (FB _).mono ?_
 rintro e w4 ⟨rfl,hE4⟩
 have hW4:Whole w4 w.heap.size 23 #[.int .i64 b,.bool p,.int .i64 0,.int .i64 0,.int .i64 0,.int .i64 0]:=(hW3.set 2 (.int .i64 0)).ext hE4
 have hF4:Ext w w4:=(hF3.setCell (Nat.le_refl _) (.int .i64 0)).trans hE4
 clear FB c0 c2 z2 hE4 hF3 hW3
 have c0:=hW4.at 0 rfl
 have c1:=hW4.at 1 rfl
 have c2:=hW4.at 2 rfl
 have c3:=hW4.at 3 rfl
 have c4:=hW4.at 4 rfl
 have c5:=hW4.at 5 rfl
 go_wp2
 go_ret
 exact⟨zf HR.out.symm,hF4⟩
theorem acQ (v b:Int)(p:Bool)(k d y c:Int)(h1:1≤v)(h3:v≤3)(hy:y≤9223372036854775807)(w:World):Calls Tryz.prog 24 #[.int .i64 v,.agg (zJ b p k d y c)] w fun e w'=>e=.returned (.bool (decide (MayE v b k d y c)))∧Ext w w':=by
 rcases (show v=1∨v=2∨v=3 by omega) with rfl|rfl|rfl
 ·exact ad4 b p k d y c w
 ·exact ad5 b p k d y c w
 ·exact ad6 b p k d y c hy w
set_option maxHeartbeats 2000000 in
set_option maxRecDepth 100000 in
theorem Xa (v b:Int)(p:Bool)(k d y c:Int)(hy:y≤9223372036854775807)(w:World):Calls Tryz.prog 13 #[.int .i64 v,.agg (zJ b p k d y c)] w fun e w'=>e=.returned (.int .i64 (chk v b k d y c))∧Ext w w':=by
 have hE1:=zb w (.cells (zJ b p k d y c) 23)
 have hW1:=Whole.new w 23 (zJ b p k d y c)
 have FT:=fun W=>Y9 v W
 have FM:=fun h1 h3 W=>acQ v b p k d y c h1 h3 hy W
 obtain⟨res,hres⟩:∃ res,res=chk v b k d y c:=⟨_,rfl⟩
 rw[← hres]
 have HC:=hide hres
 clear hres hy
 unfold zJ at *
 by_cases gT:1≤v∧v≤3
 ·rw[decide_eq_true gT]at FT
  have FM':=FM gT.1 gT.2
  clear FM
  by_cases gM:MayE v b k d y c
  ·have HR:=hide (show res=0 from HC.out.trans (aaI gT.1 gT.2 gM))
   rw[decide_eq_true gM]at FM'
   clear HC gT gM
   go_enter Tryz.func13,Tryz.ntmps13
   go_wp2_with fail
   refine (FT _).mono ?_
   rintro e w2 ⟨rfl,hE2⟩
   have hW2:=hW1.ext hE2
   go_wp2_with (refine wpList_load_row rfl 23 (.tmp 3) rfl _ rfl _ _ _ _ hW2 Tryz.underlying23 rfl vU ?_)
   refine (FM' _).mono ?_
   rintro e w3 ⟨rfl,hE3⟩
   go_wp2
   go_ret
   exact⟨zi HR.out.symm,(hE1.trans hE2).trans hE3⟩
  ·have HR:=hide (show res=9 from HC.out.trans (yT gT.1 gT.2 gM))
   rw[decide_eq_false gM]at FM'
   clear HC gT gM
   go_enter Tryz.func13,Tryz.ntmps13
   go_wp2_with fail
   refine (FT _).mono ?_
   rintro e w2 ⟨rfl,hE2⟩
   have hW2:=hW1.ext hE2
   go_wp2_with (refine wpList_load_row rfl 23 (.tmp 3) rfl _ rfl _ _ _ _ hW2 Tryz.underlying23 rfl vU ?_)
   refine (FM' _).mono ?_
   rintro e w3 ⟨rfl,hE3⟩
   go_wp2
   go_ret
   exact⟨zi HR.out.symm,(hE1.trans hE2).trans hE3⟩
 ·have HR:=hide (show res=4 from HC.out.trans (acH gT))
  rw[decide_eq_false gT]at FT
  clear HC gT FM
  go_enter Tryz.func13,Tryz.ntmps13
  go_wp2_with fail
  refine (FT _).mono ?_
  rintro e w2 ⟨rfl,hE2⟩
  go_wp2
  go_ret
  exact⟨zi HR.out.symm,hE1.trans hE2⟩
end Go.Proofs.YtpmedpdjglcdpaaGreatDoor
