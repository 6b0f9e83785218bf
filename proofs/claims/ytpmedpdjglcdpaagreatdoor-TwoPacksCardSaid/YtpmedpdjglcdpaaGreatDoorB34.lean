/- Contract of the program's merged: leaves and packages in one row. -/
import Derived.Test.YtpmedpdjglcdpaaGreatDoorB18
import Derived.Test.YtpmedpdjglcdpaaGreatDoorB31
import Derived.Deep.QuietTactic
import Derived.BigQuiet
namespace Go.Proofs.YtpmedpdjglcdpaaGreatDoor
section
open Go.RowKit Len
theorem ada {x y:PI}(hx:x.2<300)(hy:y.2=300):(uG x y<0)↔x.1≤y.1:=by
 unfold uG orN
 have h1:xt (x.1:Int) (y.1:Int)=if x.1<y.1 then -1 else if y.1<x.1 then 1 else 0:=by unfold xt;simp only[Int.ofNat_lt]
 have h2:xt (x.2:Int) (y.2:Int)=-1:=by unfold xt;rw[if_pos (by omega)]
 rw[h1,h2]
 split<;>(repeat' split)<;>(try split at *)<;>simp_all<;>omega
theorem abO {R ls ps qs:List PI}{x y:PI}(hxy:x.1≤y.1)(h:R++yd (x::ls) (y::ps)=qs):(R++[x])++yd ls (y::ps)=qs:=by
 rw[← h,xP,if_pos hxy]
 simp
theorem XE {R ls ps qs:List PI}{y:PI}(hx:∀ x,ls.head?=some x→¬ x.1≤y.1)(h:R++yd ls (y::ps)=qs):(R++[y])++yd ls ps=qs:=by
 rw[← h]
 cases ls with
 | nil=>rw[vo,vo];simp
 | cons x ls=>rw[xP,if_neg (hx x rfl)];simp
theorem jJ {L:List PI}{d:Nat}(h:d<L.length):L.drop d=L.getD d (0,0)::L.drop (d+1):=by
 rw[List.drop_eq_getElem_cons h]
 congr 1
 simp[List.getD_eq_getElem?_getD,h]
theorem Vb {ops:Array Oper}{rest:List Oper}{o:Oper}{a:Act}{Q:Exit→Act→World→Prop}{w:World}(hgd:o.guard=none)(c:Operand)(ho:o.op=.makeSlice 234 (.const (.int .i64 0)) c){m:Nat}{C:Int}(hc:a.eval c=.int .i64 C)(hC:C=(m:Int))(hm:m≤1000)
  (h:∀ w',OwnPI w' w.heap.size (.slice (some ⟨w.heap.size,0,none⟩) 0 m) []→Ext w w'→wpList Tryz.prog ops Q rest (a.put o.dst (.slice (some ⟨w.heap.size,0,none⟩) 0 m)) w'):wpList Tryz.prog ops Q (o::rest) a w:=by
 obtain⟨i,hi,hz,hsz,hby⟩:=info_parts ux
 exact wpList_make_own w hgd (.const (.int .i64 0)) c 234 ho w.heap.size 230 i _ 2 Tryz.underlying234 hi hz hsz .i64 .i64 C m rfl hc hC (by rw[hby];omega) (by unfold maxLen;omega) (Nat.le_refl _) fun w' h1 h2=>h w' h1 (Below.grown (Ext.refl w) h2 (Nat.le_refl _) fun k hk=>by cases hk)
def UU:Value→Nat
 | .slice _ n _=>n
 | _=>0
def aeb (w:World)(v:Value)(n:Nat)(L:List PI):Prop:=∃ A c,v=.slice A n c∧n≤c∧c≤maxLen∧PIAt w w.heap.size A n L
set_option maxHeartbeats 4000000 in
set_option maxRecDepth 100000 in
theorem aaf {ls ps:List PI}{A1 A2:Option Addr}{n1 n2 c1 c2:Nat}{w:World}(hn1:n1≤300)(hn2:n2≤300)(hc1:n1≤c1)(hm1:c1≤maxLen)(h1:PIAt w w.heap.size A1 n1 ls)(h2:PIAt w w.heap.size A2 n2 ps)
  (hl:∀ i,i<n1→(ls.getD i (0,0)).2<300) (hp:∀ i,i<n2→(ps.getD i (0,0)).2=300) :
  Calls Tryz.prog 209 #[.slice A1 n1 c1,.slice A2 n2 c2,.func (.func 187) #[] #[]] w fun e w'=>∃ v,e=.returned v∧OwnPI w' w.heap.size v (yd ls ps)∧Ext w w':=by
 have HLs:=hide hl
 have HPs:=hide hp
 have HQl:=hide (um ls ps)
 have HQ0:=hide (show []++yd (ls.drop 0) (ps.drop 0)=yd ls ps from rfl)
 have HP:=hide h2
 obtain⟨hln1,h1c⟩:=h1
 obtain⟨hln2,h2c⟩:=h2
 have HL0:=hide (show aeb w (.slice A1 n1 c1) n1 (ls.drop 0) from ⟨A1,c1,rfl,hc1,hm1,by rw[List.drop_zero];exact⟨hln1,h1c⟩⟩)
 have HN1:=hide hln1
 have HN2:=hide hln2
 generalize hqs:yd ls ps=qs at *
 clear hqs hl hp h1c h2c hln1 hln2
 unfold maxLen at hm1
 go_enter Tryz.func209,Tryz.ntmps209
 go_wp2_with (refine Vb (m:=n1+n2) rfl (.tmp 14) rfl rfl (by omega) (by omega) ?_;intro w1 hR1 hE1)
 go_loopw [0,7,18] (fun a r i wr=>∃ (d m k:Nat) (R:List PI),d+m=n1∧k≤n2∧i=.int .i64 (k:Int)∧aeb w a m (ls.drop d)∧OwnPI wr w.heap.size r R∧R++yd (ls.drop d) (ps.drop k)=qs∧Ext w wr) (fun _ _ i _=>n2-(intOf i).toNat)
 case atStart=>exact⟨0,n1,0,[],by omega,by omega,rfl,HL0.out,hR1,HQ0.out,hE1⟩
 case round =>
  obtain⟨d,m,k,R,hd,hk,rfl,hLv,hO,hq,hE⟩:=hrel
  have HD:=hide hd
  clear hd
  by_cases hkn:k<n2
  ·have HPk:=hide (show (ps.getD k (0,0)).2=300 from HPs.out k hkn)
   have hpk:=jJ (L:=ps) (d:=k) (by rw[HN2.out];exact hkn)
   have hcell:∃ b o,A2=some ⟨b,o,none⟩∧wr.cell? ⟨b,o+k*2,none⟩=some (.int .u64 ((ps.getD k (0,0)).1:Int))∧wr.cell? ⟨b,o+k*2+1,none⟩=some (.int .i64 ((ps.getD k (0,0)).2:Int)):=by
    rcases (HP.out.ext hE).2 with h0 | ⟨b,o,e,_,hc⟩
    ·omega
    ·exact⟨b,o,e,hc k hkn⟩
   obtain⟨b2,o2,rfl,j1,j2⟩:=hcell
   generalize ps.getD k (0,0)=p at *
   rw[hpk]at hq
   have HQ:=hide hq
   clear hq hpk
   obtain⟨x,y⟩:=p
   dsimp only at j1 j2
   obtain⟨wa,rfl⟩:∃ W,W=wr:=⟨_,rfl⟩
   go_wp2_with fail
   have hWb:=Whole.new wa 230 #[.int .u64 (x:Int),.int .i64 (y:Int)]
   have hEb:=zb wa (.cells #[.int .u64 (x:Int),.int .i64 (y:Int)] 230)
   have hnb:u7.ownBlock≠some wa.heap.size:=fun h=>absurd (hO.lt _ h).2 (by omega)
   have hO2:=hO.ext hEb
   have hEw2:=hE.trans hEb
   generalize hw2:wa.alloc (.cells #[.int .u64 (x:Int),.int .i64 (y:Int)] 230)=w2 at *
   have hbx2:wa.heap.size<w2.heap.size:=hWb.lt
   have hbxw:=hE.le
   generalize wa.heap.size=bx at *
   clear hw2 j1 j2 hO
   go_loopw [0,7] (fun a r wq=>∃ (d m:Nat) (R:List PI),d+m=n1∧aeb w a m (ls.drop d)∧OwnPI wq w.heap.size r R∧r.ownBlock≠some bx∧Whole wq bx 230 #[.int .u64 (x:Int),.int .i64 (y:Int)]∧R++yd (ls.drop d) ((x,y)::ps.drop (k+1))=qs∧Ext w wq) (fun a _ _=>UU a)
   case atStart=>exact⟨d,m,R,HD.out,hLv,hO2,hnb,hWb,HQ.out,hEw2⟩
   case round =>
    clear HD HQ hLv hO2 hnb hWb hEw2
    obtain⟨d,m,R,hd,hLv,hO,hnb,hWb,hq,hEw⟩:=hrel
    obtain⟨A,c,rfl,hmc,hcm,hPA⟩:=hLv
    unfold maxLen at hcm
    have HPA:=hide hPA
    have HNB:=hide hnb
    have HWb:=hide hWb
    clear hnb hWb
    have hRl:R.length≤100000:=by
     have h1:=congrArg List.length hq
     rw[List.length_append,HQl.out,HN1.out,HN2.out]at h1
     omega
    have hbw:=hEw.le
    by_cases hm0:m=0
    ·subst hm0
     have hne:ls.drop d=[]:=List.drop_eq_nil_of_le (by rw[HN1.out];omega)
     have hq2:=XE (by rw[hne];intro x hx;cases hx) hq
     have HQ:=hide hq2
     have HD:=hide hd
     clear hq hne hd hPA
     have c9:=HWb.out.at 0 (u:=.int .u64 (x:Int)) rfl
     have c10:=HWb.out.at 1 (u:=.int .i64 (y:Int)) rfl
     obtain⟨wb,rfl⟩:∃ W,W=wr:=⟨_,rfl⟩
     go_wp2_with fail
     go_quiet (fail)
     have hEq:Ext wb (wb.drewN nq):=(Ext.refl wb).drewN nq
     generalize wb.drewN nq=w3 at hEq ⊢
     have c3:=(HWb.out.ext hEq).at 0 (u:=.int .u64 (x:Int)) rfl
     have c4:=(HWb.out.ext hEq).at 1 (u:=.int .i64 (y:Int)) rfl
     have hO3:=hO.ext hEq
     have hX0:=hEq
     have HX:=hide hX0
     have hEa:=zb w3 (.cells #[.int .u64 (x:Int),.int .i64 (y:Int)] 230)
     have hOa:=hO3.ext hEa
     have hone:=PIAt.one w3 (x,y)
     have hbb:=Nat.le_trans hbw (hX0.trans hEa).le
     clear hX0
     go_wp2_with (at_builtin;refine xA rfl (.tmp 42) (.tmp 44) rfl rfl hOa rfl hone hRl (by omega) hbb ?_;intro v5 w5 hO5 hG5 _)
     have hE5:Ext w w5:=Below.grown (hEw.trans (HX.out.trans hEa)) hG5 (hEw.trans (HX.out.trans hEa)).le (fun k hk=>(hO.lt k hk).1)
     go_roundw
     case rel=>exact⟨d,0,k+1,R++[(x,y)],HD.out,by omega,by go_num,⟨_,c,rfl,hmc,by unfold maxLen;omega,HPA.out⟩,hO5,HQ.out,hE5⟩
     case measure=>simp[intOf];omega
    ·have hl:=jJ (L:=ls) (d:=d) (by rw[HN1.out];omega)
     have hl300:(ls.getD d (0,0)).2<300:=HLs.out d (by omega)
     have hcell:∃ b o,A=some ⟨b,o,none⟩∧b<w.heap.size∧w.cell? ⟨b,o,none⟩=some (.int .u64 ((ls.getD d (0,0)).1:Int))∧w.cell? ⟨b,o+1,none⟩=some (.int .i64 ((ls.getD d (0,0)).2:Int)):=by
      rcases hPA.2 with h0 | ⟨b,o,e,hb,hc⟩
      ·omega
      ·have:=hc 0 (by omega)
       rw[hl]at this
       exact⟨b,o,e,hb,this.1,this.2⟩
     generalize ls.getD d (0,0)=l at *
     obtain⟨p,q⟩:=l
     obtain⟨b,o,rfl,hb,i0,i1⟩:=hcell
     dsimp only at i0 i1 hl300
     have hCl:∀ W,Ext wr W→W.cell? ⟨b,o,none⟩=some (.int .u64 (p:Int))∧W.cell? ⟨b,o+1,none⟩=some (.int .i64 (q:Int)):=fun W hW=>⟨((hEw.trans hW).cell hb).trans i0,((hEw.trans hW).cell hb).trans i1⟩
     have HC:=hide hCl
     have HBb:=hide (fun W (hW:Ext wr W)=>And.intro ((HWb.out.ext hW).at 0 (u:=.int .u64 (x:Int)) rfl) ((HWb.out.ext hW).at 1 (u:=.int .i64 (y:Int)) rfl))
     have hcmp:=ada (x:=(p,q)) (y:=(x,y)) hl300 HPk.out
     have CO:=VU (p,q) (x,y)
     dsimp only at CO
     generalize uG (p,q) (x,y)=cv at *
     have hm1I:(0:Int)<(m:Int):=by omega
     have hmd:decide ((0:Int)<(m:Int))=true:=decide_eq_true hm1I
     have hmN:decide (0<m)=true:=decide_eq_true (by omega)
     have hPD:=hPA.drop (k:=1) (by omega) hmc
     rw[List.drop_drop]at hPD
     have hRC:=fun W=>JP W (some ⟨b,o,none⟩) m c .i64 1 (by omega) (by omega)
     rw[show (1:Int).toNat=1 from rfl]at hRC
     generalize zQ (some ⟨b,o,none⟩) (c*2) (1*2)=A3 at hPD hRC
     have HL:=hide hl
     rw[hl]at hq
     have HQ:=hide hq
     have HD:=hide hd
     have HPD:=hide hPD
     have HRC:=hide hRC
     have HCO:=hide CO
     clear hq hl hd hPA hCl i0 i1 hPD hRC CO
     obtain⟨wb,rfl⟩:∃ W,W=wr:=⟨_,rfl⟩
     by_cases hle:p≤x
     ·have hneg:cv<0:=hcmp.2 hle
      have HLe:=hide hle
      clear hcmp hle
      have hcd:decide (cv<0)=true:=decide_eq_true hneg
      go_wp2_with fail
      refine zq (fun W=>Ext wb W) 11 12 #[false,false,false,false,false,false,false,false,false,false,false,false] (by kernel_rfl) rfl rfl (Ext.refl wb).drew ?_
      intro hS0
      refine za 0 (some 22) (.slice (some ⟨b,o,none⟩) m c) _ rfl rfl rfl (by kernel_rfl) (fun _ _ _ h=>h) hS0 (by rfl) (fun W hX=>by go_simp) ?_
      simp only[sP]
      refine za 1 (some 23) (.int .i64 (m:Int)) _ rfl rfl rfl (by kernel_rfl) (fun _ _ _ h=>h) hS0 (by rfl) (fun W hX=>by go_simp) ?_
      simp only[sP]
      refine za 2 (some 24) (.bool true) _ rfl rfl rfl (by kernel_rfl) (fun _ _ _ h=>h) hS0 (by rfl) (fun W hX=>by go_simp) ?_
      simp only[sP]
      refine za 3 (some 25) (.bool true) _ rfl rfl rfl (by kernel_rfl) (fun _ _ _ h=>h) hS0 (by rfl) (fun W hX=>by go_simp) ?_
      simp only[sP]
      refine za 4 (some 26) (.func (.func 187) #[] #[]) _ rfl rfl rfl (by kernel_rfl) (fun _ _ _ h=>h) hS0 (by rfl) (fun W hX=>by go_simp) ?_
      simp only[sP]
      refine za 5 (some 27) (.slice (some ⟨b,o,none⟩) m c) _ rfl rfl rfl (by kernel_rfl) (fun _ _ _ h=>h) hS0 (by rfl) (fun W hX=>by go_simp) ?_
      simp only[sP]
      refine za 6 (some 28) (.pointer (some ⟨b,o,none⟩)) _ rfl rfl rfl (by kernel_rfl) (fun _ _ _ h=>h) hS0 (by rfl) (fun W hX=>by go_simp) ?_
      simp only[sP]
      refine za 7 (some 29) (.agg #[.int .u64 (p:Int),.int .i64 (q:Int)]) _ rfl rfl rfl (by kernel_rfl) (fun _ _ _ h=>h) hS0 (by rfl) (fun W hX=>by obtain⟨f0,f1⟩:=HC.out W hX;go_simp) ?_
      simp only[sP]
      refine za 8 (some 30) (.agg #[.int .u64 (x:Int),.int .i64 (y:Int)]) _ rfl rfl rfl (by kernel_rfl) (fun _ _ _ h=>h) hS0 (by rfl) (fun W hX=>by obtain⟨f0,f1⟩:=HBb.out W hX;go_simp) ?_
      simp only[sP]
      refine zc 9 _ (by kernel_rfl) rfl rfl (by rfl) (fun K0 hK0=>?_)
      go_simp
      go_at_call 187
      refine (HCO.out _).mono ?_
      rintro e wc0 ⟨rfl,hC0⟩
      have hX0:=hS0.trans hC0.ext
      refine hK0 _ _ (fun _=>hX0) ?_
      clear hK0 K0 hC0
      refine za 10 (some 32) (.bool true) _ rfl rfl rfl (by kernel_rfl) (fun _ _ _ h=>h) hX0 (by rfl) (fun W hX=>by go_simp) ?_
      simp only[sP]
      refine zc 11 _ (by kernel_rfl) rfl rfl (by rfl) (fun K1 hK1=>?_)
      go_simp
      refine hK1 _ _ (fun h=>absurd h (by decide)) (zj (by kernel_rfl) ?_ _)
      clear hK1 K1
      have hO3:=hO.ext hX0
      have HX:=hide hX0
      obtain⟨c3,c4⟩:=HC.out _ hX0
      have hRC:=HRC.out
      have hEa:=zb wc0 (.cells #[.int .u64 (p:Int),.int .i64 (q:Int)] 230)
      have hOa:=hO3.ext hEa
      have hone:=PIAt.one wc0 (p,q)
      have hbb:=Nat.le_trans hbw (hX0.trans hEa).le
      go_wp2_with (at_builtin;refine xA rfl (.tmp 34) (.tmp 38) rfl rfl hOa rfl hone hRl (by omega) hbb ?_;intro v5 w5 hO5 hG5 hn5)
      have hE5:Ext w w5:=Below.grown (hEw.trans (HX.out.trans hEa)) hG5 (hEw.trans (HX.out.trans hEa)).le (fun k hk=>(hO.lt k hk).1)
      have hW5:=((HWb.out.ext HX.out).ext hEa).ownGrown hG5 HNB.out
      have hbl:=HWb.out.lt
      have hnb5:v5.ownBlock≠some bx:=by
       rcases hn5 with e|e
       ·rw[e];exact HNB.out
       ·rw[e]
        intro e2
        have e3:(wc0.alloc (.cells #[.int .u64 (p:Int),.int .i64 (q:Int)] 230)).heap.size=bx:=by simpa using e2
        have e4:=(HX.out.trans hEa).le
        omega
      go_roundw
      case rel=>exact⟨d+1,m-1,R++[(p,q)],by have:=HD.out;omega,⟨A3,c-1,rfl,by omega,by unfold maxLen;omega,HPD.out⟩,hO5,hnb5,hW5,abO HLe.out HQ.out,hE5⟩
      case measure=>simp[UU];omega
     ·have hneg:¬ cv<0:=fun h=>hle (hcmp.1 h)
      have HLe:=hide hle
      clear hcmp hle
      have hcd:decide (cv<0)=false:=decide_eq_false hneg
      have hq2:=XE (ls:=(p,q)::ls.drop (d+1)) (y:=(x,y)) (by intro z hz;cases hz;exact HLe.out) HQ.out
      have HQ2:=hide hq2
      clear hq2
      go_wp2_with fail
      refine zq (fun W=>Ext wb W) 11 12 #[false,false,false,false,false,false,false,false,false,false,false,false] (by kernel_rfl) rfl rfl (Ext.refl wb).drew ?_
      intro hS0
      refine za 0 (some 22) (.slice (some ⟨b,o,none⟩) m c) _ rfl rfl rfl (by kernel_rfl) (fun _ _ _ h=>h) hS0 (by rfl) (fun W hX=>by go_simp) ?_
      simp only[sP]
      refine za 1 (some 23) (.int .i64 (m:Int)) _ rfl rfl rfl (by kernel_rfl) (fun _ _ _ h=>h) hS0 (by rfl) (fun W hX=>by go_simp) ?_
      simp only[sP]
      refine za 2 (some 24) (.bool true) _ rfl rfl rfl (by kernel_rfl) (fun _ _ _ h=>h) hS0 (by rfl) (fun W hX=>by go_simp) ?_
      simp only[sP]
      refine za 3 (some 25) (.bool true) _ rfl rfl rfl (by kernel_rfl) (fun _ _ _ h=>h) hS0 (by rfl) (fun W hX=>by go_simp) ?_
      simp only[sP]
      refine za 4 (some 26) (.func (.func 187) #[] #[]) _ rfl rfl rfl (by kernel_rfl) (fun _ _ _ h=>h) hS0 (by rfl) (fun W hX=>by go_simp) ?_
      simp only[sP]
      refine za 5 (some 27) (.slice (some ⟨b,o,none⟩) m c) _ rfl rfl rfl (by kernel_rfl) (fun _ _ _ h=>h) hS0 (by rfl) (fun W hX=>by go_simp) ?_
      simp only[sP]
      refine za 6 (some 28) (.pointer (some ⟨b,o,none⟩)) _ rfl rfl rfl (by kernel_rfl) (fun _ _ _ h=>h) hS0 (by rfl) (fun W hX=>by go_simp) ?_
      simp only[sP]
      refine za 7 (some 29) (.agg #[.int .u64 (p:Int),.int .i64 (q:Int)]) _ rfl rfl rfl (by kernel_rfl) (fun _ _ _ h=>h) hS0 (by rfl) (fun W hX=>by obtain⟨f0,f1⟩:=HC.out W hX;go_simp) ?_
      simp only[sP]
      refine za 8 (some 30) (.agg #[.int .u64 (x:Int),.int .i64 (y:Int)]) _ rfl rfl rfl (by kernel_rfl) (fun _ _ _ h=>h) hS0 (by rfl) (fun W hX=>by obtain⟨f0,f1⟩:=HBb.out W hX;go_simp) ?_
      simp only[sP]
      refine zc 9 _ (by kernel_rfl) rfl rfl (by rfl) (fun K0 hK0=>?_)
      go_simp
      go_at_call 187
      refine (HCO.out _).mono ?_
      rintro e wc0 ⟨rfl,hC0⟩
      have hX0:=hS0.trans hC0.ext
      refine hK0 _ _ (fun _=>hX0) ?_
      clear hK0 K0 hC0
      refine za 10 (some 32) (.bool false) _ rfl rfl rfl (by kernel_rfl) (fun _ _ _ h=>h) hX0 (by rfl) (fun W hX=>by go_simp) ?_
      simp only[sP]
      refine zc 11 _ (by kernel_rfl) rfl rfl (by rfl) (fun K1 hK1=>?_)
      go_simp
      refine hK1 _ _ (fun h=>absurd h (by decide)) (zj (by kernel_rfl) ?_ _)
      clear hK1 K1
      have hO3:=hO.ext hX0
      have HX:=hide hX0
      obtain⟨c3,c4⟩:=HBb.out _ hX0
      have hX0:=HX.out
      generalize wc0=w3 at *
      have hEa:=zb w3 (.cells #[.int .u64 (x:Int),.int .i64 (y:Int)] 230)
      have hOa:=hO3.ext hEa
      have hone:=PIAt.one w3 (x,y)
      have hbb:=Nat.le_trans hbw (hX0.trans hEa).le
      clear hX0
      go_wp2_with (at_builtin;refine xA rfl (.tmp 42) (.tmp 44) rfl rfl hOa rfl hone hRl (by omega) hbb ?_;intro v5 w5 hO5 hG5 _)
      have hE5:Ext w w5:=Below.grown (hEw.trans (HX.out.trans hEa)) hG5 (hEw.trans (HX.out.trans hEa)).le (fun k hk=>(hO.lt k hk).1)
      go_roundw
      case rel=>exact⟨d,m,k+1,R++[(x,y)],HD.out,by omega,by go_num,⟨_,c,rfl,hmc,by unfold maxLen;omega,HPA.out⟩,hO5,by rw[HL.out];exact HQ2.out,hE5⟩
      case measure=>simp[intOf];omega
  ·obtain rfl:n2=k:=by omega
   obtain⟨A,c,rfl,hmc,hcm,hPA⟩:=hLv
   have hPw:=hPA.ext hE
   have hd:=HD.out
   have hRl:R.length≤100000:=by
    have h1:=congrArg List.length hq
    rw[List.length_append,HQl.out,HN1.out,HN2.out]at h1
    omega
   have hq2:R++ls.drop d=qs:=by
    rw[← hq,show ps.drop n2=[] from List.drop_eq_nil_of_le (by rw[HN2.out];exact Nat.le_refl _),ul]
   have HQ:=hide hq2
   have hbw:=hE.le
   have hm3:m≤100000:=by omega
   clear hq hq2 HD hd hPA
   go_wp2_with (at_builtin;refine xA rfl (.tmp 47) (.tmp 48) rfl rfl hO rfl hPw hRl hm3 hbw ?_;intro v5 w5 hO5 hG5 _)
   have hE5:Ext w w5:=Below.grown hE hG5 hE.le (fun k hk=>(hO.lt k hk).1)
   rw[HQ.out]at hO5
   go_ret
   exact⟨_,rfl,hO5,hE5⟩
end
end Go.Proofs.YtpmedpdjglcdpaaGreatDoor
