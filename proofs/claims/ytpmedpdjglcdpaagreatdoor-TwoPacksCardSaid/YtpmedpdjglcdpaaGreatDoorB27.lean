/- The document's Lens of chapter 7. -/
import Derived.Test.YtpmedpdjglcdpaaGreatDoorB13
import Derived.Test.YtpmedpdjglcdpaaGreatDoorB18
import Derived.Deep.QuietTactic
import Derived.BigQuiet
namespace Go.Proofs.YtpmedpdjglcdpaaGreatDoor
section
open Go.RowKit Len
attribute [local go_sem ↓] abo acN
set_option maxHeartbeats 8000000 in
set_option maxRecDepth 100000 in
theorem J4 (w0:World):Y8 w0:=by
 intro often limit A n c w _ hnc hU hlo hhi
 have hn:=hU.1
 have hub:=hU.2.1
 subst hn
 have HBad:=hide (show (300<often.length∨limit<1∨15<limit)→yV often limit=([],13) from fun h=>if_pos h)
 by_cases h300:(300:Int)<(often.length:Int)
 ·have HN:=hide (HBad.out (.inl (by omega)))
  generalize yV often limit=res at *
  clear hU hub HBad
  go_enter Tryz.func117,Tryz.ntmps117
  go_wp2
  go_ret2
  rw[HN.out]
  exact⟨_,rfl,OwnB.nil _ _,Ext.refl _⟩
 by_cases hl1:limit<1
 ·have HN:=hide (HBad.out (.inr (.inl hl1)))
  generalize yV often limit=res at *
  clear hU hub HBad
  go_enter Tryz.func117,Tryz.ntmps117
  go_wp2
  go_ret2
  rw[HN.out]
  exact⟨_,rfl,OwnB.nil _ _,Ext.refl _⟩
 by_cases hl2:15<limit
 ·have HN:=hide (HBad.out (.inr (.inr hl2)))
  generalize yV often limit=res at *
  clear hU hub HBad
  go_enter Tryz.func117,Tryz.ntmps117
  go_wp2
  go_ret2
  rw[HN.out]
  exact⟨_,rfl,OwnB.nil _ _,Ext.refl _⟩
 clear HBad
 obtain⟨L,rfl⟩:∃ L:Nat,limit=(L:Int):=⟨limit.toNat,by omega⟩
 have hn300:often.length≤300:=by omega
 have hL1:1≤L:=by omega
 have hL15:L≤15:=by omega
 have HLim:=hide (show 2 ^ L<(zd often often.length).length→yV often (L:Int)=([],6) from fun h=>by
  unfold yV
  rw[if_neg (by omega),if_pos (by simpa using h)])
 have HOk:=hide (show (zd often often.length).length≤2 ^ L→yV often (L:Int)=(yr often L,0) from fun h=>by
  unfold yV
  rw[if_neg (by omega),if_neg (by simpa using h)]
  rfl)
 have HU0:=hide (show ∀ j,often.getD j 0=0→zd often (j+1)=zd often j from fun j h=>if_pos h)
 have HU1:=hide (show ∀ j,often.getD j 0≠0→zd often (j+1)=uj (often.getD j 0,[j]) (zd often j) from fun j h=>if_neg h)
 have HUle:=hide (fun j=>vB (often:=often) j)
 have HUw:=hide (fun j=>ack (often:=often) (j:=j))
 have HUb:=hide hub
 have HU:=hide hU
 clear hub hU hlo hhi
 generalize yV often (L:Int)=res at *
 generalize hN:often.length=N at *
 go_enter Tryz.func117,Tryz.ntmps117
 go_wp2_with fail
 go_loopw [6,7] (fun u a wr=>∃ j:Nat,j≤N∧a=.int .i64 (j:Int)∧ItL wr w.heap.size u (zd often j)∧Ext w wr) (fun _ a _=>N-(intOf a).toNat)
 case atStart=>exact⟨0,by omega,rfl,ItL.nil _ _,Ext.refl _⟩
 case round =>
  obtain⟨j,hj,rfl,hI,hE⟩:=hrel
  by_cases hlt:j<N
  ·rcases (HU.out.ext hE).2.2 with h0 | ⟨b,o,rfl,hcB,hcells⟩
   ·omega
   have hcell:=hcells j hlt
   clear hcells
   have hxb:=HUb.out j
   have hX0:=HU0.out j
   have hX1:=HU1.out j
   have hXle:=HUle.out j
   have hXw:=HUw.out j
   unfold wOf at hXw
   generalize often.getD j 0=x at *
   generalize zd often j=X at *
   generalize hX2:zd often (j+1)=X2 at *
   have HX2:=hide hX2
   clear hX2
   have hjI:(j:Int)<(N:Int):=by omega
   by_cases hx:x=0
   ·subst hx
    have HX0:=hide (hX0 rfl)
    clear hX0 hX1 hXw
    go_wp2
    go_roundw
    case rel=>exact⟨j+1,by omega,by go_num,by rw[HX2.out,HX0.out];exact hI,hE⟩
    case measure=>simp[intOf];omega
   ·have HX1:=hide (hX1 hx)
    have hq0:((x:Int)==0)=false:=by simp;omega
    clear hX0 hX1
    obtain⟨Au,cu,rfl,hmc,hmm,f1⟩:=hI.form
    obtain⟨A2,c2,Y,e,_,_,hS,hSay⟩:=hI.src
    simp only[Value.slice.injEq,true_and]at e
    obtain⟨rfl,rfl⟩:=e
    have F1:=hide f1
    have HW:=hide hXw
    clear f1 hXw
    obtain⟨m,hm⟩:∃ m,m=X.length:=⟨_,rfl⟩
    have HM:=hide hm
    rw[← hm]at hmc hXle hS ⊢
    have hm300:m≤300:=by omega
    obtain⟨wa,rfl⟩:∃ W,W=wr:=⟨_,rfl⟩
    clear hm
    go_wp2_with fail
    go_loopw [8] (fun b wq=>∃ p:Nat,p≤m∧b=.int .i64 (p:Int)∧(∀ t,p≤t→t<m→x<(X.getD t (0,[])).1)∧Ext wa wq) (fun b _=>(intOf b).toNat)
    case atStart=>exact⟨m,by omega,rfl,fun t h1 h2=>absurd h1 (by omega),Ext.refl _⟩
    case round =>
     obtain⟨p,hpm,rfl,hhi,hE2⟩:=hrel
     have HHi:=hide hhi
     clear hhi
     have hpmI:(p:Int)≤(m:Int):=by omega
     have hpcu:(p:Int)≤(cu:Int):=by omega
     have hp0I:(0:Int)≤(p:Int):=by omega
     by_cases hp0:p=0
     ·have hpz:¬ (0:Int)<(p:Int):=by omega
      have HLow:=hide (show ∀ t,t<p→(X.getD t (0,[])).1≤x from fun t ht=>absurd ht (by omega))
      have hd1:decide ((0:Int)<(p:Int))=false:=decide_eq_false hpz
      have hd2:decide (0<p)=false:=decide_eq_false (by omega)
      clear hp0
      go_wp2_with fail
      go_quiet (fail)
      have hEq:Ext wr (wr.drewN nq):=(Ext.refl wr).drewN nq
      generalize wr.drewN nq=w3 at hEq ⊢
      have hE3:=hE2.trans hEq
      have hEw3:=hE.trans hE3
      have hS3:=hS.extN hE3
      have hSay3:=(hSay.ext hE3).up (C:=w3.heap.size) hE3.le
      have hlt5:(X.take p).length≤1000:=by rw[List.length_take];omega
      have hlt7:(X.take p++[(x,[j])]).length≤1000:=by rw[List.length_append,List.length_take];simp;omega
      have hm3:p≤1000:=by omega
      have hm4:m-p≤1000:=by omega
      go_wp2_with (first
       | (at_builtin;refine x7 (v:=.slice none 0 0) rfl (.tmp 64) (.tmp 67) rfl rfl (ItL.nil w3 w3.heap.size) rfl (hS3.head hpm hmc) hSay3.take (Nat.zero_le _) hm3 (Nat.le_refl _) ?_;intro v5 w5 hI5 hG5 _;have hE5:Ext w3 w5:=Below.grown (Ext.refl w3) hG5 (Nat.le_refl _) (fun k hk=>by cases hk);rw[List.nil_append]at hI5;have hob:=((hE3.trans hE5).cell (i:=o+j) hcB).trans hcell;have hb5:=hE5.le;have hEa:=zb w5 (.cells #[.int .i64 (j:Int)] 3);have hO6:=OwnL.one w5 (j:Int) (base:=0) (Nat.zero_le _);have hIa:=hI5.ext hEa;have hsz:=hide (show w5.heap.size+1=(w5.alloc (.cells #[.int .i64 (j:Int)] 3)).heap.size from (World.size_alloc w5 _).symm))
       | (at_builtin;refine qN (g:=w5.heap.size+1) (it:=(x,[j])) rfl (.tmp 69) (.tmp 78) rfl rfl hsz.out hIa hO6 rfl hlt5 (Nat.le_trans hb5 hEa.le) ?_;intro v7 w7 hI7 hG7 _;have hEb:=zb (w5.alloc (.cells #[.int .i64 (j:Int)] 3)) (.cells #[.int .u64 ((x:Nat):Int),.slice (some ⟨w5.heap.size,0,none⟩) 1 1] 185);have hE7:Ext w3 w7:=Below.grown ((hE5.trans hEa).trans hEb) hG7 ((hE5.trans hEa).trans hEb).le (fun k hk=>(hIa.lt k hk).1);have hS7:=hS3.extN hE7;have hSay7:=(hSay3.ext hE7).up (C:=w7.heap.size) hE7.le)
       | (at_builtin;refine x7 rfl (.tmp 80) (.tmp 83) rfl rfl hI7 rfl (hS7.drop hpm hmc) hSay7.drop hlt7 hm4 hE7.le ?_;intro v9 w9 hI9 hG9 _))
      have hE9:Ext w3 w9:=Below.grown hE7 hG9 hE7.le (fun k hk=>(hI7.lt k hk).1)
      have hX:uj (x,[j]) X=(X.take p++[(x,[j])])++X.drop p:=jV _ X p (by rw[← HM.out];exact hpm) HLow.out (fun h=>HHi.out p (Nat.le_refl _) (by rw[HM.out];exact h))
      rw[← hX,← HX1.out,← HX2.out]at hI9
      go_roundw
      case rel=>exact⟨j+1,by omega,by go_num,hI9.mono hEw3.le,hEw3.trans hE9⟩
      case measure=>simp[intOf];omega
     ·obtain⟨g,q,C,e,j1,j2,j3,j4⟩:=((F1.out (p-1) (by rw[← HM.out];omega)).ext hE2).ex
      have hpI:(0:Int)<(p:Int):=by omega
      have hpd:decide ((0:Int)<(p:Int))=true:=decide_eq_true hpI
      have hpN:decide (0<p)=true:=decide_eq_true (by omega)
      have hpc:(p:Int)-1=((p-1:Nat):Int):=by omega
      by_cases hgt:x<(X.getD (p-1) (0,[])).1
      ·have HHi2:=hide (show ∀ t,p-1≤t→t<m→x<(X.getD t (0,[])).1 from fun t h1 h2=>by
        by_cases ht:t=p-1
        ·rw[ht];exact hgt
        ·exact HHi.out t (by omega) h2)
       generalize X.getD (p-1) (0,[])=it at *
       subst e
       have hgtd:decide ((it.1:Int) > (x:Int))=true:=decide_eq_true (by omega)
       have hgtI:(x:Int)<(it.1:Int):=by omega
       have hgtN:decide (x<it.1)=true:=decide_eq_true hgt
       have hcw:=(hE2.cell (i:=o+j) hcB).trans hcell
       clear hcell hx hp0
       go_wp2_with fail
       go_quiet (fail)
       have hEq:Ext wr (wr.drewN nq):=(Ext.refl wr).drewN nq
       generalize wr.drewN nq=w3 at hEq ⊢
       go_wp2
       go_roundw
       case rel=>exact⟨p-1,by omega,by go_num,HHi2.out,hE2.trans hEq⟩
       case measure=>simp[intOf];omega
      ·have HLow:=hide (show ∀ t,t<p→(X.getD t (0,[])).1≤x from fun t ht=>by
        have:=HW.out t (p-1) (by omega) (by rw[← HM.out];omega)
        omega)
       generalize X.getD (p-1) (0,[])=it at *
       subst e
       have hgtd:decide ((it.1:Int) > (x:Int))=false:=decide_eq_false (by omega)
       have hgtN:decide (x<it.1)=false:=decide_eq_false hgt
       have hcw:=(hE2.cell (i:=o+j) hcB).trans hcell
       clear hp0
       go_wp2_with fail
       go_quiet (fail)
       have hEq:Ext wr (wr.drewN nq):=(Ext.refl wr).drewN nq
       generalize wr.drewN nq=w3 at hEq ⊢
       have hE3:=hE2.trans hEq
       have hEw3:=hE.trans hE3
       have hS3:=hS.extN hE3
       have hSay3:=(hSay.ext hE3).up (C:=w3.heap.size) hE3.le
       have hlt5:(X.take p).length≤1000:=by rw[List.length_take];omega
       have hlt7:(X.take p++[(x,[j])]).length≤1000:=by rw[List.length_append,List.length_take];simp;omega
       have hm3:p≤1000:=by omega
       have hm4:m-p≤1000:=by omega
       go_wp2_with (first
        | (at_builtin;refine x7 (v:=.slice none 0 0) rfl (.tmp 64) (.tmp 67) rfl rfl (ItL.nil w3 w3.heap.size) rfl (hS3.head hpm hmc) hSay3.take (Nat.zero_le _) hm3 (Nat.le_refl _) ?_;intro v5 w5 hI5 hG5 _;have hE5:Ext w3 w5:=Below.grown (Ext.refl w3) hG5 (Nat.le_refl _) (fun k hk=>by cases hk);rw[List.nil_append]at hI5;have hob:=((hE3.trans hE5).cell (i:=o+j) hcB).trans hcell;have hb5:=hE5.le;have hEa:=zb w5 (.cells #[.int .i64 (j:Int)] 3);have hO6:=OwnL.one w5 (j:Int) (base:=0) (Nat.zero_le _);have hIa:=hI5.ext hEa;have hsz:=hide (show w5.heap.size+1=(w5.alloc (.cells #[.int .i64 (j:Int)] 3)).heap.size from (World.size_alloc w5 _).symm))
        | (at_builtin;refine qN (g:=w5.heap.size+1) (it:=(x,[j])) rfl (.tmp 69) (.tmp 78) rfl rfl hsz.out hIa hO6 rfl hlt5 (Nat.le_trans hb5 hEa.le) ?_;intro v7 w7 hI7 hG7 _;have hEb:=zb (w5.alloc (.cells #[.int .i64 (j:Int)] 3)) (.cells #[.int .u64 ((x:Nat):Int),.slice (some ⟨w5.heap.size,0,none⟩) 1 1] 185);have hE7:Ext w3 w7:=Below.grown ((hE5.trans hEa).trans hEb) hG7 ((hE5.trans hEa).trans hEb).le (fun k hk=>(hIa.lt k hk).1);have hS7:=hS3.extN hE7;have hSay7:=(hSay3.ext hE7).up (C:=w7.heap.size) hE7.le)
        | (at_builtin;refine x7 rfl (.tmp 80) (.tmp 83) rfl rfl hI7 rfl (hS7.drop hpm hmc) hSay7.drop hlt7 hm4 hE7.le ?_;intro v9 w9 hI9 hG9 _))
       have hE9:Ext w3 w9:=Below.grown hE7 hG9 hE7.le (fun k hk=>(hI7.lt k hk).1)
       have hX:uj (x,[j]) X=(X.take p++[(x,[j])])++X.drop p:=jV _ X p (by rw[← HM.out];exact hpm) HLow.out (fun h=>HHi.out p (Nat.le_refl _) (by rw[HM.out];exact h))
       rw[← hX,← HX1.out,← HX2.out]at hI9
       go_roundw
       case rel=>exact⟨j+1,by omega,by go_num,hI9.mono hEw3.le,hEw3.trans hE9⟩
       case measure=>simp[intOf];omega
  ·obtain rfl:N=j:=by omega
   have HUle0:=HUle.out N
   have HR:=hide (fun r x h=>acO (often:=often) HUb.out N r x h)
   have HO1:=hide (show (zd often N).length=1→∀ q,xr often L q=if q=sOf (zd often N) 0 then 1 else 0 from fun h1 q=>by
    have:=uQ (often:=often) (L:=L) (by rw[hN];exact h1) q
    rw[hN]at this
    exact this)
   have HLen:=hide (fun (O:List UInt8) (h0:O.length=often.length) (h1:(zd often N).length≤2 ^ L) h2=>aaJ (often:=often) (O:=O) h0 hL1 hL15 (by rw[hN];exact h1) h2)
   have HSm:=hide (fun (h1:(zd often N).length≤2 ^ L) q h2=>uk (often:=often) (L:=L) (q:=q) h2 hL1 hL15 (by rw[hN];exact h1))
   have HF:=hide (show ∀ q,2≤(zd often N).length→xr often L q=(syms ((row (zd often N) (L-1)).take (2*(zd often N).length-2))).count q from fun q h2=>by
    unfold xr
    rw[hN,if_neg (by omega)])
   have HF1:=hide (show ∀ q,(zd often N).length=0→xr often L q=0 from fun q h2=>by
    unfold xr
    rw[hN,if_pos (by omega),List.eq_nil_of_length_eq_zero h2]
    rfl)
   have HS0:=hide (fun i h=>(x5 (often:=often) (j:=N) (i:=i) h).2.2.2)
   have HS1:=hide (fun i h=>(x5 (often:=often) (j:=N) (i:=i) h).1)
   generalize zd often N=X at *
   generalize xr often L=lf at *
   generalize hres:yr often L=resL at *
   obtain⟨Au,cu,rfl,hmc,hmm,f1⟩:=hI.form
   have F1:=hide f1
   clear f1 HU0 HU1 HUle HUw
   obtain⟨m,hm⟩:∃ m,m=X.length:=⟨_,rfl⟩
   have HM:=hide hm
   rw[← hm]at hmc HUle0 ⊢
   clear hm
   have hm300:m≤300:=by omega
   obtain⟨wa,rfl⟩:∃ W,W=wr:=⟨_,rfl⟩
   go_wp2_with fail
   go_loopw [11,12] (fun a b wq=>∃ i v:Nat,i≤L∧b=.int .i64 (i:Int)∧a=.int .i64 (v:Int)∧v=2 ^ i∧wq=wa) (fun _ b _=>L-(intOf b).toNat)
   case atStart=>exact⟨0,1,by omega,rfl,rfl,rfl,rfl⟩
   case round =>
    obtain⟨i,v,hi,rfl,rfl,hv,rfl⟩:=hrel
    by_cases hiL:i<L
    ·have hiI:(i:Int)<(L:Int):=by omega
     have hv2:v≤16384:=by
      rw[hv]
      exact Nat.le_trans (Nat.pow_le_pow_right (by omega) (show i≤14 by omega)) (by decide)
     have HV:=hide (show 2*v=2 ^ (i+1) by rw[hv,Nat.pow_succ,Nat.mul_comm])
     clear hv
     go_wp2
     go_roundw
     case rel=>exact⟨i+1,2*v,by omega,by go_num,by go_num,HV.out,trivial⟩
     case measure=>simp[intOf];omega
    ·obtain rfl:L=i:=by omega
     have hv2:v≤32768:=by
      rw[hv]
      exact Nat.le_trans (Nat.pow_le_pow_right (by omega) (show L≤15 by omega)) (by decide)
     have HV:=hide hv
     clear hv
     by_cases hgt:v<m
     ·have HN:=hide (HLim.out (by rw[← HV.out,← HM.out];exact hgt))
      have hgtI:(v:Int)<(m:Int):=by omega
      clear HLim HOk
      go_wp2
      go_ret2
      rw[HN.out]
      exact⟨_,rfl,OwnB.nil _ _,hE⟩
     ·have hle:X.length≤2 ^ L:=by rw[← HV.out,← HM.out];omega
      have HN:=hide (HOk.out hle)
      have HLe:=hide hle
      have hgtI:¬ (v:Int)<(m:Int):=by omega
      clear HLim HOk hle hgt
      obtain⟨wb,rfl⟩:∃ W,W=wr:=⟨_,rfl⟩
      go_wp2_with fail
      go_loopw [13,14] (fun a b wq=>∃ k:Nat,k≤N∧b=.int .i64 (k:Int)∧OwnB wq wb.heap.size a (List.replicate k (0:UInt8))∧Ext wb wq) (fun _ b _=>N-(intOf b).toNat)
      case atStart=>exact⟨0,by omega,rfl,OwnB.nil _ _,Ext.refl _⟩
      case round =>
       obtain⟨k,hk,rfl,hO,hE2⟩:=hrel
       by_cases hkj:k<N
       ·have hkI:(k:Int)<(N:Int):=by omega
        have hEa:=zb wr (.cells #[.int .u8 0] 5)
        have hOa:=hO.ext hEa
        have hba:=zr wr [(0:UInt8)] #[.int .u8 0] 5 (0,0) rfl 1 rfl
        have hsb:=hE2.le
        have hl0:(List.replicate k (0:UInt8)).length+1≤140737488355328:=by simp;omega
        go_wp2_with (at_builtin;refine zw rfl (.tmp 103) (.tmp 104) rfl rfl hOa rfl hba hl0 (Nat.le_trans hsb hEa.le) ?_;intro v5 w5 hO5 hG5)
        have hE5:Ext wb w5:=Below.grown (hE2.trans hEa) hG5 (hE2.trans hEa).le (fun k hk=>(hO.lt k hk).1)
        have e:List.replicate k (0:UInt8)++[0]=List.replicate (k+1) 0:=List.replicate_succ'.symm
        rw[e]at hO5
        go_roundw
        case rel=>exact⟨k+1,by omega,by go_num,hO5,hE5⟩
        case measure=>simp[intOf];omega
       ·obtain rfl:N=k:=by omega
        clear hkj hk
        have hwr:=hE.trans hE2
        have hRl:(List.replicate N (0:UInt8)).length=N:=by simp
        have hO':=hO
        generalize hRep:List.replicate N (0:UInt8)=O at *
        have HRep:=hide hRep
        clear hRep
        by_cases hm1:m=1
        ·have hX1:X.length=1:=by rw[← HM.out];exact hm1
         have hit:=(F1.out 0 (by omega)).ext hE2
         rw[HS0.out 0 (by omega)]at hit
         have hs:=HS1.out 0 (by omega)
         have HO:=hide (HO1.out hX1)
         generalize sOf X 0=s0 at *
         obtain⟨g,q,C,rfl,j1,j2,j3,_⟩:=hit.ex
         clear hit j1
         dsimp only[List.length_cons,List.length_nil]at j2 j3
         obtain⟨A2,c2,e,_,_,hcell⟩:=j3.form
         simp only[List.length_map,List.length_cons,List.length_nil,Value.slice.injEq,true_and]at e
         obtain⟨rfl,rfl⟩:=e
         rcases hcell with h0 | ⟨b2,o2,rfl,hB2,hc2⟩
         ·simp at h0
         have hcs:=hc2 0 (by simp)
         obtain⟨go,co,rfl,hgo,hco⟩:=hO.formG (by omega)
         rw[hRl]at hO hO' hco ⊢
         obtain⟨hc3,hf3⟩:=hO.cell (i:=s0) (by rw[hRl];exact hs)
         have hsI:(s0:Int)<(N:Int):=by omega
         have hcs':wr.cell? ⟨b2,o2,none⟩=some (.int .i64 (s0:Int)):=by simpa using hcs
         subst hm1
         go_wp2
         go_ret2
         rw[HN.out]
         have hG:=zk wr go s0 (.int .u8 1)
         have hL:=HLen.out (O.set s0 1) (by rw[hN,List.length_set,hRl]) HLe.out (fun q hq=>by
          rw[HO.out q,← HRep.out,List.getD_eq_getElem?_getD,List.getElem?_set]
          rw[List.length_replicate]
          by_cases hqs:s0=q
          ·rw[if_pos hqs,if_pos hs,if_pos hqs.symm]
           rfl
          ·rw[if_neg hqs,if_neg (fun e=>hqs e.symm),List.getElem?_replicate]
           split<;>rfl)
         refine⟨_,rfl,?_,Below.grown hwr hG hwr.le (fun k hk=>by cases hk;exact Nat.le_trans hE.le hgo)⟩
         dsimp only
         rw[← hL]
         exact (hO.set s0 1).mono hE.le
        ·by_cases hm0:m=0
         ·have HO:=hide (HF1.out · (by rw[← HM.out];exact hm0))
          subst hm0
          go_wp2
          go_ret2
          rw[HN.out]
          refine⟨_,rfl,?_,hwr⟩
          have hL:=HLen.out O (by rw[hN,hRl]) HLe.out (fun q hq=>by
           rw[HO.out q,← HRep.out,List.getD_eq_getElem?_getD,List.getElem?_replicate]
           split<;>rfl)
          dsimp only
          rw[← hL]
          exact hO.mono hE.le
         ·have hm1q:((m:Int)==1)=false:=by simp;omega
          have hm2:¬ (m:Int)<2:=by omega
          have hIm:ItL wr w.heap.size (.slice Au m cu) X:=by rw[HM.out];exact hI.ext hE2
          have HIm:=hide hIm
          have HO':=hide hO'
          clear hO hO' hI hIm F1 HO1 HF1 HS0 HS1
          obtain⟨wc,rfl⟩:∃ W,W=wr:=⟨_,rfl⟩
          go_wp2_with fail
          go_loopw [15,16] (fun a b wq=>∃ r:Nat,1≤r∧r≤L∧b=.int .i64 (r:Int)∧ItL wq w.heap.size a (row X (r-1))∧Ext wc wq) (fun _ b _=>L-(intOf b).toNat)
          case atStart=>exact⟨1,by omega,hL1,rfl,HIm.out,Ext.refl _⟩
          case round =>
           obtain⟨r,hr1,hrL,rfl,hIR,hE3⟩:=hrel
           have hRl2:=acL X (r-1)
           have hRb:=HR.out (r-1)
           have HRN:=hide (show r<L+1→row X (r+1-1)=zI X (zo (row X (r-1))) from fun _=>by
            obtain⟨d,rfl⟩:∃ d,r=d+1:=⟨r-1,by omega⟩
            rfl)
           generalize hRR:row X (r-1)=R at *
           have HRR:=hide hRR
           clear hRR
           obtain⟨AR,cR,rfl,hcR,_,fR⟩:=hIR.form
           obtain⟨nR,hnR⟩:∃ n,n=R.length:=⟨_,rfl⟩
           rw[← hnR]at hcR hRl2 ⊢
           have hnR6:nR≤600:=by
            have:=HM.out
            omega
           have HNR:=hide hnR
           have HFR:=hide fR
           have HRb:=hide hRb
           clear hnR fR hRb hRl2
           obtain⟨wd,rfl⟩:∃ W,W=wr:=⟨_,rfl⟩
           by_cases hrlt:r<L
           ·have hrI:(r:Int)<(L:Int):=by omega
            go_wp2_with fail
            go_loopw [17,18] (fun a b wq=>∃ p t:Nat,p=2*t∧t≤301∧p≤nR+1∧b=.int .i64 (p:Int)∧ItL wq wd.heap.size a ((zo R).take t)∧Ext wd wq) (fun _ b _=>nR+2-(intOf b).toNat)
            case atStart=>exact⟨0,0,rfl,by omega,by omega,rfl,by rw[List.take_zero];exact ItL.nil _ _,Ext.refl _⟩
            case round =>
             obtain⟨p,t,hp,ht1,ht2,rfl,hIP,hE4⟩:=hrel
             have Hp:=hide hp
             by_cases h2t:p+1<nR
             ·have h2I:(p:Int)+1<(nR:Int):=by omega
              have h2K:(p:Int)<(nR:Int):=by omega
              obtain⟨g,q1,C1,rfl,j1,j2,j3,_⟩:=((HFR.out p (by rw[← HNR.out];omega)).ext hE4).ex
              obtain⟨g',q2,C2,e,k1,k2,k3,_⟩:=((HFR.out (p+1) (by rw[← HNR.out];omega)).ext hE4).ex
              simp only[Option.some.injEq,Addr.mk.injEq,and_true]at e
              subst e
              have HP:=hide (pairs_next (l:=R) (t:=t) (by rw[← HNR.out];omega))
              rw[← hp]at HP
              have hb1:=HRb.out (R.getD p (0,[])) (uP (by rw[← HNR.out];omega))
              have hb2:=HRb.out (R.getD (p+1) (0,[])) (uP (by rw[← HNR.out];omega))
              generalize R.getD p (0,[])=it1 at *
              generalize R.getD (p+1) (0,[])=it2 at *
              have hp16:2 ^ (r-1)≤16384:=Nat.le_trans (Nat.pow_le_pow_right (by omega) (show r-1≤14 by omega)) (by decide)
              obtain⟨b11,b12,_⟩:=hb1
              obtain⟨b21,b22,_⟩:=hb2
              have w1b:it1.1≤70368744177664:=Nat.le_trans b11 (Nat.mul_le_mul_right 4294967296 hp16)
              have w2b:it2.1≤70368744177664:=Nat.le_trans b21 (Nat.mul_le_mul_right 4294967296 hp16)
              have s1b:it1.2.length≤16384:=Nat.le_trans b12 hp16
              have s2b:it2.2.length≤16384:=Nat.le_trans b22 hp16
              have hPl:((zo R).take t).length≤1000:=by rw[List.length_take];omega
              clear b11 b12 b21 b22 hp16
              have hg4:g<wr.heap.size:=World.block_lt_of_cell? wr _ j1
              clear hp
              have l1:(List.map Int.ofNat it1.2).length=it1.2.length:=by simp
              have l2:(List.map Int.ofNat it2.2).length=it2.2.length:=by simp
              have l3:(List.map Int.ofNat it1.2).length≤10000000:=by simp;omega
              have l4:it1.2.length≤10000000:=by omega
              have l5:it2.2.length≤10000000:=by omega
              obtain⟨m1,hm1⟩:∃ n,n=it1.2.length:=⟨_,rfl⟩
              obtain⟨m2,hm2'⟩:∃ n,n=it2.2.length:=⟨_,rfl⟩
              rw[← hm1]at j2 j3 l1 l4 s1b
              rw[← hm2']at k2 k3 l2 l5 s2b
              have HM1:=hide hm1
              have HM2:=hide hm2'
              clear hm1 hm2'
              have j2r:=j2
              have k2r:=k2
              go_wp2_with (first
               | (at_builtin;refine jF (v:=.slice none 0 0) (L:=[]) rfl (.tmp 132) (.tmp 137) rfl rfl (OwnL.nil wr wr.heap.size) rfl rfl j3 l1 (Nat.zero_le _) l4 (Nat.le_refl _) ?_;intro v5 w5 hO5 hG5 _;have hE5:Ext wr w5:=Below.grown (Ext.refl wr) hG5 (Nat.le_refl _) (fun k hk=>by cases hk);rw[List.nil_append]at hO5;have k2':=(hE5.cell hg4).trans k2;have k3':=k3.ext hE5;have hb5:=hE5.le)
               | (at_builtin;refine jF rfl (.tmp 139) (.tmp 145) rfl rfl hO5 rfl rfl k3' l2 l3 l5 hb5 ?_;intro v6 w6 hO6 hG6 _))
              have hE6:Ext wr w6:=Below.grown hE5 hG6 hE5.le (fun k hk=>(hO5.lt k hk).1)
              rw[← List.map_append]at hO6
              obtain⟨S6,c6,rfl,_,_⟩:=hO6.form
              rw[List.length_map]at hO6 ⊢
              obtain⟨n6,hn6⟩:∃ n,n=(it1.2++it2.2).length:=⟨_,rfl⟩
              rw[← hn6]at hO6 ⊢
              have HN6:=hide hn6
              clear hn6
              obtain⟨ws,hws⟩:∃ n,n=it1.1+it2.1:=⟨_,rfl⟩
              have HWS:=hide hws
              clear hws
              have j1:=(hE6.cell hg4).trans j1
              have k1:=(hE6.cell hg4).trans k1
              have hgS:g<w6.heap.size:=Nat.lt_of_lt_of_le hg4 hE6.le
              refine zq (fun W=>Ext w6 W) 16 18 #[false,false,false,false,false,false,false,false,false,false,false,false,false,false,false,false,false,false] (by kernel_rfl) rfl rfl (Ext.refl w6).drew ?_
              generalize w6.drew=w7
              intro hS0
              refine za 0 (some 147) (u17) _ rfl rfl rfl (by kernel_rfl) (fun _ _ _ h=>h) hS0 (by rfl) (fun W hX=>by go_simp) ?_
              simp only[sP]
              refine za 1 (some 148) (.slice (some ⟨g,0,none⟩) nR cR) _ rfl rfl rfl (by kernel_rfl) (fun _ _ _ h=>h) hS0 (by rfl) (fun W hX=>by go_simp) ?_
              simp only[sP]
              refine za 2 (some 149) (.int .i64 (p:Int)) _ rfl rfl rfl (by kernel_rfl) (fun _ _ _ h=>h) hS0 (by rfl) (fun W hX=>by go_simp) ?_
              simp only[sP]
              refine za 3 (some 150) (.pointer (some ⟨g,p*2,none⟩)) _ rfl rfl rfl (by kernel_rfl) (fun _ _ _ h=>h) hS0 (by rfl) (fun W hX=>by go_simp) ?_
              simp only[sP]
              refine za 4 (some 151) (.pointer (some ⟨g,p*2,none⟩)) _ rfl rfl rfl (by kernel_rfl) (fun _ _ _ h=>h) hS0 (by rfl) (fun W hX=>by go_simp) ?_
              simp only[sP]
              refine za 5 (some 152) (.int .u64 ((it1.1:Nat):Int)) _ rfl rfl rfl (by kernel_rfl) (fun _ _ _ h=>h) hS0 (by rfl) (fun W hX=>by have s:=(hX.cell hgS).trans j1;go_simp) ?_
              simp only[sP]
              refine za 6 (some 153) (.slice (some ⟨g,0,none⟩) nR cR) _ rfl rfl rfl (by kernel_rfl) (fun _ _ _ h=>h) hS0 (by rfl) (fun W hX=>by go_simp) ?_
              simp only[sP]
              refine za 7 (some 154) (.int .i64 (p:Int)) _ rfl rfl rfl (by kernel_rfl) (fun _ _ _ h=>h) hS0 (by rfl) (fun W hX=>by go_simp) ?_
              simp only[sP]
              refine za 8 (some 155) (.int .i64 ((p+1:Nat):Int)) _ rfl rfl rfl (by kernel_rfl) (fun _ _ _ h=>h) hS0 (by rfl) (fun W hX=>by go_simp;rw[IntKind.wrap_i64];omega) ?_
              simp only[sP]
              refine za 9 (some 156) (.pointer (some ⟨g,(p+1)*2,none⟩)) _ rfl rfl rfl (by kernel_rfl) (fun _ _ _ h=>h) hS0 (by rfl) (fun W hX=>by have h0:(0:Int)≤(p:Int)+1:=(by omega);have ht:((p:Int)+1).toNat=p+1:=(by omega);go_simp) ?_
              simp only[sP]
              refine za 10 (some 157) (.pointer (some ⟨g,(p+1)*2,none⟩)) _ rfl rfl rfl (by kernel_rfl) (fun _ _ _ h=>h) hS0 (by rfl) (fun W hX=>by go_simp) ?_
              simp only[sP]
              refine za 11 (some 158) (.int .u64 ((it2.1:Nat):Int)) _ rfl rfl rfl (by kernel_rfl) (fun _ _ _ h=>h) hS0 (by rfl) (fun W hX=>by have s:=(hX.cell hgS).trans k1;go_simp) ?_
              simp only[sP]
              refine za 12 (some 159) (.int .u64 (ws:Int)) _ rfl rfl rfl (by kernel_rfl) (fun _ _ _ h=>h) hS0 (by rfl) (fun W hX=>by go_simp;rw[IntKind.wrap_u64];have:=HWS.out;omega) ?_
              simp only[sP]
              refine za 13 (some 160) (.slice S6 n6 c6) _ rfl rfl rfl (by kernel_rfl) (fun _ _ _ h=>h) hS0 (by rfl) (fun W hX=>by go_simp) ?_
              simp only[sP]
              refine za 14 (some 161) (.agg #[.int .u64 (ws:Int),.slice S6 n6 c6]) _ rfl rfl rfl (by kernel_rfl) (fun _ _ _ h=>h) hS0 (by rfl) (fun W hX=>by go_simp) ?_
              simp only[sP]
              refine zc 15 _ (by kernel_rfl) rfl rfl (by rfl) (fun K1 hK1=>?_)
              go_simp
              have hEb:=zb w7 (.cells #[.int .u64 (ws:Int),.slice S6 n6 c6] 185)
              refine hK1 _ _ (fun _=>hS0.trans hEb) ?_
              clear hK1 K1
              refine zc 16 _ (by kernel_rfl) rfl rfl (by rfl) (fun K2 hK2=>?_)
              have hn6:=HN6.out
              subst hn6
              have hE7:=hE6.trans hS0
              refine adJ (it:=(ws,it1.2++it2.2)) (.tmp 147) (.tmp 162) rfl rfl (hIP.ext hE7) ((hO6.ext hS0).mono (Nat.zero_le _)) rfl hPl (hE4.trans hE7).le ?_
              intro v8 w8 hI8 hG8
              refine hK2 _ _ (fun h=>absurd h (by decide)) ?_
              clear hK2 K2
              refine zc 17 _ (by kernel_rfl) rfl rfl (by rfl) (fun K3 hK3=>?_)
              go_simp
              refine hK3 _ _ (fun h=>absurd h (by decide)) (zj (by kernel_rfl) ?_ _)
              clear hK3 K3
              have hE8:Ext wd w8:=Below.grown ((hE4.trans hE7).trans hEb) hG8 ((hE4.trans hE7).trans hEb).le (fun k hk=>(hIP.lt k hk).1)
              rw[HWS.out,← HP.out]at hI8
              go_wp2
              go_roundw
              case rel=>exact⟨p+2,t+1,by have:=Hp.out;omega,by have:=Hp.out;omega,by omega,by go_num,hI8,hE8⟩
              case measure=>simp[intOf];omega
             ·have h2I:¬ (p:Int)+1<(nR:Int):=by omega
              have HPE:=hide (abp (l:=R) (t:=t) (by rw[← HNR.out];omega))
              rw[HPE.out]at hIP
              have hIw:=(HIm.out.ext hE3).ext hE4
              have C:=UA _ _ _ _ X (zo R) wr hIw hIP (by rw[← HM.out];omega) (by rw[yi,← HNR.out];omega)
              clear hIw hIP hp
              go_wp2_with fail
              refine C.mono ?_
              rintro e w9 ⟨v9,rfl,hI9,hE9⟩
              have HI9:=hide hI9
              have hwq:=(hE3.trans hE4).trans hE9
              have hwl:=(((hwr.trans hE3).trans hE4)).le
              clear hI9
              go_wp2
              go_roundw
              case rel=>exact⟨r+1,by omega,by omega,by go_num,by rw[HRN.out (by omega)];exact HI9.out.mono hwl,hwq⟩
              case measure=>simp[intOf];omega
           ·obtain rfl:L=r:=by omega
            have hen:=jW X (L-1) 2 (by
             have:=HLe.out
             obtain⟨d,hd⟩:∃ d,L=d+1:=⟨L-1,by omega⟩
             rw[hd,Nat.pow_succ]at this
             rw[hd,Nat.add_sub_cancel,Nat.mul_comm]
             exact this)
            rw[HRR.out,← HNR.out,← HM.out]at hen
            have HFin:=hide (show ∀ q,lf q=(syms (R.take (2*m-2))).count q from fun q=>by
             have:=HF.out q (by rw[← HM.out];omega)
             rw[HRR.out,← HM.out]at this
             exact this)
            have HTop:=hide (show ∀ i k s,i<2*m-2→s<N→((syms (R.take i)++(R.getD i (0,[])).2.take k).count s)≤15 from fun i k s hi hs=>by
             have h1:=QQ (l:=R) (i:=i) (k:=k) (m:=2*m-2) (s:=s) hi (by rw[← HNR.out];omega)
             have h2:=HSm.out HLe.out s (by rw[hN];exact hs)
             rw[HFin.out s]at h2
             omega)
            have HZ:=hide (show ∀ s,(O.getD s 0).toNat=0 from fun s=>by
             rw[← HRep.out,List.getD_eq_getElem?_getD,List.getElem?_replicate]
             split<;>rfl)
            obtain⟨go,co,rfl,hgo,hco⟩:=HO'.out.formG (by omega)
            rw[hRl]at HO' hco ⊢
            have HO2:=hide (HO'.out.ext hE3)
            have HIR:=hide (show ItL wd w.heap.size (.slice AR nR cR) R by rw[HNR.out];exact hIR)
            have hEwd:=hwr.trans hE3
            have hgw:=Nat.le_trans hE.le hgo
            have HMM:=hide (show 2*m-2≤nR by omega)
            clear hIR HFR HF HO' hen
            go_wp2_with fail
            go_loopw [20] (fun a wq=>∃ (i:Nat) (O1:List UInt8),i≤2*m-2∧a=.int .i64 (i:Int)∧OwnB wq wb.heap.size (.slice (some ⟨go,0,none⟩) N co) O1∧O1.length=N∧(∀ s,s<N→(O1.getD s 0).toNat=(syms (R.take i)).count s)∧ItL wq w.heap.size (.slice AR nR cR) R∧Ext w wq) (fun a _=>2*m-2-(intOf a).toNat)
            case atStart=>exact⟨0,O,by omega,rfl,HO2.out,hRl,fun s _=>by rw[HZ.out s];simp[syms],HIR.out,hEwd⟩
            case round =>
             obtain⟨i,O1,hi,rfl,hO1,hl1',hc1,hI1,hE5⟩:=hrel
             have HC1:=hide hc1
             clear hc1
             by_cases him:i<2*m-2
             ·have hiI:(i:Int)<2*(m:Int)-2:=by omega
              have hinR:i<nR:=by have:=HMM.out;omega
              have hinI:(i:Int)<(nR:Int):=by omega
              obtain⟨A1,c1,e,_,_,f1⟩:=hI1.form
              simp only[Value.slice.injEq]at e
              obtain⟨rfl,_,rfl⟩:=e
              have hit:=f1 i (by rw[← HNR.out];exact hinR)
              have HSy:=hide (HRb.out (R.getD i (0,[])) (uP (by rw[← HNR.out];exact hinR))).2.2
              have hLy:=(HRb.out (R.getD i (0,[])) (uP (by rw[← HNR.out];exact hinR))).2.1
              have HT:=hide (fun k s hs=>HTop.out i k s him hs)
              have HNx:=hide (VJ (l:=R) (i:=i) (by rw[← HNR.out];exact hinR))
              have hp16:2 ^ (L-1)≤16384:=Nat.le_trans (Nat.pow_le_pow_right (by omega) (show L-1≤14 by omega)) (by decide)
              have hLy2:=Nat.le_trans hLy hp16
              clear hLy hp16 f1
              generalize hIT:R.getD i (0,[])=it at *
              have HIT:=hide hIT
              clear hIT
              obtain⟨g,q,C,rfl,j1,j2,j3,_⟩:=hit.ex
              obtain⟨m1,hm1⟩:∃ n,n=it.2.length:=⟨_,rfl⟩
              rw[← hm1]at j2 j3 hLy2
              have HM1:=hide hm1
              clear hm1 hit
              go_wp2_with fail
              go_loopw [21] (fun x wq=>∃ (k:Nat) (O2:List UInt8),k≤m1∧x=.int .i64 (k:Int)∧OwnB wq wb.heap.size (.slice (some ⟨go,0,none⟩) N co) O2∧O2.length=N∧(∀ s,s<N→(O2.getD s 0).toNat=(syms (R.take i)++it.2.take k).count s)∧ItL wq w.heap.size (.slice (some ⟨g,0,none⟩) nR cR) R∧Ext w wq) (fun x _=>m1-(intOf x).toNat)
              case atStart=>exact⟨0,O1,by omega,rfl,hO1,hl1',fun s hs=>by rw[List.take_zero,List.append_nil];exact HC1.out s hs,hI1,hE5⟩
              case round =>
               clear hO1 hI1 hE5 j1 j2 j3
               obtain⟨k,O2,hk,rfl,hO2,hl2',hc2,hI2,hE6⟩:=hrel
               have HC2:=hide hc2
               clear hc2
               obtain⟨A2,c2,e,_,_,f2⟩:=hI2.form
               simp only[Value.slice.injEq]at e
               obtain⟨rfl,_,rfl⟩:=e
               have hit2:=f2 i (by rw[← HNR.out];exact hinR)
               rw[HIT.out]at hit2
               obtain⟨g',q',C',e,p1,p2,p3,_⟩:=hit2.ex
               simp only[Option.some.injEq,Addr.mk.injEq,and_true]at e
               subst e
               rw[← HM1.out]at p2 p3
               clear f2 hit2 p1
               by_cases hkm:k<m1
               ·have hkI:(k:Int)<(m1:Int):=by omega
                obtain⟨A3,c3,e,_,hints⟩:=p3.form
                have lmap:(it.2.map Int.ofNat).length=m1:=by rw[List.length_map];exact HM1.out.symm
                rw[lmap]at e hints
                simp only[Value.slice.injEq,true_and]at e
                obtain⟨rfl,rfl⟩:=e
                rcases hints.2 with h0 | ⟨b2,o2,rfl,hB2,hcc⟩
                ·omega
                have hcs:=hcc k hkm
                have hsv:(it.2.map Int.ofNat).getD k 0=((it.2.getD k 0:Nat):Int):=by
                 have hkl:k<it.2.length:=by rw[← HM1.out];exact hkm
                 simp[List.getD_eq_getElem?_getD,hkl]
                rw[hsv]at hcs
                have hsN:=HSy.out (it.2.getD k 0) (by
                 rw[List.getD_eq_getElem?_getD,List.getElem?_eq_getElem (by rw[← HM1.out];exact hkm)]
                 exact List.getElem_mem _)
                have HTk:=hide (take_next (L:=it.2) (k:=k) (by rw[← HM1.out];exact hkm))
                clear hsv hcc hints p3 lmap
                generalize it.2.getD k 0=s at *
                obtain⟨d1,d2⟩:=hO2.cell (i:=s) (by rw[hl2'];exact hsN)
                have hcnt:=HC2.out s hsN
                have hle:=HT.out k s hsN
                rw[← hcnt]at hle
                generalize hcv:(O2.getD s 0).toNat=cv at *
                have hsI:(s:Int)<(N:Int):=by omega
                have hu8:(UInt8.ofNat (cv+1)).toNat=cv+1:=by rw[UInt8.toNat_ofNat',Nat.mod_eq_of_lt (by omega)]
                have hO3:=hO2.set s (UInt8.ofNat (cv+1))
                rw[hu8]at hO3
                have hG3:=zk wr go s (.int .u8 ((cv+1:Nat):Int))
                have hI3:=hI2.byte hO2 hG3
                have hE7:Ext w (wr.setCell ⟨go,s,none⟩ (.int .u8 ((cv+1:Nat):Int))):=Below.grown hE6 hG3 hE6.le (fun k hk=>by cases hk;exact hgw)
                have HR3:=hide (show ∀ t,t<N→((O2.set s (UInt8.ofNat (cv+1))).getD t 0).toNat=(syms (R.take i)++it.2.take (k+1)).count t from fun t ht=>by
                 rw[HTk.out,← List.append_assoc,List.count_append,← HC2.out t ht,List.getD_eq_getElem?_getD,List.getElem?_set,List.count_singleton]
                 by_cases hst:s=t
                 ·subst hst
                  rw[if_pos rfl,if_pos (by rw[hl2'];exact ht),if_pos (by simp),hcv]
                  exact hu8
                 ·rw[if_neg hst,if_neg (by simpa using hst),← List.getD_eq_getElem?_getD]
                  rfl)
                have HX:=hide (And.intro hO3 (And.intro hI3 hE7))
                clear hO3 hI3 hE7 hG3 hu8 hcnt hcv
                have hcvI:(cv:Int)≤15:=by omega
                go_wp2_with fail
                go_roundw
                case rel=>exact⟨k+1,_,by omega,by go_num,HX.out.1,by rw[List.length_set];exact hl2',HR3.out,HX.out.2.1,HX.out.2.2⟩
                case measure=>simp[intOf];omega
               ·obtain rfl:m1=k:=by omega
                have HR4:=hide (show ∀ s,s<N→(O2.getD s 0).toNat=(syms (R.take (i+1))).count s from fun s hs=>by
                 rw[HNx.out,HC2.out s hs,show it.2.take m1=it.2 from List.take_of_length_le (by rw[HM1.out];exact Nat.le_refl _)])
                go_wp2
                go_roundw
                case rel=>exact⟨i+1,O2,by omega,by go_num,hO2,hl2',HR4.out,hI2,hE6⟩
                case measure=>simp[intOf];omega
             ·have hiI:¬ (i:Int)<2*(m:Int)-2:=by omega
              have hL:=HLen.out O1 (by rw[hN,hl1']) HLe.out (fun q hq=>by
               rw[HC1.out q (by rw[← hN];exact hq),HFin.out q,show i=2*m-2 by omega])
              have HL:=hide hL
              clear hL
              go_wp2
              go_ret2
              rw[HN.out]
              refine⟨_,rfl,?_,hE5⟩
              dsimp only
              rw[← HL.out]
              exact hO1.mono hE.le
end
end Go.Proofs.YtpmedpdjglcdpaaGreatDoor
