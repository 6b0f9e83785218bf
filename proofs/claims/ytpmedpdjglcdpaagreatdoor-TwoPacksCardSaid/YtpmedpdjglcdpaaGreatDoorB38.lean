/- Contract of the program's Lens: the document's lengths. -/
import Derived.Test.YtpmedpdjglcdpaaGreatDoorB02
import Derived.Test.YtpmedpdjglcdpaaGreatDoorB13
import Derived.Test.YtpmedpdjglcdpaaGreatDoorB33
import Derived.Test.YtpmedpdjglcdpaaGreatDoorB37
namespace Go.Proofs.YtpmedpdjglcdpaaGreatDoor
section
open Go.RowKit Len
namespace Len
section
variable {often:List Nat}{L:Nat}
theorem ZD {j:Nat}{x:PI}(h:x∈(zd often j).map pOf):∃ q,q<j∧x=(often.getD q 0,q):=by
 obtain⟨y,hy,rfl⟩:=List.mem_map.1 h
 obtain⟨q,hq,_,rfl⟩:=yZ hy
 exact⟨q,hq,rfl⟩
theorem adg {lv:List PI}{N:Nat}(h:∀ x∈lv,x.2<N):∀ r,∀ x∈zO lv r,x.2=300∨x.2<N
 | 0,x,hx=>.inr (h x (by simpa[zO] using hx))
 | r+1,x,hx=>by
  rw[zO]at hx
  rcases uB hx with e|e
  ·exact .inr (h x e)
  ·exact .inl (uC e).1
theorem abS (hN:often.length≤300)(hL1:1≤L)(hL15:L≤15)(h2:2≤(zd often often.length).length)(hn:(zd often often.length).length≤2 ^ L) :
  2*(zd often often.length).length-2≤(zO ((zd often often.length).map pOf) (L-1)).length∧(∀ r,(zO ((zd often often.length).map pOf) r).length≤1000) ∧
  (∀ r,∀ x∈zO ((zd often often.length).map pOf) r,x.2=300∨x.2<often.length) ∧
  (∀ r m,m≤(zO ((zd often often.length).map pOf) (r+1)).length→2*packs ((zO ((zd often often.length).map pOf) (r+1)).take m)≤(zO ((zd often often.length).map pOf) r).length) ∧
  (∀ q,q<often.length→XW ((zd often often.length).map pOf) q (L-1) (2*(zd often often.length).length-2)=xr often L q):=by
 have hS:=Jp (often:=often) (j:=often.length) hN
 have hl:∀ r,(zO ((zd often often.length).map pOf) r).length=(row (zd often often.length) r).length:=fun r=>by rw[← Ys hS.full,List.length_map]
 have he:2*(zd often often.length).length-2≤(row (zd often often.length) (L-1)).length:=by
  have:=jW (zd often often.length) (L-1) 2 (by
   have:2 ^ L=2*2 ^ (L-1):=by
    obtain⟨M,rfl⟩:∃ M,L=M+1:=⟨L-1,by omega⟩
    rw[Nat.pow_succ,Nat.mul_comm]
    rfl
   omega)
  omega
 have hul:=vB (often:=often) often.length
 refine⟨by rw[hl];exact he,fun r=>?_,fun r x hx=>?_,fun r m hm=>?_,fun q hq=>?_⟩
 ·have:=(UX ((zd often often.length).map pOf) r).1
  rw[List.length_map]at this
  omega
 ·exact adg (N:=often.length) (fun x hx=>by
   obtain⟨q,hq,rfl⟩:=ZD hx
   exact hq) r x hx
 ·rw[hl]at hm ⊢
  exact acr hS r m hm
 ·rw[aaB hS q (by omega) (L-1) _ he]
  unfold xr
  rw[if_neg (by omega)]
end
end Len
set_option maxHeartbeats 4000000 in
set_option maxRecDepth 100000 in
theorem abT {often:List Nat}{limit:Int}{A:Option Addr}{n c:Nat}{w:World}(hU:U32At w w.heap.size A n often)(hlo:-9223372036854775808≤limit)(hhi:limit≤9223372036854775807) :
  Calls Tryz.prog 169 #[.slice A n c,.int .i64 limit] w (Zq w (yV often limit)):=by
 have hn:=hU.1
 have hub:=hU.2.1
 subst hn
 have HBad:=hide (show (300<often.length∨limit<1∨15<limit)→yV often limit=([],13) from fun h=>if_pos h)
 by_cases h300:(300:Int)<(often.length:Int)
 ·have HN:=hide (HBad.out (.inl (by omega)))
  generalize yV often limit=res at *
  clear hU hub HBad
  go_enter Tryz.func169,Tryz.ntmps169
  go_wp2
  go_ret2
  rw[HN.out]
  exact⟨_,rfl,OwnB.nil _ _,Ext.refl _⟩
 by_cases hl1:limit<1
 ·have HN:=hide (HBad.out (.inr (.inl hl1)))
  generalize yV often limit=res at *
  clear hU hub HBad
  go_enter Tryz.func169,Tryz.ntmps169
  go_wp2
  go_ret2
  rw[HN.out]
  exact⟨_,rfl,OwnB.nil _ _,Ext.refl _⟩
 by_cases hl2:15<limit
 ·have HN:=hide (HBad.out (.inr (.inr hl2)))
  generalize yV often limit=res at *
  clear hU hub HBad
  go_enter Tryz.func169,Tryz.ntmps169
  go_wp2
  go_ret2
  rw[HN.out]
  exact⟨_,rfl,OwnB.nil _ _,Ext.refl _⟩
 clear HBad
 obtain⟨L,rfl⟩:∃ L:Nat,limit=(L:Int):=⟨limit.toNat,by omega⟩
 have hn300:often.length≤300:=by omega
 have hL1:1≤L:=by omega
 have hL15:L≤15:=by omega
 have HLim:=hide (show 2 ^ L<(zd often often.length).length→yV often (L:Int)=([],6) from fun h=>by
  unfold yV
  rw[if_neg (by omega),if_pos (by simpa using h)])
 have HOk:=hide (show (zd often often.length).length≤2 ^ L→yV often (L:Int)=(yr often L,0) from fun h=>by
  unfold yV
  rw[if_neg (by omega),if_neg (by simpa using h)]
  rfl)
 have C1:=US J8 (c:=c) hn300 hU
 have HUle:=hide (vB (often:=often) often.length)
 have hmap:((zd often often.length).map pOf).length=(zd often often.length).length:=List.length_map _
 have hpw:=acP L hL15
 have hp15:2 ^ L≤32768:=Nat.le_trans (Nat.pow_le_pow_right (by omega) hL15) (by decide)
 have HUb:=hide hub
 clear hub hU hlo hhi
 generalize hres:yV often (L:Int)=res at *
 clear hres
 obtain⟨N,hN⟩:∃ N,N=often.length:=⟨_,rfl⟩
 obtain⟨m,hm⟩:∃ m,m=(zd often often.length).length:=⟨_,rfl⟩
 obtain⟨pw,hpw2⟩:∃ p,p=2 ^ L:=⟨_,rfl⟩
 obtain⟨lv,hlv⟩:∃ lv,lv=(zd often often.length).map pOf:=⟨_,rfl⟩
 rw[← hpw2]at hpw hp15
 rw[← hlv]at C1 hmap
 rw[← hm]at hmap
 rw[← hN]at C1 hn300 h300 ⊢
 have HNn:=hide hN
 have HMm:=hide hm
 have HPw:=hide hpw2
 have HLv:=hide hlv
 have hm300:m≤300:=by have:=HUle.out;omega
 clear hN hm hpw2 hlv
 go_enter Tryz.func169,Tryz.ntmps169
 go_wp2_with fail
 refine C1.mono ?_
 rintro e w2 ⟨v,rfl,hO2,hE2⟩
 obtain⟨Av,cv,rfl,hmc,hcm,hP⟩:=hO2.form
 rw[hmap]at hmc hP hO2 ⊢
 have HMap:=hide hmap
 clear hmap
 by_cases hgt:pw<m
 ·have HN:=hide (HLim.out (by rw[← HPw.out,← HMm.out];exact hgt))
  have hgtI:(pw:Int)<(m:Int):=by omega
  clear hO2 hP
  go_wp2
  go_ret2
  rw[HN.out]
  exact⟨_,rfl,OwnB.nil _ _,hE2⟩
 have HN:=hide (HOk.out (by rw[← HPw.out,← HMm.out];omega))
 have hgtI:¬ (pw:Int)<(m:Int):=by omega
 have HPow:=hide (show (zd often often.length).length≤2 ^ L by rw[← HPw.out,← HMm.out];omega)
 have HLensOf:=hide (fun (O:List UInt8) (h0:O.length=often.length) h2=>aaJ (often:=often) (L:=L) (O:=O) h0 hL1 hL15 HPow.out h2)
 have hRl:(List.replicate N (0:UInt8)).length=often.length:=by simp[HNn.out]
 have hR0:∀ q,((List.replicate N (0:UInt8)).getD q 0).toNat=0:=fun q=>by
  rw[List.getD_eq_getElem?_getD,List.getElem?_replicate]
  split<;>rfl
 have HRl:=hide hRl
 have HR0:=hide hR0
 clear hRl hR0
 generalize hz:List.replicate N (0:UInt8)=Z at *
 have HZ:=hide hz
 clear hz
 by_cases hm0:m=0
 ·subst hm0
  clear hO2 hP
  go_wp2_with (refine xX (n:=N) rfl (.tmp 29) (.tmp 29) rfl rfl rfl (by omega) ?_;intro w3 hO3 hE3;rw[HZ.out]at hO3)
  go_ret2
  rw[HN.out]
  refine⟨_,rfl,?_,hE2.trans hE3⟩
  have hL:=HLensOf.out Z HRl.out (fun q hq=>by
   rw[HR0.out q]
   unfold xr
   rw[if_pos (by rw[← HMm.out];omega),List.eq_nil_of_length_eq_zero HMm.out.symm]
   rfl)
  dsimp only
  rw[← hL]
  exact hO3.mono hE2.le
 by_cases hm1:m=1
 ·subst hm1
  have hu:=x5 (often:=often) (j:=often.length) (i:=0) (by rw[← HMm.out];omega)
  have hg0:(lv.getD 0 (0,0)).2=sOf (zd often often.length) 0:=by
   rw[HLv.out]
   have h0:0<(zd often often.length).length:=by rw[← HMm.out];omega
   have e:=hu.2.2.2
   rw[List.getD_eq_getElem?_getD,List.getElem?_eq_getElem h0,Option.getD_some]at e
   rw[List.getD_eq_getElem?_getD,List.getElem?_map,List.getElem?_eq_getElem h0,Option.map_some,Option.getD_some,e]
   rfl
  have hcell:∃ b o,Av=some ⟨b,o,none⟩∧b<w2.heap.size∧w2.cell? ⟨b,o+1,none⟩=some (.int .i64 ((sOf (zd often often.length) 0:Nat):Int)):=by
   rcases hP.2 with h0 | ⟨b,o,e,hb,hc⟩
   ·omega
   ·have:=(hc 0 (by omega)).2
    rw[hg0]at this
    exact⟨b,o,e,hb,by simpa using this⟩
  obtain⟨b,o,rfl,hb,hc1⟩:=hcell
  have hsN:sOf (zd often often.length) 0<N:=by rw[HNn.out];exact hu.1
  have HOne:=hide (show ∀ q,xr often L q=if q=sOf (zd often often.length) 0 then 1 else 0 from fun q=>uQ HMm.out.symm q)
  clear hu hg0 hO2 hP
  generalize sOf (zd often often.length) 0=s0 at *
  have hsI:(s0:Int)<(N:Int):=by omega
  go_wp2_with (refine xX (n:=N) rfl (.tmp 29) (.tmp 29) rfl rfl rfl (by omega) ?_;intro w3 hO3 hE3;rw[HZ.out]at hO3;have hc3:=(hE3.cell (i:=o+1) hb).trans hc1;obtain⟨k1,k2⟩:=hO3.cell (i:=s0) (by rw[HRl.out,← HNn.out];exact hsN);have HO3:=hide hO3)
  go_ret2
  rw[HN.out]
  have hG:=zk w3 w2.heap.size s0 (.int .u8 1)
  have hL:=HLensOf.out (Z.set s0 1) (by rw[List.length_set,HRl.out]) (fun q hq=>by
   rw[HOne.out q]
   by_cases e:s0=q
   ·subst e
    rw[if_pos rfl,List.getD_eq_getElem?_getD,List.getElem?_set_self (by rw[HRl.out];exact hq)]
    rfl
   ·rw[if_neg (fun h=>e h.symm),List.getD_eq_getElem?_getD,List.getElem?_set_ne e,← List.getD_eq_getElem?_getD,HR0.out])
  refine⟨_,rfl,?_,Below.grown (hE2.trans hE3) hG (hE2.trans hE3).le (fun k hk=>by cases hk;exact hE2.le)⟩
  dsimp only
  rw[← hL]
  exact (HO3.out.set s0 1).mono hE2.le
 have hR:=abS (often:=often) (L:=L) (by rw[← HNn.out];exact hn300) hL1 hL15 (by rw[← HMm.out];omega) HPow.out
 rw[← HLv.out,← HMm.out,← HNn.out]at hR
 have hw32:∀ x∈lv,x.1<4294967296:=fun x hx=>by
  rw[HLv.out]at hx
  obtain⟨q,_,rfl⟩:=ZD hx
  exact HUb.out q
 have hs300:∀ x∈lv,x.2<300:=fun x hx=>by
  rw[HLv.out]at hx
  obtain⟨q,hq,rfl⟩:=ZD hx
  rw[HNn.out]at hn300
  exact Nat.lt_of_lt_of_le hq hn300
 have HSmall:=hide (show ∀ q,q<N→xr often L q<256 from fun q hq=>by
  have:=uk (often:=often) (L:=L) (q:=q) (by rw[← HNn.out];exact hq) hL1 hL15 HPow.out
  omega)
 have HR:=hide hR
 have HW:=hide hw32
 have HS:=hide hs300
 have HO2:=hide hO2
 have hm0I:((m:Int)==0)=false:=by rw[beq_eq_false_iff_ne];omega
 have hm1I:((m:Int)==1)=false:=by rw[beq_eq_false_iff_ne];omega
 clear hR hw32 hs300 hO2 hP
 go_wp2_with (refine xX (n:=N) rfl (.tmp 29) (.tmp 29) rfl rfl rfl (by omega) ?_;intro w3 hO3 hE3;rw[HZ.out]at hO3)
 have hE23:=hE2.trans hE3
 refine (aaj (lv:=lv) (A:=Av) (n:=m) (c:=cv) (L:=L) (base:=w.heap.size) HMap.out (by omega) hm300 hL1 hL15 (HO2.out.ext hE3) HW.out HS.out).mono ?_
 rintro e w4 ⟨v4,rfl,hR4,hE4⟩
 have hO4:=hO3.ext hE4
 obtain⟨r1,r2,r3,r4,r5⟩:=HR.out
 have C3:=UY (lv:=lv) (gl:=w2.heap.size) (cl:=N) (base:=w2.heap.size) (N:=N) (L:=L) (F:=2*m-2) (v:=v4) (O:=Z) (tot:=fun q=>xr often L q) hL1 hL15 hn300 hO4 (by rw[HRl.out,HNn.out]) hR4 r1 r2 r3 r4 (fun q hq=>by rw[HR0.out q,r5 q hq,Nat.zero_add]) HSmall.out
 rw[show ((2*m-2:Nat):Int)=2*(m:Int)-2 by omega]at C3
 have HR4:=hide hR4
 clear r1 r2 r3 r4 r5 hR4
 obtain⟨A4,c4,rfl,_,_,_⟩:=HR4.out.form
 rw[List.length_map,List.length_range]at C3 ⊢
 have HC3:=hide C3
 have hEa:=hE23.trans hE4
 have hb2:=hE2.le
 clear C3 C1
 go_wp2_with fail
 refine HC3.out.mono ?_
 rintro e w5 ⟨rfl,hG5,O5,hO5,hl5,h5⟩
 have H5:=hide h5
 have HL5:=hide hl5
 have HO5:=hide hO5
 have HG5:=hide hG5
 clear h5 hl5 hO5 hG5
 go_wp2
 go_ret2
 rw[HN.out]
 have hL:=HLensOf.out O5 (by rw[HL5.out,HNn.out]) (fun q hq=>H5.out q (by rw[HNn.out];exact hq))
 refine⟨_,rfl,?_,Below.grown hEa HG5.out hEa.le (fun k hk=>by cases hk;exact hb2)⟩
 dsimp only
 rw[← hL]
 exact HO5.out.mono hb2
theorem abU (w:World):aeg w:=fun _ _ _ _ _ _ _ _ _ hU hlo hhi=>abT hU hlo hhi
end
end Go.Proofs.YtpmedpdjglcdpaaGreatDoor
